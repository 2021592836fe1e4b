/- JOINED: DkRa, DkRb, DkRm, DkOwnL. -/
import Derived.Test.YtclieefpnbdbjaaGreatPome8
set_option maxHeartbeats 4000000
set_option maxRecDepth 100000
namespace Go.Proofs.YtclieefpnbdbjaaGreat.Gf
set_option linter.unusedVariables false
set_option linter.unusedSimpArgs false
open Go.RowKit
def CapOk(v:Value):Prop:=∀a n c,v= .slice a n c->n<=c/\(a=none->c=0)
theorem newsT{W:World}{b off:Nat}{T:List TH}(h:∀i,i<T.length->HeldAt W b (off+i*2) (T.getD i default)):∀j u,(cellsT T)[j]? =some u->W.cell? ((⟨b,off,none⟩:Addr).add j)=some u:=by
 intro j u hj;rw[add_at];have hl:j<T.length*2:=by
  rw[<-cellsT_length]
  by_cases hc:j<(cellsT T).length
  ·exact hc
  ·rw[List.getElem?_eq_none Zo]at hj;cases hj
 have hi:j/2<T.length:=Zo
 have h1:=h (j/2) hi;obtain⟨e0,e1⟩:=cellsT_at T hi
 by_cases hm:j%2=0
 ·have ej:j/2*2=j:=by omega
  rw[ej]at e0;rw[e0]at hj;have:=h1.c0;rw[ej]at this;rw[this];exact hj
 ·have ej:j/2*2+1=j:=by omega
  rw[ej]at e1;rw[e1]at hj;have:=h1.c1;rw[show off+j/2*2+1=off+j by omega]at this;rw[this];exact hj
theorem cellsT_one(T:List TH)(h:∀t∈T,t.2.2.oneCell'=true):∀u∈cellsT T,u.oneCell'=true:=by
 intro u hu;unfold cellsT at hu;rw[List.mem_flatMap]at hu;obtain⟨t,ht,hu⟩:=hu;simp at hu
 rcases hu with rfl|rfl
 ·rfl
 ·exact h t ht
theorem Rd.one{w:World}{v:Value}{p:List UInt8}(h:Rd w v p):v.oneCell'=true:=by
 obtain⟨a,c,rfl⟩:=h.form;rfl
theorem RdT.each{w:World}{v:Value}{T:List TH}(h:RdT w v T):∀t∈T,Rd w t.2.2 t.2.1:=by
 intro t ht
 rcases h with⟨a,c,rfl,_⟩|⟨b,off,c,h1,h2,h3,h4,h5⟩
 ·cases ht
 ·obtain⟨i,hi,e⟩:=List.getElem_of_mem ht;have h6:=(h5 i hi).rd;rw[show T.getD i default=T[i] by simp[List.getD,hi],e]at h6;exact h6
theorem run_append_T(w:World)(ty base:Nat){i:TypeInfo}(hi:Tryz.prog.info? 163=some i)(hz:i.zero=some (.agg #[.int .i64 0,.slice none 0 0]))(hsize:i.size=2)(hby:i.bytes=32)
  {v:Value} {n:Nat} {xs:List Value} (hown:w.ownsRow base 163 2 v n xs) {va:Value} {T:List TH} (hr:RdT w va T) (hc:CapOk va) (hl:n+T.length<=1000000) (hbase:base<=w.heap.size):
  ∃v' w',(Builtin.append_ #[102,102] ty #[v,va]).run Tryz.prog w= .ok v' w'/\w'.ownsRow base 163 2 v' (n+T.length) (xs++cellsT T)/\w.grownBy w' v.ownBlock/\(v'.ownBlock=v.ownBlock∨v'.ownBlock=some w.heap.size):=by
 have hee:=hr.each
 rcases hr with⟨a,c,rfl,rfl⟩|⟨b,off,c,h1,rfl,h3,h4,h5⟩
 ·rcases a with _|ad
  ·have:=(hc none 0 c rfl).2 rfl;subst this;exact⟨v,w,run_append_owned_none (P:=Tryz.prog) (w:=w) base 102 ty 163 i 2 Tryz.underlying102 hi v n xs hown,by simpa[cellsT]using hown,World.grownBy.refl _ _,Or.inl rfl⟩
  ·obtain⟨v',w',hr,h2,h3,_,h5⟩:=run_append_own_at (P:=Tryz.prog) w base 102 ty 163 i _ 2 32 Tryz.underlying102 hi hz hsize hby rfl Zd v n xs hown ad 0 c [] rfl (by intro j u hj;simp at hj) (by intro u hu;simp at hu) Zl Zo hbase;exact⟨v',w',hr,by simpa[cellsT]using h2,h3,h5⟩
 ·obtain⟨v',w',hr,h2,h3,_,h6⟩:=run_append_own_at (P:=Tryz.prog) w base 102 ty 163 i _ 2 32 Tryz.underlying102 hi hz hsize hby rfl Zd v n xs hown ⟨b,off,none⟩ T.length c (cellsT T) (cellsT_length T) (newsT h5) (cellsT_one T (fun t ht=>(hee t ht).one)) Zl Zo hbase;exact⟨v',w',hr,h2,h3,h6⟩
theorem rdT_row{w:World}{base:Nat}{v:Value}{T:List TH}(h:w.ownsRow base 163 2 v T.length (cellsT T))(he:∀t∈T,Rd w t.2.2 t.2.1)(hl:T.length<=100000):RdT w v T:=by
 by_cases h0:T=[]
 ·subst h0;obtain⟨a,c,e⟩:=owns_slice h;exact Or.inl ⟨a,c,rfl,e⟩
 ·obtain⟨_,⟨_,h1⟩|⟨g,cap,cur,hv,hg,hh,hc,hm,hs,ht⟩⟩:=h
  ·exact absurd (List.length_eq_zero_iff.1 h1) h0
  ·refine Or.inr ⟨g,0,cap,h0,hv,hl,(Array.getElem?_eq_some_iff.1 hh).1,fun i hi=>?_⟩;have ce:∀j,j<T.length*2->w.cell? ⟨g,j,none⟩=(cellsT T)[j]? :=by
    intro j hj;rw[<-ht,List.getElem?_take_of_lt hj];unfold World.cell?;rw[hh];simp
   obtain⟨e0,e1⟩:=cellsT_at T hi;refine⟨?_,?_,he _ (getD_mem12 hi)⟩
   ·rw[Nat.zero_add,ce _ Zo,e0]
   ·rw[Nat.zero_add,ce _ Zo,e1]
theorem cap_row{w:World}{base:Nat}{v:Value}{n:Nat}{xs:List Value}(h:w.ownsRow base 163 2 v n xs):CapOk v:=by
 intro a n' c e;obtain⟨_,⟨h1,_⟩|⟨g,cap,cur,hv,_,_,hle,_⟩⟩:=h
 ·rw[h1]at e;simp at e;obtain⟨rfl,rfl,rfl⟩:=e;exact⟨Zr,fun _=>rfl⟩
 ·rw[hv]at e;simp at e;obtain⟨rfl,rfl,rfl⟩:=e;exact⟨hle,fun h=>by cases h⟩
theorem step_append_T{w:World}{ops:Array Oper}{o:Oper}{a:Act}{K:Act->World->Prop}{Q:Exit->Act->World->Prop}{E:Prop}(hgd:o.guard=none)(s x:Operand)
  (ho:o.op= .call {callee:=.builtin .append,args:=#[s,x],argTypes:=#[102,102]})
  (base:Nat) {i:TypeInfo} (hi:Tryz.prog.info? 163=some i) (hz:i.zero=some (.agg #[.int .i64 0,.slice none 0 0])) (hsize:i.size=2) (hby:i.bytes=32)
  (v:Value) (n:Nat) (xs:List Value) (hs:a.eval s=v) (hown:w.ownsRow base 163 2 v n xs) (va:Value) (T:List TH) (hx:a.eval x=va) (hr:RdT w va T) (hc:CapOk va) (hl:n+T.length<=1000000) (hbase:base<=w.heap.size)
  (h:∀v' w',w'.ownsRow base 163 2 v' (n+T.length) (xs++cellsT T)->w.grownBy w' v.ownBlock->K (a.put o.dst v') w'):
  if Region.wanted o (yielded ops a.tmps)=true then Oper.wp Tryz.prog o a w K Q else E:=by
 have hw:Region.wanted o (yielded ops a.tmps)=true:=by simp[Region.wanted,hgd]
 rw[if_pos hw];obtain⟨v',w',hrun,h2,h3,_⟩:=run_append_T w o.type base hi hz hsize hby hown hr hc hl hbase;unfold Oper.wp execOp;simp only[ho,resolve,invoke,builtin,Sem.run_bind,Sem.run_pure,Result.andThen_ok,List.map_toArray,List.map_cons,List.map_nil,hs,hx,hrun];exact h v' w' h2 h3
theorem rdT_lit{w:World}{x:Int}{vb:Value}{p:List UInt8}(hp:Rd w vb p):RdT (w.alloc (.cells #[.int .i64 x,vb] 163)) (.slice (some ⟨w.heap.size,0,none⟩) 1 1) [(x,p,vb)]:=by
 refine Or.inr ⟨w.heap.size,0,1,Zs,rfl,Zs,Zs,fun i hi=>?_⟩
 have:i=0:=by simp at hi;exact hi
 subst this;exact⟨Zs,Zs,hp.below (belA _ _)⟩
theorem RdT.take{w:World}{b off c n:Nat}{T:List TH}(h:RdT w (.slice (some ⟨b,off,none⟩) T.length c) T){k c':Nat}(hk:k<=T.length)(hn:n=k):RdT w (.slice (some ⟨b,off,none⟩) n c') (T.take k):=by
 subst hn;have hl:(T.take n).length=n:=by rw[List.length_take];omega
 by_cases h0:n=0
 ·subst h0;exact Or.inl ⟨_,c',Zs,rfl⟩
 ·rcases h with⟨_,_,h1,_⟩|⟨b',off',c2,h1,h2,h3,h4,h5⟩
  ·rw[h1]at hk;simp at hk;omega
  ·simp at h2;obtain⟨⟨rfl,rfl⟩,_⟩:=h2;refine Or.inr ⟨b,off,c',fun e=>by rw[e]at hl;simp at hl;omega,by rw[hl],Zo,h4,fun i hi=>?_⟩;rw[hl]at hi;have e:(T.take n).getD i default=T.getD i default:=by simp[List.getD,List.getElem?_take_of_lt hi]
   rw[e];exact h5 i Zo
theorem RdT.drop{w:World}{b off c n:Nat}{T:List TH}(h:RdT w (.slice (some ⟨b,off,none⟩) T.length c) T){k c':Nat}(hk:k<=T.length)(hn:n=T.length-k):RdT w (.slice (some ⟨b,off+k*2,none⟩) n c') (T.drop k):=by
 subst hn
 by_cases h0:k=T.length
 ·subst h0;exact Or.inl ⟨some ⟨b,off+T.length*2,none⟩,c',Zs,by rw[Nat.sub_self]⟩
 rcases h with⟨_,_,h1,_⟩|⟨b',off',c2,h1,h2,h3,h4,h5⟩
 ·rw[h1]at hk h0;simp at hk;simp at h0;omega
 ·simp at h2;obtain⟨⟨rfl,rfl⟩,_⟩:=h2;refine Or.inr ⟨b,off+k*2,c',fun e=>by have:=congrArg List.length e;simp at this;omega,by rw[List.length_drop],by rw[List.length_drop];omega,h4,fun i hi=>?_⟩;rw[List.length_drop]at hi;have e:(T.drop k).getD i default=T.getD (k+i) default:=by simp[List.getD]
  rw[e,show off+k*2+i*2=off+(k+i)*2 by omega];exact h5 (k+i) Zo
theorem made_T(W:World){N:Nat}(h:N<=W.heap.size):(W.alloc (.cells #[] 163)).ownsRow N 163 2 (.slice (some ⟨W.heap.size,0,none⟩) 0 0) 0 []:=
 owns_low (World.ownsRow_made W #[] 0 Zr Zz rfl) h
theorem RdT.grown{w w':World}{v:Value}{T:List TH}{g:Nat}(h:RdT w v T)(hg:w.grownBy w' (some g))(ha:ApartG (fun k=>k=g) v)(he:∀t∈T,ApartG (fun k=>k=g) t.2.2):RdT w' v T:=
 (ToldT.grew (G:=fun k=>k=g) (G':=fun k=>k=g) ⟨h,ha,he⟩ ⟨⟨hg.os,hg.tape,hg.output,hg.size,fun k hk hn=>hg.block k hk (fun e=>hn (by cases e;rfl))⟩,fun k hk=>Or.inl hk⟩).rd
theorem apart_one{g b o n c:Nat}(h:b≠g):ApartG (fun k=>k=g) (.slice (some ⟨b,o,none⟩) n c):=fun x m c' e=>by
 simp at e;obtain⟨rfl,_⟩:=e;exact Or.inr (fun h2=>h h2)
theorem Rd.apartN{w:World}{v:Value}{p:List UInt8}(h:Rd w v p){g:Nat}(hg:w.heap.size<=g):ApartG (fun k=>k=g) v:=h.apartG (fun k hk=>by rw[hk];exact hg)
def WithT(w:World)(T':List TH)(e:Ending)(w':World):Prop:=∃v,e= .returned v/\w'.ownsRow w.heap.size 163 2 v T'.length (cellsT T')/\Below w.heap.size w w'
structure P12(W:World)(B:Nat)(x:Int)(p:List UInt8)(ba:Option Addr)(bc:Nat)(T:List TH)(VL:Value):Prop where
 kp:∀W',Below W.heap.size W W'->(W'.cell? ⟨B,0,none⟩=some (.int .i64 x)/\W'.cell? ⟨B,1,none⟩=some (.slice ba p.length bc))
 b0:Below W.heap.size W W.drew
 bH:Below W.heap.size W (W.alloc (.cells #[.int .i64 x,.slice ba p.length bc] 163)).drew
 bA1:Below W.heap.size W (W.alloc (.cells #[] 163)).drew
 bA2:Below W.heap.size W ((W.alloc (.cells #[] 163)).alloc (.cells #[.int .i64 x,.slice ba p.length bc] 163)).drew
 bA3:Below W.heap.size W ((W.alloc (.cells #[.int .i64 x,.slice ba p.length bc] 163)).alloc (.cells #[] 163)).drew
 oA1:(W.alloc (.cells #[] 163)).drew.ownsRow W.heap.size 163 2 (.slice (some ⟨W.heap.size,0,none⟩) 0 0) 0 []
 oA2:((W.alloc (.cells #[] 163)).alloc (.cells #[.int .i64 x,.slice ba p.length bc] 163)).drew.ownsRow W.heap.size 163 2 (.slice (some ⟨W.heap.size,0,none⟩) 0 0) 0 []
 oA3:((W.alloc (.cells #[.int .i64 x,.slice ba p.length bc] 163)).alloc (.cells #[] 163)).drew.ownsRow W.heap.size 163 2 (.slice (some ⟨W.heap.size+1,0,none⟩) 0 0) 0 []
 rA1:RdT (W.alloc (.cells #[] 163)).drew VL T
 rA2:RdT ((W.alloc (.cells #[] 163)).alloc (.cells #[.int .i64 x,.slice ba p.length bc] 163)).drew VL T
 rA3:RdT ((W.alloc (.cells #[.int .i64 x,.slice ba p.length bc] 163)).alloc (.cells #[] 163)).drew VL T
 lA2:RdT ((W.alloc (.cells #[] 163)).alloc (.cells #[.int .i64 x,.slice ba p.length bc] 163)).drew (.slice (some ⟨W.heap.size+1,0,none⟩) 1 1) [(x,p,.slice ba p.length bc)]
 lA3:RdT ((W.alloc (.cells #[.int .i64 x,.slice ba p.length bc] 163)).alloc (.cells #[] 163)).drew (.slice (some ⟨W.heap.size,0,none⟩) 1 1) [(x,p,.slice ba p.length bc)]
 capH:∀n:Nat,CapOk (.slice (some ⟨n,0,none⟩) 1 1)
 aH2:∀t∈[(x,p,Value.slice ba p.length bc)],ApartG (fun k=>k=W.heap.size) t.2.2
 aH3:∀t∈[(x,p,Value.slice ba p.length bc)],ApartG (fun k=>k=W.heap.size+1) t.2.2
theorem pre12{W:World}{B:Nat}{x:Int}{p:List UInt8}{ba:Option Addr}{bc:Nat}{T:List TH}{VL:Value}(hLq:RdT W VL T)(hp2:Rd W (.slice ba p.length bc) p)(y0':W.cell? ⟨B,0,none⟩=some (.int .i64 x))(y1':W.cell? ⟨B,1,none⟩=some (.slice ba p.length bc)):P12 W B x p ba bc T VL:=by
 have hBW:B<W.heap.size:=by
  have e:=y0';unfold World.cell? at e
  by_cases hb:B<W.heap.size
  ·exact hb
  ·rw[Array.getElem?_eq_none (by show W.heap.size<=B;omega)]at e;cases e
 have bA1:Below W.heap.size W (W.alloc (.cells #[] 163)).drew:=(Zf.alloc Zr _).drew;have bA2:Below W.heap.size W ((W.alloc (.cells #[] 163)).alloc (.cells #[.int .i64 x,.slice ba p.length bc] 163)).drew:=((Zf.alloc Zr _).alloc Zs _).drew;have bA3:Below W.heap.size W ((W.alloc (.cells #[.int .i64 x,.slice ba p.length bc] 163)).alloc (.cells #[] 163)).drew:=((Zf.alloc Zr _).alloc Zs _).drew;refine⟨fun W' h=>⟨(h.cell (p:=⟨B,0,none⟩) hBW).trans y0',(h.cell (p:=⟨B,1,none⟩) hBW).trans y1'⟩,Zf.drew,(Zf.alloc Zr _).drew,bA1,bA2,bA3,World.ownsRow.drew (made_T W Zr),World.ownsRow.drew (World.ownsRow.alloc (made_T W Zr) _),?_,hLq.below bA1,hLq.below bA2,hLq.below bA3,?_,((rdT_lit (x:=x) hp2).below (belA _ _)).below (Zf.drew),fun n a m c e=>by simp at e;obtain⟨rfl,rfl,rfl⟩:=e;exact⟨Zo,fun h=>by cases h⟩,?_,?_⟩
 ·have:=World.ownsRow.drew (made_T (W.alloc (.cells #[.int .i64 x,.slice ba p.length bc] 163)) (N:=W.heap.size) Zs);simpa using this
 ·have:=(rdT_lit (x:=x) (hp2.below (belA W (.cells #[] 163)))).below (Zf.drew);simpa using this
 ·intro t ht;simp at ht;subst ht;exact hp2.apartN Zr
 ·intro t ht;simp at ht;subst ht;exact hp2.apartN Zo
theorem fin12{w W w9:World}{v9:Value}{L R:List TH}{t:TH}(hC:Below w.heap.size w W)(C9:Below W.heap.size W w9)(h9:w9.ownsRow W.heap.size 163 2 v9 (0+L.length+[t].length+R.length) ([]++cellsT L++cellsT [t]++cellsT R)):Hid (w9.ownsRow w.heap.size 163 2 v9 (L++t::R).length (cellsT (L++t::R))/\Below w.heap.size w w9):=by
 refine⟨?_,hC.step12 C9 hC.size⟩;have h10:=owns_low h9 hC.size;rw[show 0+L.length+[t].length+R.length=(L++t::R).length by simp<;>omega,show[]++cellsT L++cellsT [t]++cellsT R=cellsT (L++t::R) by simp[cellsT]]at h10;exact h10
theorem z9_2{p:Prop} (h:p:=by
 have FIN:=fin12 hC C9 h9;clear h9 g9 C9;go_wp2;go_ret;exact⟨_,rfl,FIN.out⟩
 ):p:=h
theorem z9_1{p:Prop} (h:p:=by
 have P:=pre12 hLq hp2 y0' y1';clear y0' y1'
 go_region_held3 (fun wx=>wx.cell? ⟨B,0,none⟩=some (.int .i64 x)/\wx.cell? ⟨B,1,none⟩=some (.slice ba p.length bc)) (first|exact P.kp _ Zf|exact P.kp _ P.b0|exact P.kp _ P.bA1|exact P.kp _ P.bH|exact P.kp _ P.bA2|exact P.kp _ P.bA3|exact P.kp _ C9|exact P.kp _ C7|exact P.kp _ C4|exact P.kp _ C5) (first
  |(refine step_append_T rfl (.tmp 40) (.tmp 43) rfl W.heap.size hi hz0 hz1 hz2 (.slice (some ⟨W.heap.size,0,none⟩) 0 0) 0 [] rfl P.oA1 _ _ rfl P.rA1 capL Zn P.bA1.size ?_;intro v4 w4 h4 g4;have C4:=P.bA1.grown g4 P.bA1.size (fun q hq=>by cases hq;first|exact Zr|exact Nat.le_succ _);have P4:=hp2.below C4;have C5:=C4.alloc C4.size (.cells #[.int .i64 x,.slice ba p.length bc] 163);have h5:=World.ownsRow.alloc h4 (.cells #[.int .i64 x,.slice ba p.length bc] 163);have l5:=rdT_lit (x:=x) P4)
  |(refine step_append_T rfl (.tmp 40) (.tmp 43) rfl W.heap.size hi hz0 hz1 hz2 (.slice (some ⟨W.heap.size,0,none⟩) 0 0) 0 [] rfl P.oA2 _ _ rfl P.rA2 capL Zn P.bA2.size ?_;intro v4 w4 h4 g4;have C4:=P.bA2.grown g4 P.bA2.size (fun q hq=>by cases hq;first|exact Zr|exact Nat.le_succ _);have h5:=h4;have C5:=C4;have l5:=RdT.grown (g:=W.heap.size) P.lA2 g4 (apart_one Zo) P.aH2)
  |(refine step_append_T rfl (.tmp 40) (.tmp 43) rfl W.heap.size hi hz0 hz1 hz2 (.slice (some ⟨W.heap.size+1,0,none⟩) 0 0) 0 [] rfl P.oA3 _ _ rfl P.rA3 capL Zn P.bA3.size ?_;intro v4 w4 h4 g4;have C4:=P.bA3.grown g4 P.bA3.size (fun q hq=>by cases hq;first|exact Zr|exact Nat.le_succ _);have h5:=h4;have C5:=C4;have l5:=RdT.grown (g:=W.heap.size+1) P.lA3 g4 (apart_one Zo) P.aH3)
  |(refine step_append_T rfl (.tmp 44) (.tmp 46) rfl W.heap.size hi hz0 hz1 hz2 v4 _ _ rfl h5 _ [(x,p,.slice ba p.length bc)] rfl l5 (P.capH _) Zn C5.size ?_;intro v7 w7 h7 g7;have C7:=C5.grown g7 C5.size (fun q hq=>(row_at h4 hq).1);have r7:=hRq.below C7)
  |(refine step_append_T rfl (.tmp 47) (.tmp 48) rfl W.heap.size hi hz0 hz1 hz2 v7 _ _ rfl h7 _ _ rfl r7 capR Zn C7.size ?_;intro v9 w9 h9 g9;have C9:=C7.grown g9 C7.size (fun q hq=>(row_at h7 hq).1)))
 ·exact z9_2
 ·exact z9_2
 ·exact z9_2
 ):p:=h
theorem z9_3{p:Prop} (h:p:=by
 clear hW c0 c1 r1 hTr hTq y0 y1 hd hT1 z1 zl zl2 zl3 zl4 zl5 hpr hp1 ht;exact z9_1
 ):p:=h
theorem with_any{w:World}{v:Value}{T:List TH}(hT:RdT w v T)(hc:CapOk v){x:Int}{p:List UInt8}{vb:Value}(hp:Rd w vb p)(hl:T.length<=5000)(k0 k1:Nat)(hk0:k0<=T.length)(hlo:∀j,j<k0->(T.getD j default).1<x)
  (hhi:(k0=T.length/\k1=k0)∨(k0<T.length/\(T.getD k0 default).1=x/\k1=k0+1)∨(k0<T.length/\x<(T.getD k0 default).1/\k1=k0)):
  Calls Tryz.prog 171 #[v,.agg #[.int .i64 x,vb]] w (WithT w (T.take k0++(x,p,vb)::T.drop k1)):=by
 obtain⟨aa,ca,rfl⟩:=hT.form;obtain⟨ba,bc,rfl⟩:=hp.form;have CA:T.length<=ca:=(hc _ _ _ rfl).1;obtain⟨i0,hi,hz0,hz1,hz2⟩:=info_parts2 info_held;obtain⟨w1,hw1⟩:∃w1,w1=w.alloc (.cells #[.int .i64 x,.slice ba p.length bc] 163):=⟨_,rfl⟩;have C1:Below w.heap.size w w1:=by rw[hw1];exact belA _ _
 have x0:w1.cell? ⟨w.heap.size,0,none⟩=some (.int .i64 x):=by rw[hw1,World.cell?_alloc_new];rfl
 have x1:w1.cell? ⟨w.heap.size,1,none⟩=some (.slice ba p.length bc):=by rw[hw1,World.cell?_alloc_new];rfl
 have hT1:=hT.below C1;have hp1:=hp.below C1;have hlo':Hid (∀j,j<k0->(T.getD j default).1<x):=hlo;have hhi':Hid ((k0=T.length/\k1=k0)∨(k0<T.length/\(T.getD k0 default).1=x/\k1=k0+1)∨(k0<T.length/\x<(T.getD k0 default).1/\k1=k0)):=hhi;obtain⟨B,hB⟩:∃B,Hid (B=w.heap.size):=⟨_,rfl⟩
 go_enter Tryz.func171,Tryz.ntmps171
 go_wp2;rw[<-hw1];rw[<-hB.out]at x0 x1 ⊢;clear hw1 hT hp hlo hhi
 go_loopw [5] (fun i wr=>∃k:Nat,k<=k0/\i= .int .i64 (k:Int)/\∃m,Hid (wr=w1.drewN m)) (fun i _=>T.length-(intOf i).toNat)
 case atStart=>exact⟨0,Zz,rfl,0,rfl⟩
 case round=>
  obtain⟨k,hk,rfl,m,hd⟩:=hrel;have hTr:RdT wr (.slice aa T.length ca) T:=by rw[hd.out];exact hT1.drewN _
  have hpr:Rd wr (.slice ba p.length bc) p:=by rw[hd.out];exact hp1.drewN _
  have y0:wr.cell? ⟨B,0,none⟩=some (.int .i64 x):=by rw[hd.out];exact x0
  have y1:wr.cell? ⟨B,1,none⟩=some (.slice ba p.length bc):=by rw[hd.out];exact x1
  clear x0 x1
  by_cases hlt:k<k0
  ·have hlT:k<T.length:=by omega
   have hlt':(k:Int)<(T.length:Int):=Zo
   have g1:IntKind.i64.wrap ((k:Int)+1)=((k+1:Nat):Int):=Zw
   obtain⟨b,off,rfl,c0,c1,r1⟩:=hTr.at hlT;have hx:=hlo'.out k hlt;obtain⟨t,ht⟩:∃t,t=T.getD k default:=⟨_,rfl⟩;rw[<-ht]at c0 c1 r1 hx;obtain⟨t1,t2,t3⟩:=t;simp only at c0 c1 r1 hx;clear ht hTr r1 hT1 hpr hp1;go_wp2
   go_quiet (fail)
   go_wp2;go_roundw
   case rel=>exact⟨k+1,Zo,Zg,_,by show _=_;rw[hd.out,World.drewN_drewN]⟩
   case measure=>simp[intOf];omega
  ·have ek:k=k0:=by omega
   subst ek;clear hlo' hlt
   rcases hhi'.out with⟨e1,e2⟩|⟨e1,e3,e2⟩|⟨e1,e3,e2⟩
   ·subst k1;clear hhi';subst e1;have hge:¬(T.length:Int)<(T.length:Int):=by omega
    rcases aa with _|ad
    ·have hca:=(hc _ _ _ rfl).2 rfl;subst hca;obtain rfl:T=[]:=List.length_eq_zero_iff.1 Zo;go_wp2
     go_quiet (fail)
     obtain⟨n1,hn1⟩:∃n1,n1=nq:=⟨nq,rfl⟩;subst hn1;go_wp2
     go_quiet (fail)
     go_wp2;have hTq:=(hTr.drewN n1).drewN nq;have hp2:=(hpr.drewN n1).drewN nq;have hC:Below w.heap.size w ((wr.drewN n1).drewN nq):=by rw[hd.out];exact((C1.drewN _).drewN _).drewN _
     obtain⟨W,hW⟩:∃W,W=(wr.drewN n1).drewN nq:=⟨_,rfl⟩;have y0':W.cell? ⟨B,0,none⟩=some (.int .i64 x):=by rw[hW];exact y0
     have y1':W.cell? ⟨B,1,none⟩=some (.slice ba p.length bc):=by rw[hW];exact y1
     rw[<-hW]at hTq hp2 hC ⊢;have hLq:RdT W (.slice none 0 0) (([]:List TH).take ([]:List TH).length):=Or.inl ⟨none,0,rfl,rfl⟩;have hRq:RdT W (.slice none 0 0) (([]:List TH).drop ([]:List TH).length):=Or.inl ⟨none,0,rfl,rfl⟩;have capL:CapOk (.slice none 0 0):=fun a n c e=>by simp at e;obtain⟨rfl,rfl,rfl⟩:=e;exact⟨Zo,fun h=>rfl⟩
     have capR:=capL;clear hW hTr hTq y0 y1 hd hT1 hpr hp1;exact z9_1
    ·by_cases hc0:ca=T.length
     ·have hc1:ca=T.length:=hc0;subst hc1;go_wp2
      go_quiet (fail)
      obtain⟨n1,hn1⟩:∃n1,n1=nq:=⟨nq,rfl⟩;subst hn1;go_wp2
      go_quiet (fail)
      go_wp2;have hTq:=(hTr.drewN n1).drewN nq;have hp2:=(hpr.drewN n1).drewN nq;have hC:Below w.heap.size w ((wr.drewN n1).drewN nq):=by rw[hd.out];exact((C1.drewN _).drewN _).drewN _
      obtain⟨W,hW⟩:∃W,W=(wr.drewN n1).drewN nq:=⟨_,rfl⟩;have y0':W.cell? ⟨B,0,none⟩=some (.int .i64 x):=by rw[hW];exact y0
      have y1':W.cell? ⟨B,1,none⟩=some (.slice ba p.length bc):=by rw[hW];exact y1
      rw[<-hW]at hTq hp2 hC ⊢;have hLq:RdT W (.slice (some ad) T.length T.length) (T.take T.length):=by rw[List.take_length];exact hTq
      have hRq:RdT W (.slice (some ad) 0 0) (T.drop T.length):=Or.inl ⟨_,_,Zs,rfl⟩;have capL:CapOk (.slice (some ad) T.length T.length):=fun a n c e=>by simp at e;obtain⟨rfl,rfl,rfl⟩:=e;exact⟨Zo,fun h=>by cases h⟩
      have capR:CapOk (.slice (some ad) 0 0):=fun a n c e=>by simp at e;obtain⟨rfl,rfl,rfl⟩:=e;exact⟨Zo,fun h=>by cases h⟩
      clear hW hTr hTq y0 y1 hd hT1 hpr hp1;exact z9_1
     ·have hc1:¬ca=T.length:=hc0;go_wp2
      go_quiet (fail)
      obtain⟨n1,hn1⟩:∃n1,n1=nq:=⟨nq,rfl⟩;subst hn1;go_wp2
      go_quiet (fail)
      go_wp2;have hTq:=(hTr.drewN n1).drewN nq;have hp2:=(hpr.drewN n1).drewN nq;have hC:Below w.heap.size w ((wr.drewN n1).drewN nq):=by rw[hd.out];exact((C1.drewN _).drewN _).drewN _
      obtain⟨W,hW⟩:∃W,W=(wr.drewN n1).drewN nq:=⟨_,rfl⟩;have y0':W.cell? ⟨B,0,none⟩=some (.int .i64 x):=by rw[hW];exact y0
      have y1':W.cell? ⟨B,1,none⟩=some (.slice ba p.length bc):=by rw[hW];exact y1
      rw[<-hW]at hTq hp2 hC ⊢;have hLq:RdT W (.slice (some ad) T.length ca) (T.take T.length):=by rw[List.take_length];exact hTq
      have hRq:RdT W (.slice (some (ad.add (T.length*2))) 0 (ca-T.length)) (T.drop T.length):=Or.inl ⟨_,_,Zs,rfl⟩;have capL:CapOk (.slice (some ad) T.length ca):=fun a n c e=>by simp at e;obtain⟨rfl,rfl,rfl⟩:=e;exact⟨Zo,fun h=>by cases h⟩
      have capR:CapOk (.slice (some (ad.add (T.length*2))) 0 (ca-T.length)):=fun a n c e=>by simp at e;obtain⟨rfl,rfl,rfl⟩:=e;exact⟨Zo,fun h=>by cases h⟩
      clear hW hTr hTq y0 y1 hd hT1 hpr hp1;exact z9_1
   ·subst k1
    by_cases hc0:ca-k=1
    ·clear hhi';have hlt':(k:Int)<(T.length:Int):=by omega
     obtain⟨b,off,rfl,c0,c1,r1⟩:=hTr.at e1;obtain⟨t,ht⟩:∃t,t=T.getD k default:=⟨_,rfl⟩;rw[<-ht]at c0 c1 r1 e3;obtain⟨t1,t2,t3⟩:=t;simp only at c0 c1 r1 e3;have hc1:ca-k=1:=hc0;have hx:¬t1<x:=Zo
     have z1:(t1==x)=true:=beq_iff_eq.2 e3;have zl:decide (0<T.length-k)=true:=Zy Zo;have zl2:(1:Int)<=((T.length-k:Nat):Int):=Zo
     have zl3:1<=T.length-k:=Zo
     have zl4:(1:Int)<=((ca-k:Nat):Int):=Zo
     have zl5:1<=ca-k:=Zo
     go_wp2
     go_quiet (fail)
     obtain⟨n1,hn1⟩:∃n1,n1=nq:=⟨nq,rfl⟩;subst hn1;go_wp2
     go_quiet (fail)
     go_wp2;have hTq:=hTr.drewN (n1+nq);have hp2:=hpr.drewN (n1+nq);have hC:Below w.heap.size w (wr.drewN (n1+nq)):=by rw[hd.out];exact(C1.drewN _).drewN _
     obtain⟨W,hW⟩:∃W,W=wr.drewN (n1+nq):=⟨_,rfl⟩;have y0':W.cell? ⟨B,0,none⟩=some (.int .i64 x):=by rw[hW];exact y0
     have y1':W.cell? ⟨B,1,none⟩=some (.slice ba p.length bc):=by rw[hW];exact y1
     rw[<-hW]at hTq hp2 hC ⊢;have hLq:=hTq.take (k:=k) (n:=k) (c':=ca) Zo rfl;have i1:(0:Int)<=(k:Int):=Zo
     have i2:(k:Int)<=(ca:Int):=Zo
     have i3:(k:Int)<=(T.length:Int):=Zo
     have i4:k<=ca:=Zo
     have capL:CapOk (.slice (some ⟨b,off,none⟩) k ca):=fun a n c e=>by simp at e;obtain⟨rfl,rfl,rfl⟩:=e;exact⟨Zo,fun h=>by cases h⟩
     have hRq:RdT W (.slice (some ⟨b,off+k*2,none⟩) (T.length-k-1) 0) (T.drop (k+1)):=Or.inl ⟨some ⟨b,off+k*2,none⟩,0,by rw[List.drop_eq_nil_iff];omega,by rw[show T.length-k-1=0 by omega]⟩;have capR:CapOk (.slice (some ⟨b,off+k*2,none⟩) (T.length-k-1) 0):=fun a n c e=>by simp at e;obtain⟨rfl,rfl,rfl⟩:=e;exact⟨Zo,fun h=>by cases h⟩
     exact z9_3
    ·clear hhi';have hlt':(k:Int)<(T.length:Int):=by omega
     obtain⟨b,off,rfl,c0,c1,r1⟩:=hTr.at e1;obtain⟨t,ht⟩:∃t,t=T.getD k default:=⟨_,rfl⟩;rw[<-ht]at c0 c1 r1 e3;obtain⟨t1,t2,t3⟩:=t;simp only at c0 c1 r1 e3;have hc1:¬ca-k=1:=hc0;have hx:¬t1<x:=Zo
     have z1:(t1==x)=true:=beq_iff_eq.2 e3;have zl:decide (0<T.length-k)=true:=Zy Zo;have zl2:(1:Int)<=((T.length-k:Nat):Int):=Zo
     have zl3:1<=T.length-k:=Zo
     have zl4:(1:Int)<=((ca-k:Nat):Int):=Zo
     have zl5:1<=ca-k:=Zo
     go_wp2
     go_quiet (fail)
     obtain⟨n1,hn1⟩:∃n1,n1=nq:=⟨nq,rfl⟩;subst hn1;go_wp2
     go_quiet (fail)
     go_wp2;have hTq:=hTr.drewN (n1+nq);have hp2:=hpr.drewN (n1+nq);have hC:Below w.heap.size w (wr.drewN (n1+nq)):=by rw[hd.out];exact(C1.drewN _).drewN _
     obtain⟨W,hW⟩:∃W,W=wr.drewN (n1+nq):=⟨_,rfl⟩;have y0':W.cell? ⟨B,0,none⟩=some (.int .i64 x):=by rw[hW];exact y0
     have y1':W.cell? ⟨B,1,none⟩=some (.slice ba p.length bc):=by rw[hW];exact y1
     rw[<-hW]at hTq hp2 hC ⊢;have hLq:=hTq.take (k:=k) (n:=k) (c':=ca) Zo rfl;have i1:(0:Int)<=(k:Int):=Zo
     have i2:(k:Int)<=(ca:Int):=Zo
     have i3:(k:Int)<=(T.length:Int):=Zo
     have i4:k<=ca:=Zo
     have capL:CapOk (.slice (some ⟨b,off,none⟩) k ca):=fun a n c e=>by simp at e;obtain⟨rfl,rfl,rfl⟩:=e;exact⟨Zo,fun h=>by cases h⟩
     have hRq:RdT W (.slice (some ⟨b,off+k*2+2,none⟩) (T.length-k-1) (ca-k-1)) (T.drop (k+1)):=by
      have h1:=hTq.drop (k:=k+1) (n:=T.length-k-1) (c':=ca-k-1) Zo Zo;rw[show off+(k+1)*2=off+k*2+2 by omega]at h1;exact h1
     have capR:CapOk (.slice (some ⟨b,off+k*2+2,none⟩) (T.length-k-1) (ca-k-1)):=fun a n c e=>by simp at e;obtain⟨rfl,rfl,rfl⟩:=e;exact⟨Zo,fun h=>by cases h⟩
     exact z9_3
   ·subst k1;clear hhi';have hlt':(k:Int)<(T.length:Int):=by omega
    obtain⟨b,off,rfl,c0,c1,r1⟩:=hTr.at e1;obtain⟨t,ht⟩:∃t,t=T.getD k default:=⟨_,rfl⟩;rw[<-ht]at c0 c1 r1 e3;obtain⟨t1,t2,t3⟩:=t;simp only at c0 c1 r1 e3;have hx:¬t1<x:=Zo
    have z1:(t1==x)=false:=Zq.2 Zo;have zl:decide (0<T.length-k)=true:=Zy Zo;have zl2:(1:Int)<=((T.length-k:Nat):Int):=Zo
    have zl3:1<=T.length-k:=Zo
    have zl4:(1:Int)<=((ca-k:Nat):Int):=Zo
    have zl5:1<=ca-k:=Zo
    go_wp2
    go_quiet (fail)
    obtain⟨n1,hn1⟩:∃n1,n1=nq:=⟨nq,rfl⟩;subst hn1;go_wp2
    go_quiet (fail)
    go_wp2;have hTq:=(hTr.drewN n1).drewN nq;have hp2:=(hpr.drewN n1).drewN nq;have hC:Below w.heap.size w ((wr.drewN n1).drewN nq):=by rw[hd.out];exact((C1.drewN _).drewN _).drewN _
    obtain⟨W,hW⟩:∃W,W=(wr.drewN n1).drewN nq:=⟨_,rfl⟩;have y0':W.cell? ⟨B,0,none⟩=some (.int .i64 x):=by rw[hW];exact y0
    have y1':W.cell? ⟨B,1,none⟩=some (.slice ba p.length bc):=by rw[hW];exact y1
    rw[<-hW]at hTq hp2 hC ⊢;have hLq:=hTq.take (k:=k) (n:=k) (c':=ca) Zo rfl;have i1:(0:Int)<=(k:Int):=Zo
    have i2:(k:Int)<=(ca:Int):=Zo
    have i3:(k:Int)<=(T.length:Int):=Zo
    have i4:k<=ca:=Zo
    have capL:CapOk (.slice (some ⟨b,off,none⟩) k ca):=fun a n c e=>by simp at e;obtain⟨rfl,rfl,rfl⟩:=e;exact⟨Zo,fun h=>by cases h⟩
    have hRq:=hTq.drop (k:=k) (n:=T.length-k) (c':=ca-k) Zo rfl;have capR:CapOk (.slice (some ⟨b,off+k*2,none⟩) (T.length-k) (ca-k)):=fun a n c e=>by simp at e;obtain⟨rfl,rfl,rfl⟩:=e;exact⟨Zo,fun h=>by cases h⟩
    exact z9_3
abbrev Sorted12(L:List (Int×List UInt8)):Prop:=L.Pairwise fun a b=>a.1<b.1
theorem heldL_sorted(f:Int->Option (List UInt8))(s:Nat):Sorted12 (heldL f s):=by
 induction s with
 |zero=>exact List.Pairwise.nil
 |succ s ih=>
  rw[heldL_succ];refine List.pairwise_append.2 ⟨ih,?_,fun a ha b hb=>?_⟩
  ·cases f (s:Int)<;>simp
  ·have h1:=(heldL_mem (x:=a.1) (b:=a.2)).1 ha;cases hf:f (s:Int)with
   |none=>rw[hf]at hb;cases hb
   |some q=>
    rw[hf]at hb;simp at hb;subst hb;exact h1.2.1
theorem sorted_ext{L M:List (Int×List UInt8)}(hL:Sorted12 L)(hM:Sorted12 M)(h:∀z,z∈L↔z∈M):L=M:=by
 refine List.Perm.eq_of_pairwise (le:=fun a b=>a.1<b.1) (fun a b _ _ h1 h2=>Zo) hL hM ?_
 refine(List.perm_ext_iff_of_nodup (hL.imp fun h e=>?_) (hM.imp fun h e=>?_)).2 h
 ·rw[e]at h;omega
 ·rw[e]at h;omega
theorem place_of(T:List TH)(x:Int):∃k0,k0<=T.length/\(∀j,j<k0->(T.getD j default).1<x)/\(k0=T.length∨(k0<T.length/\x<=(T.getD k0 default).1)):=by
 induction T with
 |nil=>exact⟨0,Zr,fun j hj=>Zo,Or.inl rfl⟩
 |cons t T ih=>
  by_cases h:t.1<x
  ·obtain⟨k,h1,h2,h3⟩:=ih;refine⟨k+1,by simpa using h1,fun j hj=>?_,?_⟩
   ·cases j with
    |zero=>exact h
    |succ j=>exact h2 j Zo
   ·rcases h3 with h3|⟨h3,h4⟩
    ·exact Or.inl (by simp[h3])
    ·exact Or.inr ⟨by simpa using h3,h4⟩
  ·exact⟨0,Zz,fun j hj=>Zo,Or.inr ⟨Zs,by show x<=t.1;omega⟩⟩
theorem bare_at{T:List TH}{i:Nat}(h:i<(bareT T).length):(bareT T)[i]=((T.getD i default).1,(T.getD i default).2.1):=by
 have h':i<T.length:=by rw[bareT_length]at h;exact h
 simp[bareT,List.getD,h']
theorem with_place{f:Int->Option (List UInt8)}{s:Nat}{T:List TH}(hT:bareT T=heldL f s){x:Int}(h0:0<=x)(h1:x<(s:Int))(p:List UInt8)(vb:Value):
  ∃k0 k1,k0<=T.length/\(∀j,j<k0->(T.getD j default).1<x)/\((k0=T.length/\k1=k0)∨(k0<T.length/\(T.getD k0 default).1=x/\k1=k0+1)∨(k0<T.length/\x<(T.getD k0 default).1/\k1=k0))/\
   bareT (T.take k0++(x,p,vb)::T.drop k1)=heldL (putB f x p) s:=by
 obtain⟨k0,hk,hlo,hhi⟩:=place_of T x;have hs:Sorted12 (bareT T):=by rw[hT];exact heldL_sorted f s
 have hsi:=List.pairwise_iff_getElem.1 hs;have hl:=bareT_length T;obtain⟨k1,hc⟩:∃k1,(k0=T.length/\k1=k0)∨(k0<T.length/\(T.getD k0 default).1=x/\k1=k0+1)∨(k0<T.length/\x<(T.getD k0 default).1/\k1=k0):=by
  rcases hhi with h|⟨h,h2⟩
  ·exact⟨k0,Or.inl ⟨h,rfl⟩⟩
  ·by_cases e:(T.getD k0 default).1=x
   ·exact⟨k0+1,Or.inr (Or.inl ⟨h,e,rfl⟩)⟩
   ·exact⟨k0,Or.inr (Or.inr ⟨h,Zo,rfl⟩)⟩
 refine⟨k0,k1,hk,hlo,hc,?_⟩;have key:∀i (h:i<(bareT T).length),(bareT T)[i].1=(T.getD i default).1:=fun i h=>by rw[bare_at h]
 have lowT:∀z∈(bareT T).take k0,z.1<x:=by
  intro z hz;obtain⟨i,hi,e⟩:=List.getElem_of_mem hz;have hi':i<k0/\i<(bareT T).length:=by rw[List.length_take]at hi;omega
  rw[List.getElem_take]at e;rw[<-e,key i hi'.2];exact hlo i hi'.1
 have highT:∀z∈(bareT T).drop k1,x<z.1:=by
  intro z hz;obtain⟨i,hi,e⟩:=List.getElem_of_mem hz;rw[List.length_drop]at hi;rw[List.getElem_drop]at e;rw[<-e];have hi2:k1+i<(bareT T).length:=Zo
  rcases hc with⟨e1,e2⟩|⟨e1,e3,e2⟩|⟨e1,e3,e2⟩
  ·omega
  ·have h4:=hsi k0 (k1+i) Zo hi2 Zo;rw[key k0 Zo,e3]at h4;exact h4
  ·by_cases h5:k1+i=k0
   ·have h6:=key (k1+i) hi2;rw[h6,h5];exact e3
   ·have h4:=hsi k0 (k1+i) Zo hi2 Zo;rw[key k0 Zo]at h4;omega
 have hb:bareT (T.take k0++(x,p,vb)::T.drop k1)=(bareT T).take k0++(x,p)::(bareT T).drop k1:=by simp[bareT]
 rw[hb];refine sorted_ext ?_ (heldL_sorted _ _) fun z=>?_
 ·refine List.pairwise_append.2 ⟨hs.sublist (List.take_sublist _ _),List.pairwise_cons.2 ⟨fun a ha=>highT a ha,hs.sublist (List.drop_sublist _ _)⟩,fun a ha b hb2=>?_⟩;have h5:=lowT a ha
  rcases List.mem_cons.1 hb2 with e|h6
  ·rw[e];exact h5
  ·have:=highT b h6;omega
 ·obtain⟨y,q⟩:=z;rw[heldL_mem,List.mem_append,List.mem_cons];have inT:∀y q,(y,q)∈bareT T↔0<=y/\y<(s:Int)/\f y=some q:=fun y q=>by rw[hT];exact heldL_mem
  have split:(y,q)∈bareT T↔((y,q)∈(bareT T).take k0∨(y,q)∈(bareT T).drop k0):=by
   rw[<-List.mem_append,List.take_append_drop]
  by_cases hy:y=x
  ·subst hy;constructor
   ·rintro(h|h|h)
    ·have:=lowT _ h;simp at this
    ·cases h;exact⟨h0,h1,if_pos rfl⟩
    ·have:=highT _ h;simp at this
   ·rintro⟨_,_,h⟩;have h2:putB f y p y=some p:=if_pos rfl;rw[h2]at h;cases h;exact Or.inr (Or.inl rfl)
  ·have h2:putB f x p y=f y:=if_neg hy;rw[h2,<-inT y q,split];have hd:(y,q)∈(bareT T).drop k0↔(y,q)∈(bareT T).drop k1:=by
    rcases hc with⟨e1,e2⟩|⟨e1,e3,e2⟩|⟨e1,e3,e2⟩
    ·rw[e2]
    ·have hk2:k0<(bareT T).length:=by omega
     rw[List.drop_eq_getElem_cons hk2,List.mem_cons,e2];constructor
     ·rintro(h|h)
      ·have h7:=key k0 hk2;rw[<-h,e3]at h7;exact absurd h7 hy
      ·exact h
     ·exact Or.inr
    ·rw[e2]
   constructor
   ·rintro(h|h|h)
    ·exact Or.inl h
    ·cases h;exact absurd rfl hy
    ·exact Or.inr (hd.2 h)
   ·rintro(h|h)
    ·exact Or.inl h
    ·exact Or.inr (Or.inr (hd.1 h))
section
variable {w:World} {N db:Nat} {G:Nat->Prop} {d:DkS}
theorem set_below{g:Nat}(hg:N<=g)(j:Nat)(u:Value):Below N w (w.setCell ⟨g,j,none⟩ u):=Zf.setCell hg u
end
end Go.Proofs.YtclieefpnbdbjaaGreat.Gf
