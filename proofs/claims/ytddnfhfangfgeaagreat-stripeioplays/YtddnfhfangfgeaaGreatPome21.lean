/- JOINED: DkRb, DkRm, DkOwnL, DkRc, DkRd. -/
import Derived.Test.YtddnfhfangfgeaaGreatPome20
set_option maxHeartbeats 4000000
set_option maxRecDepth 100000
namespace Go.Proofs.YtddnfhfangfgeaaGreat.Gf
set_option linter.unusedVariables false
set_option linter.unusedSimpArgs false
open Go.RowKit
theorem made_T(W:World){N:Nat}(h:N<=W.heap.size):(W.alloc (.cells #[] 62)).ownsRow N 62 2 (.slice (some ⟨W.heap.size,0,none⟩) 0 0) 0 []:=
 owns_low (World.ownsRow_made W #[] 0 Zr Zz rfl) h
theorem RdT.grown{w w':World}{v:Value}{T:List TH}{g:Nat}(h:RdT w v T)(hg:w.grownBy w' (some g))(ha:ApartG (fun k=>k=g) v)(he:∀t∈T,ApartG (fun k=>k=g) t.2.2):RdT w' v T:=
 (ToldT.grew (G:=fun k=>k=g) (G':=fun k=>k=g) ⟨h,ha,he⟩ ⟨⟨hg.os,hg.tape,hg.output,hg.size,fun k hk hn=>hg.block k hk (fun e=>hn (by cases e;rfl))⟩,fun k hk=>Or.inl hk⟩).rd
theorem apart_one{g b o n c:Nat}(h:b≠g):ApartG (fun k=>k=g) (.slice (some ⟨b,o,none⟩) n c):=fun x m c' e=>by
 simp at e;obtain⟨rfl,_⟩:=e;exact Or.inr (fun h2=>h h2)
theorem Rd.apartN{w:World}{v:Value}{p:List UInt8}(h:Rd w v p){g:Nat}(hg:w.heap.size<=g):ApartG (fun k=>k=g) v:=h.apartG (fun k hk=>by rw[hk];exact hg)
def WithT(w:World)(T':List TH)(e:Ending)(w':World):Prop:=∃v,e= .returned v/\w'.ownsRow w.heap.size 62 2 v T'.length (cellsT T')/\Below w.heap.size w w'
structure P12(W:World)(B:Nat)(x:Int)(p:List UInt8)(ba:Option Addr)(bc:Nat)(T:List TH)(VL:Value):Prop where
 kp:∀W',Below W.heap.size W W'->(W'.cell? ⟨B,0,none⟩=some (.int .i64 x)/\W'.cell? ⟨B,1,none⟩=some (.slice ba p.length bc))
 b0:Below W.heap.size W W.drew
 bH:Below W.heap.size W (W.alloc (.cells #[.int .i64 x,.slice ba p.length bc] 62)).drew
 bA1:Below W.heap.size W (W.alloc (.cells #[] 62)).drew
 bA2:Below W.heap.size W ((W.alloc (.cells #[] 62)).alloc (.cells #[.int .i64 x,.slice ba p.length bc] 62)).drew
 bA3:Below W.heap.size W ((W.alloc (.cells #[.int .i64 x,.slice ba p.length bc] 62)).alloc (.cells #[] 62)).drew
 oA1:(W.alloc (.cells #[] 62)).drew.ownsRow W.heap.size 62 2 (.slice (some ⟨W.heap.size,0,none⟩) 0 0) 0 []
 oA2:((W.alloc (.cells #[] 62)).alloc (.cells #[.int .i64 x,.slice ba p.length bc] 62)).drew.ownsRow W.heap.size 62 2 (.slice (some ⟨W.heap.size,0,none⟩) 0 0) 0 []
 oA3:((W.alloc (.cells #[.int .i64 x,.slice ba p.length bc] 62)).alloc (.cells #[] 62)).drew.ownsRow W.heap.size 62 2 (.slice (some ⟨W.heap.size+1,0,none⟩) 0 0) 0 []
 rA1:RdT (W.alloc (.cells #[] 62)).drew VL T
 rA2:RdT ((W.alloc (.cells #[] 62)).alloc (.cells #[.int .i64 x,.slice ba p.length bc] 62)).drew VL T
 rA3:RdT ((W.alloc (.cells #[.int .i64 x,.slice ba p.length bc] 62)).alloc (.cells #[] 62)).drew VL T
 lA2:RdT ((W.alloc (.cells #[] 62)).alloc (.cells #[.int .i64 x,.slice ba p.length bc] 62)).drew (.slice (some ⟨W.heap.size+1,0,none⟩) 1 1) [(x,p,.slice ba p.length bc)]
 lA3:RdT ((W.alloc (.cells #[.int .i64 x,.slice ba p.length bc] 62)).alloc (.cells #[] 62)).drew (.slice (some ⟨W.heap.size,0,none⟩) 1 1) [(x,p,.slice ba p.length bc)]
 capH:∀n:Nat,CapOk (.slice (some ⟨n,0,none⟩) 1 1)
 aH2:∀t∈[(x,p,Value.slice ba p.length bc)],ApartG (fun k=>k=W.heap.size) t.2.2
 aH3:∀t∈[(x,p,Value.slice ba p.length bc)],ApartG (fun k=>k=W.heap.size+1) t.2.2
theorem pre12{W:World}{B:Nat}{x:Int}{p:List UInt8}{ba:Option Addr}{bc:Nat}{T:List TH}{VL:Value}(hLq:RdT W VL T)(hp2:Rd W (.slice ba p.length bc) p)(y0':W.cell? ⟨B,0,none⟩=some (.int .i64 x))(y1':W.cell? ⟨B,1,none⟩=some (.slice ba p.length bc)):P12 W B x p ba bc T VL:=by
 have hBW:B<W.heap.size:=by
  have e:=y0';unfold World.cell? at e
  by_cases hb:B<W.heap.size
  ·exact hb
  ·rw[Array.getElem?_eq_none (by show W.heap.size<=B;omega)]at e;cases e
 have bA1:Below W.heap.size W (W.alloc (.cells #[] 62)).drew:=(Zf.alloc Zr _).drew;have bA2:Below W.heap.size W ((W.alloc (.cells #[] 62)).alloc (.cells #[.int .i64 x,.slice ba p.length bc] 62)).drew:=((Zf.alloc Zr _).alloc Zs _).drew;have bA3:Below W.heap.size W ((W.alloc (.cells #[.int .i64 x,.slice ba p.length bc] 62)).alloc (.cells #[] 62)).drew:=((Zf.alloc Zr _).alloc Zs _).drew;refine⟨fun W' h=>⟨(h.cell (p:=⟨B,0,none⟩) hBW).trans y0',(h.cell (p:=⟨B,1,none⟩) hBW).trans y1'⟩,Zf.drew,(Zf.alloc Zr _).drew,bA1,bA2,bA3,World.ownsRow.drew (made_T W Zr),World.ownsRow.drew (World.ownsRow.alloc (made_T W Zr) _),?_,hLq.below bA1,hLq.below bA2,hLq.below bA3,?_,((rdT_lit (x:=x) hp2).below (belA _ _)).below (Zf.drew),fun n a m c e=>by simp at e;obtain⟨rfl,rfl,rfl⟩:=e;exact⟨Zo,fun h=>by cases h⟩,?_,?_⟩
 ·have:=World.ownsRow.drew (made_T (W.alloc (.cells #[.int .i64 x,.slice ba p.length bc] 62)) (N:=W.heap.size) Zs);simpa using this
 ·have:=(rdT_lit (x:=x) (hp2.below (belA W (.cells #[] 62)))).below (Zf.drew);simpa using this
 ·intro t ht;simp at ht;subst ht;exact hp2.apartN Zr
 ·intro t ht;simp at ht;subst ht;exact hp2.apartN Zo
theorem fin12{w W w9:World}{v9:Value}{L R:List TH}{t:TH}(hC:Below w.heap.size w W)(C9:Below W.heap.size W w9)(h9:w9.ownsRow W.heap.size 62 2 v9 (0+L.length+[t].length+R.length) ([]++cellsT L++cellsT [t]++cellsT R)):Hid (w9.ownsRow w.heap.size 62 2 v9 (L++t::R).length (cellsT (L++t::R))/\Below w.heap.size w w9):=by
 refine⟨?_,hC.step12 C9 hC.size⟩;have h10:=owns_low h9 hC.size;rw[show 0+L.length+[t].length+R.length=(L++t::R).length by simp<;>omega,show[]++cellsT L++cellsT [t]++cellsT R=cellsT (L++t::R) by simp[cellsT]]at h10;exact h10
theorem z21_5{p:Prop} (h:p:=by
 have FIN:=fin12 hC C9 h9;clear h9 g9 C9;go_wp2;go_ret;exact⟨_,rfl,FIN.out⟩
 ):p:=h
theorem z21_1{p:Prop} (h:p:=by
 have P:=pre12 hLq hp2 y0' y1';clear y0' y1'
 go_region_held3 (fun wx=>wx.cell? ⟨B,0,none⟩=some (.int .i64 x)/\wx.cell? ⟨B,1,none⟩=some (.slice ba p.length bc)) (first|exact P.kp _ Zf|exact P.kp _ P.b0|exact P.kp _ P.bA1|exact P.kp _ P.bH|exact P.kp _ P.bA2|exact P.kp _ P.bA3|exact P.kp _ C9|exact P.kp _ C7|exact P.kp _ C4|exact P.kp _ C5) (first
  |(refine step_append_T rfl (.tmp 40) (.tmp 43) rfl W.heap.size hi hz0 hz1 hz2 (.slice (some ⟨W.heap.size,0,none⟩) 0 0) 0 [] rfl P.oA1 _ _ rfl P.rA1 capL Zn P.bA1.size ?_;intro v4 w4 h4 g4;have C4:=P.bA1.grown g4 P.bA1.size (fun q hq=>by cases hq;first|exact Zr|exact Nat.le_succ _);have P4:=hp2.below C4;have C5:=C4.alloc C4.size (.cells #[.int .i64 x,.slice ba p.length bc] 62);have h5:=World.ownsRow.alloc h4 (.cells #[.int .i64 x,.slice ba p.length bc] 62);have l5:=rdT_lit (x:=x) P4)
  |(refine step_append_T rfl (.tmp 40) (.tmp 43) rfl W.heap.size hi hz0 hz1 hz2 (.slice (some ⟨W.heap.size,0,none⟩) 0 0) 0 [] rfl P.oA2 _ _ rfl P.rA2 capL Zn P.bA2.size ?_;intro v4 w4 h4 g4;have C4:=P.bA2.grown g4 P.bA2.size (fun q hq=>by cases hq;first|exact Zr|exact Nat.le_succ _);have h5:=h4;have C5:=C4;have l5:=RdT.grown (g:=W.heap.size) P.lA2 g4 (apart_one Zo) P.aH2)
  |(refine step_append_T rfl (.tmp 40) (.tmp 43) rfl W.heap.size hi hz0 hz1 hz2 (.slice (some ⟨W.heap.size+1,0,none⟩) 0 0) 0 [] rfl P.oA3 _ _ rfl P.rA3 capL Zn P.bA3.size ?_;intro v4 w4 h4 g4;have C4:=P.bA3.grown g4 P.bA3.size (fun q hq=>by cases hq;first|exact Zr|exact Nat.le_succ _);have h5:=h4;have C5:=C4;have l5:=RdT.grown (g:=W.heap.size+1) P.lA3 g4 (apart_one Zo) P.aH3)
  |(refine step_append_T rfl (.tmp 44) (.tmp 46) rfl W.heap.size hi hz0 hz1 hz2 v4 _ _ rfl h5 _ [(x,p,.slice ba p.length bc)] rfl l5 (P.capH _) Zn C5.size ?_;intro v7 w7 h7 g7;have C7:=C5.grown g7 C5.size (fun q hq=>(row_at h4 hq).1);have r7:=hRq.below C7)
  |(refine step_append_T rfl (.tmp 47) (.tmp 48) rfl W.heap.size hi hz0 hz1 hz2 v7 _ _ rfl h7 _ _ rfl r7 capR Zn C7.size ?_;intro v9 w9 h9 g9;have C9:=C7.grown g9 C7.size (fun q hq=>(row_at h7 hq).1)))
 ·exact z21_5
 ·exact z21_5
 ·exact z21_5
 ):p:=h
theorem z21_6{p:Prop} (h:p:=by
 clear hW c0 c1 r1 hTr hTq y0 y1 hd hT1 z1 zl zl2 zl3 zl4 zl5 hpr hp1 ht;exact z21_1
 ):p:=h
theorem with_any{w:World}{v:Value}{T:List TH}(hT:RdT w v T)(hc:CapOk v){x:Int}{p:List UInt8}{vb:Value}(hp:Rd w vb p)(hl:T.length<=5000)(k0 k1:Nat)(hk0:k0<=T.length)(hlo:∀j,j<k0->(T.getD j default).1<x)
  (hhi:(k0=T.length/\k1=k0)∨(k0<T.length/\(T.getD k0 default).1=x/\k1=k0+1)∨(k0<T.length/\x<(T.getD k0 default).1/\k1=k0)):
  Calls Tryz.prog 154 #[v,.agg #[.int .i64 x,vb]] w (WithT w (T.take k0++(x,p,vb)::T.drop k1)):=by
 obtain⟨aa,ca,rfl⟩:=hT.form;obtain⟨ba,bc,rfl⟩:=hp.form;have CA:T.length<=ca:=(hc _ _ _ rfl).1;obtain⟨i0,hi,hz0,hz1,hz2⟩:=info_parts2 info_held;obtain⟨w1,hw1⟩:∃w1,w1=w.alloc (.cells #[.int .i64 x,.slice ba p.length bc] 62):=⟨_,rfl⟩;have C1:Below w.heap.size w w1:=by rw[hw1];exact belA _ _
 have x0:w1.cell? ⟨w.heap.size,0,none⟩=some (.int .i64 x):=by rw[hw1,World.cell?_alloc_new];rfl
 have x1:w1.cell? ⟨w.heap.size,1,none⟩=some (.slice ba p.length bc):=by rw[hw1,World.cell?_alloc_new];rfl
 have hT1:=hT.below C1;have hp1:=hp.below C1;have hlo':Hid (∀j,j<k0->(T.getD j default).1<x):=hlo;have hhi':Hid ((k0=T.length/\k1=k0)∨(k0<T.length/\(T.getD k0 default).1=x/\k1=k0+1)∨(k0<T.length/\x<(T.getD k0 default).1/\k1=k0)):=hhi;obtain⟨B,hB⟩:∃B,Hid (B=w.heap.size):=⟨_,rfl⟩
 go_enter Tryz.func154,Tryz.ntmps154
 go_wp2;rw[<-hw1];rw[<-hB.out]at x0 x1 ⊢;clear hw1 hT hp hlo hhi
 go_loopw [5] (fun i wr=>∃k:Nat,k<=k0/\i= .int .i64 (k:Int)/\∃m,Hid (wr=w1.drewN m)) (fun i _=>T.length-(intOf i).toNat)
 case atStart=>exact⟨0,Zz,rfl,0,rfl⟩
 case round=>
  obtain⟨k,hk,rfl,m,hd⟩:=hrel;have hTr:RdT wr (.slice aa T.length ca) T:=by rw[hd.out];exact hT1.drewN _
  have hpr:Rd wr (.slice ba p.length bc) p:=by rw[hd.out];exact hp1.drewN _
  have y0:wr.cell? ⟨B,0,none⟩=some (.int .i64 x):=by rw[hd.out];exact x0
  have y1:wr.cell? ⟨B,1,none⟩=some (.slice ba p.length bc):=by rw[hd.out];exact x1
  clear x0 x1
  by_cases hlt:k<k0
  ·have hlT:k<T.length:=by omega
   have hlt':(k:Int)<(T.length:Int):=Zo
   have g1:IntKind.i64.wrap ((k:Int)+1)=((k+1:Nat):Int):=Zw
   obtain⟨b,off,rfl,c0,c1,r1⟩:=hTr.at hlT;have hx:=hlo'.out k hlt;obtain⟨t,ht⟩:∃t,t=T.getD k default:=⟨_,rfl⟩;rw[<-ht]at c0 c1 r1 hx;obtain⟨t1,t2,t3⟩:=t;simp only at c0 c1 r1 hx;clear ht hTr r1 hT1 hpr hp1;go_wp2
   go_quiet (fail)
   go_wp2;go_roundw
   case rel=>exact⟨k+1,Zo,Zg,_,by show _=_;rw[hd.out,World.drewN_drewN]⟩
   case measure=>simp[intOf];omega
  ·have ek:k=k0:=by omega
   subst ek;clear hlo' hlt
   rcases hhi'.out with⟨e1,e2⟩|⟨e1,e3,e2⟩|⟨e1,e3,e2⟩
   ·subst k1;clear hhi';subst e1;have hge:¬(T.length:Int)<(T.length:Int):=by omega
    rcases aa with _|ad
    ·have hca:=(hc _ _ _ rfl).2 rfl;subst hca;obtain rfl:T=[]:=List.length_eq_zero_iff.1 Zo;go_wp2
     go_quiet (fail)
     obtain⟨n1,hn1⟩:∃n1,n1=nq:=⟨nq,rfl⟩;subst hn1;go_wp2
     go_quiet (fail)
     go_wp2;have hTq:=(hTr.drewN n1).drewN nq;have hp2:=(hpr.drewN n1).drewN nq;have hC:Below w.heap.size w ((wr.drewN n1).drewN nq):=by rw[hd.out];exact((C1.drewN _).drewN _).drewN _
     obtain⟨W,hW⟩:∃W,W=(wr.drewN n1).drewN nq:=⟨_,rfl⟩;have y0':W.cell? ⟨B,0,none⟩=some (.int .i64 x):=by rw[hW];exact y0
     have y1':W.cell? ⟨B,1,none⟩=some (.slice ba p.length bc):=by rw[hW];exact y1
     rw[<-hW]at hTq hp2 hC ⊢;have hLq:RdT W (.slice none 0 0) (([]:List TH).take ([]:List TH).length):=Or.inl ⟨none,0,rfl,rfl⟩;have hRq:RdT W (.slice none 0 0) (([]:List TH).drop ([]:List TH).length):=Or.inl ⟨none,0,rfl,rfl⟩;have capL:CapOk (.slice none 0 0):=fun a n c e=>by simp at e;obtain⟨rfl,rfl,rfl⟩:=e;exact⟨Zo,fun h=>rfl⟩
     have capR:=capL;clear hW hTr hTq y0 y1 hd hT1 hpr hp1;exact z21_1
    ·by_cases hc0:ca=T.length
     ·have hc1:ca=T.length:=hc0;subst hc1;go_wp2
      go_quiet (fail)
      obtain⟨n1,hn1⟩:∃n1,n1=nq:=⟨nq,rfl⟩;subst hn1;go_wp2
      go_quiet (fail)
      go_wp2;have hTq:=(hTr.drewN n1).drewN nq;have hp2:=(hpr.drewN n1).drewN nq;have hC:Below w.heap.size w ((wr.drewN n1).drewN nq):=by rw[hd.out];exact((C1.drewN _).drewN _).drewN _
      obtain⟨W,hW⟩:∃W,W=(wr.drewN n1).drewN nq:=⟨_,rfl⟩;have y0':W.cell? ⟨B,0,none⟩=some (.int .i64 x):=by rw[hW];exact y0
      have y1':W.cell? ⟨B,1,none⟩=some (.slice ba p.length bc):=by rw[hW];exact y1
      rw[<-hW]at hTq hp2 hC ⊢;have hLq:RdT W (.slice (some ad) T.length T.length) (T.take T.length):=by rw[List.take_length];exact hTq
      have hRq:RdT W (.slice (some ad) 0 0) (T.drop T.length):=Or.inl ⟨_,_,Zs,rfl⟩;have capL:CapOk (.slice (some ad) T.length T.length):=fun a n c e=>by simp at e;obtain⟨rfl,rfl,rfl⟩:=e;exact⟨Zo,fun h=>by cases h⟩
      have capR:CapOk (.slice (some ad) 0 0):=fun a n c e=>by simp at e;obtain⟨rfl,rfl,rfl⟩:=e;exact⟨Zo,fun h=>by cases h⟩
      clear hW hTr hTq y0 y1 hd hT1 hpr hp1;exact z21_1
     ·have hc1:¬ca=T.length:=hc0;go_wp2
      go_quiet (fail)
      obtain⟨n1,hn1⟩:∃n1,n1=nq:=⟨nq,rfl⟩;subst hn1;go_wp2
      go_quiet (fail)
      go_wp2;have hTq:=(hTr.drewN n1).drewN nq;have hp2:=(hpr.drewN n1).drewN nq;have hC:Below w.heap.size w ((wr.drewN n1).drewN nq):=by rw[hd.out];exact((C1.drewN _).drewN _).drewN _
      obtain⟨W,hW⟩:∃W,W=(wr.drewN n1).drewN nq:=⟨_,rfl⟩;have y0':W.cell? ⟨B,0,none⟩=some (.int .i64 x):=by rw[hW];exact y0
      have y1':W.cell? ⟨B,1,none⟩=some (.slice ba p.length bc):=by rw[hW];exact y1
      rw[<-hW]at hTq hp2 hC ⊢;have hLq:RdT W (.slice (some ad) T.length ca) (T.take T.length):=by rw[List.take_length];exact hTq
      have hRq:RdT W (.slice (some (ad.add (T.length*2))) 0 (ca-T.length)) (T.drop T.length):=Or.inl ⟨_,_,Zs,rfl⟩;have capL:CapOk (.slice (some ad) T.length ca):=fun a n c e=>by simp at e;obtain⟨rfl,rfl,rfl⟩:=e;exact⟨Zo,fun h=>by cases h⟩
      have capR:CapOk (.slice (some (ad.add (T.length*2))) 0 (ca-T.length)):=fun a n c e=>by simp at e;obtain⟨rfl,rfl,rfl⟩:=e;exact⟨Zo,fun h=>by cases h⟩
      clear hW hTr hTq y0 y1 hd hT1 hpr hp1;exact z21_1
   ·subst k1
    by_cases hc0:ca-k=1
    ·clear hhi';have hlt':(k:Int)<(T.length:Int):=by omega
     obtain⟨b,off,rfl,c0,c1,r1⟩:=hTr.at e1;obtain⟨t,ht⟩:∃t,t=T.getD k default:=⟨_,rfl⟩;rw[<-ht]at c0 c1 r1 e3;obtain⟨t1,t2,t3⟩:=t;simp only at c0 c1 r1 e3;have hc1:ca-k=1:=hc0;have hx:¬t1<x:=Zo
     have z1:(t1==x)=true:=beq_iff_eq.2 e3;have zl:decide (0<T.length-k)=true:=Zy Zo;have zl2:(1:Int)<=((T.length-k:Nat):Int):=Zo
     have zl3:1<=T.length-k:=Zo
     have zl4:(1:Int)<=((ca-k:Nat):Int):=Zo
     have zl5:1<=ca-k:=Zo
     go_wp2
     go_quiet (fail)
     obtain⟨n1,hn1⟩:∃n1,n1=nq:=⟨nq,rfl⟩;subst hn1;go_wp2
     go_quiet (fail)
     go_wp2;have hTq:=hTr.drewN (n1+nq);have hp2:=hpr.drewN (n1+nq);have hC:Below w.heap.size w (wr.drewN (n1+nq)):=by rw[hd.out];exact(C1.drewN _).drewN _
     obtain⟨W,hW⟩:∃W,W=wr.drewN (n1+nq):=⟨_,rfl⟩;have y0':W.cell? ⟨B,0,none⟩=some (.int .i64 x):=by rw[hW];exact y0
     have y1':W.cell? ⟨B,1,none⟩=some (.slice ba p.length bc):=by rw[hW];exact y1
     rw[<-hW]at hTq hp2 hC ⊢;have hLq:=hTq.take (k:=k) (n:=k) (c':=ca) Zo rfl;have i1:(0:Int)<=(k:Int):=Zo
     have i2:(k:Int)<=(ca:Int):=Zo
     have i3:(k:Int)<=(T.length:Int):=Zo
     have i4:k<=ca:=Zo
     have capL:CapOk (.slice (some ⟨b,off,none⟩) k ca):=fun a n c e=>by simp at e;obtain⟨rfl,rfl,rfl⟩:=e;exact⟨Zo,fun h=>by cases h⟩
     have hRq:RdT W (.slice (some ⟨b,off+k*2,none⟩) (T.length-k-1) 0) (T.drop (k+1)):=Or.inl ⟨some ⟨b,off+k*2,none⟩,0,by rw[List.drop_eq_nil_iff];omega,by rw[show T.length-k-1=0 by omega]⟩;have capR:CapOk (.slice (some ⟨b,off+k*2,none⟩) (T.length-k-1) 0):=fun a n c e=>by simp at e;obtain⟨rfl,rfl,rfl⟩:=e;exact⟨Zo,fun h=>by cases h⟩
     exact z21_6
    ·clear hhi';have hlt':(k:Int)<(T.length:Int):=by omega
     obtain⟨b,off,rfl,c0,c1,r1⟩:=hTr.at e1;obtain⟨t,ht⟩:∃t,t=T.getD k default:=⟨_,rfl⟩;rw[<-ht]at c0 c1 r1 e3;obtain⟨t1,t2,t3⟩:=t;simp only at c0 c1 r1 e3;have hc1:¬ca-k=1:=hc0;have hx:¬t1<x:=Zo
     have z1:(t1==x)=true:=beq_iff_eq.2 e3;have zl:decide (0<T.length-k)=true:=Zy Zo;have zl2:(1:Int)<=((T.length-k:Nat):Int):=Zo
     have zl3:1<=T.length-k:=Zo
     have zl4:(1:Int)<=((ca-k:Nat):Int):=Zo
     have zl5:1<=ca-k:=Zo
     go_wp2
     go_quiet (fail)
     obtain⟨n1,hn1⟩:∃n1,n1=nq:=⟨nq,rfl⟩;subst hn1;go_wp2
     go_quiet (fail)
     go_wp2;have hTq:=hTr.drewN (n1+nq);have hp2:=hpr.drewN (n1+nq);have hC:Below w.heap.size w (wr.drewN (n1+nq)):=by rw[hd.out];exact(C1.drewN _).drewN _
     obtain⟨W,hW⟩:∃W,W=wr.drewN (n1+nq):=⟨_,rfl⟩;have y0':W.cell? ⟨B,0,none⟩=some (.int .i64 x):=by rw[hW];exact y0
     have y1':W.cell? ⟨B,1,none⟩=some (.slice ba p.length bc):=by rw[hW];exact y1
     rw[<-hW]at hTq hp2 hC ⊢;have hLq:=hTq.take (k:=k) (n:=k) (c':=ca) Zo rfl;have i1:(0:Int)<=(k:Int):=Zo
     have i2:(k:Int)<=(ca:Int):=Zo
     have i3:(k:Int)<=(T.length:Int):=Zo
     have i4:k<=ca:=Zo
     have capL:CapOk (.slice (some ⟨b,off,none⟩) k ca):=fun a n c e=>by simp at e;obtain⟨rfl,rfl,rfl⟩:=e;exact⟨Zo,fun h=>by cases h⟩
     have hRq:RdT W (.slice (some ⟨b,off+k*2+2,none⟩) (T.length-k-1) (ca-k-1)) (T.drop (k+1)):=by
      have h1:=hTq.drop (k:=k+1) (n:=T.length-k-1) (c':=ca-k-1) Zo Zo;rw[show off+(k+1)*2=off+k*2+2 by omega]at h1;exact h1
     have capR:CapOk (.slice (some ⟨b,off+k*2+2,none⟩) (T.length-k-1) (ca-k-1)):=fun a n c e=>by simp at e;obtain⟨rfl,rfl,rfl⟩:=e;exact⟨Zo,fun h=>by cases h⟩
     exact z21_6
   ·subst k1;clear hhi';have hlt':(k:Int)<(T.length:Int):=by omega
    obtain⟨b,off,rfl,c0,c1,r1⟩:=hTr.at e1;obtain⟨t,ht⟩:∃t,t=T.getD k default:=⟨_,rfl⟩;rw[<-ht]at c0 c1 r1 e3;obtain⟨t1,t2,t3⟩:=t;simp only at c0 c1 r1 e3;have hx:¬t1<x:=Zo
    have z1:(t1==x)=false:=Zq.2 Zo;have zl:decide (0<T.length-k)=true:=Zy Zo;have zl2:(1:Int)<=((T.length-k:Nat):Int):=Zo
    have zl3:1<=T.length-k:=Zo
    have zl4:(1:Int)<=((ca-k:Nat):Int):=Zo
    have zl5:1<=ca-k:=Zo
    go_wp2
    go_quiet (fail)
    obtain⟨n1,hn1⟩:∃n1,n1=nq:=⟨nq,rfl⟩;subst hn1;go_wp2
    go_quiet (fail)
    go_wp2;have hTq:=(hTr.drewN n1).drewN nq;have hp2:=(hpr.drewN n1).drewN nq;have hC:Below w.heap.size w ((wr.drewN n1).drewN nq):=by rw[hd.out];exact((C1.drewN _).drewN _).drewN _
    obtain⟨W,hW⟩:∃W,W=(wr.drewN n1).drewN nq:=⟨_,rfl⟩;have y0':W.cell? ⟨B,0,none⟩=some (.int .i64 x):=by rw[hW];exact y0
    have y1':W.cell? ⟨B,1,none⟩=some (.slice ba p.length bc):=by rw[hW];exact y1
    rw[<-hW]at hTq hp2 hC ⊢;have hLq:=hTq.take (k:=k) (n:=k) (c':=ca) Zo rfl;have i1:(0:Int)<=(k:Int):=Zo
    have i2:(k:Int)<=(ca:Int):=Zo
    have i3:(k:Int)<=(T.length:Int):=Zo
    have i4:k<=ca:=Zo
    have capL:CapOk (.slice (some ⟨b,off,none⟩) k ca):=fun a n c e=>by simp at e;obtain⟨rfl,rfl,rfl⟩:=e;exact⟨Zo,fun h=>by cases h⟩
    have hRq:=hTq.drop (k:=k) (n:=T.length-k) (c':=ca-k) Zo rfl;have capR:CapOk (.slice (some ⟨b,off+k*2,none⟩) (T.length-k) (ca-k)):=fun a n c e=>by simp at e;obtain⟨rfl,rfl,rfl⟩:=e;exact⟨Zo,fun h=>by cases h⟩
    exact z21_6
abbrev Sorted12(L:List (Int×List UInt8)):Prop:=L.Pairwise fun a b=>a.1<b.1
theorem heldL_sorted(f:Int->Option (List UInt8))(s:Nat):Sorted12 (heldL f s):=by
 induction s with
 |zero=>exact List.Pairwise.nil
 |succ s ih=>
  rw[heldL_succ];refine List.pairwise_append.2 ⟨ih,?_,fun a ha b hb=>?_⟩
  ·cases f (s:Int)<;>simp
  ·have h1:=(heldL_mem (x:=a.1) (b:=a.2)).1 ha;cases hf:f (s:Int)with
   |none=>rw[hf]at hb;cases hb
   |some q=>
    rw[hf]at hb;simp at hb;subst hb;exact h1.2.1
theorem sorted_ext{L M:List (Int×List UInt8)}(hL:Sorted12 L)(hM:Sorted12 M)(h:∀z,z∈L↔z∈M):L=M:=by
 refine List.Perm.eq_of_pairwise (le:=fun a b=>a.1<b.1) (fun a b _ _ h1 h2=>Zo) hL hM ?_
 refine(List.perm_ext_iff_of_nodup (hL.imp fun h e=>?_) (hM.imp fun h e=>?_)).2 h
 ·rw[e]at h;omega
 ·rw[e]at h;omega
theorem place_of(T:List TH)(x:Int):∃k0,k0<=T.length/\(∀j,j<k0->(T.getD j default).1<x)/\(k0=T.length∨(k0<T.length/\x<=(T.getD k0 default).1)):=by
 induction T with
 |nil=>exact⟨0,Zr,fun j hj=>Zo,Or.inl rfl⟩
 |cons t T ih=>
  by_cases h:t.1<x
  ·obtain⟨k,h1,h2,h3⟩:=ih;refine⟨k+1,by simpa using h1,fun j hj=>?_,?_⟩
   ·cases j with
    |zero=>exact h
    |succ j=>exact h2 j Zo
   ·rcases h3 with h3|⟨h3,h4⟩
    ·exact Or.inl (by simp[h3])
    ·exact Or.inr ⟨by simpa using h3,h4⟩
  ·exact⟨0,Zz,fun j hj=>Zo,Or.inr ⟨Zs,by show x<=t.1;omega⟩⟩
theorem bare_at{T:List TH}{i:Nat}(h:i<(bareT T).length):(bareT T)[i]=((T.getD i default).1,(T.getD i default).2.1):=by
 have h':i<T.length:=by rw[bareT_length]at h;exact h
 simp[bareT,List.getD,h']
theorem with_place{f:Int->Option (List UInt8)}{s:Nat}{T:List TH}(hT:bareT T=heldL f s){x:Int}(h0:0<=x)(h1:x<(s:Int))(p:List UInt8)(vb:Value):
  ∃k0 k1,k0<=T.length/\(∀j,j<k0->(T.getD j default).1<x)/\((k0=T.length/\k1=k0)∨(k0<T.length/\(T.getD k0 default).1=x/\k1=k0+1)∨(k0<T.length/\x<(T.getD k0 default).1/\k1=k0))/\
   bareT (T.take k0++(x,p,vb)::T.drop k1)=heldL (putB f x p) s:=by
 obtain⟨k0,hk,hlo,hhi⟩:=place_of T x;have hs:Sorted12 (bareT T):=by rw[hT];exact heldL_sorted f s
 have hsi:=List.pairwise_iff_getElem.1 hs;have hl:=bareT_length T;obtain⟨k1,hc⟩:∃k1,(k0=T.length/\k1=k0)∨(k0<T.length/\(T.getD k0 default).1=x/\k1=k0+1)∨(k0<T.length/\x<(T.getD k0 default).1/\k1=k0):=by
  rcases hhi with h|⟨h,h2⟩
  ·exact⟨k0,Or.inl ⟨h,rfl⟩⟩
  ·by_cases e:(T.getD k0 default).1=x
   ·exact⟨k0+1,Or.inr (Or.inl ⟨h,e,rfl⟩)⟩
   ·exact⟨k0,Or.inr (Or.inr ⟨h,Zo,rfl⟩)⟩
 refine⟨k0,k1,hk,hlo,hc,?_⟩;have key:∀i (h:i<(bareT T).length),(bareT T)[i].1=(T.getD i default).1:=fun i h=>by rw[bare_at h]
 have lowT:∀z∈(bareT T).take k0,z.1<x:=by
  intro z hz;obtain⟨i,hi,e⟩:=List.getElem_of_mem hz;have hi':i<k0/\i<(bareT T).length:=by rw[List.length_take]at hi;omega
  rw[List.getElem_take]at e;rw[<-e,key i hi'.2];exact hlo i hi'.1
 have highT:∀z∈(bareT T).drop k1,x<z.1:=by
  intro z hz;obtain⟨i,hi,e⟩:=List.getElem_of_mem hz;rw[List.length_drop]at hi;rw[List.getElem_drop]at e;rw[<-e];have hi2:k1+i<(bareT T).length:=Zo
  rcases hc with⟨e1,e2⟩|⟨e1,e3,e2⟩|⟨e1,e3,e2⟩
  ·omega
  ·have h4:=hsi k0 (k1+i) Zo hi2 Zo;rw[key k0 Zo,e3]at h4;exact h4
  ·by_cases h5:k1+i=k0
   ·have h6:=key (k1+i) hi2;rw[h6,h5];exact e3
   ·have h4:=hsi k0 (k1+i) Zo hi2 Zo;rw[key k0 Zo]at h4;omega
 have hb:bareT (T.take k0++(x,p,vb)::T.drop k1)=(bareT T).take k0++(x,p)::(bareT T).drop k1:=by simp[bareT]
 rw[hb];refine sorted_ext ?_ (heldL_sorted _ _) fun z=>?_
 ·refine List.pairwise_append.2 ⟨hs.sublist (List.take_sublist _ _),List.pairwise_cons.2 ⟨fun a ha=>highT a ha,hs.sublist (List.drop_sublist _ _)⟩,fun a ha b hb2=>?_⟩;have h5:=lowT a ha
  rcases List.mem_cons.1 hb2 with e|h6
  ·rw[e];exact h5
  ·have:=highT b h6;omega
 ·obtain⟨y,q⟩:=z;rw[heldL_mem,List.mem_append,List.mem_cons];have inT:∀y q,(y,q)∈bareT T↔0<=y/\y<(s:Int)/\f y=some q:=fun y q=>by rw[hT];exact heldL_mem
  have split:(y,q)∈bareT T↔((y,q)∈(bareT T).take k0∨(y,q)∈(bareT T).drop k0):=by
   rw[<-List.mem_append,List.take_append_drop]
  by_cases hy:y=x
  ·subst hy;constructor
   ·rintro(h|h|h)
    ·have:=lowT _ h;simp at this
    ·cases h;exact⟨h0,h1,if_pos rfl⟩
    ·have:=highT _ h;simp at this
   ·rintro⟨_,_,h⟩;have h2:putB f y p y=some p:=if_pos rfl;rw[h2]at h;cases h;exact Or.inr (Or.inl rfl)
  ·have h2:putB f x p y=f y:=if_neg hy;rw[h2,<-inT y q,split];have hd:(y,q)∈(bareT T).drop k0↔(y,q)∈(bareT T).drop k1:=by
    rcases hc with⟨e1,e2⟩|⟨e1,e3,e2⟩|⟨e1,e3,e2⟩
    ·rw[e2]
    ·have hk2:k0<(bareT T).length:=by omega
     rw[List.drop_eq_getElem_cons hk2,List.mem_cons,e2];constructor
     ·rintro(h|h)
      ·have h7:=key k0 hk2;rw[<-h,e3]at h7;exact absurd h7 hy
      ·exact h
     ·exact Or.inr
    ·rw[e2]
   constructor
   ·rintro(h|h|h)
    ·exact Or.inl h
    ·cases h;exact absurd rfl hy
    ·exact Or.inr (hd.2 h)
   ·rintro(h|h)
    ·exact Or.inl h
    ·exact Or.inr (Or.inr (hd.1 h))
section
variable {w:World} {N db:Nat} {G:Nat->Prop} {d:DkS}
theorem set_below{g:Nat}(hg:N<=g)(j:Nat)(u:Value):Below N w (w.setCell ⟨g,j,none⟩ u):=Zf.setCell hg u
end
def FindD(w:World)(T:List TH)(x:Int)(e:Ending)(w':World):Prop:=w'=w/\((e= .returned (.int .i64 (-1))/\lookL (bareT T) x=none)∨∃k:Nat,e= .returned (.int .i64 (k:Int))/\k<T.length/\lookL (bareT T) x=some (T.getD k default).2.1)
theorem find_any{w:World}{v:Value}{T:List TH}(hT:RdT w v T){x:Int}:Calls Tryz.prog 155 #[v,.int .i64 x] w (FindD w T x):=by
 have lt:=hT.len;obtain⟨aa,ca,rfl⟩:=hT.form
 go_enter Tryz.func155,Tryz.ntmps155
 go_wp2
 go_loopw [5] (fun i wr=>∃k:Nat,k<=T.length/\i= .int .i64 (k:Int)/\Hid (∀j,j<k->(T.getD j default).1≠x)/\Hid (wr=w)) (fun i _=>T.length-(intOf i).toNat)
 case atStart=>exact⟨0,Zz,rfl,fun j hj=>Zo,rfl⟩
 case round=>
  obtain⟨k,hk,rfl,hs,hd⟩:=hrel;have hT':RdT wr (.slice aa T.length ca) T:=by rw[hd.out];exact hT
  clear hT
  by_cases hlt:k<T.length
  ·have hlt':(k:Int)<(T.length:Int):=by omega
   have g1:IntKind.i64.wrap ((k:Int)+1)=((k+1:Nat):Int):=Zw
   obtain⟨b,off,rfl,c0,c1,r1⟩:=hT'.at hlt
   by_cases e:(T.getD k default).1=x
   ·have HL:Hid (lookL (bareT T) x=some (T.getD k default).2.1):=look_at hlt hs.out e;have z1:((T.getD k default).1==x)=true:=beq_iff_eq.2 e;obtain⟨t1,ht⟩:∃t,t=(T.getD k default).1:=⟨_,rfl⟩;rw[<-ht]at c0 z1;clear ht hs hT' e r1 c1;go_wp2;go_ret;exact⟨hd.out,Or.inr ⟨k,rfl,hlt,HL.out⟩⟩
   ·have z1:((T.getD k default).1==x)=false:=Zq.2 e;have HS:Hid (∀j,j<k+1->(T.getD j default).1≠x):=fun j hj=>by
     by_cases e2:j=k
     ·rw[e2];exact e
     ·exact hs.out j Zo
    obtain⟨t1,ht⟩:∃t,t=(T.getD k default).1:=⟨_,rfl⟩;rw[<-ht]at c0 z1;clear ht hs hT' e r1 c1;go_wp2;go_roundw
    case rel=>exact⟨k+1,Zo,Zg,HS,hd⟩
    case measure=>simp[intOf];omega
  ·have hge:¬(k:Int)<(T.length:Int):=by omega
   have HL:Hid (lookL (bareT T) x=none):=look_none (fun j hj=>hs.out j Zo);clear hs hT';go_wp2;go_ret;exact⟨hd.out,Or.inl ⟨rfl,HL.out⟩⟩
theorem z21_2{p:Prop} (h:p:=by
 have zp:¬p.length=0:=Zo
 have zp':((p.length:Int)==0)=false:=Zq.2 Zo;have jl1:(j:Int)<(p.length:Int):=Zo
 have jl0:(0:Int)<=(j:Int):=Zo
 clear O9 B9 hv9 hg9 B1 O1 hp1 hp hCh hy0 hy1 hg hi hz0 hz1 hz2 hsz
 go_big_region
 go_wp2;go_ret;exact⟨_,rfl,FIN.out⟩
 ):p:=h
theorem z21_3{p:Prop} (h:p:=by
 refine⟨World.ownsRow.drew ?_,(B9.trans (set_below hg j _)).drew⟩;have h3:=owns_set (j:=j) O9 y1;rw[hCh.out,<-hy1.out];rw[List.length_set]at h3;exact h3
 ):p:=h
theorem z21_7{p:Prop} (h:p:=by
 rw[World.ownsRow.cellAt O9 j Zo,List.getElem?_map,List.getElem?_eq_getElem hjl,co_lt hjl];rfl
 ):p:=h
theorem changed_any{w:World}{v:Value}{p:List UInt8}(hp:Rd w v p)(h1:1<=p.length)(h2:p.length<=100000){at_:Int}(hat:(Lit.int .i64 at_).wf=true)(y:UInt8):
  Calls Tryz.prog 157 #[v,.int .i64 at_,.int .u8 ((y.toNat:Nat):Int)] w fun e w'=>∃v',e= .returned v'/\w'.ownsRow w.heap.size 5 1 v' p.length ((chB p at_ y).map vb)/\Below w.heap.size w w':=by
 obtain⟨aa,ca,rfl⟩:=hp.form;obtain⟨i0,hi,hz0,hz1,hz2⟩:=info_parts info_u8;have B1:Below w.heap.size w (w.alloc (.cells #[] 5)):=belA _ _;have O1:=own_new12 w 5;have hp1:=hp.below B1;have hsz:w.heap.size<=(w.alloc (.cells #[] 5)).heap.size:=B1.size;obtain⟨j,hj⟩:∃j,Hid (j=atN at_ p.length):=⟨_,rfl⟩;have hjl:j<p.length:=by rw[hj.out];exact Nat.mod_lt _ Zo
 have hCh:Hid (chB p at_ y=p.set j (co p j^^^y)):=by show _=_;unfold chB;rw[hj.out]
 by_cases hneg:at_<0
 ·obtain⟨M,hM⟩:∃M:Nat,at_= -((M:Int)+1):=⟨(-(at_+1)).toNat,Zo⟩;have hb:=bounds_i64 hat;have hjM:j=M%p.length:=by rw[hj.out];unfold atN;rw[if_pos hneg];congr 1;omega
  have Z1:wrap64 (at_+1)= -(M:Int):=by unfold wrap64;omega
  have Z2:wrap64 (M:Int)=(M:Int):=by unfold wrap64;omega
  have Tm:((M:Int)).tmod (p.length:Int)=(j:Int):=by rw[hjM];exact(Int.ofNat_tmod M p.length).symm
  clear hjM hM hb hat hj
  go_enter Tryz.func157,Tryz.ntmps157
  go_wp2_with (at_builtin;go_loud (refine wpList_append_rd _ rfl (.tmp 13) (.tmp 14) 36 rfl w.heap.size 5 i0 Tryz.underlying36 hi hz0 hz1 hz2 (.slice (some ⟨w.heap.size,0,none⟩) 0 0) 0 [] rfl O1 (.slice aa p.length ca) p rfl hp1 Zo hsz ?_);intro v' w9 hv9 hg9)
  have O9:w9.ownsRow w.heap.size 5 1 v' p.length (p.map vb):=by rw[Nat.zero_add,List.nil_append]at hv9;exact hv9
  have B9:Below w.heap.size w w9:=B1.grown hg9 hsz (fun q hq=>by cases hq;exact Zr);obtain⟨g9,c9,rfl,hg,_⟩:=owns_formD O9 Zo;have cj:w9.cell? ⟨g9,j,none⟩=some (.int .u8 (((co p j).toNat:Nat):Int)):=by
   exact z21_7
  have fj:w9.frozen? ⟨g9,j,none⟩=false:=World.ownsRow.frozenAt O9 j;obtain⟨y0,hy0⟩:∃y,Hid (y=co p j):=⟨_,rfl⟩;obtain⟨y1,hy1⟩:∃z,Hid (z=co p j^^^y):=⟨_,rfl⟩;have X:bits .xor .u8 (((co p j).toNat:Nat):Int) ((y.toNat:Nat):Int)=((y1.toNat:Nat):Int):=by rw[hy1.out];exact xor_u8 _ _
  rw[<-hy0.out]at cj X;have FIN:Hid ((w9.setCell ⟨g9,j,none⟩ (.int .u8 ((y1.toNat:Nat):Int))).drew.ownsRow w.heap.size 5 1 (.slice (some ⟨g9,0,none⟩) p.length c9) p.length ((chB p at_ y).map vb)/\Below w.heap.size w (w9.setCell ⟨g9,j,none⟩ (.int .u8 ((y1.toNat:Nat):Int))).drew):=by
   exact z21_3
  exact z21_2
 ·obtain⟨M,hM⟩:∃M:Nat,at_=(M:Int):=⟨at_.toNat,Zo⟩;have hjM:j=M%p.length:=by rw[hj.out];unfold atN;rw[if_neg hneg];congr 1;omega
  have Tm:((M:Int)).tmod (p.length:Int)=(j:Int):=by rw[hjM];exact(Int.ofNat_tmod M p.length).symm
  subst hM;clear hjM hat hj
  go_enter Tryz.func157,Tryz.ntmps157
  go_wp2_with (at_builtin;go_loud (refine wpList_append_rd _ rfl (.tmp 13) (.tmp 14) 36 rfl w.heap.size 5 i0 Tryz.underlying36 hi hz0 hz1 hz2 (.slice (some ⟨w.heap.size,0,none⟩) 0 0) 0 [] rfl O1 (.slice aa p.length ca) p rfl hp1 Zo hsz ?_);intro v' w9 hv9 hg9)
  have O9:w9.ownsRow w.heap.size 5 1 v' p.length (p.map vb):=by rw[Nat.zero_add,List.nil_append]at hv9;exact hv9
  have B9:Below w.heap.size w w9:=B1.grown hg9 hsz (fun q hq=>by cases hq;exact Zr);obtain⟨g9,c9,rfl,hg,_⟩:=owns_formD O9 Zo;have cj:w9.cell? ⟨g9,j,none⟩=some (.int .u8 (((co p j).toNat:Nat):Int)):=by
   exact z21_7
  have fj:w9.frozen? ⟨g9,j,none⟩=false:=World.ownsRow.frozenAt O9 j;obtain⟨y0,hy0⟩:∃y,Hid (y=co p j):=⟨_,rfl⟩;obtain⟨y1,hy1⟩:∃z,Hid (z=co p j^^^y):=⟨_,rfl⟩;have X:bits .xor .u8 (((co p j).toNat:Nat):Int) ((y.toNat:Nat):Int)=((y1.toNat:Nat):Int):=by rw[hy1.out];exact xor_u8 _ _
  rw[<-hy0.out]at cj X;have FIN:Hid ((w9.setCell ⟨g9,j,none⟩ (.int .u8 ((y1.toNat:Nat):Int))).drew.ownsRow w.heap.size 5 1 (.slice (some ⟨g9,0,none⟩) p.length c9) p.length ((chB p (M:Int) y).map vb)/\Below w.heap.size w (w9.setCell ⟨g9,j,none⟩ (.int .u8 ((y1.toNat:Nat):Int))).drew):=by
   exact z21_3
  exact z21_2
structure RefIn(w:World)(rb:Nat)(vl vw:Value)(Tl Tw:List TH)(H:Nat->Prop)(d:DkS):Prop where
 c0:w.cell? ⟨rb,0,none⟩=some (.int .i64 (d.s:Int))
 c1:w.cell? ⟨rb,1,none⟩=some vl
 c2:w.cell? ⟨rb,2,none⟩=some vw
 c3:w.cell? ⟨rb,3,none⟩=some (.bool d.dead)
 f1:w.frozen? ⟨rb,1,none⟩=false
 f2:w.frozen? ⟨rb,2,none⟩=false
 f3:w.frozen? ⟨rb,3,none⟩=false
 el:bareT Tl=heldL d.last d.s
 ew:bareT Tw=heldL d.wait d.s
 tl:ToldT w H vl Tl
 tw:ToldT w H vw Tw
 kl:CapOk vl
 kw:CapOk vw
 hr:H rb
 lt:∀k,H k->k<w.heap.size
 s2:d.s<=4096
def RefAt(w:World)(rb:Nat)(H:Nat->Prop)(d:DkS):Prop:=∃vl vw Tl Tw,RefIn w rb vl vw Tl Tw H d
def LeavesR(w:World)(rb:Nat)(H:Nat->Prop)(d':DkS)(x:Value)(e:Ending)(w':World):Prop:=e= .returned x/\RefAt w' rb H d'/\TurnG (fun k=>k=rb) w w'
section
variable {w w':World} {rb:Nat} {vl vw:Value} {Tl Tw:List TH} {H:Nat->Prop} {d:DkS}
theorem RefIn.len_l(h:RefIn w rb vl vw Tl Tw H d):Tl.length<=4096:=by
 rw[<-bareT_length,h.el];exact Nat.le_trans (heldL_length _ _) h.s2
theorem RefIn.len_w(h:RefIn w rb vl vw Tl Tw H d):Tw.length<=4096:=by
 rw[<-bareT_length,h.ew];exact Nat.le_trans (heldL_length _ _) h.s2
theorem RefIn.below(h:RefIn w rb vl vw Tl Tw H d)(hb:Below w.heap.size w w'):RefIn w' rb vl vw Tl Tw H d:=
 have l:=h.lt rb h.hr
 ⟨(hb.cell (p:=⟨rb,0,none⟩) l).trans h.c0,(hb.cell (p:=⟨rb,1,none⟩) l).trans h.c1,(hb.cell (p:=⟨rb,2,none⟩) l).trans h.c2,(hb.cell (p:=⟨rb,3,none⟩) l).trans h.c3,
  (hb.frozen (p:=⟨rb,1,none⟩) l).trans h.f1,(hb.frozen (p:=⟨rb,2,none⟩) l).trans h.f2,(hb.frozen (p:=⟨rb,3,none⟩) l).trans h.f3,h.el,h.ew,h.tl.below hb,h.tw.below hb,h.kl,h.kw,h.hr,fun k hk=>Zu (h.lt k hk) hb.size,h.s2⟩
theorem RefAt.below(h:RefAt w rb H d)(hb:Below w.heap.size w w'):RefAt w' rb H d:=by
 obtain⟨vl,vw,Tl,Tw,h⟩:=h;exact⟨vl,vw,Tl,Tw,h.below hb⟩
theorem setR_grew(hr:H rb)(j:Nat)(v:Value):Grew H w H (w.setCell ⟨rb,j,none⟩ v):=Grew.of_turn (Only.turnG ((Only.refl rb w).setCell j v) hr)
theorem RefIn.setW(h:RefIn w rb vl vw Tl Tw H d){v:Value}{T:List TH}{f:Int->Option (List UInt8)}(ht:ToldT w H v T)(hk:CapOk v)(he:bareT T=heldL f d.s):RefIn (w.setCell ⟨rb,2,none⟩ v) rb vl v Tl T H {d with wait:=f}:=by
 have g:=setR_grew (w:=w) h.hr 2 v;have c2:=h.c2;have f1:=h.f1;have f2:=h.f2;have f3:=h.f3;refine⟨?_,?_,?_,?_,by simp[go_sem,f1],by simp[go_sem,f2],by simp[go_sem,f3],h.el,he,h.tl.grew g,ht.grew g,h.kl,hk,h.hr,fun k hk=>by simpa using h.lt k hk,h.s2⟩
 ·rw[<-h.c0];simp[go_sem]
 ·rw[<-h.c1];simp[go_sem]
 ·simp[go_sem,c2]
 ·rw[<-h.c3];simp[go_sem]
theorem RefIn.setL(h:RefIn w rb vl vw Tl Tw H d){v:Value}{T:List TH}{f:Int->Option (List UInt8)}(ht:ToldT w H v T)(hk:CapOk v)(he:bareT T=heldL f d.s):RefIn (w.setCell ⟨rb,1,none⟩ v) rb v vw T Tw H {d with last:=f}:=by
 have g:=setR_grew (w:=w) h.hr 1 v;have c1:=h.c1;have f1:=h.f1;have f2:=h.f2;have f3:=h.f3;refine⟨?_,?_,?_,?_,by simp[go_sem,f1],by simp[go_sem,f2],by simp[go_sem,f3],he,h.ew,ht.grew g,h.tw.grew g,hk,h.kw,h.hr,fun k hk=>by simpa using h.lt k hk,h.s2⟩
 ·rw[<-h.c0];simp[go_sem]
 ·simp[go_sem,c1]
 ·rw[<-h.c2];simp[go_sem]
 ·rw[<-h.c3];simp[go_sem]
theorem RefIn.setD(h:RefIn w rb vl vw Tl Tw H d)(x:Bool):RefIn (w.setCell ⟨rb,3,none⟩ (.bool x)) rb vl vw Tl Tw H {d with dead:=x}:=by
 have g:=setR_grew (w:=w) h.hr 3 (.bool x);have c3:=h.c3;have f1:=h.f1;have f2:=h.f2;have f3:=h.f3;refine⟨?_,?_,?_,?_,by simp[go_sem,f1],by simp[go_sem,f2],by simp[go_sem,f3],h.el,h.ew,h.tl.grew g,h.tw.grew g,h.kl,h.kw,h.hr,fun k hk=>by simpa using h.lt k hk,h.s2⟩
 ·rw[<-h.c0];simp[go_sem]
 ·rw[<-h.c1];simp[go_sem]
 ·rw[<-h.c2];simp[go_sem]
 ·simp[go_sem,c3]
theorem told_nil(w:World)(H:Nat->Prop):ToldT w H (.slice none 0 0) []:=⟨Or.inl ⟨none,0,rfl,rfl⟩,ApartG.nil _ _ _,fun t ht=>by cases ht⟩
theorem cap_nil:CapOk (.slice none 0 0):=fun a n c e=>by simp at e;obtain⟨rfl,rfl,rfl⟩:=e;exact⟨Zr,fun _=>rfl⟩
theorem turnR_set(j:Nat)(v:Value):TurnG (fun k=>k=rb) w (w.setCell ⟨rb,j,none⟩ v):=Only.turnG ((Only.refl rb w).setCell j v) rfl
theorem z21_4{p:Prop} (h:p:=by
 rw[e];clear e
 go_enter Tryz.func153,Tryz.ntmps153
 go_wp2;go_ret;exact⟨rfl,rfl⟩
 ):p:=h
theorem rfault_any(h:RefIn w rb vl vw Tl Tw H d){a:Int}:Calls Tryz.prog 153 #[.pointer (some ⟨rb,0,none⟩),.int .i64 a] w fun e w'=>e= .returned (.int .i64 (faX d a))/\w'=w:=by
 have c0:=h.c0;have c3:=h.c3;clear h;cases hd:d.dead with
 |true=>
  have e:=faX_dead hd a;rw[hd]at c3;rw[e];clear e
  go_enter Tryz.func153,Tryz.ntmps153
  go_wp2;go_ret;exact⟨rfl,rfl⟩
 |false=>
  rw[hd]at c3
  by_cases h0:0<=a
  ·have h0':¬a<0:=by omega
   by_cases h1:a<(d.s:Int)
   ·have e:=faX_ok hd ⟨h0,h1⟩;have h1':¬a>=(d.s:Int):=by omega
    exact z21_4
   ·have e:=faX_out hd (a:=a) (fun h=>h1 h.2);have h1':a>=(d.s:Int):=by omega
    exact z21_4
  ·have e:=faX_out hd (a:=a) (fun h=>h0 h.1);have h0':a<0:=by omega
   exact z21_4
theorem rfail_any(h:RefIn w rb vl vw Tl Tw H d):Calls Tryz.prog 120 #[.pointer (some ⟨rb,0,none⟩)] w (LeavesR w rb H (faS d) (.tuple #[])):=by
 have I1:=h.setD true;have I2:=I1.setL (told_nil _ H) cap_nil (f:=noneI) (by rw[heldL_none];rfl);have I3:=I2.setW (told_nil _ H) cap_nil (f:=noneI) (by rw[heldL_none];rfl);have FIN:Hid (RefAt (((w.setCell ⟨rb,3,none⟩ (.bool true)).setCell ⟨rb,1,none⟩ (.slice none 0 0)).setCell ⟨rb,2,none⟩ (.slice none 0 0)) rb H (faS d)/\TurnG (fun k=>k=rb) w (((w.setCell ⟨rb,3,none⟩ (.bool true)).setCell ⟨rb,1,none⟩ (.slice none 0 0)).setCell ⟨rb,2,none⟩ (.slice none 0 0))):=⟨⟨_,_,_,_,I3⟩,((turnR_set 3 _).trans (turnR_set 1 _)).trans (turnR_set 2 _)⟩;have c1:=h.c1;have c2:=h.c2;have c3:=h.c3;have f1:=h.f1;have f2:=h.f2;have f3:=h.f3;clear I1 I2 I3 h
 go_enter Tryz.func120,Tryz.ntmps120
 go_wp2
 go_end0
 exact⟨rfl,FIN.out⟩
theorem rrepl_any(h:RefIn w rb vl vw Tl Tw H d):Calls Tryz.prog 121 #[.pointer (some ⟨rb,0,none⟩)] w (LeavesR w rb H (reS d) (.tuple #[])):=by
 have I1:=h.setD false;have I2:=I1.setL (told_nil _ H) cap_nil (f:=noneI) (by rw[heldL_none];rfl);have I3:=I2.setW (told_nil _ H) cap_nil (f:=noneI) (by rw[heldL_none];rfl);have FIN:Hid (RefAt (((w.setCell ⟨rb,3,none⟩ (.bool false)).setCell ⟨rb,1,none⟩ (.slice none 0 0)).setCell ⟨rb,2,none⟩ (.slice none 0 0)) rb H (reS d)/\TurnG (fun k=>k=rb) w (((w.setCell ⟨rb,3,none⟩ (.bool false)).setCell ⟨rb,1,none⟩ (.slice none 0 0)).setCell ⟨rb,2,none⟩ (.slice none 0 0))):=⟨⟨_,_,_,_,I3⟩,((turnR_set 3 _).trans (turnR_set 1 _)).trans (turnR_set 2 _)⟩;have c1:=h.c1;have c2:=h.c2;have c3:=h.c3;have f1:=h.f1;have f2:=h.f2;have f3:=h.f3;clear I1 I2 I3 h
 go_enter Tryz.func121,Tryz.ntmps121
 go_wp2
 go_end0
 exact⟨rfl,FIN.out⟩
end
theorem rnew_any{w:World}{n:Int}(h1:1<=n)(h2:n<=4096):Calls Tryz.prog 34 #[.int .i64 n] w fun e w'=>e= .returned (.tuple #[.pointer (some ⟨w.heap.size,0,none⟩),.int .i64 0])/\w'=w.alloc (.cells #[.int .i64 n,.slice none 0 0,.slice none 0 0,.bool false] 94):=by
 have g1:¬n<1:=Zo
 have g2:¬n>4096:=Zo
 go_enter Tryz.func34,Tryz.ntmps34
 go_wp2;refine bodyPost_ret (v:=.tuple #[.pointer (some ⟨w.heap.size,0,none⟩),.int .i64 0]) (by simp[results,Tryz.results34,go_sem]) rfl ?_
 exact⟨rfl,rfl⟩
end Go.Proofs.YtddnfhfangfgeaaGreat.Gf
