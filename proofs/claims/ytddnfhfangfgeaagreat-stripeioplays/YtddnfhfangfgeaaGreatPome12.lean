/- TEXTS JOINED: CaCP, BkRd. -/
import Derived.Shelf.Abstract
import Derived.Laws.EntriesVeiled
import Derived.Test.YtddnfhfangfgeaaGreatPome11
set_option maxHeartbeats 2000000
set_option maxRecDepth 100000
namespace Go.Proofs.YtddnfhfangfgeaaGreat.Gf
set_option linter.unusedVariables false
set_option linter.unusedSimpArgs false
open Go.RowKit
theorem upR_row{G:Mx}{r c i:Nat}{f:Nat->UInt8}(h1:∀t,t<r*c->t/c≠i->f t=pl c (upR G i) t)(h2:∀j,j<c->f (i*c+j)=G i j):∀t,t<r*c->f t=pl c (upR G (i+1)) t:=by
 intro t ht;have hc:0<c:=by
  rcases Nat.eq_zero_or_pos c with e|e
  ·rw[e,Nat.mul_zero]at ht;omega
  ·exact e
 by_cases e:t/c=i
 ·have h3:=Nat.div_add_mod t c;rw[e,Nat.mul_comm]at h3
  show f t=upR G (i+1) (t/c) (t%c)
  unfold upR;rw[if_pos (by omega),e,<-h2 _ (Nat.mod_lt _ hc),h3]
 ·rw[h1 t ht e]
  show upR G i (t/c) (t%c)=upR G (i+1) (t/c) (t%c)
  unfold upR
  by_cases h:t/c<i
  ·rw[if_pos h,if_pos (by omega)]
  ·rw[if_neg h,if_neg (by omega)]
theorem not_in_row{c i t o:Nat}(ho:o=i*c)(hc:0<c)(h:t/c≠i){n:Nat}(hn:n<=c):t<o∨o+n<=t:=by
 by_cases h1:i*c<=t/\t<i*c+c
 ·exact absurd ((row_iff hc).1 h1) h
 ·omega
structure Fills(w:World)(b k kb fb:Nat):Prop where
 ck:w.cell? ⟨kb,0,none⟩=some (.int .i64 (k:Int))
 cf:w.cell? ⟨fb,0,none⟩=some (.pointer (some ⟨b,0,none⟩))
 lk:kb<w.heap.size
 lf:fb<w.heap.size
theorem Fills.below{w w':World}{b k kb fb:Nat}(h:Fills w b k kb fb)(o:Below w.heap.size w w'):Fills w' b k kb fb:=
 ⟨(o.cell (p:=⟨kb,0,none⟩) h.lk).trans h.ck,(o.cell (p:=⟨fb,0,none⟩) h.lf).trans h.cf,Nat.lt_of_lt_of_le h.lk o.size,Nat.lt_of_lt_of_le h.lf o.size⟩
theorem enters_prow1:Hid (∀(args:Array Value) (w:World),Sem.run Tryz.prog (callFunc 215 args) w= .ok (.enter 215 args) w):=enters_of Tryz.func215 (by kernel_rfl) rfl
theorem prow_make{b:Nat}(k:Nat)(w:World){x:Int}(hx:x=(k:Int)):Calls Tryz.prog 186 #[.pointer (some ⟨b,0,none⟩),.int .i64 x] w fun e w'=>∃kb fb,e= .returned (.func (.func 215) #[] #[.pointer (some ⟨kb,0,none⟩),.pointer (some ⟨fb,0,none⟩)])/\Fills w' b k kb fb/\Below w.heap.size w w':=by
 subst hx
 go_enter Tryz.func186,Tryz.ntmps186
 go_wp2;go_ret;refine⟨_,_,rfl,⟨by simp,by simp,by simp<;>omega,by simp<;>omega⟩,by repeat (first|exact Below.refl _ _|apply below_lit)⟩
theorem cpar_at{b:Nat}{w:World}(k m:Nat)(hF:FieldAt w b)(h1:1<=k)(h2:k+m<=256){x y:Int}(hx:x=(k:Int))(hy:y=(m:Int)):
  Calls Tryz.prog 159 #[.pointer (some ⟨b,0,none⟩),.int .i64 x,.int .i64 y] w (fun e w'=>∃g M,e= .returned (.tuple #[.agg #[.int .i64 (m:Int),.int .i64 (k:Int),.slice (some ⟨g,0,none⟩) M M],.int .i64 0])/\w.heap.size<=g/\Rd w' (.slice (some ⟨g,0,none⟩) M M) (flat m k (parF k))/\Below w.heap.size w w'):=by
 subst hx hy
 go_enter Tryz.func159,Tryz.ntmps159
 go_wp2_with fail
 refine(ccf_ok _ (okC_mk h1 h2)).mono ?_
 rintro e w2 ⟨rfl,rfl⟩
 go_wp2_with fail
 refine(prow_make k _ rfl).mono ?_
 rintro e w1 ⟨kb,fb,rfl,hfl,b1⟩;have X3:Box w1 w.heap.size 0 0 (.slice none 0 0):=Below.box b1 (by simp<;>omega) (Box.new w 0 0 (.slice none 0 0) 148);have F3:Free w1 w.heap.size:=Below.free b1 (by simp<;>omega) (Free.new w #[.int .i64 0,.int .i64 0,.slice none 0 0] 148);have B1:Below w.heap.size w w1:=Below.next (by repeat (first|exact Below.refl _ _|apply below_lit)) b1;have hF1:=hF.below B1;have hs1:w.heap.size<w1.heap.size:=by have:=b1.size;simp at this;omega
 clear b1
 go_wp2_with fail
 refine(made_any m k w1 (by omega) (by omega) h1 (parF k) enters_prow1 ?_ rfl rfl).mono ?_
 ·intro g M i o W hi hM ho hg hB R;have hf2:=hfl.below hB;refine(prow_fill (i:=i) (n:=k) (hF1.below hB) (by have:=hF1.lt;omega) hf2.ck (by have:=hfl.lk;omega) hf2.cf (by have:=hfl.lf;omega) (by omega) (Nat.le_refl _) (by omega) (by rw[ho.out,hM.out,<-Nat.succ_mul];exact Nat.mul_le_mul_right k hi) R rfl).mono ?_
  rintro e w' ⟨rfl,hO,hR⟩;refine⟨rfl,hO.turn,hR.congr ?_⟩;rw[hM.out];refine upR_row (fun t ht hne=>putAt_out (not_in_row ho.out (by omega) hne (Nat.le_refl _))) (fun j hj=>?_);rw[ho.out];exact putAt_in hj
 ·rintro e w4 ⟨g,M,rfl,hg,hR,b4⟩;have X4:=X3.below hs1 b4;have F4:=F3.below hs1 b4;have B4:Below w.heap.size w w4:=Below.next B1 b4;have x30:=X4.c0;have x31:=X4.c1;have x32:=X4.c2;have f30:=F4.f0;have f31:=F4.f1;have f32:=F4.f2;go_wp2;have O1:Only w.heap.size w4 (((w4.setCell ⟨w.heap.size,0,none⟩ (.int .i64 (m:Int))).setCell ⟨w.heap.size,1,none⟩ (.int .i64 (k:Int))).setCell ⟨w.heap.size,2,none⟩ (.slice (some ⟨g,0,none⟩) M M)):=
   (((Only.refl _ _).setCell 0 _).setCell 1 _).setCell 2 _
  refine bodyPost_ret (v:=.tuple #[.agg #[.int .i64 (m:Int),.int .i64 (k:Int),.slice (some ⟨g,0,none⟩) M M],.int .i64 0]) (by simp[results,Tryz.results159,go_sem,x30,x31,x32,f30,f31,f32]) rfl ⟨g,M,rfl,by omega,hR.only (apart_block (by omega)) O1,B4.trans (O1.below (by omega))⟩
def ro(L:List (List UInt8))(i:Nat):List UInt8:=L.getD i []
theorem ro_lt{L:List (List UInt8)}{i:Nat}(h:i<L.length):ro L i=L[i]:=by simp[ro,List.getD,h]
theorem ro_ge{L:List (List UInt8)}{i:Nat}(h:L.length<=i):ro L i=[]:=by simp[ro,List.getD,h]
theorem ro_some{L:List (List UInt8)}{i:Nat}(h:i<L.length):L[i]? =some (ro L i):=by rw[ro_lt h];exact List.getElem?_eq_getElem h
theorem ro_ext{L M:List (List UInt8)}(h:L.length=M.length)(h2:∀i,i<L.length->ro L i=ro M i):L=M:=by
 refine List.ext_getElem h fun i h1 h3=>?_
 have:=h2 i h1;rwa[ro_lt h1,ro_lt h3]at this
def mkL(n:Nat)(f:Nat->List UInt8):List (List UInt8):=(List.range n).map f
theorem mkL_length(n:Nat)(f:Nat->List UInt8):(mkL n f).length=n:=by simp[mkL]
theorem ro_mkL{n:Nat}{f:Nat->List UInt8}{i:Nat}(h:i<n):ro (mkL n f) i=f i:=by
 rw[ro_lt (by rw[mkL_length];exact h)];simp[mkL]
theorem mkL_ro(L:List (List UInt8)):mkL L.length (ro L)=L:=ro_ext (mkL_length _ _) fun i hi=>ro_mkL (by rwa[mkL_length]at hi)
theorem mkL_succ(n:Nat)(f:Nat->List UInt8):mkL (n+1) f=mkL n f++[f n]:=by simp[mkL,List.range_succ]
theorem mkL_congr{n:Nat}{f g:Nat->List UInt8}(h:∀i,i<n->f i=g i):mkL n f=mkL n g:=List.map_congr_left fun i hi=>h i (List.mem_range.1 hi)
theorem ro_append_left{L M:List (List UInt8)}{i:Nat}(h:i<L.length):ro (L++M) i=ro L i:=by simp[ro,List.getD,List.getElem?_append_left h]
theorem ro_append_right{L M:List (List UInt8)}{i:Nat}(h:L.length<=i):ro (L++M) i=ro M (i-L.length):=by simp[ro,List.getD,List.getElem?_append_right h]
theorem ro_take{L:List (List UInt8)}{k i:Nat}(h:i<k):ro (L.take k) i=ro L i:=by simp[ro,List.getD,List.getElem?_take_of_lt h]
theorem ro_set{L:List (List UInt8)}{k i:Nat}{x:List UInt8}(hk:k<L.length):ro (L.set k x) i=if i=k then x else ro L i:=by
 by_cases e:i=k
 ·subst e;rw[if_pos rfl];simp[ro,List.getD,List.getElem?_set_self hk]
 ·rw[if_neg e];simp[ro,List.getD,List.getElem?_set_ne (fun h=>e h.symm)]
def Rs(w:World)(v:Value)(L:List (List UInt8)):Prop:=
 ∃(a:Option Addr) (cap:Nat),v= .slice a L.length cap/\L.length<=cap/\cap<=maxLen/\(a=none->cap=0)/\
  ∀i,i<L.length->∃(b off:Nat) (x:Value),a=some ⟨b,off,none⟩/\b<w.heap.size/\w.cell? ⟨b,off+i,none⟩=some x/\Rd w x (ro L i)
theorem Rs.below{w w':World}{v:Value}{L:List (List UInt8)}(h:Rs w v L)(hb:Below w.heap.size w w'):Rs w' v L:=by
 obtain⟨a,cap,h1,h2,h3,h4,h5⟩:=h;refine⟨a,cap,h1,h2,h3,h4,fun i hi=>?_⟩;obtain⟨b,off,x,k1,k2,k3,k4⟩:=h5 i hi;exact⟨b,off,x,k1,Nat.lt_of_lt_of_le k2 hb.size,(hb.cell (p:=⟨b,off+i,none⟩) k2).trans k3,k4.below hb⟩
theorem Rs.form{w:World}{v:Value}{L:List (List UInt8)}(h:Rs w v L):∃a c,v= .slice a L.length c:=by
 obtain⟨a,c,e,_⟩:=h;exact⟨a,c,e⟩
theorem Rs.len{w:World}{v:Value}{L:List (List UInt8)}(h:Rs w v L):L.length<=maxLen:=by
 obtain⟨a,c,e,h1,h2,_⟩:=h;omega
theorem Rs.at{w:World}{a:Option Addr}{n c:Nat}{L:List (List UInt8)}(h:Rs w (.slice a n c) L){i:Nat}(hi:i<L.length):
  ∃(b off:Nat) (xa:Option Addr) (xc:Nat),a=some ⟨b,off,none⟩/\b<w.heap.size/\w.cell? ⟨b,off+i,none⟩=some (.slice xa (ro L i).length xc)/\Rd w (.slice xa (ro L i).length xc) (ro L i):=by
 obtain⟨a',c',e,h1,h2,h3,h4⟩:=h;simp at e;obtain⟨rfl,rfl,rfl⟩:=e;obtain⟨b,off,x,k1,k2,k3,k4⟩:=h4 i hi;obtain⟨xa,xc,rfl⟩:=k4.form;exact⟨b,off,xa,xc,k1,k2,k3,k4⟩
theorem Rs.get{w:World}{b off n c:Nat}{L:List (List UInt8)}(h:Rs w (.slice (some ⟨b,off,none⟩) n c) L){i:Nat}(hi:i<L.length):
  ∃(xa:Option Addr) (xc:Nat),w.cell? ⟨b,off+i,none⟩=some (.slice xa (ro L i).length xc)/\Rd w (.slice xa (ro L i).length xc) (ro L i):=by
 obtain⟨b',off',xa,xc,e,h1,h2,h3⟩:=h.at hi;simp at e;obtain⟨rfl,rfl⟩:=e;exact⟨xa,xc,h2,h3⟩
theorem Rs.somewhere{w:World}{v:Value}{L:List (List UInt8)}(h:Rs w v L)(hL:0<L.length):∃b off cap,v= .slice (some ⟨b,off,none⟩) L.length cap/\b<w.heap.size/\L.length<=cap/\cap<=maxLen:=by
 obtain⟨a,c,e,h1,h2,h3,h4⟩:=h;obtain⟨b,off,x,k1,k2,_⟩:=h4 0 hL;subst k1;exact⟨b,off,c,e,k2,h1,h2⟩
theorem Rd.byte{w:World}{a:Option Addr}{n c:Nat}{p:List UInt8}(h:Rd w (.slice a n c) p){i:Nat}(hi:i<p.length):∃b off,a=some ⟨b,off,none⟩/\b<w.heap.size/\w.cell? ⟨b,off+i,none⟩=some (.int .u8 ((co p i).toNat:Nat)):=by
 rcases h with⟨a',c',e,_⟩|⟨b,off,cap,_,e,_,_,k,hc⟩
 ·subst e;simp at hi
 ·simp at e;obtain⟨rfl,_⟩:=e;exact⟨b,off,rfl,k,hc i hi⟩
theorem rs_none{w:World}:Rs w (.slice none 0 0) []:=⟨none,0,rfl,Nat.le_refl _,Nat.zero_le _,fun _=>rfl,fun i hi=>by simp at hi⟩
theorem Rs.first{w:World}{b off n c k:Nat}{L:List (List UInt8)}(h:Rs w (.slice (some ⟨b,off,none⟩) n c) L)(hk:k<=L.length):Rs w (.slice (some ⟨b,off,none⟩) k c) (L.take k):=by
 obtain⟨a',c',e,h1,h2,h3,h4⟩:=h;simp at e;obtain⟨e1,e2,e3⟩:=e;subst e1 e3;have hl:(L.take k).length=k:=by rw[List.length_take];omega
 refine⟨some ⟨b,off,none⟩,c,by rw[hl],by rw[hl];omega,h2,nofun,fun i hi=>?_⟩;rw[hl]at hi;obtain⟨b',off',x,k1,k2,k3,k4⟩:=h4 i (by omega);exact⟨b',off',x,k1,k2,k3,by rw[ro_take hi];exact k4⟩
def Os(w:World)(base T u:Nat)(v:Value)(L:List (List UInt8)):Prop:=∃vals,w.ownsRow base T 1 v L.length vals/\RowsO w base u v vals (ro L)
theorem Os.rs{w:World}{base T u:Nat}{v:Value}{L:List (List UInt8)}(h:Os w base T u v L):Rs w v L:=by
 obtain⟨vals,hv,hr⟩:=h;have hlen:vals.length=L.length:=by have:=hv.1;omega
 have hv':=hv;obtain⟨_,⟨e,hn⟩|⟨g,cap,cur,e,hg,hh,hc,hm,hs,ht⟩⟩:=hv
 ·subst e
  have:L=[]:=List.length_eq_zero_iff.1 hn
  subst this;exact rs_none
 ·subst e;refine⟨some ⟨g,0,none⟩,cap,rfl,hc,hm,nofun,fun i hi=>?_⟩;have hx:vals[i]? =some vals[i]:=List.getElem?_eq_getElem (by omega)
  refine⟨g,0,vals[i],rfl,(Array.getElem?_eq_some_iff.1 hh).1,?_,Rd.owned (hr.own i _ hx)⟩;rw[Nat.zero_add,World.ownsRow.cellAt hv' i (by omega),hx]
theorem Os.nil(w:World)(base T u:Nat):Os w base T u (.slice none 0 0) []:=⟨[],World.ownsRow_nil _ _ _ _,RowsO.nil _ _ _ _ _⟩
theorem Os.later{w w':World}{base T u:Nat}{v:Value}{L:List (List UInt8)}(h:Os w base T u v L)(hb:Below w.heap.size w w'):Os w' base T u v L:=by
 obtain⟨vals,hv,hr⟩:=h;exact⟨vals,owns_later hv hb,⟨fun i x hx=>owns_later (hr.own i x hx) hb,hr.diff,hr.out⟩⟩
theorem Os.base{w:World}{base base' T u:Nat}{v:Value}{L:List (List UInt8)}(h:Os w base T u v L)(hb:base'<=base):Os w base' T u v L:=by
 obtain⟨vals,hv,hr⟩:=h;exact⟨vals,ownsRow_base hv hb,⟨fun i x hx=>ownsRow_base (hr.own i x hx) hb,hr.diff,hr.out⟩⟩
theorem co_at{p:List UInt8}{n j:Nat}{y:UInt8}(hn:n<p.length):co (p.set n y) j=if j=n then y else co p j:=by
 by_cases e:j=n
 ·subst e;rw[if_pos rfl];simp[co,List.getD,hn]
 ·rw[if_neg e];simp[co,List.getD,List.getElem?_set_ne (fun h=>e h.symm)]
theorem Os.push{wr w1 w2:World}{base T u:Nat}{v v' x:Value}{L:List (List UInt8)}{p:List UInt8}{o':Obj}{vals:List Value}(hv:wr.ownsRow base T 1 v L.length vals)(hr:RowsO wr base u v vals (ro L))(b1:Below wr.heap.size wr w1)(hx:OwnP w1 base u x p)(hb1:∀k,x.ownBlock=some k->wr.heap.size<=k)
  (g2:(w1.alloc o').grownBy w2 v.ownBlock) (hb2:v'.ownBlock=v.ownBlock∨v'.ownBlock=some (w1.alloc o').heap.size) (hv':w2.ownsRow base T 1 v' (L.length+1) (vals++[x])):Os w2 base T u v' (L++[p]):=by
 have hlen:vals.length=L.length:=by have:=hv.1;omega
 have vlt:∀k,v.ownBlock=some k->k<wr.heap.size:=fun k hk=>(World.ownsRow.lt hv k hk).2
 have old:∀(i:Nat) (y:Value),vals[i]? =some y->∀k,y.ownBlock=some k->k<wr.heap.size:=fun i y hy k hk=>((hr.own i y hy).lt hk).2
 have xlt:∀k,x.ownBlock=some k->k<w1.heap.size:=fun k hk=>(hx.lt hk).2
 have s1:=b1.size;refine⟨vals++[x],by rw[List.length_append];exact hv',?_⟩;have at_end:∀i y,(vals++[x])[i]? =some y->(vals[i]? =some y/\i<vals.length)∨(i=vals.length/\y=x):=fun i y hy=>by
  by_cases hi:i<vals.length
  ·rw[List.getElem?_append_left hi]at hy;exact Or.inl ⟨hy,hi⟩
  ·rw[List.getElem?_append_right (by omega)]at hy
   have:i-vals.length=0:=by
    rcases Nat.eq_zero_or_pos (i-vals.length)with e|e
    ·exact e
    ·rw[List.getElem?_eq_none (by simp;omega)]at hy;cases hy
   rw[this]at hy;simp at hy;exact Or.inr ⟨by omega,hy.symm⟩
 have keep:∀i y,vals[i]? =some y->OwnP w2 base u y (ro L i):=fun i y hy=>
  ((owns_later (hr.own i y hy) b1:OwnP w1 base u y (ro L i)).alloc o').kept g2 (hr.out i y hy)
 have xkeep:OwnP w2 base u x p:=(hx.alloc o').kept g2 (block_apart' hb1 vlt);have vout:∀y:Value,(∀k,y.ownBlock=some k->k<w1.heap.size)->(y.ownBlock=none∨y.ownBlock≠v.ownBlock)->(y.ownBlock=none∨y.ownBlock≠v'.ownBlock):=fun y hy ho=>by
  rcases hb2 with e|e
  ·rw[e];exact ho
  ·refine block_apart hy (fun k hk=>?_);rw[e]at hk;simp at hk;omega
 refine⟨fun i y hy=>?_,fun i j y z hy hz hij=>?_,fun i y hy=>?_⟩
 ·rcases at_end i y hy with⟨e,hi⟩|⟨rfl,rfl⟩
  ·rw[ro_append_left (by omega)];exact keep i y e
  ·rw[ro_append_right (by omega),hlen,Nat.sub_self];exact xkeep
 ·rcases at_end i y hy with⟨e,_⟩|⟨rfl,rfl⟩
  ·rcases at_end j z hz with⟨e',_⟩|⟨rfl,rfl⟩
   ·exact hr.diff i j y z e e' hij
   ·exact block_apart (old i y e) hb1
  ·rcases at_end j z hz with⟨e',_⟩|⟨rfl,rfl⟩
   ·exact block_apart' hb1 (old j z e')
   ·exact absurd rfl hij
 ·rcases at_end i y hy with⟨e,_⟩|⟨rfl,rfl⟩
  ·exact vout y (fun k hk=>by have:=old i y e k hk;omega) (hr.out i y e)
  ·exact vout y xlt (block_apart' hb1 vlt)
theorem Os.form{w:World}{base T u:Nat}{v:Value}{L:List (List UInt8)}(h:Os w base T u v L):∃a c,v= .slice a L.length c:=h.rs.form
theorem wpList_append_os{P:Program}{wr w1:World}{ops:Array Oper}{rest:List Oper}{o:Oper}{a:Act}{Q:Exit->Act->World->Prop}(hgd:o.guard=none)(s xo:Operand)(t:TypeId)
  (ho:o.op= .call {callee:=.builtin .append,args:=#[s,xo],argTypes:=#[t,t]})
  (base e:Nat) (i:TypeInfo) (ht:P.underlying t=some (.slice e)) (hi:P.info? e=some i) (hz:i.zero=some (.slice none 0 0)) (hsize:i.size=1) (hby:i.bytes=24)
  (u:Nat) (v:Value) (L:List (List UInt8)) (hs:a.eval s=v) (hO:Os wr base e u v L) (b1:Below wr.heap.size wr w1) (x:Value) (p:List UInt8) (hx:OwnP w1 base u x p) (hb1:∀k,x.ownBlock=some k->wr.heap.size<=k)
  (et c:Nat) (hxo:a.eval xo= .slice (some ⟨w1.heap.size,0,none⟩) 1 c) (hl:L.length<=100000) (hbase:base<=wr.heap.size)
  (h:∀v' w2,Os w2 base e u v' (L++[p])->Below base wr w2->(∀q,q<w1.heap.size->v.ownBlock≠some q->w2.heap[q]? =w1.heap[q]?)->(∀q,q<w1.heap.size->v.ownBlock≠some q->v'.ownBlock≠some q)->wpList P ops Q rest (a.put o.dst v') w2):wpList P ops Q (o::rest) a (w1.alloc (.cells #[x] et)):=by
 obtain⟨vals,hv,hr⟩:=hO;have s1:=b1.size;refine wpList_append_one _ hgd s xo t ho base e i ht hi hz hsize hby v L.length vals hs (World.ownsRow.alloc (owns_later hv b1) _) w1.heap.size c x hxo (by simp) hx.one hl (by simp;omega) ?_
 intro v' w2 hv2 hg2 hb2;refine h v' w2 (Os.push hv hr b1 hx hb1 hg2 hb2 hv2) ?_ (fun q hq hne=>?_) (fun q hq hne=>?_)
 rotate_left
 ·rw[hg2.block q (by simp;omega) (fun e=>hne e.symm)];exact((Below.refl w1.heap.size w1).alloc (Nat.le_refl _) _).block q hq
 ·rcases hb2 with e|e
  ·rw[e];exact hne
  ·rw[e];intro h;cases h;simp at hq;omega
 exact(((b1.mono hbase).alloc (by omega) _).grown hg2 (by simp;omega) (fun q hq=>(World.ownsRow.lt hv q hq).1))
def MakesRs(w:World)(x:Int)(L:List (List UInt8))(e:Ending)(w':World):Prop:=∃v,e= .returned (.tuple #[v,.int .i64 x])/\Rs w' v L/\Below w.heap.size w w'
def Small(L:List (List UInt8)):Prop:=L.length<=300/\∀i,(ro L i).length<=300
end Go.Proofs.YtddnfhfangfgeaaGreat.Gf
