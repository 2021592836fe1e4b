/- JOINED: ReRefA, ReRefB, ReRefC, ReUO, ReRefQ, ReRefM, ReNx. -/
import Derived.Test.YtclieefpnbdbjaaGreatPome18
set_option maxHeartbeats 4000000
set_option maxRecDepth 100000
namespace Go.Proofs.YtclieefpnbdbjaaGreat.Gf
set_option linter.unusedVariables false
set_option linter.unusedSimpArgs false
open Go.RowKit
theorem ch_bad{p:Prop} (h:p:=by
 go_enter Tryz.func90,Tryz.ntmps90
 go_wp2;go_ret;exact⟨rfl,FB _⟩):p:=h
theorem z20_1{p:Prop} (h:p:=by
 have hall2:Hid (0<=st.getD r 0->st.getD r 0<256->∀j,j<r+1->0<=st.getD j 0/\st.getD j 0<256):=fun h0 h1 j hj=>by
  by_cases e:j=r
  ·rw[e];exact⟨h0,h1⟩
  ·exact hall.out j Zo
 generalize st.getD r 0=z at cz N1 hall2
 by_cases z0:z<0
 ·obtain rfl:x=1:=HX.out.symm.trans (N1 (Or.inl z0));clear N1 hall2 hall;go_wp2;go_ret;exact⟨rfl,B1⟩
 by_cases z1:z>=256
 ·obtain rfl:x=1:=HX.out.symm.trans (N1 (Or.inr z1));clear N1 hall2 hall;go_wp2;go_ret;exact⟨rfl,B1⟩
 ·have H3:Hid _:=hall2.out Zo Zo;clear N1 hall2 hall;go_wp2;go_roundw
  case rel=>exact⟨r+1,Zo,Zg,by first|rfl|trivial,H3.out⟩
  case measure=>simp[intOf];omega
 ):p:=h
theorem ch_loop1{p:Prop} (h:p:=by
 obtain⟨w1,hw1⟩:∃w1,w1=w.alloc (.cells #[.int .i64 1,.string ⟨ky.toArray⟩,.int .i64 ln,.slice a st.length cp] 38):=⟨_,rfl⟩;have B1:Below w.heap.size w w1:=by rw[hw1];exact FB _
 have c0:w1.cell? ⟨w.heap.size,0,none⟩=some (.int .i64 1):=by rw[hw1,World.cell?_alloc_new];rfl
 have c2:w1.cell? ⟨w.heap.size,2,none⟩=some (.int .i64 ln):=by rw[hw1,World.cell?_alloc_new];rfl
 have c3:w1.cell? ⟨w.heap.size,3,none⟩=some (.slice a st.length cp):=by rw[hw1,World.cell?_alloc_new];rfl
 have HR1:=HR.below B1
 go_enter Tryz.func90,Tryz.ntmps90
 go_wp2;rw[<-hw1];clear hw1 HR FB
 go_loopw [3] (fun i wr=>∃r:Nat,r<=st.length/\i= .int .i64 (r:Int)/\wr=w1/\Hid (∀j,j<r->0<=st.getD j 0/\st.getD j 0<256)) (fun i _=>st.length-(intOf i).toNat)
 case atStart=>exact⟨0,Zz,rfl,rfl,fun j hj=>absurd hj (Nat.not_lt_zero _)⟩
 case round=>
  obtain⟨r,hr,rfl,rfl,hall⟩:=hrel
  by_cases hlt:r<st.length
  ·have hlt':(r:Int)<(st.length:Int):=by omega
   have hrl:(r:Int)<=(st.length:Int):=Zo
   obtain⟨b,off,e,cz⟩:=HR1.at16 hlt;subst e;have N1:=fun q=>@ch_not 1 ln ky st r hlt q
   exact z20_1
  ·obtain rfl:r=st.length:=by omega
   have hge:¬(st.length:Int)<(st.length:Int):=Zo
   have HA:Hid _:=ch_all hall.out;clear hall hlt;obtain rfl:x=0:=HX.out.symm.trans (if_pos ⟨Or.inl rfl,by simp only;omega,by simp only;omega,by simp only;omega,by simp only;omega,by simp only;omega,HA.out,fun e=>by simp at e⟩);go_wp2;go_ret;exact⟨rfl,B1⟩):p:=h
theorem ch_loop2{p:Prop} (h:p:=by
 obtain⟨w1,hw1⟩:∃w1,w1=w.alloc (.cells #[.int .i64 2,.string ⟨ky.toArray⟩,.int .i64 ln,.slice a st.length cp] 38):=⟨_,rfl⟩;have B1:Below w.heap.size w w1:=by rw[hw1];exact FB _
 have c0:w1.cell? ⟨w.heap.size,0,none⟩=some (.int .i64 2):=by rw[hw1,World.cell?_alloc_new];rfl
 have c2:w1.cell? ⟨w.heap.size,2,none⟩=some (.int .i64 ln):=by rw[hw1,World.cell?_alloc_new];rfl
 have c3:w1.cell? ⟨w.heap.size,3,none⟩=some (.slice a st.length cp):=by rw[hw1,World.cell?_alloc_new];rfl
 have HR1:=HR.below B1
 go_enter Tryz.func90,Tryz.ntmps90
 go_wp2;rw[<-hw1];clear hw1 HR FB
 go_loopw [3] (fun i wr=>∃r:Nat,r<=st.length/\i= .int .i64 (r:Int)/\wr=w1/\Hid (∀j,j<r->0<=st.getD j 0/\st.getD j 0<256)) (fun i _=>st.length-(intOf i).toNat)
 case atStart=>exact⟨0,Zz,rfl,rfl,fun j hj=>absurd hj (Nat.not_lt_zero _)⟩
 case round=>
  obtain⟨r,hr,rfl,rfl,hall⟩:=hrel
  by_cases hlt:r<st.length
  ·have hlt':(r:Int)<(st.length:Int):=by omega
   have hrl:(r:Int)<=(st.length:Int):=Zo
   obtain⟨b,off,e,cz⟩:=HR1.at16 hlt;subst e;have N1:=fun q=>@ch_not 2 ln ky st r hlt q
   exact z20_1
  ·obtain rfl:r=st.length:=by omega
   have hge:¬(st.length:Int)<(st.length:Int):=Zo
   have HA:Hid _:=ch_all hall.out;clear hall hlt
   by_cases l0:ln=0
   rotate_left
   ·obtain rfl:x=1:=HX.out.symm.trans (if_neg fun q=>l0 (q.2.2.2.2.2.2.2 rfl).1);go_wp2;go_ret;exact⟨rfl,B1⟩
   by_cases s0:st.length=0
   rotate_left
   ·obtain rfl:x=1:=HX.out.symm.trans (if_neg fun q=>s0 (q.2.2.2.2.2.2.2 rfl).2);have s1:(st.length:Int)>0:=by omega
    go_wp2;go_ret;exact⟨rfl,B1⟩
   ·obtain rfl:x=0:=HX.out.symm.trans (if_pos ⟨Or.inr rfl,by simp only;omega,by simp only;omega,by simp only;omega,by simp only;omega,by simp only;omega,HA.out,fun _=>⟨l0,s0⟩⟩);have s1:¬(st.length:Int)>0:=by omega
    go_wp2;go_ret;exact⟨rfl,B1⟩):p:=h
theorem z20_2{p:Prop} (h:p:=by
 subst hx
 rcases h1 with h1|h1<;>subst h1<;>exact ch_bad
 ):p:=h
theorem rchk16_any{w:World}{c:RcV}(h:c.In w){x:Int}(hx:chR c.r=x):Calls Tryz.prog 90 #[aggR c] w fun e w'=>e= .returned (.int .i64 x)/\Below w.heap.size w w':=by
 obtain⟨⟨kd,ky,ln,st⟩,vs⟩:=c;have HR:=h.rs;obtain⟨a,cp,e⟩:=HR.form;simp only at e HR hx;subst e;have FB:=fun o=>belR w o
 clear h
 show Calls Tryz.prog 90 #[.agg #[.int .i64 kd,.string ⟨ky.toArray⟩,.int .i64 ln,.slice a st.length cp]] w _
 by_cases h1:kd=1∨kd=2
 rotate_left
 ·rw[show chR ⟨kd,ky,ln,st⟩=1 from if_neg (fun q=>h1 q.1)]at hx;subst hx;have q1:¬kd=1:=fun e=>h1 (Or.inl e)
  have q2:¬kd=2:=fun e=>h1 (Or.inr e)
  clear h1;exact ch_bad
 by_cases h2:(ky.length:Int)<1
 ·rw[show chR ⟨kd,ky,ln,st⟩=1 from if_neg (fun q=>by have:=q.2.1;simp only at this;omega)]at hx;exact z20_2
 by_cases h3:(ky.length:Int)>64
 ·rw[show chR ⟨kd,ky,ln,st⟩=1 from if_neg (fun q=>by have:=q.2.2.1;simp only at this;omega)]at hx;exact z20_2
 by_cases h4:ln<0
 ·rw[show chR ⟨kd,ky,ln,st⟩=1 from if_neg (fun q=>by have:=q.2.2.2.1;simp only at this;omega)]at hx;exact z20_2
 by_cases h5:ln>2147483647
 ·rw[show chR ⟨kd,ky,ln,st⟩=1 from if_neg (fun q=>by have:=q.2.2.2.2.1;simp only at this;omega)]at hx;exact z20_2
 by_cases h6:(st.length:Int)>256
 ·rw[show chR ⟨kd,ky,ln,st⟩=1 from if_neg (fun q=>by have:=q.2.2.2.2.2.1;simp only at this;omega)]at hx;exact z20_2
 have HX:Hid (chR ⟨kd,ky,ln,st⟩=x):=hx;clear hx
 rcases h1 with h1|h1<;>subst h1
 ·exact ch_loop1
 ·exact ch_loop2
theorem rtwo_any{n:Nat}(hn:n<65536){w:World}{u:Int}(hu:u=(n:Int)):Calls Tryz.prog 138 #[.int .i64 u] w fun e w'=>∃v,e= .returned v/\w'.ownsRow w.heap.size 5 1 v 2 ((tw n).map vb)/\Below w.heap.size w w':=by
 subst hu;obtain⟨x0,hx0⟩:∃x,Hid (x=UInt8.ofNat (n/256)):=⟨_,rfl⟩;obtain⟨x1,hx1⟩:∃x,Hid (x=UInt8.ofNat n):=⟨_,rfl⟩;have e0:(n:Int)/256=((x0.toNat:Nat):Int):=by rw[hx0.out,UInt8.toNat_ofNat'];omega
 have e1:(n:Int)%256=((x1.toNat:Nat):Int):=by rw[hx1.out,UInt8.toNat_ofNat'];omega
 have hF:Hid (tw n=[x0,x1]):=by show _=_;rw[hx0.out,hx1.out];rfl
 rw[hF.out];clear hF hx0 hx1
 go_enter Tryz.func138,Tryz.ntmps138
 go_wp2;go_ret;refine⟨_,rfl,?_,Zf.alloc Zr _⟩;exact World.ownsRow_lit w #[vb x0,vb x1] 2 Zr Zd rfl
def MakesF16(w:World)(X:Int)(p:List UInt8)(e:Ending)(w':World):Prop:=∃v,e= .returned (.tuple #[v,.int .i64 X])/\Rd w' v p/\Below w.heap.size w w'/\∀k,v.ownBlock=some k->w.heap.size<=k
theorem nilF16{w w':World}{X:Int}(b:Below w.heap.size w w'){p:List UInt8}(h:p=[]):MakesF16 w X p (.returned (.tuple #[.slice none 0 0,.int .i64 X])) w':=by
 subst h;exact⟨_,rfl,Or.inl ⟨none,0,rfl,rfl,Zz,fun _=>rfl⟩,b,fun k hk=>by cases hk⟩
def preR(r:RcS):List UInt8:=([UInt8.ofNat r.kind.toNat,UInt8.ofNat r.key.length]++r.key++fo r.len.toNat)++tw r.st.length
theorem en_pre(r:RcS):enR r=preR r++stB r.st:=by
 unfold enR preR;simp only[List.append_assoc,List.cons_append,List.nil_append]
theorem renc16_far{w:World}{c:RcV}(h:c.In w){X:Int}(hX:chR c.r=X){P:List UInt8}(hP:(if OkR c.r then enR c.r else [])=P):Calls Tryz.prog 91 #[aggR c] w (MakesF16 w X P):=by
 obtain⟨⟨kd,ky,ln,st⟩,vs⟩:=c;have HR:=h.rs;obtain⟨a,cp,e⟩:=HR.form;simp only at e HR hX hP;subst e;obtain⟨w1,hw1⟩:∃w1,w1=w.alloc (.cells #[.int .i64 kd,.string ⟨ky.toArray⟩,.int .i64 ln,.slice a st.length cp] 38):=⟨_,rfl⟩;have B1:Below w.heap.size w w1:=by rw[hw1];exact belR _ _
 have s1:w.heap.size<w1.heap.size:=by rw[hw1];show w.heap.size<(w.heap.push _).size;rw[Array.size_push];exact Nat.lt_succ_self _
 have c0:w1.cell? ⟨w.heap.size,0,none⟩=some (.int .i64 kd):=by rw[hw1,World.cell?_alloc_new];rfl
 have c1:w1.cell? ⟨w.heap.size,1,none⟩=some (.string ⟨ky.toArray⟩):=by rw[hw1,World.cell?_alloc_new];rfl
 have c2:w1.cell? ⟨w.heap.size,2,none⟩=some (.int .i64 ln):=by rw[hw1,World.cell?_alloc_new];rfl
 have c3:w1.cell? ⟨w.heap.size,3,none⟩=some (.slice a st.length cp):=by rw[hw1,World.cell?_alloc_new];rfl
 have KP:Hid (∀W,Below w1.heap.size w1 W->W.cell? ⟨w.heap.size,0,none⟩=some (.int .i64 kd)/\W.cell? ⟨w.heap.size,1,none⟩=some (.string ⟨ky.toArray⟩)/\W.cell? ⟨w.heap.size,2,none⟩=some (.int .i64 ln)/\W.cell? ⟨w.heap.size,3,none⟩=some (.slice a st.length cp)):=fun W b=>
  ⟨(b.cell (p:=⟨w.heap.size,0,none⟩) s1).trans c0,(b.cell (p:=⟨w.heap.size,1,none⟩) s1).trans c1,(b.cell (p:=⟨w.heap.size,2,none⟩) s1).trans c2,(b.cell (p:=⟨w.heap.size,3,none⟩) s1).trans c3⟩
 have K:Calls Tryz.prog 90 #[.agg #[.int .i64 kd,.string ⟨ky.toArray⟩,.int .i64 ln,.slice a st.length cp]] w1 _:=rchk16_any (h.below B1) hX;have HR1:=HR.below B1;obtain⟨i0,hi,hz0,hz1,hz2⟩:=info_parts info_u8;clear h HR
 show Calls Tryz.prog 91 #[.agg #[.int .i64 kd,.string ⟨ky.toArray⟩,.int .i64 ln,.slice a st.length cp]] w _
 go_enter Tryz.func91,Tryz.ntmps91
 go_wp2_with fail
 rw[<-hw1];clear hw1 c0 c1 c2 c3;refine K.mono ?_
 rintro _ w2 ⟨rfl,B2⟩;clear K
 by_cases hok:OkR ⟨kd,ky,ln,st⟩
 rotate_left
 ·rw[chR,if_neg hok]at hX;rw[if_neg hok]at hP;subst hX;clear KP HR1 hok;go_wp2;exact bodyPost_ret (v:=.tuple #[.slice none 0 0,.int .i64 1]) (by simp[results,Tryz.results91,go_sem]) rfl (nilF16 (B1.step16 B2 (Nat.le_of_lt s1)) hP.symm)
 rw[chR,if_pos hok]at hX;rw[if_pos hok]at hP;subst hX;have OK1:0<=kd/\kd<256:=by have:=hok.1;simp only at this;omega
 have OK2:ky.length<=64:=hok.2.2.1;have OK3:0<=ln/\ln<=2147483647:=⟨hok.2.2.2.1,hok.2.2.2.2.1⟩;have OK4:st.length<=256:=hok.2.2.2.2.2.1;have OK5:Hid (∀s∈st,0<=s/\s<256):=hok.2.2.2.2.2.2.1;have HP:Hid (P=preR ⟨kd,ky,ln,st⟩++stB st):=hP.symm.trans (en_pre _);clear hok hP;obtain⟨x0,hx0⟩:∃x,Hid (x=UInt8.ofNat kd.toNat):=⟨_,rfl⟩;obtain⟨x1,hx1⟩:∃x,Hid (x=UInt8.ofNat ky.length):=⟨_,rfl⟩;have q0:IntKind.u8.wrap kd=((x0.toNat:Nat):Int):=by rw[hx0.out,<-wrap_u8,Int.toNat_of_nonneg OK1.1]
 have q1:IntKind.u8.wrap (ky.length:Int)=((x1.toNat:Nat):Int):=by rw[hx1.out];exact wrap_u8 _
 have q2:IntKind.u32.wrap ln=ln:=by rw[IntKind.wrap_u32];omega
 obtain⟨k0,k1,k2,k3⟩:=KP.out w2 B2;have oL:OwnP (w2.alloc (.cells #[.int .u8 ((x0.toNat:Nat):Int),.int .u8 ((x1.toNat:Nat):Int)] 5)) w2.heap.size 5 (.slice (some ⟨w2.heap.size,0,none⟩) 2 2) [x0,x1]:=World.ownsRow_lit w2 #[vb x0,vb x1] 2 Zr Zd rfl;have bL:Below w2.heap.size w2 (w2.alloc (.cells #[.int .u8 ((x0.toNat:Nat):Int),.int .u8 ((x1.toNat:Nat):Int)] 5)):=belR _ _;have kL:(w2.alloc (.cells #[.int .u8 ((x0.toNat:Nat):Int),.int .u8 ((x1.toNat:Nat):Int)] 5)).cell? ⟨w.heap.size,1,none⟩=some (.string ⟨ky.toArray⟩):=(KP.out (w2.alloc (.cells #[.int .u8 ((x0.toNat:Nat):Int),.int .u8 ((x1.toNat:Nat):Int)] 5)) (B2.step16 bL B2.size)).2.1;obtain⟨c4,U4,r4,R4,b4,s4⟩:=conv_key (w2.alloc (.cells #[.int .u8 ((x0.toNat:Nat):Int),.int .u8 ((x1.toNat:Nat):Int)] 5)) ky Zl;have o4:OwnP U4 w2.heap.size 5 _ _:=owns_later oL b4;have B4:Below w2.heap.size w2 U4:=bL.step16 b4 bL.size;rw[show(w2.alloc (.cells #[.int .u8 ((x0.toNat:Nat):Int),.int .u8 ((x1.toNat:Nat):Int)] 5)).heap.size=w2.heap.size+1 by simp]at r4 R4;clear oL bL b4 s4
 go_wp2_with (at_builtin;(refine wpList_append_rd2 _ rfl (.tmp 19) (.tmp 22) 42 rfl w2.heap.size 5 i0 Tryz.underlying42 hi hz0 hz1 hz2 _ _ _ rfl o4 _ ky rfl R4 (by show 2+_<=_;omega) B4.size ?_);intro v5 w5 h5 g5 e5;have o5:=cat16 h5;have B5:=B4.grown g5 B4.size (fun q hq=>(Zv o4 q hq).1);clear h5 g5 e5 o4 R4;obtain⟨k0,k1,k2,k3⟩:=KP.out w5 (B2.step16 B5 B2.size))
 refine(rfour_any (n:=ln.toNat) (Int.toNat_of_nonneg OK3.1).symm).mono ?_
 rintro _ w6 ⟨v6,rfl,o6,b6⟩;have R6:Rd w6 v6 (fo ln.toNat):=Rd.owned o6;have p6:=owns_later o5 b6;have B6:=B5.step16 b6 B5.size;clear o6 b6 B5 o5
 go_wp2_with (at_builtin;(refine wpList_append_rd2 _ rfl (.tmp 24) (.tmp 28) 42 rfl w2.heap.size 5 i0 Tryz.underlying42 hi hz0 hz1 hz2 _ _ _ rfl p6 _ _ rfl R6 (by simp[fo_length];omega) B6.size ?_);intro v7 w7 h7 g7 e7;have o7:=cat16 h7;have B7:=B6.grown g7 B6.size (fun q hq=>(Zv p6 q hq).1);clear h7 g7 e7 p6 R6;obtain⟨k0,k1,k2,k3⟩:=KP.out w7 (B2.step16 B7 B2.size))
 refine(rtwo_any (n:=st.length) Zo rfl).mono ?_
 rintro _ w8 ⟨v8,rfl,o8,b8⟩;have R8:Rd w8 v8 (tw st.length):=Rd.owned o8;have p8:=owns_later o7 b8;have B8:=B7.step16 b8 B7.size;clear o8 b8 B7 o7;have HPR:Hid (preR ⟨kd,ky,ln,st⟩=(([x0,x1]++ky)++fo ln.toNat)++tw st.length):=by show _=_;rw[hx0.out,hx1.out];rfl
 have hpl:(preR ⟨kd,ky,ln,st⟩).length<=100:=by rw[HPR.out];simp[fo_length,tw_length];omega
 go_wp2_with (at_builtin;(refine wpList_append_rd2 _ rfl (.tmp 30) (.tmp 34) 42 rfl w2.heap.size 5 i0 Tryz.underlying42 hi hz0 hz1 hz2 _ _ _ rfl p8 _ _ rfl R8 (by simp[fo_length,tw_length];omega) B8.size ?_);intro v9 w9 h9 g9 e9;have o9:=cat16 h9;have B9:=B8.grown g9 B8.size (fun q hq=>(Zv p8 q hq).1);rw[<-HPR.out]at o9;clear h9 g9 e9 p8 R8 B8 HPR hx0 hx1 q0 q1 q2;obtain⟨k0,k1,k2,k3⟩:=KP.out w9 (B2.step16 B9 B2.size))
 generalize preR ⟨kd,ky,ln,st⟩=pr at o9 hpl HP;clear k0 k1 k2 k3
 go_loopw [5,6] (fun ov i wr=>∃r:Nat,r<=st.length/\i= .int .i64 (r:Int)/\OwnP wr w2.heap.size 5 ov (pr++stB (st.take r))/\Below w2.heap.size w2 wr) (fun _ i _=>st.length-(intOf i).toNat)
 case atStart=>exact⟨0,Zz,rfl,by rw[List.take_zero,show stB []=[]from rfl,List.append_nil];exact o9,B9⟩
 case round=>
  obtain⟨r,hr,rfl,hO,hB⟩:=hrel;obtain⟨Q,hQ⟩:∃Q,Hid (Q=pr++stB (st.take r)):=⟨_,rfl⟩;rw[<-hQ.out]at hO;obtain⟨oa,oc,rfl⟩:=owns_form hO;have hB':=B2.step16 hB B2.size;obtain⟨k0,k1,k2,k3⟩:=KP.out _ hB'
  by_cases hlt:r<st.length
  ·have hlt':(r:Int)<(st.length:Int):=by omega
   have hrl:(r:Int)<=(st.length:Int):=Zo
   obtain⟨b,off,e,cz⟩:=(HR1.below hB').at16 hlt;subst e;have zz:=OK5.out _ (List.getElem_mem hlt);have ez:st.getD r 0=st[r]:=by rw[List.getD_eq_getElem?_getD,List.getElem?_eq_getElem hlt];rfl
   have hst:Hid (stB (st.take (r+1))=stB (st.take r)++tw (st[r]).toNat):=by
    show _=_
    rw[List.take_succ_eq_append_getElem hlt,stB_append]
    show _++(tw _++[])=_
    rw[List.append_nil]
   have hll:Hid (Q.length<=700):=by show _<=_;rw[hQ.out,List.length_append,stB_length,List.length_take];omega
   rw[ez]at cz;generalize st[r]=z at cz zz hst;clear ez
   go_wp2_with fail
   refine(rtwo_any (n:=z.toNat) Zo (Int.toNat_of_nonneg zz.1).symm).mono ?_
   rintro _ u1 ⟨v1,rfl,o1,b1⟩;have R1:Rd u1 v1 (tw z.toNat):=Rd.owned o1;have p1:=owns_later hO b1;have C1:=hB.step16 b1 hB.size;clear o1 b1 hO hB k0 k1 k2 k3 cz hB';have hl3:=hll.out
   go_wp2_with (at_builtin;(refine wpList_append_rd2 _ rfl (.tmp 43) (.tmp 49) 42 rfl w2.heap.size 5 i0 Tryz.underlying42 hi hz0 hz1 hz2 _ _ _ rfl p1 _ _ rfl R1 (by simp only[List.length_append,tw_length];omega) C1.size ?_);intro v3 w3 h3 g3 e3;have o3:=cat16 h3;have C3:=C1.grown g3 C1.size (fun q hq=>(Zv p1 q hq).1);rw[hQ.out,List.append_assoc,<-hst.out]at o3;clear h3 g3 e3 p1 R1 C1)
   go_roundw
   case rel=>exact⟨r+1,Zo,Zg,o3,C3⟩
   case measure=>simp[intOf];omega
  ·obtain rfl:r=st.length:=by omega
   have hge:¬(st.length:Int)<(st.length:Int):=Zo
   have eQ:Q=P:=by rw[hQ.out,List.take_length,<-HP.out]
   have HF:Hid (Rd wr (.slice oa Q.length oc) P/\Below w.heap.size w wr):=⟨by rw[<-eQ];exact Rd.owned hO,B1.step16 hB' (Nat.le_of_lt s1)⟩;have HG:Hid (∀k,(Value.slice oa Q.length oc).ownBlock=some k->w.heap.size<=k):=fun k hk=>Nat.le_trans (Nat.le_trans (Nat.le_of_lt s1) B2.size) (Zv hO k hk).1
   clear eQ;clear hO;go_wp2;exact bodyPost_ret (v:=.tuple #[.slice oa Q.length oc,.int .i64 0]) (by simp[results,Tryz.results91,go_sem]) rfl ⟨_,rfl,HF.out.1,HF.out.2,HG.out⟩
theorem unO_snoc{n:Nat}{b:List UInt8}{l:List ObS}{r:List UInt8}(h:unO n b=some (l,r)):unO (n+1) b=if NxO r then some (l++[raO r],reO r)else none:=by
 induction n generalizing b l with
 |zero=>
  have h:some (([]:List ObS),b)=some (l,r):=h;simp only[Option.some.injEq,Prod.mk.injEq]at h;obtain⟨rfl,rfl⟩:=h;rfl
 |succ n ih=>
  unfold unO at h
  by_cases q:NxO b
  ·rw[if_pos q]at h;cases e:unO n (reO b)with
   |none=>rw[e]at h;cases h
   |some x=>
    obtain⟨l',r'⟩:=x;rw[e]at h;simp only[Option.map_some,Option.some.injEq,Prod.mk.injEq]at h;obtain⟨rfl,rfl⟩:=h
    show(if NxO b then (unO (n+1) (reO b)).map (fun x=>(raO b::x.1,x.2))else none)=_
    rw[if_pos q,ih e]
    by_cases q2:NxO r'
    ·rw[if_pos q2,if_pos q2];rfl
    ·rw[if_neg q2,if_neg q2];rfl
  ·rw[if_neg q]at h;cases h
theorem unO_none{n m:Nat}{b:List UInt8}(h:unO n b=none)(hm:n<=m):unO m b=none:=by
 induction n generalizing b m with
 |zero=>cases h
 |succ n ih=>
  obtain⟨m,rfl⟩:∃k,m=k+1:=⟨m-1,Zo⟩;unfold unO at h ⊢
  by_cases q:NxO b
  ·rw[if_pos q]at h ⊢;cases e:unO n (reO b)with
   |none=>rw[ih e Zo];rfl
   |some x=>rw[e]at h;cases h
  ·rw[if_neg q]
theorem unO_rest{n:Nat}{b:List UInt8}{l:List ObS}{r:List UInt8}(h:unO n b=some (l,r)):r.length<=b.length/\l.length=n:=by
 have k:=un_back h;refine⟨?_,k.1⟩;have:=congrArg List.length k.2.2;rw[List.length_append]at this;omega
theorem un_cut{r C:Nat}{b s:List UInt8}{l m:List ObS}{t:List UInt8}(h:unO r b=some (l,s))(hr:r<C)(hn:¬NxO s):unO C b≠some (m,t):=fun e=>by
 have h1:=unO_snoc h;rw[if_neg hn]at h1;rw[unO_none h1 Zo]at e;cases e
theorem raO_stU(q:List UInt8):(raO q).st.length<65536:=by
 show(stN _ _).length<_
 rw[stN_length];exact un_lt _
theorem row_later{w w':World}{base e s n:Nat}{v:Value}{xs:List Value}(h:w.ownsRow base e s v n xs)(t:Below w.heap.size w w'):w'.ownsRow base e s v n xs:=by
 obtain⟨h0,h|⟨g2,cap,cur,hv,hgg,hh,r⟩⟩:=h
 ·exact⟨h0,Or.inl h⟩
 ·have hlt:g2<w.heap.size:=(Array.getElem?_eq_some_iff.1 hh).1;exact⟨h0,Or.inr ⟨g2,cap,cur,hv,hgg,by rw[t.block g2 hlt];exact hh,r⟩⟩
theorem OwnO.later{w w':World}{base:Nat}{v:Value}{L:List ObV}(h:OwnO w base v L)(t:Below w.heap.size w w'):OwnO w' base v L:=
 ⟨row_later h.row t,fun c hc=>⟨(h.ea c hc).wl,(h.ea c hc).we,(h.ea c hc).ky,(h.ea c hc).rs.below t,(h.ea c hc).wi⟩,fun c hc k hk=>⟨(h.ap c hc k hk).1,Zu (h.ap c hc k hk).2.1 t.size,(h.ap c hc k hk).2.2⟩⟩
theorem rput_any{c:ObV}{w:World}(h:RdI w c.vs c.o.st):Calls Tryz.prog 74 #[aggO c] w fun e w'=>e= .returned (aggR ⟨putR c.o,c.vs⟩)/\Below w.heap.size w w':=by
 obtain⟨⟨ky,ln,ep,st⟩,vs⟩:=c;obtain⟨a,n,e⟩:=h.form;simp only at e;subst e;clear h
 show Calls Tryz.prog 74 #[.agg #[.string ⟨ky.toArray⟩,.int .i64 ln,.int .i64 ep,.slice a st.length n]] w _
 go_enter Tryz.func74,Tryz.ntmps74
 go_wp2;obtain⟨W,hW⟩:∃W,W=(w.alloc (.cells #[.string ⟨ky.toArray⟩,.int .i64 ln,.int .i64 ep,.slice a st.length n] 92)).alloc (.cells #[.int .i64 1,.string ⟨ky.toArray⟩,.int .i64 ln,.slice a st.length n] 38):=⟨_,rfl⟩;have z:∀j,W.cell? ⟨w.heap.size+1,j,none⟩= #[Value.int .i64 1,.string ⟨ky.toArray⟩,.int .i64 ln,.slice a st.length n][j]? :=fun j=>by
  rw[hW,show w.heap.size+1=(w.alloc (.cells #[.string ⟨ky.toArray⟩,.int .i64 ln,.int .i64 ep,.slice a st.length n] 92)).heap.size by simp,World.cell?_alloc_new]
 have b:Below w.heap.size w W:=by rw[hW];exact(belR _ _).trans ((belR _ _).mono Zs)
 have z0:=z 0;have z1:=z 1;have z2:=z 2;have z3:=z 3;simp at z0 z1 z2 z3;rw[<-hW];exact bodyPost_ret (v:=.agg #[.int .i64 1,.string ⟨ky.toArray⟩,.int .i64 ln,.slice a st.length n]) (by simp[results,Tryz.results74,go_sem,z0,z1,z2,z3]) rfl ⟨rfl,b⟩
theorem ObAt.in_putM{w:World}{b off:Nat}{c:ObV}(h:ObAt w b off c):RcV.In w ⟨putR c.o,c.vs⟩:=⟨by show(Lit.int .i64 1).wf=true;decide,h.wl,h.ky,h.rs,h.wi⟩
theorem may_noA{p:Prop} (h:p:=by
 go_wp2_with fail
 refine wp_region_held_drew (S:=fun wx=>wx.cell? ⟨b,off+r*4,none⟩=some (.string ⟨ky.toArray⟩)/\wx.cell? ⟨b,off+r*4+2,none⟩=some (.int .i64 ep)) Zk ⟨z0,z2⟩ (fun hHeld=>?_);refine tkH 0 ?_
 refine tkH 1 ?_
 refine tkH 2 ?_
 refine skH 3 ?_
 refine skH 4 ?_
 refine skH 5 ?_
 refine skH 6 ?_
 refine skH 7 ?_
 refine skH 8 ?_
 refine tkH 9 ?_
 refine tkH 10 ?_
 refine skH 11 ?_
 refine skH 12 ?_
 refine skH 13 ?_
 refine skH 14 ?_
 refine skH 15 ?_
 refine skH 16 ?_
 refine tkH 17 ?_
 refine tkH 18 ?_
 refine skH 19 ?_
 refine skH 20 ?_
 refine skH 21 ?_
 refine skH 22 ?_
 refine skH 23 ?_
 refine skH 24 ?_
 refine skH 25 ?_
 refine skH 26 ?_
 refine skH 27 ?_
 refine skH 28 ?_
 refine skH 29 ?_
 refine skH 30 ?_
 refine skH 31 ?_
 refine skH 32 ?_
 refine skH 33 ?_
 refine skH 34 ?_
 refine tkH 35 ?_
 refine wpAnyH_done Zk ?_ _
 go_wp2;go_ret;exact Says16.no N.out rfl BF.out.drew):p:=h
theorem may_noB{p:Prop} (h:p:=by
 go_wp2_with fail
 refine wp_region_held_drew (S:=fun wx=>wx.cell? ⟨b,off+r*4,none⟩=some (.string ⟨ky.toArray⟩)/\wx.cell? ⟨b,off+r*4+2,none⟩=some (.int .i64 ep)) Zk ⟨z0,z2⟩ (fun hHeld=>?_);refine tkH 0 ?_
 refine tkH 1 ?_
 refine tkH 2 ?_
 refine tkH 3 ?_
 refine tkH 4 ?_
 refine tkH 5 ?_
 refine tkH 6 ?_
 refine tkH 7 ?_
 refine tkH 8 ?_
 refine tkH 9 ?_
 refine tkH 10 ?_
 refine skH 11 ?_
 refine skH 12 ?_
 refine skH 13 ?_
 refine skH 14 ?_
 refine skH 15 ?_
 refine skH 16 ?_
 refine tkH 17 ?_
 refine tkH 18 ?_
 refine skH 19 ?_
 refine skH 20 ?_
 refine skH 21 ?_
 refine skH 22 ?_
 refine skH 23 ?_
 refine skH 24 ?_
 refine skH 25 ?_
 refine skH 26 ?_
 refine skH 27 ?_
 refine skH 28 ?_
 refine skH 29 ?_
 refine skH 30 ?_
 refine skH 31 ?_
 refine skH 32 ?_
 refine skH 33 ?_
 refine skH 34 ?_
 refine tkH 35 ?_
 refine wpAnyH_done Zk ?_ _
 go_wp2;go_ret;exact Says16.no N.out rfl BF.out.drew):p:=h
theorem may_noC{p:Prop} (h:p:=by
 go_wp2_with fail
 refine wp_region_held_drew (S:=fun wx=>wx.cell? ⟨b,off+r*4,none⟩=some (.string ⟨ky.toArray⟩)/\wx.cell? ⟨b,off+r*4+2,none⟩=some (.int .i64 ep)) Zk ⟨z0,z2⟩ (fun hHeld=>?_);refine tkH 0 ?_
 refine tkH 1 ?_
 refine tkH 2 ?_
 refine tkH 3 ?_
 refine tkH 4 ?_
 refine tkH 5 ?_
 refine tkH 6 ?_
 refine tkH 7 ?_
 refine tkH 8 ?_
 refine tkH 9 ?_
 refine tkH 10 ?_
 refine tkH 11 ?_
 refine tkH 12 ?_
 refine tkH 13 ?_
 refine tkH 14 ?_
 refine tkH 15 ?_
 refine tkH 16 ?_
 refine tkH 17 ?_
 refine tkH 18 ?_
 refine skH 19 ?_
 refine skH 20 ?_
 refine skH 21 ?_
 refine skH 22 ?_
 refine skH 23 ?_
 refine skH 24 ?_
 refine skH 25 ?_
 refine skH 26 ?_
 refine skH 27 ?_
 refine skH 28 ?_
 refine skH 29 ?_
 refine skH 30 ?_
 refine skH 31 ?_
 refine skH 32 ?_
 refine skH 33 ?_
 refine skH 34 ?_
 refine tkH 35 ?_
 refine wpAnyH_done Zk ?_ _
 go_wp2;go_ret;exact Says16.no N.out rfl BF.out.drew):p:=h
theorem rmay16_any{w:World}{v:Value}{L:List ObV}(h:RdO w v L)(hs:∀i,i<L.length->(L.getD i default).o.st.length<=1000000):Calls Tryz.prog 144 #[v] w (Says16 (MayL (oL L)) w):=by
 obtain⟨a,cp,rfl⟩:=h.form
 by_cases h5:(L.length:Int)>64
 ·have N:Hid (¬MayL (oL L)):=fun q=>by have:=q.1;rw[oL_length]at this;omega
  clear h hs
  go_enter Tryz.func144,Tryz.ntmps144
  go_wp2;go_ret;exact Says16.no N.out rfl Zf
 go_enter Tryz.func144,Tryz.ntmps144
 go_wp2
 go_loopw [3,4] (fun n i wr=>∃r:Nat,r<=L.length/\i= .int .i64 (r:Int)/\n= .int .i64 ((cntO ((oL L).take r):Nat):Int)/\Hid (Below w.heap.size w wr)/\Hid (Up16 L r)/\Hid (cntO ((oL L).take r)<=r*1000000)) (fun _ i _=>L.length-(intOf i).toNat)
 case atStart=>exact⟨0,Zz,rfl,rfl,Zf,fun j hj=>absurd hj (Nat.not_lt_zero _),Zz⟩
 case round=>
  obtain⟨r,hr,rfl,rfl,hB,hup,hcn⟩:=hrel
  by_cases hlt:r<L.length
  ·have hlt':(r:Int)<(L.length:Int):=by omega
   obtain⟨b,off,rfl,hb,cz⟩:=(h.below hB.out).at hlt;have hsr:=hs r hlt;have CT:=cnt_take hlt;have CN:=hcn.out;have HU:Hid (OkO (L.getD r default).o->(0<r->upK (L.getD (r-1) default).o.key (L.getD r default).o.key=true)->Up16 L (r+1)):=fun q1 q2=>up_step hup.out q1 q2
   have HN:Hid (¬OkO (L.getD r default).o->¬MayL (oL L)):=fun q k=>q ((may_up.1 k).2.1 r hlt).1
   have HK:Hid (0<r->upK (L.getD (r-1) default).o.key (L.getD r default).o.key=false->¬MayL (oL L)):=fun q1 q2 k=>by
    have:=((may_up.1 k).2.1 r hlt).2 q1;rw[q2]at this;cases this
   have PV:Hid (0<r->∃k1:List UInt8,k1=(L.getD (r-1) default).o.key/\wr.cell? ⟨b,off+(r-1)*4,none⟩=some (.string ⟨k1.toArray⟩)):=fun q=>by
    obtain⟨b',off',e,_,cz'⟩:=(h.below hB.out).at (i:=r-1) Zo;simp at e;obtain⟨rfl,rfl⟩:=e;exact⟨_,rfl,cz'.c0⟩
   have PK:=rput_any (c:=L.getD r default) (w:=wr) cz.rs;have IN:=cz.in_putM;generalize L.getD r default=c at cz hsr CT HU HN HK PK IN;obtain⟨⟨ky,ln,ep,st⟩,vs⟩:=c;obtain⟨a2,c2,e⟩:=cz.rs.form;simp only at e hsr CT HU HN HK;subst e;have y0:wr.cell? ⟨b,off+r*4,none⟩=some (.string ⟨ky.toArray⟩):=cz.c0;have y1:wr.cell? ⟨b,off+r*4+1,none⟩=some (.int .i64 ln):=cz.c1;have y2:wr.cell? ⟨b,off+r*4+2,none⟩=some (.int .i64 ep):=cz.c2;have y3:wr.cell? ⟨b,off+r*4+3,none⟩=some (.slice a2 st.length c2):=cz.c3;have PK1:Calls Tryz.prog 74 #[.agg #[.string ⟨ky.toArray⟩,.int .i64 ln,.int .i64 ep,.slice a2 st.length c2]] wr (fun e w'=>e= .returned (.agg #[.int .i64 1,.string ⟨ky.toArray⟩,.int .i64 ln,.slice a2 st.length c2])/\Below wr.heap.size wr w'):=PK;clear cz hcn PK
   go_wp2_with fail
   refine PK1.mono ?_
   rintro _ w2 ⟨rfl,B2⟩;clear PK1
   go_wp2_with fail
   have KC:=rchk16_any (IN.below B2) rfl;refine KC.mono ?_
   rintro _ w3 ⟨rfl,B3⟩;have Br3:Below wr.heap.size wr w3:=B2.step16 B3 B2.size;have z0:w3.cell? ⟨b,off+r*4,none⟩=some (.string ⟨ky.toArray⟩):=(Br3.cell (p:=⟨b,off+r*4,none⟩) hb).trans y0;have z2:w3.cell? ⟨b,off+r*4+2,none⟩=some (.int .i64 ep):=(Br3.cell (p:=⟨b,off+r*4+2,none⟩) hb).trans y2;have z3:w3.cell? ⟨b,off+r*4+3,none⟩=some (.slice a2 st.length c2):=(Br3.cell (p:=⟨b,off+r*4+3,none⟩) hb).trans y3;have BF:Hid (Below w.heap.size w w3):=hB.out.step16 Br3 hB.out.size;have PV3:Hid (0<r->∃k1:List UInt8,k1=(L.getD (r-1) default).o.key/\w3.cell? ⟨b,off+(r-1)*4,none⟩=some (.string ⟨k1.toArray⟩)):=fun q=>by
    obtain⟨k1,e1,c1⟩:=PV.out q;exact⟨k1,e1,(Br3.cell (p:=⟨b,off+(r-1)*4,none⟩) hb).trans c1⟩
   have CE:Hid (((cntO ((oL L).take r):Nat):Int)+(st.length:Int)=((cntO ((oL L).take (r+1)):Nat):Int)):=by show _=_;omega
   have CB:Hid (cntO ((oL L).take (r+1))<=(r+1)*1000000):=by show _<=_;omega
   have CW:IntKind.i64.wrap (((cntO ((oL L).take r):Nat):Int)+(st.length:Int))=((cntO ((oL L).take r):Nat):Int)+(st.length:Int):=Zw
   clear CT CN;generalize cntO ((oL L).take r)=n0 at CE CW;clear KC IN y0 y1 y2 y3 B2 B3 Br3 PV hB hup
   by_cases hok:OkR (putR ⟨ky,ln,ep,st⟩)
   rotate_left
   ·rw[show chR (putR ⟨ky,ln,ep,st⟩)=1 from if_neg hok];have N:Hid (¬MayL (oL L)):=HN.out fun q=>hok q.1
    clear HN HK HU hok PV3;exact may_noA
   rw[show chR (putR ⟨ky,ln,ep,st⟩)=0 from if_pos hok]
   by_cases e0:ep<0
   ·have N:Hid (¬MayL (oL L)):=HN.out fun q=>by have:=q.2.1;simp only at this;omega
    clear HN HK HU hok PV3;exact may_noB
   have d0:decide (ep<0)=false:=Zx e0
   by_cases e1:ep>2147483647
   ·have N:Hid (¬MayL (oL L)):=HN.out fun q=>by have:=q.2.2;simp only at this;omega
    have d1:decide (ep>2147483647)=true:=Zy e1;have d2:decide (2147483647<ep)=true:=Zy e1;clear HN HK HU hok PV3;exact may_noC
   have d1:decide (ep>2147483647)=false:=Zx e1;have d2:decide (2147483647<ep)=false:=Zx e1;have HU2:Hid ((0<r->upK (L.getD (r-1) default).o.key ky=true)->Up16 L (r+1)):=HU.out ⟨hok,by simp only;omega,by simp only;omega⟩;clear HU HN hok;have BF':Hid (Below w.heap.size w w3.drew):=BF.out.drew
   rcases r with _|s
   ·have HU3:Hid (Up16 L (0+1)):=HU2.out fun q=>absurd q (Nat.lt_irrefl _)
    have x3:w3.drew.cell? ⟨b,off+0*4+3,none⟩=some (.slice a2 st.length c2):=z3;have x3':w3.drew.cell? ⟨b,off+3,none⟩=some (.slice a2 st.length c2):=by rw[Nat.zero_mul,Nat.add_zero]at x3;exact x3
    clear HK HU2 PV3 BF
    go_wp2_with fail
    refine wp_region_held_drew (S:=fun wx=>wx.cell? ⟨b,off+0*4,none⟩=some (.string ⟨ky.toArray⟩)/\wx.cell? ⟨b,off+0*4+2,none⟩=some (.int .i64 ep)) Zk ⟨z0,z2⟩ (fun hHeld=>?_);refine tkH 0 ?_
    refine tkH 1 ?_
    refine tkH 2 ?_
    refine tkH 3 ?_
    refine tkH 4 ?_
    refine tkH 5 ?_
    refine tkH 6 ?_
    refine tkH 7 ?_
    refine tkH 8 ?_
    refine tkH 9 ?_
    refine tkH 10 ?_
    refine tkH 11 ?_
    refine tkH 12 ?_
    refine tkH 13 ?_
    refine tkH 14 ?_
    refine tkH 15 ?_
    refine tkH 16 ?_
    refine tkH 17 ?_
    refine tkH 18 ?_
    refine tkH 19 ?_
    refine tkH 20 ?_
    refine tkH 21 ?_
    refine skH 22 ?_
    refine skH 23 ?_
    refine skH 24 ?_
    refine skH 25 ?_
    refine skH 26 ?_
    refine skH 27 ?_
    refine skH 28 ?_
    refine skH 29 ?_
    refine skH 30 ?_
    refine skH 31 ?_
    refine skH 32 ?_
    refine skH 33 ?_
    refine tkH 34 ?_
    refine tkH 35 ?_
    refine wpAnyH_done Zk ?_ _
    go_wp2;go_roundw
    case rel=>exact⟨0+1,Zo,by first|rfl|go_num,by rw[<-CE.out],BF',HU3,CB⟩
    case measure=>simp[intOf];omega
   ·obtain⟨k1,e2,c1⟩:=PV3.out (Nat.succ_pos _);rw[<-e2]at HK HU2;rw[Nat.add_sub_cancel]at c1;have Q0:(0:Int)<=(s:Int)+1:=by omega
    have Q1:(s:Int)+1<(L.length:Int):=Zo
    have Q2:(0:Int)<=(s:Int)/\(s:Int)<(L.length:Int):=Zo
    have R0:((s:Nat):Int)+1>0:=Zo
    have R1:decide (((s:Nat):Int)+1>0)=true:=Zy R0;have R1':decide (0<((s:Nat):Int)+1)=true:=Zy R0;have R2:(s:Int)<(L.length:Int):=Zo
    have x3:w3.drew.cell? ⟨b,off+(s+1)*4+3,none⟩=some (.slice a2 st.length c2):=z3;clear e2 PV3;have WS:IntKind.i64.wrap (s:Int)=(s:Int):=Zw
    have UK:(Op.bytesLess ky k1||ky==k1)= !upK k1 ky:=by unfold upK;rw[Bool.not_not]
    go_wp2_with fail
    refine wp_region_held_drew (S:=fun wx=>(wx.cell? ⟨b,off+(s+1)*4,none⟩=some (.string ⟨ky.toArray⟩)/\wx.cell? ⟨b,off+(s+1)*4+2,none⟩=some (.int .i64 ep))/\wx.cell? ⟨b,off+s*4,none⟩=some (.string ⟨k1.toArray⟩)) Zk ⟨⟨z0,z2⟩,c1⟩ (fun hHeld=>?_);refine tkH 0 ?_
    refine tkH 1 ?_
    refine tkH 2 ?_
    refine tkH 3 ?_
    refine tkH 4 ?_
    refine tkH 5 ?_
    refine tkH 6 ?_
    refine tkH 7 ?_
    refine tkH 8 ?_
    refine tkH 9 ?_
    refine tkH 10 ?_
    refine tkH 11 ?_
    refine tkH 12 ?_
    refine tkH 13 ?_
    refine tkH 14 ?_
    refine tkH 15 ?_
    refine tkH 16 ?_
    refine tkH 17 ?_
    refine tkH 18 ?_
    refine tkH 19 ?_
    refine tkH 20 ?_
    refine tkH 21 ?_
    refine tkH 22 ?_
    refine tkH 23 ?_
    refine tkH 24 ?_
    refine tkH 25 ?_
    refine tkH 26 ?_
    refine tkH 27 ?_
    refine tkH 28 ?_
    refine tkH 29 ?_
    refine tkH 30 ?_
    refine tkH 31 ?_
    refine tkH 32 ?_
    refine tkH 33 ?_
    refine tkH 34 ?_
    refine tkH 35 ?_
    refine wpAnyH_done Zk ?_ _
    clear UK WS R1 R1'
    by_cases hu:upK k1 ky=true
    ·have HU3:Hid (Up16 L (s+1+1)):=HU2.out fun _=>hu
     rw[hu];clear HK HU2 hu;go_wp2;go_roundw
     case rel=>exact⟨s+1+1,Zo,by first|rfl|go_num,by rw[<-CE.out],BF',HU3,CB⟩
     case measure=>simp[intOf];omega
    ·have hu':upK k1 ky=false:=by simpa using hu
     have N:Hid (¬MayL (oL L)):=HK.out (Nat.succ_pos _) hu';rw[hu'];clear HK HU2 hu hu';go_wp2;go_ret;exact Says16.no N.out rfl BF'.out
  ·obtain rfl:r=L.length:=by omega
   have hge:¬(L.length:Int)<(L.length:Int):=Zo
   have EC:cntO ((oL L).take L.length)=cntO (oL L):=by rw[<-oL_length,List.take_length]
   rw[EC];have YN:Hid (MayL (oL L)↔cntO (oL L)<=256):=⟨fun q=>q.2.2,fun q=>may_up.2 ⟨Zo,hup.out,q⟩⟩;have BF:=hB.out;clear EC hup hcn h hs hB;generalize cntO (oL L)=n0 at YN
   by_cases hn:(n0:Int)<=256
   ·have Y:Hid (MayL (oL L)):=YN.out.2 Zo;clear YN;go_wp2;go_ret;exact Says16.yes Y.out rfl BF
   ·have N:Hid (¬MayL (oL L)):=fun q=>hn (by have:=YN.out.1 q;omega)
    clear YN;go_wp2;go_ret;exact Says16.no N.out rfl BF
structure GotN(w1:World)(G:Nat)(wr:World)(k:Int)(y:List UInt8)(n:Int)(v:Value)(zs:List Int):Prop where
 c0:wr.cell? ⟨G,0,none⟩=some (.int .i64 k)
 c1:wr.cell? ⟨G,1,none⟩=some (.string ⟨y.toArray⟩)
 c2:wr.cell? ⟨G,2,none⟩=some (.int .i64 n)
 c3:wr.cell? ⟨G,3,none⟩=some v
 fz:∀j,wr.frozen? ⟨G,j,none⟩=false
 own:OwnZ wr w1.heap.size 3 v zs
 tn:Turn G w1 wr
 lg:G<w1.heap.size
section
variable {w1:World} {G:Nat} {wr w':World} {k:Int} {y:List UInt8} {n:Int} {v v':Value} {zs zs':List Int}
theorem GotN.below(h:GotN w1 G wr k y n v zs)(b:Below wr.heap.size wr w'):GotN w1 G w' k y n v zs:=by
 have l:G<wr.heap.size:=Zu h.lg h.tn.size;exact⟨(b.cell (p:=⟨G,0,none⟩) l).trans h.c0,(b.cell (p:=⟨G,1,none⟩) l).trans h.c1,(b.cell (p:=⟨G,2,none⟩) l).trans h.c2,(b.cell (p:=⟨G,3,none⟩) l).trans h.c3,fun j=>(b.frozen (p:=⟨G,j,none⟩) l).trans (h.fz j),owns_later h.own b,h.tn.trans (Below.turn b G),h.lg⟩
theorem GotN.put2(h:GotN w1 G wr k y n v zs)(n':Int):GotN w1 G (wr.setCell ⟨G,2,none⟩ (.int .i64 n')) k y n' v zs:=by
 have o:Only G wr (wr.setCell ⟨G,2,none⟩ (.int .i64 n')):=(Only.refl _ _).setCell _ _;exact⟨(World.cell?_setCell_other _ _ _ _ Zs).trans h.c0,(World.cell?_setCell_other _ _ _ _ Zs).trans h.c1,World.cell?_setCell_same _ _ _ h.c2,(World.cell?_setCell_other _ _ _ _ Zs).trans h.c3,fun j=>(World.frozen?_setCell _ _ _ _).trans (h.fz j),h.own.only o h.lg,h.tn.trans o.turn,h.lg⟩
theorem GotN.spot(h:GotN w1 G wr k y n v zs)(g:Gro wr v w' v'):w'.cell? ⟨G,3,none⟩=some v/\w'.frozen? ⟨G,3,none⟩=false:=by
 have nb:v.ownBlock≠some G:=fun e=>by have:=(Zv h.own G e).1;have:=h.lg;omega
 have lw:G<wr.heap.size:=Zu h.lg h.tn.size;exact⟨(g.cell (p:=⟨G,3,none⟩) lw nb).trans h.c3,(g.frozen (p:=⟨G,3,none⟩) lw nb).trans (h.fz 3)⟩
theorem GotN.grow(h:GotN w1 G wr k y n v zs)(g:Gro wr v w' v')(o:OwnZ w' w1.heap.size 3 v' zs'):GotN w1 G (w'.setCell ⟨G,3,none⟩ v') k y n v' zs':=by
 have nb:∀b,b<w1.heap.size->v.ownBlock≠some b:=fun b hb e=>by have:=(Zv h.own b e).1;omega
 have lw:∀b,b<w1.heap.size->b<wr.heap.size:=fun b hb=>Zu hb h.tn.size
 have e:∀j,w'.cell? ⟨G,j,none⟩=wr.cell? ⟨G,j,none⟩:=fun j=>g.cell (p:=⟨G,j,none⟩) (lw _ h.lg) (nb _ h.lg)
 have O:Only G w' (w'.setCell ⟨G,3,none⟩ v'):=(Only.refl _ _).setCell _ _;have oth:∀j,j≠3->(w'.setCell ⟨G,3,none⟩ v').cell? ⟨G,j,none⟩=w'.cell? ⟨G,j,none⟩:=fun j hj=>World.cell?_setCell_other _ _ _ _ (by simp;try omega)
 refine⟨?_,?_,?_,?_,fun i=>(World.frozen?_setCell _ _ _ _).trans ((g.frozen (p:=⟨G,i,none⟩) (lw _ h.lg) (nb _ h.lg)).trans (h.fz i)),o.only O h.lg,?_,h.lg⟩
 ·rw[oth 0 Zo,e 0,h.c0]
 ·rw[oth 1 Zo,e 1,h.c1]
 ·rw[oth 2 Zo,e 2,h.c2]
 ·exact World.cell?_setCell_same _ _ _ ((e 3).trans h.c3)
 ·have T1:Turn G w1 w':=⟨g.gr.os.trans h.tn.os,g.gr.tape.trans h.tn.tape,g.gr.output.trans h.tn.output,Nat.le_trans h.tn.size g.gr.size,fun i hi hg=>(g.gr.block i (lw i hi) (fun e=>nb i hi e.symm)).trans (h.tn.block i hi hg)⟩;exact T1.trans O.turn
end
theorem cut_lh16(w:World)(a:Option Addr){n c lo hi:Nat}(h:lo<=hi)(h2:hi<=c):(Instr.slice 42 (.slice a n c) (some (.int .i64 (lo:Int))) (some (.int .i64 (hi:Int))) none).run Tryz.prog w= .ok (.slice (if c=lo then a else a.map (·.add lo)) (hi-lo) (c-lo)) w:=by
 have e:=run_slice_lh (P:=Tryz.prog) w 42 a n c und_bytes16 .i64 .i64 (lo:Int) (hi:Int) Zo Zo Zo;rw[e,elem_bytes16,size_u816];simp[sliced]
theorem Rd.mid16{w:World}{a:Option Addr}{n c lo hi:Nat}{p:List UInt8}(h:Rd w (.slice a n c) p)(h1:lo<=hi)(h2:hi<=n):Rd w (.slice (if c=lo then a else a.map (·.add lo)) (hi-lo) (c-lo)) ((p.drop lo).take (hi-lo)):=
 (h.rest16 (k:=lo) Zo).first16 Zo
end Go.Proofs.YtclieefpnbdbjaaGreat.Gf
