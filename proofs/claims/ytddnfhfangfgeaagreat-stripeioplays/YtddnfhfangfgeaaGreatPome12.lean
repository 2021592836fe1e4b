/- JOINED: KeCB, KeCC, KeCF, KeCode. -/
import Derived.Test.YtddnfhfangfgeaaGreatPome11
set_option maxHeartbeats 4000000
set_option maxRecDepth 100000
namespace Go.Proofs.YtddnfhfangfgeaaGreat.Gf
set_option linter.unusedVariables false
set_option linter.unusedSimpArgs false
open Go.RowKit
structure Eu9(w:World)(b fb ab lb cb vb:Nat)(va vl vc vv:Value):Prop where
 cf:w.cell? ⟨fb,0,none⟩=some (.pointer (some ⟨b,0,none⟩))
 ca:w.cell? ⟨ab,0,none⟩=some va
 cl:w.cell? ⟨lb,0,none⟩=some vl
 cc:w.cell? ⟨cb,0,none⟩=some vc
 cv:w.cell? ⟨vb,0,none⟩=some vv
 ga:w.frozen? ⟨ab,0,none⟩=false
 gl:w.frozen? ⟨lb,0,none⟩=false
 gc:w.frozen? ⟨cb,0,none⟩=false
 gv:w.frozen? ⟨vb,0,none⟩=false
structure Sep9(b fb ab lb cb vb:Nat):Prop where
 n1:ab≠lb
 n2:ab≠cb
 n3:ab≠vb
 n4:lb≠cb
 n5:lb≠vb
 n6:cb≠vb
 m1:fb≠ab
 m2:fb≠lb
 m3:fb≠cb
 m4:fb≠vb
 k1:b≠ab
 k2:b≠lb
 k3:b≠cb
 k4:b≠vb
theorem ApartL.far{N:Nat}{v:Value}{G:List Nat}(h:Far N v)(hg:∀g,g∈G->g<N):ApartL G v:=by
 intro x n c e;exact Or.inr (fun h2=>by have:=hg _ h2;have:=h x n c e;omega)
theorem z12_8{p:Prop} (h:p:=by
 clear hK K;refine rnH 7 fun K hK=>?_
 go_simp;refine koH hK ((World.cell?_setCell_far _ _ _ _ (Ne.symm m4)).trans hHeld) fun hHeld=>?_
 clear hK K;refine rnH 8 fun K hK=>?_
 go_simp;refine koH hK ((World.cell?_setCell_far _ _ _ _ (Ne.symm m3)).trans hHeld) fun hHeld=>?_
 clear hK K;refine wpAnyH_done Zk ?_ _
 clear hHeld
 go_end0
 exact⟨rfl,HFin.out w4 na nc b4 r4 f4⟩
 ):p:=h
theorem z12_1{p:Prop} (h:p:=by
 clear hK K;refine rnH 6 fun K hK=>?_
 go_simp;refine(HA _ _ _ Za Za).mono ?_
 rintro e w4 ⟨na,nc,rfl,r4,b4,f4⟩;have y1:=(b4.cell (p:=⟨cb,0,none⟩) lc9).trans c3u;have y2:=(b4.cell (p:=⟨vb,0,none⟩) lv9).trans c4u;have z1:=(b4.frozen (p:=⟨cb,0,none⟩) lc9).trans g3u;have z2:=(b4.frozen (p:=⟨vb,0,none⟩) lv9).trans g4u
 try go_simp
 refine koH hK ((b4.cell (p:=⟨fb,0,none⟩) lf).trans cfu) fun hHeld=>?_
 exact z12_8
 ):p:=h
theorem z12_11{p:Prop} (h:p:=by
 go_simp;refine koH hK hHeld fun hHeld=>?_
 exact z12_1
 ):p:=h
theorem z12_3{p:Prop} (h:p:=by
 clear hK K;refine rmH 0 6 (fun K hK=>?_) fun K hK=>?_
 ·exact z12_11
 ·go_simp;refine(HA _ _ _ Za Za).mono ?_
  rintro e w4 ⟨na,nc,rfl,r4,b4,f4⟩;have y1:=(b4.cell (p:=⟨cb,0,none⟩) lc9).trans c3u;have y2:=(b4.cell (p:=⟨vb,0,none⟩) lv9).trans c4u;have z1:=(b4.frozen (p:=⟨cb,0,none⟩) lc9).trans g3u;have z2:=(b4.frozen (p:=⟨vb,0,none⟩) lv9).trans g4u
  try go_simp
  refine koH hK ((b4.cell (p:=⟨fb,0,none⟩) lf).trans cfu) fun hHeld=>?_
  clear hK K;refine rnH 0 fun K hK=>?_
  go_simp;refine koH hK hHeld fun hHeld=>?_
  exact z12_8
 ):p:=h
theorem z12_4{p:Prop} (h:p:=by
 go_simp;refine koH hK hHeld fun hHeld=>?_
 clear hK K;refine rnH 5 fun K hK=>?_
 go_simp;refine(HM _ (by first|assumption|exact Zf.drew)).mono ?_
 rintro e w3 ⟨ma,mc,rfl,r3,b3⟩;have x1:=(b3.cell (p:=⟨cb,0,none⟩) lc9).trans c3u;have x2:=(b3.cell (p:=⟨vb,0,none⟩) lv9).trans c4u
 try go_simp
 refine koH hK ((b3.cell (p:=⟨fb,0,none⟩) lf).trans cfu) fun hHeld=>?_
 exact z12_1
 ):p:=h
theorem z12_5{p:Prop} (h:p:=by
 go_simp;refine koH hK hHeld fun hHeld=>?_
 clear hK K;refine rmH 1 5 (fun K hK=>?_) fun K hK=>?_
 ·exact z12_4
 ·go_simp;refine(HM _ (by first|assumption|exact Zf.drew)).mono ?_
  rintro e w3 ⟨ma,mc,rfl,r3,b3⟩;have x1:=(b3.cell (p:=⟨cb,0,none⟩) lc9).trans c3u;have x2:=(b3.cell (p:=⟨vb,0,none⟩) lv9).trans c4u
  try go_simp
  refine koH hK ((b3.cell (p:=⟨fb,0,none⟩) lf).trans cfu) fun hHeld=>?_
  clear hK K;refine rnH 1 fun K hK=>?_
  exact z12_11
 ):p:=h
theorem z12_6{p:Prop} (h:p:=by
 go_simp;refine koH hK hHeld fun hHeld=>?_
 clear hK K;refine rmH 0 5 (fun K hK=>?_) fun K hK=>?_
 ·exact z12_4
 ·go_simp;refine(HM _ (by first|assumption|exact Zf.drew)).mono ?_
  rintro e w3 ⟨ma,mc,rfl,r3,b3⟩;have x1:=(b3.cell (p:=⟨cb,0,none⟩) lc9).trans c3u;have x2:=(b3.cell (p:=⟨vb,0,none⟩) lv9).trans c4u
  try go_simp
  refine koH hK ((b3.cell (p:=⟨fb,0,none⟩) lf).trans cfu) fun hHeld=>?_
  exact z12_3
 ):p:=h
theorem z12_12{p:Prop} (h:p:=by
 go_simp;refine koH hK hHeld fun hHeld=>?_
 clear hK K;refine rnH 4 fun K hK=>?_
 exact z12_4
 ):p:=h
theorem kst_any{w:World}{b fb ab lb cb vb:Nat}{va vl vc vv:Value}{A L C V:List UInt8}(hF:FieldAt w b)(hE:Eu9 w b fb ab lb cb vb va vl vc vv)(hS:Sep9 b fb ab lb cb vb)
  (ra:Rd w va A) (rl:Rd w vl L) (rc:Rd w vc C) (rv:Rd w vv V) (pl:ApartL [ab,lb,cb,vb] vl) (pc:ApartL [ab,lb,cb,vb] vc) (pv:ApartL [ab,lb,cb,vb] vv) (hA:A.length<=1000) (hL:L.length<=1000) (hC:C.length<=1000) (hV:V.length<=1000) (hn:norm L≠[]) (hq:∀q r,IsDiv A L q r->q.length<=2000):
  Calls Tryz.prog 219 #[.pointer (some ⟨fb,0,none⟩),.pointer (some ⟨ab,0,none⟩),.pointer (some ⟨lb,0,none⟩),.pointer (some ⟨cb,0,none⟩),.pointer (some ⟨vb,0,none⟩)] w fun e w'=>e= .returned (.tuple #[])/\
   ∃q r vr vn,IsDiv A L q r/\Eu9 w' b fb ab lb cb vb vl vr vn vc/\Rd w' vl L/\Rd w' vr r/\Rd w' vn (addP V (mulP q C))/\Rd w' vc C/\ApartL [ab,lb,cb,vb] vr/\ApartL [ab,lb,cb,vb] vn/\TurnL [ab,lb,cb,vb] w w':=by
 obtain⟨aa,ac,rfl⟩:=ra.form;obtain⟨la,lc,rfl⟩:=rl.form;obtain⟨ca,cc,rfl⟩:=rc.form;obtain⟨va,vc,rfl⟩:=rv.form;obtain⟨cf,c1,c2,c3,c4,g1,g2,g3,g4⟩:=hE;obtain⟨n1,n2,n3,n4,n5,n6,m1,m2,m3,m4,k1,k2,k3,k4⟩:=hS
 go_enter Tryz.func219,Tryz.ntmps219
 go_wp2_with fail
 refine(pdivide_far hF ra rl Zo Zo hn).mono ?_
 rintro e w1 ⟨vs,vr,q,r,rfl,hd,rs,rr,b1,fs,fr⟩;obtain⟨qa,qc,rfl⟩:=rs.form;obtain⟨ra',rc',rfl⟩:=rr.form;have l0:=World.block_lt_of_cell? w _ cf;have l1:=World.block_lt_of_cell? w _ c1;have l2:=World.block_lt_of_cell? w _ c2;have l3:=World.block_lt_of_cell? w _ c3;have l4:=World.block_lt_of_cell? w _ c4;have hql:=hq q r hd;have HD:Hid _:=hd;replace cf:=(b1.cell (p:=⟨fb,0,none⟩) l0).trans cf;replace c1:=(b1.cell (p:=⟨ab,0,none⟩) l1).trans c1;replace c2:=(b1.cell (p:=⟨lb,0,none⟩) l2).trans c2;replace c3:=(b1.cell (p:=⟨cb,0,none⟩) l3).trans c3;replace c4:=(b1.cell (p:=⟨vb,0,none⟩) l4).trans c4;replace g1:=(b1.frozen (p:=⟨ab,0,none⟩) l1).trans g1;replace g2:=(b1.frozen (p:=⟨lb,0,none⟩) l2).trans g2;replace g3:=(b1.frozen (p:=⟨cb,0,none⟩) l3).trans g3;replace g4:=(b1.frozen (p:=⟨vb,0,none⟩) l4).trans g4;clear hq hd
 go_wp2_with fail
 obtain⟨u,hu⟩:∃u,u=(w1.setCell ⟨ab,0,none⟩ (.slice la L.length lc)).setCell ⟨lb,0,none⟩ (.slice ra' r.length rc'):=⟨_,rfl⟩;rw[<-hu];have tu:TurnL [ab,lb,cb,vb] w u:=by rw[hu];exact((Below.turnL b1 _).put Zs 0 _).put Zs 0 _
 have t1:TurnL [ab,lb,cb,vb] w1 u:=by rw[hu];exact((TurnL.refl _ w1).put Zs 0 _).put Zs 0 _
 have sz1:=b1.size;have cfu:u.cell? ⟨fb,0,none⟩=some (.pointer (some ⟨b,0,none⟩)):=by rw[hu];simp[go_sem,cf,m1,m2,n1,Ne.symm m1,Ne.symm m2]
 have c1u:u.cell? ⟨ab,0,none⟩=some (.slice la L.length lc):=by rw[hu];simp[go_sem,c1,n1,Ne.symm n1]
 have c2u:u.cell? ⟨lb,0,none⟩=some (.slice ra' r.length rc'):=by rw[hu];simp[go_sem,c2,n1,Ne.symm n1]
 have c3u:u.cell? ⟨cb,0,none⟩=some (.slice ca C.length cc):=by rw[hu];simp[go_sem,c3,n2,n4,Ne.symm n2,Ne.symm n4]
 have c4u:u.cell? ⟨vb,0,none⟩=some (.slice va V.length vc):=by rw[hu];simp[go_sem,c4,n3,n5,Ne.symm n3,Ne.symm n5]
 have g1u:u.frozen? ⟨ab,0,none⟩=false:=by rw[hu];simp[go_sem,g1]
 have g2u:u.frozen? ⟨lb,0,none⟩=false:=by rw[hu];simp[go_sem,g2]
 have g3u:u.frozen? ⟨cb,0,none⟩=false:=by rw[hu];simp[go_sem,g3]
 have g4u:u.frozen? ⟨vb,0,none⟩=false:=by rw[hu];simp[go_sem,g4]
 clear hu cf c1 c2 c3 c4 g1 g2 g3 g4;have szu:=tu.size;have hG:∀g,g∈[ab,lb,cb,vb]->g<w.heap.size:=fun g hg=>by simp at hg;rcases hg with rfl|rfl|rfl|rfl<;>assumption
 have hFu:FieldAt u b:=hF.turnL (by simp[k1,k2,k3,k4]) tu;have RL:Hid (Rd u (.slice la L.length lc) L):=rl.turnL pl tu;have RR:Hid (Rd u (.slice ra' r.length rc') r):=rr.turnL (ApartL.far fr hG) t1;have RS:Rd u (.slice qa q.length qc) q:=rs.turnL (ApartL.far fs hG) t1;have RC:Rd u (.slice ca C.length cc) C:=rc.turnL pc tu;have RV:Rd u (.slice va V.length vc) V:=rv.turnL pv tu;have PR:Hid (ApartL [ab,lb,cb,vb] (.slice ra' r.length rc')):=ApartL.far fr hG;have TU:Hid (TurnL [ab,lb,cb,vb] w u):=tu;have hml:(mulP q C).length<=3000:=by unfold mulP;rw[mk_length];have:=deg_le (conv (co q) (co C)) (q.length+C.length);omega
 obtain⟨M,hM⟩:∃M,Hid (M=mulP q C):=⟨_,rfl⟩;rw[<-hM.out]at hml;have lf:fb<u.heap.size:=Zo
 have la9:ab<u.heap.size:=Zo
 have ll9:lb<u.heap.size:=Zo
 have lc9:cb<u.heap.size:=Zo
 have lv9:vb<u.heap.size:=Zo
 have HM:∀W:World,Below u.heap.size u W->Calls Tryz.prog 173 #[.pointer (some ⟨b,0,none⟩),.slice qa q.length qc,.slice ca C.length cc] W fun e w'=>∃ma mc,e= .returned (.slice ma M.length mc)/\Rd w' (.slice ma M.length mc) M/\Below u.heap.size u w':=fun W hW=>
  (pmul_far (hFu.below hW) (RS.below hW) (RC.below hW) Zo Zo).mono fun e w' ⟨v,h1,h2,h3,h4⟩=>by
   rw[<-hM.out]at h2;obtain⟨ma,mc,rfl⟩:=h2.form;exact⟨ma,mc,h1,h2,Below.next hW h3⟩
 have HA:∀(W:World) ma mc,Below u.heap.size u W->Rd W (.slice ma M.length mc) M->Calls Tryz.prog 221 #[.slice va V.length vc,.slice ma M.length mc] W fun e w'=>∃na nc,e= .returned (.slice na (addP V M).length nc)/\Rd w' (.slice na (addP V M).length nc) (addP V M)/\Below u.heap.size u w'/\Far u.heap.size (.slice na (addP V M).length nc):=fun W ma mc hW hr=>
  (padd_far (RV.below hW) hr Zo Zo).mono fun e w' ⟨v,h1,h2,h3,h4⟩=>by
   obtain⟨na,nc,rfl⟩:=h2.form;exact⟨na,nc,h1,h2,Below.next hW h3,h4.mono hW.size⟩
 obtain⟨N,hN⟩:∃N,Hid (N=addP V M):=⟨_,rfl⟩;rw[<-hN.out]at HA;have HFin:Hid (∀(w4:World) na nc,Below u.heap.size u w4->Rd w4 (.slice na N.length nc) N->Far u.heap.size (.slice na N.length nc)->
   ∃q r vr vn,IsDiv A L q r/\Eu9 ((w4.setCell ⟨vb,0,none⟩ (.slice ca C.length cc)).setCell ⟨cb,0,none⟩ (.slice na N.length nc)) b fb ab lb cb vb (.slice la L.length lc) vr vn (.slice ca C.length cc)/\Rd ((w4.setCell ⟨vb,0,none⟩ (.slice ca C.length cc)).setCell ⟨cb,0,none⟩ (.slice na N.length nc)) (.slice la L.length lc) L/\Rd ((w4.setCell ⟨vb,0,none⟩ (.slice ca C.length cc)).setCell ⟨cb,0,none⟩ (.slice na N.length nc)) vr r/\Rd ((w4.setCell ⟨vb,0,none⟩ (.slice ca C.length cc)).setCell ⟨cb,0,none⟩ (.slice na N.length nc)) vn (addP V (mulP q C))/\Rd ((w4.setCell ⟨vb,0,none⟩ (.slice ca C.length cc)).setCell ⟨cb,0,none⟩ (.slice na N.length nc)) (.slice ca C.length cc) C/\ApartL [ab,lb,cb,vb] vr/\ApartL [ab,lb,cb,vb] vn/\TurnL [ab,lb,cb,vb] w ((w4.setCell ⟨vb,0,none⟩ (.slice ca C.length cc)).setCell ⟨cb,0,none⟩ (.slice na N.length nc))):=by
  intro w4 na nc b4 r4 f4;obtain⟨w5,h5⟩:∃w5,w5=(w4.setCell ⟨vb,0,none⟩ (.slice ca C.length cc)).setCell ⟨cb,0,none⟩ (.slice na N.length nc):=⟨_,rfl⟩;have d0:=(b4.cell (p:=⟨fb,0,none⟩) lf).trans cfu;have d1:=(b4.cell (p:=⟨ab,0,none⟩) la9).trans c1u;have d2:=(b4.cell (p:=⟨lb,0,none⟩) ll9).trans c2u;have d3:=(b4.cell (p:=⟨cb,0,none⟩) lc9).trans c3u;have d4:=(b4.cell (p:=⟨vb,0,none⟩) lv9).trans c4u;have e1:=(b4.frozen (p:=⟨ab,0,none⟩) la9).trans g1u;have e2:=(b4.frozen (p:=⟨lb,0,none⟩) ll9).trans g2u;have e3:=(b4.frozen (p:=⟨cb,0,none⟩) lc9).trans g3u;have e4:=(b4.frozen (p:=⟨vb,0,none⟩) lv9).trans g4u;have T5:TurnL [ab,lb,cb,vb] u w5:=by rw[h5];exact((Below.turnL b4 _).put Zs 0 _).put Zs 0 _
  have T6:TurnL [ab,lb,cb,vb] w4 w5:=by rw[h5];exact((TurnL.refl _ w4).put Zs 0 _).put Zs 0 _
  rw[<-h5];have P4:ApartL [ab,lb,cb,vb] (.slice na N.length nc):=ApartL.far f4 (fun g hg=>Zu (hG g hg) szu);refine⟨q,r,_,_,HD.out,⟨?_,?_,?_,?_,?_,?_,?_,?_,?_⟩,RL.out.turnL pl T5,RR.out.turnL PR.out T5,?_,RC.turnL pc T5,PR.out,P4,TU.out.trans T5⟩
  ·rw[h5];simp[go_sem,d0,m3,m4,Ne.symm m3,Ne.symm m4]
  ·rw[h5];simp[go_sem,d1,n2,n3,Ne.symm n2,Ne.symm n3]
  ·rw[h5];simp[go_sem,d2,n4,n5,Ne.symm n4,Ne.symm n5]
  ·rw[h5];simp[go_sem,d3,n6,Ne.symm n6]
  ·rw[h5];simp[go_sem,d4,n6,Ne.symm n6]
  ·rw[h5];simp[go_sem,e1]
  ·rw[h5];simp[go_sem,e2]
  ·rw[h5];simp[go_sem,e3]
  ·rw[h5];simp[go_sem,e4]
  ·rw[<-hM.out,<-hN.out];exact r4.turnL P4 T6
 clear RL RR PR TU tu t1 rs rr ra rl rc rv hF b1 fs fr pl pc pv c1u c2u g1u g2u hG HD n1 n2 n3 n4 n5 m1 m2 k1 k2 k3 k4 l0 l1 l2 l3 l4 hn;refine wp_region_held_drew (S:=fun wx=>wx.cell? ⟨fb,0,none⟩=some (.pointer (some ⟨b,0,none⟩))) Zk ?_ (fun hHeld=>?_)
 ·exact cfu
 refine tkH 2 ?_
 refine tkH 3 ?_
 refine rtH 0 1 4 (fun K hK=>?_) (fun K hK=>?_) fun K hK=>?_
 ·go_simp;refine koH hK hHeld fun hHeld=>?_
  clear hK K;refine rmH 1 4 (fun K hK=>?_) fun K hK=>?_
  ·exact z12_12
  ·exact z12_5
 ·go_simp;refine koH hK hHeld fun hHeld=>?_
  clear hK K;refine rmH 0 4 (fun K hK=>?_) fun K hK=>?_
  ·exact z12_12
  ·exact z12_6
 ·go_simp;refine koH hK hHeld fun hHeld=>?_
  clear hK K;refine rtH 0 1 5 (fun K hK=>?_) (fun K hK=>?_) fun K hK=>?_
  ·exact z12_5
  ·exact z12_6
  ·go_simp;refine(HM _ (by first|assumption|exact Zf.drew)).mono ?_
   rintro e w3 ⟨ma,mc,rfl,r3,b3⟩;have x1:=(b3.cell (p:=⟨cb,0,none⟩) lc9).trans c3u;have x2:=(b3.cell (p:=⟨vb,0,none⟩) lv9).trans c4u
   try go_simp
   refine koH hK ((b3.cell (p:=⟨fb,0,none⟩) lf).trans cfu) fun hHeld=>?_
   clear hK K;refine rmH 0 1 (fun K hK=>?_) fun K hK=>?_
   ·go_simp;refine koH hK hHeld fun hHeld=>?_
    clear hK K;refine rnH 1 fun K hK=>?_
    exact z12_11
   ·go_simp;refine koH hK hHeld fun hHeld=>?_
    exact z12_3
theorem ApartL.mid{w:World}{N:Nat}{v:Value}{p:List UInt8}{G:List Nat}(h:Rd w v p)(hf:Far N v)(hg:∀g,g∈G->g<N∨w.heap.size<=g):ApartL G v:=by
 intro x n c e
 rcases h with⟨a,c',_,e2,_⟩|⟨b,off,cap,h1,h2,h3,h4,h5,h6⟩
 ·subst e2;simp at e;exact Or.inl e.2.1.symm
 ·have hx:=hf x n c e;subst h2;simp at e;obtain⟨rfl,rfl,rfl⟩:=e;refine Or.inr (fun hm=>?_)
  rcases hg _ hm with h9|h9
  ·have:N<=b:=hx
   have:b<N:=h9
   omega
  ·have:w.heap.size<=b:=h9
   omega
def MakesE(w:World)(s known:List UInt8)(e:Nat)(x:Ending)(w':World):Prop:=
 ∃r0 v0 r1 v1 vc vl,EuL s known e r0 r1 v0 v1/\2*r1.length<=s.length+e+1/\x= .returned (.tuple #[vc,vl])/\Rd w' vc v1/\Rd w' vl r1/\Below w.heap.size w w'
theorem keuc_any{w:World}{b:Nat}{v:Value}{T s known:List UInt8}{e:Nat}(hF:FieldAt w b)(hT:Rd w v T)(hTl:T.length<=s.length)(hTc:∀j,j<s.length->co T j=keP s known j)(hl:s.length<=300)(he:e<=s.length){x y:Int}(hx:x=(s.length:Int))(hy:y=(e:Int)):
  Calls Tryz.prog 196 #[.pointer (some ⟨b,0,none⟩),v,.int .i64 x,.int .i64 y] w (MakesE w s known e):=by
 subst hx hy;obtain⟨sa,sc,rfl⟩:=hT.form;obtain⟨m,hm⟩:∃m,Hid (m=s.length):=⟨_,rfl⟩;rw[<-hm.out]at hTl hTc hl he ⊢;obtain⟨N,hN⟩:∃N,Hid (N=w.heap.size):=⟨_,rfl⟩
 go_enter Tryz.func196,Tryz.ntmps196
 go_wp2_with fail
 obtain⟨u0,hu0⟩:∃u0,u0=((w.alloc (.cells #[.pointer (some ⟨b,0,none⟩)] 26)).alloc (.cells #[.slice none 0 0] 36)).alloc (.cells #[.slice none 0 0] 36):=⟨_,rfl⟩;rw[<-hu0];have B0:Below w.heap.size w u0:=by rw[hu0];exact below_lit (below_lit (below_lit Zf _) _) _
 have cf0:u0.cell? ⟨w.heap.size,0,none⟩=some (.pointer (some ⟨b,0,none⟩)):=by rw[hu0];go_simp
 have cc0:u0.cell? ⟨w.heap.size+1,0,none⟩=some (.slice none 0 0):=by rw[hu0];go_simp
 have cl0:u0.cell? ⟨w.heap.size+1+1,0,none⟩=some (.slice none 0 0):=by rw[hu0];go_simp
 have gc0:u0.frozen? ⟨w.heap.size+1,0,none⟩=false:=by rw[hu0];go_simp
 have gl0:u0.frozen? ⟨w.heap.size+1+1,0,none⟩=false:=by rw[hu0];go_simp
 have sz0:Hid (u0.heap.size=w.heap.size+3):=by show _=_;rw[hu0];simp
 clear hu0;go_step3
 go_wp2_with fail
 refine(kpow_any Zo rfl).mono ?_
 rintro e9 w1 ⟨v1,rfl,r1,b1,f1⟩;have HX:Hid ((xpL m).length=m+1):=xpL_length m;obtain⟨X,hX⟩:∃X,Hid (X=xpL m):=⟨_,rfl⟩;rw[<-hX.out]at r1 HX;obtain⟨a1,c1,rfl⟩:=r1.form;have B1:=Below.next B0 b1
 go_wp2_with fail
 refine(pnorm_far (hT.below B1) Zo).mono ?_
 rintro e9 w2 ⟨v2,rfl,r2,b2,f2⟩;have hR:=norm_length_le T;have HRc:Hid (∀j,j<m->co (norm T) j=keP s known j):=fun j hj=>by rw[co_norm];exact hTc j hj
 have HRn:Hid (norm (norm T)=norm T):=norm_mk (co_fin _);obtain⟨R,hR9⟩:∃R,Hid (R=norm T):=⟨_,rfl⟩;rw[<-hR9.out]at r2 hR HRc HRn;obtain⟨a2,c2,rfl⟩:=r2.form;have B2:Below u0.heap.size u0 w2:=Below.next b1 b2;have S0:=sz0.out;have cf2:=(B2.cell (p:=⟨w.heap.size,0,none⟩) (by show w.heap.size<_;omega)).trans cf0;have cc2:=(B2.cell (p:=⟨w.heap.size+1,0,none⟩) (by show w.heap.size+1<_;omega)).trans cc0;have cl2:=(B2.cell (p:=⟨w.heap.size+1+1,0,none⟩) (by show w.heap.size+1+1<_;omega)).trans cl0;have gc2:=(B2.frozen (p:=⟨w.heap.size+1,0,none⟩) (by show w.heap.size+1<_;omega)).trans gc0;have gl2:=(B2.frozen (p:=⟨w.heap.size+1+1,0,none⟩) (by show w.heap.size+1+1<_;omega)).trans gl0;have S2:=B2.size;have q0:w.heap.size<w2.heap.size:=Zo
 have q1:w.heap.size+1<w2.heap.size:=Zo
 have q2:w.heap.size+1+1<w2.heap.size:=Zo
 have q3:w.heap.size+1+1≠w2.heap.size:=Zo
 have q4:w.heap.size+1≠w2.heap.size:=Zo
 have z1:=b1.size;have z2:=b2.size;have r1':=r1.below b2;have HBw:Hid (Below w.heap.size w w2):=Below.next B0 B2;clear cf0 cc0 cl0 gc0 gl0
 go_wp2_with fail
 obtain⟨fb,hfb⟩:∃fb,fb=w.heap.size:=⟨_,rfl⟩;obtain⟨cb,hcb⟩:∃cb,cb=w.heap.size+1:=⟨_,rfl⟩;obtain⟨lb,hlb⟩:∃lb,lb=w.heap.size+1+1:=⟨_,rfl⟩;obtain⟨ab,hab⟩:∃ab,ab=w2.heap.size:=⟨_,rfl⟩;obtain⟨vb,hvb⟩:∃vb,vb=w2.heap.size+1+1:=⟨_,rfl⟩;obtain⟨ob,hob⟩:∃ob,ob=w2.heap.size+1:=⟨_,rfl⟩;obtain⟨u,hu⟩:∃u,u=(((((w2.setCell ⟨lb,0,none⟩ (.slice a2 R.length c2)).setCell ⟨cb,0,none⟩ (.slice (some ⟨ob,0,none⟩) 1 1)).alloc (.cells #[.slice a1 X.length c1] 36)).alloc (.cells #[.int .u8 1] 5)).alloc (.cells #[.slice none 0 0] 36)):=⟨_,rfl⟩;rw[<-hlb,<-hcb,<-hfb,<-hvb,<-hob,<-hab,<-hu];have HE:Eu9 u b fb ab lb cb vb (.slice a1 X.length c1) (.slice a2 R.length c2) (.slice (some ⟨ob,0,none⟩) 1 1) (.slice none 0 0):=by
  rw[<-hfb]at cf2 q0;rw[<-hcb]at cc2 gc2;rw[<-hlb]at cl2 gl2;have n1:lb≠cb:=Zo
  have n2:fb≠lb:=Zo
  have n3:fb≠cb:=Zo
  obtain⟨w3,h3⟩:∃w3,w3=(w2.setCell ⟨lb,0,none⟩ (.slice a2 R.length c2)).setCell ⟨cb,0,none⟩ (.slice (some ⟨ob,0,none⟩) 1 1):=⟨_,rfl⟩;have s3:w3.heap.size=w2.heap.size:=by rw[h3];simp
  have d0:w3.cell? ⟨fb,0,none⟩=some (.pointer (some ⟨b,0,none⟩)):=by rw[h3];simp[go_sem,cf2,n2,n3,Ne.symm n2,Ne.symm n3]
  have d1:w3.cell? ⟨lb,0,none⟩=some (.slice a2 R.length c2):=by rw[h3];simp[go_sem,cl2,n1,Ne.symm n1]
  have d2:w3.cell? ⟨cb,0,none⟩=some (.slice (some ⟨ob,0,none⟩) 1 1):=by rw[h3];simp[go_sem,cc2,n1,Ne.symm n1]
  have d3:w3.frozen? ⟨lb,0,none⟩=false:=by rw[h3];simp[go_sem,gl2]
  have d4:w3.frozen? ⟨cb,0,none⟩=false:=by rw[h3];simp[go_sem,gc2]
  rw[<-h3]at hu;have B3:Below w3.heap.size w3 u:=by rw[hu];exact below_lit (below_lit (below_lit Zf _) _) _
  have l0:fb<w3.heap.size:=Zo
  have l1:lb<w3.heap.size:=Zo
  have l2:cb<w3.heap.size:=Zo
  have hab':ab=w3.heap.size:=Zo
  have hvb':vb=w3.heap.size+1+1:=Zo
  refine⟨(B3.cell (p:=⟨fb,0,none⟩) l0).trans d0,?_,(B3.cell (p:=⟨lb,0,none⟩) l1).trans d1,(B3.cell (p:=⟨cb,0,none⟩) l2).trans d2,?_,?_,(B3.frozen (p:=⟨lb,0,none⟩) l1).trans d3,(B3.frozen (p:=⟨cb,0,none⟩) l2).trans d4,?_⟩
  ·rw[hu,hab'];go_simp
  ·rw[hu,hvb'];go_simp
  ·rw[hu,hab'];go_simp
  ·rw[hu,hvb'];go_simp
 have bw:=hF.lt;have HS:Sep9 b fb ab lb cb vb:=by constructor<;>omega
 have T3:TurnL [lb,cb] w2 u:=by
  rw[hu];refine TurnL.trans (b:=(w2.setCell ⟨lb,0,none⟩ (.slice a2 R.length c2)).setCell ⟨cb,0,none⟩ (.slice (some ⟨ob,0,none⟩) 1 1)) (((TurnL.refl _ w2).put Zs 0 _).put Zs 0 _) ?_
  exact Below.turnL (below_lit (below_lit (below_lit Zf _) _) _) _
 have HBu:Below w.heap.size w u:=HBw.out.trans (T3.below (fun g hg=>by simp at hg;omega) Zo);have g4:∀g,g∈[ab,lb,cb,vb]->g<u0.heap.size∨w2.heap.size<=g:=fun g hg=>by simp at hg;omega
 have g2:∀g,g∈[lb,cb]->g<u0.heap.size∨w2.heap.size<=g:=fun g hg=>by simp at hg;omega
 have ra:Rd u (.slice a1 X.length c1) X:=r1'.turnL (ApartL.mid r1' f1 g2) T3;have rl:Rd u (.slice a2 R.length c2) R:=r2.turnL (ApartL.mid r2 (f2.mono z1) g2) T3;have pl:ApartL [ab,lb,cb,vb] (.slice a2 R.length c2):=ApartL.mid r2 (f2.mono z1) g4;have pc:ApartL [ab,lb,cb,vb] (.slice (some ⟨ob,0,none⟩) 1 1):=fun x n c e9=>Or.inr (by simp at e9;obtain⟨rfl,_,_⟩:=e9;simp;omega)
 have rc:Rd u (.slice (some ⟨ob,0,none⟩) 1 1) [1]:=by
  refine Or.inr ⟨ob,0,1,Zs,rfl,Zs,by unfold maxLen;simp,?_,fun i hi=>?_⟩
  ·rw[hu];simp;omega
  ·simp at hi;subst hi;obtain⟨w3,h3⟩:∃w3,w3=(w2.setCell ⟨lb,0,none⟩ (.slice a2 R.length c2)).setCell ⟨cb,0,none⟩ (.slice (some ⟨ob,0,none⟩) 1 1):=⟨_,rfl⟩;have s3:w3.heap.size=w2.heap.size:=by rw[h3];simp
   have hob':ob=w3.heap.size+1:=Zo
   rw[<-h3]at hu;rw[hu,hob'];go_simp;rfl
 have HE0:EuL s known e X R [] [1]:=by
  have h0:m=s.length:=hm.out;have hX1:X=xpL s.length:=by rw[hX.out,h0]
  rw[hX1];exact EuL.start Zo (co_xpL _) (xpL_length _) (fun j hj=>HRc.out j Zo) Zo HRn.out
 have HG:Hid (∀g,g∈[ab,lb,cb,vb]->w.heap.size<=g):=fun g hg=>by simp at hg;omega
 have HI:Hid (Eu9 u b fb ab lb cb vb (.slice a1 X.length c1) (.slice a2 R.length c2) (.slice (some ⟨ob,0,none⟩) 1 1) (.slice none 0 0)/\EuL s known e X R [] [1]/\Rd u (.slice a1 X.length c1) X/\Rd u (.slice a2 R.length c2) R/\Rd u (.slice (some ⟨ob,0,none⟩) 1 1) [1]/\Rd u (.slice none 0 0) []/\ApartL [ab,lb,cb,vb] (.slice a2 R.length c2)/\ApartL [ab,lb,cb,vb] (.slice (some ⟨ob,0,none⟩) 1 1)/\ApartL [ab,lb,cb,vb] (.slice none 0 0)/\Below w.heap.size w u):=
  ⟨HE,HE0,ra,rl,rc,rd9_nil _,pl,pc,ApartL.nil _ _ _,HBu⟩
 have HS':Hid _:=HS;clear HE HE0 ra rl rc pl pc HBu T3 HS g2 g4 bw hu hob hvb hab hlb hcb hfb r1 r1' r2 f1 f2 b1 b2 B0 B1 B2 cf2 cc2 cl2 gc2 gl2 q0 q1 q2 q3 q4 z1 z2 S0 S2 sz0 HBw HRc HRn hR9 hR hTc hTl hT HX hX hN;go_step3
 go_wp2_with fail
 go_loopw [13] (fun d wr=>∃va vl vc vv A L C V,Eu9 wr b fb ab lb cb vb va vl vc vv/\EuL s known e A L V C/\V.length<=301/\Rd wr va A/\Rd wr vl L/\Rd wr vc C/\Rd wr vv V/\ApartL [ab,lb,cb,vb] vl/\ApartL [ab,lb,cb,vb] vc/\ApartL [ab,lb,cb,vb] vv/\Below w.heap.size w wr) (fun d wr=>lenV ((wr.cell? ⟨lb,0,none⟩).getD undef))
 case atStart=>
  obtain⟨h1,h2,h3,h4,h5,h6,h7,h8,h9,h10⟩:=HI.out;exact⟨_,_,_,_,_,_,_,_,h1,h2,Zs,h3,h4,h5,h6,h7,h8,h9,h10⟩
 case round=>
  clear HI;obtain⟨va,vl,vc,vv,A,L,C,V,hE,hU,hV,ra,rl,rc,rv,pl,pc,pv,hB⟩:=hrel;obtain⟨la,lc,rfl⟩:=rl.form;obtain⟨ca,cc,rfl⟩:=rc.form;obtain⟨f1,f2,f3,f4,f5⟩:=hU.fac;rw[<-hm.out]at f2 f3 f5;have cl:=hE.cl;have hLn:Hid (norm L=L):=hU.n1;obtain⟨l,hl9⟩:∃l,Hid (l=L.length):=⟨_,rfl⟩;have hl2:l<=301:=by have:=hl9.out;omega
  obtain⟨M,hM⟩:∃M,Hid (M=m+e):=⟨_,rfl⟩;have gM:(m:Int)+(e:Int)=(M:Int):=by have:=hM.out;omega
  have hM6:M<=600:=by have:=hM.out;omega
  have gMw:IntKind.i64.wrap (M:Int)=(M:Int):=Zw
  have gw1:IntKind.i64.wrap ((l:Int)-1)=(l:Int)-1:=Zw
  have gw2:IntKind.i64.wrap (2*((l:Int)-1))=2*((l:Int)-1):=Zw
  by_cases hlt:2*l<=M+1
  ·have hlt':2*((l:Int)-1)<(M:Int):=by omega
   have HU:Hid _:=hU;have HEnd:Hid (2*L.length<=s.length+e+1):=by show _<=_;have:=hM.out;have:=hl9.out;have:=hm.out;omega
   have cc9:=hE.cc;have gc9:=hE.gc;have gl9:=hE.gl;have n4:lb≠cb:=HS'.out.n4;rw[<-hl9.out]at cl rl;clear hU;clear ra rv pv f1 f3 f4 f5 hLn hF
   go_wp2_with fail
   go_region
   go_wp2;rw[Exit.noGoto_ret];obtain⟨w9,h9⟩:∃w9,w9=((wr.setCell ⟨cb,0,none⟩ (.slice ca C.length cc)).setCell ⟨lb,0,none⟩ (.slice la l lc)).drew:=⟨_,rfl⟩;rw[<-h9];have d1:w9.cell? ⟨cb,0,none⟩=some (.slice ca C.length cc):=by rw[h9];simp[go_sem,cc9,n4,Ne.symm n4]
   have d2:w9.cell? ⟨lb,0,none⟩=some (.slice la l lc):=by rw[h9];simp[go_sem,cl,n4,Ne.symm n4]
   have T9:TurnL [ab,lb,cb,vb] wr w9:=by rw[h9];exact(((TurnL.refl _ wr).put Zs 0 _).put Zs 0 _).drew
   refine bodyPost_ret (v:=.tuple #[.slice ca C.length cc,.slice la l lc]) (by simp[results,Tryz.results196,go_sem,d1,d2]) rfl ?_
   exact⟨A,V,L,C,_,_,HU.out,HEnd.out,rfl,rc.turnL pc T9,rl.turnL (by rw[hl9.out];exact pl) T9,hB.trans (T9.below HG.out hB.size)⟩
  ·have hlt':¬2*((l:Int)-1)<(M:Int):=by omega
   have hne:norm L≠[]:=by rw[hLn.out];intro e9;have:=hl9.out;rw[e9]at this;simp at this;omega
   have HC:=kst_any (hF.below hB) hE HS'.out ra rl rc rv pl pc pv Zo Zo Zo Zo hne (fun q r h=>by have:=h.ls;omega);rw[<-hl9.out]at cl;have hs9:s.length+e+2<=2*L.length:=by have:=hM.out;have:=hl9.out;have:=hm.out;omega
   have HStep:Hid (∀q r,IsDiv A L q r->EuL s known e L r C (addP V (mulP q C))/\r.length<L.length):=fun q r hd=>⟨hU.step hs9 hd,by have:=hd.less;rw[hLn.out]at this;exact this⟩
   have hC3:C.length<=301:=Zo
   clear hU hs9 hne hE ra rl rc rv pv hF HS' f1 f2 f3 f4 f5 hLn
   go_wp2_with fail
   refine HC.mono ?_
   rintro e9 w9 ⟨rfl,q,r,vr,vn,hd,hE9,rl9,rr9,rn9,rc9,pr9,pn9,T9⟩;obtain⟨hU9,hr9⟩:=HStep.out q r hd;have HU9:Hid _:=hU9;have HB9:Hid (Below w.heap.size w w9):=hB.trans (T9.below HG.out hB.size);obtain⟨rra,rrc,rfl⟩:=rr9.form;have HMe:Hid (lenV ((w9.cell? ⟨lb,0,none⟩).getD undef)<lenV ((wr.cell? ⟨lb,0,none⟩).getD undef)):=by
    show _<_
    rw[hE9.cl,cl,Option.getD_some,Option.getD_some]
    show r.length<l
    rw[hl9.out];exact hr9
   have HAll:Hid (∃va vl vc vv A L C V,Eu9 w9 b fb ab lb cb vb va vl vc vv/\EuL s known e A L V C/\V.length<=301/\Rd w9 va A/\Rd w9 vl L/\Rd w9 vc C/\Rd w9 vv V/\ApartL [ab,lb,cb,vb] vl/\ApartL [ab,lb,cb,vb] vc/\ApartL [ab,lb,cb,vb] vv/\Below w.heap.size w w9):=
    ⟨_,_,_,_,_,_,_,_,hE9,HU9.out,hC3,rl9,rr9,rn9,rc9,pr9,pn9,pc,HB9.out⟩
   clear HC hU9 hr9 HStep hE9 rl9 rr9 rn9 rc9 pr9 pn9 T9 hd pl pc hB;go_wp2;go_roundw
   case rel=>exact HAll.out
   case measure=>exact HMe.out
theorem rd_e9{w:World}{a:Option Addr}{c n:Nat}(h1:c-n<=maxLen)(h2:a=none->c=0):Rd w (.slice (Option.map (fun x=>x.add n) a) 0 (c-n)) []:=
 Or.inl ⟨_,_,rfl,rfl,h1,fun e=>by
  cases a with
  |none=>rw[h2 rfl];exact Nat.zero_sub n
  |some x=>cases e⟩
theorem z12_9{p:Prop} (h:p:=by
 rintro e w2 ⟨v2,rfl,hr2,hb2,hf2⟩;go_wp2;go_ret;exact⟨_,rfl,hr2,hb2,hf2⟩
 ):p:=h
theorem z12_7{p:Prop} (h:p:=by
 go_wp2_with fail
 ·refine(pnorm_far (p:=[]) (Or.inl ⟨_,_,rfl,rfl,Zz,fun _=>rfl⟩) Zd).mono ?_
  exact z12_9
 ·refine(pnorm_far (p:=[]) (rd_e9 Zl hc3) Zd).mono ?_
  exact z12_9
 ):p:=h
theorem kfrom_any{w:World}{v:Value}{p:List UInt8}(hp:Rd w v p)(hl:p.length<=100000){m:Nat}(hm:m<=100000){x:Int}(hx:x=(m:Int)):Calls Tryz.prog 198 #[v,.int .i64 x] w (MakesF w (norm (p.drop m))):=by
 subst hx
 by_cases hlt:m<p.length
 ·obtain⟨b,off,c,rfl,hc1,hc2⟩:=hp.spot9 Zo;have hr:=hp.behind hlt rfl;unfold maxLen at hc2;obtain⟨n,hn⟩:∃n,Hid (n=p.length):=⟨_,rfl⟩;obtain⟨k,hk⟩:∃k,Hid (k=n-m):=⟨_,rfl⟩;have hdl:Hid ((p.drop m).length<=100000):=by show _<=_;rw[List.length_drop];omega
  rw[<-hn.out]at hr hlt hc1 hl ⊢;rw[<-hk.out]at hr;have hlt':(m:Int)<(n:Int):=Zo
  have hge:¬(n:Int)<(m:Int):=Zo
  have hmn:m<=n:=Zo
  have hmc:m<c:=Zo
  have hcm:¬c=m:=Zo
  have hnk:n-m=k:=by rw[hk.out]
  go_enter Tryz.func198,Tryz.ntmps198
  go_wp2_with fail
  refine(pnorm_far hr (Nat.le_trans hdl.out Zd)).mono ?_
  exact z12_9
 ·have hd:p.drop m=[]:=List.drop_eq_nil_of_le Zo;rw[hd];obtain⟨a,c,rfl⟩:=hp.form;have hc:p.length<=c/\c<=maxLen/\(a=none->c=0):=by
   rcases hp with⟨a',c',e,e2,h3,h4⟩|⟨b,o,c',h1,e2,h3,h4,_⟩
   ·simp at e2;obtain⟨rfl,_,rfl⟩:=e2;subst e;exact⟨Zz,h3,h4⟩
   ·simp at e2;obtain⟨rfl,rfl⟩:=e2;exact⟨h3,h4,fun h=>by cases h⟩
  obtain⟨hc1,hc2,hc3⟩:=hc;obtain⟨n,hn⟩:∃n,Hid (n=p.length):=⟨_,rfl⟩;rw[<-hn.out]at hlt hc1 hl ⊢;clear hp hd;have hlt':¬(m:Int)<(n:Int):=Zo
  unfold maxLen at hc2
  go_enter Tryz.func198,Tryz.ntmps198
  by_cases e1:(n:Int)<(m:Int)
  ·exact z12_7
  ·obtain rfl:n=m:=by omega
   clear e1 hlt' hlt;exact z12_7
theorem Rd.first9{w:World}{a:Option Addr}{n c k:Nat}{p:List UInt8}(h:Rd w (.slice a n c) p)(hk:k<=n):Rd w (.slice a k c) (p.take k):=by
 rcases h with⟨a',c',e,e2,h3,h4⟩|⟨b,off,c',h1,e2,h3,h4,h5,h6⟩
 ·simp at e2;obtain⟨rfl,rfl,rfl⟩:=e2;subst e;obtain rfl:k=0:=by omega
  exact Or.inl ⟨_,_,rfl,rfl,h3,h4⟩
 ·simp at e2;obtain⟨rfl,rfl,rfl⟩:=e2;have hl:(p.take k).length=k:=by rw[List.length_take];omega
  by_cases h0:k=0
  ·subst h0;exact Or.inl ⟨_,_,Zs,rfl,h4,fun h=>by cases h⟩
  ·refine Or.inr ⟨b,off,c,fun e=>by rw[e]at hl;simp at hl;omega,by rw[hl],by rw[hl];omega,h4,h5,fun i hi=>?_⟩;rw[hl]at hi;rw[co_take hi];exact h6 i Zo
theorem Rd.caps{w:World}{a:Option Addr}{n c:Nat}{p:List UInt8}(h:Rd w (.slice a n c) p):n=p.length/\n<=c/\c<=9223372036854775807:=by
 rcases h with⟨a',c',e,e2,h3,h4⟩|⟨b,off,c',h1,e2,h3,h4,h5,h6⟩
 ·simp at e2;obtain⟨rfl,rfl,rfl⟩:=e2;subst e;unfold maxLen at h3;exact⟨rfl,Zz,Zo⟩
 ·simp at e2;obtain⟨rfl,rfl,rfl⟩:=e2;unfold maxLen at h4;exact⟨rfl,h3,Zo⟩
theorem keP_told(s known:List UInt8):co (mulP (norm known) s.reverse)=keP s known:=by
 rw[co_mulP,co_norm];rfl
theorem told_take{s known:List UInt8}{k:Nat}(hk:k=min s.length (mulP (norm known) s.reverse).length):((mulP (norm known) s.reverse).take k).length<=s.length/\∀j,j<s.length->co ((mulP (norm known) s.reverse).take k) j=keP s known j:=by
 rw[<-keP_told];refine⟨by rw[List.length_take];omega,fun j hj=>?_⟩
 by_cases h:j<k
 ·rw[co_take h]
 ·rw[co_ge (p:=(mulP (norm known) s.reverse).take k) (by rw[List.length_take];omega),co_ge Zo]
theorem eva_told{s known:List UInt8}{t:Nat}{L:Nat->UInt8}(h:Fin0 L (t+1)):norm ((mulP (upto L (t+1)) (mulP (norm known) s.reverse)).drop s.length)=evaL s known t L:=by
 have e:co (upto L (t+1))=L:=funext fun i=>co_upto h i
 have hf:=fin_conv (upto L (t+1)) (mulP (norm known) s.reverse);have e1:(mulP (upto L (t+1)) (mulP (norm known) s.reverse)).drop s.length=evaL s known t L:=by
  unfold evaL
  show(mk (conv (co (upto L (t+1))) (co (mulP (norm known) s.reverse))) _).drop s.length=_
  rw[keP_told,e]at hf ⊢;exact drop_mk hf (eva_fin h)
 rw[e1];exact norm_mk (eva_fin h)
theorem z12_10{p:Prop} (h:p:=by
 go_wp2
 go_ret3
 exact MakesK.mk HF.out (rd9_nil _) (rd9_nil _) b1
 ):p:=h
theorem z12_2{p:Prop} (h:p:=by
 clear ek
 go_wp2_with fail
 refine HC.mono ?_
 rintro e9 w4 ⟨r0,v0,R1,C1,vc,vl,hU,hEnd,rfl,rc,rl,b4⟩;obtain⟨f1,f2,f3,f4,f5⟩:=hU.fac;rw[<-hm.out]at f2 f3 f5;obtain⟨ca,cc,rfl⟩:=rc.form;obtain⟨la,lc,rfl⟩:=rl.form;replace b1:=Below.next b1 b4;replace r3:=r3.below b4;have hF4:=hF3.below b4;obtain⟨c,hc⟩:∃c,Hid (c=C1.length):=⟨_,rfl⟩;obtain⟨t,ht⟩:∃t,Hid (t=c-1):=⟨_,rfl⟩;obtain⟨l,hl9⟩:∃l,Hid (l=R1.length):=⟨_,rfl⟩;have hc1:1<=c:=by rw[hc.out];exact f1
 have hc2:c<=301:=by rw[hc.out];omega
 have hl3:l<=301:=by rw[hl9.out];omega
 have gt:(c:Int)-1=(t:Int):=by have:=ht.out;omega
 have ht3:t<=300:=by have:=ht.out;omega
 have gtw:IntKind.i64.wrap (t:Int)=(t:Int):=Zw
 obtain⟨q,hq⟩:∃q,Hid (q=E+t):=⟨_,rfl⟩;have gq:(E:Int)+(t:Int)=(q:Int):=by have:=hq.out;omega
 have hq6:q<=600:=by have:=hq.out;omega
 have gqw:IntKind.i64.wrap (q:Int)=(q:Int):=Zw
 have HE2:Hid ((norm known).length-1=E):=by show _=_;rw[<-hK.out,<-hn9.out,hE.out]
 rcases Nat.lt_or_ge q l with hql|hql
 ·have g3:(l:Int)>(q:Int):=by omega
  have HF:Hid (KeyAns s known 100 [] []):=by
   refine Or.inr (Or.inr ⟨hB.out,?_,rfl,rfl,rfl⟩);rw[HE2.out];exact hU.none hEnd (by rw[<-hc.out,<-ht.out,<-hq.out,<-hl9.out];exact hql)
  rw[<-hc.out,<-hl9.out];clear HC hU hEnd f1 f2 f3 f4 f5 rc rl r3 HT hF3 hF4 b4;exact z12_10
 ·have g3:¬(l:Int)>(q:Int):=by omega
  obtain⟨k1,k2,k3⟩:=hU.least hEnd (by rw[<-hc.out,<-ht.out,<-hq.out,<-hl9.out];exact hql);have HL:Hid (LeastLoc (keP s known) s.length E t (fun j=>mu (iv (co C1 (C1.length-1))) (co C1 j))):=by
   show LeastLoc _ _ _ _ _
   rw[ht.out,hc.out];exact k3
  have HC5:=ktop_any hF4 rc Zo k1 k2;obtain⟨A,hA⟩:∃A,Hid (A=fun j=>mu (iv (co C1 (C1.length-1))) (co C1 j)):=⟨_,rfl⟩;rw[<-hA.out]at HC5 HL;rw[show C1.length-1+1=t+1 by rw[ht.out,hc.out]]at HC5;obtain⟨AL,hAL⟩:∃AL,Hid (AL=upto A (t+1)):=⟨_,rfl⟩;have hALl:Hid (AL.length=t+1):=by show _=_;rw[hAL.out,upto_length]
  rw[<-hAL.out]at HC5;rw[<-hc.out]at HC5 ⊢;rw[<-hl9.out];clear HC hU hEnd f1 f2 f3 f4 f5 rc rl HT hF3 b4 k1 k2 k3
  go_wp2_with fail
  refine HC5.mono ?_
  rintro e9 w5 ⟨v5,rfl,r5,b5,_⟩;replace b1:=Below.next b1 b5;replace r3:=r3.below b5;have hF5:=hF4.below b5;obtain⟨a5,c5,rfl⟩:=r5.form;rw[hALl.out]at r5 ⊢;clear HC5 hF4 b5
  go_wp2_with fail
  refine(pmul_any hF5 r5 r3 (by rw[hALl.out];omega) (by rw[<-hpn.out];omega)).mono ?_
  rintro e9 w6 ⟨v6,rfl,r6,b6⟩;have h6:=mulP_length_le AL P;rw[hALl.out,<-hpn.out]at h6;have HO:Hid (norm ((mulP AL P).drop m)=evaL s known t A):=by
   show _=_
   rw[hAL.out,HP.out,hm.out];exact eva_told HL.out.loc.fin
  obtain⟨Q,hQ⟩:∃Q,Hid (Q=mulP AL P):=⟨_,rfl⟩;rw[<-hQ.out]at r6 h6 HO;replace b1:=Below.next b1 b6;replace r5:=r5.below b6;clear hF5 r3 b6
  go_wp2_with fail
  refine(kfrom_any r6 Zo (m:=m) Zo rfl).mono ?_
  rintro e9 w7 ⟨v7,rfl,r7,b7,_⟩;rw[HO.out]at r7;replace b1:=Below.next b1 b7;replace r5:=r5.below b7;obtain⟨a7,c7,rfl⟩:=r7.form;have HF:Hid (KeyAns s known 0 AL (evaL s known t A)):=by
   rw[hAL.out];refine KeyAns.of_loc hB.out ?_
   rw[HE2.out];exact HL.out
  obtain⟨O,hO⟩:∃O,Hid (O=evaL s known t A):=⟨_,rfl⟩;rw[<-hO.out]at r7 HF ⊢;clear b7 r6;go_wp2
  go_ret3
  exact MakesK.mk HF.out r5 r7 b1
 ):p:=h
theorem ksol_any{w:World}{b:Nat}{vs vk:Value}{s known:List UInt8}(hF:FieldAt w b)(hs:Rd w vs s)(hk:Rd w vk known)(hl:s.length<=300)(hl2:known.length<=300):Calls Tryz.prog 169 #[.pointer (some ⟨b,0,none⟩),vs,vk] w (MakesK w s known):=by
 obtain⟨sa,sc,rfl⟩:=hs.form
 go_enter Tryz.func169,Tryz.ntmps169
 go_wp2_with fail
 refine(pnorm_any hk Zo).mono ?_
 rintro e9 w1 ⟨v1,rfl,r1,b1⟩;have hn:=norm_length_le known;obtain⟨K,hK⟩:∃K,Hid (K=norm known):=⟨_,rfl⟩;rw[<-hK.out]at r1 hn;obtain⟨ka,kc,rfl⟩:=r1.form;replace hs:=hs.below b1;have hF1:=hF.below b1;obtain⟨m,hm⟩:∃m,Hid (m=s.length):=⟨_,rfl⟩;obtain⟨n,hn9⟩:∃n,Hid (n=K.length):=⟨_,rfl⟩;have hm3:m<=300:=by rw[hm.out];exact hl
 have hn3:n<=300:=by rw[hn9.out];omega
 rw[<-hm.out]at hs ⊢;rw[<-hn9.out]at r1 ⊢;have gw1:IntKind.i64.wrap ((n:Int)-1)=(n:Int)-1:=Zw
 clear hn hk hF
 by_cases h0:n=0
 ·have g1:(n:Int)-1<0:=by omega
  have HF:Hid (KeyAns s known 1 [] []):=Or.inl ⟨Or.inl (by rw[<-hK.out,<-hn9.out];exact h0),rfl,rfl,rfl⟩;clear h0;exact z12_10
 by_cases h1:m+1<n
 ·have g1:¬(n:Int)-1<0:=by omega
  have g2:(n:Int)-1>(m:Int):=Zo
  have HF:Hid (KeyAns s known 1 [] []):=Or.inl ⟨Or.inr (by rw[<-hK.out,<-hn9.out,<-hm.out];exact h1),rfl,rfl,rfl⟩;clear h0 h1;exact z12_10
 have hB:Hid (¬BadK s known):=by
  unfold Hid BadK;rw[<-hK.out,<-hn9.out,<-hm.out];omega
 obtain⟨E,hE⟩:∃E,Hid (E=n-1):=⟨_,rfl⟩;have gE:(n:Int)-1=(E:Int):=by have:=hE.out;omega
 have hEm:E<=m:=by have:=hE.out;omega
 have g1:¬(E:Int)<0:=Zo
 have g2:¬(E:Int)>(m:Int):=Zo
 have gw2:IntKind.i64.wrap (E:Int)=(E:Int):=Zw
 clear gw1 h0 h1;have hsl:Hid (s.length<=1000):=by show _<=_;omega
 go_wp2_with fail
 refine(kturn_any hs hsl.out).mono ?_
 rintro e9 w2 ⟨v2,rfl,r2,b2,_⟩;replace b1:=Below.next b1 b2;replace r1:=r1.below b2;have hF2:=hF1.below b2;have hrl:Hid (s.reverse.length=m):=by show _=_;rw[List.length_reverse,hm.out]
 clear hF1 hs b2
 go_wp2_with fail
 refine(pmul_any hF2 r1 r2 (by rw[<-hn9.out];omega) (by rw[hrl.out];omega)).mono ?_
 rintro e9 w3 ⟨v3,rfl,r3,b3⟩;have hpl:=mulP_length_le K s.reverse;rw[<-hn9.out,hrl.out]at hpl;obtain⟨P,hP⟩:∃P,Hid (P=mulP K s.reverse):=⟨_,rfl⟩;rw[<-hP.out]at r3 hpl;have HP:Hid (P=mulP (norm known) s.reverse):=by show _=_;rw[hP.out,hK.out]
 obtain⟨pa,pc,rfl⟩:=r3.form;obtain⟨_,hpc,hpm⟩:=r3.caps;replace b1:=Below.next b1 b3;have hF3:=hF2.below b3;obtain⟨pn,hpn⟩:∃pn,Hid (pn=P.length):=⟨_,rfl⟩;rw[<-hpn.out]at hpl hpc r3 ⊢;clear hF2 r1 r2 b3;obtain⟨k,hk⟩:∃k,Hid (k=min m pn):=⟨_,rfl⟩;have hkn:k<=pn:=by have:=hk.out;omega
 have hkc:k<=pc:=Zo
 have rT:=r3.first9 hkn;have HT:Hid ((P.take k).length<=s.length/\∀j,j<s.length->co (P.take k) j=keP s known j):=by
  rw[HP.out];exact told_take (by rw[hk.out,hpn.out,HP.out,hm.out])
 obtain⟨HT1,HT2⟩:=HT.out;have HC:=keuc_any (e:=E) hF3 rT HT1 HT2 hl (by rw[<-hm.out];exact hEm) rfl rfl;rw[<-hm.out]at HC;clear HT1 HT2 rT
 rcases Nat.lt_or_ge pn m with hlt|hge
 rotate_left
 ·have ek:k=m:=by have:=hk.out;omega
  rw[ek]at HC hkn hkc;have hlt':¬(pn:Int)<(m:Int):=Zo
  exact z12_2
 ·have ek:k=pn:=by have:=hk.out;omega
  rw[ek]at HC hkn hkc;have hlt':(pn:Int)<(m:Int):=Zo
  exact z12_2
end Go.Proofs.YtddnfhfangfgeaaGreat.Gf
