/- TEXTS JOINED: KeCB. -/
import Derived.WalkMore
import Derived.Test.YtddnfhfangfgeaaGreatPome5
import Derived.Test.YtddnfhfangfgeaaGreatPome4
set_option maxHeartbeats 4000000
set_option maxRecDepth 100000
namespace Go.Proofs.YtddnfhfangfgeaaGreat.Gf
set_option linter.unusedVariables false
set_option linter.unusedSimpArgs false
open Go.RowKit
structure Eu9(w:World)(b fb ab lb cb vb:Nat)(va vl vc vv:Value):Prop where
 cf:w.cell? ⟨fb,0,none⟩=some (.pointer (some ⟨b,0,none⟩))
 ca:w.cell? ⟨ab,0,none⟩=some va
 cl:w.cell? ⟨lb,0,none⟩=some vl
 cc:w.cell? ⟨cb,0,none⟩=some vc
 cv:w.cell? ⟨vb,0,none⟩=some vv
 ga:w.frozen? ⟨ab,0,none⟩=false
 gl:w.frozen? ⟨lb,0,none⟩=false
 gc:w.frozen? ⟨cb,0,none⟩=false
 gv:w.frozen? ⟨vb,0,none⟩=false
structure Sep9(b fb ab lb cb vb:Nat):Prop where
 n1:ab≠lb
 n2:ab≠cb
 n3:ab≠vb
 n4:lb≠cb
 n5:lb≠vb
 n6:cb≠vb
 m1:fb≠ab
 m2:fb≠lb
 m3:fb≠cb
 m4:fb≠vb
 k1:b≠ab
 k2:b≠lb
 k3:b≠cb
 k4:b≠vb
theorem ApartL.far{N:Nat}{v:Value}{G:List Nat}(h:Far N v)(hg:∀g,g∈G->g<N):ApartL G v:=by
 intro x n c e;exact Or.inr (fun h2=>by have:=hg _ h2;have:=h x n c e;omega)
theorem kst_any{w:World}{b fb ab lb cb vb:Nat}{va vl vc vv:Value}{A L C V:List UInt8}(hF:FieldAt w b)(hE:Eu9 w b fb ab lb cb vb va vl vc vv)(hS:Sep9 b fb ab lb cb vb)
  (ra:Rd w va A) (rl:Rd w vl L) (rc:Rd w vc C) (rv:Rd w vv V) (pl:ApartL [ab,lb,cb,vb] vl) (pc:ApartL [ab,lb,cb,vb] vc) (pv:ApartL [ab,lb,cb,vb] vv) (hA:A.length<=1000) (hL:L.length<=1000) (hC:C.length<=1000) (hV:V.length<=1000) (hn:norm L≠[]) (hq:∀q r,IsDiv A L q r->q.length<=2000):
  Calls Tryz.prog 219 #[.pointer (some ⟨fb,0,none⟩),.pointer (some ⟨ab,0,none⟩),.pointer (some ⟨lb,0,none⟩),.pointer (some ⟨cb,0,none⟩),.pointer (some ⟨vb,0,none⟩)] w fun e w'=>e= .returned (.tuple #[])/\
   ∃q r vr vn,IsDiv A L q r/\Eu9 w' b fb ab lb cb vb vl vr vn vc/\Rd w' vl L/\Rd w' vr r/\Rd w' vn (addP V (mulP q C))/\Rd w' vc C/\ApartL [ab,lb,cb,vb] vr/\ApartL [ab,lb,cb,vb] vn/\TurnL [ab,lb,cb,vb] w w':=by
 obtain⟨aa,ac,rfl⟩:=ra.form;obtain⟨la,lc,rfl⟩:=rl.form;obtain⟨ca,cc,rfl⟩:=rc.form;obtain⟨va,vc,rfl⟩:=rv.form;obtain⟨cf,c1,c2,c3,c4,g1,g2,g3,g4⟩:=hE;obtain⟨n1,n2,n3,n4,n5,n6,m1,m2,m3,m4,k1,k2,k3,k4⟩:=hS
 go_enter Tryz.func219,Tryz.ntmps219
 go_wp2_with fail
 refine(pdivide_far hF ra rl (by omega) (by omega) hn).mono ?_
 rintro e w1 ⟨vs,vr,q,r,rfl,hd,rs,rr,b1,fs,fr⟩;obtain⟨qa,qc,rfl⟩:=rs.form;obtain⟨ra',rc',rfl⟩:=rr.form;have l0:=World.block_lt_of_cell? w _ cf;have l1:=World.block_lt_of_cell? w _ c1;have l2:=World.block_lt_of_cell? w _ c2;have l3:=World.block_lt_of_cell? w _ c3;have l4:=World.block_lt_of_cell? w _ c4;have hql:=hq q r hd;have HD:Hid _:=hd;replace cf:=(b1.cell (p:=⟨fb,0,none⟩) l0).trans cf;replace c1:=(b1.cell (p:=⟨ab,0,none⟩) l1).trans c1;replace c2:=(b1.cell (p:=⟨lb,0,none⟩) l2).trans c2;replace c3:=(b1.cell (p:=⟨cb,0,none⟩) l3).trans c3;replace c4:=(b1.cell (p:=⟨vb,0,none⟩) l4).trans c4;replace g1:=(b1.frozen (p:=⟨ab,0,none⟩) l1).trans g1;replace g2:=(b1.frozen (p:=⟨lb,0,none⟩) l2).trans g2;replace g3:=(b1.frozen (p:=⟨cb,0,none⟩) l3).trans g3;replace g4:=(b1.frozen (p:=⟨vb,0,none⟩) l4).trans g4;clear hq hd
 go_wp2_with fail
 obtain⟨u,hu⟩:∃u,u=(w1.setCell ⟨ab,0,none⟩ (.slice la L.length lc)).setCell ⟨lb,0,none⟩ (.slice ra' r.length rc'):=⟨_,rfl⟩;rw[<-hu];have tu:TurnL [ab,lb,cb,vb] w u:=by rw[hu];exact((Below.turnL b1 _).put (by simp) 0 _).put (by simp) 0 _
 have t1:TurnL [ab,lb,cb,vb] w1 u:=by rw[hu];exact((TurnL.refl _ w1).put (by simp) 0 _).put (by simp) 0 _
 have sz1:=b1.size;have cfu:u.cell? ⟨fb,0,none⟩=some (.pointer (some ⟨b,0,none⟩)):=by rw[hu];simp[go_sem,cf,m1,m2,n1,Ne.symm m1,Ne.symm m2]
 have c1u:u.cell? ⟨ab,0,none⟩=some (.slice la L.length lc):=by rw[hu];simp[go_sem,c1,n1,Ne.symm n1]
 have c2u:u.cell? ⟨lb,0,none⟩=some (.slice ra' r.length rc'):=by rw[hu];simp[go_sem,c2,n1,Ne.symm n1]
 have c3u:u.cell? ⟨cb,0,none⟩=some (.slice ca C.length cc):=by rw[hu];simp[go_sem,c3,n2,n4,Ne.symm n2,Ne.symm n4]
 have c4u:u.cell? ⟨vb,0,none⟩=some (.slice va V.length vc):=by rw[hu];simp[go_sem,c4,n3,n5,Ne.symm n3,Ne.symm n5]
 have g1u:u.frozen? ⟨ab,0,none⟩=false:=by rw[hu];simp[go_sem,g1]
 have g2u:u.frozen? ⟨lb,0,none⟩=false:=by rw[hu];simp[go_sem,g2]
 have g3u:u.frozen? ⟨cb,0,none⟩=false:=by rw[hu];simp[go_sem,g3]
 have g4u:u.frozen? ⟨vb,0,none⟩=false:=by rw[hu];simp[go_sem,g4]
 clear hu cf c1 c2 c3 c4 g1 g2 g3 g4;have szu:=tu.size;have hG:∀g,g∈[ab,lb,cb,vb]->g<w.heap.size:=fun g hg=>by simp at hg;rcases hg with rfl|rfl|rfl|rfl<;>assumption
 have hFu:FieldAt u b:=hF.turnL (by simp[k1,k2,k3,k4]) tu;have RL:Hid (Rd u (.slice la L.length lc) L):=rl.turnL pl tu;have RR:Hid (Rd u (.slice ra' r.length rc') r):=rr.turnL (ApartL.far fr hG) t1;have RS:Rd u (.slice qa q.length qc) q:=rs.turnL (ApartL.far fs hG) t1;have RC:Rd u (.slice ca C.length cc) C:=rc.turnL pc tu;have RV:Rd u (.slice va V.length vc) V:=rv.turnL pv tu;have PR:Hid (ApartL [ab,lb,cb,vb] (.slice ra' r.length rc')):=ApartL.far fr hG;have TU:Hid (TurnL [ab,lb,cb,vb] w u):=tu;have hml:(mulP q C).length<=3000:=by unfold mulP;rw[mk_length];have:=deg_le (conv (co q) (co C)) (q.length+C.length);omega
 obtain⟨M,hM⟩:∃M,Hid (M=mulP q C):=⟨_,rfl⟩;rw[<-hM.out]at hml;have lf:fb<u.heap.size:=by omega
 have la9:ab<u.heap.size:=by omega
 have ll9:lb<u.heap.size:=by omega
 have lc9:cb<u.heap.size:=by omega
 have lv9:vb<u.heap.size:=by omega
 have HM:∀W:World,Below u.heap.size u W->Calls Tryz.prog 173 #[.pointer (some ⟨b,0,none⟩),.slice qa q.length qc,.slice ca C.length cc] W fun e w'=>∃ma mc,e= .returned (.slice ma M.length mc)/\Rd w' (.slice ma M.length mc) M/\Below u.heap.size u w':=fun W hW=>
  (pmul_far (hFu.below hW) (RS.below hW) (RC.below hW) (by omega) (by omega)).mono fun e w' ⟨v,h1,h2,h3,h4⟩=>by
   rw[<-hM.out]at h2;obtain⟨ma,mc,rfl⟩:=h2.form;exact⟨ma,mc,h1,h2,Below.next hW h3⟩
 have HA:∀(W:World) ma mc,Below u.heap.size u W->Rd W (.slice ma M.length mc) M->Calls Tryz.prog 221 #[.slice va V.length vc,.slice ma M.length mc] W fun e w'=>∃na nc,e= .returned (.slice na (addP V M).length nc)/\Rd w' (.slice na (addP V M).length nc) (addP V M)/\Below u.heap.size u w'/\Far u.heap.size (.slice na (addP V M).length nc):=fun W ma mc hW hr=>
  (padd_far (RV.below hW) hr (by omega) (by omega)).mono fun e w' ⟨v,h1,h2,h3,h4⟩=>by
   obtain⟨na,nc,rfl⟩:=h2.form;exact⟨na,nc,h1,h2,Below.next hW h3,h4.mono hW.size⟩
 obtain⟨N,hN⟩:∃N,Hid (N=addP V M):=⟨_,rfl⟩;rw[<-hN.out]at HA;have HFin:Hid (∀(w4:World) na nc,Below u.heap.size u w4->Rd w4 (.slice na N.length nc) N->Far u.heap.size (.slice na N.length nc)->
   ∃q r vr vn,IsDiv A L q r/\Eu9 ((w4.setCell ⟨vb,0,none⟩ (.slice ca C.length cc)).setCell ⟨cb,0,none⟩ (.slice na N.length nc)) b fb ab lb cb vb (.slice la L.length lc) vr vn (.slice ca C.length cc)/\Rd ((w4.setCell ⟨vb,0,none⟩ (.slice ca C.length cc)).setCell ⟨cb,0,none⟩ (.slice na N.length nc)) (.slice la L.length lc) L/\Rd ((w4.setCell ⟨vb,0,none⟩ (.slice ca C.length cc)).setCell ⟨cb,0,none⟩ (.slice na N.length nc)) vr r/\Rd ((w4.setCell ⟨vb,0,none⟩ (.slice ca C.length cc)).setCell ⟨cb,0,none⟩ (.slice na N.length nc)) vn (addP V (mulP q C))/\Rd ((w4.setCell ⟨vb,0,none⟩ (.slice ca C.length cc)).setCell ⟨cb,0,none⟩ (.slice na N.length nc)) (.slice ca C.length cc) C/\ApartL [ab,lb,cb,vb] vr/\ApartL [ab,lb,cb,vb] vn/\TurnL [ab,lb,cb,vb] w ((w4.setCell ⟨vb,0,none⟩ (.slice ca C.length cc)).setCell ⟨cb,0,none⟩ (.slice na N.length nc))):=by
  intro w4 na nc b4 r4 f4;obtain⟨w5,h5⟩:∃w5,w5=(w4.setCell ⟨vb,0,none⟩ (.slice ca C.length cc)).setCell ⟨cb,0,none⟩ (.slice na N.length nc):=⟨_,rfl⟩;have d0:=(b4.cell (p:=⟨fb,0,none⟩) lf).trans cfu;have d1:=(b4.cell (p:=⟨ab,0,none⟩) la9).trans c1u;have d2:=(b4.cell (p:=⟨lb,0,none⟩) ll9).trans c2u;have d3:=(b4.cell (p:=⟨cb,0,none⟩) lc9).trans c3u;have d4:=(b4.cell (p:=⟨vb,0,none⟩) lv9).trans c4u;have e1:=(b4.frozen (p:=⟨ab,0,none⟩) la9).trans g1u;have e2:=(b4.frozen (p:=⟨lb,0,none⟩) ll9).trans g2u;have e3:=(b4.frozen (p:=⟨cb,0,none⟩) lc9).trans g3u;have e4:=(b4.frozen (p:=⟨vb,0,none⟩) lv9).trans g4u;have T5:TurnL [ab,lb,cb,vb] u w5:=by rw[h5];exact((Below.turnL b4 _).put (by simp) 0 _).put (by simp) 0 _
  have T6:TurnL [ab,lb,cb,vb] w4 w5:=by rw[h5];exact((TurnL.refl _ w4).put (by simp) 0 _).put (by simp) 0 _
  rw[<-h5];have P4:ApartL [ab,lb,cb,vb] (.slice na N.length nc):=ApartL.far f4 (fun g hg=>Nat.lt_of_lt_of_le (hG g hg) szu);refine⟨q,r,_,_,HD.out,⟨?_,?_,?_,?_,?_,?_,?_,?_,?_⟩,RL.out.turnL pl T5,RR.out.turnL PR.out T5,?_,RC.turnL pc T5,PR.out,P4,TU.out.trans T5⟩
  ·rw[h5];simp[go_sem,d0,m3,m4,Ne.symm m3,Ne.symm m4]
  ·rw[h5];simp[go_sem,d1,n2,n3,Ne.symm n2,Ne.symm n3]
  ·rw[h5];simp[go_sem,d2,n4,n5,Ne.symm n4,Ne.symm n5]
  ·rw[h5];simp[go_sem,d3,n6,Ne.symm n6]
  ·rw[h5];simp[go_sem,d4,n6,Ne.symm n6]
  ·rw[h5];simp[go_sem,e1]
  ·rw[h5];simp[go_sem,e2]
  ·rw[h5];simp[go_sem,e3]
  ·rw[h5];simp[go_sem,e4]
  ·rw[<-hM.out,<-hN.out];exact r4.turnL P4 T6
 clear RL RR PR TU tu t1 rs rr ra rl rc rv hF b1 fs fr pl pc pv c1u c2u g1u g2u hG HD n1 n2 n3 n4 n5 m1 m2 k1 k2 k3 k4 l0 l1 l2 l3 l4 hn;refine wp_region_held_drew (S:=fun wx=>wx.cell? ⟨fb,0,none⟩=some (.pointer (some ⟨b,0,none⟩))) (by kernel_rfl) ?_ (fun hHeld=>?_)
 ·exact cfu
 refine wpAnyH_take (i:=2) (v:=?_) rfl (by kernel_rfl) (by kernel_rfl) (by kernel_rfl) (fun _ _ _ h=>h) (Or.inl ⟨by rfl,?_⟩) (by assumption) ?_
 rotate_left
 ·intro w hSw;(try dsimp only at hSw);go_simp;try with_reducible rfl
 try simp only[Act.put,List.setIfInBounds_toArray,List.set_cons_zero,List.set_cons_succ]
 refine wpAnyH_take (i:=3) (v:=?_) rfl (by kernel_rfl) (by kernel_rfl) (by kernel_rfl) (fun _ _ _ h=>h) (Or.inl ⟨by rfl,?_⟩) (by assumption) ?_
 rotate_left
 ·intro w hSw;(try dsimp only at hSw);go_simp;try with_reducible rfl
 try simp only[Act.put,List.setIfInBounds_toArray,List.set_cons_zero,List.set_cons_succ]
 refine wpAnyH_ready (rs:=[0,1,4]) (by kernel_rfl) (by simp) ?_
 refine AllReadyH.cons rfl (fun K hK=>?_) (AllReadyH.cons rfl (fun K hK=>?_) (AllReadyH.cons rfl (fun K hK=>?_) AllReadyH.nil))
 ·go_simp;refine hK.out _ _ ?_ (fun hHeld=>?_)
  ·exact hHeld
  clear hK K
  try simp only[Act.put,List.setIfInBounds_toArray,List.set_cons_zero,List.set_cons_succ]
  refine wpAnyH_ready (rs:=[1,4]) (by kernel_rfl) (by simp) ?_
  refine AllReadyH.cons rfl (fun K hK=>?_) (AllReadyH.cons rfl (fun K hK=>?_) AllReadyH.nil)
  ·go_simp;refine hK.out _ _ ?_ (fun hHeld=>?_)
   ·exact hHeld
   clear hK K
   try simp only[Act.put,List.setIfInBounds_toArray,List.set_cons_zero,List.set_cons_succ]
   refine wpAnyH_ready (rs:=[4]) (by kernel_rfl) (by simp) ?_
   refine AllReadyH.cons rfl (fun K hK=>?_) AllReadyH.nil;go_simp;refine hK.out _ _ ?_ (fun hHeld=>?_)
   ·exact hHeld
   clear hK K
   try simp only[Act.put,List.setIfInBounds_toArray,List.set_cons_zero,List.set_cons_succ]
   refine wpAnyH_ready (rs:=[5]) (by kernel_rfl) (by simp) ?_
   refine AllReadyH.cons rfl (fun K hK=>?_) AllReadyH.nil;go_simp;refine(HM _ (by first|assumption|exact(Below.refl _ _).drew)).mono ?_
   rintro e w3 ⟨ma,mc,rfl,r3,b3⟩;have x1:=(b3.cell (p:=⟨cb,0,none⟩) lc9).trans c3u;have x2:=(b3.cell (p:=⟨vb,0,none⟩) lv9).trans c4u
   try go_simp
   refine hK.out _ _ ?_ (fun hHeld=>?_)
   ·exact(b3.cell (p:=⟨fb,0,none⟩) lf).trans cfu
   clear hK K
   try simp only[Act.put,List.setIfInBounds_toArray,List.set_cons_zero,List.set_cons_succ]
   refine wpAnyH_ready (rs:=[6]) (by kernel_rfl) (by simp) ?_
   refine AllReadyH.cons rfl (fun K hK=>?_) AllReadyH.nil;go_simp;refine(HA _ _ _ (by assumption) (by assumption)).mono ?_
   rintro e w4 ⟨na,nc,rfl,r4,b4,f4⟩;have y1:=(b4.cell (p:=⟨cb,0,none⟩) lc9).trans c3u;have y2:=(b4.cell (p:=⟨vb,0,none⟩) lv9).trans c4u;have z1:=(b4.frozen (p:=⟨cb,0,none⟩) lc9).trans g3u;have z2:=(b4.frozen (p:=⟨vb,0,none⟩) lv9).trans g4u
   try go_simp
   refine hK.out _ _ ?_ (fun hHeld=>?_)
   ·exact(b4.cell (p:=⟨fb,0,none⟩) lf).trans cfu
   clear hK K
   try simp only[Act.put,List.setIfInBounds_toArray,List.set_cons_zero,List.set_cons_succ]
   refine wpAnyH_ready (rs:=[7]) (by kernel_rfl) (by simp) ?_
   refine AllReadyH.cons rfl (fun K hK=>?_) AllReadyH.nil;go_simp;refine hK.out _ _ ?_ (fun hHeld=>?_)
   ·exact(World.cell?_setCell_far _ _ _ _ (Ne.symm m4)).trans hHeld
   clear hK K
   try simp only[Act.put,List.setIfInBounds_toArray,List.set_cons_zero,List.set_cons_succ]
   refine wpAnyH_ready (rs:=[8]) (by kernel_rfl) (by simp) ?_
   refine AllReadyH.cons rfl (fun K hK=>?_) AllReadyH.nil;go_simp;refine hK.out _ _ ?_ (fun hHeld=>?_)
   ·exact(World.cell?_setCell_far _ _ _ _ (Ne.symm m3)).trans hHeld
   clear hK K
   try simp only[Act.put,List.setIfInBounds_toArray,List.set_cons_zero,List.set_cons_succ]
   refine wpAnyH_done (by kernel_rfl) ?_ _
   clear hHeld
   go_end0
   exact⟨rfl,HFin.out w4 na nc b4 r4 f4⟩
  ·go_simp;refine hK.out _ _ ?_ (fun hHeld=>?_)
   ·exact hHeld
   clear hK K
   try simp only[Act.put,List.setIfInBounds_toArray,List.set_cons_zero,List.set_cons_succ]
   refine wpAnyH_ready (rs:=[1,5]) (by kernel_rfl) (by simp) ?_
   refine AllReadyH.cons rfl (fun K hK=>?_) (AllReadyH.cons rfl (fun K hK=>?_) AllReadyH.nil)
   ·go_simp;refine hK.out _ _ ?_ (fun hHeld=>?_)
    ·exact hHeld
    clear hK K
    try simp only[Act.put,List.setIfInBounds_toArray,List.set_cons_zero,List.set_cons_succ]
    refine wpAnyH_ready (rs:=[5]) (by kernel_rfl) (by simp) ?_
    refine AllReadyH.cons rfl (fun K hK=>?_) AllReadyH.nil;go_simp;refine(HM _ (by first|assumption|exact(Below.refl _ _).drew)).mono ?_
    rintro e w3 ⟨ma,mc,rfl,r3,b3⟩;have x1:=(b3.cell (p:=⟨cb,0,none⟩) lc9).trans c3u;have x2:=(b3.cell (p:=⟨vb,0,none⟩) lv9).trans c4u
    try go_simp
    refine hK.out _ _ ?_ (fun hHeld=>?_)
    ·exact(b3.cell (p:=⟨fb,0,none⟩) lf).trans cfu
    clear hK K
    try simp only[Act.put,List.setIfInBounds_toArray,List.set_cons_zero,List.set_cons_succ]
    refine wpAnyH_ready (rs:=[6]) (by kernel_rfl) (by simp) ?_
    refine AllReadyH.cons rfl (fun K hK=>?_) AllReadyH.nil;go_simp;refine(HA _ _ _ (by assumption) (by assumption)).mono ?_
    rintro e w4 ⟨na,nc,rfl,r4,b4,f4⟩;have y1:=(b4.cell (p:=⟨cb,0,none⟩) lc9).trans c3u;have y2:=(b4.cell (p:=⟨vb,0,none⟩) lv9).trans c4u;have z1:=(b4.frozen (p:=⟨cb,0,none⟩) lc9).trans g3u;have z2:=(b4.frozen (p:=⟨vb,0,none⟩) lv9).trans g4u
    try go_simp
    refine hK.out _ _ ?_ (fun hHeld=>?_)
    ·exact(b4.cell (p:=⟨fb,0,none⟩) lf).trans cfu
    clear hK K
    try simp only[Act.put,List.setIfInBounds_toArray,List.set_cons_zero,List.set_cons_succ]
    refine wpAnyH_ready (rs:=[7]) (by kernel_rfl) (by simp) ?_
    refine AllReadyH.cons rfl (fun K hK=>?_) AllReadyH.nil;go_simp;refine hK.out _ _ ?_ (fun hHeld=>?_)
    ·exact(World.cell?_setCell_far _ _ _ _ (Ne.symm m4)).trans hHeld
    clear hK K
    try simp only[Act.put,List.setIfInBounds_toArray,List.set_cons_zero,List.set_cons_succ]
    refine wpAnyH_ready (rs:=[8]) (by kernel_rfl) (by simp) ?_
    refine AllReadyH.cons rfl (fun K hK=>?_) AllReadyH.nil;go_simp;refine hK.out _ _ ?_ (fun hHeld=>?_)
    ·exact(World.cell?_setCell_far _ _ _ _ (Ne.symm m3)).trans hHeld
    clear hK K
    try simp only[Act.put,List.setIfInBounds_toArray,List.set_cons_zero,List.set_cons_succ]
    refine wpAnyH_done (by kernel_rfl) ?_ _
    clear hHeld
    go_end0
    exact⟨rfl,HFin.out w4 na nc b4 r4 f4⟩
   ·go_simp;refine(HM _ (by first|assumption|exact(Below.refl _ _).drew)).mono ?_
    rintro e w3 ⟨ma,mc,rfl,r3,b3⟩;have x1:=(b3.cell (p:=⟨cb,0,none⟩) lc9).trans c3u;have x2:=(b3.cell (p:=⟨vb,0,none⟩) lv9).trans c4u
    try go_simp
    refine hK.out _ _ ?_ (fun hHeld=>?_)
    ·exact(b3.cell (p:=⟨fb,0,none⟩) lf).trans cfu
    clear hK K
    try simp only[Act.put,List.setIfInBounds_toArray,List.set_cons_zero,List.set_cons_succ]
    refine wpAnyH_ready (rs:=[1]) (by kernel_rfl) (by simp) ?_
    refine AllReadyH.cons rfl (fun K hK=>?_) AllReadyH.nil;go_simp;refine hK.out _ _ ?_ (fun hHeld=>?_)
    ·exact hHeld
    clear hK K
    try simp only[Act.put,List.setIfInBounds_toArray,List.set_cons_zero,List.set_cons_succ]
    refine wpAnyH_ready (rs:=[6]) (by kernel_rfl) (by simp) ?_
    refine AllReadyH.cons rfl (fun K hK=>?_) AllReadyH.nil;go_simp;refine(HA _ _ _ (by assumption) (by assumption)).mono ?_
    rintro e w4 ⟨na,nc,rfl,r4,b4,f4⟩;have y1:=(b4.cell (p:=⟨cb,0,none⟩) lc9).trans c3u;have y2:=(b4.cell (p:=⟨vb,0,none⟩) lv9).trans c4u;have z1:=(b4.frozen (p:=⟨cb,0,none⟩) lc9).trans g3u;have z2:=(b4.frozen (p:=⟨vb,0,none⟩) lv9).trans g4u
    try go_simp
    refine hK.out _ _ ?_ (fun hHeld=>?_)
    ·exact(b4.cell (p:=⟨fb,0,none⟩) lf).trans cfu
    clear hK K
    try simp only[Act.put,List.setIfInBounds_toArray,List.set_cons_zero,List.set_cons_succ]
    refine wpAnyH_ready (rs:=[7]) (by kernel_rfl) (by simp) ?_
    refine AllReadyH.cons rfl (fun K hK=>?_) AllReadyH.nil;go_simp;refine hK.out _ _ ?_ (fun hHeld=>?_)
    ·exact(World.cell?_setCell_far _ _ _ _ (Ne.symm m4)).trans hHeld
    clear hK K
    try simp only[Act.put,List.setIfInBounds_toArray,List.set_cons_zero,List.set_cons_succ]
    refine wpAnyH_ready (rs:=[8]) (by kernel_rfl) (by simp) ?_
    refine AllReadyH.cons rfl (fun K hK=>?_) AllReadyH.nil;go_simp;refine hK.out _ _ ?_ (fun hHeld=>?_)
    ·exact(World.cell?_setCell_far _ _ _ _ (Ne.symm m3)).trans hHeld
    clear hK K
    try simp only[Act.put,List.setIfInBounds_toArray,List.set_cons_zero,List.set_cons_succ]
    refine wpAnyH_done (by kernel_rfl) ?_ _
    clear hHeld
    go_end0
    exact⟨rfl,HFin.out w4 na nc b4 r4 f4⟩
 ·go_simp;refine hK.out _ _ ?_ (fun hHeld=>?_)
  ·exact hHeld
  clear hK K
  try simp only[Act.put,List.setIfInBounds_toArray,List.set_cons_zero,List.set_cons_succ]
  refine wpAnyH_ready (rs:=[0,4]) (by kernel_rfl) (by simp) ?_
  refine AllReadyH.cons rfl (fun K hK=>?_) (AllReadyH.cons rfl (fun K hK=>?_) AllReadyH.nil)
  ·go_simp;refine hK.out _ _ ?_ (fun hHeld=>?_)
   ·exact hHeld
   clear hK K
   try simp only[Act.put,List.setIfInBounds_toArray,List.set_cons_zero,List.set_cons_succ]
   refine wpAnyH_ready (rs:=[4]) (by kernel_rfl) (by simp) ?_
   refine AllReadyH.cons rfl (fun K hK=>?_) AllReadyH.nil;go_simp;refine hK.out _ _ ?_ (fun hHeld=>?_)
   ·exact hHeld
   clear hK K
   try simp only[Act.put,List.setIfInBounds_toArray,List.set_cons_zero,List.set_cons_succ]
   refine wpAnyH_ready (rs:=[5]) (by kernel_rfl) (by simp) ?_
   refine AllReadyH.cons rfl (fun K hK=>?_) AllReadyH.nil;go_simp;refine(HM _ (by first|assumption|exact(Below.refl _ _).drew)).mono ?_
   rintro e w3 ⟨ma,mc,rfl,r3,b3⟩;have x1:=(b3.cell (p:=⟨cb,0,none⟩) lc9).trans c3u;have x2:=(b3.cell (p:=⟨vb,0,none⟩) lv9).trans c4u
   try go_simp
   refine hK.out _ _ ?_ (fun hHeld=>?_)
   ·exact(b3.cell (p:=⟨fb,0,none⟩) lf).trans cfu
   clear hK K
   try simp only[Act.put,List.setIfInBounds_toArray,List.set_cons_zero,List.set_cons_succ]
   refine wpAnyH_ready (rs:=[6]) (by kernel_rfl) (by simp) ?_
   refine AllReadyH.cons rfl (fun K hK=>?_) AllReadyH.nil;go_simp;refine(HA _ _ _ (by assumption) (by assumption)).mono ?_
   rintro e w4 ⟨na,nc,rfl,r4,b4,f4⟩;have y1:=(b4.cell (p:=⟨cb,0,none⟩) lc9).trans c3u;have y2:=(b4.cell (p:=⟨vb,0,none⟩) lv9).trans c4u;have z1:=(b4.frozen (p:=⟨cb,0,none⟩) lc9).trans g3u;have z2:=(b4.frozen (p:=⟨vb,0,none⟩) lv9).trans g4u
   try go_simp
   refine hK.out _ _ ?_ (fun hHeld=>?_)
   ·exact(b4.cell (p:=⟨fb,0,none⟩) lf).trans cfu
   clear hK K
   try simp only[Act.put,List.setIfInBounds_toArray,List.set_cons_zero,List.set_cons_succ]
   refine wpAnyH_ready (rs:=[7]) (by kernel_rfl) (by simp) ?_
   refine AllReadyH.cons rfl (fun K hK=>?_) AllReadyH.nil;go_simp;refine hK.out _ _ ?_ (fun hHeld=>?_)
   ·exact(World.cell?_setCell_far _ _ _ _ (Ne.symm m4)).trans hHeld
   clear hK K
   try simp only[Act.put,List.setIfInBounds_toArray,List.set_cons_zero,List.set_cons_succ]
   refine wpAnyH_ready (rs:=[8]) (by kernel_rfl) (by simp) ?_
   refine AllReadyH.cons rfl (fun K hK=>?_) AllReadyH.nil;go_simp;refine hK.out _ _ ?_ (fun hHeld=>?_)
   ·exact(World.cell?_setCell_far _ _ _ _ (Ne.symm m3)).trans hHeld
   clear hK K
   try simp only[Act.put,List.setIfInBounds_toArray,List.set_cons_zero,List.set_cons_succ]
   refine wpAnyH_done (by kernel_rfl) ?_ _
   clear hHeld
   go_end0
   exact⟨rfl,HFin.out w4 na nc b4 r4 f4⟩
  ·go_simp;refine hK.out _ _ ?_ (fun hHeld=>?_)
   ·exact hHeld
   clear hK K
   try simp only[Act.put,List.setIfInBounds_toArray,List.set_cons_zero,List.set_cons_succ]
   refine wpAnyH_ready (rs:=[0,5]) (by kernel_rfl) (by simp) ?_
   refine AllReadyH.cons rfl (fun K hK=>?_) (AllReadyH.cons rfl (fun K hK=>?_) AllReadyH.nil)
   ·go_simp;refine hK.out _ _ ?_ (fun hHeld=>?_)
    ·exact hHeld
    clear hK K
    try simp only[Act.put,List.setIfInBounds_toArray,List.set_cons_zero,List.set_cons_succ]
    refine wpAnyH_ready (rs:=[5]) (by kernel_rfl) (by simp) ?_
    refine AllReadyH.cons rfl (fun K hK=>?_) AllReadyH.nil;go_simp;refine(HM _ (by first|assumption|exact(Below.refl _ _).drew)).mono ?_
    rintro e w3 ⟨ma,mc,rfl,r3,b3⟩;have x1:=(b3.cell (p:=⟨cb,0,none⟩) lc9).trans c3u;have x2:=(b3.cell (p:=⟨vb,0,none⟩) lv9).trans c4u
    try go_simp
    refine hK.out _ _ ?_ (fun hHeld=>?_)
    ·exact(b3.cell (p:=⟨fb,0,none⟩) lf).trans cfu
    clear hK K
    try simp only[Act.put,List.setIfInBounds_toArray,List.set_cons_zero,List.set_cons_succ]
    refine wpAnyH_ready (rs:=[6]) (by kernel_rfl) (by simp) ?_
    refine AllReadyH.cons rfl (fun K hK=>?_) AllReadyH.nil;go_simp;refine(HA _ _ _ (by assumption) (by assumption)).mono ?_
    rintro e w4 ⟨na,nc,rfl,r4,b4,f4⟩;have y1:=(b4.cell (p:=⟨cb,0,none⟩) lc9).trans c3u;have y2:=(b4.cell (p:=⟨vb,0,none⟩) lv9).trans c4u;have z1:=(b4.frozen (p:=⟨cb,0,none⟩) lc9).trans g3u;have z2:=(b4.frozen (p:=⟨vb,0,none⟩) lv9).trans g4u
    try go_simp
    refine hK.out _ _ ?_ (fun hHeld=>?_)
    ·exact(b4.cell (p:=⟨fb,0,none⟩) lf).trans cfu
    clear hK K
    try simp only[Act.put,List.setIfInBounds_toArray,List.set_cons_zero,List.set_cons_succ]
    refine wpAnyH_ready (rs:=[7]) (by kernel_rfl) (by simp) ?_
    refine AllReadyH.cons rfl (fun K hK=>?_) AllReadyH.nil;go_simp;refine hK.out _ _ ?_ (fun hHeld=>?_)
    ·exact(World.cell?_setCell_far _ _ _ _ (Ne.symm m4)).trans hHeld
    clear hK K
    try simp only[Act.put,List.setIfInBounds_toArray,List.set_cons_zero,List.set_cons_succ]
    refine wpAnyH_ready (rs:=[8]) (by kernel_rfl) (by simp) ?_
    refine AllReadyH.cons rfl (fun K hK=>?_) AllReadyH.nil;go_simp;refine hK.out _ _ ?_ (fun hHeld=>?_)
    ·exact(World.cell?_setCell_far _ _ _ _ (Ne.symm m3)).trans hHeld
    clear hK K
    try simp only[Act.put,List.setIfInBounds_toArray,List.set_cons_zero,List.set_cons_succ]
    refine wpAnyH_done (by kernel_rfl) ?_ _
    clear hHeld
    go_end0
    exact⟨rfl,HFin.out w4 na nc b4 r4 f4⟩
   ·go_simp;refine(HM _ (by first|assumption|exact(Below.refl _ _).drew)).mono ?_
    rintro e w3 ⟨ma,mc,rfl,r3,b3⟩;have x1:=(b3.cell (p:=⟨cb,0,none⟩) lc9).trans c3u;have x2:=(b3.cell (p:=⟨vb,0,none⟩) lv9).trans c4u
    try go_simp
    refine hK.out _ _ ?_ (fun hHeld=>?_)
    ·exact(b3.cell (p:=⟨fb,0,none⟩) lf).trans cfu
    clear hK K
    try simp only[Act.put,List.setIfInBounds_toArray,List.set_cons_zero,List.set_cons_succ]
    refine wpAnyH_ready (rs:=[0,6]) (by kernel_rfl) (by simp) ?_
    refine AllReadyH.cons rfl (fun K hK=>?_) (AllReadyH.cons rfl (fun K hK=>?_) AllReadyH.nil)
    ·go_simp;refine hK.out _ _ ?_ (fun hHeld=>?_)
     ·exact hHeld
     clear hK K
     try simp only[Act.put,List.setIfInBounds_toArray,List.set_cons_zero,List.set_cons_succ]
     refine wpAnyH_ready (rs:=[6]) (by kernel_rfl) (by simp) ?_
     refine AllReadyH.cons rfl (fun K hK=>?_) AllReadyH.nil;go_simp;refine(HA _ _ _ (by assumption) (by assumption)).mono ?_
     rintro e w4 ⟨na,nc,rfl,r4,b4,f4⟩;have y1:=(b4.cell (p:=⟨cb,0,none⟩) lc9).trans c3u;have y2:=(b4.cell (p:=⟨vb,0,none⟩) lv9).trans c4u;have z1:=(b4.frozen (p:=⟨cb,0,none⟩) lc9).trans g3u;have z2:=(b4.frozen (p:=⟨vb,0,none⟩) lv9).trans g4u
     try go_simp
     refine hK.out _ _ ?_ (fun hHeld=>?_)
     ·exact(b4.cell (p:=⟨fb,0,none⟩) lf).trans cfu
     clear hK K
     try simp only[Act.put,List.setIfInBounds_toArray,List.set_cons_zero,List.set_cons_succ]
     refine wpAnyH_ready (rs:=[7]) (by kernel_rfl) (by simp) ?_
     refine AllReadyH.cons rfl (fun K hK=>?_) AllReadyH.nil;go_simp;refine hK.out _ _ ?_ (fun hHeld=>?_)
     ·exact(World.cell?_setCell_far _ _ _ _ (Ne.symm m4)).trans hHeld
     clear hK K
     try simp only[Act.put,List.setIfInBounds_toArray,List.set_cons_zero,List.set_cons_succ]
     refine wpAnyH_ready (rs:=[8]) (by kernel_rfl) (by simp) ?_
     refine AllReadyH.cons rfl (fun K hK=>?_) AllReadyH.nil;go_simp;refine hK.out _ _ ?_ (fun hHeld=>?_)
     ·exact(World.cell?_setCell_far _ _ _ _ (Ne.symm m3)).trans hHeld
     clear hK K
     try simp only[Act.put,List.setIfInBounds_toArray,List.set_cons_zero,List.set_cons_succ]
     refine wpAnyH_done (by kernel_rfl) ?_ _
     clear hHeld
     go_end0
     exact⟨rfl,HFin.out w4 na nc b4 r4 f4⟩
    ·go_simp;refine(HA _ _ _ (by assumption) (by assumption)).mono ?_
     rintro e w4 ⟨na,nc,rfl,r4,b4,f4⟩;have y1:=(b4.cell (p:=⟨cb,0,none⟩) lc9).trans c3u;have y2:=(b4.cell (p:=⟨vb,0,none⟩) lv9).trans c4u;have z1:=(b4.frozen (p:=⟨cb,0,none⟩) lc9).trans g3u;have z2:=(b4.frozen (p:=⟨vb,0,none⟩) lv9).trans g4u
     try go_simp
     refine hK.out _ _ ?_ (fun hHeld=>?_)
     ·exact(b4.cell (p:=⟨fb,0,none⟩) lf).trans cfu
     clear hK K
     try simp only[Act.put,List.setIfInBounds_toArray,List.set_cons_zero,List.set_cons_succ]
     refine wpAnyH_ready (rs:=[0]) (by kernel_rfl) (by simp) ?_
     refine AllReadyH.cons rfl (fun K hK=>?_) AllReadyH.nil;go_simp;refine hK.out _ _ ?_ (fun hHeld=>?_)
     ·exact hHeld
     clear hK K
     try simp only[Act.put,List.setIfInBounds_toArray,List.set_cons_zero,List.set_cons_succ]
     refine wpAnyH_ready (rs:=[7]) (by kernel_rfl) (by simp) ?_
     refine AllReadyH.cons rfl (fun K hK=>?_) AllReadyH.nil;go_simp;refine hK.out _ _ ?_ (fun hHeld=>?_)
     ·exact(World.cell?_setCell_far _ _ _ _ (Ne.symm m4)).trans hHeld
     clear hK K
     try simp only[Act.put,List.setIfInBounds_toArray,List.set_cons_zero,List.set_cons_succ]
     refine wpAnyH_ready (rs:=[8]) (by kernel_rfl) (by simp) ?_
     refine AllReadyH.cons rfl (fun K hK=>?_) AllReadyH.nil;go_simp;refine hK.out _ _ ?_ (fun hHeld=>?_)
     ·exact(World.cell?_setCell_far _ _ _ _ (Ne.symm m3)).trans hHeld
     clear hK K
     try simp only[Act.put,List.setIfInBounds_toArray,List.set_cons_zero,List.set_cons_succ]
     refine wpAnyH_done (by kernel_rfl) ?_ _
     clear hHeld
     go_end0
     exact⟨rfl,HFin.out w4 na nc b4 r4 f4⟩
 ·go_simp;refine hK.out _ _ ?_ (fun hHeld=>?_)
  ·exact hHeld
  clear hK K
  try simp only[Act.put,List.setIfInBounds_toArray,List.set_cons_zero,List.set_cons_succ]
  refine wpAnyH_ready (rs:=[0,1,5]) (by kernel_rfl) (by simp) ?_
  refine AllReadyH.cons rfl (fun K hK=>?_) (AllReadyH.cons rfl (fun K hK=>?_) (AllReadyH.cons rfl (fun K hK=>?_) AllReadyH.nil))
  ·go_simp;refine hK.out _ _ ?_ (fun hHeld=>?_)
   ·exact hHeld
   clear hK K
   try simp only[Act.put,List.setIfInBounds_toArray,List.set_cons_zero,List.set_cons_succ]
   refine wpAnyH_ready (rs:=[1,5]) (by kernel_rfl) (by simp) ?_
   refine AllReadyH.cons rfl (fun K hK=>?_) (AllReadyH.cons rfl (fun K hK=>?_) AllReadyH.nil)
   ·go_simp;refine hK.out _ _ ?_ (fun hHeld=>?_)
    ·exact hHeld
    clear hK K
    try simp only[Act.put,List.setIfInBounds_toArray,List.set_cons_zero,List.set_cons_succ]
    refine wpAnyH_ready (rs:=[5]) (by kernel_rfl) (by simp) ?_
    refine AllReadyH.cons rfl (fun K hK=>?_) AllReadyH.nil;go_simp;refine(HM _ (by first|assumption|exact(Below.refl _ _).drew)).mono ?_
    rintro e w3 ⟨ma,mc,rfl,r3,b3⟩;have x1:=(b3.cell (p:=⟨cb,0,none⟩) lc9).trans c3u;have x2:=(b3.cell (p:=⟨vb,0,none⟩) lv9).trans c4u
    try go_simp
    refine hK.out _ _ ?_ (fun hHeld=>?_)
    ·exact(b3.cell (p:=⟨fb,0,none⟩) lf).trans cfu
    clear hK K
    try simp only[Act.put,List.setIfInBounds_toArray,List.set_cons_zero,List.set_cons_succ]
    refine wpAnyH_ready (rs:=[6]) (by kernel_rfl) (by simp) ?_
    refine AllReadyH.cons rfl (fun K hK=>?_) AllReadyH.nil;go_simp;refine(HA _ _ _ (by assumption) (by assumption)).mono ?_
    rintro e w4 ⟨na,nc,rfl,r4,b4,f4⟩;have y1:=(b4.cell (p:=⟨cb,0,none⟩) lc9).trans c3u;have y2:=(b4.cell (p:=⟨vb,0,none⟩) lv9).trans c4u;have z1:=(b4.frozen (p:=⟨cb,0,none⟩) lc9).trans g3u;have z2:=(b4.frozen (p:=⟨vb,0,none⟩) lv9).trans g4u
    try go_simp
    refine hK.out _ _ ?_ (fun hHeld=>?_)
    ·exact(b4.cell (p:=⟨fb,0,none⟩) lf).trans cfu
    clear hK K
    try simp only[Act.put,List.setIfInBounds_toArray,List.set_cons_zero,List.set_cons_succ]
    refine wpAnyH_ready (rs:=[7]) (by kernel_rfl) (by simp) ?_
    refine AllReadyH.cons rfl (fun K hK=>?_) AllReadyH.nil;go_simp;refine hK.out _ _ ?_ (fun hHeld=>?_)
    ·exact(World.cell?_setCell_far _ _ _ _ (Ne.symm m4)).trans hHeld
    clear hK K
    try simp only[Act.put,List.setIfInBounds_toArray,List.set_cons_zero,List.set_cons_succ]
    refine wpAnyH_ready (rs:=[8]) (by kernel_rfl) (by simp) ?_
    refine AllReadyH.cons rfl (fun K hK=>?_) AllReadyH.nil;go_simp;refine hK.out _ _ ?_ (fun hHeld=>?_)
    ·exact(World.cell?_setCell_far _ _ _ _ (Ne.symm m3)).trans hHeld
    clear hK K
    try simp only[Act.put,List.setIfInBounds_toArray,List.set_cons_zero,List.set_cons_succ]
    refine wpAnyH_done (by kernel_rfl) ?_ _
    clear hHeld
    go_end0
    exact⟨rfl,HFin.out w4 na nc b4 r4 f4⟩
   ·go_simp;refine(HM _ (by first|assumption|exact(Below.refl _ _).drew)).mono ?_
    rintro e w3 ⟨ma,mc,rfl,r3,b3⟩;have x1:=(b3.cell (p:=⟨cb,0,none⟩) lc9).trans c3u;have x2:=(b3.cell (p:=⟨vb,0,none⟩) lv9).trans c4u
    try go_simp
    refine hK.out _ _ ?_ (fun hHeld=>?_)
    ·exact(b3.cell (p:=⟨fb,0,none⟩) lf).trans cfu
    clear hK K
    try simp only[Act.put,List.setIfInBounds_toArray,List.set_cons_zero,List.set_cons_succ]
    refine wpAnyH_ready (rs:=[1]) (by kernel_rfl) (by simp) ?_
    refine AllReadyH.cons rfl (fun K hK=>?_) AllReadyH.nil;go_simp;refine hK.out _ _ ?_ (fun hHeld=>?_)
    ·exact hHeld
    clear hK K
    try simp only[Act.put,List.setIfInBounds_toArray,List.set_cons_zero,List.set_cons_succ]
    refine wpAnyH_ready (rs:=[6]) (by kernel_rfl) (by simp) ?_
    refine AllReadyH.cons rfl (fun K hK=>?_) AllReadyH.nil;go_simp;refine(HA _ _ _ (by assumption) (by assumption)).mono ?_
    rintro e w4 ⟨na,nc,rfl,r4,b4,f4⟩;have y1:=(b4.cell (p:=⟨cb,0,none⟩) lc9).trans c3u;have y2:=(b4.cell (p:=⟨vb,0,none⟩) lv9).trans c4u;have z1:=(b4.frozen (p:=⟨cb,0,none⟩) lc9).trans g3u;have z2:=(b4.frozen (p:=⟨vb,0,none⟩) lv9).trans g4u
    try go_simp
    refine hK.out _ _ ?_ (fun hHeld=>?_)
    ·exact(b4.cell (p:=⟨fb,0,none⟩) lf).trans cfu
    clear hK K
    try simp only[Act.put,List.setIfInBounds_toArray,List.set_cons_zero,List.set_cons_succ]
    refine wpAnyH_ready (rs:=[7]) (by kernel_rfl) (by simp) ?_
    refine AllReadyH.cons rfl (fun K hK=>?_) AllReadyH.nil;go_simp;refine hK.out _ _ ?_ (fun hHeld=>?_)
    ·exact(World.cell?_setCell_far _ _ _ _ (Ne.symm m4)).trans hHeld
    clear hK K
    try simp only[Act.put,List.setIfInBounds_toArray,List.set_cons_zero,List.set_cons_succ]
    refine wpAnyH_ready (rs:=[8]) (by kernel_rfl) (by simp) ?_
    refine AllReadyH.cons rfl (fun K hK=>?_) AllReadyH.nil;go_simp;refine hK.out _ _ ?_ (fun hHeld=>?_)
    ·exact(World.cell?_setCell_far _ _ _ _ (Ne.symm m3)).trans hHeld
    clear hK K
    try simp only[Act.put,List.setIfInBounds_toArray,List.set_cons_zero,List.set_cons_succ]
    refine wpAnyH_done (by kernel_rfl) ?_ _
    clear hHeld
    go_end0
    exact⟨rfl,HFin.out w4 na nc b4 r4 f4⟩
  ·go_simp;refine hK.out _ _ ?_ (fun hHeld=>?_)
   ·exact hHeld
   clear hK K
   try simp only[Act.put,List.setIfInBounds_toArray,List.set_cons_zero,List.set_cons_succ]
   refine wpAnyH_ready (rs:=[0,5]) (by kernel_rfl) (by simp) ?_
   refine AllReadyH.cons rfl (fun K hK=>?_) (AllReadyH.cons rfl (fun K hK=>?_) AllReadyH.nil)
   ·go_simp;refine hK.out _ _ ?_ (fun hHeld=>?_)
    ·exact hHeld
    clear hK K
    try simp only[Act.put,List.setIfInBounds_toArray,List.set_cons_zero,List.set_cons_succ]
    refine wpAnyH_ready (rs:=[5]) (by kernel_rfl) (by simp) ?_
    refine AllReadyH.cons rfl (fun K hK=>?_) AllReadyH.nil;go_simp;refine(HM _ (by first|assumption|exact(Below.refl _ _).drew)).mono ?_
    rintro e w3 ⟨ma,mc,rfl,r3,b3⟩;have x1:=(b3.cell (p:=⟨cb,0,none⟩) lc9).trans c3u;have x2:=(b3.cell (p:=⟨vb,0,none⟩) lv9).trans c4u
    try go_simp
    refine hK.out _ _ ?_ (fun hHeld=>?_)
    ·exact(b3.cell (p:=⟨fb,0,none⟩) lf).trans cfu
    clear hK K
    try simp only[Act.put,List.setIfInBounds_toArray,List.set_cons_zero,List.set_cons_succ]
    refine wpAnyH_ready (rs:=[6]) (by kernel_rfl) (by simp) ?_
    refine AllReadyH.cons rfl (fun K hK=>?_) AllReadyH.nil;go_simp;refine(HA _ _ _ (by assumption) (by assumption)).mono ?_
    rintro e w4 ⟨na,nc,rfl,r4,b4,f4⟩;have y1:=(b4.cell (p:=⟨cb,0,none⟩) lc9).trans c3u;have y2:=(b4.cell (p:=⟨vb,0,none⟩) lv9).trans c4u;have z1:=(b4.frozen (p:=⟨cb,0,none⟩) lc9).trans g3u;have z2:=(b4.frozen (p:=⟨vb,0,none⟩) lv9).trans g4u
    try go_simp
    refine hK.out _ _ ?_ (fun hHeld=>?_)
    ·exact(b4.cell (p:=⟨fb,0,none⟩) lf).trans cfu
    clear hK K
    try simp only[Act.put,List.setIfInBounds_toArray,List.set_cons_zero,List.set_cons_succ]
    refine wpAnyH_ready (rs:=[7]) (by kernel_rfl) (by simp) ?_
    refine AllReadyH.cons rfl (fun K hK=>?_) AllReadyH.nil;go_simp;refine hK.out _ _ ?_ (fun hHeld=>?_)
    ·exact(World.cell?_setCell_far _ _ _ _ (Ne.symm m4)).trans hHeld
    clear hK K
    try simp only[Act.put,List.setIfInBounds_toArray,List.set_cons_zero,List.set_cons_succ]
    refine wpAnyH_ready (rs:=[8]) (by kernel_rfl) (by simp) ?_
    refine AllReadyH.cons rfl (fun K hK=>?_) AllReadyH.nil;go_simp;refine hK.out _ _ ?_ (fun hHeld=>?_)
    ·exact(World.cell?_setCell_far _ _ _ _ (Ne.symm m3)).trans hHeld
    clear hK K
    try simp only[Act.put,List.setIfInBounds_toArray,List.set_cons_zero,List.set_cons_succ]
    refine wpAnyH_done (by kernel_rfl) ?_ _
    clear hHeld
    go_end0
    exact⟨rfl,HFin.out w4 na nc b4 r4 f4⟩
   ·go_simp;refine(HM _ (by first|assumption|exact(Below.refl _ _).drew)).mono ?_
    rintro e w3 ⟨ma,mc,rfl,r3,b3⟩;have x1:=(b3.cell (p:=⟨cb,0,none⟩) lc9).trans c3u;have x2:=(b3.cell (p:=⟨vb,0,none⟩) lv9).trans c4u
    try go_simp
    refine hK.out _ _ ?_ (fun hHeld=>?_)
    ·exact(b3.cell (p:=⟨fb,0,none⟩) lf).trans cfu
    clear hK K
    try simp only[Act.put,List.setIfInBounds_toArray,List.set_cons_zero,List.set_cons_succ]
    refine wpAnyH_ready (rs:=[0,6]) (by kernel_rfl) (by simp) ?_
    refine AllReadyH.cons rfl (fun K hK=>?_) (AllReadyH.cons rfl (fun K hK=>?_) AllReadyH.nil)
    ·go_simp;refine hK.out _ _ ?_ (fun hHeld=>?_)
     ·exact hHeld
     clear hK K
     try simp only[Act.put,List.setIfInBounds_toArray,List.set_cons_zero,List.set_cons_succ]
     refine wpAnyH_ready (rs:=[6]) (by kernel_rfl) (by simp) ?_
     refine AllReadyH.cons rfl (fun K hK=>?_) AllReadyH.nil;go_simp;refine(HA _ _ _ (by assumption) (by assumption)).mono ?_
     rintro e w4 ⟨na,nc,rfl,r4,b4,f4⟩;have y1:=(b4.cell (p:=⟨cb,0,none⟩) lc9).trans c3u;have y2:=(b4.cell (p:=⟨vb,0,none⟩) lv9).trans c4u;have z1:=(b4.frozen (p:=⟨cb,0,none⟩) lc9).trans g3u;have z2:=(b4.frozen (p:=⟨vb,0,none⟩) lv9).trans g4u
     try go_simp
     refine hK.out _ _ ?_ (fun hHeld=>?_)
     ·exact(b4.cell (p:=⟨fb,0,none⟩) lf).trans cfu
     clear hK K
     try simp only[Act.put,List.setIfInBounds_toArray,List.set_cons_zero,List.set_cons_succ]
     refine wpAnyH_ready (rs:=[7]) (by kernel_rfl) (by simp) ?_
     refine AllReadyH.cons rfl (fun K hK=>?_) AllReadyH.nil;go_simp;refine hK.out _ _ ?_ (fun hHeld=>?_)
     ·exact(World.cell?_setCell_far _ _ _ _ (Ne.symm m4)).trans hHeld
     clear hK K
     try simp only[Act.put,List.setIfInBounds_toArray,List.set_cons_zero,List.set_cons_succ]
     refine wpAnyH_ready (rs:=[8]) (by kernel_rfl) (by simp) ?_
     refine AllReadyH.cons rfl (fun K hK=>?_) AllReadyH.nil;go_simp;refine hK.out _ _ ?_ (fun hHeld=>?_)
     ·exact(World.cell?_setCell_far _ _ _ _ (Ne.symm m3)).trans hHeld
     clear hK K
     try simp only[Act.put,List.setIfInBounds_toArray,List.set_cons_zero,List.set_cons_succ]
     refine wpAnyH_done (by kernel_rfl) ?_ _
     clear hHeld
     go_end0
     exact⟨rfl,HFin.out w4 na nc b4 r4 f4⟩
    ·go_simp;refine(HA _ _ _ (by assumption) (by assumption)).mono ?_
     rintro e w4 ⟨na,nc,rfl,r4,b4,f4⟩;have y1:=(b4.cell (p:=⟨cb,0,none⟩) lc9).trans c3u;have y2:=(b4.cell (p:=⟨vb,0,none⟩) lv9).trans c4u;have z1:=(b4.frozen (p:=⟨cb,0,none⟩) lc9).trans g3u;have z2:=(b4.frozen (p:=⟨vb,0,none⟩) lv9).trans g4u
     try go_simp
     refine hK.out _ _ ?_ (fun hHeld=>?_)
     ·exact(b4.cell (p:=⟨fb,0,none⟩) lf).trans cfu
     clear hK K
     try simp only[Act.put,List.setIfInBounds_toArray,List.set_cons_zero,List.set_cons_succ]
     refine wpAnyH_ready (rs:=[0]) (by kernel_rfl) (by simp) ?_
     refine AllReadyH.cons rfl (fun K hK=>?_) AllReadyH.nil;go_simp;refine hK.out _ _ ?_ (fun hHeld=>?_)
     ·exact hHeld
     clear hK K
     try simp only[Act.put,List.setIfInBounds_toArray,List.set_cons_zero,List.set_cons_succ]
     refine wpAnyH_ready (rs:=[7]) (by kernel_rfl) (by simp) ?_
     refine AllReadyH.cons rfl (fun K hK=>?_) AllReadyH.nil;go_simp;refine hK.out _ _ ?_ (fun hHeld=>?_)
     ·exact(World.cell?_setCell_far _ _ _ _ (Ne.symm m4)).trans hHeld
     clear hK K
     try simp only[Act.put,List.setIfInBounds_toArray,List.set_cons_zero,List.set_cons_succ]
     refine wpAnyH_ready (rs:=[8]) (by kernel_rfl) (by simp) ?_
     refine AllReadyH.cons rfl (fun K hK=>?_) AllReadyH.nil;go_simp;refine hK.out _ _ ?_ (fun hHeld=>?_)
     ·exact(World.cell?_setCell_far _ _ _ _ (Ne.symm m3)).trans hHeld
     clear hK K
     try simp only[Act.put,List.setIfInBounds_toArray,List.set_cons_zero,List.set_cons_succ]
     refine wpAnyH_done (by kernel_rfl) ?_ _
     clear hHeld
     go_end0
     exact⟨rfl,HFin.out w4 na nc b4 r4 f4⟩
  ·go_simp;refine(HM _ (by first|assumption|exact(Below.refl _ _).drew)).mono ?_
   rintro e w3 ⟨ma,mc,rfl,r3,b3⟩;have x1:=(b3.cell (p:=⟨cb,0,none⟩) lc9).trans c3u;have x2:=(b3.cell (p:=⟨vb,0,none⟩) lv9).trans c4u
   try go_simp
   refine hK.out _ _ ?_ (fun hHeld=>?_)
   ·exact(b3.cell (p:=⟨fb,0,none⟩) lf).trans cfu
   clear hK K
   try simp only[Act.put,List.setIfInBounds_toArray,List.set_cons_zero,List.set_cons_succ]
   refine wpAnyH_ready (rs:=[0,1]) (by kernel_rfl) (by simp) ?_
   refine AllReadyH.cons rfl (fun K hK=>?_) (AllReadyH.cons rfl (fun K hK=>?_) AllReadyH.nil)
   ·go_simp;refine hK.out _ _ ?_ (fun hHeld=>?_)
    ·exact hHeld
    clear hK K
    try simp only[Act.put,List.setIfInBounds_toArray,List.set_cons_zero,List.set_cons_succ]
    refine wpAnyH_ready (rs:=[1]) (by kernel_rfl) (by simp) ?_
    refine AllReadyH.cons rfl (fun K hK=>?_) AllReadyH.nil;go_simp;refine hK.out _ _ ?_ (fun hHeld=>?_)
    ·exact hHeld
    clear hK K
    try simp only[Act.put,List.setIfInBounds_toArray,List.set_cons_zero,List.set_cons_succ]
    refine wpAnyH_ready (rs:=[6]) (by kernel_rfl) (by simp) ?_
    refine AllReadyH.cons rfl (fun K hK=>?_) AllReadyH.nil;go_simp;refine(HA _ _ _ (by assumption) (by assumption)).mono ?_
    rintro e w4 ⟨na,nc,rfl,r4,b4,f4⟩;have y1:=(b4.cell (p:=⟨cb,0,none⟩) lc9).trans c3u;have y2:=(b4.cell (p:=⟨vb,0,none⟩) lv9).trans c4u;have z1:=(b4.frozen (p:=⟨cb,0,none⟩) lc9).trans g3u;have z2:=(b4.frozen (p:=⟨vb,0,none⟩) lv9).trans g4u
    try go_simp
    refine hK.out _ _ ?_ (fun hHeld=>?_)
    ·exact(b4.cell (p:=⟨fb,0,none⟩) lf).trans cfu
    clear hK K
    try simp only[Act.put,List.setIfInBounds_toArray,List.set_cons_zero,List.set_cons_succ]
    refine wpAnyH_ready (rs:=[7]) (by kernel_rfl) (by simp) ?_
    refine AllReadyH.cons rfl (fun K hK=>?_) AllReadyH.nil;go_simp;refine hK.out _ _ ?_ (fun hHeld=>?_)
    ·exact(World.cell?_setCell_far _ _ _ _ (Ne.symm m4)).trans hHeld
    clear hK K
    try simp only[Act.put,List.setIfInBounds_toArray,List.set_cons_zero,List.set_cons_succ]
    refine wpAnyH_ready (rs:=[8]) (by kernel_rfl) (by simp) ?_
    refine AllReadyH.cons rfl (fun K hK=>?_) AllReadyH.nil;go_simp;refine hK.out _ _ ?_ (fun hHeld=>?_)
    ·exact(World.cell?_setCell_far _ _ _ _ (Ne.symm m3)).trans hHeld
    clear hK K
    try simp only[Act.put,List.setIfInBounds_toArray,List.set_cons_zero,List.set_cons_succ]
    refine wpAnyH_done (by kernel_rfl) ?_ _
    clear hHeld
    go_end0
    exact⟨rfl,HFin.out w4 na nc b4 r4 f4⟩
   ·go_simp;refine hK.out _ _ ?_ (fun hHeld=>?_)
    ·exact hHeld
    clear hK K
    try simp only[Act.put,List.setIfInBounds_toArray,List.set_cons_zero,List.set_cons_succ]
    refine wpAnyH_ready (rs:=[0,6]) (by kernel_rfl) (by simp) ?_
    refine AllReadyH.cons rfl (fun K hK=>?_) (AllReadyH.cons rfl (fun K hK=>?_) AllReadyH.nil)
    ·go_simp;refine hK.out _ _ ?_ (fun hHeld=>?_)
     ·exact hHeld
     clear hK K
     try simp only[Act.put,List.setIfInBounds_toArray,List.set_cons_zero,List.set_cons_succ]
     refine wpAnyH_ready (rs:=[6]) (by kernel_rfl) (by simp) ?_
     refine AllReadyH.cons rfl (fun K hK=>?_) AllReadyH.nil;go_simp;refine(HA _ _ _ (by assumption) (by assumption)).mono ?_
     rintro e w4 ⟨na,nc,rfl,r4,b4,f4⟩;have y1:=(b4.cell (p:=⟨cb,0,none⟩) lc9).trans c3u;have y2:=(b4.cell (p:=⟨vb,0,none⟩) lv9).trans c4u;have z1:=(b4.frozen (p:=⟨cb,0,none⟩) lc9).trans g3u;have z2:=(b4.frozen (p:=⟨vb,0,none⟩) lv9).trans g4u
     try go_simp
     refine hK.out _ _ ?_ (fun hHeld=>?_)
     ·exact(b4.cell (p:=⟨fb,0,none⟩) lf).trans cfu
     clear hK K
     try simp only[Act.put,List.setIfInBounds_toArray,List.set_cons_zero,List.set_cons_succ]
     refine wpAnyH_ready (rs:=[7]) (by kernel_rfl) (by simp) ?_
     refine AllReadyH.cons rfl (fun K hK=>?_) AllReadyH.nil;go_simp;refine hK.out _ _ ?_ (fun hHeld=>?_)
     ·exact(World.cell?_setCell_far _ _ _ _ (Ne.symm m4)).trans hHeld
     clear hK K
     try simp only[Act.put,List.setIfInBounds_toArray,List.set_cons_zero,List.set_cons_succ]
     refine wpAnyH_ready (rs:=[8]) (by kernel_rfl) (by simp) ?_
     refine AllReadyH.cons rfl (fun K hK=>?_) AllReadyH.nil;go_simp;refine hK.out _ _ ?_ (fun hHeld=>?_)
     ·exact(World.cell?_setCell_far _ _ _ _ (Ne.symm m3)).trans hHeld
     clear hK K
     try simp only[Act.put,List.setIfInBounds_toArray,List.set_cons_zero,List.set_cons_succ]
     refine wpAnyH_done (by kernel_rfl) ?_ _
     clear hHeld
     go_end0
     exact⟨rfl,HFin.out w4 na nc b4 r4 f4⟩
    ·go_simp;refine(HA _ _ _ (by assumption) (by assumption)).mono ?_
     rintro e w4 ⟨na,nc,rfl,r4,b4,f4⟩;have y1:=(b4.cell (p:=⟨cb,0,none⟩) lc9).trans c3u;have y2:=(b4.cell (p:=⟨vb,0,none⟩) lv9).trans c4u;have z1:=(b4.frozen (p:=⟨cb,0,none⟩) lc9).trans g3u;have z2:=(b4.frozen (p:=⟨vb,0,none⟩) lv9).trans g4u
     try go_simp
     refine hK.out _ _ ?_ (fun hHeld=>?_)
     ·exact(b4.cell (p:=⟨fb,0,none⟩) lf).trans cfu
     clear hK K
     try simp only[Act.put,List.setIfInBounds_toArray,List.set_cons_zero,List.set_cons_succ]
     refine wpAnyH_ready (rs:=[0]) (by kernel_rfl) (by simp) ?_
     refine AllReadyH.cons rfl (fun K hK=>?_) AllReadyH.nil;go_simp;refine hK.out _ _ ?_ (fun hHeld=>?_)
     ·exact hHeld
     clear hK K
     try simp only[Act.put,List.setIfInBounds_toArray,List.set_cons_zero,List.set_cons_succ]
     refine wpAnyH_ready (rs:=[7]) (by kernel_rfl) (by simp) ?_
     refine AllReadyH.cons rfl (fun K hK=>?_) AllReadyH.nil;go_simp;refine hK.out _ _ ?_ (fun hHeld=>?_)
     ·exact(World.cell?_setCell_far _ _ _ _ (Ne.symm m4)).trans hHeld
     clear hK K
     try simp only[Act.put,List.setIfInBounds_toArray,List.set_cons_zero,List.set_cons_succ]
     refine wpAnyH_ready (rs:=[8]) (by kernel_rfl) (by simp) ?_
     refine AllReadyH.cons rfl (fun K hK=>?_) AllReadyH.nil;go_simp;refine hK.out _ _ ?_ (fun hHeld=>?_)
     ·exact(World.cell?_setCell_far _ _ _ _ (Ne.symm m3)).trans hHeld
     clear hK K
     try simp only[Act.put,List.setIfInBounds_toArray,List.set_cons_zero,List.set_cons_succ]
     refine wpAnyH_done (by kernel_rfl) ?_ _
     clear hHeld
     go_end0
     exact⟨rfl,HFin.out w4 na nc b4 r4 f4⟩
end Go.Proofs.YtddnfhfangfgeaaGreat.Gf
