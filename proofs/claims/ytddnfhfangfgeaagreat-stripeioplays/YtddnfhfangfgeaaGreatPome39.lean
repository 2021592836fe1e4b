/- JOINED: StCU, StCV, StAw, StSm. -/
import Derived.Test.YtddnfhfangfgeaaGreatPome38
set_option maxHeartbeats 4000000
set_option maxRecDepth 100000
namespace Go.Proofs.YtddnfhfangfgeaaGreat.Gf
set_option linter.unusedVariables false
set_option linter.unusedSimpArgs false
open Go.RowKit
theorem sread_any{w:World}{ab fb:Nat}{GA:Nat->Prop}{a:ArS}(h:ArAt w ab GA a)(hF:FieldAt w fb){g:GeoS}(hg:g.Wf){st ep:Int}(hst:(Lit.int .i64 st).wf=true)(hz:okG g->g.z<=300):
  Calls Tryz.prog 24 #[.pointer (some ⟨ab,0,none⟩),.pointer (some ⟨fb,0,none⟩),aggG g,.int .i64 st,.int .i64 ep] w (MakesL15 w (rtX a g st ep) (rtD a g st ep) (rtB a g st ep)):=by
 have KS:=fun W=>@piss_any W (some ⟨ab,0,none⟩) (some ⟨fb,0,none⟩) g st ep _ rfl
 have KE:=fun W=>@pise_any W (some ⟨ab,0,none⟩) (some ⟨fb,0,none⟩) g st ep _ rfl
 obtain⟨x,hx⟩:∃x,Hid (ckT g st ep=x):=⟨_,rfl⟩;have KF:=fun W (vv:Value) (hr:RdB W vv [decide (0<=st/\st<g.s),decide (0<=ep/\ep<=2147483647)])=>@pref_any W g st ep ab fb hg vv _ hr Zs _ (rf_two.trans hx.out)
 obtain⟨b1,hb1⟩:∃b,Hid (b=decide (0<=st/\st<g.s)):=⟨_,rfl⟩;obtain⟨b2,hb2⟩:∃b,Hid (b=decide (0<=ep/\ep<=2147483647)):=⟨_,rfl⟩;rw[<-hb1.out]at KS KF;rw[<-hb2.out]at KE KF;clear hb1 hb2;have KP:=fun (hT:OkT g st ep) W (hA:ArAt W ab GA a) (hf:FieldAt W fb)=>pput_any hA hf hg hst hT (hz hT.1)
 by_cases hT:OkT g st ep
 rotate_left
 ·have c0:¬x=0:=by rw[<-hx.out];exact ckT_not hT
  have e1:rtX a g st ep=x:=by unfold rtX;rw[if_neg hT];exact hx.out
  have e2:rtD a g st ep=[]:=by unfold rtD;rw[e1,if_neg c0]
  have e3:rtB a g st ep=[]:=by unfold rtB;rw[e1,if_neg c0]
  rw[e1,e2,e3];clear e1 e2 e3 KP hx;obtain⟨k,m,z,s,t,o⟩:=g;have LB:=two_laid w (some ⟨ab,0,none⟩) (some ⟨fb,0,none⟩) ⟨k,m,z,s,t,o⟩ st ep 24 103;rw[show aggG ⟨k,m,z,s,t,o⟩= .agg #[.int .i64 k,.int .i64 m,.int .i64 z,.int .i64 s,.int .i64 t,.int .i64 o]from rfl];unfold aggP at KS KE KF;simp only[cellsP,cellsG]at KS KE KF LB;have LG:=geo_laid w ⟨k,m,z,s,t,o⟩ 24;obtain⟨⟨y0,y1,y2,y3,y4,y5⟩,_⟩:=LG _ (Below.refl _ _);simp only[cellsG]at y0 y1 y2 y3 y4 y5;have KF1:=KF;obtain⟨W1,hW1⟩:∃W1,W1=((w.alloc (.cells #[.int .i64 k,.int .i64 m,.int .i64 z,.int .i64 s,.int .i64 t,.int .i64 o] 24)).alloc (.cells #[.pointer (some ⟨ab,0,none⟩),.pointer (some ⟨fb,0,none⟩),.int .i64 k,.int .i64 m,.int .i64 z,.int .i64 s,.int .i64 t,.int .i64 o,.int .i64 st,.int .i64 ep] 103)):=⟨_,rfl⟩;rw[<-hW1]at LB;have SE:Hid (∀W,Below W1.heap.size W1 W->(W.cell? ⟨w.heap.size+1,0,none⟩=some (.pointer (some ⟨ab,0,none⟩))/\W.cell? ⟨w.heap.size+1,1,none⟩=some (.pointer (some ⟨fb,0,none⟩))/\W.cell? ⟨w.heap.size+1,2,none⟩=some (.int .i64 k)/\W.cell? ⟨w.heap.size+1,3,none⟩=some (.int .i64 m)/\W.cell? ⟨w.heap.size+1,4,none⟩=some (.int .i64 z)/\W.cell? ⟨w.heap.size+1,5,none⟩=some (.int .i64 s)/\W.cell? ⟨w.heap.size+1,6,none⟩=some (.int .i64 t)/\W.cell? ⟨w.heap.size+1,7,none⟩=some (.int .i64 o)/\W.cell? ⟨w.heap.size+1,8,none⟩=some (.int .i64 st)/\W.cell? ⟨w.heap.size+1,9,none⟩=some (.int .i64 ep))/\(W.cell? ⟨w.heap.size,0,none⟩=some (.int .i64 k)/\W.cell? ⟨w.heap.size,1,none⟩=some (.int .i64 m)/\W.cell? ⟨w.heap.size,2,none⟩=some (.int .i64 z)/\W.cell? ⟨w.heap.size,3,none⟩=some (.int .i64 s)/\W.cell? ⟨w.heap.size,4,none⟩=some (.int .i64 t)/\W.cell? ⟨w.heap.size,5,none⟩=some (.int .i64 o))):=fun W b=>⟨(LB W b).1.all,(LB W b).2.1⟩
  have FE:Hid (∀W,Below W1.heap.size W1 W->Below w.heap.size w W):=fun W b=>(LB W b).2.2
  have LBS:Hid (∀W,Below W1.heap.size W1 W->SpotAt W (w.heap.size+1) (some ⟨ab,0,none⟩) (some ⟨fb,0,none⟩) ⟨k,m,z,s,t,o⟩ st ep):=fun W b=>(LB W b).1
  clear LB LG KF
  go_enter Tryz.func24,Tryz.ntmps24
  go_upto_region 2 with fail
  rw[<-hW1];clear hW1 y0 y1 y2 y3 y4 y5;have s0:=(SE.out W1 (Below.refl _ _)).1;have BD:Below W1.heap.size W1 W1.drew:=(Below.refl _ _).drew;have sD:=(SE.out _ BD).1
  go_region_held3 (fun wx=>wx.cell? ⟨w.heap.size+1,0,none⟩=some (.pointer (some ⟨ab,0,none⟩))/\wx.cell? ⟨w.heap.size+1,1,none⟩=some (.pointer (some ⟨fb,0,none⟩))/\wx.cell? ⟨w.heap.size+1,2,none⟩=some (.int .i64 k)/\wx.cell? ⟨w.heap.size+1,3,none⟩=some (.int .i64 m)/\wx.cell? ⟨w.heap.size+1,4,none⟩=some (.int .i64 z)/\wx.cell? ⟨w.heap.size+1,5,none⟩=some (.int .i64 s)/\wx.cell? ⟨w.heap.size+1,6,none⟩=some (.int .i64 t)/\wx.cell? ⟨w.heap.size+1,7,none⟩=some (.int .i64 o)/\wx.cell? ⟨w.heap.size+1,8,none⟩=some (.int .i64 st)/\wx.cell? ⟨w.heap.size+1,9,none⟩=some (.int .i64 ep)) (first|exact s0|exact sD|exact s1|exact s2|exact s3 _ _|exact s4) (first
   |(go_at_call 50;go_loud (refine(KS _).mono ?_);rintro _ v1 ⟨rfl,c1⟩;have B1:Below W1.heap.size W1 v1:=BD.stepL c1 BD.size;have s1:=(SE.out _ B1).1)
   |(go_at_call 51;go_loud (refine(KE _).mono ?_);rintro _ v2 ⟨rfl,c2⟩;have B2:Below W1.heap.size W1 v2:=B1.stepL c2 B1.size;have s2:=(SE.out _ B2).1;have s3:=fun q e=>(SE.out (v2.alloc (.cells q e)) (B2.stepL (belL _ _) B2.size)).1;have B3:=fun q e=>B2.stepL (belL v2 (.cells q e)) B2.size)
   |(go_at_call 49;go_loud (refine(KF1 _ _ (rdB_lit [b1,b2] rfl rfl rfl Zs)).mono ?_);rintro _ v4 ⟨rfl,c4⟩;have B4:Below W1.heap.size W1 v4:=(B3 _ _).stepL c4 (B3 _ _).size;have s4:=(SE.out _ B4).1))
  have FB:Hid (Below w.heap.size w v4):=FE.out _ B4;clear s0 sD s1 s2 s3 s4 c1 c2 c4 B1 B2 B3 B4 BD KS KE KF1;go_wp2;refine bodyPost_ret (v:=.tuple #[.slice none 0 0,.slice none 0 0,.int .i64 x]) (by simp[results,Tryz.results24,go_sem]) rfl ?_
  exact⟨_,_,rfl,World.ownsRow_nil _ _ _ _,OwnI.nil _ _ _,FB.out⟩
 have c0:x=0:=by rw[<-hx.out];exact ckT_ok hT
 subst c0;replace KP:=KP hT;have zz:=okG_nat hT.1;obtain⟨X,hX⟩:∃X,Hid (X=rtX a g st ep):=⟨_,rfl⟩;obtain⟨RR,hRR⟩:∃RR,Hid (RR=rtR a g st ep):=⟨_,rfl⟩;obtain⟨BB,hBB⟩:∃BB,Hid (BB=rtB a g st ep):=⟨_,rfl⟩;rw[<-hX.out,<-hRR.out,<-hBB.out]at KP;rw[<-hX.out,<-hBB.out];have HA:Hid (ArAt w ab GA a):=h;have HFd:Hid (FieldAt w fb):=hF;clear h hF
 by_cases hX0:X=0
 rotate_left
 ·have e2:rtD a g st ep=[]:=by unfold rtD;rw[if_neg (by rw[<-hX.out];exact hX0)]
  have e3:Hid (BB=[]):=by show _=_;rw[hBB.out];unfold rtB;rw[if_neg (by rw[<-hX.out];exact hX0)]
  rw[e2];clear e2 zz hX hRR hBB hx;obtain⟨k,m,z,s,t,o⟩:=g;have LB:=two_laid w (some ⟨ab,0,none⟩) (some ⟨fb,0,none⟩) ⟨k,m,z,s,t,o⟩ st ep 24 103;rw[show aggG ⟨k,m,z,s,t,o⟩= .agg #[.int .i64 k,.int .i64 m,.int .i64 z,.int .i64 s,.int .i64 t,.int .i64 o]from rfl];unfold aggP at KS KE KF;simp only[cellsP,cellsG]at KS KE KF LB;have LG:=geo_laid w ⟨k,m,z,s,t,o⟩ 24;obtain⟨⟨y0,y1,y2,y3,y4,y5⟩,_⟩:=LG _ (Below.refl _ _);simp only[cellsG]at y0 y1 y2 y3 y4 y5;have KF1:=KF;obtain⟨W1,hW1⟩:∃W1,W1=((w.alloc (.cells #[.int .i64 k,.int .i64 m,.int .i64 z,.int .i64 s,.int .i64 t,.int .i64 o] 24)).alloc (.cells #[.pointer (some ⟨ab,0,none⟩),.pointer (some ⟨fb,0,none⟩),.int .i64 k,.int .i64 m,.int .i64 z,.int .i64 s,.int .i64 t,.int .i64 o,.int .i64 st,.int .i64 ep] 103)):=⟨_,rfl⟩;rw[<-hW1]at LB;have SE:Hid (∀W,Below W1.heap.size W1 W->(W.cell? ⟨w.heap.size+1,0,none⟩=some (.pointer (some ⟨ab,0,none⟩))/\W.cell? ⟨w.heap.size+1,1,none⟩=some (.pointer (some ⟨fb,0,none⟩))/\W.cell? ⟨w.heap.size+1,2,none⟩=some (.int .i64 k)/\W.cell? ⟨w.heap.size+1,3,none⟩=some (.int .i64 m)/\W.cell? ⟨w.heap.size+1,4,none⟩=some (.int .i64 z)/\W.cell? ⟨w.heap.size+1,5,none⟩=some (.int .i64 s)/\W.cell? ⟨w.heap.size+1,6,none⟩=some (.int .i64 t)/\W.cell? ⟨w.heap.size+1,7,none⟩=some (.int .i64 o)/\W.cell? ⟨w.heap.size+1,8,none⟩=some (.int .i64 st)/\W.cell? ⟨w.heap.size+1,9,none⟩=some (.int .i64 ep))/\(W.cell? ⟨w.heap.size,0,none⟩=some (.int .i64 k)/\W.cell? ⟨w.heap.size,1,none⟩=some (.int .i64 m)/\W.cell? ⟨w.heap.size,2,none⟩=some (.int .i64 z)/\W.cell? ⟨w.heap.size,3,none⟩=some (.int .i64 s)/\W.cell? ⟨w.heap.size,4,none⟩=some (.int .i64 t)/\W.cell? ⟨w.heap.size,5,none⟩=some (.int .i64 o))):=fun W b=>⟨(LB W b).1.all,(LB W b).2.1⟩
  have FE:Hid (∀W,Below W1.heap.size W1 W->Below w.heap.size w W):=fun W b=>(LB W b).2.2
  have LBS:Hid (∀W,Below W1.heap.size W1 W->SpotAt W (w.heap.size+1) (some ⟨ab,0,none⟩) (some ⟨fb,0,none⟩) ⟨k,m,z,s,t,o⟩ st ep):=fun W b=>(LB W b).1
  clear LB LG KF;unfold aggP at KP;simp only[cellsP]at KP
  go_enter Tryz.func24,Tryz.ntmps24
  go_upto_region 2 with fail
  rw[<-hW1];clear hW1 y0 y1 y2 y3 y4 y5;have s0:=(SE.out W1 (Below.refl _ _)).1;have BD:Below W1.heap.size W1 W1.drew:=(Below.refl _ _).drew;have sD:=(SE.out _ BD).1
  go_region_held3 (fun wx=>wx.cell? ⟨w.heap.size+1,0,none⟩=some (.pointer (some ⟨ab,0,none⟩))/\wx.cell? ⟨w.heap.size+1,1,none⟩=some (.pointer (some ⟨fb,0,none⟩))/\wx.cell? ⟨w.heap.size+1,2,none⟩=some (.int .i64 k)/\wx.cell? ⟨w.heap.size+1,3,none⟩=some (.int .i64 m)/\wx.cell? ⟨w.heap.size+1,4,none⟩=some (.int .i64 z)/\wx.cell? ⟨w.heap.size+1,5,none⟩=some (.int .i64 s)/\wx.cell? ⟨w.heap.size+1,6,none⟩=some (.int .i64 t)/\wx.cell? ⟨w.heap.size+1,7,none⟩=some (.int .i64 o)/\wx.cell? ⟨w.heap.size+1,8,none⟩=some (.int .i64 st)/\wx.cell? ⟨w.heap.size+1,9,none⟩=some (.int .i64 ep)) (first|exact s0|exact sD|exact s1|exact s2|exact s3 _ _|exact s4) (first
   |(go_at_call 50;go_loud (refine(KS _).mono ?_);rintro _ v1 ⟨rfl,c1⟩;have B1:Below W1.heap.size W1 v1:=BD.stepL c1 BD.size;have s1:=(SE.out _ B1).1)
   |(go_at_call 51;go_loud (refine(KE _).mono ?_);rintro _ v2 ⟨rfl,c2⟩;have B2:Below W1.heap.size W1 v2:=B1.stepL c2 B1.size;have s2:=(SE.out _ B2).1;have s3:=fun q e=>(SE.out (v2.alloc (.cells q e)) (B2.stepL (belL _ _) B2.size)).1;have B3:=fun q e=>B2.stepL (belL v2 (.cells q e)) B2.size)
   |(go_at_call 49;go_loud (refine(KF1 _ _ (rdB_lit [b1,b2] rfl rfl rfl Zs)).mono ?_);rintro _ v4 ⟨rfl,c4⟩;have B4:Below W1.heap.size W1 v4:=(B3 _ _).stepL c4 (B3 _ _).size;have s4:=(SE.out _ B4).1))
  have F4:=FE.out _ B4;have K5:=KP _ (HA.out.below F4) (HFd.out.belowF F4);obtain⟨x0,x1,x2,x3,x4,x5,x6,x7,x8,x9⟩:=s4;clear s0 sD s1 s2 s3 c1 c2 c4 B1 B2 B3 B4 BD KS KE KF1 KP
  go_wp2_with fail
  refine K5.mono ?_
  rintro _ v5 ⟨va,vb,rfl,R5,O5,b5⟩;have F5:Hid (Below w.heap.size w v5):=F4.stepL b5 F4.size;obtain⟨aa,ac,rfl⟩:=R5.form;obtain⟨oa,oc,rfl⟩:=O5.form;clear x0 x1 x2 x3 x4 x5 x6 x7 x8 x9 K5 R5 O5 b5 F4;go_wp2;refine bodyPost_ret (v:=.tuple #[.slice none 0 0,.slice none 0 0,.int .i64 X]) (by simp[results,Tryz.results24,go_sem]) rfl ?_
  exact⟨_,_,rfl,World.ownsRow_nil _ _ _ _,by rw[e3.out];exact OwnI.nil _ _ _,F5.out⟩
 subst hX0;obtain⟨rl1,rl2⟩:=rtR_row hT hX.out.symm;have eD:Hid (rtD a g st ep=(RR.take g.k.toNat).flatten):=by
  show _=_
  unfold rtD;rw[if_pos hX.out.symm,hRR.out];unfold rtR;rw[if_pos hX.out.symm]
 rw[eD.out];rw[<-hRR.out]at rl1 rl2;obtain⟨K,hK⟩:∃K,Hid (K=g.k.toNat):=⟨_,rfl⟩;have ek:g.k=(K:Int):=by rw[hK.out];exact zz.1.symm
 rw[<-hK.out];have hKR:Hid (K<=RR.length/\1<=K/\RR.length<=32):=by
  have:=zz.2.2.2.2.1;refine⟨?_,?_,?_⟩
  ·rw[hK.out,rl1];unfold nT;omega
  ·rw[hK.out];exact zz.2.2.2.1
  ·rw[rl1];exact this
 have hfl:Hid ((RR.take K).flatten.length<=1000000):=by
  show _<=_
  have hle:∀r,r<=K->(RR.take r).flatten.length<=r*300:=fun r=>by
   induction r with
   |zero=>intro _;simp
   |succ r ih=>
    intro hr;rw[flat_take15 (by have:=hKR.out;omega),List.length_append,Nat.add_mul,Nat.one_mul];have:=ih Zo;have h2:=rl2 r (by rw[<-rl1];have:=hKR.out;omega);have:=hz hT.1;have:=zz.2.2.1;omega
  have:=hle K (Nat.le_refl _);have:=hKR.out
  have:K*300<=32*300:=Nat.mul_le_mul_right _ Zo
  omega
 obtain⟨FD,hFD⟩:∃FD,Hid (FD=(RR.take K).flatten):=⟨_,rfl⟩;rw[<-hFD.out];have KC:=fun W (vv:Value) (hr:Rs W vv (RR.take K))=>ccatb_any hr hfl.out (by rw[List.length_take];have:=hKR.out;omega)
 rw[<-hFD.out]at KC;clear zz rl1 rl2 eD hX hRR hBB hT hx hK;obtain⟨k,m,z,s,t,o⟩:=g;simp only at ek;subst ek;have LB:=two_laid w (some ⟨ab,0,none⟩) (some ⟨fb,0,none⟩) ⟨(K:Int),m,z,s,t,o⟩ st ep 24 103;rw[show aggG ⟨(K:Int),m,z,s,t,o⟩= .agg #[.int .i64 (K:Int),.int .i64 m,.int .i64 z,.int .i64 s,.int .i64 t,.int .i64 o]from rfl];unfold aggP at KS KE KF;simp only[cellsP,cellsG]at KS KE KF LB;have LG:=geo_laid w ⟨(K:Int),m,z,s,t,o⟩ 24;obtain⟨⟨y0,y1,y2,y3,y4,y5⟩,_⟩:=LG _ (Below.refl _ _);simp only[cellsG]at y0 y1 y2 y3 y4 y5;have KF1:=KF;obtain⟨W1,hW1⟩:∃W1,W1=((w.alloc (.cells #[.int .i64 (K:Int),.int .i64 m,.int .i64 z,.int .i64 s,.int .i64 t,.int .i64 o] 24)).alloc (.cells #[.pointer (some ⟨ab,0,none⟩),.pointer (some ⟨fb,0,none⟩),.int .i64 (K:Int),.int .i64 m,.int .i64 z,.int .i64 s,.int .i64 t,.int .i64 o,.int .i64 st,.int .i64 ep] 103)):=⟨_,rfl⟩;rw[<-hW1]at LB;have SE:Hid (∀W,Below W1.heap.size W1 W->(W.cell? ⟨w.heap.size+1,0,none⟩=some (.pointer (some ⟨ab,0,none⟩))/\W.cell? ⟨w.heap.size+1,1,none⟩=some (.pointer (some ⟨fb,0,none⟩))/\W.cell? ⟨w.heap.size+1,2,none⟩=some (.int .i64 (K:Int))/\W.cell? ⟨w.heap.size+1,3,none⟩=some (.int .i64 m)/\W.cell? ⟨w.heap.size+1,4,none⟩=some (.int .i64 z)/\W.cell? ⟨w.heap.size+1,5,none⟩=some (.int .i64 s)/\W.cell? ⟨w.heap.size+1,6,none⟩=some (.int .i64 t)/\W.cell? ⟨w.heap.size+1,7,none⟩=some (.int .i64 o)/\W.cell? ⟨w.heap.size+1,8,none⟩=some (.int .i64 st)/\W.cell? ⟨w.heap.size+1,9,none⟩=some (.int .i64 ep))/\(W.cell? ⟨w.heap.size,0,none⟩=some (.int .i64 (K:Int))/\W.cell? ⟨w.heap.size,1,none⟩=some (.int .i64 m)/\W.cell? ⟨w.heap.size,2,none⟩=some (.int .i64 z)/\W.cell? ⟨w.heap.size,3,none⟩=some (.int .i64 s)/\W.cell? ⟨w.heap.size,4,none⟩=some (.int .i64 t)/\W.cell? ⟨w.heap.size,5,none⟩=some (.int .i64 o))):=fun W b=>⟨(LB W b).1.all,(LB W b).2.1⟩
 have FE:Hid (∀W,Below W1.heap.size W1 W->Below w.heap.size w W):=fun W b=>(LB W b).2.2
 have LBS:Hid (∀W,Below W1.heap.size W1 W->SpotAt W (w.heap.size+1) (some ⟨ab,0,none⟩) (some ⟨fb,0,none⟩) ⟨(K:Int),m,z,s,t,o⟩ st ep):=fun W b=>(LB W b).1
 clear LB LG KF;unfold aggP at KP;simp only[cellsP]at KP
 go_enter Tryz.func24,Tryz.ntmps24
 go_upto_region 2 with fail
 rw[<-hW1];clear hW1 y0 y1 y2 y3 y4 y5;have s0:=(SE.out W1 (Below.refl _ _)).1;have BD:Below W1.heap.size W1 W1.drew:=(Below.refl _ _).drew;have sD:=(SE.out _ BD).1
 go_region_held3 (fun wx=>wx.cell? ⟨w.heap.size+1,0,none⟩=some (.pointer (some ⟨ab,0,none⟩))/\wx.cell? ⟨w.heap.size+1,1,none⟩=some (.pointer (some ⟨fb,0,none⟩))/\wx.cell? ⟨w.heap.size+1,2,none⟩=some (.int .i64 (K:Int))/\wx.cell? ⟨w.heap.size+1,3,none⟩=some (.int .i64 m)/\wx.cell? ⟨w.heap.size+1,4,none⟩=some (.int .i64 z)/\wx.cell? ⟨w.heap.size+1,5,none⟩=some (.int .i64 s)/\wx.cell? ⟨w.heap.size+1,6,none⟩=some (.int .i64 t)/\wx.cell? ⟨w.heap.size+1,7,none⟩=some (.int .i64 o)/\wx.cell? ⟨w.heap.size+1,8,none⟩=some (.int .i64 st)/\wx.cell? ⟨w.heap.size+1,9,none⟩=some (.int .i64 ep)) (first|exact s0|exact sD|exact s1|exact s2|exact s3 _ _|exact s4) (first
  |(go_at_call 50;go_loud (refine(KS _).mono ?_);rintro _ v1 ⟨rfl,c1⟩;have B1:Below W1.heap.size W1 v1:=BD.stepL c1 BD.size;have s1:=(SE.out _ B1).1)
  |(go_at_call 51;go_loud (refine(KE _).mono ?_);rintro _ v2 ⟨rfl,c2⟩;have B2:Below W1.heap.size W1 v2:=B1.stepL c2 B1.size;have s2:=(SE.out _ B2).1;have s3:=fun q e=>(SE.out (v2.alloc (.cells q e)) (B2.stepL (belL _ _) B2.size)).1;have B3:=fun q e=>B2.stepL (belL v2 (.cells q e)) B2.size)
  |(go_at_call 49;go_loud (refine(KF1 _ _ (rdB_lit [b1,b2] rfl rfl rfl Zs)).mono ?_);rintro _ v4 ⟨rfl,c4⟩;have B4:Below W1.heap.size W1 v4:=(B3 _ _).stepL c4 (B3 _ _).size;have s4:=(SE.out _ B4).1))
 have F4:=FE.out _ B4;have HB4:Hid (Below W1.heap.size W1 v4):=B4;have K5:=KP _ (HA.out.below F4) (HFd.out.belowF F4);obtain⟨x0,x1,x2,x3,x4,x5,x6,x7,x8,x9⟩:=s4;clear s0 sD s1 s2 s3 c1 c2 c4 B1 B2 B3 B4 BD KS KE KF1 KP
 go_wp2_with fail
 refine K5.mono ?_
 rintro _ v5 ⟨va,vb,rfl,R5,O5,b5⟩;have F5:=F4.stepL b5 F4.size;have S5:=SE.out _ (HB4.out.stepL b5 HB4.out.size);have HO5:Hid (OwnI v5 v4.heap.size 3 vb BB):=O5;have HR5:Hid (Rs v5 va RR):=R5.rs;obtain⟨oa,oc,rfl⟩:=O5.form;obtain⟨aa,ac,rfl,q1,q2,q3,q4⟩:=R5.rs;obtain⟨xb,xo,xx,rfl,_,_,_⟩:=q4 0 (by have:=hKR.out;omega);have g1:K<=ac:=by have:=hKR.out;omega
 have g2:(K:Int)<=(ac:Int):=Zo
 have K6:=KC _ _ (HR5.out.first hKR.out.1);obtain⟨⟨x0,x1,x2,x3,x4,x5,x6,x7,x8,x9⟩,z0,z1,z2,z3,z4,z5⟩:=S5;have HF4:Hid (w.heap.size<=v4.heap.size):=F4.size;clear K5 R5 O5 b5 F4 KC q1 q2 q3 q4
 go_wp2_with fail
 refine K6.mono ?_
 rintro _ v6 ⟨vd,rfl,O6,b6⟩;have E6:Hid (v6.ownsRow w.heap.size 5 1 vd FD.length (FD.map Gf.vb)/\OwnI v6 w.heap.size 3 (.slice oa BB.length oc) BB/\Below w.heap.size w v6):=⟨ownsRow_base O6 F5.size,ownsRow_base (HO5.out.later b6) HF4.out,F5.stepL b6 F5.size⟩;obtain⟨da,dc,rfl⟩:=owns_form O6;clear K6 O6 b6 F5 x0 x1 x2 x3 x4 x5 x6 x7 x8 x9 z0 z1 z2 z3 z4 z5;go_wp2;refine bodyPost_ret (v:=.tuple #[.slice da FD.length dc,.slice oa BB.length oc,.int .i64 0]) (by simp[results,Tryz.results24,go_sem]) rfl ?_
 exact⟨_,_,rfl,E6.out.1,E6.out.2.1,E6.out.2.2⟩
theorem fx_w{a:ArS}{g:GeoS}{st ep:Int}(h:rtX a g st ep=0):fxX a g st ep=wxT a g st ep (rtR a g st ep) (rtB a g st ep)/\fxN a g st ep=wnT a g st ep (rtR a g st ep) (rtB a g st ep)/\fxS a g st ep=psT a g st ep (rtR a g st ep) (rtB a g st ep) (rtB a g st ep).length:=by
 have e1:rtR a g st ep=alR a g st ep:=by unfold rtR;rw[if_pos h]
 have e2:rtB a g st ep=bdT a g st ep:=by unfold rtB;rw[if_pos h]
 rw[e1,e2];have e3:fxX a g st ep=wxT a g st ep (alR a g st ep) (bdT a g st ep):=by unfold fxX wxT;rw[if_pos h]
 refine⟨e3,?_,?_⟩
 ·unfold fxN wnT;rw[e3];unfold wxT
  by_cases q:pcT a g st ep (alR a g st ep) (bdT a g st ep)=true
  ·rw[if_pos q,if_neg Zd,if_pos q]
  ·rw[if_neg q,if_pos rfl,if_neg q]
 ·unfold fxS;rw[if_pos h]
theorem fx_no{a:ArS}{g:GeoS}{st ep:Int}(h:¬rtX a g st ep=0):fxX a g st ep=rtX a g st ep/\fxN a g st ep=0/\fxS a g st ep=a:=by
 have e1:fxX a g st ep=rtX a g st ep:=by unfold fxX;rw[if_neg h]
 refine⟨e1,?_,?_⟩
 ·unfold fxN;rw[e1,if_neg h]
 ·unfold fxS;rw[if_neg h]
theorem sfix_any{w:World}{ab fb:Nat}{GA:Nat->Prop}{a:ArS}(h:ArAt w ab GA a)(hF:FieldAt w fb){g:GeoS}(hg:g.Wf){st ep:Int}(hst:(Lit.int .i64 st).wf=true)(hz:okG g->g.z<=300):
  Calls Tryz.prog 26 #[.pointer (some ⟨ab,0,none⟩),.pointer (some ⟨fb,0,none⟩),aggG g,.int .i64 st,.int .i64 ep] w (LeavesA w ab GA (fxS a g st ep) (.tuple #[.int .i64 ((fxN a g st ep:Nat):Int),.int .i64 (fxX a g st ep)])):=by
 have KS:=fun W=>@piss_any W (some ⟨ab,0,none⟩) (some ⟨fb,0,none⟩) g st ep _ rfl
 have KE:=fun W=>@pise_any W (some ⟨ab,0,none⟩) (some ⟨fb,0,none⟩) g st ep _ rfl
 obtain⟨x,hx⟩:∃x,Hid (ckT g st ep=x):=⟨_,rfl⟩;have KF:=fun W (vv:Value) (hr:RdB W vv [decide (0<=st/\st<g.s),decide (0<=ep/\ep<=2147483647)])=>@pref_any W g st ep ab fb hg vv _ hr Zs _ (rf_two.trans hx.out)
 obtain⟨b1,hb1⟩:∃b,Hid (b=decide (0<=st/\st<g.s)):=⟨_,rfl⟩;obtain⟨b2,hb2⟩:∃b,Hid (b=decide (0<=ep/\ep<=2147483647)):=⟨_,rfl⟩;rw[<-hb1.out]at KS KF;rw[<-hb2.out]at KE KF;clear hb1 hb2;have KP:=fun (hT:OkT g st ep) W (hA:ArAt W ab GA a) (hf:FieldAt W fb)=>pput_any hA hf hg hst hT (hz hT.1)
 by_cases hT:OkT g st ep
 rotate_left
 ·have c0:¬x=0:=by rw[<-hx.out];exact ckT_not hT
  have e1:rtX a g st ep=x:=by unfold rtX;rw[if_neg hT];exact hx.out
  obtain⟨f1,f2,f3⟩:=fx_no (a:=a) (g:=g) (st:=st) (ep:=ep) (by rw[e1];exact c0);rw[f1,f2,f3,e1];clear e1 f1 f2 f3 KP hx;obtain⟨k,m,z,s,t,o⟩:=g;have LB:=two_laid w (some ⟨ab,0,none⟩) (some ⟨fb,0,none⟩) ⟨k,m,z,s,t,o⟩ st ep 24 103;rw[show aggG ⟨k,m,z,s,t,o⟩= .agg #[.int .i64 k,.int .i64 m,.int .i64 z,.int .i64 s,.int .i64 t,.int .i64 o]from rfl];unfold aggP at KS KE KF;simp only[cellsP,cellsG]at KS KE KF LB;have LG:=geo_laid w ⟨k,m,z,s,t,o⟩ 24;obtain⟨⟨y0,y1,y2,y3,y4,y5⟩,_⟩:=LG _ (Below.refl _ _);simp only[cellsG]at y0 y1 y2 y3 y4 y5;have KF1:=KF;obtain⟨W1,hW1⟩:∃W1,W1=((w.alloc (.cells #[.int .i64 k,.int .i64 m,.int .i64 z,.int .i64 s,.int .i64 t,.int .i64 o] 24)).alloc (.cells #[.pointer (some ⟨ab,0,none⟩),.pointer (some ⟨fb,0,none⟩),.int .i64 k,.int .i64 m,.int .i64 z,.int .i64 s,.int .i64 t,.int .i64 o,.int .i64 st,.int .i64 ep] 103)):=⟨_,rfl⟩;rw[<-hW1]at LB;have SE:Hid (∀W,Below W1.heap.size W1 W->(W.cell? ⟨w.heap.size+1,0,none⟩=some (.pointer (some ⟨ab,0,none⟩))/\W.cell? ⟨w.heap.size+1,1,none⟩=some (.pointer (some ⟨fb,0,none⟩))/\W.cell? ⟨w.heap.size+1,2,none⟩=some (.int .i64 k)/\W.cell? ⟨w.heap.size+1,3,none⟩=some (.int .i64 m)/\W.cell? ⟨w.heap.size+1,4,none⟩=some (.int .i64 z)/\W.cell? ⟨w.heap.size+1,5,none⟩=some (.int .i64 s)/\W.cell? ⟨w.heap.size+1,6,none⟩=some (.int .i64 t)/\W.cell? ⟨w.heap.size+1,7,none⟩=some (.int .i64 o)/\W.cell? ⟨w.heap.size+1,8,none⟩=some (.int .i64 st)/\W.cell? ⟨w.heap.size+1,9,none⟩=some (.int .i64 ep))/\(W.cell? ⟨w.heap.size,0,none⟩=some (.int .i64 k)/\W.cell? ⟨w.heap.size,1,none⟩=some (.int .i64 m)/\W.cell? ⟨w.heap.size,2,none⟩=some (.int .i64 z)/\W.cell? ⟨w.heap.size,3,none⟩=some (.int .i64 s)/\W.cell? ⟨w.heap.size,4,none⟩=some (.int .i64 t)/\W.cell? ⟨w.heap.size,5,none⟩=some (.int .i64 o))):=fun W b=>⟨(LB W b).1.all,(LB W b).2.1⟩
  have FE:Hid (∀W,Below W1.heap.size W1 W->Below w.heap.size w W):=fun W b=>(LB W b).2.2
  have LBS:Hid (∀W,Below W1.heap.size W1 W->SpotAt W (w.heap.size+1) (some ⟨ab,0,none⟩) (some ⟨fb,0,none⟩) ⟨k,m,z,s,t,o⟩ st ep):=fun W b=>(LB W b).1
  clear LB LG KF
  go_enter Tryz.func26,Tryz.ntmps26
  go_upto_region 2 with fail
  rw[<-hW1];clear hW1 y0 y1 y2 y3 y4 y5;have s0:=(SE.out W1 (Below.refl _ _)).1;have BD:Below W1.heap.size W1 W1.drew:=(Below.refl _ _).drew;have sD:=(SE.out _ BD).1
  go_region_held3 (fun wx=>wx.cell? ⟨w.heap.size+1,0,none⟩=some (.pointer (some ⟨ab,0,none⟩))/\wx.cell? ⟨w.heap.size+1,1,none⟩=some (.pointer (some ⟨fb,0,none⟩))/\wx.cell? ⟨w.heap.size+1,2,none⟩=some (.int .i64 k)/\wx.cell? ⟨w.heap.size+1,3,none⟩=some (.int .i64 m)/\wx.cell? ⟨w.heap.size+1,4,none⟩=some (.int .i64 z)/\wx.cell? ⟨w.heap.size+1,5,none⟩=some (.int .i64 s)/\wx.cell? ⟨w.heap.size+1,6,none⟩=some (.int .i64 t)/\wx.cell? ⟨w.heap.size+1,7,none⟩=some (.int .i64 o)/\wx.cell? ⟨w.heap.size+1,8,none⟩=some (.int .i64 st)/\wx.cell? ⟨w.heap.size+1,9,none⟩=some (.int .i64 ep)) (first|exact s0|exact sD|exact s1|exact s2|exact s3 _ _|exact s4) (first
   |(go_at_call 50;go_loud (refine(KS _).mono ?_);rintro _ v1 ⟨rfl,c1⟩;have B1:Below W1.heap.size W1 v1:=BD.stepL c1 BD.size;have s1:=(SE.out _ B1).1)
   |(go_at_call 51;go_loud (refine(KE _).mono ?_);rintro _ v2 ⟨rfl,c2⟩;have B2:Below W1.heap.size W1 v2:=B1.stepL c2 B1.size;have s2:=(SE.out _ B2).1;have s3:=fun q e=>(SE.out (v2.alloc (.cells q e)) (B2.stepL (belL _ _) B2.size)).1;have B3:=fun q e=>B2.stepL (belL v2 (.cells q e)) B2.size)
   |(go_at_call 49;go_loud (refine(KF1 _ _ (rdB_lit [b1,b2] rfl rfl rfl Zs)).mono ?_);rintro _ v4 ⟨rfl,c4⟩;have B4:Below W1.heap.size W1 v4:=(B3 _ _).stepL c4 (B3 _ _).size;have s4:=(SE.out _ B4).1))
  have FB:Hid (Below w.heap.size w v4):=FE.out _ B4;clear s0 sD s1 s2 s3 s4 c1 c2 c4 B1 B2 B3 B4 BD KS KE KF1;go_wp2;refine bodyPost_ret (v:=.tuple #[.int .i64 0,.int .i64 x]) (by simp[results,Tryz.results26,go_sem]) rfl ?_
  exact⟨rfl,GA,h.below FB.out,Grew.of_below FB.out⟩
 have c0:x=0:=by rw[<-hx.out];exact ckT_ok hT
 subst c0;replace KP:=KP hT;obtain⟨X,hX⟩:∃X,Hid (X=rtX a g st ep):=⟨_,rfl⟩;obtain⟨RR,hRR⟩:∃RR,Hid (RR=rtR a g st ep):=⟨_,rfl⟩;obtain⟨BB,hBB⟩:∃BB,Hid (BB=rtB a g st ep):=⟨_,rfl⟩;rw[<-hX.out,<-hRR.out,<-hBB.out]at KP;have HA:Hid (ArAt w ab GA a):=h;have HFd:Hid (FieldAt w fb):=hF;clear h hF
 by_cases hX0:X=0
 rotate_left
 ·obtain⟨f1,f2,f3⟩:=fx_no (a:=a) (g:=g) (st:=st) (ep:=ep) (by rw[<-hX.out];exact hX0);rw[f1,f2,f3,<-hX.out];clear f1 f2 f3 hX hRR hBB hx hT;obtain⟨k,m,z,s,t,o⟩:=g;have LB:=two_laid w (some ⟨ab,0,none⟩) (some ⟨fb,0,none⟩) ⟨k,m,z,s,t,o⟩ st ep 24 103;rw[show aggG ⟨k,m,z,s,t,o⟩= .agg #[.int .i64 k,.int .i64 m,.int .i64 z,.int .i64 s,.int .i64 t,.int .i64 o]from rfl];unfold aggP at KS KE KF;simp only[cellsP,cellsG]at KS KE KF LB;have LG:=geo_laid w ⟨k,m,z,s,t,o⟩ 24;obtain⟨⟨y0,y1,y2,y3,y4,y5⟩,_⟩:=LG _ (Below.refl _ _);simp only[cellsG]at y0 y1 y2 y3 y4 y5;have KF1:=KF;obtain⟨W1,hW1⟩:∃W1,W1=((w.alloc (.cells #[.int .i64 k,.int .i64 m,.int .i64 z,.int .i64 s,.int .i64 t,.int .i64 o] 24)).alloc (.cells #[.pointer (some ⟨ab,0,none⟩),.pointer (some ⟨fb,0,none⟩),.int .i64 k,.int .i64 m,.int .i64 z,.int .i64 s,.int .i64 t,.int .i64 o,.int .i64 st,.int .i64 ep] 103)):=⟨_,rfl⟩;rw[<-hW1]at LB;have SE:Hid (∀W,Below W1.heap.size W1 W->(W.cell? ⟨w.heap.size+1,0,none⟩=some (.pointer (some ⟨ab,0,none⟩))/\W.cell? ⟨w.heap.size+1,1,none⟩=some (.pointer (some ⟨fb,0,none⟩))/\W.cell? ⟨w.heap.size+1,2,none⟩=some (.int .i64 k)/\W.cell? ⟨w.heap.size+1,3,none⟩=some (.int .i64 m)/\W.cell? ⟨w.heap.size+1,4,none⟩=some (.int .i64 z)/\W.cell? ⟨w.heap.size+1,5,none⟩=some (.int .i64 s)/\W.cell? ⟨w.heap.size+1,6,none⟩=some (.int .i64 t)/\W.cell? ⟨w.heap.size+1,7,none⟩=some (.int .i64 o)/\W.cell? ⟨w.heap.size+1,8,none⟩=some (.int .i64 st)/\W.cell? ⟨w.heap.size+1,9,none⟩=some (.int .i64 ep))/\(W.cell? ⟨w.heap.size,0,none⟩=some (.int .i64 k)/\W.cell? ⟨w.heap.size,1,none⟩=some (.int .i64 m)/\W.cell? ⟨w.heap.size,2,none⟩=some (.int .i64 z)/\W.cell? ⟨w.heap.size,3,none⟩=some (.int .i64 s)/\W.cell? ⟨w.heap.size,4,none⟩=some (.int .i64 t)/\W.cell? ⟨w.heap.size,5,none⟩=some (.int .i64 o))):=fun W b=>⟨(LB W b).1.all,(LB W b).2.1⟩
  have FE:Hid (∀W,Below W1.heap.size W1 W->Below w.heap.size w W):=fun W b=>(LB W b).2.2
  have LBS:Hid (∀W,Below W1.heap.size W1 W->SpotAt W (w.heap.size+1) (some ⟨ab,0,none⟩) (some ⟨fb,0,none⟩) ⟨k,m,z,s,t,o⟩ st ep):=fun W b=>(LB W b).1
  clear LB LG KF;unfold aggP at KP;simp only[cellsP]at KP
  go_enter Tryz.func26,Tryz.ntmps26
  go_upto_region 2 with fail
  rw[<-hW1];clear hW1 y0 y1 y2 y3 y4 y5;have s0:=(SE.out W1 (Below.refl _ _)).1;have BD:Below W1.heap.size W1 W1.drew:=(Below.refl _ _).drew;have sD:=(SE.out _ BD).1
  go_region_held3 (fun wx=>wx.cell? ⟨w.heap.size+1,0,none⟩=some (.pointer (some ⟨ab,0,none⟩))/\wx.cell? ⟨w.heap.size+1,1,none⟩=some (.pointer (some ⟨fb,0,none⟩))/\wx.cell? ⟨w.heap.size+1,2,none⟩=some (.int .i64 k)/\wx.cell? ⟨w.heap.size+1,3,none⟩=some (.int .i64 m)/\wx.cell? ⟨w.heap.size+1,4,none⟩=some (.int .i64 z)/\wx.cell? ⟨w.heap.size+1,5,none⟩=some (.int .i64 s)/\wx.cell? ⟨w.heap.size+1,6,none⟩=some (.int .i64 t)/\wx.cell? ⟨w.heap.size+1,7,none⟩=some (.int .i64 o)/\wx.cell? ⟨w.heap.size+1,8,none⟩=some (.int .i64 st)/\wx.cell? ⟨w.heap.size+1,9,none⟩=some (.int .i64 ep)) (first|exact s0|exact sD|exact s1|exact s2|exact s3 _ _|exact s4) (first
   |(go_at_call 50;go_loud (refine(KS _).mono ?_);rintro _ v1 ⟨rfl,c1⟩;have B1:Below W1.heap.size W1 v1:=BD.stepL c1 BD.size;have s1:=(SE.out _ B1).1)
   |(go_at_call 51;go_loud (refine(KE _).mono ?_);rintro _ v2 ⟨rfl,c2⟩;have B2:Below W1.heap.size W1 v2:=B1.stepL c2 B1.size;have s2:=(SE.out _ B2).1;have s3:=fun q e=>(SE.out (v2.alloc (.cells q e)) (B2.stepL (belL _ _) B2.size)).1;have B3:=fun q e=>B2.stepL (belL v2 (.cells q e)) B2.size)
   |(go_at_call 49;go_loud (refine(KF1 _ _ (rdB_lit [b1,b2] rfl rfl rfl Zs)).mono ?_);rintro _ v4 ⟨rfl,c4⟩;have B4:Below W1.heap.size W1 v4:=(B3 _ _).stepL c4 (B3 _ _).size;have s4:=(SE.out _ B4).1))
  have F4:=FE.out _ B4;have K5:=KP _ (HA.out.below F4) (HFd.out.belowF F4);obtain⟨x0,x1,x2,x3,x4,x5,x6,x7,x8,x9⟩:=s4;clear s0 sD s1 s2 s3 c1 c2 c4 B1 B2 B3 B4 BD KS KE KF1 KP
  go_wp2_with fail
  refine K5.mono ?_
  rintro _ v5 ⟨va,vb,rfl,R5,O5,b5⟩;have F5:Hid (Below w.heap.size w v5):=F4.stepL b5 F4.size;obtain⟨aa,ac,rfl⟩:=R5.form;obtain⟨oa,oc,rfl⟩:=O5.form;clear x0 x1 x2 x3 x4 x5 x6 x7 x8 x9 K5 R5 O5 b5 F4;go_wp2;refine bodyPost_ret (v:=.tuple #[.int .i64 0,.int .i64 X]) (by simp[results,Tryz.results26,go_sem]) rfl ?_
  exact⟨rfl,GA,HA.out.below F5.out,Grew.of_below F5.out⟩
 subst hX0;obtain⟨rl1,rl2⟩:=rtR_row hT hX.out.symm;obtain⟨f1,f2,f3⟩:=fx_w hX.out.symm;rw[f1,f2,f3,<-hRR.out,<-hBB.out];rw[<-hRR.out]at rl1 rl2;have zz:=okG_nat hT.1;have hBn:∀i,i∈BB->i<nT g:=fun i hi=>by
  rw[hBB.out]at hi;unfold rtB at hi;rw[if_pos hX.out.symm]at hi;exact(plc_mem.1 hi).1
 have KW:=fun W (hA:ArAt W ab GA a) (vs vi:Value) (hl:ToldL W GA vs RR) (hi:ToldI W GA vi BB)=>@pwrite_any W ab GA a hA (some ⟨fb,0,none⟩) g hg st ep hst hT vs vi RR BB hl hi (fun i q=>⟨hBn i q,by rw[rl1];exact hBn i q⟩) (fun i q=>by
  rw[rl1]at q;rw[rl2 i q];omega) (by
  rw[hBB.out];unfold rtB;rw[if_pos hX.out.symm];unfold bdT;rw[plc_length];have:=cnt_le (bdF a g st ep) (nT g);omega)
 obtain⟨wx_,hwx⟩:∃y,Hid (y=wxT a g st ep RR BB):=⟨_,rfl⟩;obtain⟨wn_,hwn⟩:∃y,Hid (y=wnT a g st ep RR BB):=⟨_,rfl⟩;obtain⟨ps_,hps⟩:∃y,Hid (y=psT a g st ep RR BB BB.length):=⟨_,rfl⟩;rw[<-hwx.out,<-hwn.out,<-hps.out]at KW;rw[<-hwx.out,<-hwn.out,<-hps.out];clear zz rl1 rl2 f1 f2 f3 hX hRR hBB hT hx hBn hwx hwn hps;obtain⟨k,m,z,s,t,o⟩:=g;have LB:=two_laid w (some ⟨ab,0,none⟩) (some ⟨fb,0,none⟩) ⟨k,m,z,s,t,o⟩ st ep 24 103;rw[show aggG ⟨k,m,z,s,t,o⟩= .agg #[.int .i64 k,.int .i64 m,.int .i64 z,.int .i64 s,.int .i64 t,.int .i64 o]from rfl];unfold aggP at KS KE KF;simp only[cellsP,cellsG]at KS KE KF LB;have LG:=geo_laid w ⟨k,m,z,s,t,o⟩ 24;obtain⟨⟨y0,y1,y2,y3,y4,y5⟩,_⟩:=LG _ (Below.refl _ _);simp only[cellsG]at y0 y1 y2 y3 y4 y5;have KF1:=KF;obtain⟨W1,hW1⟩:∃W1,W1=((w.alloc (.cells #[.int .i64 k,.int .i64 m,.int .i64 z,.int .i64 s,.int .i64 t,.int .i64 o] 24)).alloc (.cells #[.pointer (some ⟨ab,0,none⟩),.pointer (some ⟨fb,0,none⟩),.int .i64 k,.int .i64 m,.int .i64 z,.int .i64 s,.int .i64 t,.int .i64 o,.int .i64 st,.int .i64 ep] 103)):=⟨_,rfl⟩;rw[<-hW1]at LB;have SE:Hid (∀W,Below W1.heap.size W1 W->(W.cell? ⟨w.heap.size+1,0,none⟩=some (.pointer (some ⟨ab,0,none⟩))/\W.cell? ⟨w.heap.size+1,1,none⟩=some (.pointer (some ⟨fb,0,none⟩))/\W.cell? ⟨w.heap.size+1,2,none⟩=some (.int .i64 k)/\W.cell? ⟨w.heap.size+1,3,none⟩=some (.int .i64 m)/\W.cell? ⟨w.heap.size+1,4,none⟩=some (.int .i64 z)/\W.cell? ⟨w.heap.size+1,5,none⟩=some (.int .i64 s)/\W.cell? ⟨w.heap.size+1,6,none⟩=some (.int .i64 t)/\W.cell? ⟨w.heap.size+1,7,none⟩=some (.int .i64 o)/\W.cell? ⟨w.heap.size+1,8,none⟩=some (.int .i64 st)/\W.cell? ⟨w.heap.size+1,9,none⟩=some (.int .i64 ep))/\(W.cell? ⟨w.heap.size,0,none⟩=some (.int .i64 k)/\W.cell? ⟨w.heap.size,1,none⟩=some (.int .i64 m)/\W.cell? ⟨w.heap.size,2,none⟩=some (.int .i64 z)/\W.cell? ⟨w.heap.size,3,none⟩=some (.int .i64 s)/\W.cell? ⟨w.heap.size,4,none⟩=some (.int .i64 t)/\W.cell? ⟨w.heap.size,5,none⟩=some (.int .i64 o))):=fun W b=>⟨(LB W b).1.all,(LB W b).2.1⟩
 have FE:Hid (∀W,Below W1.heap.size W1 W->Below w.heap.size w W):=fun W b=>(LB W b).2.2
 have LBS:Hid (∀W,Below W1.heap.size W1 W->SpotAt W (w.heap.size+1) (some ⟨ab,0,none⟩) (some ⟨fb,0,none⟩) ⟨k,m,z,s,t,o⟩ st ep):=fun W b=>(LB W b).1
 clear LB LG KF;unfold aggP at KP KW;simp only[cellsP]at KP KW
 go_enter Tryz.func26,Tryz.ntmps26
 go_upto_region 2 with fail
 rw[<-hW1];clear hW1 y0 y1 y2 y3 y4 y5;have s0:=(SE.out W1 (Below.refl _ _)).1;have BD:Below W1.heap.size W1 W1.drew:=(Below.refl _ _).drew;have sD:=(SE.out _ BD).1
 go_region_held3 (fun wx=>wx.cell? ⟨w.heap.size+1,0,none⟩=some (.pointer (some ⟨ab,0,none⟩))/\wx.cell? ⟨w.heap.size+1,1,none⟩=some (.pointer (some ⟨fb,0,none⟩))/\wx.cell? ⟨w.heap.size+1,2,none⟩=some (.int .i64 k)/\wx.cell? ⟨w.heap.size+1,3,none⟩=some (.int .i64 m)/\wx.cell? ⟨w.heap.size+1,4,none⟩=some (.int .i64 z)/\wx.cell? ⟨w.heap.size+1,5,none⟩=some (.int .i64 s)/\wx.cell? ⟨w.heap.size+1,6,none⟩=some (.int .i64 t)/\wx.cell? ⟨w.heap.size+1,7,none⟩=some (.int .i64 o)/\wx.cell? ⟨w.heap.size+1,8,none⟩=some (.int .i64 st)/\wx.cell? ⟨w.heap.size+1,9,none⟩=some (.int .i64 ep)) (first|exact s0|exact sD|exact s1|exact s2|exact s3 _ _|exact s4) (first
  |(go_at_call 50;go_loud (refine(KS _).mono ?_);rintro _ v1 ⟨rfl,c1⟩;have B1:Below W1.heap.size W1 v1:=BD.stepL c1 BD.size;have s1:=(SE.out _ B1).1)
  |(go_at_call 51;go_loud (refine(KE _).mono ?_);rintro _ v2 ⟨rfl,c2⟩;have B2:Below W1.heap.size W1 v2:=B1.stepL c2 B1.size;have s2:=(SE.out _ B2).1;have s3:=fun q e=>(SE.out (v2.alloc (.cells q e)) (B2.stepL (belL _ _) B2.size)).1;have B3:=fun q e=>B2.stepL (belL v2 (.cells q e)) B2.size)
  |(go_at_call 49;go_loud (refine(KF1 _ _ (rdB_lit [b1,b2] rfl rfl rfl Zs)).mono ?_);rintro _ v4 ⟨rfl,c4⟩;have B4:Below W1.heap.size W1 v4:=(B3 _ _).stepL c4 (B3 _ _).size;have s4:=(SE.out _ B4).1))
 have F4:=FE.out _ B4;have HB4:Hid (Below W1.heap.size W1 v4):=B4;have K5:=KP _ (HA.out.below F4) (HFd.out.belowF F4);obtain⟨x0,x1,x2,x3,x4,x5,x6,x7,x8,x9⟩:=s4;clear s0 sD s1 s2 s3 c1 c2 c4 B1 B2 B3 B4 BD KS KE KF1 KP
 go_wp2_with fail
 refine K5.mono ?_
 rintro _ v5 ⟨va,vb,rfl,R5,O5,b5⟩;have F5:=F4.stepL b5 F4.size;have S5:=SE.out _ (HB4.out.stepL b5 HB4.out.size);have hG:∀q,GA q->q<v4.heap.size:=fun q hq=>Nat.lt_of_lt_of_le (HA.out.lt q hq) F4.size
 have K6:=KW _ (HA.out.below F5) _ _ (ToldL.far R5 hG) (ToldI.of_own O5 hG);obtain⟨oa,oc,rfl⟩:=O5.form;obtain⟨aa,ac,rfl⟩:=R5.form;clear x0 x1 x2 x3 x4 x5 x6 x7 x8 x9 K5 R5 O5 b5 F4 hG KW;obtain⟨⟨x0,x1,x2,x3,x4,x5,x6,x7,x8,x9⟩,z0,z1,z2,z3,z4,z5⟩:=S5
 go_wp2_with fail
 refine K6.mono ?_
 rintro _ v6 ⟨rfl,G6,A6,g6⟩;have FIN:Hid (∃GA',ArAt v6 ab GA' ps_/\Grew GA w GA' v6):=⟨G6,A6,(Grew.of_below F5).trans g6⟩;clear K6 A6 g6 F5 x0 x1 x2 x3 x4 x5 x6 x7 x8 x9 z0 z1 z2 z3 z4 z5;go_wp2;refine bodyPost_ret (v:=.tuple #[.int .i64 (wn_:Int),.int .i64 wx_]) (by simp[results,Tryz.results26,go_sem]) rfl ?_
 exact⟨rfl,FIN.out⟩
structure StB(w:World)(N ab fb:Nat)(GA:Nat->Prop)(a:ArS):Prop where
 D:ArB w N ab GA a
 F:FieldAt w fb
 nf:¬GA fb
section
variable {w w':World} {N ab fb:Nat} {GA GA':Nat->Prop} {a a':ArS} {g:GeoS} {st ep:Int}
theorem StB.below(h:StB w N ab fb GA a)(hb:Below w.heap.size w w'):StB w' N ab fb GA a:=⟨h.D.below hb,h.F.belowF hb,h.nf⟩
theorem StB.grew(h:StB w N ab fb GA a)(hd:ArAt w' ab GA' a')(g:Grew GA w GA' w'):StB w' N ab fb GA' a':=⟨h.D.grew hd g,h.F.turnG h.nf g.turn,g.off h.F.lt h.nf⟩
theorem StB.bel(h:StB w N ab fb GA a)(g:Grew GA w GA' w'):Below N w w':=h.D.bel g
theorem swrite_is(h:StB w N ab fb GA a)(hg:g.Wf)(hst:(Lit.int .i64 st).wf=true){v:Value}{D:List UInt8}(hp:Rd w v D)(hz:okG g->g.z<=300){x:Int}(hx:swX a g st ep D=x){a':ArS}(hs:swS a g st ep D=a'):
  Calls Tryz.prog 18 #[.pointer (some ⟨ab,0,none⟩),.pointer (some ⟨fb,0,none⟩),aggG g,.int .i64 st,.int .i64 ep,v] w (LeavesA w ab GA a' (.int .i64 x)):=by
 rw[<-hx,<-hs];exact swrite_any h.D.at_ h.F hg hst hp hz
theorem sread_is(h:StB w N ab fb GA a)(hg:g.Wf)(hst:(Lit.int .i64 st).wf=true)(hz:okG g->g.z<=300){x:Int}(hx:rtX a g st ep=x){D:List UInt8}(hD:rtD a g st ep=D){B:List Nat}(hB:rtB a g st ep=B):
  Calls Tryz.prog 24 #[.pointer (some ⟨ab,0,none⟩),.pointer (some ⟨fb,0,none⟩),aggG g,.int .i64 st,.int .i64 ep] w (MakesL15 w x D B):=by
 rw[<-hx,<-hD,<-hB];exact sread_any h.D.at_ h.F hg hst hz
theorem sfix_is(h:StB w N ab fb GA a)(hg:g.Wf)(hst:(Lit.int .i64 st).wf=true)(hz:okG g->g.z<=300){x:Int}(hx:fxX a g st ep=x){n:Nat}(hn:fxN a g st ep=n){a':ArS}(hs:fxS a g st ep=a'):
  Calls Tryz.prog 26 #[.pointer (some ⟨ab,0,none⟩),.pointer (some ⟨fb,0,none⟩),aggG g,.int .i64 st,.int .i64 ep] w (LeavesA w ab GA a' (.tuple #[.int .i64 (n:Int),.int .i64 x])):=by
 rw[<-hx,<-hn,<-hs];exact sfix_any h.D.at_ h.F hg hst hz
end
theorem same15{va vb:Value}{p q:List UInt8}{w:World}(hp:Rd w va p)(hq:Rd w vb q){x:Bool}(h:sameB p q=x):Calls Tryz.prog 25 #[va,vb] w fun e w'=>e= .returned (.bool x)/\Below w.heap.size w w':=
 (same_any hp hq).mono fun e w' ⟨h1,n,h2⟩=>⟨by rw[h1,h],by rw[h2];exact(Below.refl _ _).drewN n⟩
def tinyG:GeoS:=⟨2,1,1,2,1,1⟩
theorem tinyG_wf:tinyG.Wf:=⟨Zd,Zd,Zd,Zd,Zd,Zd⟩
theorem tinyG_ok:okG tinyG:=Zd
theorem tinyG_z:okG tinyG->tinyG.z<=300:=fun _=>Zd
theorem new_wr{g:GeoS}{st:Int}{n s:Nat}(hg:okG g)(h1:0<=st)(h2:st<g.s)(hn:nT g<=n)(hs:stG g st<(s:Int)){i:Nat}(hi:i<nT g):WrT (newA n s) g st i:=by
 have d:=diG_in hg h1 h2 hi;have hl:(newA n s).D.length=n:=newA_len n s;have e:∀j:Nat,j<n->(newA n s).D.getD j default=newD s:=fun j hj=>by simp[newA,List.getD,hj]
 have hj:(diG g st (i:Int)).toNat<n:=Zo
 refine⟨⟨d.1,by rw[hl];omega⟩,?_,?_⟩
 ·unfold diA;rw[e _ hj];rfl
 ·unfold diA;rw[e _ hj];exact hs
def tw1:ArS:=swS (newA 3 8) tinyG 1 5 [7,9]
def tw2:ArS:=rpAS tw1 2
theorem tiny_T:OkT tinyG 1 5:=Zd
theorem tiny_T4:OkT tinyG 1 4:=Zd
theorem tiny_L:LenT tinyG [7,9]:=Zd
theorem tiny_w:swX (newA 3 8) tinyG 1 5 [7,9]=0/\WholeT tw1 tinyG 1 5 [7,9]:=by
 obtain⟨q1,q2,_⟩:=whole_write tiny_T tiny_L (calm_new 3 8) (fun i hi=>new_wr tinyG_ok Zd Zd Zd Zd hi);exact⟨q1,q2⟩
theorem tiny_r:rtX tw1 tinyG 1 5=0/\rtD tw1 tinyG 1 5=[7,9]/\rtB tw1 tinyG 1 5=[]:=by
 obtain⟨_,h⟩:=back15 tiny_T tiny_L tiny_w.2 (kind:=1) (at_:=0) (S:=[]) List.nodup_nil (fun d hd=>by cases hd) (a':=tw1) rfl;obtain⟨q1,q2,q3,_⟩:=h (Nat.zero_le _);exact⟨q1,q2,List.length_eq_zero_iff.1 q3⟩
theorem tiny_4:rtX tw1 tinyG 1 4=150/\rtD tw1 tinyG 1 4=[]/\rtB tw1 tinyG 1 4=[]:=
 read_none tiny_T4 tiny_w.2.calm.1 fun i hi=>has_other tiny_T (by rw[shT_row tiny_L tinyG_ok hi];decide) (tiny_w.2.held i hi) Zd
theorem tiny_2:rtX tw2 tinyG 1 5=0/\rtD tw2 tinyG 1 5=[7,9]/\(rtB tw2 tinyG 1 5).length=1/\fxX tw2 tinyG 1 5=0/\fxN tw2 tinyG 1 5=1:=by
 obtain⟨_,h⟩:=back15 tiny_T tiny_L tiny_w.2 (kind:=1) (at_:=0) (S:=[2]) Zs (fun d hd=>by
  have:d=2:=by simpa using hd
  rw[this];exact⟨Zd,Zd⟩) (a':=tw2) rfl
 obtain⟨q1,q2,q3,q4,q5,_⟩:=h Zd;have e:(rtB tw2 tinyG 1 5).length=1:=q3;exact⟨q1,q2,e,q4,by rw[q5,e]⟩
theorem tiny_any{w:World}:Calls Tryz.prog 30 #[] w fun e w'=>e= .returned (aggG tinyG)/\Below w.heap.size w w':=by
 rw[show aggG tinyG= .agg #[.int .i64 2,.int .i64 1,.int .i64 1,.int .i64 2,.int .i64 1,.int .i64 1]from rfl]
 go_enter Tryz.func30,Tryz.ntmps30
 go_wp2;exact bodyPost_ret (v:=.agg #[.int .i64 2,.int .i64 1,.int .i64 1,.int .i64 2,.int .i64 1,.int .i64 1]) (by simp[results,Tryz.results30,go_sem]) rfl ⟨rfl,belL _ _⟩
theorem areplS{w:World}{N ab fb:Nat}{GA:Nat->Prop}{a:ArS}(h:StB w N ab fb GA a){i:Int}(hi:(Lit.int .i64 i).wf=true){a':ArS}(hs:rpAS a i=a'):Calls Tryz.prog 21 #[.pointer (some ⟨ab,0,none⟩),.int .i64 i] w (LeavesA w ab GA a' (.int .i64 (thX a i))):=by
 rw[<-hs];exact arepl_any h.D.at_ hi
theorem Told.ownS{w w':World}{N ab fb:Nat}{GA:Nat->Prop}{a:ArS}{v:Value}{p:List UInt8}{e:Nat}(h:StB w N ab fb GA a)(ho:w'.ownsRow w.heap.size e 1 v p.length (p.map vb)):Told w' GA v p:=Told.ownA h.D.at_ ho
theorem awake15_any{w:World}:Calls Tryz.prog 9 #[] w fun e w'=>e= .returned (.bool true)/\Below w.heap.size w w':=by
 have ET:aggG tinyG= .agg #[.int .i64 2,.int .i64 1,.int .i64 1,.int .i64 2,.int .i64 1,.int .i64 1]:=rfl;have KT:=fun W=>@tiny_any W
 rw[ET]at KT
 go_enter Tryz.func9,Tryz.ntmps9
 go_wp2_with fail
 refine(new_any _).mono ?_
 rintro _ u1 ⟨rfl,F,hO⟩;have b1:=hO.below;obtain⟨fb,hfb⟩:∃fb,Hid (fb=w.heap.size):=⟨_,rfl⟩;rw[<-hfb.out]at F ⊢;clear hO
 go_wp2_with fail
 refine(anew_is (n:=3) (s:=8) (m:=3) (k:=8) rfl Zd Zd Zd Zd rfl).mono ?_
 rintro _ u2 ⟨ab,G2,rfl,A2,H2,B2⟩;have S2:StB u2 w.heap.size ab fb G2 (newA 3 8):=⟨⟨A2,fun k hk=>Nat.le_trans b1.size (H2 k hk),Nat.le_trans b1.size B2.size⟩,F.belowF B2,fun q=>by have:=H2 _ q;have:=F.lt;omega⟩;have C2:Below w.heap.size w u2:=b1.stepL B2 b1.size;clear A2 H2 B2 F b1
 go_wp2_with fail
 refine(KT _).mono ?_
 rintro _ u3 ⟨rfl,b3⟩;have S3:=fun o=>(S2.below b3).below (belL u3 o)
 have C3:=fun o=>(C2.stepL b3 C2.size).stepL (belL u3 o) (C2.stepL b3 C2.size).size
 clear S2 C2 b3
 go_wp2_with fail
 have K:=swrite_is (S3 (.cells #[.int .u8 7,.int .u8 9] 5)) tinyG_wf (st:=1) (ep:=5) Zd (rd_lit [7,9] rfl rfl Zd) tinyG_z tiny_w.1 (a':=tw1) rfl;rw[ET]at K;refine K.mono ?_
 rintro _ u4 ⟨rfl,G4,A4,g4⟩;have S4:=(S3 _).grew A4 g4;have C4:=(C3 _).trans ((S3 _).bel g4);clear K S3 C3 A4 g4
 go_wp2_with fail
 refine(KT _).mono ?_
 rintro _ u5 ⟨rfl,b5⟩;have S5:=S4.below b5;have C5:=C4.stepL b5 C4.size;clear S4 C4 b5;have K:=sread_is S5 tinyG_wf (st:=1) (ep:=5) Zd tinyG_z tiny_r.1 tiny_r.2.1 tiny_r.2.2;rw[ET]at K
 go_wp2_with fail
 refine K.mono ?_
 rintro _ u6 ⟨vd,vb,rfl,O6,I6,b6⟩;have T6:=Told.ownS S5 O6;have S6:=S5.below b6;have C6:=C5.stepL b6 C5.size;obtain⟨da,dc,rfl⟩:=T6.rd.form;obtain⟨ia,ic,rfl⟩:=I6.form;clear K O6 I6 b6 S5 C5
 go_wp2_with fail
 refine(KT _).mono ?_
 rintro _ u7 ⟨rfl,b7⟩;have S7:=S6.below b7;have T7:=T6.below b7;have C7:=C6.stepL b7 C6.size;clear S6 C6 b7 T6;have K:=sread_is S7 tinyG_wf (st:=1) (ep:=4) Zd tinyG_z tiny_4.1 tiny_4.2.1 tiny_4.2.2;rw[ET]at K
 go_wp2_with fail
 refine K.mono ?_
 rintro _ u8 ⟨vd8,vb8,rfl,O8,I8,b8⟩;have S8:=S7.below b8;have T8:=T7.below b8;have C8:=C7.stepL b8 C7.size;obtain⟨d8,e8,rfl⟩:=owns_slice O8;obtain⟨i8,j8,rfl⟩:=I8.form;clear K O8 I8 b8 S7 T7 C7;have K:=areplS S8 (i:=2) Zd (a':=tw2) rfl
 go_wp2_with fail
 refine K.mono ?_
 rintro _ u9 ⟨rfl,G9,A9,g9⟩;have S9:=S8.grew A9 g9;have T9:=T8.grew g9;have C9:=C8.trans (S8.bel g9);clear K A9 g9 S8 T8 C8
 go_wp2_with fail
 refine(KT _).mono ?_
 rintro _ u10 ⟨rfl,b10⟩;have S10:=S9.below b10;have T10:=T9.below b10;have C10:=C9.stepL b10 C9.size;clear S9 T9 C9 b10;have K:=sread_is S10 tinyG_wf (st:=1) (ep:=5) Zd tinyG_z tiny_2.1 tiny_2.2.1 rfl;rw[ET]at K
 go_wp2_with fail
 refine K.mono ?_
 rintro _ u11 ⟨vd11,vb11,rfl,O11,I11,b11⟩;have S11:=S10.below b11;have T11:=T10.below b11;have C11:=C10.stepL b11 C10.size;obtain⟨d11,e11,rfl⟩:=owns_slice O11;obtain⟨i11,j11,rfl⟩:=I11.form;rw[tiny_2.2.2.1];clear K O11 I11 b11 S10 T10 C10
 go_wp2_with fail
 refine(KT _).mono ?_
 rintro _ u12 ⟨rfl,b12⟩;have S12:=S11.below b12;have T12:=T11.below b12;have C12:=C11.stepL b12 C11.size;clear S11 T11 C11 b12;have K:=sfix_is S12 tinyG_wf (st:=1) (ep:=5) Zd tinyG_z tiny_2.2.2.2.1 tiny_2.2.2.2.2 rfl;rw[ET]at K
 go_wp2_with fail
 refine K.mono ?_
 rintro _ u13 ⟨rfl,G13,A13,g13⟩;have T13:=T12.grew g13;have C13:=C12.trans (S12.bel g13);clear K A13 g13 S12 T12 C12;have T14:=fun o=>T13.below (belL u13 o)
 have C14:=fun o=>C13.stepL (belL u13 o) C13.size
 go_wp2_with fail
 refine(same15 (T14 _).rd (rd_lit [7,9] rfl rfl Zd) (x:=true) Zd).mono ?_
 rintro _ u15 ⟨rfl,b15⟩;have FB:Hid (Below w.heap.size w u15):=(C14 _).stepL b15 (C14 _).size;clear T13 T14 C13 C14 b15;go_wp2;go_ret;exact⟨rfl,FB.out⟩
def smG(g:GeoS):Prop:=¬okG g∨(g.k+g.m<=7/\g.z<=8/\g.s<=20)
instance (g:GeoS):Decidable (smG g):=inferInstanceAs (Decidable (_∨_))
theorem smG_z{g:GeoS}(h:smG g):okG g->g.z<=300:=fun ok=>by
 have:=h.resolve_left (fun q=>q ok);omega
theorem z39_1{p:Prop} (h:p:=by
 go_enter Tryz.func11,Tryz.ntmps11
 go_wp2_with fail
 refine(KC _).mono ?_
 rintro _ w1 ⟨rfl,B1⟩;obtain⟨⟨x0,x1,x2,x3,x4,x5⟩,F1⟩:=LA _ _ B1;simp only at x0 x1 x2 x3 x4 x5;clear B1 LA KC;go_wp2;go_ret;exact⟨rfl,F1⟩
 ):p:=h
theorem small15_any{w:World}{g:GeoS}(hg:g.Wf){x:Bool}(hx:decide (smG g)=x):Calls Tryz.prog 11 #[aggG g] w fun e w'=>e= .returned (.bool x)/\Below w.heap.size w w':=by
 have KC:=fun W=>@lcheck_any W g hg _ rfl
 by_cases ok:okG g
 rotate_left
 ·rw[show chG g=50 from if_neg ok]at KC;rw[decide_eq_true (p:=smG g) (Or.inl ok)]at hx;subst hx;clear ok;obtain⟨k,m,z,s,t,o⟩:=g;have LA:=geo_laid w ⟨k,m,z,s,t,o⟩;rw[show aggG ⟨k,m,z,s,t,o⟩= .agg #[.int .i64 k,.int .i64 m,.int .i64 z,.int .i64 s,.int .i64 t,.int .i64 o]from rfl]at KC ⊢;exact z39_1
 rw[show chG g=0 from if_pos ok]at KC;have bs:0<=g.k+g.m/\g.k+g.m<=32:=⟨by have:=ok.1;have:=ok.2.1;omega,ok.2.2.1⟩;obtain⟨k,m,z,s,t,o⟩:=g;simp only at bs;obtain⟨n,hn⟩:∃n,Hid (n=k+m):=⟨_,rfl⟩;rw[<-hn.out]at bs;have gw:IntKind.i64.wrap (k+m)=n:=by rw[<-hn.out,IntKind.wrap_i64];omega
 have LA:=geo_laid w ⟨k,m,z,s,t,o⟩;rw[show aggG ⟨k,m,z,s,t,o⟩= .agg #[.int .i64 k,.int .i64 m,.int .i64 z,.int .i64 s,.int .i64 t,.int .i64 o]from rfl]at KC ⊢;have e:decide (smG ⟨k,m,z,s,t,o⟩)=decide (n<=7/\z<=8/\s<=20):=by
  refine decide_eq_decide.2 ⟨fun q=>?_,fun q=>Or.inr ?_⟩
  ·have:=q.resolve_left (fun q=>q ok);rw[hn.out];exact this
  ·rw[hn.out]at q;exact q
 rw[e]at hx;clear e ok
 by_cases h1:n<=7
 ·by_cases h2:z<=8
  ·by_cases h3:s<=20
   ·rw[decide_eq_true ⟨h1,h2,h3⟩]at hx;subst hx;exact z39_1
   ·rw[decide_eq_false (fun q=>h3 q.2.2)]at hx;subst hx;have d3:decide (s<=20)=false:=decide_eq_false h3;exact z39_1
  ·rw[decide_eq_false (fun q=>h2 q.2.1)]at hx;subst hx;have d2:decide (z<=8)=false:=decide_eq_false h2;exact z39_1
 ·rw[decide_eq_false (fun q=>h1 q.1)]at hx;subst hx;have d1:decide (n<=7)=false:=decide_eq_false h1;exact z39_1
end Go.Proofs.YtddnfhfangfgeaaGreat.Gf
