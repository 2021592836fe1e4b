/- JOINED: StCU, StCV, StAw, StSm, StRefA, StRefP. -/
import Derived.Test.YtddnfhfangfgeaaGreatPome29
import Derived.Test.YtddnfhfangfgeaaGreatPome24
set_option maxHeartbeats 4000000
set_option maxRecDepth 100000
namespace Go.Proofs.YtddnfhfangfgeaaGreat.Gf
set_option linter.unusedVariables false
set_option linter.unusedSimpArgs false
open Go.RowKit
theorem sread_any{w:World}{ab fb:Nat}{GA:Nat->Prop}{a:ArS}(h:ArAt w ab GA a)(hF:FieldAt w fb){g:GeoS}(hg:g.Wf){st ep:Int}(hst:(Lit.int .i64 st).wf=true)(hz:okG g->g.z<=300):
  Calls Tryz.prog 24 #[.pointer (some ⟨ab,0,none⟩),.pointer (some ⟨fb,0,none⟩),aggG g,.int .i64 st,.int .i64 ep] w (MakesL15 w (rtX a g st ep) (rtD a g st ep) (rtB a g st ep)):=by
 have KS:=fun W=>@piss_any W (some ⟨ab,0,none⟩) (some ⟨fb,0,none⟩) g st ep _ rfl
 have KE:=fun W=>@pise_any W (some ⟨ab,0,none⟩) (some ⟨fb,0,none⟩) g st ep _ rfl
 obtain⟨x,hx⟩:∃x,Hid (ckT g st ep=x):=⟨_,rfl⟩;have KF:=fun W (vv:Value) (hr:RdB W vv [decide (0<=st/\st<g.s),decide (0<=ep/\ep<=2147483647)])=>@pref_any W g st ep ab fb hg vv _ hr Zs _ (rf_two.trans hx.out)
 obtain⟨b1,hb1⟩:∃b,Hid (b=decide (0<=st/\st<g.s)):=⟨_,rfl⟩;obtain⟨b2,hb2⟩:∃b,Hid (b=decide (0<=ep/\ep<=2147483647)):=⟨_,rfl⟩;rw[<-hb1.out]at KS KF;rw[<-hb2.out]at KE KF;clear hb1 hb2;have KP:=fun (hT:OkT g st ep) W (hA:ArAt W ab GA a) (hf:FieldAt W fb)=>pput_any hA hf hg hst hT (hz hT.1)
 by_cases hT:OkT g st ep
 rotate_left
 ·have c0:¬x=0:=by rw[<-hx.out];exact ckT_not hT
  have e1:rtX a g st ep=x:=by unfold rtX;rw[if_neg hT];exact hx.out
  have e2:rtD a g st ep=[]:=by unfold rtD;rw[e1,if_neg c0]
  have e3:rtB a g st ep=[]:=by unfold rtB;rw[e1,if_neg c0]
  rw[e1,e2,e3];clear e1 e2 e3 KP hx;obtain⟨k,m,z,s,t,o⟩:=g;have LB:=two_laid w (some ⟨ab,0,none⟩) (some ⟨fb,0,none⟩) ⟨k,m,z,s,t,o⟩ st ep 24 103;rw[aggE];unfold aggP at KS KE KF;simp only[cellsP,cellsG]at KS KE KF LB;have LG:=geo_laid w ⟨k,m,z,s,t,o⟩ 24;obtain⟨⟨y0,y1,y2,y3,y4,y5⟩,_⟩:=LG _ Zf;simp only[cellsG]at y0 y1 y2 y3 y4 y5;have KF1:=KF;obtain⟨W1,hW1⟩:∃W1,W1=((w.alloc (.cells #[.int .i64 k,.int .i64 m,.int .i64 z,.int .i64 s,.int .i64 t,.int .i64 o] 24)).alloc (.cells #[.pointer (some ⟨ab,0,none⟩),.pointer (some ⟨fb,0,none⟩),.int .i64 k,.int .i64 m,.int .i64 z,.int .i64 s,.int .i64 t,.int .i64 o,.int .i64 st,.int .i64 ep] 103)):=⟨_,rfl⟩;rw[<-hW1]at LB;have SE:Hid (∀W,Below W1.heap.size W1 W->(W.cell? ⟨w.heap.size+1,0,none⟩=some (.pointer (some ⟨ab,0,none⟩))/\W.cell? ⟨w.heap.size+1,1,none⟩=some (.pointer (some ⟨fb,0,none⟩))/\W.cell? ⟨w.heap.size+1,2,none⟩=some (.int .i64 k)/\W.cell? ⟨w.heap.size+1,3,none⟩=some (.int .i64 m)/\W.cell? ⟨w.heap.size+1,4,none⟩=some (.int .i64 z)/\W.cell? ⟨w.heap.size+1,5,none⟩=some (.int .i64 s)/\W.cell? ⟨w.heap.size+1,6,none⟩=some (.int .i64 t)/\W.cell? ⟨w.heap.size+1,7,none⟩=some (.int .i64 o)/\W.cell? ⟨w.heap.size+1,8,none⟩=some (.int .i64 st)/\W.cell? ⟨w.heap.size+1,9,none⟩=some (.int .i64 ep))/\(W.cell? ⟨w.heap.size,0,none⟩=some (.int .i64 k)/\W.cell? ⟨w.heap.size,1,none⟩=some (.int .i64 m)/\W.cell? ⟨w.heap.size,2,none⟩=some (.int .i64 z)/\W.cell? ⟨w.heap.size,3,none⟩=some (.int .i64 s)/\W.cell? ⟨w.heap.size,4,none⟩=some (.int .i64 t)/\W.cell? ⟨w.heap.size,5,none⟩=some (.int .i64 o))):=fun W b=>⟨(LB W b).1.all,(LB W b).2.1⟩
  have FE:Hid (∀W,Below W1.heap.size W1 W->Below w.heap.size w W):=fun W b=>(LB W b).2.2
  have LBS:Hid (∀W,Below W1.heap.size W1 W->SpotAt W (w.heap.size+1) (some ⟨ab,0,none⟩) (some ⟨fb,0,none⟩) ⟨k,m,z,s,t,o⟩ st ep):=fun W b=>(LB W b).1
  clear LB LG KF
  go_enter Tryz.func24,Tryz.ntmps24
  go_upto_region 2 with fail
  rw[<-hW1];clear hW1 y0 y1 y2 y3 y4 y5;have s0:=(SE.out W1 Zf).1;have BD:Below W1.heap.size W1 W1.drew:=Zf.drew;have sD:=(SE.out _ BD).1
  go_region_held3 (fun wx=>wx.cell? ⟨w.heap.size+1,0,none⟩=some (.pointer (some ⟨ab,0,none⟩))/\wx.cell? ⟨w.heap.size+1,1,none⟩=some (.pointer (some ⟨fb,0,none⟩))/\wx.cell? ⟨w.heap.size+1,2,none⟩=some (.int .i64 k)/\wx.cell? ⟨w.heap.size+1,3,none⟩=some (.int .i64 m)/\wx.cell? ⟨w.heap.size+1,4,none⟩=some (.int .i64 z)/\wx.cell? ⟨w.heap.size+1,5,none⟩=some (.int .i64 s)/\wx.cell? ⟨w.heap.size+1,6,none⟩=some (.int .i64 t)/\wx.cell? ⟨w.heap.size+1,7,none⟩=some (.int .i64 o)/\wx.cell? ⟨w.heap.size+1,8,none⟩=some (.int .i64 st)/\wx.cell? ⟨w.heap.size+1,9,none⟩=some (.int .i64 ep)) (first|exact s0|exact sD|exact s1|exact s2|exact s3 _ _|exact s4) (first
   |(go_at_call 50;go_loud (refine(KS _).mono ?_);rintro _ v1 ⟨rfl,c1⟩;have B1:Below W1.heap.size W1 v1:=BD.stepL c1 BD.size;have s1:=(SE.out _ B1).1)
   |(go_at_call 51;go_loud (refine(KE _).mono ?_);rintro _ v2 ⟨rfl,c2⟩;have B2:Below W1.heap.size W1 v2:=B1.stepL c2 B1.size;have s2:=(SE.out _ B2).1;have s3:=fun q e=>(SE.out (v2.alloc (.cells q e)) (B2.stepL (belL _ _) B2.size)).1;have B3:=fun q e=>B2.stepL (belL v2 (.cells q e)) B2.size)
   |(go_at_call 49;go_loud (refine(KF1 _ _ (rdB_lit [b1,b2] rfl rfl rfl Zs)).mono ?_);rintro _ v4 ⟨rfl,c4⟩;have B4:Below W1.heap.size W1 v4:=(B3 _ _).stepL c4 (B3 _ _).size;have s4:=(SE.out _ B4).1))
  have FB:Hid (Below w.heap.size w v4):=FE.out _ B4;clear s0 sD s1 s2 s3 s4 c1 c2 c4 B1 B2 B3 B4 BD KS KE KF1;go_wp2;refine bodyPost_ret (v:=.tuple #[.slice none 0 0,.slice none 0 0,.int .i64 x]) (by simp[results,Tryz.results24,go_sem]) rfl ?_
  exact⟨_,_,rfl,World.ownsRow_nil _ _ _ _,OwnI.nil _ _ _,FB.out⟩
 have c0:x=0:=by rw[<-hx.out];exact ckT_ok hT
 subst c0;replace KP:=KP hT;have zz:=okG_nat hT.1;obtain⟨X,hX⟩:∃X,Hid (X=rtX a g st ep):=⟨_,rfl⟩;obtain⟨RR,hRR⟩:∃RR,Hid (RR=rtR a g st ep):=⟨_,rfl⟩;obtain⟨BB,hBB⟩:∃BB,Hid (BB=rtB a g st ep):=⟨_,rfl⟩;rw[<-hX.out,<-hRR.out,<-hBB.out]at KP;rw[<-hX.out,<-hBB.out];have HA:Hid (ArAt w ab GA a):=h;have HFd:Hid (FieldAt w fb):=hF;clear h hF
 by_cases hX0:X=0
 rotate_left
 ·have e2:rtD a g st ep=[]:=by unfold rtD;rw[if_neg (by rw[<-hX.out];exact hX0)]
  have e3:Hid (BB=[]):=by show _=_;rw[hBB.out];unfold rtB;rw[if_neg (by rw[<-hX.out];exact hX0)]
  rw[e2];clear e2 zz hX hRR hBB hx;obtain⟨k,m,z,s,t,o⟩:=g;have LB:=two_laid w (some ⟨ab,0,none⟩) (some ⟨fb,0,none⟩) ⟨k,m,z,s,t,o⟩ st ep 24 103;rw[aggE];unfold aggP at KS KE KF;simp only[cellsP,cellsG]at KS KE KF LB;have LG:=geo_laid w ⟨k,m,z,s,t,o⟩ 24;obtain⟨⟨y0,y1,y2,y3,y4,y5⟩,_⟩:=LG _ Zf;simp only[cellsG]at y0 y1 y2 y3 y4 y5;have KF1:=KF;obtain⟨W1,hW1⟩:∃W1,W1=((w.alloc (.cells #[.int .i64 k,.int .i64 m,.int .i64 z,.int .i64 s,.int .i64 t,.int .i64 o] 24)).alloc (.cells #[.pointer (some ⟨ab,0,none⟩),.pointer (some ⟨fb,0,none⟩),.int .i64 k,.int .i64 m,.int .i64 z,.int .i64 s,.int .i64 t,.int .i64 o,.int .i64 st,.int .i64 ep] 103)):=⟨_,rfl⟩;rw[<-hW1]at LB;have SE:Hid (∀W,Below W1.heap.size W1 W->(W.cell? ⟨w.heap.size+1,0,none⟩=some (.pointer (some ⟨ab,0,none⟩))/\W.cell? ⟨w.heap.size+1,1,none⟩=some (.pointer (some ⟨fb,0,none⟩))/\W.cell? ⟨w.heap.size+1,2,none⟩=some (.int .i64 k)/\W.cell? ⟨w.heap.size+1,3,none⟩=some (.int .i64 m)/\W.cell? ⟨w.heap.size+1,4,none⟩=some (.int .i64 z)/\W.cell? ⟨w.heap.size+1,5,none⟩=some (.int .i64 s)/\W.cell? ⟨w.heap.size+1,6,none⟩=some (.int .i64 t)/\W.cell? ⟨w.heap.size+1,7,none⟩=some (.int .i64 o)/\W.cell? ⟨w.heap.size+1,8,none⟩=some (.int .i64 st)/\W.cell? ⟨w.heap.size+1,9,none⟩=some (.int .i64 ep))/\(W.cell? ⟨w.heap.size,0,none⟩=some (.int .i64 k)/\W.cell? ⟨w.heap.size,1,none⟩=some (.int .i64 m)/\W.cell? ⟨w.heap.size,2,none⟩=some (.int .i64 z)/\W.cell? ⟨w.heap.size,3,none⟩=some (.int .i64 s)/\W.cell? ⟨w.heap.size,4,none⟩=some (.int .i64 t)/\W.cell? ⟨w.heap.size,5,none⟩=some (.int .i64 o))):=fun W b=>⟨(LB W b).1.all,(LB W b).2.1⟩
  have FE:Hid (∀W,Below W1.heap.size W1 W->Below w.heap.size w W):=fun W b=>(LB W b).2.2
  have LBS:Hid (∀W,Below W1.heap.size W1 W->SpotAt W (w.heap.size+1) (some ⟨ab,0,none⟩) (some ⟨fb,0,none⟩) ⟨k,m,z,s,t,o⟩ st ep):=fun W b=>(LB W b).1
  clear LB LG KF;unfold aggP at KP;simp only[cellsP]at KP
  go_enter Tryz.func24,Tryz.ntmps24
  go_upto_region 2 with fail
  rw[<-hW1];clear hW1 y0 y1 y2 y3 y4 y5;have s0:=(SE.out W1 Zf).1;have BD:Below W1.heap.size W1 W1.drew:=Zf.drew;have sD:=(SE.out _ BD).1
  go_region_held3 (fun wx=>wx.cell? ⟨w.heap.size+1,0,none⟩=some (.pointer (some ⟨ab,0,none⟩))/\wx.cell? ⟨w.heap.size+1,1,none⟩=some (.pointer (some ⟨fb,0,none⟩))/\wx.cell? ⟨w.heap.size+1,2,none⟩=some (.int .i64 k)/\wx.cell? ⟨w.heap.size+1,3,none⟩=some (.int .i64 m)/\wx.cell? ⟨w.heap.size+1,4,none⟩=some (.int .i64 z)/\wx.cell? ⟨w.heap.size+1,5,none⟩=some (.int .i64 s)/\wx.cell? ⟨w.heap.size+1,6,none⟩=some (.int .i64 t)/\wx.cell? ⟨w.heap.size+1,7,none⟩=some (.int .i64 o)/\wx.cell? ⟨w.heap.size+1,8,none⟩=some (.int .i64 st)/\wx.cell? ⟨w.heap.size+1,9,none⟩=some (.int .i64 ep)) (first|exact s0|exact sD|exact s1|exact s2|exact s3 _ _|exact s4) (first
   |(go_at_call 50;go_loud (refine(KS _).mono ?_);rintro _ v1 ⟨rfl,c1⟩;have B1:Below W1.heap.size W1 v1:=BD.stepL c1 BD.size;have s1:=(SE.out _ B1).1)
   |(go_at_call 51;go_loud (refine(KE _).mono ?_);rintro _ v2 ⟨rfl,c2⟩;have B2:Below W1.heap.size W1 v2:=B1.stepL c2 B1.size;have s2:=(SE.out _ B2).1;have s3:=fun q e=>(SE.out (v2.alloc (.cells q e)) (B2.stepL (belL _ _) B2.size)).1;have B3:=fun q e=>B2.stepL (belL v2 (.cells q e)) B2.size)
   |(go_at_call 49;go_loud (refine(KF1 _ _ (rdB_lit [b1,b2] rfl rfl rfl Zs)).mono ?_);rintro _ v4 ⟨rfl,c4⟩;have B4:Below W1.heap.size W1 v4:=(B3 _ _).stepL c4 (B3 _ _).size;have s4:=(SE.out _ B4).1))
  have F4:=FE.out _ B4;have K5:=KP _ (HA.out.below F4) (HFd.out.belowF F4);obtain⟨x0,x1,x2,x3,x4,x5,x6,x7,x8,x9⟩:=s4;clear s0 sD s1 s2 s3 c1 c2 c4 B1 B2 B3 B4 BD KS KE KF1 KP
  go_wp2_with fail
  refine K5.mono ?_
  rintro _ v5 ⟨va,vb,rfl,R5,O5,b5⟩;have F5:Hid (Below w.heap.size w v5):=F4.stepL b5 F4.size;obtain⟨aa,ac,rfl⟩:=R5.form;obtain⟨oa,oc,rfl⟩:=O5.form;clear x0 x1 x2 x3 x4 x5 x6 x7 x8 x9 K5 R5 O5 b5 F4;go_wp2;refine bodyPost_ret (v:=.tuple #[.slice none 0 0,.slice none 0 0,.int .i64 X]) (by simp[results,Tryz.results24,go_sem]) rfl ?_
  exact⟨_,_,rfl,World.ownsRow_nil _ _ _ _,by rw[e3.out];exact OwnI.nil _ _ _,F5.out⟩
 subst hX0;obtain⟨rl1,rl2⟩:=rtR_row hT hX.out.symm;have eD:Hid (rtD a g st ep=(RR.take g.k.toNat).flatten):=by
  show _=_
  unfold rtD;rw[if_pos hX.out.symm,hRR.out];unfold rtR;rw[if_pos hX.out.symm]
 rw[eD.out];rw[<-hRR.out]at rl1 rl2;obtain⟨K,hK⟩:∃K,Hid (K=g.k.toNat):=⟨_,rfl⟩;have ek:g.k=(K:Int):=by rw[hK.out];exact zz.1.symm
 rw[<-hK.out];have hKR:Hid (K<=RR.length/\1<=K/\RR.length<=32):=by
  have:=zz.2.2.2.2.1;refine⟨?_,?_,?_⟩
  ·rw[hK.out,rl1];unfold nT;omega
  ·rw[hK.out];exact zz.2.2.2.1
  ·rw[rl1];exact this
 have hfl:Hid ((RR.take K).flatten.length<=1000000):=by
  show _<=_
  have hle:∀r,r<=K->(RR.take r).flatten.length<=r*300:=fun r=>by
   induction r with
   |zero=>intro _;simp
   |succ r ih=>
    intro hr;rw[flat_take15 (by have:=hKR.out;omega),List.length_append,Nat.add_mul,Nat.one_mul];have:=ih Zo;have h2:=rl2 r (by rw[<-rl1];have:=hKR.out;omega);have:=hz hT.1;have:=zz.2.2.1;omega
  have:=hle K Zr;have:=hKR.out
  have:K*300<=32*300:=Nat.mul_le_mul_right _ Zo
  omega
 obtain⟨FD,hFD⟩:∃FD,Hid (FD=(RR.take K).flatten):=⟨_,rfl⟩;rw[<-hFD.out];have KC:=fun W (vv:Value) (hr:Rs W vv (RR.take K))=>ccatb_any hr hfl.out (by rw[List.length_take];have:=hKR.out;omega)
 rw[<-hFD.out]at KC;clear zz rl1 rl2 eD hX hRR hBB hT hx hK;obtain⟨k,m,z,s,t,o⟩:=g;simp only at ek;subst ek;have LB:=two_laid w (some ⟨ab,0,none⟩) (some ⟨fb,0,none⟩) ⟨(K:Int),m,z,s,t,o⟩ st ep 24 103;rw[show aggG ⟨(K:Int),m,z,s,t,o⟩= .agg #[.int .i64 (K:Int),.int .i64 m,.int .i64 z,.int .i64 s,.int .i64 t,.int .i64 o]from rfl];unfold aggP at KS KE KF;simp only[cellsP,cellsG]at KS KE KF LB;have LG:=geo_laid w ⟨(K:Int),m,z,s,t,o⟩ 24;obtain⟨⟨y0,y1,y2,y3,y4,y5⟩,_⟩:=LG _ Zf;simp only[cellsG]at y0 y1 y2 y3 y4 y5;have KF1:=KF;obtain⟨W1,hW1⟩:∃W1,W1=((w.alloc (.cells #[.int .i64 (K:Int),.int .i64 m,.int .i64 z,.int .i64 s,.int .i64 t,.int .i64 o] 24)).alloc (.cells #[.pointer (some ⟨ab,0,none⟩),.pointer (some ⟨fb,0,none⟩),.int .i64 (K:Int),.int .i64 m,.int .i64 z,.int .i64 s,.int .i64 t,.int .i64 o,.int .i64 st,.int .i64 ep] 103)):=⟨_,rfl⟩;rw[<-hW1]at LB;have SE:Hid (∀W,Below W1.heap.size W1 W->(W.cell? ⟨w.heap.size+1,0,none⟩=some (.pointer (some ⟨ab,0,none⟩))/\W.cell? ⟨w.heap.size+1,1,none⟩=some (.pointer (some ⟨fb,0,none⟩))/\W.cell? ⟨w.heap.size+1,2,none⟩=some (.int .i64 (K:Int))/\W.cell? ⟨w.heap.size+1,3,none⟩=some (.int .i64 m)/\W.cell? ⟨w.heap.size+1,4,none⟩=some (.int .i64 z)/\W.cell? ⟨w.heap.size+1,5,none⟩=some (.int .i64 s)/\W.cell? ⟨w.heap.size+1,6,none⟩=some (.int .i64 t)/\W.cell? ⟨w.heap.size+1,7,none⟩=some (.int .i64 o)/\W.cell? ⟨w.heap.size+1,8,none⟩=some (.int .i64 st)/\W.cell? ⟨w.heap.size+1,9,none⟩=some (.int .i64 ep))/\(W.cell? ⟨w.heap.size,0,none⟩=some (.int .i64 (K:Int))/\W.cell? ⟨w.heap.size,1,none⟩=some (.int .i64 m)/\W.cell? ⟨w.heap.size,2,none⟩=some (.int .i64 z)/\W.cell? ⟨w.heap.size,3,none⟩=some (.int .i64 s)/\W.cell? ⟨w.heap.size,4,none⟩=some (.int .i64 t)/\W.cell? ⟨w.heap.size,5,none⟩=some (.int .i64 o))):=fun W b=>⟨(LB W b).1.all,(LB W b).2.1⟩
 have FE:Hid (∀W,Below W1.heap.size W1 W->Below w.heap.size w W):=fun W b=>(LB W b).2.2
 have LBS:Hid (∀W,Below W1.heap.size W1 W->SpotAt W (w.heap.size+1) (some ⟨ab,0,none⟩) (some ⟨fb,0,none⟩) ⟨(K:Int),m,z,s,t,o⟩ st ep):=fun W b=>(LB W b).1
 clear LB LG KF;unfold aggP at KP;simp only[cellsP]at KP
 go_enter Tryz.func24,Tryz.ntmps24
 go_upto_region 2 with fail
 rw[<-hW1];clear hW1 y0 y1 y2 y3 y4 y5;have s0:=(SE.out W1 Zf).1;have BD:Below W1.heap.size W1 W1.drew:=Zf.drew;have sD:=(SE.out _ BD).1
 go_region_held3 (fun wx=>wx.cell? ⟨w.heap.size+1,0,none⟩=some (.pointer (some ⟨ab,0,none⟩))/\wx.cell? ⟨w.heap.size+1,1,none⟩=some (.pointer (some ⟨fb,0,none⟩))/\wx.cell? ⟨w.heap.size+1,2,none⟩=some (.int .i64 (K:Int))/\wx.cell? ⟨w.heap.size+1,3,none⟩=some (.int .i64 m)/\wx.cell? ⟨w.heap.size+1,4,none⟩=some (.int .i64 z)/\wx.cell? ⟨w.heap.size+1,5,none⟩=some (.int .i64 s)/\wx.cell? ⟨w.heap.size+1,6,none⟩=some (.int .i64 t)/\wx.cell? ⟨w.heap.size+1,7,none⟩=some (.int .i64 o)/\wx.cell? ⟨w.heap.size+1,8,none⟩=some (.int .i64 st)/\wx.cell? ⟨w.heap.size+1,9,none⟩=some (.int .i64 ep)) (first|exact s0|exact sD|exact s1|exact s2|exact s3 _ _|exact s4) (first
  |(go_at_call 50;go_loud (refine(KS _).mono ?_);rintro _ v1 ⟨rfl,c1⟩;have B1:Below W1.heap.size W1 v1:=BD.stepL c1 BD.size;have s1:=(SE.out _ B1).1)
  |(go_at_call 51;go_loud (refine(KE _).mono ?_);rintro _ v2 ⟨rfl,c2⟩;have B2:Below W1.heap.size W1 v2:=B1.stepL c2 B1.size;have s2:=(SE.out _ B2).1;have s3:=fun q e=>(SE.out (v2.alloc (.cells q e)) (B2.stepL (belL _ _) B2.size)).1;have B3:=fun q e=>B2.stepL (belL v2 (.cells q e)) B2.size)
  |(go_at_call 49;go_loud (refine(KF1 _ _ (rdB_lit [b1,b2] rfl rfl rfl Zs)).mono ?_);rintro _ v4 ⟨rfl,c4⟩;have B4:Below W1.heap.size W1 v4:=(B3 _ _).stepL c4 (B3 _ _).size;have s4:=(SE.out _ B4).1))
 have F4:=FE.out _ B4;have HB4:Hid (Below W1.heap.size W1 v4):=B4;have K5:=KP _ (HA.out.below F4) (HFd.out.belowF F4);obtain⟨x0,x1,x2,x3,x4,x5,x6,x7,x8,x9⟩:=s4;clear s0 sD s1 s2 s3 c1 c2 c4 B1 B2 B3 B4 BD KS KE KF1 KP
 go_wp2_with fail
 refine K5.mono ?_
 rintro _ v5 ⟨va,vb,rfl,R5,O5,b5⟩;have F5:=F4.stepL b5 F4.size;have S5:=SE.out _ (HB4.out.stepL b5 HB4.out.size);have HO5:Hid (OwnI v5 v4.heap.size 3 vb BB):=O5;have HR5:Hid (Rs v5 va RR):=R5.rs;obtain⟨oa,oc,rfl⟩:=O5.form;obtain⟨aa,ac,rfl,q1,q2,q3,q4⟩:=R5.rs;obtain⟨xb,xo,xx,rfl,_,_,_⟩:=q4 0 (by have:=hKR.out;omega);have g1:K<=ac:=by have:=hKR.out;omega
 have g2:(K:Int)<=(ac:Int):=Zo
 have K6:=KC _ _ (HR5.out.first hKR.out.1);obtain⟨⟨x0,x1,x2,x3,x4,x5,x6,x7,x8,x9⟩,z0,z1,z2,z3,z4,z5⟩:=S5;have HF4:Hid (w.heap.size<=v4.heap.size):=F4.size;clear K5 R5 O5 b5 F4 KC q1 q2 q3 q4
 go_wp2_with fail
 refine K6.mono ?_
 rintro _ v6 ⟨vd,rfl,O6,b6⟩;have E6:Hid (v6.ownsRow w.heap.size 5 1 vd FD.length (FD.map Gf.vb)/\OwnI v6 w.heap.size 3 (.slice oa BB.length oc) BB/\Below w.heap.size w v6):=⟨ownsRow_base O6 F5.size,ownsRow_base (HO5.out.later b6) HF4.out,F5.stepL b6 F5.size⟩;obtain⟨da,dc,rfl⟩:=owns_form O6;clear K6 O6 b6 F5 x0 x1 x2 x3 x4 x5 x6 x7 x8 x9 z0 z1 z2 z3 z4 z5;go_wp2;refine bodyPost_ret (v:=.tuple #[.slice da FD.length dc,.slice oa BB.length oc,.int .i64 0]) (by simp[results,Tryz.results24,go_sem]) rfl ?_
 exact⟨_,_,rfl,E6.out.1,E6.out.2.1,E6.out.2.2⟩
theorem fx_w{a:ArS}{g:GeoS}{st ep:Int}(h:rtX a g st ep=0):fxX a g st ep=wxT a g st ep (rtR a g st ep) (rtB a g st ep)/\fxN a g st ep=wnT a g st ep (rtR a g st ep) (rtB a g st ep)/\fxS a g st ep=psT a g st ep (rtR a g st ep) (rtB a g st ep) (rtB a g st ep).length:=by
 have e1:rtR a g st ep=alR a g st ep:=by unfold rtR;rw[if_pos h]
 have e2:rtB a g st ep=bdT a g st ep:=by unfold rtB;rw[if_pos h]
 rw[e1,e2];have e3:fxX a g st ep=wxT a g st ep (alR a g st ep) (bdT a g st ep):=by unfold fxX wxT;rw[if_pos h]
 refine⟨e3,?_,?_⟩
 ·unfold fxN wnT;rw[e3];unfold wxT
  by_cases q:pcT a g st ep (alR a g st ep) (bdT a g st ep)=true
  ·rw[if_pos q,if_neg Zd,if_pos q]
  ·rw[if_neg q,if_pos rfl,if_neg q]
 ·unfold fxS;rw[if_pos h]
theorem fx_no{a:ArS}{g:GeoS}{st ep:Int}(h:¬rtX a g st ep=0):fxX a g st ep=rtX a g st ep/\fxN a g st ep=0/\fxS a g st ep=a:=by
 have e1:fxX a g st ep=rtX a g st ep:=by unfold fxX;rw[if_neg h]
 refine⟨e1,?_,?_⟩
 ·unfold fxN;rw[e1,if_neg h]
 ·unfold fxS;rw[if_neg h]
theorem sfix_any{w:World}{ab fb:Nat}{GA:Nat->Prop}{a:ArS}(h:ArAt w ab GA a)(hF:FieldAt w fb){g:GeoS}(hg:g.Wf){st ep:Int}(hst:(Lit.int .i64 st).wf=true)(hz:okG g->g.z<=300):
  Calls Tryz.prog 26 #[.pointer (some ⟨ab,0,none⟩),.pointer (some ⟨fb,0,none⟩),aggG g,.int .i64 st,.int .i64 ep] w (LeavesA w ab GA (fxS a g st ep) (.tuple #[.int .i64 ((fxN a g st ep:Nat):Int),.int .i64 (fxX a g st ep)])):=by
 have KS:=fun W=>@piss_any W (some ⟨ab,0,none⟩) (some ⟨fb,0,none⟩) g st ep _ rfl
 have KE:=fun W=>@pise_any W (some ⟨ab,0,none⟩) (some ⟨fb,0,none⟩) g st ep _ rfl
 obtain⟨x,hx⟩:∃x,Hid (ckT g st ep=x):=⟨_,rfl⟩;have KF:=fun W (vv:Value) (hr:RdB W vv [decide (0<=st/\st<g.s),decide (0<=ep/\ep<=2147483647)])=>@pref_any W g st ep ab fb hg vv _ hr Zs _ (rf_two.trans hx.out)
 obtain⟨b1,hb1⟩:∃b,Hid (b=decide (0<=st/\st<g.s)):=⟨_,rfl⟩;obtain⟨b2,hb2⟩:∃b,Hid (b=decide (0<=ep/\ep<=2147483647)):=⟨_,rfl⟩;rw[<-hb1.out]at KS KF;rw[<-hb2.out]at KE KF;clear hb1 hb2;have KP:=fun (hT:OkT g st ep) W (hA:ArAt W ab GA a) (hf:FieldAt W fb)=>pput_any hA hf hg hst hT (hz hT.1)
 by_cases hT:OkT g st ep
 rotate_left
 ·have c0:¬x=0:=by rw[<-hx.out];exact ckT_not hT
  have e1:rtX a g st ep=x:=by unfold rtX;rw[if_neg hT];exact hx.out
  obtain⟨f1,f2,f3⟩:=fx_no (a:=a) (g:=g) (st:=st) (ep:=ep) (by rw[e1];exact c0);rw[f1,f2,f3,e1];clear e1 f1 f2 f3 KP hx;obtain⟨k,m,z,s,t,o⟩:=g;have LB:=two_laid w (some ⟨ab,0,none⟩) (some ⟨fb,0,none⟩) ⟨k,m,z,s,t,o⟩ st ep 24 103;rw[aggE];unfold aggP at KS KE KF;simp only[cellsP,cellsG]at KS KE KF LB;have LG:=geo_laid w ⟨k,m,z,s,t,o⟩ 24;obtain⟨⟨y0,y1,y2,y3,y4,y5⟩,_⟩:=LG _ Zf;simp only[cellsG]at y0 y1 y2 y3 y4 y5;have KF1:=KF;obtain⟨W1,hW1⟩:∃W1,W1=((w.alloc (.cells #[.int .i64 k,.int .i64 m,.int .i64 z,.int .i64 s,.int .i64 t,.int .i64 o] 24)).alloc (.cells #[.pointer (some ⟨ab,0,none⟩),.pointer (some ⟨fb,0,none⟩),.int .i64 k,.int .i64 m,.int .i64 z,.int .i64 s,.int .i64 t,.int .i64 o,.int .i64 st,.int .i64 ep] 103)):=⟨_,rfl⟩;rw[<-hW1]at LB;have SE:Hid (∀W,Below W1.heap.size W1 W->(W.cell? ⟨w.heap.size+1,0,none⟩=some (.pointer (some ⟨ab,0,none⟩))/\W.cell? ⟨w.heap.size+1,1,none⟩=some (.pointer (some ⟨fb,0,none⟩))/\W.cell? ⟨w.heap.size+1,2,none⟩=some (.int .i64 k)/\W.cell? ⟨w.heap.size+1,3,none⟩=some (.int .i64 m)/\W.cell? ⟨w.heap.size+1,4,none⟩=some (.int .i64 z)/\W.cell? ⟨w.heap.size+1,5,none⟩=some (.int .i64 s)/\W.cell? ⟨w.heap.size+1,6,none⟩=some (.int .i64 t)/\W.cell? ⟨w.heap.size+1,7,none⟩=some (.int .i64 o)/\W.cell? ⟨w.heap.size+1,8,none⟩=some (.int .i64 st)/\W.cell? ⟨w.heap.size+1,9,none⟩=some (.int .i64 ep))/\(W.cell? ⟨w.heap.size,0,none⟩=some (.int .i64 k)/\W.cell? ⟨w.heap.size,1,none⟩=some (.int .i64 m)/\W.cell? ⟨w.heap.size,2,none⟩=some (.int .i64 z)/\W.cell? ⟨w.heap.size,3,none⟩=some (.int .i64 s)/\W.cell? ⟨w.heap.size,4,none⟩=some (.int .i64 t)/\W.cell? ⟨w.heap.size,5,none⟩=some (.int .i64 o))):=fun W b=>⟨(LB W b).1.all,(LB W b).2.1⟩
  have FE:Hid (∀W,Below W1.heap.size W1 W->Below w.heap.size w W):=fun W b=>(LB W b).2.2
  have LBS:Hid (∀W,Below W1.heap.size W1 W->SpotAt W (w.heap.size+1) (some ⟨ab,0,none⟩) (some ⟨fb,0,none⟩) ⟨k,m,z,s,t,o⟩ st ep):=fun W b=>(LB W b).1
  clear LB LG KF
  go_enter Tryz.func26,Tryz.ntmps26
  go_upto_region 2 with fail
  rw[<-hW1];clear hW1 y0 y1 y2 y3 y4 y5;have s0:=(SE.out W1 Zf).1;have BD:Below W1.heap.size W1 W1.drew:=Zf.drew;have sD:=(SE.out _ BD).1
  go_region_held3 (fun wx=>wx.cell? ⟨w.heap.size+1,0,none⟩=some (.pointer (some ⟨ab,0,none⟩))/\wx.cell? ⟨w.heap.size+1,1,none⟩=some (.pointer (some ⟨fb,0,none⟩))/\wx.cell? ⟨w.heap.size+1,2,none⟩=some (.int .i64 k)/\wx.cell? ⟨w.heap.size+1,3,none⟩=some (.int .i64 m)/\wx.cell? ⟨w.heap.size+1,4,none⟩=some (.int .i64 z)/\wx.cell? ⟨w.heap.size+1,5,none⟩=some (.int .i64 s)/\wx.cell? ⟨w.heap.size+1,6,none⟩=some (.int .i64 t)/\wx.cell? ⟨w.heap.size+1,7,none⟩=some (.int .i64 o)/\wx.cell? ⟨w.heap.size+1,8,none⟩=some (.int .i64 st)/\wx.cell? ⟨w.heap.size+1,9,none⟩=some (.int .i64 ep)) (first|exact s0|exact sD|exact s1|exact s2|exact s3 _ _|exact s4) (first
   |(go_at_call 50;go_loud (refine(KS _).mono ?_);rintro _ v1 ⟨rfl,c1⟩;have B1:Below W1.heap.size W1 v1:=BD.stepL c1 BD.size;have s1:=(SE.out _ B1).1)
   |(go_at_call 51;go_loud (refine(KE _).mono ?_);rintro _ v2 ⟨rfl,c2⟩;have B2:Below W1.heap.size W1 v2:=B1.stepL c2 B1.size;have s2:=(SE.out _ B2).1;have s3:=fun q e=>(SE.out (v2.alloc (.cells q e)) (B2.stepL (belL _ _) B2.size)).1;have B3:=fun q e=>B2.stepL (belL v2 (.cells q e)) B2.size)
   |(go_at_call 49;go_loud (refine(KF1 _ _ (rdB_lit [b1,b2] rfl rfl rfl Zs)).mono ?_);rintro _ v4 ⟨rfl,c4⟩;have B4:Below W1.heap.size W1 v4:=(B3 _ _).stepL c4 (B3 _ _).size;have s4:=(SE.out _ B4).1))
  have FB:Hid (Below w.heap.size w v4):=FE.out _ B4;clear s0 sD s1 s2 s3 s4 c1 c2 c4 B1 B2 B3 B4 BD KS KE KF1;go_wp2;refine bodyPost_ret (v:=.tuple #[.int .i64 0,.int .i64 x]) (by simp[results,Tryz.results26,go_sem]) rfl ?_
  exact⟨rfl,GA,h.below FB.out,Grew.of_below FB.out⟩
 have c0:x=0:=by rw[<-hx.out];exact ckT_ok hT
 subst c0;replace KP:=KP hT;obtain⟨X,hX⟩:∃X,Hid (X=rtX a g st ep):=⟨_,rfl⟩;obtain⟨RR,hRR⟩:∃RR,Hid (RR=rtR a g st ep):=⟨_,rfl⟩;obtain⟨BB,hBB⟩:∃BB,Hid (BB=rtB a g st ep):=⟨_,rfl⟩;rw[<-hX.out,<-hRR.out,<-hBB.out]at KP;have HA:Hid (ArAt w ab GA a):=h;have HFd:Hid (FieldAt w fb):=hF;clear h hF
 by_cases hX0:X=0
 rotate_left
 ·obtain⟨f1,f2,f3⟩:=fx_no (a:=a) (g:=g) (st:=st) (ep:=ep) (by rw[<-hX.out];exact hX0);rw[f1,f2,f3,<-hX.out];clear f1 f2 f3 hX hRR hBB hx hT;obtain⟨k,m,z,s,t,o⟩:=g;have LB:=two_laid w (some ⟨ab,0,none⟩) (some ⟨fb,0,none⟩) ⟨k,m,z,s,t,o⟩ st ep 24 103;rw[aggE];unfold aggP at KS KE KF;simp only[cellsP,cellsG]at KS KE KF LB;have LG:=geo_laid w ⟨k,m,z,s,t,o⟩ 24;obtain⟨⟨y0,y1,y2,y3,y4,y5⟩,_⟩:=LG _ Zf;simp only[cellsG]at y0 y1 y2 y3 y4 y5;have KF1:=KF;obtain⟨W1,hW1⟩:∃W1,W1=((w.alloc (.cells #[.int .i64 k,.int .i64 m,.int .i64 z,.int .i64 s,.int .i64 t,.int .i64 o] 24)).alloc (.cells #[.pointer (some ⟨ab,0,none⟩),.pointer (some ⟨fb,0,none⟩),.int .i64 k,.int .i64 m,.int .i64 z,.int .i64 s,.int .i64 t,.int .i64 o,.int .i64 st,.int .i64 ep] 103)):=⟨_,rfl⟩;rw[<-hW1]at LB;have SE:Hid (∀W,Below W1.heap.size W1 W->(W.cell? ⟨w.heap.size+1,0,none⟩=some (.pointer (some ⟨ab,0,none⟩))/\W.cell? ⟨w.heap.size+1,1,none⟩=some (.pointer (some ⟨fb,0,none⟩))/\W.cell? ⟨w.heap.size+1,2,none⟩=some (.int .i64 k)/\W.cell? ⟨w.heap.size+1,3,none⟩=some (.int .i64 m)/\W.cell? ⟨w.heap.size+1,4,none⟩=some (.int .i64 z)/\W.cell? ⟨w.heap.size+1,5,none⟩=some (.int .i64 s)/\W.cell? ⟨w.heap.size+1,6,none⟩=some (.int .i64 t)/\W.cell? ⟨w.heap.size+1,7,none⟩=some (.int .i64 o)/\W.cell? ⟨w.heap.size+1,8,none⟩=some (.int .i64 st)/\W.cell? ⟨w.heap.size+1,9,none⟩=some (.int .i64 ep))/\(W.cell? ⟨w.heap.size,0,none⟩=some (.int .i64 k)/\W.cell? ⟨w.heap.size,1,none⟩=some (.int .i64 m)/\W.cell? ⟨w.heap.size,2,none⟩=some (.int .i64 z)/\W.cell? ⟨w.heap.size,3,none⟩=some (.int .i64 s)/\W.cell? ⟨w.heap.size,4,none⟩=some (.int .i64 t)/\W.cell? ⟨w.heap.size,5,none⟩=some (.int .i64 o))):=fun W b=>⟨(LB W b).1.all,(LB W b).2.1⟩
  have FE:Hid (∀W,Below W1.heap.size W1 W->Below w.heap.size w W):=fun W b=>(LB W b).2.2
  have LBS:Hid (∀W,Below W1.heap.size W1 W->SpotAt W (w.heap.size+1) (some ⟨ab,0,none⟩) (some ⟨fb,0,none⟩) ⟨k,m,z,s,t,o⟩ st ep):=fun W b=>(LB W b).1
  clear LB LG KF;unfold aggP at KP;simp only[cellsP]at KP
  go_enter Tryz.func26,Tryz.ntmps26
  go_upto_region 2 with fail
  rw[<-hW1];clear hW1 y0 y1 y2 y3 y4 y5;have s0:=(SE.out W1 Zf).1;have BD:Below W1.heap.size W1 W1.drew:=Zf.drew;have sD:=(SE.out _ BD).1
  go_region_held3 (fun wx=>wx.cell? ⟨w.heap.size+1,0,none⟩=some (.pointer (some ⟨ab,0,none⟩))/\wx.cell? ⟨w.heap.size+1,1,none⟩=some (.pointer (some ⟨fb,0,none⟩))/\wx.cell? ⟨w.heap.size+1,2,none⟩=some (.int .i64 k)/\wx.cell? ⟨w.heap.size+1,3,none⟩=some (.int .i64 m)/\wx.cell? ⟨w.heap.size+1,4,none⟩=some (.int .i64 z)/\wx.cell? ⟨w.heap.size+1,5,none⟩=some (.int .i64 s)/\wx.cell? ⟨w.heap.size+1,6,none⟩=some (.int .i64 t)/\wx.cell? ⟨w.heap.size+1,7,none⟩=some (.int .i64 o)/\wx.cell? ⟨w.heap.size+1,8,none⟩=some (.int .i64 st)/\wx.cell? ⟨w.heap.size+1,9,none⟩=some (.int .i64 ep)) (first|exact s0|exact sD|exact s1|exact s2|exact s3 _ _|exact s4) (first
   |(go_at_call 50;go_loud (refine(KS _).mono ?_);rintro _ v1 ⟨rfl,c1⟩;have B1:Below W1.heap.size W1 v1:=BD.stepL c1 BD.size;have s1:=(SE.out _ B1).1)
   |(go_at_call 51;go_loud (refine(KE _).mono ?_);rintro _ v2 ⟨rfl,c2⟩;have B2:Below W1.heap.size W1 v2:=B1.stepL c2 B1.size;have s2:=(SE.out _ B2).1;have s3:=fun q e=>(SE.out (v2.alloc (.cells q e)) (B2.stepL (belL _ _) B2.size)).1;have B3:=fun q e=>B2.stepL (belL v2 (.cells q e)) B2.size)
   |(go_at_call 49;go_loud (refine(KF1 _ _ (rdB_lit [b1,b2] rfl rfl rfl Zs)).mono ?_);rintro _ v4 ⟨rfl,c4⟩;have B4:Below W1.heap.size W1 v4:=(B3 _ _).stepL c4 (B3 _ _).size;have s4:=(SE.out _ B4).1))
  have F4:=FE.out _ B4;have K5:=KP _ (HA.out.below F4) (HFd.out.belowF F4);obtain⟨x0,x1,x2,x3,x4,x5,x6,x7,x8,x9⟩:=s4;clear s0 sD s1 s2 s3 c1 c2 c4 B1 B2 B3 B4 BD KS KE KF1 KP
  go_wp2_with fail
  refine K5.mono ?_
  rintro _ v5 ⟨va,vb,rfl,R5,O5,b5⟩;have F5:Hid (Below w.heap.size w v5):=F4.stepL b5 F4.size;obtain⟨aa,ac,rfl⟩:=R5.form;obtain⟨oa,oc,rfl⟩:=O5.form;clear x0 x1 x2 x3 x4 x5 x6 x7 x8 x9 K5 R5 O5 b5 F4;go_wp2;refine bodyPost_ret (v:=.tuple #[.int .i64 0,.int .i64 X]) (by simp[results,Tryz.results26,go_sem]) rfl ?_
  exact⟨rfl,GA,HA.out.below F5.out,Grew.of_below F5.out⟩
 subst hX0;obtain⟨rl1,rl2⟩:=rtR_row hT hX.out.symm;obtain⟨f1,f2,f3⟩:=fx_w hX.out.symm;rw[f1,f2,f3,<-hRR.out,<-hBB.out];rw[<-hRR.out]at rl1 rl2;have zz:=okG_nat hT.1;have hBn:∀i,i∈BB->i<nT g:=fun i hi=>by
  rw[hBB.out]at hi;unfold rtB at hi;rw[if_pos hX.out.symm]at hi;exact(plc_mem.1 hi).1
 have KW:=fun W (hA:ArAt W ab GA a) (vs vi:Value) (hl:ToldL W GA vs RR) (hi:ToldI W GA vi BB)=>@pwrite_any W ab GA a hA (some ⟨fb,0,none⟩) g hg st ep hst hT vs vi RR BB hl hi (fun i q=>⟨hBn i q,by rw[rl1];exact hBn i q⟩) (fun i q=>by
  rw[rl1]at q;rw[rl2 i q];omega) (by
  rw[hBB.out];unfold rtB;rw[if_pos hX.out.symm];unfold bdT;rw[plc_length];have:=cnt_le (bdF a g st ep) (nT g);omega)
 obtain⟨wx_,hwx⟩:∃y,Hid (y=wxT a g st ep RR BB):=⟨_,rfl⟩;obtain⟨wn_,hwn⟩:∃y,Hid (y=wnT a g st ep RR BB):=⟨_,rfl⟩;obtain⟨ps_,hps⟩:∃y,Hid (y=psT a g st ep RR BB BB.length):=⟨_,rfl⟩;rw[<-hwx.out,<-hwn.out,<-hps.out]at KW;rw[<-hwx.out,<-hwn.out,<-hps.out];clear zz rl1 rl2 f1 f2 f3 hX hRR hBB hT hx hBn hwx hwn hps;obtain⟨k,m,z,s,t,o⟩:=g;have LB:=two_laid w (some ⟨ab,0,none⟩) (some ⟨fb,0,none⟩) ⟨k,m,z,s,t,o⟩ st ep 24 103;rw[aggE];unfold aggP at KS KE KF;simp only[cellsP,cellsG]at KS KE KF LB;have LG:=geo_laid w ⟨k,m,z,s,t,o⟩ 24;obtain⟨⟨y0,y1,y2,y3,y4,y5⟩,_⟩:=LG _ Zf;simp only[cellsG]at y0 y1 y2 y3 y4 y5;have KF1:=KF;obtain⟨W1,hW1⟩:∃W1,W1=((w.alloc (.cells #[.int .i64 k,.int .i64 m,.int .i64 z,.int .i64 s,.int .i64 t,.int .i64 o] 24)).alloc (.cells #[.pointer (some ⟨ab,0,none⟩),.pointer (some ⟨fb,0,none⟩),.int .i64 k,.int .i64 m,.int .i64 z,.int .i64 s,.int .i64 t,.int .i64 o,.int .i64 st,.int .i64 ep] 103)):=⟨_,rfl⟩;rw[<-hW1]at LB;have SE:Hid (∀W,Below W1.heap.size W1 W->(W.cell? ⟨w.heap.size+1,0,none⟩=some (.pointer (some ⟨ab,0,none⟩))/\W.cell? ⟨w.heap.size+1,1,none⟩=some (.pointer (some ⟨fb,0,none⟩))/\W.cell? ⟨w.heap.size+1,2,none⟩=some (.int .i64 k)/\W.cell? ⟨w.heap.size+1,3,none⟩=some (.int .i64 m)/\W.cell? ⟨w.heap.size+1,4,none⟩=some (.int .i64 z)/\W.cell? ⟨w.heap.size+1,5,none⟩=some (.int .i64 s)/\W.cell? ⟨w.heap.size+1,6,none⟩=some (.int .i64 t)/\W.cell? ⟨w.heap.size+1,7,none⟩=some (.int .i64 o)/\W.cell? ⟨w.heap.size+1,8,none⟩=some (.int .i64 st)/\W.cell? ⟨w.heap.size+1,9,none⟩=some (.int .i64 ep))/\(W.cell? ⟨w.heap.size,0,none⟩=some (.int .i64 k)/\W.cell? ⟨w.heap.size,1,none⟩=some (.int .i64 m)/\W.cell? ⟨w.heap.size,2,none⟩=some (.int .i64 z)/\W.cell? ⟨w.heap.size,3,none⟩=some (.int .i64 s)/\W.cell? ⟨w.heap.size,4,none⟩=some (.int .i64 t)/\W.cell? ⟨w.heap.size,5,none⟩=some (.int .i64 o))):=fun W b=>⟨(LB W b).1.all,(LB W b).2.1⟩
 have FE:Hid (∀W,Below W1.heap.size W1 W->Below w.heap.size w W):=fun W b=>(LB W b).2.2
 have LBS:Hid (∀W,Below W1.heap.size W1 W->SpotAt W (w.heap.size+1) (some ⟨ab,0,none⟩) (some ⟨fb,0,none⟩) ⟨k,m,z,s,t,o⟩ st ep):=fun W b=>(LB W b).1
 clear LB LG KF;unfold aggP at KP KW;simp only[cellsP]at KP KW
 go_enter Tryz.func26,Tryz.ntmps26
 go_upto_region 2 with fail
 rw[<-hW1];clear hW1 y0 y1 y2 y3 y4 y5;have s0:=(SE.out W1 Zf).1;have BD:Below W1.heap.size W1 W1.drew:=Zf.drew;have sD:=(SE.out _ BD).1
 go_region_held3 (fun wx=>wx.cell? ⟨w.heap.size+1,0,none⟩=some (.pointer (some ⟨ab,0,none⟩))/\wx.cell? ⟨w.heap.size+1,1,none⟩=some (.pointer (some ⟨fb,0,none⟩))/\wx.cell? ⟨w.heap.size+1,2,none⟩=some (.int .i64 k)/\wx.cell? ⟨w.heap.size+1,3,none⟩=some (.int .i64 m)/\wx.cell? ⟨w.heap.size+1,4,none⟩=some (.int .i64 z)/\wx.cell? ⟨w.heap.size+1,5,none⟩=some (.int .i64 s)/\wx.cell? ⟨w.heap.size+1,6,none⟩=some (.int .i64 t)/\wx.cell? ⟨w.heap.size+1,7,none⟩=some (.int .i64 o)/\wx.cell? ⟨w.heap.size+1,8,none⟩=some (.int .i64 st)/\wx.cell? ⟨w.heap.size+1,9,none⟩=some (.int .i64 ep)) (first|exact s0|exact sD|exact s1|exact s2|exact s3 _ _|exact s4) (first
  |(go_at_call 50;go_loud (refine(KS _).mono ?_);rintro _ v1 ⟨rfl,c1⟩;have B1:Below W1.heap.size W1 v1:=BD.stepL c1 BD.size;have s1:=(SE.out _ B1).1)
  |(go_at_call 51;go_loud (refine(KE _).mono ?_);rintro _ v2 ⟨rfl,c2⟩;have B2:Below W1.heap.size W1 v2:=B1.stepL c2 B1.size;have s2:=(SE.out _ B2).1;have s3:=fun q e=>(SE.out (v2.alloc (.cells q e)) (B2.stepL (belL _ _) B2.size)).1;have B3:=fun q e=>B2.stepL (belL v2 (.cells q e)) B2.size)
  |(go_at_call 49;go_loud (refine(KF1 _ _ (rdB_lit [b1,b2] rfl rfl rfl Zs)).mono ?_);rintro _ v4 ⟨rfl,c4⟩;have B4:Below W1.heap.size W1 v4:=(B3 _ _).stepL c4 (B3 _ _).size;have s4:=(SE.out _ B4).1))
 have F4:=FE.out _ B4;have HB4:Hid (Below W1.heap.size W1 v4):=B4;have K5:=KP _ (HA.out.below F4) (HFd.out.belowF F4);obtain⟨x0,x1,x2,x3,x4,x5,x6,x7,x8,x9⟩:=s4;clear s0 sD s1 s2 s3 c1 c2 c4 B1 B2 B3 B4 BD KS KE KF1 KP
 go_wp2_with fail
 refine K5.mono ?_
 rintro _ v5 ⟨va,vb,rfl,R5,O5,b5⟩;have F5:=F4.stepL b5 F4.size;have S5:=SE.out _ (HB4.out.stepL b5 HB4.out.size);have hG:∀q,GA q->q<v4.heap.size:=fun q hq=>Zu (HA.out.lt q hq) F4.size
 have K6:=KW _ (HA.out.below F5) _ _ (ToldL.far R5 hG) (ToldI.of_own O5 hG);obtain⟨oa,oc,rfl⟩:=O5.form;obtain⟨aa,ac,rfl⟩:=R5.form;clear x0 x1 x2 x3 x4 x5 x6 x7 x8 x9 K5 R5 O5 b5 F4 hG KW;obtain⟨⟨x0,x1,x2,x3,x4,x5,x6,x7,x8,x9⟩,z0,z1,z2,z3,z4,z5⟩:=S5
 go_wp2_with fail
 refine K6.mono ?_
 rintro _ v6 ⟨rfl,G6,A6,g6⟩;have FIN:Hid (∃GA',ArAt v6 ab GA' ps_/\Grew GA w GA' v6):=⟨G6,A6,(Grew.of_below F5).trans g6⟩;clear K6 A6 g6 F5 x0 x1 x2 x3 x4 x5 x6 x7 x8 x9 z0 z1 z2 z3 z4 z5;go_wp2;refine bodyPost_ret (v:=.tuple #[.int .i64 (wn_:Int),.int .i64 wx_]) (by simp[results,Tryz.results26,go_sem]) rfl ?_
 exact⟨rfl,FIN.out⟩
structure StB(w:World)(N ab fb:Nat)(GA:Nat->Prop)(a:ArS):Prop where
 D:ArB w N ab GA a
 F:FieldAt w fb
 nf:¬GA fb
section
variable {w w':World} {N ab fb:Nat} {GA GA':Nat->Prop} {a a':ArS} {g:GeoS} {st ep:Int}
theorem StB.below(h:StB w N ab fb GA a)(hb:Below w.heap.size w w'):StB w' N ab fb GA a:=⟨h.D.below hb,h.F.belowF hb,h.nf⟩
theorem StB.grew(h:StB w N ab fb GA a)(hd:ArAt w' ab GA' a')(g:Grew GA w GA' w'):StB w' N ab fb GA' a':=⟨h.D.grew hd g,h.F.turnG h.nf g.turn,g.off h.F.lt h.nf⟩
theorem StB.bel(h:StB w N ab fb GA a)(g:Grew GA w GA' w'):Below N w w':=h.D.bel g
theorem swrite_is(h:StB w N ab fb GA a)(hg:g.Wf)(hst:(Lit.int .i64 st).wf=true){v:Value}{D:List UInt8}(hp:Rd w v D)(hz:okG g->g.z<=300){x:Int}(hx:swX a g st ep D=x){a':ArS}(hs:swS a g st ep D=a'):
  Calls Tryz.prog 18 #[.pointer (some ⟨ab,0,none⟩),.pointer (some ⟨fb,0,none⟩),aggG g,.int .i64 st,.int .i64 ep,v] w (LeavesA w ab GA a' (.int .i64 x)):=by
 rw[<-hx,<-hs];exact swrite_any h.D.at_ h.F hg hst hp hz
theorem sread_is(h:StB w N ab fb GA a)(hg:g.Wf)(hst:(Lit.int .i64 st).wf=true)(hz:okG g->g.z<=300){x:Int}(hx:rtX a g st ep=x){D:List UInt8}(hD:rtD a g st ep=D){B:List Nat}(hB:rtB a g st ep=B):
  Calls Tryz.prog 24 #[.pointer (some ⟨ab,0,none⟩),.pointer (some ⟨fb,0,none⟩),aggG g,.int .i64 st,.int .i64 ep] w (MakesL15 w x D B):=by
 rw[<-hx,<-hD,<-hB];exact sread_any h.D.at_ h.F hg hst hz
theorem sfix_is(h:StB w N ab fb GA a)(hg:g.Wf)(hst:(Lit.int .i64 st).wf=true)(hz:okG g->g.z<=300){x:Int}(hx:fxX a g st ep=x){n:Nat}(hn:fxN a g st ep=n){a':ArS}(hs:fxS a g st ep=a'):
  Calls Tryz.prog 26 #[.pointer (some ⟨ab,0,none⟩),.pointer (some ⟨fb,0,none⟩),aggG g,.int .i64 st,.int .i64 ep] w (LeavesA w ab GA a' (.tuple #[.int .i64 (n:Int),.int .i64 x])):=by
 rw[<-hx,<-hn,<-hs];exact sfix_any h.D.at_ h.F hg hst hz
end
theorem same15{va vb:Value}{p q:List UInt8}{w:World}(hp:Rd w va p)(hq:Rd w vb q){x:Bool}(h:sameB p q=x):Calls Tryz.prog 25 #[va,vb] w fun e w'=>e= .returned (.bool x)/\Below w.heap.size w w':=
 (same_any hp hq).mono fun e w' ⟨h1,n,h2⟩=>⟨by rw[h1,h],by rw[h2];exact Zf.drewN n⟩
def tinyG:GeoS:=⟨2,1,1,2,1,1⟩
theorem tinyG_wf:tinyG.Wf:=⟨Zd,Zd,Zd,Zd,Zd,Zd⟩
theorem tinyG_ok:okG tinyG:=Zd
theorem tinyG_z:okG tinyG->tinyG.z<=300:=fun _=>Zd
theorem new_wr{g:GeoS}{st:Int}{n s:Nat}(hg:okG g)(h1:0<=st)(h2:st<g.s)(hn:nT g<=n)(hs:stG g st<(s:Int)){i:Nat}(hi:i<nT g):WrT (newA n s) g st i:=by
 have d:=diG_in hg h1 h2 hi;have hl:(newA n s).D.length=n:=newA_len n s;have e:∀j:Nat,j<n->(newA n s).D.getD j default=newD s:=fun j hj=>by simp[newA,List.getD,hj]
 have hj:(diG g st (i:Int)).toNat<n:=Zo
 refine⟨⟨d.1,by rw[hl];omega⟩,?_,?_⟩
 ·unfold diA;rw[e _ hj];rfl
 ·unfold diA;rw[e _ hj];exact hs
def tw1:ArS:=swS (newA 3 8) tinyG 1 5 [7,9]
def tw2:ArS:=rpAS tw1 2
theorem tiny_T:OkT tinyG 1 5:=Zd
theorem tiny_T4:OkT tinyG 1 4:=Zd
theorem tiny_L:LenT tinyG [7,9]:=Zd
theorem tiny_w:swX (newA 3 8) tinyG 1 5 [7,9]=0/\WholeT tw1 tinyG 1 5 [7,9]:=by
 obtain⟨q1,q2,_⟩:=whole_write tiny_T tiny_L (calm_new 3 8) (fun i hi=>new_wr tinyG_ok Zd Zd Zd Zd hi);exact⟨q1,q2⟩
theorem tiny_r:rtX tw1 tinyG 1 5=0/\rtD tw1 tinyG 1 5=[7,9]/\rtB tw1 tinyG 1 5=[]:=by
 obtain⟨_,h⟩:=back15 tiny_T tiny_L tiny_w.2 (kind:=1) (at_:=0) (S:=[]) List.nodup_nil (fun d hd=>by cases hd) (a':=tw1) rfl;obtain⟨q1,q2,q3,_⟩:=h Zz;exact⟨q1,q2,List.length_eq_zero_iff.1 q3⟩
theorem tiny_4:rtX tw1 tinyG 1 4=150/\rtD tw1 tinyG 1 4=[]/\rtB tw1 tinyG 1 4=[]:=
 read_none tiny_T4 tiny_w.2.calm.1 fun i hi=>has_other tiny_T (by rw[shT_row tiny_L tinyG_ok hi];decide) (tiny_w.2.held i hi) Zd
theorem tiny_2:rtX tw2 tinyG 1 5=0/\rtD tw2 tinyG 1 5=[7,9]/\(rtB tw2 tinyG 1 5).length=1/\fxX tw2 tinyG 1 5=0/\fxN tw2 tinyG 1 5=1:=by
 obtain⟨_,h⟩:=back15 tiny_T tiny_L tiny_w.2 (kind:=1) (at_:=0) (S:=[2]) Zs (fun d hd=>by
  have:d=2:=by simpa using hd
  rw[this];exact⟨Zd,Zd⟩) (a':=tw2) rfl
 obtain⟨q1,q2,q3,q4,q5,_⟩:=h Zd;have e:(rtB tw2 tinyG 1 5).length=1:=q3;exact⟨q1,q2,e,q4,by rw[q5,e]⟩
theorem tiny_any{w:World}:Calls Tryz.prog 30 #[] w fun e w'=>e= .returned (aggG tinyG)/\Below w.heap.size w w':=by
 rw[show aggG tinyG= .agg #[.int .i64 2,.int .i64 1,.int .i64 1,.int .i64 2,.int .i64 1,.int .i64 1]from rfl]
 go_enter Tryz.func30,Tryz.ntmps30
 go_wp2;exact bodyPost_ret (v:=.agg #[.int .i64 2,.int .i64 1,.int .i64 1,.int .i64 2,.int .i64 1,.int .i64 1]) (by simp[results,Tryz.results30,go_sem]) rfl ⟨rfl,belL _ _⟩
theorem areplS{w:World}{N ab fb:Nat}{GA:Nat->Prop}{a:ArS}(h:StB w N ab fb GA a){i:Int}(hi:(Lit.int .i64 i).wf=true){a':ArS}(hs:rpAS a i=a'):Calls Tryz.prog 21 #[.pointer (some ⟨ab,0,none⟩),.int .i64 i] w (LeavesA w ab GA a' (.int .i64 (thX a i))):=by
 rw[<-hs];exact arepl_any h.D.at_ hi
theorem Told.ownS{w w':World}{N ab fb:Nat}{GA:Nat->Prop}{a:ArS}{v:Value}{p:List UInt8}{e:Nat}(h:StB w N ab fb GA a)(ho:w'.ownsRow w.heap.size e 1 v p.length (p.map vb)):Told w' GA v p:=Told.ownA h.D.at_ ho
theorem awake15_any{w:World}:Calls Tryz.prog 9 #[] w fun e w'=>e= .returned (.bool true)/\Below w.heap.size w w':=by
 have ET:aggG tinyG= .agg #[.int .i64 2,.int .i64 1,.int .i64 1,.int .i64 2,.int .i64 1,.int .i64 1]:=rfl;have KT:=fun W=>@tiny_any W
 rw[ET]at KT
 go_enter Tryz.func9,Tryz.ntmps9
 go_wp2_with fail
 refine(new_any _).mono ?_
 rintro _ u1 ⟨rfl,F,hO⟩;have b1:=hO.below;obtain⟨fb,hfb⟩:∃fb,Hid (fb=w.heap.size):=⟨_,rfl⟩;rw[<-hfb.out]at F ⊢;clear hO
 go_wp2_with fail
 refine(anew_is (n:=3) (s:=8) (m:=3) (k:=8) rfl Zd Zd Zd Zd rfl).mono ?_
 rintro _ u2 ⟨ab,G2,rfl,A2,H2,B2⟩;have S2:StB u2 w.heap.size ab fb G2 (newA 3 8):=⟨⟨A2,fun k hk=>Nat.le_trans b1.size (H2 k hk),Nat.le_trans b1.size B2.size⟩,F.belowF B2,fun q=>by have:=H2 _ q;have:=F.lt;omega⟩;have C2:Below w.heap.size w u2:=b1.stepL B2 b1.size;clear A2 H2 B2 F b1
 go_wp2_with fail
 refine(KT _).mono ?_
 rintro _ u3 ⟨rfl,b3⟩;have S3:=fun o=>(S2.below b3).below (belL u3 o)
 have C3:=fun o=>(C2.stepL b3 C2.size).stepL (belL u3 o) (C2.stepL b3 C2.size).size
 clear S2 C2 b3
 go_wp2_with fail
 have K:=swrite_is (S3 (.cells #[.int .u8 7,.int .u8 9] 5)) tinyG_wf (st:=1) (ep:=5) Zd (rd_lit [7,9] rfl rfl Zd) tinyG_z tiny_w.1 (a':=tw1) rfl;rw[ET]at K;refine K.mono ?_
 rintro _ u4 ⟨rfl,G4,A4,g4⟩;have S4:=(S3 _).grew A4 g4;have C4:=(C3 _).trans ((S3 _).bel g4);clear K S3 C3 A4 g4
 go_wp2_with fail
 refine(KT _).mono ?_
 rintro _ u5 ⟨rfl,b5⟩;have S5:=S4.below b5;have C5:=C4.stepL b5 C4.size;clear S4 C4 b5;have K:=sread_is S5 tinyG_wf (st:=1) (ep:=5) Zd tinyG_z tiny_r.1 tiny_r.2.1 tiny_r.2.2;rw[ET]at K
 go_wp2_with fail
 refine K.mono ?_
 rintro _ u6 ⟨vd,vb,rfl,O6,I6,b6⟩;have T6:=Told.ownS S5 O6;have S6:=S5.below b6;have C6:=C5.stepL b6 C5.size;obtain⟨da,dc,rfl⟩:=T6.rd.form;obtain⟨ia,ic,rfl⟩:=I6.form;clear K O6 I6 b6 S5 C5
 go_wp2_with fail
 refine(KT _).mono ?_
 rintro _ u7 ⟨rfl,b7⟩;have S7:=S6.below b7;have T7:=T6.below b7;have C7:=C6.stepL b7 C6.size;clear S6 C6 b7 T6;have K:=sread_is S7 tinyG_wf (st:=1) (ep:=4) Zd tinyG_z tiny_4.1 tiny_4.2.1 tiny_4.2.2;rw[ET]at K
 go_wp2_with fail
 refine K.mono ?_
 rintro _ u8 ⟨vd8,vb8,rfl,O8,I8,b8⟩;have S8:=S7.below b8;have T8:=T7.below b8;have C8:=C7.stepL b8 C7.size;obtain⟨d8,e8,rfl⟩:=owns_slice O8;obtain⟨i8,j8,rfl⟩:=I8.form;clear K O8 I8 b8 S7 T7 C7;have K:=areplS S8 (i:=2) Zd (a':=tw2) rfl
 go_wp2_with fail
 refine K.mono ?_
 rintro _ u9 ⟨rfl,G9,A9,g9⟩;have S9:=S8.grew A9 g9;have T9:=T8.grew g9;have C9:=C8.trans (S8.bel g9);clear K A9 g9 S8 T8 C8
 go_wp2_with fail
 refine(KT _).mono ?_
 rintro _ u10 ⟨rfl,b10⟩;have S10:=S9.below b10;have T10:=T9.below b10;have C10:=C9.stepL b10 C9.size;clear S9 T9 C9 b10;have K:=sread_is S10 tinyG_wf (st:=1) (ep:=5) Zd tinyG_z tiny_2.1 tiny_2.2.1 rfl;rw[ET]at K
 go_wp2_with fail
 refine K.mono ?_
 rintro _ u11 ⟨vd11,vb11,rfl,O11,I11,b11⟩;have S11:=S10.below b11;have T11:=T10.below b11;have C11:=C10.stepL b11 C10.size;obtain⟨d11,e11,rfl⟩:=owns_slice O11;obtain⟨i11,j11,rfl⟩:=I11.form;rw[tiny_2.2.2.1];clear K O11 I11 b11 S10 T10 C10
 go_wp2_with fail
 refine(KT _).mono ?_
 rintro _ u12 ⟨rfl,b12⟩;have S12:=S11.below b12;have T12:=T11.below b12;have C12:=C11.stepL b12 C11.size;clear S11 T11 C11 b12;have K:=sfix_is S12 tinyG_wf (st:=1) (ep:=5) Zd tinyG_z tiny_2.2.2.2.1 tiny_2.2.2.2.2 rfl;rw[ET]at K
 go_wp2_with fail
 refine K.mono ?_
 rintro _ u13 ⟨rfl,G13,A13,g13⟩;have T13:=T12.grew g13;have C13:=C12.trans (S12.bel g13);clear K A13 g13 S12 T12 C12;have T14:=fun o=>T13.below (belL u13 o)
 have C14:=fun o=>C13.stepL (belL u13 o) C13.size
 go_wp2_with fail
 refine(same15 (T14 _).rd (rd_lit [7,9] rfl rfl Zd) (x:=true) Zd).mono ?_
 rintro _ u15 ⟨rfl,b15⟩;have FB:Hid (Below w.heap.size w u15):=(C14 _).stepL b15 (C14 _).size;clear T13 T14 C13 C14 b15;go_wp2;go_ret;exact⟨rfl,FB.out⟩
def smG(g:GeoS):Prop:=¬okG g∨(g.k+g.m<=7/\g.z<=8/\g.s<=20)
instance (g:GeoS):Decidable (smG g):=inferInstanceAs (Decidable (_∨_))
theorem smG_z{g:GeoS}(h:smG g):okG g->g.z<=300:=fun ok=>by
 have:=h.resolve_left (fun q=>q ok);omega
theorem z30_1{p:Prop} (h:p:=by
 go_wp2_with fail
 refine(KC _).mono ?_
 rintro _ w1 ⟨rfl,B1⟩;obtain⟨⟨x0,x1,x2,x3,x4,x5⟩,F1⟩:=LA _ _ B1;simp only at x0 x1 x2 x3 x4 x5;clear B1 LA KC;go_wp2;go_ret;exact⟨rfl,F1⟩
 ):p:=h
theorem z30_3{p:Prop} (h:p:=by
 go_enter Tryz.func11,Tryz.ntmps11
 exact z30_1
 ):p:=h
theorem small15_any{w:World}{g:GeoS}(hg:g.Wf){x:Bool}(hx:decide (smG g)=x):Calls Tryz.prog 11 #[aggG g] w fun e w'=>e= .returned (.bool x)/\Below w.heap.size w w':=by
 have KC:=fun W=>@lcheck_any W g hg _ rfl
 by_cases ok:okG g
 rotate_left
 ·rw[show chG g=50 from if_neg ok]at KC;rw[Zy (p:=smG g) (Or.inl ok)]at hx;subst hx;clear ok;obtain⟨k,m,z,s,t,o⟩:=g;have LA:=geo_laid w ⟨k,m,z,s,t,o⟩;rw[aggE]at KC ⊢;exact z30_3
 rw[show chG g=0 from if_pos ok]at KC;have bs:0<=g.k+g.m/\g.k+g.m<=32:=⟨by have:=ok.1;have:=ok.2.1;omega,ok.2.2.1⟩;obtain⟨k,m,z,s,t,o⟩:=g;simp only at bs;obtain⟨n,hn⟩:∃n,Hid (n=k+m):=⟨_,rfl⟩;rw[<-hn.out]at bs;have gw:IntKind.i64.wrap (k+m)=n:=by rw[<-hn.out,IntKind.wrap_i64];omega
 have LA:=geo_laid w ⟨k,m,z,s,t,o⟩;rw[aggE]at KC ⊢;have e:decide (smG ⟨k,m,z,s,t,o⟩)=decide (n<=7/\z<=8/\s<=20):=by
  refine decide_eq_decide.2 ⟨fun q=>?_,fun q=>Or.inr ?_⟩
  ·have:=q.resolve_left (fun q=>q ok);rw[hn.out];exact this
  ·rw[hn.out]at q;exact q
 rw[e]at hx;clear e ok
 by_cases h1:n<=7
 ·by_cases h2:z<=8
  ·by_cases h3:s<=20
   ·rw[Zy ⟨h1,h2,h3⟩]at hx;subst hx;exact z30_3
   ·rw[Zx (fun q=>h3 q.2.2)]at hx;subst hx;have d3:decide (s<=20)=false:=Zx h3;exact z30_3
  ·rw[Zx (fun q=>h2 q.2.1)]at hx;subst hx;have d2:decide (z<=8)=false:=Zx h2;exact z30_3
 ·rw[Zx (fun q=>h1 q.1)]at hx;subst hx;have d1:decide (n<=7)=false:=Zx h1;exact z30_3
theorem z30_4{p:Prop} (h:p:=by
 subst hx
 go_enter Tryz.func65,Tryz.ntmps65
 exact z30_1
 ):p:=h
theorem z30_2{p:Prop} (h:p:=by
 rw[ckT_arg h0 (fun q=>by obtain⟨_,q1,q2,q3,q4⟩:=q;simp only at q2;omega)]at hx;exact z30_4
 ):p:=h
theorem rck15_any{w:World}{g:GeoS}(hg:g.Wf){st ep x:Int}(hx:ckT g st ep=x):Calls Tryz.prog 65 #[aggG g,.int .i64 st,.int .i64 ep] w fun e w'=>e= .returned (.int .i64 x)/\Below w.heap.size w w':=by
 obtain⟨k,m,z,s,t,o⟩:=g;have LA:=geo_laid w ⟨k,m,z,s,t,o⟩;have KC:=fun W=>@rcheckL_any W ⟨k,m,z,s,t,o⟩ hg _ rfl
 rw[aggE]at KC ⊢
 by_cases h0:okG ⟨k,m,z,s,t,o⟩
 rotate_left
 ·rw[show chG ⟨k,m,z,s,t,o⟩=50 from if_neg h0]at KC;rw[ckT_geo h0]at hx;exact z30_4
 rw[show chG ⟨k,m,z,s,t,o⟩=0 from if_pos h0]at KC
 by_cases h1:st<0
 ·exact z30_2
 by_cases h2:st>=s
 ·exact z30_2
 by_cases h3:ep<0
 ·exact z30_2
 by_cases h4:ep>2147483647
 ·exact z30_2
 rw[ckT_ok ⟨h0,Zo,by simp only;omega,Zo,Zo⟩]at hx;exact z30_4
theorem rput15_any{w:World}{rb:Nat}{HR GA:Nat->Prop}{a:ArS}(h:RaAt w rb HR GA a){g:GeoS}(hg:g.Wf){st ep:Int}(hT:OkT g st ep){sh:Nat}(hs:sh<nT g){v:Value}{b:List UInt8}(hp:Rd w v b)(hb:b.length<=4096)(hst:(Lit.int .i64 st).wf=true):
  Calls Tryz.prog 68 #[.pointer (some ⟨rb,0,none⟩),aggG g,.int .i64 st,.int .i64 ep,.int .i64 (sh:Int),v] w (LeavesRA w rb HR GA (puS a g st ep sh b) (.int .i64 (puX a g st ep sh b))):=by
 obtain⟨ax,x0⟩:∃x,Hid (x=puX a g st ep sh b):=⟨_,rfl⟩;obtain⟨as',s0⟩:∃x,Hid (x=puS a g st ep sh b):=⟨_,rfl⟩;obtain⟨pk,p0⟩:∃x,Hid (x=pkT g st ep b):=⟨_,rfl⟩;obtain⟨at_,t0⟩:∃x,Hid (x=stG g st):=⟨_,rfl⟩;obtain⟨dd,d0⟩:∃x,Hid (x=diG g st (sh:Int)):=⟨_,rfl⟩;have E1:paX at_ ep b=0/\paR at_ ep b=pk:=by
  obtain⟨q1,q2⟩:=pa_ok (hT.se hb);rw[t0.out,p0.out];exact⟨q1,q2⟩
 have EX:wrAX a dd at_ pk=ax:=by rw[x0.out,d0.out,t0.out,p0.out];rfl
 have ES:wrAS a dd at_ pk=as':=by rw[s0.out,d0.out,t0.out,p0.out];rfl
 have wsh:(Lit.int .i64 (sh:Int)).wf=true:=by
  have:=(okG_nat hT.1).2.2.2.2.1;simp[Lit.wf,IntKind.min,IntKind.max,IntKind.signed,IntKind.bits];omega
 have KS:=fun W=>@rstripe_any W g hg st _ t0.out.symm
 have KD:=fun W=>@rdisk_any W g hg st (sh:Int) hst wsh _ d0.out.symm
 have KP:=fun W (hr:Rd W v b)=>rpack_any (w:=W) (a:=at_) (e:=ep) hr Zo
 rw[E1.1,E1.2]at KP;rw[<-x0.out,<-s0.out];clear x0 s0 t0 d0 E1;obtain⟨k,m,z,s,t,o⟩:=g;have LA:=geo_laid w ⟨k,m,z,s,t,o⟩;rw[aggE]at KS KD ⊢;obtain⟨va,vc,rfl⟩:=hp.form
 go_enter Tryz.func68,Tryz.ntmps68
 go_wp2_with fail
 refine(KS _).mono ?_
 rintro _ w1 ⟨rfl,B1⟩;obtain⟨⟨x0,x1,x2,x3,x4,x5⟩,F1⟩:=LA _ _ B1;simp only at x0 x1 x2 x3 x4 x5
 go_wp2_with fail
 refine(KP _ (hp.below F1)).mono ?_
 rintro _ w2 ⟨vs,rfl,R2,b2⟩;have B2:=B1.stepL b2 B1.size;clear x0 x1 x2 x3 x4 x5 F1 B1 b2;obtain⟨⟨x0,x1,x2,x3,x4,x5⟩,F2⟩:=LA _ _ B2;simp only at x0 x1 x2 x3 x4 x5;obtain⟨sa,sc,rfl⟩:=R2.form
 go_wp2_with fail
 refine(KD _).mono ?_
 rintro _ w3 ⟨rfl,b3⟩;have R3:=R2.below b3;have B3:=B2.stepL b3 B2.size;clear x0 x1 x2 x3 x4 x5 F2 B2 b3 R2;obtain⟨_,F3⟩:=LA _ _ B3;clear LA;have K:=rwriteA_any (h.below F3) (i:=dd) (ad:=at_) R3;rw[EX,ES]at K
 go_wp2_with fail
 refine K.mono ?_
 rintro _ w4 ⟨rfl,A4,T4⟩;go_wp2;go_ret;exact⟨rfl,A4,(Below.turnG F3 HR).trans T4⟩
theorem info_bytes15:(Tryz.prog.info? 36).map (fun i=>(i.zero,i.size,i.bytes))=some (some (.slice none 0 0),1,24):=Zk
theorem rparts15_any{w:World}{g:GeoS}(hg:g.Wf)(hok:okG g){v:Value}{D:List UInt8}(hp:Rd w v D)(hD:LenT g D):
  Calls Tryz.prog 67 #[aggG g,v] w fun e w'=>∃v',e= .returned v'/\Rs w' v' (parT g D)/\Below w.heap.size w w':=by
 obtain⟨i0,hi,hz0,hz1,hz2⟩:=info_parts info_bytes15;have hn:=hD.nat hok;have zz:=okG_nat hok;obtain⟨k,m,z,s,t,o⟩:=g;have LB:=geo_laid w ⟨k,m,z,s,t,o⟩ 24;obtain⟨z1,z2,z3,z4,z5,z6,z7,z8⟩:=zz;simp only at hn z1 z3 z4 z6 z7;obtain⟨K,hK⟩:∃K,Hid (K=k.toNat):=⟨_,rfl⟩;obtain⟨Z,hZ⟩:∃Z,Hid (Z=z.toNat):=⟨_,rfl⟩;have EP:Hid (parT ⟨k,m,z,s,t,o⟩ D=mkL K (fun i=>(D.drop (i*Z)).take Z)):=by show _=_;rw[hK.out,hZ.out];rfl
 have ek:k=(K:Int):=by rw[hK.out];exact z1.symm
 have ez:z=(Z:Int):=by rw[hZ.out];exact z3.symm
 rw[<-hK.out,<-hZ.out]at hn;rw[<-hZ.out]at z6 z7;have hK32:K<=32:=by have:=hok.2.1;have:=hok.2.2.1;simp only at*;omega
 have hK1:1<=K:=by have:=hok.1;simp only at*;omega
 rw[aggE];rw[EP.out];clear z1 z2 z3 z4 z5 z8 hK hZ EP hD hok hg;subst ek ez;have hpos:0<D.length:=by rw[hn];exact Nat.mul_pos Zo Zo
 have hform:∃b off c,v= .slice (some ⟨b,off,none⟩) D.length c/\D.length<=c:=by
  rcases hp with⟨_,_,e,_⟩|⟨b,off,cap,h1,h2,h3,_⟩
  ·exact absurd (List.length_eq_zero_iff.2 e) Zo
  ·exact⟨b,off,cap,h2,h3⟩
 obtain⟨db,doff,dc,rfl,hdc⟩:=hform;obtain⟨N,hN⟩:∃N,Hid (N=D.length):=⟨_,rfl⟩;have HP:Hid (Rd w (.slice (some ⟨db,doff,none⟩) N dc) D):=by rw[hN.out];exact hp
 have hNc:N<=dc:=by rw[hN.out];exact hdc
 have hNk:Hid (N=K*Z):=by rw[hN.out];exact hn
 have hpl:Hid (0<D.length):=hpos;rw[<-hN.out];clear hp hpos hdc hn
 go_enter Tryz.func67,Tryz.ntmps67
 go_wp2_with fail
 obtain⟨W0,hW0⟩:∃W0,W0=w.alloc (.cells (cellsG ⟨(K:Int),m,(Z:Int),s,t,o⟩) 24):=⟨_,rfl⟩;rw[<-hW0]at LB;have START:Hid (Below W0.heap.size W0 (w.alloc (.cells (cellsG ⟨(K:Int),m,(Z:Int),s,t,o⟩) 24))):=by rw[hW0];exact Zf
 have hW1:Hid (w.heap.size<=W0.heap.size):=by rw[hW0];show _<=_;simp
 clear hW0
 go_loopw [5,6] (fun ov i wr=>∃r:Nat,r<=K/\i= .int .i64 (r:Int)/\(∃vals,Vs wr W0.heap.size 36 ov (mkL r (fun i=>(D.drop (i*Z)).take Z)) vals)/\Below W0.heap.size W0 wr) (fun _ i _=>K-(intOf i).toNat)
 case atStart=>exact⟨0,Zz,rfl,⟨[],Vs.nil _ _ _⟩,START.out⟩
 case round=>
  clear START;obtain⟨r,hr,rfl,⟨vals,hV⟩,hB⟩:=hrel;obtain⟨⟨x0,x1,x2,x3,x4,x5⟩,F0⟩:=LB _ hB;simp only at x0 x1 x2 x3 x4 x5
  by_cases hlt:r<K
  ·have hlt':(r:Int)<(K:Int):=by omega
   obtain⟨lo,hlo⟩:∃lo,Hid (lo=r*Z):=⟨_,rfl⟩;have hle:lo+Z<=N:=by
    rw[hlo.out,hNk.out]
    have:(r+1)*Z<=K*Z:=Nat.mul_le_mul_right _ hlt
    rw[Nat.add_mul]at this;omega
   have hbig:K*Z<=32*4096:=Nat.mul_le_mul hK32 z7;have hNb:N<=131072:=by rw[hNk.out];exact hbig
   clear hbig;obtain⟨hh,hhi⟩:∃hh,Hid (hh=lo+Z):=⟨_,rfl⟩;have gl:IntKind.i64.wrap ((r:Int)*(Z:Int))=(lo:Int):=by
    rw[show(r:Int)*(Z:Int)=(lo:Int) by rw[hlo.out];simp,IntKind.wrap_i64];omega
   have gr:IntKind.i64.wrap ((r:Int)+1)=((r+1:Nat):Int):=Zw
   have gh:IntKind.i64.wrap (((r+1:Nat):Int)*(Z:Int))=(hh:Int):=by
    have:((r+1:Nat):Int)*(Z:Int)=(hh:Int):=by rw[hhi.out,hlo.out,<-Int.natCast_mul,Nat.add_mul,Nat.one_mul]
    rw[this,IntKind.wrap_i64,hhi.out];omega
   have gh2:IntKind.i64.wrap (((r:Int)+1)*(Z:Int))=(hh:Int):=gh;have q1:(lo:Int)<=(hh:Int):=by rw[hhi.out];omega
   have q2:(hh:Int)<=(dc:Int):=by rw[hhi.out];omega
   have q3:lo<dc:=Zo
   have q4:¬dc=lo:=Zo
   have q5:hh-lo=Z:=by rw[hhi.out];omega
   have q6:hh<=dc:=by rw[hhi.out];omega
   have q7:lo<=hh:=by rw[hhi.out];omega
   have RX:Hid (Rd w (.slice (some ⟨db,doff+lo,none⟩) Z (dc-lo)) ((D.drop lo).take Z)):=HP.out.cutS (by rw[<-hN.out];exact hle) hpl.out rfl;obtain⟨ra,rc,rfl⟩:=hV.form;have hsz:=hB.size;have hml:Hid ((mkL r (fun i=>(D.drop (i*Z)).take Z)).length<=100000):=by show _<=_;rw[mkL_length];omega
   have V4:=hV.below (belL wr (.cells #[.slice (some ⟨db,doff+lo,none⟩) Z (dc-lo)] 36));have B4:Below W0.heap.size W0 (wr.alloc (.cells #[.slice (some ⟨db,doff+lo,none⟩) Z (dc-lo)] 36)):=hB.stepL (belL _ _) hsz;have RX4:Hid (Rd (wr.alloc (.cells #[.slice (some ⟨db,doff+lo,none⟩) Z (dc-lo)] 36)) (.slice (some ⟨db,doff+lo,none⟩) Z (dc-lo)) ((D.drop lo).take Z)):=RX.out.below (F0.stepL (belL _ _) F0.size);have FAR:Hid (∀g,(Value.slice ra (mkL r (fun i=>(D.drop (i*Z)).take Z)).length rc).ownBlock=some g->Apart g (.slice (some ⟨db,doff+lo,none⟩) Z (dc-lo))):=fun g hg=>RX.out.apart (Nat.le_trans hW1.out (Zv hV.row g hg).1)
   clear hV hB F0
   go_wp2_with (at_builtin;go_loud (refine wpList_append_v _ rfl (.tmp 13) (.tmp 25) 106 rfl W0.heap.size 36 i0 (.slice none 0 0) 24 Tryz.underlying106 hi hz0 hz1 hz2 rfl Zd (.slice ra (mkL r (fun i=>(D.drop (i*Z)).take Z)).length rc) (mkL r (fun i=>(D.drop (i*Z)).take Z)).length vals rfl V4.row wr.heap.size 1 (.slice (some ⟨db,doff+lo,none⟩) Z (dc-lo)) rfl (World.cell?_alloc_new _ _ _ 0) rfl hml.out B4.size ?_);intro v5 w5 h5 g5 e5)
   have V5:Hid (Vs w5 W0.heap.size 36 v5 (mkL (r+1) (fun i=>(D.drop (i*Z)).take Z)) (vals++[.slice (some ⟨db,doff+lo,none⟩) Z (dc-lo)])):=by
    have:=V4.push RX4.out FAR.out h5 g5 e5;rw[hlo.out]at this
    show Vs _ _ _ _ _ _
    rw[mkL_succ,hlo.out];exact this
   have B5:Hid (Below W0.heap.size W0 w5):=B4.grown g5 B4.size (fun q hq=>(Zv V4.row q hq).1);clear V4 B4 h5 g5 e5 RX4 RX FAR hml x0 x1 x2 x3 x4 x5;go_wp2;go_roundw
   case rel=>exact⟨r+1,Zo,Zg,⟨_,V5.out⟩,B5.out⟩
   case measure=>simp[intOf];omega
  ·obtain rfl:r=K:=by omega
   have hlt':¬(r:Int)<(r:Int):=Zo
   have RR:Hid (Rs wr u5 (mkL r (fun i=>(D.drop (i*Z)).take Z))):=hV.rs;clear hV hB;go_wp2;go_ret;exact⟨_,rfl,RR.out,F0⟩
end Go.Proofs.YtddnfhfangfgeaaGreat.Gf
