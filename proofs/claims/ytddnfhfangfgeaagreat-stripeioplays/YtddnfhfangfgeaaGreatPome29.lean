/- JOINED: StCT, StCR, StCP, StCQ, StCc. -/
import Derived.Test.YtddnfhfangfgeaaGreatPome28
import Derived.Test.YtddnfhfangfgeaaGreatPome15
set_option maxHeartbeats 8000000
set_option maxRecDepth 100000
namespace Go.Proofs.YtddnfhfangfgeaaGreat.Gf
set_option linter.unusedVariables false
set_option linter.unusedSimpArgs false
open Go.RowKit
theorem two_laid(w:World)(pa pf:Option Addr)(g:GeoS)(st ep:Int)(e1 e2:Nat):∀W,Below ((w.alloc (.cells (cellsG g) e1)).alloc (.cells (cellsP pa pf g st ep) e2)).heap.size ((w.alloc (.cells (cellsG g) e1)).alloc (.cells (cellsP pa pf g st ep) e2)) W->SpotAt W (w.heap.size+1) pa pf g st ep/\GeoAt W w.heap.size g/\Below w.heap.size w W:=fun W hW=>by
 have s1:=(spot_laid (w.alloc (.cells (cellsG g) e1)) pa pf g st ep e2 W hW).1;rw[World.size_alloc]at s1;have g0:=(geo_laid w g e1 _ Zf).1;have g1:=g0.below (w':=W) Zs ((belL (w.alloc (.cells (cellsG g) e1)) (.cells (cellsP pa pf g st ep) e2)).trans (hW.mono Zs));exact⟨s1,g1,(belL w _).trans (((belL (w.alloc (.cells (cellsG g) e1)) (.cells (cellsP pa pf g st ep) e2)).mono Zs).trans (hW.mono Zm))⟩
theorem rfX_geo{g:GeoS}{bs:List Bool}(h:¬okG g):rfX g bs=50:=if_neg h
theorem rfX_bad{g:GeoS}{bs:List Bool}(h:okG g)(hb:false∈bs):rfX g bs=1:=by unfold rfX;rw[if_pos h,if_pos hb]
theorem rfX_ok{g:GeoS}{bs:List Bool}(h:okG g)(hb:¬false∈bs):rfX g bs=0:=by unfold rfX;rw[if_pos h,if_neg hb]
theorem lenT_wrap{k m z s t o:Int}(h:okG ⟨k,m,z,s,t,o⟩):IntKind.i64.wrap (k*z)=k*z:=by
 obtain⟨h1,h2,h3,h4,h5,_⟩:=h;simp only at h1 h2 h3 h4 h5;have a1:0<=k*z:=Int.mul_nonneg Zo Zo;have a2:k*z<=32*4096:=Int.mul_le_mul Zo Zo Zo Zo;rw[IntKind.wrap_i64];omega
theorem rf_two{g:GeoS}{st ep:Int}:rfX g [decide (0<=st/\st<g.s),decide (0<=ep/\ep<=2147483647)]=ckT g st ep:=by
 by_cases h:okG g
 ·by_cases hT:OkT g st ep
  ·rw[ckT_ok hT,rfX_ok h];rw[Zy ⟨hT.2.1,hT.2.2.1⟩,Zy ⟨hT.2.2.2.1,hT.2.2.2.2⟩];simp
  ·rw[ckT_arg h hT,rfX_bad h]
   by_cases h1:0<=st/\st<g.s
   ·rw[Zx (p:=0<=ep/\ep<=2147483647) (fun q=>hT ⟨h,h1.1,h1.2,q.1,q.2⟩)];simp
   ·rw[Zx h1];simp
 ·rw[ckT_geo h,rfX_geo h]
theorem swrite_any{w:World}{ab fb:Nat}{GA:Nat->Prop}{a:ArS}(h:ArAt w ab GA a)(hF:FieldAt w fb){g:GeoS}(hg:g.Wf){st ep:Int}(hst:(Lit.int .i64 st).wf=true){v:Value}{D:List UInt8}(hp:Rd w v D)(hz:okG g->g.z<=300):
  Calls Tryz.prog 18 #[.pointer (some ⟨ab,0,none⟩),.pointer (some ⟨fb,0,none⟩),aggG g,.int .i64 st,.int .i64 ep,v] w (LeavesA w ab GA (swS a g st ep D) (.int .i64 (swX a g st ep D))):=by
 obtain⟨b1,hb1⟩:∃b,Hid (decide (0<=st/\st<g.s)=b):=⟨_,rfl⟩;obtain⟨b2,hb2⟩:∃b,Hid (decide (0<=ep/\ep<=2147483647)=b):=⟨_,rfl⟩;have KS:=fun W=>@piss_any W (some ⟨ab,0,none⟩) (some ⟨fb,0,none⟩) g st ep b1 hb1.out
 have KE:=fun W=>@pise_any W (some ⟨ab,0,none⟩) (some ⟨fb,0,none⟩) g st ep b2 hb2.out
 have KF:=fun W (vv:Value) (bs:List Bool) (hr:RdB W vv bs) (hl:bs.length<=1000)=>@pref_any W g st ep ab fb hg vv bs hr hl _ rfl
 obtain⟨c,hc⟩:∃c,IntKind.i64.wrap (g.k*g.z)=c:=⟨_,rfl⟩;obtain⟨b3,hb3⟩:∃b,((D.length:Int)==c)=b:=⟨_,rfl⟩;obtain⟨x,hx⟩:∃x,Hid (rfX g [b1,b2,b3]=x):=⟨_,rfl⟩;obtain⟨k,m,z,s,t,o⟩:=g;simp only at hc;have LB:=two_laid w (some ⟨ab,0,none⟩) (some ⟨fb,0,none⟩) ⟨k,m,z,s,t,o⟩ st ep 24 103;rw[aggE];unfold aggP at KS KE KF;simp only[cellsP,cellsG]at KS KE KF LB;obtain⟨va,vc,rfl⟩:=hp.form;obtain⟨dn,hdn⟩:∃dn,Hid (dn=D.length):=⟨_,rfl⟩;rw[<-hdn.out]at hb3 ⊢;have LG:=geo_laid w ⟨k,m,z,s,t,o⟩ 24;obtain⟨⟨y0,y1,y2,y3,y4,y5⟩,_⟩:=LG _ Zf;simp only[cellsG]at y0 y1 y2 y3 y4 y5;obtain⟨W1,hW1⟩:∃W1,W1=((w.alloc (.cells #[.int .i64 k,.int .i64 m,.int .i64 z,.int .i64 s,.int .i64 t,.int .i64 o] 24)).alloc (.cells #[.pointer (some ⟨ab,0,none⟩),.pointer (some ⟨fb,0,none⟩),.int .i64 k,.int .i64 m,.int .i64 z,.int .i64 s,.int .i64 t,.int .i64 o,.int .i64 st,.int .i64 ep] 103)):=⟨_,rfl⟩;rw[<-hW1]at LB;have SE:Hid (∀W,Below W1.heap.size W1 W->(W.cell? ⟨w.heap.size+1,0,none⟩=some (.pointer (some ⟨ab,0,none⟩))/\W.cell? ⟨w.heap.size+1,1,none⟩=some (.pointer (some ⟨fb,0,none⟩))/\W.cell? ⟨w.heap.size+1,2,none⟩=some (.int .i64 k)/\W.cell? ⟨w.heap.size+1,3,none⟩=some (.int .i64 m)/\W.cell? ⟨w.heap.size+1,4,none⟩=some (.int .i64 z)/\W.cell? ⟨w.heap.size+1,5,none⟩=some (.int .i64 s)/\W.cell? ⟨w.heap.size+1,6,none⟩=some (.int .i64 t)/\W.cell? ⟨w.heap.size+1,7,none⟩=some (.int .i64 o)/\W.cell? ⟨w.heap.size+1,8,none⟩=some (.int .i64 st)/\W.cell? ⟨w.heap.size+1,9,none⟩=some (.int .i64 ep))/\(W.cell? ⟨w.heap.size,0,none⟩=some (.int .i64 k)/\W.cell? ⟨w.heap.size,1,none⟩=some (.int .i64 m)/\W.cell? ⟨w.heap.size,2,none⟩=some (.int .i64 z)/\W.cell? ⟨w.heap.size,3,none⟩=some (.int .i64 s)/\W.cell? ⟨w.heap.size,4,none⟩=some (.int .i64 t)/\W.cell? ⟨w.heap.size,5,none⟩=some (.int .i64 o))):=fun W b=>⟨(LB W b).1.all,(LB W b).2.1⟩
 have FE:Hid (∀W,Below W1.heap.size W1 W->Below w.heap.size w W):=fun W b=>(LB W b).2.2
 have LBS:Hid (∀W,Below W1.heap.size W1 W->SpotAt W (w.heap.size+1) (some ⟨ab,0,none⟩) (some ⟨fb,0,none⟩) ⟨k,m,z,s,t,o⟩ st ep):=fun W b=>(LB W b).1
 clear LB LG;have KF1:∀W vv,RdB W vv [b1,b2,b3]->Calls Tryz.prog 49 #[.agg #[.pointer (some ⟨ab,0,none⟩),.pointer (some ⟨fb,0,none⟩),.int .i64 k,.int .i64 m,.int .i64 z,.int .i64 s,.int .i64 t,.int .i64 o,.int .i64 st,.int .i64 ep],vv] W fun e w'=>e= .returned (.int .i64 x)/\Below W.heap.size W w':=fun W vv hr=>by
  have:=KF W vv _ hr Zs;rw[hx.out]at this;exact this
 have HP:Hid (Rd w (.slice va dn vc) D):=by show Rd _ _ _;rw[hdn.out];exact hp
 clear hp KF
 by_cases hx0:x=0
 rotate_left
 ·have E9:Hid (swX a ⟨k,m,z,s,t,o⟩ st ep D=x/\swS a ⟨k,m,z,s,t,o⟩ st ep D=a):=by
   have hn:¬(OkT ⟨k,m,z,s,t,o⟩ st ep/\LenT ⟨k,m,z,s,t,o⟩ D):=fun q=>hx0 (by
    rw[<-hx.out];refine rfX_ok q.1.1 ?_
    have e1:b1=true:=by rw[<-hb1.out];exact Zy ⟨q.1.2.1,q.1.2.2.1⟩
    have e2:b2=true:=by rw[<-hb2.out];exact Zy ⟨q.1.2.2.2.1,q.1.2.2.2.2⟩
    have e3:b3=true:=by
     rw[<-hb3,hdn.out,<-hc,lenT_wrap q.1.1];have:=q.2;unfold LenT at this;simp only at this;rw[this];simp
    rw[e1,e2,e3];simp)
   refine⟨?_,if_neg hn⟩;unfold swX
   by_cases hT:OkT ⟨k,m,z,s,t,o⟩ st ep
   ·rw[if_pos hT,if_neg (fun q=>hn ⟨hT,q⟩),<-hx.out,rfX_bad hT.1];have e3:b3=false:=by
     rw[<-hb3,hdn.out,<-hc,lenT_wrap hT.1];refine Zq.2 fun q=>hn ⟨hT,?_⟩
     unfold LenT;exact q
    rw[e3];simp
   ·rw[if_neg hT,<-hx.out]
    by_cases ok:okG ⟨k,m,z,s,t,o⟩
    ·rw[ckT_arg ok hT,rfX_bad ok]
     by_cases h1:0<=st/\st<s
     ·have e2:b2=false:=by rw[<-hb2.out];exact Zx (fun q=>hT ⟨ok,h1.1,h1.2,q.1,q.2⟩)
      rw[e2];simp
     ·have e1:b1=false:=by rw[<-hb1.out];exact Zx h1
      rw[e1];simp
    ·rw[ckT_geo ok,rfX_geo ok]
  go_enter Tryz.func18,Tryz.ntmps18
  go_upto_region 2 with fail
  rw[<-hW1];clear hW1 y0 y1 y2 y3 y4 y5;have s0:=(SE.out W1 Zf);have BD:Below W1.heap.size W1 W1.drew:=Zf.drew;have sD:=(SE.out _ BD)
  go_region_held3 (fun wx=>(wx.cell? ⟨w.heap.size+1,0,none⟩=some (.pointer (some ⟨ab,0,none⟩))/\wx.cell? ⟨w.heap.size+1,1,none⟩=some (.pointer (some ⟨fb,0,none⟩))/\wx.cell? ⟨w.heap.size+1,2,none⟩=some (.int .i64 k)/\wx.cell? ⟨w.heap.size+1,3,none⟩=some (.int .i64 m)/\wx.cell? ⟨w.heap.size+1,4,none⟩=some (.int .i64 z)/\wx.cell? ⟨w.heap.size+1,5,none⟩=some (.int .i64 s)/\wx.cell? ⟨w.heap.size+1,6,none⟩=some (.int .i64 t)/\wx.cell? ⟨w.heap.size+1,7,none⟩=some (.int .i64 o)/\wx.cell? ⟨w.heap.size+1,8,none⟩=some (.int .i64 st)/\wx.cell? ⟨w.heap.size+1,9,none⟩=some (.int .i64 ep))/\(wx.cell? ⟨w.heap.size,0,none⟩=some (.int .i64 k)/\wx.cell? ⟨w.heap.size,1,none⟩=some (.int .i64 m)/\wx.cell? ⟨w.heap.size,2,none⟩=some (.int .i64 z)/\wx.cell? ⟨w.heap.size,3,none⟩=some (.int .i64 s)/\wx.cell? ⟨w.heap.size,4,none⟩=some (.int .i64 t)/\wx.cell? ⟨w.heap.size,5,none⟩=some (.int .i64 o))) (first|exact s0|exact sD|exact s1|exact s2|exact s3 _ _|exact s4) (first
   |(go_at_call 50;go_loud (refine(KS _).mono ?_);rintro _ v1 ⟨rfl,c1⟩;have B1:Below W1.heap.size W1 v1:=BD.stepL c1 BD.size;have s1:=(SE.out _ B1))
   |(go_at_call 51;go_loud (refine(KE _).mono ?_);rintro _ v2 ⟨rfl,c2⟩;have B2:Below W1.heap.size W1 v2:=B1.stepL c2 B1.size;have s2:=(SE.out _ B2);have s3:=fun q e=>(SE.out (v2.alloc (.cells q e)) (B2.stepL (belL _ _) B2.size));have B3:=fun q e=>B2.stepL (belL v2 (.cells q e)) B2.size)
   |(go_at_call 49;go_loud (refine(KF1 _ _ (rdB_lit [b1,b2,b3] rfl rfl rfl Zs)).mono ?_);rintro _ v4 ⟨rfl,c4⟩;have B4:Below W1.heap.size W1 v4:=(B3 _ _).stepL c4 (B3 _ _).size;have s4:=(SE.out _ B4)))
  have FB:Hid (Below w.heap.size w v4):=FE.out _ B4;clear s0 sD s1 s2 s3 s4 c1 c2 c4 B1 B2 B3 B4 BD KS KE KF1;go_wp2;go_ret;exact⟨by rw[E9.out.1];rfl,GA,by rw[E9.out.2];exact h.below FB.out,Grew.of_below FB.out⟩
 have hT:OkT ⟨k,m,z,s,t,o⟩ st ep/\LenT ⟨k,m,z,s,t,o⟩ D:=by
  have h0:=hx.out;rw[hx0]at h0;have ok:okG ⟨k,m,z,s,t,o⟩:=Classical.byContradiction fun q=>by rw[rfX_geo q]at h0;cases h0
  have nb:¬false∈[b1,b2,b3]:=fun q=>by rw[rfX_bad ok q]at h0;cases h0
  have e1:b1=true:=by cases b1 with
   |true=>rfl
   |false=>exact absurd Zs nb
  have e2:b2=true:=by cases b2 with
   |true=>rfl
   |false=>exact absurd Zs nb
  have e3:b3=true:=by cases b3 with
   |true=>rfl
   |false=>exact absurd Zs nb
  have q1:=of_decide_eq_true (hb1.out.trans e1);have q2:=of_decide_eq_true (hb2.out.trans e2);refine⟨⟨ok,q1.1,q1.2,q2.1,q2.2⟩,?_⟩;rw[e3,hdn.out,<-hc,lenT_wrap ok]at hb3;exact eq_of_beq hb3
 subst hx0;obtain⟨hT,hD⟩:=hT;have zz:=okG_nat hT.1;obtain⟨n,hn⟩:∃n,Hid (n=nT ⟨k,m,z,s,t,o⟩):=⟨_,rfl⟩;have n1:1<=n/\n<=32:=by rw[hn.out];exact⟨nT_pos hT.1,zz.2.2.2.2.1⟩
 have KN:=fun W=>@pcount_any W (some ⟨ab,0,none⟩) (some ⟨fb,0,none⟩) ⟨k,m,z,s,t,o⟩ st ep (n:Int) (by rw[<-zz.2.2.2.2.2.2.2,<-hn.out,IntKind.wrap_i64];omega)
 have KU:=fun W=>@pupto_any W n Zo
 have KH:=fun W (hf:FieldAt W fb) (hr:Rd W (.slice va dn vc) D)=>@pshof_any W (some ⟨ab,0,none⟩) fb hf ⟨k,m,z,s,t,o⟩ hT.1 (hz hT.1) st ep _ D hr hD
 obtain⟨SH,hSH⟩:∃SH,Hid (SH=shT ⟨k,m,z,s,t,o⟩ D):=⟨_,rfl⟩;rw[<-hSH.out]at KH;have KW:=fun W (hA:ArAt W ab GA a) (vs vi:Value) (hl:ToldL W GA vs SH) (hi:ToldI W GA vi (List.range n))=>@pwrite_any W ab GA a hA (some ⟨fb,0,none⟩) ⟨k,m,z,s,t,o⟩ hg st ep hst hT vs vi SH (List.range n) hl hi (fun i q=>by
   have:=List.mem_range.1 q;rw[hSH.out,shT_length,<-hn.out];exact⟨this,this⟩) (fun i q=>by
   rw[hSH.out,shT_length]at q;rw[hSH.out,shT_row hD hT.1 q];omega) (by rw[List.length_range];omega)
 rw[List.length_range]at KW;have E9:Hid (swX a ⟨k,m,z,s,t,o⟩ st ep D=wxT a ⟨k,m,z,s,t,o⟩ st ep SH (List.range n)/\swS a ⟨k,m,z,s,t,o⟩ st ep D=psT a ⟨k,m,z,s,t,o⟩ st ep SH (List.range n) n):=by
  refine⟨?_,?_⟩
  ·unfold swX wxT;rw[if_pos hT,if_pos hD,hSH.out,hn.out]
  ·unfold swS;rw[if_pos ⟨hT,hD⟩,hSH.out,hn.out]
 obtain⟨wx_,hwx⟩:∃y,Hid (y=wxT a ⟨k,m,z,s,t,o⟩ st ep SH (List.range n)):=⟨_,rfl⟩;obtain⟨wn_,hwn⟩:∃y,Hid (y=wnT a ⟨k,m,z,s,t,o⟩ st ep SH (List.range n)):=⟨_,rfl⟩;obtain⟨ps_,hps⟩:∃y,Hid (y=psT a ⟨k,m,z,s,t,o⟩ st ep SH (List.range n) n):=⟨_,rfl⟩;rw[<-hwx.out,<-hwn.out,<-hps.out]at KW;rw[<-hwx.out,<-hps.out]at E9;have HSL:Hid (SH.length=n):=by show _=_;rw[hSH.out,shT_length,hn.out]
 rw[E9.out.1,E9.out.2];clear zz E9 hwx hwn hps hSH hD hT;unfold aggP at KN KH KW;simp only[cellsP]at KN KH KW;have HA:Hid (ArAt w ab GA a):=h;have HFd:Hid (FieldAt w fb):=hF;have ST:Hid (∀W G5 W5,Below W1.heap.size W1 W->Grew GA W G5 W5->W5.cell? ⟨w.heap.size+1,0,none⟩=some (.pointer (some ⟨ab,0,none⟩))/\W5.cell? ⟨w.heap.size+1,1,none⟩=some (.pointer (some ⟨fb,0,none⟩))/\W5.cell? ⟨w.heap.size+1,2,none⟩=some (.int .i64 k)/\W5.cell? ⟨w.heap.size+1,3,none⟩=some (.int .i64 m)/\W5.cell? ⟨w.heap.size+1,4,none⟩=some (.int .i64 z)/\W5.cell? ⟨w.heap.size+1,5,none⟩=some (.int .i64 s)/\W5.cell? ⟨w.heap.size+1,6,none⟩=some (.int .i64 t)/\W5.cell? ⟨w.heap.size+1,7,none⟩=some (.int .i64 o)/\W5.cell? ⟨w.heap.size+1,8,none⟩=some (.int .i64 st)/\W5.cell? ⟨w.heap.size+1,9,none⟩=some (.int .i64 ep)):=fun W G5 W5 b gg=>((LBS.out W b).turn (fun q=>by have:=h.lt _ q;omega) gg.turn).all
 clear h hF
 go_enter Tryz.func18,Tryz.ntmps18
 go_upto_region 2 with fail
 rw[<-hW1];clear hW1 y0 y1 y2 y3 y4 y5;have s0:=(SE.out W1 Zf);have BD:Below W1.heap.size W1 W1.drew:=Zf.drew;have sD:=(SE.out _ BD)
 go_region_held3 (fun wx=>(wx.cell? ⟨w.heap.size+1,0,none⟩=some (.pointer (some ⟨ab,0,none⟩))/\wx.cell? ⟨w.heap.size+1,1,none⟩=some (.pointer (some ⟨fb,0,none⟩))/\wx.cell? ⟨w.heap.size+1,2,none⟩=some (.int .i64 k)/\wx.cell? ⟨w.heap.size+1,3,none⟩=some (.int .i64 m)/\wx.cell? ⟨w.heap.size+1,4,none⟩=some (.int .i64 z)/\wx.cell? ⟨w.heap.size+1,5,none⟩=some (.int .i64 s)/\wx.cell? ⟨w.heap.size+1,6,none⟩=some (.int .i64 t)/\wx.cell? ⟨w.heap.size+1,7,none⟩=some (.int .i64 o)/\wx.cell? ⟨w.heap.size+1,8,none⟩=some (.int .i64 st)/\wx.cell? ⟨w.heap.size+1,9,none⟩=some (.int .i64 ep))/\(wx.cell? ⟨w.heap.size,0,none⟩=some (.int .i64 k)/\wx.cell? ⟨w.heap.size,1,none⟩=some (.int .i64 m)/\wx.cell? ⟨w.heap.size,2,none⟩=some (.int .i64 z)/\wx.cell? ⟨w.heap.size,3,none⟩=some (.int .i64 s)/\wx.cell? ⟨w.heap.size,4,none⟩=some (.int .i64 t)/\wx.cell? ⟨w.heap.size,5,none⟩=some (.int .i64 o))) (first|exact s0|exact sD|exact s1|exact s2|exact s3 _ _|exact s4) (first
  |(go_at_call 50;go_loud (refine(KS _).mono ?_);rintro _ v1 ⟨rfl,c1⟩;have B1:Below W1.heap.size W1 v1:=BD.stepL c1 BD.size;have s1:=(SE.out _ B1))
  |(go_at_call 51;go_loud (refine(KE _).mono ?_);rintro _ v2 ⟨rfl,c2⟩;have B2:Below W1.heap.size W1 v2:=B1.stepL c2 B1.size;have s2:=(SE.out _ B2);have s3:=fun q e=>(SE.out (v2.alloc (.cells q e)) (B2.stepL (belL _ _) B2.size));have B3:=fun q e=>B2.stepL (belL v2 (.cells q e)) B2.size)
  |(go_at_call 49;go_loud (refine(KF1 _ _ (rdB_lit [b1,b2,b3] rfl rfl rfl Zs)).mono ?_);rintro _ v4 ⟨rfl,c4⟩;have B4:Below W1.heap.size W1 v4:=(B3 _ _).stepL c4 (B3 _ _).size;have s4:=(SE.out _ B4)))
 have SE4:Hid (∀W,Below W1.heap.size W1 W->W.cell? ⟨w.heap.size+1,0,none⟩=some (.pointer (some ⟨ab,0,none⟩))/\W.cell? ⟨w.heap.size+1,1,none⟩=some (.pointer (some ⟨fb,0,none⟩))/\W.cell? ⟨w.heap.size+1,2,none⟩=some (.int .i64 k)/\W.cell? ⟨w.heap.size+1,3,none⟩=some (.int .i64 m)/\W.cell? ⟨w.heap.size+1,4,none⟩=some (.int .i64 z)/\W.cell? ⟨w.heap.size+1,5,none⟩=some (.int .i64 s)/\W.cell? ⟨w.heap.size+1,6,none⟩=some (.int .i64 t)/\W.cell? ⟨w.heap.size+1,7,none⟩=some (.int .i64 o)/\W.cell? ⟨w.heap.size+1,8,none⟩=some (.int .i64 st)/\W.cell? ⟨w.heap.size+1,9,none⟩=some (.int .i64 ep)):=fun W b=>(SE.out W b).1
 have E4:Hid (Below W1.heap.size W1 v4):=B4;clear s0 sD s1 s2 s3 s4 c1 c2 c4 B1 B2 B3 B4 BD KS KE KF1 SE
 go_wp2_with fail
 have t0:=SE4.out _ E4.out;have BD:Below W1.heap.size W1 v4.drew:=E4.out.drew;have tD:=SE4.out _ BD
 go_region_held3 (fun wx=>wx.cell? ⟨w.heap.size+1,0,none⟩=some (.pointer (some ⟨ab,0,none⟩))/\wx.cell? ⟨w.heap.size+1,1,none⟩=some (.pointer (some ⟨fb,0,none⟩))/\wx.cell? ⟨w.heap.size+1,2,none⟩=some (.int .i64 k)/\wx.cell? ⟨w.heap.size+1,3,none⟩=some (.int .i64 m)/\wx.cell? ⟨w.heap.size+1,4,none⟩=some (.int .i64 z)/\wx.cell? ⟨w.heap.size+1,5,none⟩=some (.int .i64 s)/\wx.cell? ⟨w.heap.size+1,6,none⟩=some (.int .i64 t)/\wx.cell? ⟨w.heap.size+1,7,none⟩=some (.int .i64 o)/\wx.cell? ⟨w.heap.size+1,8,none⟩=some (.int .i64 st)/\wx.cell? ⟨w.heap.size+1,9,none⟩=some (.int .i64 ep)) (first|exact t0|exact tD|exact t5|exact t6|exact t7|exact t8) (first
  |(go_at_call 53;go_loud (refine(KH _ (HFd.out.belowF (FE.out _ BD)) (HP.out.below (FE.out _ BD))).mono ?_);rintro _ v5 ⟨vs,rfl,R5,c5⟩;have B5:Below W1.heap.size W1 v5:=BD.stepL c5 BD.size;have t5:=SE4.out _ B5;obtain⟨sa,sc,rfl⟩:=R5.form)
  |(go_at_call 55;go_loud (refine(KN _).mono ?_);rintro _ v6 ⟨rfl,c6⟩;have B6:Below W1.heap.size W1 v6:=B5.stepL c6 B5.size;have t6:=SE4.out _ B6)
  |(go_at_call 54;go_loud (refine(KU _).mono ?_);rintro _ v7 ⟨gi,rfl,R7,l7,c7⟩;have B7:Below W1.heap.size W1 v7:=B6.stepL c7 B6.size;have t7:=SE4.out _ B7;go_loud (have TI:ToldI v7 GA (.slice (some ⟨gi,0,none⟩) n n) (List.range n):=ToldI.of_row R7 (by rw[List.length_range]) (fun i q=>by rw[List.length_range]at q;simp[List.getD,q]) (fun q=>by have:=HA.out.lt _ q;have:=(FE.out _ B6).size;omega));go_loud (have TL:ToldL v7 GA _ SH:=(ToldL.far R5 (fun q hq=>Zu (HA.out.lt q hq) (FE.out _ BD).size)).below (Zf.stepL (c6.stepL c7 c6.size) Zr)))
  |(go_at_call 52;go_loud (refine(KW _ (HA.out.below (FE.out _ B7)) _ _ TL TI).mono ?_);rintro _ v8 ⟨rfl,G8,A8,g8⟩;have t8:=ST.out _ _ _ B7 g8))
 have FIN:Hid (∃GA',ArAt v8 ab GA' ps_/\Grew GA w GA' v8):=⟨G8,A8,(Grew.of_below (FE.out _ B7)).trans g8⟩;clear t0 tD t5 t6 t7 t8 c5 c6 c7 B5 B6 B7 R5 R7 TI TL A8 g8 BD KH KN KU KW;go_wp2;go_ret;exact⟨rfl,FIN.out⟩
theorem info_bytesR:(Tryz.prog.info? 36).map (fun i=>(i.zero,i.size,i.bytes))=some (some (.slice none 0 0),1,24):=Zk
theorem info_boolR:(Tryz.prog.info? 4).map (fun i=>(i.zero,i.size,i.bytes))=some (some (.bool false),1,1):=Zk
def MakesOff15(w:World)(e:Ending)(w':World):Prop:=∃va vb,e= .returned (.tuple #[va,vb,.int .i64 130])/\Below w.heap.size w w'
def MakesOn15(w:World)(n:Nat)(L:Nat->List UInt8)(H:Nat->Bool)(e:Ending)(w':World):Prop:=∃gs gh V,e= .returned (.tuple #[.slice (some ⟨gs,0,none⟩) n n,.slice (some ⟨gh,0,none⟩) n n,.int .i64 0])/\TwoL w' gs gh n V L H/\w.heap.size<=gs/\w.heap.size<=gh/\Below w.heap.size w w'
def MakesT15(w:World)(off:Bool)(n:Nat)(L:Nat->List UInt8)(H:Nat->Bool)(e:Ending)(w':World):Prop:=(off=true->MakesOff15 w e w')/\(off=false->MakesOn15 w n L H e w')
structure MadeT(W0:World)(n:Nat)(s5 s6:Value)(wx:World):Prop where
 at_:∃gs gh,s5= .slice (some ⟨gs,0,none⟩) n n/\s6= .slice (some ⟨gh,0,none⟩) n n/\wx.rowIs gs 36 n (fun _=>.slice none 0 0)/\wx.rowIs gh 4 n (fun _=>.bool false)/\gs≠gh/\W0.heap.size<=gs/\W0.heap.size<=gh
 bel:Below W0.heap.size W0 wx
theorem z29_1{p:Prop} (h:p:=by
 rw[<-hgh.out]at q5 r5 l5;rw[<-hgh.out]at ne;have r2:=r2.of_block (d5.block gs r2.lt);clear hu5;go_simp;refine koH hK (SE.out _ B5) fun hHeld=>?_
 clear hK K;clear KN MKS MKB;refine tkH 7 ?_
 refine wpAnyH_done Zk ?_ _
 try simp only[Act.put,List.getElem_toArray,List.getElem_cons_succ,List.getElem_cons_zero,List.setIfInBounds_toArray,List.set_cons_zero,List.set_cons_succ]
 clear hHeld c0;go_wp2
 go_meet
 case rel=>exact⟨⟨gs,gh,rfl,rfl,r2,r5,ne.out,l2.out,l5.out⟩,B5⟩
 ):p:=h
theorem z29_2{p:Prop} (h:p:=by
 by_cases e2:i<r
 ·rw[if_pos e2,if_pos Zo]
 ·rw[if_neg e2,if_neg Zo]
 ):p:=h
theorem pread_any{w:World}{ab:Nat}{GA:Nat->Prop}{a:ArS}(h:ArAt w ab GA a){pf:Option Addr}{g:GeoS}(hg:g.Wf){st ep:Int}(hst:(Lit.int .i64 st).wf=true)(hT:OkT g st ep):
  Calls Tryz.prog 93 #[aggP (some ⟨ab,0,none⟩) pf g st ep] w (MakesT15 w a.off (nT g) (shdF a g st ep) (hsF a g st ep)):=by
 have zz:=okG_nat hT.1;have sin:=stG_in hT.1 hT.2.1 hT.2.2.1;obtain⟨at_,t0⟩:∃x,Hid (x=stG g st):=⟨_,rfl⟩;rw[<-t0.out]at sin;obtain⟨n,hn⟩:∃n,Hid (n=nT g):=⟨_,rfl⟩;obtain⟨FH,hFH⟩:∃F,Hid (F=hsF a g st ep):=⟨_,rfl⟩;obtain⟨FL,hFL⟩:∃F,Hid (F=shdF a g st ep):=⟨_,rfl⟩;rw[<-hn.out,<-hFH.out,<-hFL.out];have n1:1<=n/\n<=32:=by rw[hn.out];exact⟨nT_pos hT.1,zz.2.2.2.2.1⟩
 have KN:=fun W=>@pcount_any W (some ⟨ab,0,none⟩) pf g st ep (n:Int) (by rw[<-zz.2.2.2.2.2.2.2,<-hn.out,IntKind.wrap_i64];omega)
 have KP:=fun W=>@pplace_any W (some ⟨ab,0,none⟩) pf g st ep hg hst _ t0.out.symm
 have KD:=fun W (i:Nat) (hi:i<n)=>@pdisk_any W (some ⟨ab,0,none⟩) pf g st ep hg hst (i:Int) (wf_small Zo Zo) _ rfl
 have KU:=fun W (v:Value) (p:List UInt8) (hr:Rd W v p) (hl:p.length<=100000)=>@punpack_any W (some ⟨ab,0,none⟩) pf g st ep hg hst v p hr hl _ _ rfl rfl
 rw[<-t0.out]at KU;have DI:Hid (∀i:Nat,i<n->0<=diG g st (i:Int)/\diG g st (i:Int)<=100000):=fun i hi=>by
  rw[hn.out]at hi;have:=diG_in hT.1 hT.2.1 hT.2.2.1 hi;have:=zz.2.2.2.2.1;omega
 have okA:=h.ok;have HFv:Hid (∀i:Nat,decide (upX at_ (rdAB a (diG g st (i:Int)) at_)=0/\((upN at_ (rdAB a (diG g st (i:Int)) at_):Nat):Int)=ep/\(((upD at_ (rdAB a (diG g st (i:Int)) at_)).length:Nat):Int)=g.z)=FH i):=fun i=>by rw[hFH.out,t0.out];rfl
 have HLv:Hid (∀i:Nat,(if FH i=true then upD at_ (rdAB a (diG g st (i:Int)) at_)else [])=FL i):=fun i=>by rw[hFH.out,hFL.out,t0.out];rfl
 have HNo:Hid (∀i:Nat,¬rdAX a (diG g st (i:Int)) at_=0->FH i=false/\FL i=[]):=fun i hx=>by
  have e:=rdAB_no hx;have q:FH i=false:=by
   rw[<-HFv.out i,e];refine Zx fun q=>?_
   have:=q.1;rw[up_nil]at this;cases this
  refine⟨q,?_⟩;rw[<-HLv.out i,q];rfl
 have wat:(Lit.int .i64 at_).wf=true:=wf_small Zo Zo;have HA:Hid (ArAt w ab GA a):=h;clear sin t0 hFH hFL hn hT zz h;obtain⟨k,m,z,s,t,o⟩:=g;have LB:=spot_laid w (some ⟨ab,0,none⟩) pf ⟨k,m,z,s,t,o⟩ st ep 103;unfold aggP at KN KP KD KU ⊢;simp only[cellsP]at KN KP KD KU LB ⊢;obtain⟨W0,hW0⟩:∃W0,W0=w.alloc (.cells #[.pointer (some ⟨ab,0,none⟩),.pointer pf,.int .i64 k,.int .i64 m,.int .i64 z,.int .i64 s,.int .i64 t,.int .i64 o,.int .i64 st,.int .i64 ep] 103):=⟨_,rfl⟩;rw[<-hW0]at LB;have gb:w.heap.size<W0.heap.size:=by rw[hW0];simp
 have SE:Hid (∀W,Below W0.heap.size W0 W->W.cell? ⟨w.heap.size,0,none⟩=some (.pointer (some ⟨ab,0,none⟩))/\W.cell? ⟨w.heap.size,1,none⟩=some (.pointer pf)/\W.cell? ⟨w.heap.size,2,none⟩=some (.int .i64 k)/\W.cell? ⟨w.heap.size,3,none⟩=some (.int .i64 m)/\W.cell? ⟨w.heap.size,4,none⟩=some (.int .i64 z)/\W.cell? ⟨w.heap.size,5,none⟩=some (.int .i64 s)/\W.cell? ⟨w.heap.size,6,none⟩=some (.int .i64 t)/\W.cell? ⟨w.heap.size,7,none⟩=some (.int .i64 o)/\W.cell? ⟨w.heap.size,8,none⟩=some (.int .i64 st)/\W.cell? ⟨w.heap.size,9,none⟩=some (.int .i64 ep)):=fun W b=>(LB W b).1.all
 have FE:Hid (∀W,Below W0.heap.size W0 W->Below w.heap.size w W):=fun W b=>(LB W b).2
 clear LB;have MKS:Hid _:=run_make_row' (P:=Tryz.prog) 106 36 (.slice none 0 0) 24 Tryz.underlying106 info_bytesR rfl .i64 .i64 n Zo Zo;have MKB:Hid _:=run_make_row' (P:=Tryz.prog) 96 4 (.bool false) 1 Tryz.underlying96 info_boolR rfl .i64 .i64 n Zo Zo
 go_enter Tryz.func93,Tryz.ntmps93
 go_wp2_with fail
 rw[<-hW0];clear hW0;go_step3
 go_upto_region 1 with fail
 go_cut [5,6]from 11 to 17 (fun s5 s6 wx=>MadeT W0 n s5 s6 wx)
 case first=>
  have c0:=SE.out W0 Zf;refine wp_region_held_drew (S:=fun wx=>wx.cell? ⟨w.heap.size,0,none⟩=some (.pointer (some ⟨ab,0,none⟩))/\wx.cell? ⟨w.heap.size,1,none⟩=some (.pointer pf)/\wx.cell? ⟨w.heap.size,2,none⟩=some (.int .i64 k)/\wx.cell? ⟨w.heap.size,3,none⟩=some (.int .i64 m)/\wx.cell? ⟨w.heap.size,4,none⟩=some (.int .i64 z)/\wx.cell? ⟨w.heap.size,5,none⟩=some (.int .i64 s)/\wx.cell? ⟨w.heap.size,6,none⟩=some (.int .i64 t)/\wx.cell? ⟨w.heap.size,7,none⟩=some (.int .i64 o)/\wx.cell? ⟨w.heap.size,8,none⟩=some (.int .i64 st)/\wx.cell? ⟨w.heap.size,9,none⟩=some (.int .i64 ep)) Zk ?_ (fun hHeld=>?_)
  ·exact c0
  have B0:Below W0.heap.size W0 W0.drew:=Zf.drew;refine tkH 0 ?_
  refine tkH 3 ?_
  refine rnH 1 fun K hK=>?_
  go_simp;refine(KN _).mono ?_
  rintro _ v1 ⟨rfl,b1⟩;have B1:Below W0.heap.size W0 v1:=B0.stepL b1 B0.size;refine koH hK (SE.out _ B1) fun hHeld=>?_
  clear hK K;refine rmH 2 4 (fun K hK=>?_) fun K hK=>?_
  ·have q2:=MKS.out v1;obtain⟨u2,hu2⟩:∃u,u=(v1).alloc (.cells (madeCells #[.slice none 0 0] n) 36):=⟨_,rfl⟩;rw[<-hu2]at q2;have r2:u2.rowIs (v1).heap.size 36 n (fun _=>.slice none 0 0):=by rw[hu2];exact World.rowIs_made _ _ _ _
   have d2:Below (v1).heap.size (v1) u2:=by rw[hu2];exact belL _ _
   have B2:Below W0.heap.size W0 u2:=B1.stepL d2 B1.size;have l2:Hid (W0.heap.size<=(v1).heap.size):=B1.size;obtain⟨gs,hgs⟩:∃x,Hid (x=(v1).heap.size):=⟨_,rfl⟩;rw[<-hgs.out]at q2 r2 l2;clear hu2;go_simp;refine koH hK (SE.out _ B2) fun hHeld=>?_
   clear hK K;refine rnH 4 fun K hK=>?_
   go_simp;refine(KN _).mono ?_
   rintro _ v4 ⟨rfl,b4⟩;have B4:Below W0.heap.size W0 v4:=B2.stepL b4 B2.size;have r2:=r2.of_block (b4.block gs r2.lt);refine koH hK (SE.out _ B4) fun hHeld=>?_
   clear hK K;refine tkH 6 ?_
   refine rnH 5 fun K hK=>?_
   have q5:=MKB.out v4;obtain⟨u5,hu5⟩:∃u,u=(v4).alloc (.cells (madeCells #[.bool false] n) 4):=⟨_,rfl⟩;rw[<-hu5]at q5;have r5:u5.rowIs (v4).heap.size 4 n (fun _=>.bool false):=by rw[hu5];exact World.rowIs_made _ _ _ _
   have d5:Below (v4).heap.size (v4) u5:=by rw[hu5];exact belL _ _
   have B5:Below W0.heap.size W0 u5:=B4.stepL d5 B4.size;have l5:Hid (W0.heap.size<=(v4).heap.size):=B4.size;have ne:Hid (gs≠(v4).heap.size):=by have:=r2.lt;show _≠_;omega
   obtain⟨gh,hgh⟩:∃x,Hid (x=(v4).heap.size):=⟨_,rfl⟩;exact z29_1
  ·go_simp;refine(KN _).mono ?_
   rintro _ v4 ⟨rfl,b4⟩;have B4:Below W0.heap.size W0 v4:=B1.stepL b4 B1.size;refine koH hK (SE.out _ B4) fun hHeld=>?_
   clear hK K;refine rmH 2 5 (fun K hK=>?_) fun K hK=>?_
   ·have q2:=MKS.out v4;obtain⟨u2,hu2⟩:∃u,u=(v4).alloc (.cells (madeCells #[.slice none 0 0] n) 36):=⟨_,rfl⟩;rw[<-hu2]at q2;have r2:u2.rowIs (v4).heap.size 36 n (fun _=>.slice none 0 0):=by rw[hu2];exact World.rowIs_made _ _ _ _
    have d2:Below (v4).heap.size (v4) u2:=by rw[hu2];exact belL _ _
    have B2:Below W0.heap.size W0 u2:=B4.stepL d2 B4.size;have l2:Hid (W0.heap.size<=(v4).heap.size):=B4.size;obtain⟨gs,hgs⟩:∃x,Hid (x=(v4).heap.size):=⟨_,rfl⟩;rw[<-hgs.out]at q2 r2 l2;clear hu2;go_simp;refine koH hK (SE.out _ B2) fun hHeld=>?_
    clear hK K;refine tkH 6 ?_
    refine rnH 5 fun K hK=>?_
    have q5:=MKB.out u2;obtain⟨u5,hu5⟩:∃u,u=(u2).alloc (.cells (madeCells #[.bool false] n) 4):=⟨_,rfl⟩;rw[<-hu5]at q5;have r5:u5.rowIs (u2).heap.size 4 n (fun _=>.bool false):=by rw[hu5];exact World.rowIs_made _ _ _ _
    have d5:Below (u2).heap.size (u2) u5:=by rw[hu5];exact belL _ _
    have B5:Below W0.heap.size W0 u5:=B2.stepL d5 B2.size;have l5:Hid (W0.heap.size<=(u2).heap.size):=B2.size;have ne:Hid (gs≠(u2).heap.size):=by have:=r2.lt;show _≠_;omega
    obtain⟨gh,hgh⟩:∃x,Hid (x=(u2).heap.size):=⟨_,rfl⟩;exact z29_1
   ·have q5:=MKB.out v4;obtain⟨u5,hu5⟩:∃u,u=(v4).alloc (.cells (madeCells #[.bool false] n) 4):=⟨_,rfl⟩;rw[<-hu5]at q5;have r5:u5.rowIs (v4).heap.size 4 n (fun _=>.bool false):=by rw[hu5];exact World.rowIs_made _ _ _ _
    have d5:Below (v4).heap.size (v4) u5:=by rw[hu5];exact belL _ _
    have B5:Below W0.heap.size W0 u5:=B4.stepL d5 B4.size;have l5:Hid (W0.heap.size<=(v4).heap.size):=B4.size;obtain⟨gh,hgh⟩:∃x,Hid (x=(v4).heap.size):=⟨_,rfl⟩;rw[<-hgh.out]at q5 r5 l5;clear hu5;go_simp;refine koH hK (SE.out _ B5) fun hHeld=>?_
    clear hK K;refine rnH 2 fun K hK=>?_
    have q2:=MKS.out u5;obtain⟨u2,hu2⟩:∃u,u=(u5).alloc (.cells (madeCells #[.slice none 0 0] n) 36):=⟨_,rfl⟩;rw[<-hu2]at q2;have r2:u2.rowIs (u5).heap.size 36 n (fun _=>.slice none 0 0):=by rw[hu2];exact World.rowIs_made _ _ _ _
    have d2:Below (u5).heap.size (u5) u2:=by rw[hu2];exact belL _ _
    have B2:Below W0.heap.size W0 u2:=B5.stepL d2 B5.size;have l2:Hid (W0.heap.size<=(u5).heap.size):=B5.size;have ne:Hid (gh≠(u5).heap.size):=by have:=r5.lt;show _≠_;omega
    obtain⟨gs,hgs⟩:∃x,Hid (x=(u5).heap.size):=⟨_,rfl⟩;rw[<-hgs.out]at q2 r2 l2;rw[<-hgs.out]at ne;have r5:=r5.of_block (d2.block gh r5.lt);clear hu2;go_simp;refine koH hK (SE.out _ B2) fun hHeld=>?_
    clear hK K;refine tkH 6 ?_
    clear KN MKS MKB;refine tkH 7 ?_
    refine wpAnyH_done Zk ?_ _
    try simp only[Act.put,List.getElem_toArray,List.getElem_cons_succ,List.getElem_cons_zero,List.setIfInBounds_toArray,List.set_cons_zero,List.set_cons_succ]
    clear hHeld c0;go_wp2
    go_meet
    case rel=>exact⟨⟨gs,gh,rfl,rfl,r2,r5,ne.out.symm,l2.out,l5.out⟩,B2⟩
 case rest=>
  obtain⟨⟨gs,gh,rfl,rfl,r2,r5,ne,l2,l5⟩,BB⟩:=hcut;have START:Hid (TwoL wc gs gh n (fun _=>.slice none 0 0) (fun i=>if i<0 then FL i else []) (fun i=>if i<0 then FH i else false)/\Below W0.heap.size W0 wc):=⟨(TwoL.made r2 r5 ne Zo).congr (fun i _=>rfl) (fun i _=>rfl),BB⟩;have HL:Hid (W0.heap.size<=gs/\W0.heap.size<=gh):=⟨l2,l5⟩;clear r2 r5 ne BB MKS MKB KN l2 l5
  go_wp2_with fail
  go_step3
  go_wp2_with fail
  go_loopw [7,19] (fun tv i wr=>∃r:Nat,r<=n/\i= .int .i64 (r:Int)/\tv= .int .i64 0/\(∃V,TwoL wr gs gh n V (fun i=>if i<r then FL i else []) (fun i=>if i<r then FH i else false))/\Below W0.heap.size W0 wr/\(r=0∨a.off=false)) (fun _ i _=>n-(intOf i).toNat)
  case atStart=>exact⟨0,Zz,rfl,rfl,⟨_,START.out.1⟩,START.out.2,Or.inl rfl⟩
  case round=>
   clear START;obtain⟨r,hr,rfl,rfl,⟨V,hV⟩,hB,hoff⟩:=hrel
   by_cases hlt:r<n
   ·have hlt':(r:Int)<(n:Int):=by omega
    have g1:IntKind.i64.wrap ((r:Int)+1)=((r+1:Nat):Int):=Zw
    obtain⟨dd,hdd⟩:∃dd,Hid (dd=diG ⟨k,m,z,s,t,o⟩ st (r:Int)):=⟨_,rfl⟩;have KD1:=fun W=>KD W r hlt
    rw[<-hdd.out]at KD1;have wdd:(Lit.int .i64 dd).wf=true:=by rw[hdd.out];exact wf_small (DI.out r hlt).1 (DI.out r hlt).2
    obtain⟨px,hpx⟩:∃px,Hid (rdAX a dd at_=px):=⟨_,rfl⟩;obtain⟨rb,hrb⟩:∃rb,Hid (rdAB a dd at_=rb):=⟨_,rfl⟩;have hrl:Hid (rb.length<=100000):=by show _<=_;rw[<-hrb.out];exact rdAB_len okA _ _
    have KR:∀W,Below W0.heap.size W0 W->Calls Tryz.prog 72 #[.pointer (some ⟨ab,0,none⟩),.int .i64 dd,.int .i64 at_] W (Tells W px rb):=fun W b=>by
     have:=aread_any (HA.out.below (FE.out W b)) wdd wat;rw[hpx.out,hrb.out]at this;exact this
    have c0:=SE.out wr hB;have BD:Below W0.heap.size W0 wr.drew:=hB.drew;have cD:=SE.out _ BD;have E2D:Hid (∀{v2 v3:World},Below v2.drew.heap.size v2.drew v3->Below v2.heap.size v2 v3):=fun b=>(Zf.drew).stepL b Zr
    by_cases ho:a.off=true
    ·have e1:px=130:=by rw[<-hpx.out];exact rdAX_crash.2 ho
     subst e1
     go_wp2_with fail
     have W5:Hid (∀v5,∀{v3 v4:World},Below wr.drew.heap.size wr.drew v3->Below v3.heap.size v3 v4->Below v4.heap.size v4 v5->Below wr.heap.size wr v5):=fun v5 _ _ b3 b4 b5=>((E2D.out b3).stepL b4 (E2D.out b3).size).stepL b5 (Nat.le_trans (E2D.out b3).size b4.size)
     go_region_held3 (fun wx=>wx.cell? ⟨w.heap.size,0,none⟩=some (.pointer (some ⟨ab,0,none⟩))/\wx.cell? ⟨w.heap.size,1,none⟩=some (.pointer pf)/\wx.cell? ⟨w.heap.size,2,none⟩=some (.int .i64 k)/\wx.cell? ⟨w.heap.size,3,none⟩=some (.int .i64 m)/\wx.cell? ⟨w.heap.size,4,none⟩=some (.int .i64 z)/\wx.cell? ⟨w.heap.size,5,none⟩=some (.int .i64 s)/\wx.cell? ⟨w.heap.size,6,none⟩=some (.int .i64 t)/\wx.cell? ⟨w.heap.size,7,none⟩=some (.int .i64 o)/\wx.cell? ⟨w.heap.size,8,none⟩=some (.int .i64 st)/\wx.cell? ⟨w.heap.size,9,none⟩=some (.int .i64 ep)) (first|exact c0|exact cD|exact c3|exact c4|exact c5) (first
      |(go_at_call 87;go_loud (refine(KD1 _).mono ?_);rintro _ v3 ⟨rfl,b3⟩;have B3:Below W0.heap.size W0 v3:=BD.stepL b3 BD.size;have c3:=SE.out _ B3)
      |(go_at_call 86;go_loud (refine(KP _).mono ?_);rintro _ v4 ⟨rfl,b4⟩;have B4:Below W0.heap.size W0 v4:=B3.stepL b4 B3.size;have c4:=SE.out _ B4)
      |(go_at_call 72;go_loud (refine(KR _ B4).mono ?_);rintro _ v5 ⟨ov,rfl,O5,b5⟩;have B5:Below W0.heap.size W0 v5:=B4.stepL b5 B4.size;have c5:=SE.out _ B5))
     have HO5:Hid (v5.ownsRow v4.heap.size 5 1 ov rb.length (rb.map vb)):=O5;have FB:Hid (Below w.heap.size w v5):=FE.out _ B5;clear c0 cD c3 c4 c5 b3 b4 O5 b5 B5 B3 B4 BD hV hB;obtain⟨oa,oc,rfl⟩:=owns_form HO5.out;clear HO5;go_wp2
     try rw[Exit.noGoto_ret]
     refine bodyPost_ret (v:=.tuple #[.slice (some ⟨gs,0,none⟩) n n,.slice (some ⟨gh,0,none⟩) n n,.int .i64 130]) (by simp[results,Tryz.results93,go_sem]) rfl ?_
     exact⟨fun _=>⟨_,_,rfl,FB.out⟩,fun q=>by rw[ho]at q;cases q⟩
    ·have ho':a.off=false:=by simpa using ho
     have e1:¬px=130:=by rw[<-hpx.out];exact fun e=>ho (rdAX_crash.1 e)
     have e1':(px==130)=false:=Zq.2 e1
     by_cases hp0:px=0
     ·subst hp0;have eF:=HFv.out r;have eL:=HLv.out r;rw[<-hdd.out,hrb.out]at eF eL;have KU1:∀W v,Rd W v rb->Calls Tryz.prog 132 #[.agg #[.pointer (some ⟨ab,0,none⟩),.pointer pf,.int .i64 k,.int .i64 m,.int .i64 z,.int .i64 s,.int .i64 t,.int .i64 o,.int .i64 st,.int .i64 ep],v] W (MakesP15 W (FL r) (FH r)):=fun W v hr=>by
       have:=KU W v rb hr hrl.out
       try simp only at eF
       rw[eF,eL]at this;exact this
      obtain⟨fh,hfh⟩:∃x,Hid (x=FH r):=⟨_,rfl⟩;obtain⟨fl,hfl⟩:∃x,Hid (x=FL r):=⟨_,rfl⟩;rw[<-hfh.out,<-hfl.out]at KU1
      go_wp2_with fail
      have W5:Hid (∀v5,∀{v3 v4:World},Below wr.drew.heap.size wr.drew v3->Below v3.heap.size v3 v4->Below v4.heap.size v4 v5->Below wr.heap.size wr v5):=fun v5 _ _ b3 b4 b5=>((E2D.out b3).stepL b4 (E2D.out b3).size).stepL b5 (Nat.le_trans (E2D.out b3).size b4.size)
      go_region_held3 (fun wx=>wx.cell? ⟨w.heap.size,0,none⟩=some (.pointer (some ⟨ab,0,none⟩))/\wx.cell? ⟨w.heap.size,1,none⟩=some (.pointer pf)/\wx.cell? ⟨w.heap.size,2,none⟩=some (.int .i64 k)/\wx.cell? ⟨w.heap.size,3,none⟩=some (.int .i64 m)/\wx.cell? ⟨w.heap.size,4,none⟩=some (.int .i64 z)/\wx.cell? ⟨w.heap.size,5,none⟩=some (.int .i64 s)/\wx.cell? ⟨w.heap.size,6,none⟩=some (.int .i64 t)/\wx.cell? ⟨w.heap.size,7,none⟩=some (.int .i64 o)/\wx.cell? ⟨w.heap.size,8,none⟩=some (.int .i64 st)/\wx.cell? ⟨w.heap.size,9,none⟩=some (.int .i64 ep)) (first|exact c0|exact cD|exact c3|exact c4|exact c5) (first
       |(go_at_call 87;go_loud (refine(KD1 _).mono ?_);rintro _ v3 ⟨rfl,b3⟩;have B3:Below W0.heap.size W0 v3:=BD.stepL b3 BD.size;have c3:=SE.out _ B3)
       |(go_at_call 86;go_loud (refine(KP _).mono ?_);rintro _ v4 ⟨rfl,b4⟩;have B4:Below W0.heap.size W0 v4:=B3.stepL b4 B3.size;have c4:=SE.out _ B4)
       |(go_at_call 72;go_loud (refine(KR _ B4).mono ?_);rintro _ v5 ⟨ov,rfl,O5,b5⟩;have B5:Below W0.heap.size W0 v5:=B4.stepL b5 B4.size;have c5:=SE.out _ B5))
      have HO5:Hid (v5.ownsRow v4.heap.size 5 1 ov rb.length (rb.map vb)):=O5;have R5:Rd v5 ov rb:=Rd.owned HO5.out;have V5:=hV.below (W5.out _ b3 b4 b5);obtain⟨oa,oc,rfl⟩:=R5.form;obtain⟨rl,hrl2⟩:∃rl,Hid (rl=rb.length):=⟨_,rfl⟩;rw[<-hrl2.out]at R5 ⊢;clear c0 cD c3 c4 b3 b4 O5 HO5 b5 B3 B4 BD hV hB eF eL;obtain⟨x0,x1,x2,x3,x4,x5,x6,x7,x8,x9⟩:=c5;have K6:=KU1 _ _ R5;have lt1:=V5.rs.lt;have lt2:=V5.rh.lt
      go_wp2_with (go_at_call 132;go_loud (refine K6.mono ?_);rintro _ v6 ⟨ux,rfl,R6,F6,b6⟩;obtain⟨ua,uc,rfl⟩:=R6.form;have V6:=V5.below b6;have q1:=V6.rs.cell hlt;have q2:=V6.rs.frozen r;have V7:=V6.putS R6 (F6.apartB lt1) (F6.apartB lt2) r;have q3:=V7.rh.cell hlt;have q4:=V7.rh.frozen r)
      have V8:=V7.putB r fh;have B6:Below W0.heap.size W0 v6:=B5.stepL b6 B5.size;have H8:Hid ((∃V,TwoL ((v6.setCell ⟨gs,r,none⟩ (.slice ua fl.length uc)).setCell ⟨gh,r,none⟩ (.bool fh)) gs gh n V (fun i=>if i<r+1 then FL i else []) (fun i=>if i<r+1 then FH i else false))/\Below W0.heap.size W0 ((v6.setCell ⟨gs,r,none⟩ (.slice ua fl.length uc)).setCell ⟨gh,r,none⟩ (.bool fh))):=by
       refine⟨⟨_,V8.congr (fun i _=>?_) (fun i _=>?_)⟩,(B6.setCell (p:=⟨gs,r,none⟩) HL.out.1 _).setCell (p:=⟨gh,r,none⟩) HL.out.2 _⟩
       ·by_cases e:i=r
        ·rw[if_pos e,if_pos Zo,e,hfl.out]
        ·rw[if_neg e];exact z29_2
       ·by_cases e:i=r
        ·rw[if_pos e,if_pos Zo,e,hfh.out]
        ·rw[if_neg e];exact z29_2
      clear V5 V6 V7 V8 R6 F6 b6 B6 q1 q2 q3 q4 B5 x0 x1 x2 x3 x4 x5 x6 x7 x8 x9 K6 KU1 R5;go_wp2;go_roundw
      case rel=>exact⟨r+1,Zo,Zg,rfl,H8.out.1,H8.out.2,Or.inr ho'⟩
      case measure=>simp[intOf];omega
     ·have hp0':(px==0)=false:=Zq.2 hp0;obtain⟨eF,eL⟩:=HNo.out r (by rw[<-hdd.out,hpx.out];exact hp0)
      go_wp2_with fail
      have W5:Hid (∀v5,∀{v3 v4:World},Below wr.drew.heap.size wr.drew v3->Below v3.heap.size v3 v4->Below v4.heap.size v4 v5->Below wr.heap.size wr v5):=fun v5 _ _ b3 b4 b5=>((E2D.out b3).stepL b4 (E2D.out b3).size).stepL b5 (Nat.le_trans (E2D.out b3).size b4.size)
      go_region_held3 (fun wx=>wx.cell? ⟨w.heap.size,0,none⟩=some (.pointer (some ⟨ab,0,none⟩))/\wx.cell? ⟨w.heap.size,1,none⟩=some (.pointer pf)/\wx.cell? ⟨w.heap.size,2,none⟩=some (.int .i64 k)/\wx.cell? ⟨w.heap.size,3,none⟩=some (.int .i64 m)/\wx.cell? ⟨w.heap.size,4,none⟩=some (.int .i64 z)/\wx.cell? ⟨w.heap.size,5,none⟩=some (.int .i64 s)/\wx.cell? ⟨w.heap.size,6,none⟩=some (.int .i64 t)/\wx.cell? ⟨w.heap.size,7,none⟩=some (.int .i64 o)/\wx.cell? ⟨w.heap.size,8,none⟩=some (.int .i64 st)/\wx.cell? ⟨w.heap.size,9,none⟩=some (.int .i64 ep)) (first|exact c0|exact cD|exact c3|exact c4|exact c5) (first
       |(go_at_call 87;go_loud (refine(KD1 _).mono ?_);rintro _ v3 ⟨rfl,b3⟩;have B3:Below W0.heap.size W0 v3:=BD.stepL b3 BD.size;have c3:=SE.out _ B3)
       |(go_at_call 86;go_loud (refine(KP _).mono ?_);rintro _ v4 ⟨rfl,b4⟩;have B4:Below W0.heap.size W0 v4:=B3.stepL b4 B3.size;have c4:=SE.out _ B4)
       |(go_at_call 72;go_loud (refine(KR _ B4).mono ?_);rintro _ v5 ⟨ov,rfl,O5,b5⟩;have B5:Below W0.heap.size W0 v5:=B4.stepL b5 B4.size;have c5:=SE.out _ B5))
      have HO5:Hid (v5.ownsRow v4.heap.size 5 1 ov rb.length (rb.map vb)):=O5;have V5:=hV.below (W5.out _ b3 b4 b5);have H8:Hid ((∃V,TwoL v5 gs gh n V (fun i=>if i<r+1 then FL i else []) (fun i=>if i<r+1 then FH i else false))/\Below W0.heap.size W0 v5):=by
       refine⟨⟨_,V5.congr (fun i _=>?_) (fun i _=>?_)⟩,B5⟩
       ·by_cases e:i=r
        ·rw[if_neg Zo,if_pos Zo,e,eL]
        ·exact z29_2
       ·by_cases e:i=r
        ·rw[if_neg Zo,if_pos Zo,e,eF]
        ·exact z29_2
      obtain⟨oa,oc,rfl⟩:=owns_form HO5.out;clear c0 cD c3 c4 c5 b3 b4 O5 HO5 b5 B5 B3 B4 BD hV hB eF eL V5;go_wp2;go_roundw
      case rel=>exact⟨r+1,Zo,Zg,rfl,H8.out.1,H8.out.2,Or.inr ho'⟩
      case measure=>simp[intOf];omega
   ·obtain rfl:r=n:=by omega
    have hlt':¬(r:Int)<(r:Int):=Zo
    have ho':Hid (a.off=false):=hoff.resolve_left Zo;have FV:Hid (∃V,TwoL wr gs gh r V FL FH):=⟨V,hV.congr (fun i hi=>if_pos hi) (fun i hi=>if_pos hi)⟩;have FB:Hid (Below w.heap.size w wr):=FE.out _ hB;clear hV hB hoff;go_wp2
    try rw[Exit.noGoto_ret]
    refine bodyPost_ret (v:=.tuple #[.slice (some ⟨gs,0,none⟩) r r,.slice (some ⟨gh,0,none⟩) r r,.int .i64 0]) (by simp[results,Tryz.results93,go_sem]) rfl ?_
    refine⟨(fun q=>by rw[ho'.out]at q;cases q),fun _=>?_⟩;obtain⟨V',hV'⟩:=FV.out;exact⟨gs,gh,V',rfl,hV',by have:=HL.out;omega,by have:=HL.out;omega,FB.out⟩
theorem info_intP:(Tryz.prog.info? 3).map (fun i=>(i.zero,i.size,i.bytes))=some (some (.int .i64 0),1,8):=Zk
theorem z29_3{p:Prop} (h:p:=by
 have:=((RL.out.of_block (hB.block gl RL.out.lt)).of_block (b.block gl (RL.out.of_block (hB.block gl RL.out.lt)).lt)).cell hd;rw[hx]at this;exact this
 ):p:=h
theorem z29_4{p:Prop} (h:p:=by
 go_wp2;go_roundw
 case rel=>exact⟨r+1,Zo,Zg,E3.out.1,E3.out.2⟩
 case measure=>simp[intOf];omega
 ):p:=h
theorem pbad_any{w:World}{ab:Nat}{GA:Nat->Prop}{a:ArS}(h:ArAt w ab GA a){pf:Option Addr}{g:GeoS}(hg:g.Wf){st ep:Int}(hst:(Lit.int .i64 st).wf=true)(hT:OkT g st ep){gh n:Nat}{H:Nat->Bool}(hr:w.rowIs gh 4 n (fun i=>.bool (H i)))(hn:n=nT g):
  Calls Tryz.prog 95 #[aggP (some ⟨ab,0,none⟩) pf g st ep,.slice (some ⟨gh,0,none⟩) n n] w fun e w'=>∃v,e= .returned v/\OwnI w' w.heap.size 3 v (plc (fun i=> !H i&&lvT a (diG g st (i:Int))) n)/\Below w.heap.size w w':=by
 obtain⟨i0,hi,hz0,hz1,hz2⟩:=info_parts info_intP;have zz:=okG_nat hT.1;have n1:1<=n/\n<=32:=by rw[hn];exact⟨nT_pos hT.1,zz.2.2.2.2.1⟩
 have KD:=fun W (i:Nat) (hi:i<n)=>@pdisk_any W (some ⟨ab,0,none⟩) pf g st ep hg hst (i:Int) (wf_small Zo Zo) _ rfl
 have DI:Hid (∀i:Nat,i<n->0<=diG g st (i:Int)/\diG g st (i:Int)<=100000):=fun i hi=>by
  rw[hn]at hi;have:=diG_in hT.1 hT.2.1 hT.2.2.1 hi;have:=zz.2.2.2.2.1;omega
 obtain⟨FF,hFF⟩:∃F:Nat->Bool,Hid (F=fun i=> !H i&&lvT a (diG g st (i:Int))):=⟨_,rfl⟩;rw[<-hFF.out];have HFF:Hid (∀i:Nat,FF i=(!H i&&lvT a (diG g st (i:Int)))):=fun i=>by rw[hFF.out]
 have KL:=fun W (hA:ArAt W ab GA a)=>alive_any hA
 obtain⟨N,hN⟩:∃N,Hid (N=a.D.length):=⟨_,rfl⟩;have HLv:Hid (∀d:Int,0<=d->lvT a d=(decide (d<(N:Int))&& !(a.D.getD d.toNat default).dead)):=fun d hd=>by rw[hN.out];exact lv_at hd
 rw[<-hN.out]at KL;have HA:Hid (ArAt w ab GA a):=h;have HR:Hid (w.rowIs gh 4 n (fun i=>.bool (H i))):=hr;clear zz hT hn hFF h hr;obtain⟨k,m,z,s,t,o⟩:=g;have LB:=spot_laid w (some ⟨ab,0,none⟩) pf ⟨k,m,z,s,t,o⟩ st ep 103;unfold aggP at KD ⊢;simp only[cellsP]at KD LB ⊢;obtain⟨W0,hW0⟩:∃W0,W0=w.alloc (.cells #[.pointer (some ⟨ab,0,none⟩),.pointer pf,.int .i64 k,.int .i64 m,.int .i64 z,.int .i64 s,.int .i64 t,.int .i64 o,.int .i64 st,.int .i64 ep] 103):=⟨_,rfl⟩;rw[<-hW0]at LB;obtain⟨x0,x1,x2,x3,x4,x5,x6,x7,x8,x9⟩:=(LB _ Zf).1.all;simp only at x0 x1 x2 x3 x4 x5 x6 x7 x8 x9;have K1:=KL W0 (HA.out.below (LB _ Zf).2)
 go_enter Tryz.func95,Tryz.ntmps95
 go_wp2_with fail
 rw[<-hW0];clear hW0;refine K1.mono ?_
 rintro _ v1 ⟨gl,rfl,rl,hgl,b1⟩;have B1:Hid (Below W0.heap.size W0 v1):=b1;have RL:Hid (v1.rowIs gl 4 N (fun i=>.bool (!(a.D.getD i default).dead))):=rl;have R1:Hid (v1.rowIs gh 4 n (fun i=>.bool (H i))):=HR.out.of_block ((LB _ b1).2.block gh HR.out.lt);have SE:Hid (∀W,Below v1.heap.size v1 W->SpotAt W w.heap.size (some ⟨ab,0,none⟩) pf ⟨k,m,z,s,t,o⟩ st ep):=fun W b=>(LB W (b1.stepL b b1.size)).1
 have FE:Hid (∀W,Below v1.heap.size v1 W->Below w.heap.size w W):=fun W b=>(LB W (b1.stepL b b1.size)).2
 clear x0 x1 x2 x3 x4 x5 x6 x7 x8 x9 K1 KL rl b1 hgl LB;go_wp2
 go_loopw [6,15] (fun sv i wr=>∃r:Nat,r<=n/\i= .int .i64 (r:Int)/\OwnI wr v1.heap.size 3 sv (plc FF r)/\Below v1.heap.size v1 wr) (fun _ i _=>n-(intOf i).toNat)
 case atStart=>exact⟨0,Zz,rfl,OwnI.nil _ _ _,Zf⟩
 case round=>
  obtain⟨r,hr,rfl,hO,hB⟩:=hrel;obtain⟨BL,hBL⟩:∃BL,Hid (BL=plc FF r):=⟨_,rfl⟩;rw[<-hBL.out]at hO;obtain⟨ba,bc,rfl⟩:=hO.form
  by_cases hlt:r<n
  ·have hlt':(r:Int)<(n:Int):=by omega
   have g1:IntKind.i64.wrap ((r:Int)+1)=((r+1:Nat):Int):=Zw
   have hbl:Hid (BL.length<=100000):=by
    show _<=_
    rw[hBL.out,plc_length];have:=cnt_le FF r;omega
   have ch:=(R1.out.of_block (hB.block gh R1.out.lt)).cell hlt;obtain⟨dd,hdd⟩:∃dd:Nat,Hid ((dd:Int)=diG ⟨k,m,z,s,t,o⟩ st (r:Int)):=⟨(diG ⟨k,m,z,s,t,o⟩ st (r:Int)).toNat,by show _=_;have:=DI.out r hlt;omega⟩;have KD1:=fun W=>KD W r hlt
   rw[<-hdd.out]at KD1;have hF:=HFF.out r;rw[<-hdd.out,HLv.out _ Zo,Int.toNat_natCast]at hF;have P1:Hid (plc FF (r+1)=BL++(if FF r then [r]else [])):=by show _=_;rw[plc_succ,<-hBL.out]
   obtain⟨x0,x1,x2,x3,x4,x5,x6,x7,x8,x9⟩:=(SE.out _ hB).all;simp only at x0 x1 x2 x3 x4 x5 x6 x7 x8 x9;have DONE:Hid (∀W,FF r=false->Below wr.heap.size wr W->OwnI W v1.heap.size 3 (.slice ba BL.length bc) (plc FF (r+1))/\Below v1.heap.size v1 W):=fun W e b=>by
    rw[P1.out,e];refine⟨?_,hB.stepL b hB.size⟩;have:=owns_later hO b;rw[show BL++(if false=true then [r]else [])=BL by simp];exact this
   cases hH:H r with
   |true=>
    rw[hH]at ch hF;have e0:FF r=false:=by rw[hF];rfl
    have D0:=fun W=>DONE.out W e0
    clear hF e0 DONE P1 hO hH
    go_wp2_with fail
    refine(KD1 _).mono ?_
    rintro _ v3 ⟨rfl,b3⟩;have E3:Hid _:=D0 _ b3;clear D0 b3 KD1 x0 x1 x2 x3 x4 x5 x6 x7 x8 x9 ch hB;go_wp2;go_roundw
    case rel=>exact⟨r+1,Zo,Zg,E3.out.1,E3.out.2⟩
    case measure=>simp[intOf];omega
   |false=>
    rw[hH]at ch hF
    by_cases hd:dd<N
    ·have hd':(dd:Int)<(N:Int):=by omega
     rw[Zy hd']at hF;cases hx:(a.D.getD dd default).dead with
     |true=>
      rw[hx]at hF;have e0:FF r=false:=by rw[hF];rfl
      have D0:=fun W=>DONE.out W e0
      have CL:Hid (∀W,Below wr.heap.size wr W->W.cell? ⟨gl,dd,none⟩=some (.bool false)):=fun W b=>by
       exact z29_3
      clear hF e0 DONE P1 hO hH hx
      go_wp2_with fail
      refine(KD1 _).mono ?_
      rintro _ v3 ⟨rfl,b3⟩;have E3:Hid _:=D0 _ b3;have cl:=CL.out _ b3;clear D0 b3 KD1 x0 x1 x2 x3 x4 x5 x6 x7 x8 x9 ch hB CL;go_wp2;go_roundw
      case rel=>exact⟨r+1,Zo,Zg,E3.out.1,E3.out.2⟩
      case measure=>simp[intOf];omega
     |false=>
      rw[hx]at hF;have e0:FF r=true:=by rw[hF];rfl
      have P2:Hid (plc FF (r+1)=BL++[r]):=by show _=_;rw[P1.out,e0];rfl
      have CL:Hid (∀W,Below wr.heap.size wr W->W.cell? ⟨gl,dd,none⟩=some (.bool true)):=fun W b=>by
       exact z29_3
      clear hF e0 DONE P1 hH hx
      go_wp2_with fail
      refine(KD1 _).mono ?_
      rintro _ v3 ⟨rfl,b3⟩;have cl:=CL.out _ b3;have O3:=hO.later b3;have B3:Below v1.heap.size v1 v3:=hB.stepL b3 hB.size;have h3:=B3.size;clear b3 KD1 x0 x1 x2 x3 x4 x5 x6 x7 x8 x9 ch hB CL hO
      go_wp2_with (at_builtin;go_loud (refine wpList_append_int rfl (.tmp 37) (.tmp 39) 45 rfl v1.heap.size 3 i0 Tryz.underlying45 hi hz0 hz1 hz2 (.slice ba BL.length bc) BL rfl O3 r _ 1 rfl hbl.out h3 ?_);intro v9 w9 h9 b9)
      have E3:Hid (OwnI w9 v1.heap.size 3 v9 (plc FF (r+1))/\Below v1.heap.size v1 w9):=by
       refine⟨?_,B3.trans b9⟩;rw[P2.out];exact h9
      clear h9 b9 O3 B3 cl;go_wp2;go_roundw
      case rel=>exact⟨r+1,Zo,Zg,E3.out.1,E3.out.2⟩
      case measure=>simp[intOf];omega
    ·have hd':¬(dd:Int)<(N:Int):=by omega
     rw[Zx hd']at hF;have e0:FF r=false:=by rw[hF];rfl
     have D0:=fun W=>DONE.out W e0
     clear hF e0 DONE P1 hO hH
     go_wp2_with fail
     refine(KD1 _).mono ?_
     rintro _ v3 ⟨rfl,b3⟩;have E3:Hid _:=D0 _ b3;clear D0 b3 KD1 x0 x1 x2 x3 x4 x5 x6 x7 x8 x9 ch hB;exact z29_4
  ·obtain rfl:r=n:=by omega
   have hlt':¬(r:Int)<(r:Int):=Zo
   have FO:Hid (OwnI wr w.heap.size 3 (.slice ba BL.length bc) (plc FF r)):=by
    show OwnI _ _ _ _ _
    rw[<-hBL.out];exact ownsRow_base hO (FE.out _ Zf).size
   have FB:Hid (Below w.heap.size w wr):=FE.out _ hB;clear hO hB;go_wp2;go_ret;exact⟨_,rfl,FO.out,FB.out⟩
theorem alP_in{a:ArS}{g:GeoS}{st ep:Int}:∀i,i∈alP a g st ep->i<nT g:=fun i hi=>shP_in i hi
theorem MakesT15.off{w w':World}{n:Nat}{L:Nat->List UInt8}{H:Nat->Bool}{e:Ending}(h:MakesT15 w true n L H e w'):MakesOff15 w e w':=h.1 rfl
theorem MakesT15.on{w w':World}{n:Nat}{L:Nat->List UInt8}{H:Nat->Bool}{e:Ending}(h:MakesT15 w false n L H e w'):MakesOn15 w n L H e w':=h.2 rfl
theorem pput_any{w:World}{ab fb:Nat}{GA:Nat->Prop}{a:ArS}(h:ArAt w ab GA a)(hF:FieldAt w fb){g:GeoS}(hg:g.Wf){st ep:Int}(hst:(Lit.int .i64 st).wf=true)(hT:OkT g st ep)(hz:g.z<=300):
  Calls Tryz.prog 61 #[aggP (some ⟨ab,0,none⟩) (some ⟨fb,0,none⟩) g st ep] w (MakesA15 w (rtX a g st ep) (rtR a g st ep) (rtB a g st ep)):=by
 have zz:=okG_nat hT.1;have KR:=fun W (hA:ArAt W ab GA a)=>pread_any (pf:=some ⟨fb,0,none⟩) hA hg hst hT
 cases ho:a.off with
 |true=>
  obtain⟨e1,e2,e3⟩:=rtX_off hT ho;rw[e1,e2,e3];rw[ho]at KR;clear e1 e2 e3 ho zz hz hT;obtain⟨k,m,z,s,t,o⟩:=g;have LB:=spot_laid w (some ⟨ab,0,none⟩) (some ⟨fb,0,none⟩) ⟨k,m,z,s,t,o⟩ st ep 103;unfold aggP at KR ⊢;simp only[cellsP]at KR LB ⊢;obtain⟨x0,x1,x2,x3,x4,x5,x6,x7,x8,x9⟩:=(LB _ Zf).1.all;simp only at x0 x1 x2 x3 x4 x5 x6 x7 x8 x9;have K1:=KR _ (h.below (LB _ Zf).2)
  go_enter Tryz.func61,Tryz.ntmps61
  go_wp2_with fail
  refine K1.mono ?_
  rintro _ v1 q;obtain⟨va,vb,rfl,b1⟩:=q.off;have F1:Hid (Below w.heap.size w v1):=(LB _ b1).2;clear x0 x1 x2 x3 x4 x5 x6 x7 x8 x9 K1 KR b1 LB q;go_wp2;refine bodyPost_ret (v:=.tuple #[.slice none 0 0,.slice none 0 0,.int .i64 130]) (by simp[results,Tryz.results61,go_sem]) rfl ?_
  exact nilA15 F1.out ⟨rfl,rfl,rfl⟩
 |false=>
  rw[ho]at KR;have eX:rtX a g st ep=if shX g.k g.m (hsT a g st ep) (dsT a g st)=0 then 0 else 150:=by
   unfold rtX;rw[if_pos hT];exact al_ok ho
  obtain⟨s1,s2,s3⟩:=@ls_sh a g st ep;rw[<-s1]at eX;have KE:=fun W (v1 v2:Value) (hh:RdB W v1 (hsT a g st ep)) (hl:Rs W v2 (shdT a g st ep)) (hf:FieldAt W fb)=>esh_far (k:=g.k) (m:=g.m) hf hh hl (fun i hi=>by
   have hi2:i<nT g:=by rw[<-hsT_length (a:=a) (st:=st) (ep:=ep)];exact hb_in hi
   unfold shdT;rw[ro_mkL hi2];have:=ls_len (a:=a) (st:=st) (ep:=ep) hT.1 i;omega)
  rw[s2,s3]at KE;obtain⟨X,hX⟩:∃X,Hid (X=shX g.k g.m (hsT a g st ep) (shdT a g st ep)):=⟨_,rfl⟩;rw[<-hX.out]at eX KE;obtain⟨n,hn⟩:∃n,Hid (n=nT g):=⟨_,rfl⟩;have hn':Hid (n=nT g):=hn;have n1:1<=n/\n<=32:=by rw[hn.out];exact⟨nT_pos hT.1,zz.2.2.2.2.1⟩
  obtain⟨AP,hAP⟩:∃AP,Hid (AP=alP a g st ep):=⟨_,rfl⟩;obtain⟨AL,hAL⟩:∃AL,Hid (AL=alR a g st ep):=⟨_,rfl⟩;rw[<-hAP.out,<-hAL.out]at KE;have HPn:Hid (∀i,i∈AP->i<n):=fun i hi=>by rw[hAP.out]at hi;rw[hn.out];exact alP_in i hi
  have HPl:Hid (AP.length<=1000):=by
   show _<=_
   rw[hAP.out];unfold alP shP
   split
   ·rw[plc_length];have:=cnt_le (hurtP g.k.toNat g.m.toNat (hsT a g st ep) (dsT a g st) (oneX (hsT a g st ep) (dsT a g st)).toNat) (g.k.toNat+g.m.toNat);have:=zz.2.2.2.2.1;unfold nT at this;omega
   ·simp
  have KB:=fun W (hA:ArAt W ab GA a) (gh:Nat) (H:Nat->Bool) (hr:W.rowIs gh 4 n (fun i=>.bool (H i)))=>pbad_any (pf:=some ⟨fb,0,none⟩) hA hg hst hT hr hn.out
  have HRD:Hid (∀W gs gh V,TwoL W gs gh n V (shdF a g st ep) (hsF a g st ep)->Rs W (.slice (some ⟨gs,0,none⟩) n n) (shdT a g st ep)/\RdB W (.slice (some ⟨gh,0,none⟩) n n) (hsT a g st ep)):=fun W gs gh V hV=>by
   refine⟨?_,?_⟩
   ·unfold shdT;rw[<-hn'.out];exact hV.rsOf
   ·unfold hsT;rw[<-hn'.out];exact hV.rdB
  have RR:Hid (X=0->rtX a g st ep=0/\rtR a g st ep=AL/\rtB a g st ep=plc (fun i=> !gdF a g st ep AP i&&lvT a (diG g st (i:Int))) n):=fun e=>by
   have r0:rtX a g st ep=0:=by rw[eX,if_pos e]
   refine⟨r0,?_,?_⟩
   ·unfold rtR;rw[if_pos r0,hAL.out]
   ·unfold rtB bdT;rw[if_pos r0,hn'.out,hAP.out];unfold plc;exact List.filter_congr fun i _=>bd_gd i
  have RN:Hid (¬X=0->rtX a g st ep=150/\rtR a g st ep=[]/\rtB a g st ep=[]):=fun e=>by
   have r0:rtX a g st ep=150:=by rw[eX,if_neg e]
   refine⟨r0,?_,?_⟩
   ·unfold rtR;rw[r0,if_neg Zd]
   ·unfold rtB;rw[r0,if_neg Zd]
  have GD0:Hid (∀i,hsF a g st ep i=gdF a g st ep (AP.take 0) i):=fun i=>(gd_nil i).symm
  have GDs:Hid (∀r,r<AP.length->∀i,gdF a g st ep (AP.take (r+1)) i=if i=AP.getD r 0 then false else gdF a g st ep (AP.take r) i):=fun r hr i=>by
   rw[take_getD hr];exact gd_snoc _ _ _
  rw[<-hn.out]at KR;obtain⟨fX,hfX⟩:∃x,Hid (x=rtX a g st ep):=⟨_,rfl⟩;obtain⟨fR,hfR⟩:∃x,Hid (x=rtR a g st ep):=⟨_,rfl⟩;obtain⟨fB,hfB⟩:∃x,Hid (x=rtB a g st ep):=⟨_,rfl⟩;rw[<-hfX.out,<-hfR.out,<-hfB.out]at RR RN;rw[<-hfX.out,<-hfR.out,<-hfB.out];obtain⟨GD,hGD⟩:∃GD:List Nat->Nat->Bool,Hid (GD=gdF a g st ep):=⟨_,rfl⟩;rw[<-hGD.out]at RR GD0 GDs;clear hfX hfR hfB eX s1 s2 s3 hX zz hz ho hn hn' hAP hAL hGD;obtain⟨LF,hLF⟩:∃LF,Hid (LF=shdF a g st ep):=⟨_,rfl⟩;obtain⟨HF,hHF⟩:∃HF,Hid (HF=hsF a g st ep):=⟨_,rfl⟩;rw[<-hLF.out,<-hHF.out]at KR HRD;rw[<-hHF.out]at GD0;obtain⟨DG,hDG⟩:∃DG:Nat->Bool,Hid (DG=fun i:Nat=>lvT a (diG g st (i:Int))):=⟨_,rfl⟩;have KB':∀W (hA:ArAt W ab GA a) (gh:Nat) (H:Nat->Bool) (hr:W.rowIs gh 4 n (fun i=>.bool (H i))),Calls Tryz.prog 95 #[aggP (some ⟨ab,0,none⟩) (some ⟨fb,0,none⟩) g st ep,.slice (some ⟨gh,0,none⟩) n n] W fun e w'=>∃v,e= .returned v/\OwnI w' W.heap.size 3 v (plc (fun i=> !H i&&DG i) n)/\Below W.heap.size W w':=fun W hA gh H hr=>by rw[hDG.out];exact KB W hA gh H hr
  have RR':Hid (X=0->fX=0/\fR=AL/\fB=plc (fun i=> !GD AP i&&DG i) n):=by rw[hDG.out];exact RR
  clear KB RR hDG hLF hHF;obtain⟨HSL,hHSL⟩:∃x,Hid (x=hsT a g st ep):=⟨_,rfl⟩;obtain⟨SDL,hSDL⟩:∃x,Hid (x=shdT a g st ep):=⟨_,rfl⟩;rw[<-hHSL.out,<-hSDL.out]at KE HRD;clear hHSL hSDL hT;obtain⟨k,m,z,s,t,o⟩:=g;simp only at KE;have LB:=spot_laid w (some ⟨ab,0,none⟩) (some ⟨fb,0,none⟩) ⟨k,m,z,s,t,o⟩ st ep 103;unfold aggP at KR KB' ⊢;simp only[cellsP]at KR KB' LB ⊢;obtain⟨W0,hW0⟩:∃W0,W0=w.alloc (.cells #[.pointer (some ⟨ab,0,none⟩),.pointer (some ⟨fb,0,none⟩),.int .i64 k,.int .i64 m,.int .i64 z,.int .i64 s,.int .i64 t,.int .i64 o,.int .i64 st,.int .i64 ep] 103):=⟨_,rfl⟩;rw[<-hW0]at LB;have gb:Hid (w.heap.size<W0.heap.size):=by rw[hW0];show _<_;simp
  obtain⟨x0,x1,x2,x3,x4,x5,x6,x7,x8,x9⟩:=(LB _ Zf).1.all;simp only at x0 x1 x2 x3 x4 x5 x6 x7 x8 x9;have K1:=KR _ (h.below (LB _ Zf).2);have HA:Hid (ArAt w ab GA a):=h;have HFd:Hid (FieldAt w fb):=hF;clear h hF
  go_enter Tryz.func61,Tryz.ntmps61
  go_wp2_with fail
  rw[<-hW0];clear hW0;refine K1.mono ?_
  rintro _ v1 q;obtain⟨gs,gh,V,rfl,V1,l1,l2,b1⟩:=q.on;clear x0 x1 x2 x3 x4 x5 x6 x7 x8 x9 K1 KR q;obtain⟨SP1,F1⟩:=LB _ b1;obtain⟨x0,x1,x2,x3,x4,x5,x6,x7,x8,x9⟩:=SP1.all;simp only at x0 x1 x2 x3 x4 x5 x6 x7 x8 x9;obtain⟨R1,H1⟩:=HRD.out _ _ _ _ V1;have K2:=KE _ _ _ H1 R1 (HFd.out.belowF F1);have RH1:Hid (v1.rowIs gh 4 n (fun i=>.bool (GD (AP.take 0) i))):=V1.rh.congr fun i _=>by rw[GD0.out i]
  have HGH:Hid (W0.heap.size<=gh/\gh<v1.heap.size):=⟨l2,V1.rh.lt⟩;clear R1 H1 V1 l1 l2 KE HRD
  by_cases hX0:X=0
  rotate_left
  ·have E9:Hid _:=RN.out hX0
   go_wp2_with fail
   refine K2.mono ?_
   rintro _ v2 ⟨va,vd,rfl,R2,O2,b2⟩;have F2:Hid (Below w.heap.size w v2):=F1.stepL b2 F1.size;obtain⟨aa,ac,rfl⟩:=R2.form;obtain⟨da,dc,rfl⟩:=O2.form;clear x0 x1 x2 x3 x4 x5 x6 x7 x8 x9 K2 R2 O2 b1 b2 SP1 F1 LB;go_wp2;refine bodyPost_ret (v:=.tuple #[.slice none 0 0,.slice none 0 0,.int .i64 150]) (by simp[results,Tryz.results61,go_sem]) rfl ?_
   exact nilA15 F2.out E9.out
  have E9:Hid _:=RR'.out hX0;subst hX0
  go_wp2_with fail
  refine K2.mono ?_
  rintro _ v2 ⟨va,vd,rfl,R2,O2,b2⟩;have B2:Below W0.heap.size W0 v2:=b1.stepL b2 b1.size;have F2:=(LB _ B2).2;have SP2:Hid (SpotAt v2 w.heap.size (some ⟨ab,0,none⟩) (some ⟨fb,0,none⟩) ⟨k,m,z,s,t,o⟩ st ep):=(LB _ B2).1;obtain⟨aa,ac,rfl⟩:=R2.form;obtain⟨da,dc,rfl⟩:=O2.form;have RH2:Hid (v2.rowIs gh 4 n (fun i=>.bool (GD (AP.take 0) i))):=RH1.out.of_block (b2.block gh HGH.out.2);have HR2:Hid (FarL v2 v1.heap.size (.slice aa AL.length ac) AL):=R2;have HO2:Hid (OwnI v2 v1.heap.size 3 (.slice da AP.length dc) AP):=O2;have HF2:Hid (Below w.heap.size w v2):=F2;have HB1:Hid (w.heap.size<=v1.heap.size):=F1.size;clear x0 x1 x2 x3 x4 x5 x6 x7 x8 x9 K2 R2 O2 b1 b2 B2 F2 SP1 F1 LB RH1;go_wp2
  go_loopw [42] (fun i wr=>∃r:Nat,r<=AP.length/\i= .int .i64 (r:Int)/\wr.rowIs gh 4 n (fun i=>.bool (GD (AP.take r) i))/\Only gh v2 wr) (fun i _=>AP.length-(intOf i).toNat)
  case atStart=>exact⟨0,Zz,rfl,RH2.out,Only.refl _ _⟩
  case round=>
   clear RH2;obtain⟨r,hr,rfl,hR,hO⟩:=hrel
   by_cases hlt:r<AP.length
   ·have hlt':(r:Int)<(AP.length:Int):=by omega
    have g1:IntKind.i64.wrap ((r:Int)+1)=((r+1:Nat):Int):=by have:=HPl.out;rw[IntKind.wrap_i64];omega
    obtain⟨q,hq⟩:∃q,Hid (AP.getD r 0=q):=⟨_,rfl⟩;have hqn:q<n:=by rw[<-hq.out];exact HPn.out _ (getD_memN hlt)
    have hqn':(q:Int)<(n:Int):=Zo
    obtain⟨gd,rfl,_,_,ci⟩:=(HO2.out.only hO HGH.out.2).cell hlt;rw[hq.out]at ci;have cq:=hR.cell hqn;have fq:=hR.frozen q;have E3:Hid ((wr.setCell ⟨gh,q,none⟩ (.bool false)).rowIs gh 4 n (fun i=>.bool (GD (AP.take (r+1)) i))/\Only gh v2 (wr.setCell ⟨gh,q,none⟩ (.bool false))):=by
     refine⟨(hR.set q (.bool false)).congr fun i _=>?_,hO.setCell _ _⟩;rw[GDs.out r hlt i,hq.out]
     by_cases e:i=q
     ·rw[if_pos e,if_pos e]
     ·rw[if_neg e,if_neg e]
    clear hR hO;exact z29_4
   ·obtain rfl:r=AP.length:=by omega
    have hlt':¬(AP.length:Int)<(AP.length:Int):=Zo
    rw[List.take_of_length_le Zr]at hR;have ne:¬w.heap.size=gh:=by have:=HGH.out;have:=gb.out;omega
    have SPr:=SP2.out.turn (G:=fun k=>k=gh) ne (Only.turnG hO rfl);obtain⟨x0,x1,x2,x3,x4,x5,x6,x7,x8,x9⟩:=SPr.all;simp only at x0 x1 x2 x3 x4 x5 x6 x7 x8 x9;have FB:Below w.heap.size w wr:=HF2.out.trans (hO.below (by have:=HGH.out;have:=gb.out;omega));have K3:=KB' _ (HA.out.below FB) gh _ hR;have HFr:Hid (FarL wr v1.heap.size (.slice aa AL.length ac) AL):=HR2.out.only hO HGH.out.2;clear hR hO SPr KB'
    go_wp2_with fail
    refine K3.mono ?_
    rintro _ v4 ⟨vb,rfl,O4,b4⟩;have E4:Hid (OwnI v4 w.heap.size 3 vb fB/\FarL v4 w.heap.size (.slice aa AL.length ac) AL/\Below w.heap.size w v4):=by
     refine⟨?_,(HFr.out.later b4).rebase HB1.out,FB.stepL b4 FB.size⟩;rw[E9.out.2.2];exact ownsRow_base O4 FB.size
    obtain⟨oa,oc,rfl⟩:=O4.form;obtain⟨LN,hLN⟩:∃LN,Hid (LN=(plc (fun i=> !GD AP i&&DG i) n).length):=⟨_,rfl⟩;rw[<-hLN.out]at E4 ⊢;clear O4 b4 FB K3 x0 x1 x2 x3 x4 x5 x6 x7 x8 x9;go_wp2;refine bodyPost_ret (v:=.tuple #[.slice aa AL.length ac,.slice oa LN oc,.int .i64 0]) (by simp[results,Tryz.results61,go_sem]) rfl ?_
    exact⟨_,_,by rw[E9.out.1],by rw[E9.out.2.1];exact E4.out.2.1,E4.out.1,E4.out.2.2⟩
theorem zeroCells_u8(k:Nat):Builtin.zeroCells #[Value.int .u8 0] k=(List.replicate k (Value.int .u8 0)).toArray:=by
 apply Array.ext';unfold Builtin.zeroCells;simp only[Array.toList_map,Array.toList_range];refine List.ext_getElem Zs fun i h1 h2=>?_
 simp[Nat.mod_one]
theorem info_u8c:(Tryz.prog.info? 5).map (fun i=>(i.zero,i.size,i.bytes))=some (some (.int .u8 0),1,1):=Zk
theorem growb_any{n:Nat}{w:World}(hl:n<=1000000){x:Int}(hx:x=(n:Int)):Calls Tryz.prog 96 #[.slice none 0 0,.int .i64 x] w fun e w'=>∃v,e= .returned v/\w'.ownsRow w.heap.size 5 1 v 0 []/\Below w.heap.size w w':=by
 subst hx;have hb8:Tryz.t5.bytes=1:=Zk
 have h1:¬(281474976710656:Int)<(n:Int)*(Tryz.t5.bytes:Int):=by
  have:∀q:Nat,q=1->¬(281474976710656:Int)<(n:Int)*(q:Int):=fun q hq=>by subst hq;omega
  exact this _ hb8
 have hnn:¬(n:Int)<0:=Zo
 by_cases h0:n=0
 ·subst h0;clear hb8
  go_enter Tryz.func96,Tryz.ntmps96
  go_wp2;go_ret;exact⟨_,rfl,World.ownsRow_nil _ _ _ _,Zf⟩
 ·have hpos:0<n:=by omega
  have h2:¬(281474976710656:Nat)<Builtin.nextslicecap n 0*Tryz.t5.bytes:=by
   have h3:=growslice_fits (need:=n) (old:=0) (bytes:=1) Zo Zo
   have:∀q:Nat,q=1->¬(281474976710656:Nat)<Builtin.nextslicecap n 0*q:=fun q hq=>by subst hq;omega
   exact this _ hb8
  clear hb8;have hge:=grownCap_ge w n 0 5;have hle:=grownCap_le_maxLen w n 0 5 Zl;unfold grownCap at hge hle
  go_enter Tryz.func96,Tryz.ntmps96
  go_wp2
  all_goals try omega
  go_ret;refine⟨_,rfl,⟨rfl,.inr ⟨w.heap.size,_,_,rfl,Zr,heap_alloc_new w _,Zz,hle,?_,rfl⟩⟩,?_⟩
  ·rw[zeroCells_u8,zeroCells_u8];simp;omega
  ·exact(Zf.alloc Zr _).drew
theorem flat_take15{L:List (List UInt8)}{r:Nat}(h:r<L.length):(L.take (r+1)).flatten=(L.take r).flatten++ro L r:=by
 rw[List.take_add_one,List.flatten_append,ro_some h];simp
theorem flat_mono{L:List (List UInt8)}(r:Nat):(L.take r).flatten.length<=L.flatten.length:=by
 have:=congrArg (fun M=>M.flatten.length) (List.take_append_drop r L);simp only[List.flatten_append,List.length_append]at this;omega
theorem ccatb_any{w:World}{v:Value}{L:List (List UInt8)}(hR:Rs w v L)(hl:L.flatten.length<=1000000)(hl2:L.length<=1000):
  Calls Tryz.prog 62 #[v] w fun e w'=>∃v',e= .returned v'/\w'.ownsRow w.heap.size 5 1 v' L.flatten.length (L.flatten.map vb)/\Below w.heap.size w w':=by
 obtain⟨i0,hi,hz0,hz1,hz2⟩:=info_parts info_u8c;obtain⟨a1,c1,rfl⟩:=hR.form;obtain⟨N,hN⟩:∃N,Hid (N=L.flatten.length):=⟨_,rfl⟩;have hN6:N<=1000000:=by rw[hN.out];exact hl
 have n2:¬(N:Int)<0:=Zo
 have HR:Hid (Rs w (.slice a1 L.length c1) L):=hR;obtain⟨FL,hFL⟩:∃FL,Hid (FL=L.flatten):=⟨_,rfl⟩;rw[<-hFL.out];clear hR hl
 go_enter Tryz.func62,Tryz.ntmps62
 go_wp2_with fail
 go_loopw [3,11] (fun s i wr=>∃r:Nat,r<=L.length/\i= .int .i64 (r:Int)/\s= .int .i64 (((L.take r).flatten.length:Nat):Int)/\wr=w) (fun _ i _=>L.length-(intOf i).toNat)
 case atStart=>exact⟨0,Zo,rfl,rfl,rfl⟩
 case round=>
  obtain⟨r,hr,rfl,rfl,rfl⟩:=hrel
  by_cases hlt:r<L.length
  ·have hlt':(r:Int)<(L.length:Int):=by omega
   have g1:IntKind.i64.wrap ((r:Int)+1)=((r+1:Nat):Int):=Zw
   obtain⟨xb,xo,xa,xc,rfl,_,cx,Rx⟩:=HR.out.at hlt;obtain⟨LN,hLN⟩:∃LN,Hid (LN=(ro L r).length):=⟨_,rfl⟩;obtain⟨S0,hS0⟩:∃S0,Hid (S0=(L.take r).flatten.length):=⟨_,rfl⟩;obtain⟨S1,hS1⟩:∃S1,Hid (S1=(L.take (r+1)).flatten.length):=⟨_,rfl⟩;have eS:S0+LN=S1:=by rw[hS0.out,hLN.out,hS1.out,flat_take15 hlt,List.length_append]
   have bS:S1<=1000000:=by rw[hS1.out];have:=flat_mono (L:=L) (r+1);have:=hN.out;omega
   have w1:IntKind.i64.wrap ((S0:Int)+(LN:Int))=(S1:Int):=Zw
   have n1:¬(S1:Int)<0:=Zo
   have HE:Hid (S0+LN=S1):=eS;rw[<-hLN.out]at cx Rx;rw[<-hS0.out];clear Rx eS;go_wp2;go_roundw
   case rel=>exact⟨r+1,Zo,Zg,by rw[<-hS1.out],by first|rfl|trivial⟩
   case measure=>simp[intOf];omega
  ·obtain rfl:r=L.length:=by omega
   have hlt':¬(L.length:Int)<(L.length:Int):=Zo
   obtain⟨wo,hwo⟩:∃wo,wo=wr:=⟨_,rfl⟩;subst hwo;rw[List.take_of_length_le Zr,<-hN.out]
   go_wp2_with fail
   refine(growb_any (n:=N) Zo rfl).mono ?_
   rintro e u1 ⟨v,rfl,O1,B1⟩;obtain⟨av,cv,rfl⟩:=owns_form O1;have HB0:Hid (Below wo.heap.size wo u1):=B1;have HO1:Hid (u1.ownsRow wo.heap.size 5 1 (.slice av 0 cv) (L.take 0).flatten.length ((L.take 0).flatten.map vb)):=O1;clear B1 O1
   go_wp2_with fail
   go_loopw [6,27] (fun o i wz=>∃r:Nat,r<=L.length/\i= .int .i64 (r:Int)/\wz.ownsRow wo.heap.size 5 1 o (L.take r).flatten.length ((L.take r).flatten.map vb)/\Below wo.heap.size wo wz) (fun _ i _=>L.length-(intOf i).toNat)
   case atStart=>exact⟨0,Zo,rfl,HO1.out,HB0.out⟩
   case round=>
    obtain⟨r,hr,rfl,hO,hB⟩:=hrel;clear HB0 HO1;have hsz:=hB.size;obtain⟨DD,hDD⟩:∃DD,Hid (DD=(L.take r).flatten):=⟨_,rfl⟩;rw[<-hDD.out]at hO;obtain⟨da,dc,rfl⟩:=owns_form hO
    by_cases hlt:r<L.length
    ·have hlt':(r:Int)<(L.length:Int):=by omega
     have g1:IntKind.i64.wrap ((r:Int)+1)=((r+1:Nat):Int):=Zw
     obtain⟨xb,xo,xa,xc,rfl,_,cx,Rx⟩:=(HR.out.below hB).at hlt;obtain⟨LN,hLN⟩:∃LN,Hid (LN=(ro L r).length):=⟨_,rfl⟩;rw[<-hLN.out]at cx Rx;have hl9:Hid (DD.length+(ro L r).length<=1000000):=by
      have q1:=flat_mono (L:=L) (r+1);rw[flat_take15 hlt,List.length_append,<-hDD.out]at q1
      show _<=_
      have:=hN.out;omega
     go_wp2_with (at_builtin;go_loud (refine wpList_append_rd _ rfl (.tmp 31) (.tmp 32) 36 rfl wo.heap.size 5 i0 Tryz.underlying36 hi hz0 hz1 hz2 (.slice da DD.length dc) DD.length (DD.map vb) rfl hO (.slice xa LN xc) (ro L r) rfl Rx hl9.out hsz ?_);intro v5 w5 h5 g5)
     have H5:Hid (w5.ownsRow wo.heap.size 5 1 v5 (L.take (r+1)).flatten.length ((L.take (r+1)).flatten.map vb)):=by
      show World.ownsRow _ _ _ _ _ _ _
      rw[flat_take15 hlt,List.length_append,List.map_append,<-hDD.out];exact h5
     have B5:Hid (Below wo.heap.size wo w5):=hB.grown g5 hsz (fun q hq=>(Zv hO q hq).1);clear hO h5 g5 cx Rx hB;go_wp2;go_roundw
     case rel=>exact⟨r+1,Zo,Zg,H5.out,B5.out⟩
     case measure=>simp[intOf];omega
    ·obtain rfl:r=L.length:=by omega
     have hlt':¬(L.length:Int)<(L.length:Int):=Zo
     have e9:Hid ((L.take L.length).flatten=L.flatten):=by show _=_;rw[List.take_of_length_le Zr]
     have FO:Hid (wr.ownsRow wo.heap.size 5 1 (.slice da DD.length dc) FL.length (FL.map vb)):=by
      show World.ownsRow _ _ _ _ _ _ _
      rw[hFL.out,<-e9.out,<-hDD.out];exact hO
     have FB:Hid (Below wo.heap.size wo wr):=hB;clear hO hB e9;go_wp2
     try rw[Exit.noGoto_ret]
     go_ret;exact⟨_,rfl,FO.out,FB.out⟩
end Go.Proofs.YtddnfhfangfgeaaGreat.Gf
