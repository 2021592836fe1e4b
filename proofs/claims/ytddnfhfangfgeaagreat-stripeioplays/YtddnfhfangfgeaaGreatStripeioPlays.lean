/- PROVED: for every geometry g, every number disks and every script of calls on stripes and on arrays the call StripeioPlays(g, disks, script) returns true, and its arguments read behind it as before; no conditions. -/
import Derived.ProofKit
import Derived.ShutString
import Derived.ChangeOld
import Derived.Test.YtddnfhfangfgeaaGreatPome32
namespace Go.Proofs.YtddnfhfangfgeaaGreat.stripeioPlays
open Go.ChangeShapes Go.WideShapes Go.ChangeAt Go.RowKit
open Go.ChangeMaps (open_string shut_string)
set_option linter.unusedVariables false
theorem own:ownKnob Tryz.prog.godebug=none:=by kernel_rfl
theorem laidOut:laidOutB Tryz.prog=true:=by kernel_rfl
def IsRow(k:IntKind)(w:World)(a:Option Addr)(len cap:Nat)(zs:List Int):Prop:=
 (a=none/\len=0/\cap=0/\zs=[])∨
 ∃x,a=some x/\len<=cap/\cap<=maxLen/\zs.length=cap/\(∀i,i<zs.length->w.cell? (x.add i)=some (.int k (zs.getD i 0)))/\∀n∈zs,(Lit.int k n).wf=true
open Gf
set_option linter.unusedSimpArgs false
set_option maxRecDepth 100000 in
set_option maxHeartbeats 4000000 in
theorem walk(c0:GeoS)(a1:Int)(a2:Option Addr)(len2 cap2:Nat)(z2:List CallS)(w:World)(w0:c0.Wf)(w1:(Lit.int .i64 a1).wf=true)(w2:RdS15 w (.slice a2 len2 cap2) z2):
  Calls Tryz.prog 4 #[aggG c0,.int .i64 a1,.slice a2 len2 cap2] w fun e w'=>e= .returned (.bool true)/\Below w.heap.size w w':=by
 obtain rfl:=w2.lenEq;have KSm:=fun W=>@small15_any W c0 w0 _ rfl
 have EQAG:∀k m z s t o:Int,aggG ⟨k,m,z,s,t,o⟩= .agg #[.int .i64 k,.int .i64 m,.int .i64 z,.int .i64 s,.int .i64 t,.int .i64 o]:=fun _ _ _ _ _ _=>rfl
 by_cases hsm:smG c0
 rotate_left
 ·rw[decide_eq_false hsm]at KSm;clear hsm;obtain⟨k,m,z,s,t,o⟩:=c0;have LB:=geo_laid w ⟨k,m,z,s,t,o⟩ 24;rw[EQAG]at KSm ⊢
  go_enter Tryz.func4,Tryz.ntmps4
  go_wp2_with fail
  obtain⟨W0,hW0⟩:∃W0,W0=w.alloc (.cells (cellsG ⟨k,m,z,s,t,o⟩) 24):=⟨_,rfl⟩;rw[<-hW0]at LB;refine awake15_any.mono ?_
  rintro e v0 ⟨rfl,b0⟩;have B0:Below W0.heap.size W0 v0:=by rw[hW0];exact b0
  have lW:w.heap.size<W0.heap.size:=by rw[hW0];simp
  clear hW0 b0
  go_wp2_with fail
  refine(new_any _).mono ?_
  rintro _ v1 ⟨rfl,F,O1⟩;have B1:=B0.stepL O1.below B0.size;obtain⟨fb,hfb⟩:∃fb,Hid (fb=v0.heap.size):=⟨_,rfl⟩;rw[<-hfb.out]at F ⊢;clear O1 B0;obtain⟨⟨x0,x1,x2,x3,x4,x5⟩,F1⟩:=LB _ B1;simp only at x0 x1 x2 x3 x4 x5
  go_wp2_with fail
  refine(KSm _).mono ?_
  rintro _ v2 ⟨rfl,c2⟩;have B2:=B1.stepL c2 B1.size;have FF:=F.belowF c2;clear c2 B1 F F1 KSm x0 x1 x2 x3 x4 x5;obtain⟨⟨x0,x1,x2,x3,x4,x5⟩,F2⟩:=LB _ B2;simp only at x0 x1 x2 x3 x4 x5;have lV:=Nat.lt_of_lt_of_le lW B2.size;clear B2 LB lW hfb;go_wp2;go_ret;exact⟨rfl,F2⟩
 rw[decide_eq_true hsm]at KSm;have hz:okG c0->c0.z<=300:=smG_z hsm;clear hsm
 by_cases d1:a1<1
 ·obtain⟨k,m,z,s,t,o⟩:=c0;have LB:=geo_laid w ⟨k,m,z,s,t,o⟩ 24;rw[EQAG]at KSm ⊢
  go_enter Tryz.func4,Tryz.ntmps4
  go_wp2_with fail
  obtain⟨W0,hW0⟩:∃W0,W0=w.alloc (.cells (cellsG ⟨k,m,z,s,t,o⟩) 24):=⟨_,rfl⟩;rw[<-hW0]at LB;refine awake15_any.mono ?_
  rintro e v0 ⟨rfl,b0⟩;have B0:Below W0.heap.size W0 v0:=by rw[hW0];exact b0
  have lW:w.heap.size<W0.heap.size:=by rw[hW0];simp
  clear hW0 b0
  go_wp2_with fail
  refine(new_any _).mono ?_
  rintro _ v1 ⟨rfl,F,O1⟩;have B1:=B0.stepL O1.below B0.size;obtain⟨fb,hfb⟩:∃fb,Hid (fb=v0.heap.size):=⟨_,rfl⟩;rw[<-hfb.out]at F ⊢;clear O1 B0;obtain⟨⟨x0,x1,x2,x3,x4,x5⟩,F1⟩:=LB _ B1;simp only at x0 x1 x2 x3 x4 x5
  go_wp2_with fail
  refine(KSm _).mono ?_
  rintro _ v2 ⟨rfl,c2⟩;have B2:=B1.stepL c2 B1.size;have FF:=F.belowF c2;clear c2 B1 F F1 KSm x0 x1 x2 x3 x4 x5;obtain⟨⟨x0,x1,x2,x3,x4,x5⟩,F2⟩:=LB _ B2;simp only at x0 x1 x2 x3 x4 x5;have lV:=Nat.lt_of_lt_of_le lW B2.size;clear B2 LB lW hfb;go_wp2;go_ret;exact⟨rfl,F2⟩
 by_cases d2:a1>8
 ·obtain⟨k,m,z,s,t,o⟩:=c0;have LB:=geo_laid w ⟨k,m,z,s,t,o⟩ 24;rw[EQAG]at KSm ⊢
  go_enter Tryz.func4,Tryz.ntmps4
  go_wp2_with fail
  obtain⟨W0,hW0⟩:∃W0,W0=w.alloc (.cells (cellsG ⟨k,m,z,s,t,o⟩) 24):=⟨_,rfl⟩;rw[<-hW0]at LB;refine awake15_any.mono ?_
  rintro e v0 ⟨rfl,b0⟩;have B0:Below W0.heap.size W0 v0:=by rw[hW0];exact b0
  have lW:w.heap.size<W0.heap.size:=by rw[hW0];simp
  clear hW0 b0
  go_wp2_with fail
  refine(new_any _).mono ?_
  rintro _ v1 ⟨rfl,F,O1⟩;have B1:=B0.stepL O1.below B0.size;obtain⟨fb,hfb⟩:∃fb,Hid (fb=v0.heap.size):=⟨_,rfl⟩;rw[<-hfb.out]at F ⊢;clear O1 B0;obtain⟨⟨x0,x1,x2,x3,x4,x5⟩,F1⟩:=LB _ B1;simp only at x0 x1 x2 x3 x4 x5
  go_wp2_with fail
  refine(KSm _).mono ?_
  rintro _ v2 ⟨rfl,c2⟩;have B2:=B1.stepL c2 B1.size;have FF:=F.belowF c2;clear c2 B1 F F1 KSm x0 x1 x2 x3 x4 x5;obtain⟨⟨x0,x1,x2,x3,x4,x5⟩,F2⟩:=LB _ B2;simp only at x0 x1 x2 x3 x4 x5;have lV:=Nat.lt_of_lt_of_le lW B2.size;clear B2 LB lW hfb;go_wp2;go_ret;exact⟨rfl,F2⟩
 obtain⟨n,hn,n1,n2⟩:∃n:Nat,Hid ((n:Int)=a1)/\1<=n/\n<=32:=⟨a1.toNat,by show((a1.toNat:Nat):Int)=a1;omega,by omega,by omega⟩;have HZ:Hid (okG c0->c0.z<=300):=hz;clear hz;obtain⟨k,m,z,s,t,o⟩:=c0;have LB:=geo_laid w ⟨k,m,z,s,t,o⟩ 24;rw[EQAG]at KSm ⊢
 go_enter Tryz.func4,Tryz.ntmps4
 go_wp2_with fail
 obtain⟨W0,hW0⟩:∃W0,W0=w.alloc (.cells (cellsG ⟨k,m,z,s,t,o⟩) 24):=⟨_,rfl⟩;rw[<-hW0]at LB;refine awake15_any.mono ?_
 rintro e v0 ⟨rfl,b0⟩;have B0:Below W0.heap.size W0 v0:=by rw[hW0];exact b0
 have lW:w.heap.size<W0.heap.size:=by rw[hW0];simp
 clear hW0 b0
 go_wp2_with fail
 refine(new_any _).mono ?_
 rintro _ v1 ⟨rfl,F,O1⟩;have B1:=B0.stepL O1.below B0.size;obtain⟨fb,hfb⟩:∃fb,Hid (fb=v0.heap.size):=⟨_,rfl⟩;rw[<-hfb.out]at F ⊢;clear O1 B0;obtain⟨⟨x0,x1,x2,x3,x4,x5⟩,F1⟩:=LB _ B1;simp only at x0 x1 x2 x3 x4 x5
 go_wp2_with fail
 refine(KSm _).mono ?_
 rintro _ v2 ⟨rfl,c2⟩;have B2:=B1.stepL c2 B1.size;have FF:=F.belowF c2;clear c2 B1 F F1 KSm x0 x1 x2 x3 x4 x5;obtain⟨⟨x0,x1,x2,x3,x4,x5⟩,F2⟩:=LB _ B2;simp only at x0 x1 x2 x3 x4 x5;have lV:=Nat.lt_of_lt_of_le lW B2.size;clear B2 LB lW hfb
 go_wp2_with fail
 rw[<-hn.out];refine(anew_any n1 n2 (by decide) (by decide)).mono ?_
 rintro _ v3 ⟨ab,G1,rfl,A1,H1,B1⟩
 go_wp2_with fail
 refine(rnewA_any n1 n2 (by decide) (by decide) (GA:=G1) A1.lt).mono ?_
 rintro _ v4 ⟨rb,HR,rfl,R2,H2,C2⟩;have START:Hid (∃G a,BothA v2 v4 ab rb G HR a):=⟨G1,_,⟨A1.below C2,H1,Nat.le_trans B1.size C2.size⟩,R2,fun k hk=>Nat.le_trans B1.size (H2 k hk),B1.step12 C2 B1.size⟩;have FB:Hid (Below w.heap.size w v2):=F2;have SC:Hid (RdS15 v2 (.slice a2 z2.length cap2) z2):=w2.below F2;have FL:Hid (FieldAt v2 fb):=FF;have WF:Hid (GeoS.Wf ⟨k,m,z,s,t,o⟩):=w0;obtain⟨gb,hgb⟩:∃gb,Hid (gb=w.heap.size):=⟨_,rfl⟩;rw[<-hgb.out]at x0 x1 x2 x3 x4 x5 lV ⊢;have GX:Hid (∀wx,Below v2.heap.size v2 wx->wx.cell? ⟨gb,0,none⟩=some (.int .i64 k)/\wx.cell? ⟨gb,1,none⟩=some (.int .i64 m)/\wx.cell? ⟨gb,2,none⟩=some (.int .i64 z)/\wx.cell? ⟨gb,3,none⟩=some (.int .i64 s)/\wx.cell? ⟨gb,4,none⟩=some (.int .i64 t)/\wx.cell? ⟨gb,5,none⟩=some (.int .i64 o)):=fun wx b=>⟨(b.cell (p:=⟨gb,0,none⟩) lV).trans x0,(b.cell (p:=⟨gb,1,none⟩) lV).trans x1,(b.cell (p:=⟨gb,2,none⟩) lV).trans x2,(b.cell (p:=⟨gb,3,none⟩) lV).trans x3,(b.cell (p:=⟨gb,4,none⟩) lV).trans x4,(b.cell (p:=⟨gb,5,none⟩) lV).trans x5⟩
 clear A1 H1 B1 R2 H2 C2 hn F2 w2 FF w0 x0 x1 x2 x3 x4 x5 EQAG;go_wp2
 go_loopw [13] (fun i wr=>∃k:Nat,k<=z2.length/\k<=30/\i= .int .i64 (k:Int)/\∃G a,BothA v2 wr ab rb G HR a) (fun i _=>30-(intOf i).toNat)
 case atStart=>exact⟨0,Nat.zero_le _,Nat.zero_le _,rfl,START.out⟩
 case round=>
  obtain⟨k9,hk1,hk2,rfl,G,a,hI⟩:=hrel;clear START
  by_cases hlt:k9<z2.length/\k9<30
  ·obtain⟨hl1,hl2⟩:=hlt;have p1:(k9:Int)<(z2.length:Int):=by omega
   have p2:(k9:Int)<30:=by omega
   have g1:IntKind.i64.wrap ((k9:Int)+1)=((k9+1:Nat):Int):=by rw[IntKind.wrap_i64];omega
   obtain⟨bb,off,rfl,hb,hc⟩:=SC.out.at hl1;obtain⟨c,hcc⟩:∃c,c=z2.getD k9 default:=⟨_,rfl⟩;rw[<-hcc]at hc;clear hcc;have hcw:=hc.below hb hI.B;obtain⟨kd,st,ep,vd,d,⟨ad,cd,cn,cm,cy,cvb,cvk,cb,ck⟩⟩:=c;obtain⟨y0,y1,y2,y3,y4,y5,y6,y7,y8,y9,y10,wk,wn0,wm0,_,_⟩:=hcw;have pd:Rd v2 vd d:=hc.rd;have pv:CallV v2 ⟨ad,cd,cn,cm,cy,cvb,cvk,cb,ck⟩:=hc.cv;obtain⟨_,wd,wn,wm,pb,pk⟩:=pv;simp only at y0 y1 y2 y3 y4 y5 y6 y7 y8 y9 y10 wk wn0 wm0 wd wn wm pb pk;have hcB:CallAtS v2 bb (off+k9*11) ⟨kd,st,ep,vd,d,⟨ad,cd,cn,cm,cy,cvb,cvk,cb,ck⟩⟩:=hc;clear hc;obtain⟨da,dc,rfl⟩:=pd.form;obtain⟨ba,bc,rfl⟩:=pb.form;obtain⟨ka,kc,rfl⟩:=pk.form;have hks:Hid (∀r∈ck,r.2.length<=9223372036854775807):=fun r hr=>pk.short hr
   by_cases hl:d.length>60
   ·have q:(d.length:Int)>60:=by omega
    have E5:Hid (∃G a,BothA v2 wr ab rb G HR a):=⟨G,a,hI⟩;clear hI pd pb pk wd wn wm hcB;go_wp2;go_roundw
    case rel=>exact⟨k9+1,by omega,by omega,by go_num,E5.out⟩
    case measure=>simp[intOf];omega
   ·have q:¬(d.length:Int)>60:=by omega
    have hD:=hI.below (Below.refl wr.heap.size wr).drew;have KD:=did15_any (kd:=kd) (ep:=ep) (ad:=ad) (cy:=cy) hD FL.out WF.out HZ.out wn0 pd pb pk wd wn wm hks.out;have lb:bb<wr.heap.size:=Nat.lt_of_lt_of_le hb hI.B.size;have GW:=GX.out wr hI.B;obtain⟨x0,x1,x2,x3,x4,x5⟩:=GW;have CAT:Hid (∀wx:World,Below v2.heap.size v2 wx->wx.cell? ⟨gb,0,none⟩=some (.int .i64 k)/\wx.cell? ⟨gb,1,none⟩=some (.int .i64 m)/\wx.cell? ⟨gb,2,none⟩=some (.int .i64 z)/\wx.cell? ⟨gb,3,none⟩=some (.int .i64 s)/\wx.cell? ⟨gb,4,none⟩=some (.int .i64 t)/\wx.cell? ⟨gb,5,none⟩=some (.int .i64 o)/\wx.cell? ⟨bb,off+k9*11,none⟩=some (.int .i64 kd)/\wx.cell? ⟨bb,off+k9*11+1,none⟩=some (.int .i64 st)/\wx.cell? ⟨bb,off+k9*11+2,none⟩=some (.int .i64 ep)/\wx.cell? ⟨bb,off+k9*11+3,none⟩=some (.slice da d.length dc)/\wx.cell? ⟨bb,off+k9*11+4,none⟩=some (.int .i64 ad)/\wx.cell? ⟨bb,off+k9*11+5,none⟩=some (.int .i64 cd)/\wx.cell? ⟨bb,off+k9*11+6,none⟩=some (.int .i64 cn)/\wx.cell? ⟨bb,off+k9*11+7,none⟩=some (.int .i64 cm)/\wx.cell? ⟨bb,off+k9*11+8,none⟩=some (.int .u8 ((cy.toNat:Nat):Int))/\wx.cell? ⟨bb,off+k9*11+9,none⟩=some (.slice ba cb.length bc)/\wx.cell? ⟨bb,off+k9*11+10,none⟩=some (.slice ka ck.length kc)):=fun wx b=>by
     have h6:=hcB.below hb b;obtain⟨e0,e1,e2,e3,e4,e5⟩:=GX.out wx b;exact⟨e0,e1,e2,e3,e4,e5,h6.s0,h6.s1,h6.s2,h6.s3,h6.s4,h6.s5,h6.s6,h6.s7,h6.s8,h6.s9,h6.s10⟩
    clear hI hD pd pb pk wd wn wm lb hcB
    go_wp2_with fail
    go_region_held3 (fun wx=>wx.cell? ⟨gb,0,none⟩=some (.int .i64 k)/\wx.cell? ⟨gb,1,none⟩=some (.int .i64 m)/\wx.cell? ⟨gb,2,none⟩=some (.int .i64 z)/\wx.cell? ⟨gb,3,none⟩=some (.int .i64 s)/\wx.cell? ⟨gb,4,none⟩=some (.int .i64 t)/\wx.cell? ⟨gb,5,none⟩=some (.int .i64 o)/\wx.cell? ⟨bb,off+k9*11,none⟩=some (.int .i64 kd)/\wx.cell? ⟨bb,off+k9*11+1,none⟩=some (.int .i64 st)/\wx.cell? ⟨bb,off+k9*11+2,none⟩=some (.int .i64 ep)/\wx.cell? ⟨bb,off+k9*11+3,none⟩=some (.slice da d.length dc)/\wx.cell? ⟨bb,off+k9*11+4,none⟩=some (.int .i64 ad)/\wx.cell? ⟨bb,off+k9*11+5,none⟩=some (.int .i64 cd)/\wx.cell? ⟨bb,off+k9*11+6,none⟩=some (.int .i64 cn)/\wx.cell? ⟨bb,off+k9*11+7,none⟩=some (.int .i64 cm)/\wx.cell? ⟨bb,off+k9*11+8,none⟩=some (.int .u8 ((cy.toNat:Nat):Int))/\wx.cell? ⟨bb,off+k9*11+9,none⟩=some (.slice ba cb.length bc)/\wx.cell? ⟨bb,off+k9*11+10,none⟩=some (.slice ka ck.length kc)) (first|exact⟨x0,x1,x2,x3,x4,x5,y0,y1,y2,y3,y4,y5,y6,y7,y8,y9,y10⟩|exact m6) (first
     |(go_at_call 14;(refine KD.mono ?_);rintro _ v6 ⟨rfl,G6,a6,I6⟩;have m6:=CAT.out v6 I6.B))
    all_goals
     clear m6 KD x0 x1 x2 x3 x4 x5 y0 y1 y2 y3 y4 y5 y6 y7 y8 y9 y10 CAT
     go_wp2_with fail
     refine(showsA_any I6).mono ?_
     rintro _ v7 ⟨rfl,I7⟩;have E5:Hid (∃G a,BothA v2 v7 ab rb G HR a):=⟨G6,a6,I7⟩;clear I6 I7;go_wp2;go_roundw
     case rel=>exact⟨k9+1,by omega,by omega,by go_num,E5.out⟩
     case measure=>simp[intOf];omega
  ·have FE:Hid (Below w.heap.size w wr):=FB.out.trans (hI.B.mono FB.out.size);clear hI
   by_cases hl1:k9<z2.length
   ·have p1:(k9:Int)<(z2.length:Int):=by omega
    have p2:¬(k9:Int)<30:=by omega
    go_wp2;go_ret;exact⟨rfl,FE.out⟩
   ·have p1:¬(k9:Int)<(z2.length:Int):=by omega
    go_wp2;go_ret;exact⟨rfl,FE.out⟩
set_option maxRecDepth 100000 in
set_option maxHeartbeats 2000000 in
theorem lifted(os:Os)(started:os.Started)(H:Type)(enc:TypeId×Value->H):
  ReturnsInHanded {} Tryz.checked os 4 .any (Rows.stripeioPlaysSpec.pre6 enc Tryz.prog Tryz.f4 Rows.stripeioPlaysRow.domain false) (Rows.stripeioPlaysSpec.post enc Tryz.prog Tryz.f4 false true false false):=by
 refine returnsInHanded_of_change (C:=Tryz.checked) own started (by kernel_rfl) Tryz.func4
  (ChangeSpec.witness6 (enc:=enc) (C:=Tryz.checked) false ⟨#[],#[.agg #[.int .i64 0,.int .i64 0,.int .i64 0,.int .i64 0,.int .i64 0,.int .i64 0],.int .i64 0,.slice none 0 0],[]⟩ 8 (by kernel_rfl) (by kernel_rfl) (by kernel_rfl) (by kernel_rfl)) ?_
 intro W base args ds gs before hval0 hW hcnd _;have hval:∀(j:Nat) t v,Tryz.f4.params[j]? =some t->args[j]? =some v->Value.okWide Tryz.prog W .any base t v:=hval0
 have hW':=hW;obtain⟨p,q,hA0,hV,rfl,hfz,hnd⟩:=hW;have hA:DataW.TrodAll enc Tryz.prog W 0 (fun _=>true) true Tryz.f4.params.toList args.toList ds p:=hA0;rw[Tryz.params4]at hA hval;obtain⟨v0,vs0,d0,ds0,p0,q0,hargs,rfl,rfl,h0,r0⟩:=trodAll_cons hA;obtain⟨v1,vs1,d1,ds1,p1,q1,rfl,rfl,rfl,h1,r1⟩:=trodAll_cons r0;obtain⟨v2,vs2,d2,ds2,p2,q2,rfl,rfl,rfl,h2,r2⟩:=trodAll_cons r1;obtain⟨rfl,rfl,rfl⟩:=trodAll_nil r2;obtain rfl:args= #[v0,v1,v2]:=by cases args;simp_all
 obtain⟨rfl,rfl⟩:=trodVars_none hV;have k0:=h0;have lt0:∀x∈p0,x.block<W.heap.size:=by obtain⟨m,hm⟩:=k0;exact DataW.trod_lt m _ _ _ hm
 obtain⟨c0,rfl,w0⟩:=open_geo Tryz.underlying24 (by kernel_rfl) rfl rfl rfl rfl rfl rfl (by kernel_rfl) (by kernel_rfl) (by kernel_rfl) (by kernel_rfl) (by kernel_rfl) (by kernel_rfl) (by kernel_rfl) (by kernel_rfl) (by kernel_rfl) (by kernel_rfl) (by kernel_rfl) (by kernel_rfl) (hval 0 24 v0 rfl rfl) h0;obtain⟨a1,rfl,rfl,rfl,w1⟩:=open_int Tryz.underlying3 (hval 1 3 v1 rfl rfl) h1;obtain⟨a2,len2,cap2,rfl⟩:=okWide_slice Tryz.underlying25 (hval 2 25 v2 rfl rfl);have k2:=h2;have lt2:∀x∈p2,x.block<W.heap.size:=by obtain⟨m,hm⟩:=k2;exact DataW.trod_lt m _ _ _ hm
 obtain⟨z2,w2⟩:∃zs,RdS15 W (.slice a2 len2 cap2) zs:=by
  obtain⟨fuel,hf⟩:=h2;obtain⟨a9,l9,c9,L9,hcs,_,hR⟩:=open_scalls (sb:=5) (ss:=45) (si:=3) Tryz.underlying25 Tryz.underlying41 (by kernel_rfl) rfl rfl rfl rfl rfl (by kernel_rfl) (by kernel_rfl) (by kernel_rfl) (by kernel_rfl) (by kernel_rfl) (by kernel_rfl) (by kernel_rfl) (by kernel_rfl) (by kernel_rfl) Tryz.underlying39 rfl rfl rfl rfl rfl rfl rfl (by kernel_rfl) (by kernel_rfl) (by kernel_rfl) (by kernel_rfl) (by kernel_rfl) (by kernel_rfl) (by kernel_rfl) (by kernel_rfl) (by kernel_rfl) (by kernel_rfl) (by kernel_rfl) (by kernel_rfl) (by kernel_rfl) (by kernel_rfl) (by kernel_rfl) (by kernel_rfl) (by kernel_rfl) (by kernel_rfl) (by kernel_rfl) (by kernel_rfl) hf;simp[Value.cells]at hcs;obtain⟨rfl,rfl,rfl⟩:=hcs;exact⟨L9,hR⟩
 clear hA0 hval0;refine(walk c0 a1 a2 len2 cap2 z2 W w0 w1 w2).mono fun e W' ⟨he,bel⟩=>?_
 subst he;exact⟨_,rfl,_,_,_,[],_,[],hW',trodAll_mk1 (shut_bool Tryz.underlying4 _),(trodAll_cons_mk (Below.trod laidOut (by kernel_rfl) (of_decide_eq_true (by kernel_rfl)) k0 bel lt0) (trodAll_cons_mk (shut_int Tryz.underlying3 w1) (trodAll_cons_mk (Below.trod laidOut (by kernel_rfl) (of_decide_eq_true (by kernel_rfl)) k2 bel lt2) trodAll_mk0))),rfl,bel.frame _,fun h=>by cases h⟩
theorem over:Rows.stripeioPlaysRow.holds Tryz.pinned (OpenSpec.ofChange Rows.stripeioPlaysSpec):=
 OpenClaim.holds_of_wide 4 Tryz.f4 rfl rfl rfl rfl rfl rfl rfl ⟨rfl,rfl,rfl,rfl,rfl⟩ rfl rfl rfl rfl rfl (by kernel_rfl) Tryz.func4 (by kernel_rfl)
  (of_decide_eq_true (by kernel_rfl)) (by unfold Func.isWrapper;first|(rw[if_pos (by decide+kernel)];kernel_rfl)|(rw[if_neg (by decide+kernel)];exact⟨rfl,rfl⟩))
  (fun os started H enc _=>lifted os started H enc)
theorem proved:Rows.StripeioPlaysSaid:=over
end Go.Proofs.YtddnfhfangfgeaaGreat.stripeioPlays
namespace Go.Proofs.YtddnfhfangfgeaaGreat
theorem stripeioPlays_holds:Rows.StripeioPlaysSaid:=stripeioPlays.proved
#print axioms stripeioPlays_holds
end Go.Proofs.YtddnfhfangfgeaaGreat
