/- JOINED: StRefW, StTwo, StRefL, StRefR, StRefF. -/
import Derived.Test.YtddnfhfangfgeaaGreatPome30
import Derived.Test.YtddnfhfangfgeaaGreatPome16
set_option maxHeartbeats 8000000
set_option maxRecDepth 100000
namespace Go.Proofs.YtddnfhfangfgeaaGreat.Gf
set_option linter.unusedVariables false
set_option linter.unusedSimpArgs false
open Go.RowKit
theorem GeoAt.turn{w w':World}{b:Nat}{g:GeoS}{G:Nat->Prop}(h:GeoAt w b g)(hb:b<w.heap.size)(hg:¬G b)(t:TurnG G w w'):GeoAt w' b g:=
 ⟨(t.cell (p:=⟨b,0,none⟩) hb hg).trans h.1,(t.cell (p:=⟨b,1,none⟩) hb hg).trans h.2.1,(t.cell (p:=⟨b,2,none⟩) hb hg).trans h.2.2.1,(t.cell (p:=⟨b,3,none⟩) hb hg).trans h.2.2.2.1,(t.cell (p:=⟨b,4,none⟩) hb hg).trans h.2.2.2.2.1,(t.cell (p:=⟨b,5,none⟩) hb hg).trans h.2.2.2.2.2⟩
theorem RaAt.ltR{w:World}{rb:Nat}{HR GA:Nat->Prop}{a:ArS}(h:RaAt w rb HR GA a):∀k,HR k->k<w.heap.size:=by
 obtain⟨_,_,_,_,_,hI⟩:=h;exact hI.1.lt
theorem parT_small{g:GeoS}{D:List UInt8}(hok:okG g)(hD:LenT g D)(hz:g.z<=300):Small (parT g D):=by
 have z:=okG_nat hok;refine⟨by rw[parT_length];unfold nT at z;omega,fun i=>?_⟩
 by_cases hi:i<g.k.toNat
 ·rw[parT_row hD hok hi];omega
 ·rw[ro_ge (by rw[parT_length];omega)];simp
theorem rwrite15_any{w:World}{rb:Nat}{HR GA:Nat->Prop}{a:ArS}(h:RaAt w rb HR GA a){g:GeoS}(hg:g.Wf){st ep:Int}(hst:(Lit.int .i64 st).wf=true){v:Value}{D:List UInt8}(hp:Rd w v D)(hz:okG g->g.z<=300):
  Calls Tryz.prog 35 #[.pointer (some ⟨rb,0,none⟩),aggG g,.int .i64 st,.int .i64 ep,v] w (LeavesRA w rb HR GA (swS a g st ep D) (.int .i64 (swX a g st ep D))):=by
 obtain⟨c,hc⟩:∃c,Hid (ckT g st ep=c):=⟨_,rfl⟩;have KC:=fun W=>@rck15_any W g hg st ep c hc.out
 by_cases hT:OkT g st ep
 rotate_left
 ·have e1:swX a g st ep D=c:=by unfold swX;rw[if_neg hT];exact hc.out
  have e2:swS a g st ep D=a:=if_neg fun q=>hT q.1
  have c0:¬c=0:=by rw[<-hc.out];exact ckT_not hT
  rw[e1,e2];clear e1 e2 hc;obtain⟨k,m,z,s,t,o⟩:=g;have LA:=geo_laid w ⟨k,m,z,s,t,o⟩;rw[aggE]at KC ⊢;obtain⟨va,vc,rfl⟩:=hp.form
  go_enter Tryz.func35,Tryz.ntmps35
  go_wp2_with fail
  refine(KC _).mono ?_
  rintro _ w1 ⟨rfl,B1⟩;obtain⟨_,F1⟩:=LA _ _ B1;clear B1 LA KC;go_wp2;go_ret;exact⟨rfl,h.below F1,Below.turnG F1 HR⟩
 have c0:c=0:=by rw[<-hc.out];exact ckT_ok hT
 subst c0;clear hc
 by_cases hD:LenT g D
 rotate_left
 ·have e1:swX a g st ep D=1:=by unfold swX;rw[if_pos hT,if_neg hD]
  have e2:swS a g st ep D=a:=if_neg fun q=>hD q.2
  rw[e1,e2];clear e1 e2;have op:=one_pos hT.1;obtain⟨k,m,z,s,t,o⟩:=g;simp only at op;have hl:¬(D.length:Int)=k*z:=hD;obtain⟨c,hc⟩:∃c,Hid (c=k*z):=⟨_,rfl⟩;rw[<-hc.out]at op hl;have gk:IntKind.i64.wrap (k*z)=c:=by rw[<-hc.out,IntKind.wrap_i64];omega
  have hl2:((D.length:Int)!=c)=true:=by simp[hl]
  have LA:=geo_laid w ⟨k,m,z,s,t,o⟩;rw[aggE]at KC ⊢;obtain⟨va,vc,rfl⟩:=hp.form
  go_enter Tryz.func35,Tryz.ntmps35
  go_wp2_with fail
  refine(KC _).mono ?_
  rintro _ w1 ⟨rfl,B1⟩;obtain⟨⟨x0,x1,x2,x3,x4,x5⟩,F1⟩:=LA _ _ B1;simp only at x0 x1 x2 x3 x4 x5;clear B1 LA KC;go_wp2;go_ret;exact⟨rfl,h.below F1,Below.turnG F1 HR⟩
 have zz:=okG_nat hT.1;have hE:=encR_parT hD hT.1;have hsm:=parT_small hT.1 hD (hz hT.1);have hev:=parT_even hD hT.1;obtain⟨N,hN⟩:∃N,Hid (N=nT g):=⟨_,rfl⟩;obtain⟨AR,hAR⟩:∃AR:Nat->ArS,Hid (AR=psT a g st ep (shT g D) (List.range (nT g))):=⟨_,rfl⟩;have AR0:AR 0=a:=by rw[hAR.out];rfl
 have ARs:∀r,r<N->AR (r+1)=puS (AR r) g st ep r (ro (shT g D) r):=fun r hr=>by
  rw[hN.out]at hr;rw[hAR.out]
  show puS _ _ _ _ ((List.range (nT g)).getD r 0) (ro _ ((List.range (nT g)).getD r 0))=_
  rw[show(List.range (nT g)).getD r 0=r by simp[List.getD,hr]]
 have SX:Hid (∀r,r<N->(AR r).off=true->swX a g st ep D=130/\swS a g st ep D=AR r):=fun r hr ho=>by
  rw[hN.out]at hr;rw[hAR.out]at ho ⊢;obtain⟨q1,q2⟩:=pc_at (B:=List.range (nT g)) (by rw[List.length_range];exact hr) ho;rw[List.length_range]at q2;refine⟨?_,?_⟩
  ·unfold swX;rw[if_pos hT,if_pos hD,q1];rfl
  ·unfold swS;rw[if_pos ⟨hT,hD⟩];exact q2
 have SN:Hid ((∀r,r<N->(AR r).off=false)->swX a g st ep D=0/\swS a g st ep D=AR N):=fun ho=>by
  refine⟨?_,?_⟩
  ·unfold swX;rw[if_pos hT,if_pos hD,pc_end (fun i hi=>by rw[List.length_range]at hi;rw[<-hAR.out];exact ho i (by rw[hN.out];exact hi))];rfl
  ·unfold swS;rw[if_pos ⟨hT,hD⟩,hAR.out,hN.out]
 have hrow:∀r,r<N->(ro (shT g D) r).length<=4096:=fun r hr=>by rw[hN.out]at hr;rw[shT_row hD hT.1 hr];omega
 have hrN:∀r,r<N->r<nT g:=fun r hr=>by rw[hN.out]at hr;exact hr
 have hN1:N<=32:=by rw[hN.out];exact zz.2.2.2.2.1
 have hlen:Hid ((shT g D).length=N):=by show _=_;rw[shT_length,hN.out]
 have KP:=fun W (hr:Rd W v D)=>rparts15_any (w:=W) hg hT.1 hr hD
 have KE:∀W vp,Rs W vp (parT g D)->Calls Tryz.prog 66 #[.int .i64 g.k,.int .i64 g.m,vp] W (MakesFar W 0 (shT g D)):=fun W vp hr=>by
  have:=renc_far (w:=W) (v:=vp) (k:=g.k.toNat) (m:=g.m.toNat) zz.2.2.2.1 (by have:=zz.2.2.2.2.1;unfold nT at this;omega) hr parT_length hev hsm zz.1.symm zz.2.1.symm;exact this
 have op:=one_pos hT.1;obtain⟨k,m,z,s,t,o⟩:=g;simp only at op KE;have hl:(D.length:Int)=k*z:=hD;have gk:IntKind.i64.wrap (k*z)=(D.length:Int):=by rw[<-hl,IntKind.wrap_i64];omega
 have LB:=geo_laid w ⟨k,m,z,s,t,o⟩ 24;rw[aggE]at KC KP ⊢;obtain⟨L,hL⟩:∃L,Hid (L=shT ⟨k,m,z,s,t,o⟩ D):=⟨_,rfl⟩;rw[<-hL.out]at ARs KE hrow hlen;obtain⟨P,hP⟩:∃P,Hid (P=parT ⟨k,m,z,s,t,o⟩ D):=⟨_,rfl⟩;rw[<-hP.out]at KE KP;obtain⟨va,vc,rfl⟩:=hp.form;obtain⟨dn,hdn⟩:∃dn,Hid (dn=D.length):=⟨_,rfl⟩;rw[<-hdn.out]at gk KP ⊢;have HP:Hid (Rd w (.slice va dn vc) D):=by rw[hdn.out];exact hp
 have HA:Hid (RaAt w rb HR GA a):=h;clear hE hsm hev zz hz op hl hp h hD
 go_enter Tryz.func35,Tryz.ntmps35
 go_wp2_with fail
 obtain⟨W0,hW0⟩:∃W0,W0=w.alloc (.cells (cellsG ⟨k,m,z,s,t,o⟩) 24):=⟨_,rfl⟩;rw[<-hW0]at LB;have gb:Hid (w.heap.size<W0.heap.size):=by rw[hW0];show _<_;simp
 refine(KC _).mono ?_
 rintro _ v1 ⟨rfl,b1⟩;replace b1:Below W0.heap.size W0 v1:=by rw[hW0];exact b1
 clear hW0 KC;have HAR0:Hid (AR 0=a):=AR0;have HARs:Hid (∀r,r<N->AR (r+1)=puS (AR r) ⟨k,m,z,s,t,o⟩ st ep r (ro L r)):=ARs;have Hrow:Hid (∀r,r<N->(ro L r).length<=4096):=hrow;have HrN:Hid (∀r,r<N->r<nT ⟨k,m,z,s,t,o⟩):=hrN;clear AR0 ARs hrow hrN;obtain⟨⟨x0,x1,x2,x3,x4,x5⟩,F1⟩:=LB _ b1;simp only at x0 x1 x2 x3 x4 x5
 go_upto_region 6 with fail
 have s1:=(LB _ b1).1;have BD:Below W0.heap.size W0 v1.drew:=b1.drew;have sD:=(LB _ BD).1;have FD:=(LB _ BD).2;clear x0 x1 x2 x3 x4 x5 F1
 go_region_held3 (fun wx=>wx.cell? ⟨w.heap.size,0,none⟩=some (.int .i64 k)/\wx.cell? ⟨w.heap.size,1,none⟩=some (.int .i64 m)/\wx.cell? ⟨w.heap.size,2,none⟩=some (.int .i64 z)/\wx.cell? ⟨w.heap.size,3,none⟩=some (.int .i64 s)/\wx.cell? ⟨w.heap.size,4,none⟩=some (.int .i64 t)/\wx.cell? ⟨w.heap.size,5,none⟩=some (.int .i64 o)) (first|exact s1|exact sD|exact s2|exact s3) (first
  |(go_at_call 67;go_loud (refine(KP _ (HP.out.below FD)).mono ?_);rintro _ v2 ⟨vp,rfl,R2,b2⟩;have B2:=BD.stepL b2 BD.size;have s2:=(LB _ B2).1;obtain⟨pa,pc,rfl⟩:=R2.form)
  |(go_at_call 66;go_loud (refine(KE _ _ R2).mono ?_);rintro _ v3 ⟨vs,rfl,R3,b3⟩;have B3:=B2.stepL b3 B2.size;have s3:=(LB _ B3).1;obtain⟨sa,sc,rfl⟩:=R3.form))
 have hL1:0<L.length:=by rw[hlen.out];have:=HrN.out;have:=nT_pos hT.1;rw[hN.out];omega
 have F3:=(LB _ B3).2;have hHR:∀q,HR q->q<w.heap.size:=HA.out.ltR;have TL:Hid (ToldL v3 HR (.slice sa L.length sc) L):=ToldL.far R3 (fun q hq=>Zu (hHR q hq) ((LB _ B2).2.size));have G3:Hid (GeoAt v3 w.heap.size ⟨k,m,z,s,t,o⟩/\w.heap.size<v3.heap.size/\¬HR w.heap.size):=⟨s3,Zu gb.out B3.size,fun q=>Nat.lt_irrefl _ (hHR _ q)⟩;have A3:Hid (RaAt v3 rb HR GA (AR 0)):=by rw[HAR0.out];exact HA.out.below F3
 have T3:Hid (TurnG HR w v3):=Below.turnG F3 HR;obtain⟨xb,xo,xcap,esx,_⟩:=R3.rs.somewhere hL1;simp at esx;obtain⟨rfl,rfl⟩:=esx;clear s1 sD s2 s3 b1 b2 b3 B2 BD FD R2 R3 F3 B3 hHR HA;go_wp2
 go_loopw [14] (fun i wr=>∃r:Nat,r<=L.length/\i= .int .i64 (r:Int)/\RaAt wr rb HR GA (AR r)/\TurnG HR v3 wr/\∀j,j<r->(AR j).off=false) (fun i _=>L.length-(intOf i).toNat)
 case atStart=>exact⟨0,Zz,rfl,A3.out,TurnG.refl _ _,fun j hj=>absurd hj (Nat.not_lt_zero _)⟩
 case round=>
  clear A3;obtain⟨r,hr,rfl,hA,hTu,hoff⟩:=hrel
  by_cases hlt:r<L.length
  ·have hlt':(r:Int)<(L.length:Int):=by omega
   have hrn:Hid (r<N):=by rw[<-hlen.out];exact hlt
   have g1:IntKind.i64.wrap ((r:Int)+1)=((r+1:Nat):Int):=by rw[IntKind.wrap_i64];have:=hlen.out;omega
   obtain⟨xa,xc,cx,Tx,xlt,xng⟩:=(TL.out.turn hTu).spot hlt rfl;obtain⟨LN,hLN⟩:∃LN,Hid (LN=(ro L r).length):=⟨_,rfl⟩;rw[<-hLN.out]at cx Tx;have GG:=G3.out.1.turn G3.out.2.1 G3.out.2.2 hTu;obtain⟨x0,x1,x2,x3,x4,x5⟩:=GG;simp only at x0 x1 x2 x3 x4 x5;have s0:wr.cell? ⟨xb,xo+r,none⟩=some (.slice xa LN xc)/\GeoAt wr w.heap.size ⟨k,m,z,s,t,o⟩:=⟨cx,x0,x1,x2,x3,x4,x5⟩;have bD:Below wr.heap.size wr wr.drew:=Zf.drew;have sD:wr.drew.cell? ⟨xb,xo+r,none⟩=some (.slice xa LN xc)/\GeoAt wr.drew w.heap.size ⟨k,m,z,s,t,o⟩:=⟨cx,x0,x1,x2,x3,x4,x5⟩;have hgsz:Hid (w.heap.size<wr.heap.size):=Zu G3.out.2.1 hTu.size;obtain⟨px,hpx⟩:∃px,Hid (puX (AR r) ⟨k,m,z,s,t,o⟩ st ep r (ro L r)=px):=⟨_,rfl⟩;obtain⟨AN,hAN⟩:∃AN,Hid (puS (AR r) ⟨k,m,z,s,t,o⟩ st ep r (ro L r)=AN):=⟨_,rfl⟩;have KU:Calls Tryz.prog 68 #[.pointer (some ⟨rb,0,none⟩),.agg #[.int .i64 k,.int .i64 m,.int .i64 z,.int .i64 s,.int .i64 t,.int .i64 o],.int .i64 st,.int .i64 ep,.int .i64 (r:Int),.slice xa LN xc] wr.drew (LeavesRA wr.drew rb HR GA AN (.int .i64 px)):=by
    have:=rput15_any (hA.below bD) hg hT (HrN.out r hrn.out) (Tx.rd.below bD) (Hrow.out r hrn.out) hst;rw[hpx.out,hAN.out]at this;exact this
   have s4:Hid (∀w4,TurnG HR wr.drew w4->w4.cell? ⟨xb,xo+r,none⟩=some (.slice xa LN xc)/\GeoAt w4 w.heap.size ⟨k,m,z,s,t,o⟩):=fun w4 T4=>⟨(T4.cell (p:=⟨xb,xo+r,none⟩) xlt xng).trans sD.1,sD.2.turn hgsz.out G3.out.2.2 T4⟩
   clear cx Tx x0 x1 x2 x3 x4 x5 hA bD
   by_cases ho:(AR r).off=true
   ·have e1:px=130:=by rw[<-hpx.out];exact puX_crash.2 ho
    have e2:AN=AR r:=by rw[<-hAN.out];exact puS_off ho _ _
    subst e1 e2;have E9:Hid _:=SX.out r hrn.out ho
    go_wp2_with fail
    go_region_held3 (fun wx=>wx.cell? ⟨xb,xo+r,none⟩=some (.slice xa LN xc)/\wx.cell? ⟨w.heap.size,0,none⟩=some (.int .i64 k)/\wx.cell? ⟨w.heap.size,1,none⟩=some (.int .i64 m)/\wx.cell? ⟨w.heap.size,2,none⟩=some (.int .i64 z)/\wx.cell? ⟨w.heap.size,3,none⟩=some (.int .i64 s)/\wx.cell? ⟨w.heap.size,4,none⟩=some (.int .i64 t)/\wx.cell? ⟨w.heap.size,5,none⟩=some (.int .i64 o)) (first|exact s0|exact sD|exact s5) (first
     |(go_at_call 68;go_loud (refine KU.mono ?_);rintro _ w4 ⟨rfl,A4,T4⟩;have s5:=s4.out _ T4))
    have HA4:Hid _:=A4;have HT4:Hid (TurnG HR w w4):=T3.out.trans ((hTu.drew).trans T4);clear s0 sD s5 KU A4 T4;go_wp2;go_ret;exact⟨by rw[E9.out.1];rfl,by rw[E9.out.2];exact HA4.out,HT4.out⟩
   ·have ho':(AR r).off=false:=by simpa using ho
    have e1:¬px=130:=by rw[<-hpx.out];exact fun e=>ho (puX_crash.1 e)
    have e2:Hid (AN=AR (r+1)):=by rw[<-hAN.out];exact(HARs.out r hrn.out).symm
    have H2:Hid (∀j,j<r+1->(AR j).off=false):=fun j hj=>by
     by_cases e:j=r
     ·rw[e];exact ho'
     ·exact hoff j Zo
    clear hoff ho ho'
    go_wp2_with fail
    go_region_held3 (fun wx=>wx.cell? ⟨xb,xo+r,none⟩=some (.slice xa LN xc)/\wx.cell? ⟨w.heap.size,0,none⟩=some (.int .i64 k)/\wx.cell? ⟨w.heap.size,1,none⟩=some (.int .i64 m)/\wx.cell? ⟨w.heap.size,2,none⟩=some (.int .i64 z)/\wx.cell? ⟨w.heap.size,3,none⟩=some (.int .i64 s)/\wx.cell? ⟨w.heap.size,4,none⟩=some (.int .i64 t)/\wx.cell? ⟨w.heap.size,5,none⟩=some (.int .i64 o)) (first|exact s0|exact sD|exact s5) (first
     |(go_at_call 68;go_loud (refine KU.mono ?_);rintro _ w4 ⟨rfl,A4,T4⟩;have s5:=s4.out _ T4))
    have HA4:Hid (RaAt w4 rb HR GA (AR (r+1))):=by rw[<-e2.out];exact A4
    have HT4:Hid (TurnG HR v3 w4):=(hTu.drew).trans T4;clear s0 sD s5 KU A4 T4 hTu;go_wp2;go_roundw
    case rel=>exact⟨r+1,Zo,Zg,HA4.out,HT4.out,H2.out⟩
    case measure=>simp[intOf];omega
  ·obtain rfl:r=L.length:=by omega
   have hlt':¬(L.length:Int)<(L.length:Int):=Zo
   have E9:Hid _:=SN.out (fun j hj=>hoff j (by rw[hlen.out];exact hj));have HA4:Hid (RaAt wr rb HR GA (AR N)):=by rw[<-hlen.out];exact hA
   have HT4:Hid (TurnG HR w wr):=T3.out.trans hTu;clear hA hTu hoff;go_wp2;go_ret;exact⟨by rw[E9.out.1];rfl,by rw[E9.out.2];exact HA4.out,HT4.out⟩
structure TwoR(w:World)(base:Nat)(vh:Value)(hs:List Bool)(vs:Value)(L:List (List UInt8))(vals:List Value):Prop where
 hr:OwnB w base 4 vh hs
 vr:Vs w base 36 vs L vals
 df:∀g,vh.ownBlock=some g->vs.ownBlock≠some g
 ax:∀(i:Nat) (x:Value),vals[i]? =some x->∀g,vh.ownBlock=some g->Apart g x
section
variable {w w2:World} {base:Nat} {vh vh' vs vs' x:Value} {hs:List Bool} {L:List (List UInt8)} {vals:List Value} {p:List UInt8} {b:Bool}
theorem TwoR.nil(w:World)(base:Nat):TwoR w base (.slice none 0 0) [] (.slice none 0 0) [] []:=⟨OwnB.nil _ _ _,Vs.nil _ _ _,(fun g h=>by cases h),(fun i x h=>by simp at h)⟩
theorem TwoR.below(h:TwoR w base vh hs vs L vals)(hb:Below w.heap.size w w2):TwoR w2 base vh hs vs L vals:=⟨owns_later h.hr hb,h.vr.below hb,h.df,h.ax⟩
theorem ne_or{a b:Option Nat}(h:∀g,a=some g->b≠some g):a=none∨a≠b:=by
 cases a with
 |none=>exact Or.inl rfl
 |some g=>exact Or.inr fun e=>h g rfl e.symm
theorem TwoR.pushH(h:TwoR w base vh hs vs L vals)(hr:OwnB w2 base 4 vh' (hs++[b]))(g:w.grownBy w2 vh.ownBlock)(e:vh'.ownBlock=vh.ownBlock∨vh'.ownBlock=some w.heap.size):TwoR w2 base vh' (hs++[b]) vs L vals:=by
 have hvs:vs.ownBlock=none∨vs.ownBlock≠vh.ownBlock:=ne_or fun q hq e2=>h.df q e2 hq
 refine⟨hr,⟨World.ownsRow.kept h.vr.row g hvs,fun i x hx=>(h.vr.each i x hx).grownV g (h.ax i x hx),h.vr.ap⟩,fun q hq e2=>?_,fun i x hx q hq=>?_⟩
 ·rcases e with e|e
  ·rw[e]at hq;exact h.df q hq e2
  ·rw[e]at hq;simp at hq;have:=(Zv h.vr.row q e2).2;omega
 ·rcases e with e|e
  ·rw[e]at hq;exact h.ax i x hx q hq
  ·rw[e]at hq;simp at hq;exact(h.vr.each i x hx).apart Zo
theorem TwoR.pushV(h:TwoR w base vh hs vs L vals)(hx:Rd w x p)(hxa:∀g,vs.ownBlock=some g∨vh.ownBlock=some g->Apart g x)(hr:w2.ownsRow base 36 1 vs' (L.length+1) (vals++[x]))(g:w.grownBy w2 vs.ownBlock)(e:vs'.ownBlock=vs.ownBlock∨vs'.ownBlock=some w.heap.size):TwoR w2 base vh hs vs' (L++[p]) (vals++[x]):=by
 refine⟨World.ownsRow.kept h.hr g (ne_or fun q hq=>h.df q hq),h.vr.push hx (fun q hq=>hxa q (Or.inl hq)) hr g e,fun q hq e2=>?_,fun i y hy q hq=>?_⟩
 ·rcases e with e|e
  ·rw[e]at e2;exact h.df q hq e2
  ·rw[e]at e2;simp at e2;have:=(Zv h.hr q hq).2;omega
 ·by_cases hi:i<vals.length
  ·rw[List.getElem?_append_left hi]at hy;exact h.ax i y hy q hq
  ·rw[List.getElem?_append_right Zo]at hy;have e0:i-vals.length=0:=by
    rcases Nat.eq_zero_or_pos (i-vals.length)with e|e
    ·exact e
    ·rw[List.getElem?_eq_none Zm]at hy;cases hy
   rw[e0]at hy;simp at hy;subst hy;exact hxa q (Or.inr hq)
theorem TwoR.lt(h:TwoR w base vh hs vs L vals){q:Nat}(hq:vs.ownBlock=some q∨vh.ownBlock=some q):base<=q/\q<w.heap.size:=by
 rcases hq with hq|hq
 ·exact Zv h.vr.row q hq
 ·exact Zv h.hr q hq
theorem TwoR.both(h:TwoR w base vh hs vs L vals)(hx:Rd w x p)(hxa:∀q,vs.ownBlock=some q∨vh.ownBlock=some q->Apart q x)(o1 o2:Obj)(hr:OwnB w2 base 4 vh' (hs++[b]))(g:(w.alloc o1).grownBy w2 vh.ownBlock)(e:vh'.ownBlock=vh.ownBlock∨vh'.ownBlock=some (w.alloc o1).heap.size):
  TwoR (w2.alloc o2) base vh' (hs++[b]) vs L vals/\Rd (w2.alloc o2) x p/\(∀q,vs.ownBlock=some q∨vh'.ownBlock=some q->Apart q x):=by
 have b1:Below w.heap.size w (w.alloc o1):=Zf.alloc Zr _;have b2:Below w2.heap.size w2 (w2.alloc o2):=Zf.alloc Zr _;have R1:=hx.below b1;refine⟨((h.below b1).pushH hr g e).below b2,(R1.grownV g fun q hq=>hxa q (Or.inr hq)).below b2,fun q hq=>?_⟩
 rcases hq with hq|hq
 ·exact hxa q (Or.inl hq)
 ·rcases e with e|e
  ·rw[e]at hq;exact hxa q (Or.inr hq)
  ·rw[e]at hq;simp at hq;exact R1.apart Zm
theorem TwoR.bel{w0:World}(h:TwoR w base vh hs vs L vals)(hb:Below base w0 w)(hs0:base<=w.heap.size)(o1:Obj){r:Option Nat}(hr:r=vh.ownBlock∨r=vs.ownBlock)(g:(w.alloc o1).grownBy w2 r):Below base w0 w2:=by
 have b1:Below w.heap.size w (w.alloc o1):=Zf.alloc Zr _;refine(hb.trans (b1.mono hs0)).grown g (Nat.le_trans hs0 b1.size) fun q hq=>?_
 rcases hr with e|e
 ·rw[e]at hq;exact(h.lt (Or.inr hq)).1
 ·rw[e]at hq;exact(h.lt (Or.inl hq)).1
end
theorem info_bool15:(Tryz.prog.info? 4).map (fun i=>(i.zero,i.size,i.bytes))=some (some (.bool false),1,1):=Zk
theorem info_int15:(Tryz.prog.info? 3).map (fun i=>(i.zero,i.size,i.bytes))=some (some (.int .i64 0),1,8):=Zk
theorem RaAt.okR{w:World}{rb:Nat}{HR GA:Nat->Prop}{a:ArS}(h:RaAt w rb HR GA a):a.Ok:=by
 obtain⟨_,_,_,_,_,hI⟩:=h;exact hI.2
theorem z31_3{p:Prop} (h:p:=by
 have T7:=T6.pushV R6 A6 h7 g7 e7;have HT7:Hid (∃vals,TwoR w7 W0.heap.size v5 ((List.range (r+1)).map F) v7 (mkL (r+1) Dd) vals):=by
  refine⟨vals++[.slice da dl.length dc],?_⟩;rw[List.range_succ,List.map_append,List.map_singleton,HT5.out,mkL_succ,HED.out,<-hHS.out,<-hMS.out];exact T7
 have HB7:Hid (Below W0.heap.size W0 w7):=B6.grown g7 B6.size (fun q hq=>(T6.lt (Or.inl hq)).1);clear T7 T6 R6 A6 h7 g7 e7 h5 g5 e5 B5 B6 V4 R4 AX x0 x1 x2 x3 x4 x5 F4 B4 hl1 hl2 hbs;go_wp2;go_roundw
 case rel=>exact⟨r+1,Zo,Zg,HT7.out,HB7.out,Or.inr ho'.out⟩
 case measure=>simp[intOf];omega
 ):p:=h
theorem z31_1{p:Prop} (h:p:=by
 go_wp2_with (first
  |(at_builtin;(refine wpList_append_bool2 rfl (.tmp 61) (.tmp 80) 96 rfl W0.heap.size 4 ib Tryz.underlying96 hib hb0 hb1 hb2 (.slice ha HS.length hc') HS rfl V4.hr false 4 1 rfl hl1.out hbs ?_);intro v5 w5 h5 g5 e5;obtain⟨T6,R6,A6⟩:=V4.both R4 AX.out (.cells #[.bool false] 4) (.cells #[.slice da dl.length dc] 36) h5 g5 e5;have B5:=V4.bel B4 hbs (.cells #[.bool false] 4) (Or.inl rfl) g5;have B6:=B5.stepL (belL w5 (.cells #[.slice da dl.length dc] 36)) B5.size)
  |(at_builtin;(refine wpList_append_v _ rfl (.tmp 82) (.tmp 84) 106 rfl W0.heap.size 36 i0 (.slice none 0 0) 24 Tryz.underlying106 hi hz0 hz1 hz2 rfl Zd (.slice sa MS.length sc) MS.length vals rfl T6.vr.row w5.heap.size 1 (.slice da dl.length dc) rfl (World.cell?_alloc_new _ _ _ 0) rfl hl2.out B6.size ?_);intro v7 w7 h7 g7 e7))
 exact z31_3
 ):p:=h
theorem z31_6{p:Prop} (h:p:=by
 go_wp2;go_roundw
 case rel=>exact⟨q+1,Zo,Zg,HO9.out⟩
 case measure=>simp[intOf];omega
 ):p:=h
theorem z31_4{p:Prop} (h:p:=by
 have HO9:Hid (OwnI v8 v6.heap.size 3 (.slice ba BL.length bc) (plc BF (q+1))/\Below v6.heap.size v6 v8):=by rw[HN.out];exact⟨O8,W8⟩
 clear O8 W8;exact z31_6
 ):p:=h
theorem z31_5{p:Prop} (h:p:=by
 clear htk;go_wp2;go_roundw
 case rel=>exact⟨j+1,Zo,Zg,by rw[<-N9.out],by first|trivial|rfl⟩
 case measure=>simp[intOf];omega
 ):p:=h
theorem rall15_any{w:World}{rb:Nat}{HR GA:Nat->Prop}{a:ArS}(h:RaAt w rb HR GA a){g:GeoS}(hg:g.Wf){st ep:Int}(hst:(Lit.int .i64 st).wf=true)(hT:OkT g st ep)(hz:g.z<=300):
  Calls Tryz.prog 69 #[.pointer (some ⟨rb,0,none⟩),aggG g,.int .i64 st,.int .i64 ep] w (MakesA15 w (rtX a g st ep) (rtR a g st ep) (rtB a g st ep)):=by
 obtain⟨i0,hi,hz0,hz1,hz2⟩:=info_parts info_bytes15;obtain⟨ib,hib,hb0,hb1,hb2⟩:=info_parts info_bool15;have zz:=okG_nat hT.1;obtain⟨at_,t0⟩:∃x,Hid (x=stG g st):=⟨_,rfl⟩;obtain⟨n,hn⟩:∃n,Hid (n=nT g):=⟨_,rfl⟩;obtain⟨F,hF⟩:∃F,Hid (F=hsF a g st ep):=⟨_,rfl⟩;obtain⟨Dd,hDd⟩:∃Dd:Nat->List UInt8,Hid (Dd=fun i=>upD (stG g st) (rbT a g st i)):=⟨_,rfl⟩;have hn32:n<=32:=by rw[hn.out];exact zz.2.2.2.2.1
 have KS:=fun W=>@rstripe_any W g hg st _ t0.out.symm
 have KD:=fun W (i:Nat) (hi:i<n)=>@rdisk_any W g hg st (i:Int) hst (by simp[Lit.wf,IntKind.min,IntKind.max,IntKind.signed,IntKind.bits];omega) _ rfl
 have ek:g.k+g.m=(n:Int):=by rw[hn.out];exact zz.2.2.2.2.2.2.2.symm
 have HFv:Hid (∀i,F i=decide (upX at_ (rdAB a (diG g st (i:Int)) at_)=0/\((upN at_ (rdAB a (diG g st (i:Int)) at_):Nat):Int)=ep/\(((upD at_ (rdAB a (diG g st (i:Int)) at_)).length:Nat):Int)=g.z)):=fun i=>by rw[hF.out,t0.out];rfl
 have HDv:Hid (∀i,Dd i=upD at_ (rdAB a (diG g st (i:Int)) at_)):=fun i=>by rw[hDd.out,t0.out];rfl
 obtain⟨k,m,z,s,t,o⟩:=g;simp only at ek HFv;have gk:IntKind.i64.wrap (k+m)=(n:Int):=by rw[ek,IntKind.wrap_i64];omega
 have LB:=geo_laid w ⟨k,m,z,s,t,o⟩ 24;rw[aggE]at KS KD ⊢;have HA:Hid (RaAt w rb HR GA a):=h;clear h
 go_enter Tryz.func69,Tryz.ntmps69
 go_wp2_with fail
 obtain⟨W0,hW0⟩:∃W0,W0=w.alloc (.cells (cellsG ⟨k,m,z,s,t,o⟩) 24):=⟨_,rfl⟩;rw[<-hW0]at LB;have gb:Hid (w.heap.size<W0.heap.size):=by rw[hW0];show _<_;simp
 refine(KS _).mono ?_
 rintro _ v1 ⟨rfl,b1⟩;have START:Hid (Below W0.heap.size W0 v1):=by rw[hW0];exact b1
 clear hW0 KS b1;go_wp2
 go_loopw [12,13,14] (fun vh vs i wr=>∃r:Nat,r<=n/\i= .int .i64 (r:Int)/\(∃vals,TwoR wr W0.heap.size vh ((List.range r).map F) vs (mkL r Dd) vals)/\Below W0.heap.size W0 wr/\(r=0∨a.off=false)) (fun _ _ i _=>n-(intOf i).toNat)
 case atStart=>exact⟨0,Zz,rfl,⟨[],TwoR.nil _ _⟩,START.out,Or.inl rfl⟩
 case round=>
  clear START;obtain⟨r,hr,rfl,⟨vals,hV⟩,hB,hoff⟩:=hrel;obtain⟨HS,hHS⟩:∃HS,Hid (HS=(List.range r).map F):=⟨_,rfl⟩;obtain⟨MS,hMS⟩:∃MS,Hid (MS=mkL r Dd):=⟨_,rfl⟩;rw[<-hHS.out,<-hMS.out]at hV;obtain⟨⟨x0,x1,x2,x3,x4,x5⟩,F0⟩:=LB _ hB;simp only at x0 x1 x2 x3 x4 x5
  by_cases hlt:r<n
  ·have hlt':(r:Int)<(n:Int):=by omega
   have g1:IntKind.i64.wrap ((r:Int)+1)=((r+1:Nat):Int):=Zw
   obtain⟨dd,hdd⟩:∃dd,Hid (dd=diG ⟨k,m,z,s,t,o⟩ st (r:Int)):=⟨_,rfl⟩;have KD1:=fun W=>KD W r hlt
   rw[<-hdd.out]at KD1;have eF:=HFv.out r;have eD:=HDv.out r;rw[<-hdd.out]at eF eD;obtain⟨p,hp⟩:∃p,Hid (p=rdAB a dd at_):=⟨_,rfl⟩;obtain⟨ex,hex⟩:∃ex,Hid (ex=rdAX a dd at_):=⟨_,rfl⟩;rw[<-hp.out]at eF eD;have hpl:Hid (p.length<=100000):=by rw[hp.out];exact rdAB_len HA.out.okR _ _
   go_wp2_with fail
   refine(KD1 _).mono ?_
   rintro _ v2 ⟨rfl,b2⟩;have B2:=hB.stepL b2 hB.size;have V2:=hV.below b2;clear x0 x1 x2 x3 x4 x5 F0 hV hB;obtain⟨⟨x0,x1,x2,x3,x4,x5⟩,F2⟩:=LB _ B2;simp only at x0 x1 x2 x3 x4 x5;have KR:=rreadA_far (HA.out.below F2) (i:=dd) (ad:=at_);rw[<-hp.out,<-hex.out]at KR
   go_wp2_with fail
   refine KR.mono ?_
   rintro _ v3 ⟨bv,rfl,R3,FV3,b3⟩;have B3:=B2.stepL b3 B2.size;have V3:=V2.below b3;have AP3:Hid (ApartG (fun k=>k<v2.heap.size) bv):=FV3.apart fun k hk=>hk
   have LT3:Hid (∀q,u13.ownBlock=some q∨u12.ownBlock=some q->q<v2.heap.size):=fun q hq=>(V2.lt hq).2
   clear x0 x1 x2 x3 x4 x5 F2 B2 V2 b2 b3 FV3 KR;obtain⟨⟨x0,x1,x2,x3,x4,x5⟩,F3⟩:=LB _ B3;simp only at x0 x1 x2 x3 x4 x5;obtain⟨ba,bc,rfl⟩:=R3.form
   by_cases ho:a.off=true
   ·have e1:ex=130:=by rw[hex.out];exact rdAX_crash.2 ho
    subst e1;have E9:Hid _:=rtX_off hT ho;clear eF eD V3;go_wp2;refine bodyPost_ret (v:=.tuple #[.slice none 0 0,.slice none 0 0,.int .i64 130]) (by simp[results,Tryz.results69,go_sem]) rfl ?_
    exact nilA15 F3 E9.out
   have e1:¬ex=130:=by rw[hex.out];exact fun e=>ho (rdAX_crash.1 e)
   have ho':Hid (a.off=false):=by show _=_;simpa using ho
   have KU:=runpack_part (a:=at_) R3 hpl.out;obtain⟨nn,hnn⟩:∃nn,Hid (nn=upN at_ p):=⟨_,rfl⟩;obtain⟨dl,hdl⟩:∃dl,Hid (dl=upD at_ p):=⟨_,rfl⟩;obtain⟨fx,hfx⟩:∃fx,Hid (fx=upX at_ p):=⟨_,rfl⟩;rw[<-hnn.out,<-hdl.out,<-hfx.out]at KU;rw[<-hnn.out,<-hdl.out,<-hfx.out]at eF;rw[<-hdl.out]at eD;have HEF:Hid _:=eF;have HED:Hid _:=eD;clear eF eD hoff;have ex0:Hid (¬ex=0->¬fx=0):=fun e=>by
    rw[hex.out]at e;rw[hfx.out,hp.out,rdAB_no e,up_nil];decide
   go_wp2_with fail
   refine KU.mono ?_
   rintro _ v4 ⟨dv,rfl,R4,PV4,b4⟩;have B4:=B3.stepL b4 B3.size;have V4:=V3.below b4;obtain⟨da,dc,rfl⟩:=R4.form;have AX:Hid (∀q,u13.ownBlock=some q∨u12.ownBlock=some q->Apart q (.slice da dl.length dc)):=fun q hq x' n' c' e'=>((PV4 _ AP3.out) x' n' c' e').imp id fun hne e2=>hne (by rw[e2];exact LT3.out q hq)
   clear x0 x1 x2 x3 x4 x5 F3 B3 V3 b4 PV4 AP3 LT3 R3 KU;obtain⟨⟨x0,x1,x2,x3,x4,x5⟩,F4⟩:=LB _ B4;simp only at x0 x1 x2 x3 x4 x5;obtain⟨ha,hc',rfl⟩:=V4.hr.form;obtain⟨sa,sc,rfl⟩:=V4.vr.form;have hl1:Hid (HS.length<=100000):=by show _<=_;rw[hHS.out];simp;omega
   have hl2:Hid (MS.length<=100000):=by show _<=_;rw[hMS.out,mkL_length];omega
   have hbs:=B4.size
   by_cases q1:ex=0
   rotate_left
   ·have HT5:Hid (F r=false):=by show _=_;rw[HEF.out];exact Zx fun e=>ex0.out q1 e.1
    exact z31_1
   by_cases q2:fx=0
   rotate_left
   ·have HT5:Hid (F r=false):=by show _=_;rw[HEF.out];exact Zx fun e=>q2 e.1
    exact z31_1
   by_cases q3:(nn:Int)=ep
   rotate_left
   ·have HT5:Hid (F r=false):=by show _=_;rw[HEF.out];exact Zx fun e=>q3 e.2.1
    exact z31_1
   by_cases q4:(dl.length:Int)=z
   rotate_left
   ·have q4b:((dl.length:Int)==z)=false:=Zq.2 q4;have HT5:Hid (F r=false):=by show _=_;rw[HEF.out];exact Zx fun e=>q4 e.2.2
    exact z31_1
   have HT5:Hid (F r=true):=by show _=_;rw[HEF.out];exact Zy ⟨q2,q3,q4⟩
   go_wp2_with (first
    |(at_builtin;(refine wpList_append_bool2 rfl (.tmp 61) (.tmp 80) 96 rfl W0.heap.size 4 ib Tryz.underlying96 hib hb0 hb1 hb2 (.slice ha HS.length hc') HS rfl V4.hr true 4 1 rfl hl1.out hbs ?_);intro v5 w5 h5 g5 e5;obtain⟨T6,R6,A6⟩:=V4.both R4 AX.out (.cells #[.bool true] 4) (.cells #[.slice da dl.length dc] 36) h5 g5 e5;have B5:=V4.bel B4 hbs (.cells #[.bool true] 4) (Or.inl rfl) g5;have B6:=B5.stepL (belL w5 (.cells #[.slice da dl.length dc] 36)) B5.size)
    |(at_builtin;(refine wpList_append_v _ rfl (.tmp 82) (.tmp 84) 106 rfl W0.heap.size 36 i0 (.slice none 0 0) 24 Tryz.underlying106 hi hz0 hz1 hz2 rfl Zd (.slice sa MS.length sc) MS.length vals rfl T6.vr.row w5.heap.size 1 (.slice da dl.length dc) rfl (World.cell?_alloc_new _ _ _ 0) rfl hl2.out B6.size ?_);intro v7 w7 h7 g7 e7))
   exact z31_3
  ·obtain rfl:r=n:=by omega
   have hlt':¬(r:Int)<(r:Int):=Zo
   have hr1:Hid (1<=r):=by rw[hn.out];exact nT_pos hT.1
   have ho':Hid (a.off=false):=hoff.resolve_left (by have:=hr1.out;omega);have eHS:Hid (HS=hsT a ⟨k,m,z,s,t,o⟩ st ep):=by show _=_;rw[hHS.out,hF.out,hn.out];rfl
   have eMS:Hid (MS=dsT a ⟨k,m,z,s,t,o⟩ st):=by show _=_;rw[hMS.out,hDd.out,hn.out];rfl
   have hsm:∀i,hb HS i=true->(ro MS i).length<=300:=fun i hb9=>by
    rw[eHS.out]at hb9;have hi9:i<nT ⟨k,m,z,s,t,o⟩:=by rw[<-hsT_length (a:=a) (st:=st) (ep:=ep)];exact hb_in hb9
    rw[hsT_hb hi9]at hb9;rw[eMS.out];unfold dsT;rw[ro_mkL hi9,has_len hT.1 hb9];simp only;omega
   have KSH:=rsh_far (k:=k) (m:=m) hV.hr.rdB hV.vr.rs hsm;obtain⟨xx,hxx⟩:∃xx,Hid (xx=shX k m HS MS):=⟨_,rfl⟩;obtain⟨RR,hRR⟩:∃RR,Hid (RR=shR k m HS MS):=⟨_,rfl⟩;obtain⟨PP,hPP⟩:∃PP,Hid (PP=shP k m HS MS):=⟨_,rfl⟩;rw[<-hxx.out,<-hRR.out,<-hPP.out]at KSH;have EX:Hid (rtX a ⟨k,m,z,s,t,o⟩ st ep=if xx=0 then 0 else 150):=by
    show _=_
    unfold rtX alX;rw[if_pos hT,if_neg (by rw[ho'.out];decide),hxx.out,eHS.out,eMS.out]
   have ER:Hid (alR a ⟨k,m,z,s,t,o⟩ st ep=RR):=by show _=_;rw[hRR.out,eHS.out,eMS.out];rfl
   have EP:Hid (alP a ⟨k,m,z,s,t,o⟩ st ep=PP):=by show _=_;rw[hPP.out,eHS.out,eMS.out];rfl
   obtain⟨ha,hc',rfl⟩:=hV.hr.form;obtain⟨sa,sc,rfl⟩:=hV.vr.form;clear hsm hoff
   go_wp2_with fail
   refine KSH.mono ?_
   rintro _ v5 ⟨va,vd,rfl,R5,O5,b5⟩;have B5:=hB.stepL b5 hB.size;have H5:OwnB v5 W0.heap.size 4 (.slice ha HS.length hc') HS:=hV.hr.later b5;clear x0 x1 x2 x3 x4 x5 F0 KSH;obtain⟨⟨x0,x1,x2,x3,x4,x5⟩,F5⟩:=LB _ B5;simp only at x0 x1 x2 x3 x4 x5;obtain⟨ra,rc,rfl⟩:=R5.form;obtain⟨pa,pc,rfl⟩:=O5.form;have HR5:Hid (FarL v5 w.heap.size (.slice ra RR.length rc) RR):=R5.rebase (Nat.le_trans (Nat.le_of_lt gb.out) hB.size)
   by_cases hx0:xx=0
   rotate_left
   ·have E9:Hid (rtX a ⟨k,m,z,s,t,o⟩ st ep=150/\rtR a ⟨k,m,z,s,t,o⟩ st ep=[]/\rtB a ⟨k,m,z,s,t,o⟩ st ep=[]):=by
     have e:rtX a ⟨k,m,z,s,t,o⟩ st ep=150:=by rw[EX.out,if_neg hx0]
     refine⟨e,?_,?_⟩
     ·unfold rtR;rw[e,if_neg Zd]
     ·unfold rtB;rw[e,if_neg Zd]
    clear hV R5 O5 H5 hB b5 B5;go_wp2;refine bodyPost_ret (v:=.tuple #[.slice none 0 0,.slice none 0 0,.int .i64 150]) (by simp[results,Tryz.results69,go_sem]) rfl ?_
    exact nilA15 F5 E9.out
   subst hx0;have EX0:Hid (rtX a ⟨k,m,z,s,t,o⟩ st ep=0):=by show _=_;rw[EX.out,if_pos rfl]
   have KL:=rliveA_any (HA.out.below F5);have okA:=HA.out.okR;have hD1:=okA.d1;have hD2:=okA.d2;obtain⟨DL,hDL⟩:∃DL,Hid (DL=a.D.length):=⟨_,rfl⟩;rw[<-hDL.out]at KL hD1 hD2;obtain⟨il,hil,hl0,hl1,hl2⟩:=info_parts info_int15
   go_wp2_with fail
   refine KL.mono ?_
   rintro _ v6 ⟨lv,rfl,L6,b6⟩;have B6:=B5.stepL b6 B5.size;have HR6:Hid (FarL v6 w.heap.size (.slice ra RR.length rc) RR):=HR5.out.later b6;have H6:=H5.later b6;have P6:=O5.later b6;obtain⟨lg,lc,rfl,_,L7⟩:=owns_formD L6 Zo;have hne:HS≠[]:=fun e=>by have h9:=hHS.out;rw[e]at h9;have h8:=congrArg List.length h9;simp at h8;have:=hr1.out;omega
   obtain⟨hg6,hcc,eh,_,_,_,hg6lt⟩:=H6.somewhere hne;simp at eh;obtain⟨rfl,rfl⟩:=eh;have hlen:Hid (HS.length=r):=by show _=_;rw[hHS.out];simp
   have hlg:lg<v6.heap.size:=(Zv L7 lg rfl).2;have CH:Hid (∀W,Below v6.heap.size v6 W->∀j,j<r->W.cell? ⟨hg6,j,none⟩=some (.bool (F j))):=fun W hW j hj=>by
    refine(hW.cell (p:=⟨hg6,j,none⟩) hg6lt).trans ((H6.get (by rw[hlen.out];exact hj)).trans ?_);rw[hHS.out];simp[hb,List.getD,hj]
   have CL:Hid (∀W,Below v6.heap.size v6 W->∀j,j<DL->W.cell? ⟨lg,j,none⟩=some (.bool (!(a.D.getD j default).dead))):=fun W hW j hj=>by
    refine(hW.cell (p:=⟨lg,j,none⟩) hlg).trans ?_
    rw[World.ownsRow.cellAt L7 j Zo];simp[lvF,hj]
   have CP:Hid (∀W,Below v6.heap.size v6 W->∀j,j<PP.length->∃pb,pa=some ⟨pb,0,none⟩/\W.cell? ⟨pb,j,none⟩=some (.int .i64 ((PP.getD j 0:Nat):Int))):=fun W hW j hj=>by
    obtain⟨pb,e1,e2,_,e3⟩:=P6.cell hj;exact⟨pb,e1,(hW.cell (p:=⟨pb,j,none⟩) e2).trans e3⟩
   obtain⟨BF,hBF⟩:∃BF,Hid (BF=bdF a ⟨k,m,z,s,t,o⟩ st ep):=⟨_,rfl⟩;have HBF:Hid (∀i,BF i=((!F i||decide (i∈PP))&&lvT a (diG ⟨k,m,z,s,t,o⟩ st (i:Int)))):=fun i=>by rw[hBF.out,hF.out,<-EP.out];rfl
   have HFIN:Hid (rtR a ⟨k,m,z,s,t,o⟩ st ep=RR/\rtB a ⟨k,m,z,s,t,o⟩ st ep=plc BF r):=by
    refine⟨?_,?_⟩
    ·unfold rtR;rw[if_pos EX0.out];exact ER.out
    ·unfold rtB bdT;rw[if_pos EX0.out,hBF.out,hn.out]
   have hPl:Hid (PP.length<=1000000):=by
    have h9:=P6;have h8:PP.length<=maxLen∨True:=Or.inr trivial
    show _<=_
    rw[hPP.out];unfold shP
    split
    ·rw[plc_length];have:=cnt_le (hurtP k.toNat m.toNat HS MS (oneX HS MS).toNat) (k.toNat+m.toNat);have z5:=zz.2.2.2.2.1;unfold nT at z5;simp only at z5;omega
    ·simp
   have hdi:Hid (∀i:Nat,i<r->0<=diG ⟨k,m,z,s,t,o⟩ st (i:Int)):=fun i hi9=>(diG_in hT.1 hT.2.1 hT.2.2.1 (by rw[<-hn.out];exact hi9)).1
   have START2:Hid (OwnI v6 v6.heap.size 3 (.slice none 0 0) (plc BF 0)/\Below v6.heap.size v6 v6):=⟨OwnI.nil _ _ _,Zf⟩;have F6:=(LB _ B6).2;have HB6:Hid (Below W0.heap.size W0 v6):=B6;clear x0 x1 x2 x3 x4 x5 F5 KL L6 L7 H6 P6 H5 O5 R5 hV hB b5 B5 b6 okA B6;obtain⟨⟨x0,x1,x2,x3,x4,x5⟩,_⟩:=LB _ HB6.out;simp only at x0 x1 x2 x3 x4 x5;go_wp2;clear x0 x1 x2 x3 x4 x5
   go_loopw [24,25] (fun bv i wq=>∃q:Nat,q<=r/\i= .int .i64 (q:Int)/\OwnI wq v6.heap.size 3 bv (plc BF q)/\Below v6.heap.size v6 wq) (fun _ i _=>r-(intOf i).toNat)
   case atStart=>exact⟨0,Zz,rfl,START2.out⟩
   case round=>
    clear START2;obtain⟨q,hq,rfl,hO,hW⟩:=hrel;obtain⟨w7,hw7⟩:∃w7,w7=wr:=⟨_,rfl⟩;subst hw7;obtain⟨⟨x0,x1,x2,x3,x4,x5⟩,F7⟩:=LB _ (HB6.out.stepL hW HB6.out.size);simp only at x0 x1 x2 x3 x4 x5;obtain⟨BL,hBL⟩:∃BL,Hid (BL=plc BF q):=⟨_,rfl⟩;rw[<-hBL.out]at hO;obtain⟨ba,bc,rfl⟩:=hO.form
    by_cases hlq:q<r
    ·have hlq':(q:Int)<(r:Int):=by omega
     have g1:IntKind.i64.wrap ((q:Int)+1)=((q+1:Nat):Int):=Zw
     have c1:=CH.out _ hW q hlq;obtain⟨fb,hfb⟩:∃fb,Hid (fb=F q):=⟨_,rfl⟩;rw[<-hfb.out]at c1;have c1l:(q:Int)<(HS.length:Int):=by rw[hlen.out];exact hlq'
     go_wp2
     go_loopw [26,27] (fun iv kv wq=>∃j:Nat,j<=PP.length/\kv= .int .i64 (j:Int)/\iv= .bool (!fb||decide (q∈PP.take j))/\wq=w7) (fun _ kv _=>PP.length-(intOf kv).toNat)
     case atStart=>exact⟨0,Zz,rfl,Zs,rfl⟩
     case round=>
      obtain⟨j,hj,rfl,rfl,hwq⟩:=hrel;obtain rfl:w7=wr:=hwq.symm;obtain⟨bb,hbb⟩:∃bb,Hid (bb=(!fb||decide (q∈PP.take j))):=⟨_,rfl⟩;rw[<-hbb.out]
      by_cases hjl:j<PP.length
      ·have hjl':(j:Int)<(PP.length:Int):=by omega
       have g2:IntKind.i64.wrap ((j:Int)+1)=((j+1:Nat):Int):=by rw[IntKind.wrap_i64];have:=hPl.out;omega
       obtain⟨pb,epa,cp⟩:=CP.out _ hW j hjl;subst epa;obtain⟨y,hy⟩:∃y,Hid (y=PP.getD j 0):=⟨_,rfl⟩;rw[<-hy.out]at cp;have htk:Hid (∀x,decide (x∈PP.take (j+1))=(decide (x∈PP.take j)||decide (x=y))):=fun x=>by
        rw[take_getD hjl,<-Bool.decide_or,hy.out];exact decide_eq_decide.2 (by rw[List.mem_append,List.mem_singleton])
       cases bb
       ·by_cases e:y=q
        ·have e':(y:Int)=(q:Int):=by omega
         have N9:Hid (true=(!fb||decide (q∈PP.take (j+1)))):=by
          show _=_
          rw[htk.out,Zy e.symm];simp
         exact z31_5
        ·have e':((y:Int)==(q:Int))=false:=by simp;omega
         have N9:Hid (false=(!fb||decide (q∈PP.take (j+1)))):=by
          show _=_
          rw[htk.out,Zx (show ¬q=y from fun h=>e h.symm),Bool.or_false];exact hbb.out
         exact z31_5
       ·have N9:Hid (true=(!fb||decide (q∈PP.take (j+1)))):=by
         show _=_
         rw[htk.out,<-Bool.or_assoc,<-hbb.out];rfl
        exact z31_5
      ·obtain rfl:j=PP.length:=by omega
       have hjl':¬(PP.length:Int)<(PP.length:Int):=Zo
       obtain⟨dd,hdd⟩:∃dd,Hid (dd=diG ⟨k,m,z,s,t,o⟩ st (q:Int)):=⟨_,rfl⟩;have KD1:=fun W=>KD W q hlq
       rw[<-hdd.out]at KD1;have hd0:0<=dd:=by rw[hdd.out];exact hdi.out q hlq
       have HQ:Hid (BF q=(bb&&lvT a dd)):=by
        show _=_
        rw[HBF.out,hbb.out,hdd.out,hfb.out,List.take_length]
       clear c1 c1l
       go_wp2_with fail
       refine(KD1 _).mono ?_
       rintro _ v8 ⟨rfl,b8⟩;have W8:=hW.stepL b8 hW.size;have O8:=hO.later b8;clear x0 x1 x2 x3 x4 x5 F7 hW hO KD1 b8;cases bb
       ·have HN:Hid (plc BF (q+1)=BL):=by show _=_;rw[plc_succ,(show BF q=false from HQ.out),hBL.out];simp
        exact z31_4
       ·by_cases hdl:dd<(DL:Int)
        ·obtain⟨dn,rfl⟩:∃dn:Nat,dd=(dn:Int):=⟨dd.toNat,Zo⟩;have hdn:dn<DL:=by omega
         have c8:=CL.out _ W8 dn hdn;obtain⟨dx,hdx⟩:∃dx,Hid (dx=(a.D.getD dn default).dead):=⟨_,rfl⟩;rw[<-hdx.out]at c8;have HL:Hid (lvT a (dn:Int)= !dx):=by
          show _=_
          unfold lvT;rw[Zy (show thA a (dn:Int)from⟨Zo,by rw[<-hDL.out];omega⟩),hdx.out];rfl
         cases dx
         ·have HN:Hid (plc BF (q+1)=BL++[q]):=by show _=_;rw[plc_succ,(show BF q=true from HQ.out.trans (by rw[HL.out];rfl)),hBL.out];simp
          have hbl:Hid (BL.length<=100000):=by show _<=_;rw[hBL.out,plc_length];have:=cnt_le BF q;omega
          have h8s:=W8.size
          go_wp2_with (at_builtin;go_loud (refine wpList_append_int rfl (.tmp 147) (.tmp 149) 45 rfl v6.heap.size 3 il Tryz.underlying45 hil hl0 hl1 hl2 (.slice ba BL.length bc) BL rfl O8 q 3 1 rfl hbl.out h8s ?_);intro v9 w9 h9 b9)
          have HO9:Hid (OwnI w9 v6.heap.size 3 v9 (plc BF (q+1))/\Below v6.heap.size v6 w9):=by rw[HN.out];exact⟨h9,W8.trans b9⟩
          clear O8 W8 h9 b9;exact z31_6
         ·have HN:Hid (plc BF (q+1)=BL):=by show _=_;rw[plc_succ,(show BF q=false from HQ.out.trans (by rw[HL.out];rfl)),hBL.out];simp
          exact z31_4
        ·have HN:Hid (plc BF (q+1)=BL):=by show _=_;rw[plc_succ,(show BF q=false from HQ.out.trans (by unfold lvT;rw[Zx (fun h=>hdl (by rw[hDL.out];exact h.2))];rfl)),hBL.out];simp
         exact z31_4
    ·obtain rfl:q=r:=by omega
     have hlq':¬(q:Int)<(q:Int):=Zo
     have FA:Hid (FarL w7 w.heap.size (.slice ra RR.length rc) RR):=HR6.out.later hW;have FO:Hid (OwnI w7 w.heap.size 3 (.slice ba BL.length bc) BL):=ownsRow_base hO F6.size;clear hO hW;go_wp2;refine bodyPost_ret (v:=.tuple #[.slice ra RR.length rc,.slice ba BL.length bc,.int .i64 0]) (by simp[results,Tryz.results69,go_sem]) rfl ?_
     refine⟨_,_,by rw[EX0.out],?_,?_,F7⟩
     ·rw[HFIN.out.1];exact FA.out
     ·rw[HFIN.out.2,<-hBL.out];exact FO.out
theorem flat_take{L:List (List UInt8)}{r:Nat}(h:r<L.length):(L.take (r+1)).flatten=(L.take r).flatten++ro L r:=by
 rw[List.take_add_one,List.flatten_append,ro_some h];simp
theorem flat_len{L:List (List UInt8)}{n z:Nat}(h:∀i,i<n->(ro L i).length<=z)(hn:n<=L.length):∀r,r<=n->(L.take r).flatten.length<=r*z
 |0,_=>Zs
 |r+1,hr=>by
  rw[flat_take Zo,List.length_append,Nat.add_mul,Nat.one_mul];have:=flat_len h hn r Zo;have:=h r Zo;omega
theorem info_u815:(Tryz.prog.info? 5).map (fun i=>(i.zero,i.size,i.bytes))=some (some (.int .u8 0),1,1):=Zk
theorem rread15_any{w:World}{rb:Nat}{HR GA:Nat->Prop}{a:ArS}(h:RaAt w rb HR GA a){g:GeoS}(hg:g.Wf){st ep:Int}(hst:(Lit.int .i64 st).wf=true)(hz:okG g->g.z<=300):
  Calls Tryz.prog 36 #[.pointer (some ⟨rb,0,none⟩),aggG g,.int .i64 st,.int .i64 ep] w (MakesR15 w (rtX a g st ep) (rtD a g st ep) (rtB a g st ep)):=by
 obtain⟨c,hc⟩:∃c,Hid (ckT g st ep=c):=⟨_,rfl⟩;have KC:=fun W=>@rck15_any W g hg st ep c hc.out
 by_cases hT:OkT g st ep
 rotate_left
 ·have c0:¬c=0:=by rw[<-hc.out];exact ckT_not hT
  have e1:rtX a g st ep=c:=by unfold rtX;rw[if_neg hT];exact hc.out
  have e2:rtD a g st ep=[]:=by unfold rtD;rw[e1,if_neg c0]
  have e3:rtB a g st ep=[]:=by unfold rtB;rw[e1,if_neg c0]
  rw[e1,e2,e3];clear e1 e2 e3 hc;obtain⟨k,m,z,s,t,o⟩:=g;have LA:=geo_laid w ⟨k,m,z,s,t,o⟩;rw[aggE]at KC ⊢
  go_enter Tryz.func36,Tryz.ntmps36
  go_wp2_with fail
  refine(KC _).mono ?_
  rintro _ w1 ⟨rfl,B1⟩;obtain⟨_,F1⟩:=LA _ _ B1;clear B1 LA KC;go_wp2;refine bodyPost_ret (v:=.tuple #[.slice none 0 0,.slice none 0 0,.int .i64 c]) (by simp[results,Tryz.results36,go_sem]) rfl ?_
  exact⟨_,_,rfl,rd_nil0,OwnI.nil _ _ _,F1⟩
 have c0:c=0:=by rw[<-hc.out];exact ckT_ok hT
 subst c0;clear hc;have zz:=okG_nat hT.1;have KA:=fun W (hA:RaAt W rb HR GA a)=>rall15_any hA hg hst hT (hz hT.1)
 obtain⟨X,hX⟩:∃X,Hid (X=rtX a g st ep):=⟨_,rfl⟩;obtain⟨RR,hRR⟩:∃RR,Hid (RR=rtR a g st ep):=⟨_,rfl⟩;obtain⟨BB,hBB⟩:∃BB,Hid (BB=rtB a g st ep):=⟨_,rfl⟩;rw[<-hX.out,<-hRR.out,<-hBB.out]at KA;rw[<-hX.out,<-hBB.out]
 by_cases hX0:X=0
 rotate_left
 ·have e2:rtD a g st ep=[]:=by unfold rtD;rw[if_neg (by rw[<-hX.out];exact hX0)]
  have e3:Hid (BB=[]):=by show _=_;rw[hBB.out];unfold rtB;rw[if_neg (by rw[<-hX.out];exact hX0)]
  rw[e2];clear e2;obtain⟨k,m,z,s,t,o⟩:=g;have LA:=geo_laid w ⟨k,m,z,s,t,o⟩;rw[aggE]at KC KA ⊢
  go_enter Tryz.func36,Tryz.ntmps36
  go_wp2_with fail
  refine(KC _).mono ?_
  rintro _ w1 ⟨rfl,B1⟩;obtain⟨⟨x0,x1,x2,x3,x4,x5⟩,F1⟩:=LA _ _ B1;simp only at x0 x1 x2 x3 x4 x5
  go_wp2_with fail
  refine(KA _ (h.below F1)).mono ?_
  rintro _ w2 ⟨va,vb,rfl,R2,O2,b2⟩;have F2:Hid (Below w.heap.size w w2):=F1.stepL b2 F1.size;clear x0 x1 x2 x3 x4 x5 R2 O2 b2 F1 B1 LA KA KC;go_wp2;refine bodyPost_ret (v:=.tuple #[.slice none 0 0,.slice none 0 0,.int .i64 X]) (by simp[results,Tryz.results36,go_sem]) rfl ?_
  exact⟨_,_,rfl,rd_nil0,by rw[e3.out];exact OwnI.nil _ _ _,F2.out⟩
 subst hX0;obtain⟨rl1,rl2⟩:=rtR_row hT hX.out.symm;have eD:Hid (rtD a g st ep=(RR.take g.k.toNat).flatten):=by
  show _=_
  unfold rtD;rw[if_pos hX.out.symm,hRR.out];unfold rtR;rw[if_pos hX.out.symm]
 rw[eD.out];rw[<-hRR.out]at rl1 rl2;obtain⟨K,hK⟩:∃K,Hid (K=g.k.toNat):=⟨_,rfl⟩;have hKR:Hid (K<=RR.length):=by show _<=_;rw[hK.out,rl1];unfold nT;omega
 have hrl:Hid (∀i,i<K->(ro RR i).length<=300):=fun i hi9=>by
  rw[hK.out]at hi9;rw[rl2 i (by unfold nT;omega)];have:=hz hT.1;have:=zz.2.2.1;omega
 have ek:g.k=(K:Int):=by rw[hK.out];exact zz.1.symm
 have hK32:K<=32:=by rw[hK.out];have:=zz.2.2.2.2.1;unfold nT at this;omega
 rw[<-hK.out];obtain⟨i0,hi,hz0,hz1,hz2⟩:=info_parts info_u815;clear zz rl1 rl2 eD;obtain⟨k,m,z,s,t,o⟩:=g;have LB:=geo_laid w ⟨k,m,z,s,t,o⟩ 24;rw[aggE]at KC KA ⊢;simp only at ek;subst ek
 go_enter Tryz.func36,Tryz.ntmps36
 go_wp2_with fail
 obtain⟨W0,hW0⟩:∃W0,W0=w.alloc (.cells (cellsG ⟨(K:Int),m,z,s,t,o⟩) 24):=⟨_,rfl⟩;rw[<-hW0]at LB;refine(KC _).mono ?_
 rintro _ v1 ⟨rfl,b1⟩;replace b1:Below W0.heap.size W0 v1:=by rw[hW0];exact b1
 clear hW0 KC;obtain⟨⟨x0,x1,x2,x3,x4,x5⟩,F1⟩:=LB _ b1;simp only at x0 x1 x2 x3 x4 x5
 go_wp2_with fail
 refine(KA _ (h.below F1)).mono ?_
 rintro _ v2 ⟨va,vb,rfl,R2,O2,b2⟩;have B2:=b1.stepL b2 b1.size;have F2:=(LB _ B2).2;have G2:Hid (GeoAt v2 w.heap.size ⟨(K:Int),m,z,s,t,o⟩/\w.heap.size<v2.heap.size):=by
  refine⟨(LB _ B2).1,?_⟩;have e:=(LB _ B2).1.1;unfold World.cell? at e
  by_cases hb9:w.heap.size<v2.heap.size
  ·exact hb9
  ·rw[Array.getElem?_eq_none (by show v2.heap.size<=w.heap.size;omega)]at e;cases e
 have HO2:Hid (OwnI v2 w.heap.size 3 vb BB):=ownsRow_base O2 F1.size;have HR2:Hid (Rs v2 va RR):=R2.rs;obtain⟨ra,rc,rfl⟩:=R2.form;obtain⟨oa,oc,rfl⟩:=O2.form;clear x0 x1 x2 x3 x4 x5 F1 b1 b2 B2 R2 O2 KA LB;go_wp2
 go_loopw [15,16] (fun dv i wr=>∃r:Nat,r<=K/\i= .int .i64 (r:Int)/\wr.ownsRow v2.heap.size 5 1 dv (RR.take r).flatten.length ((RR.take r).flatten.map vb)/\Below v2.heap.size v2 wr) (fun _ i _=>K-(intOf i).toNat)
 case atStart=>exact⟨0,Zz,rfl,World.ownsRow_nil _ _ _ _,Zf⟩
 case round=>
  obtain⟨r,hr,rfl,hO,hB⟩:=hrel;obtain⟨x0,x1,x2,x3,x4,x5⟩:=G2.out.1.below G2.out.2 hB;simp only at x0 x1 x2 x3 x4 x5;obtain⟨DD,hDD⟩:∃DD,Hid (DD=(RR.take r).flatten):=⟨_,rfl⟩;rw[<-hDD.out]at hO;obtain⟨da,dc,rfl⟩:=owns_form hO
  by_cases hlt:r<K
  ·have hlt':(r:Int)<(K:Int):=by omega
   have hrR:r<RR.length:=Zu hlt hKR.out;have hrR':(r:Int)<(RR.length:Int):=Zo
   have g1:IntKind.i64.wrap ((r:Int)+1)=((r+1:Nat):Int):=Zw
   obtain⟨xb,xo,xa,xc,rfl,_,cx,Rx⟩:=(HR2.out.below hB).at hrR;obtain⟨LN,hLN⟩:∃LN,Hid (LN=(ro RR r).length):=⟨_,rfl⟩;rw[<-hLN.out]at cx Rx;have hsz:=hB.size;have hl9:Hid (DD.length+(ro RR r).length<=1000000):=by
    have q1:=flat_len hrl.out hKR.out r hr;have q2:=hrl.out r hlt
    show _<=_
    rw[hDD.out]
    have:r*300<=32*300:=Nat.mul_le_mul_right _ Zo
    omega
   go_wp2_with (at_builtin;go_loud (refine wpList_append_rd _ rfl (.tmp 42) (.tmp 46) 36 rfl v2.heap.size 5 i0 Tryz.underlying36 hi hz0 hz1 hz2 (.slice da DD.length dc) DD.length (DD.map vb) rfl hO (.slice xa LN xc) (ro RR r) rfl Rx hl9.out hsz ?_);intro v5 w5 h5 g5)
   have H5:Hid (w5.ownsRow v2.heap.size 5 1 v5 (RR.take (r+1)).flatten.length ((RR.take (r+1)).flatten.map vb)):=by
    show World.ownsRow _ _ _ _ _ _ _
    rw[flat_take hrR,List.length_append,List.map_append,<-hDD.out];exact h5
   have B5:Hid (Below v2.heap.size v2 w5):=hB.grown g5 hsz (fun q hq=>(Zv hO q hq).1);clear hO h5 g5 cx Rx x0 x1 x2 x3 x4 x5 hB;go_wp2;go_roundw
   case rel=>exact⟨r+1,Zo,Zg,H5.out,B5.out⟩
   case measure=>simp[intOf];omega
  ·obtain rfl:r=K:=by omega
   have hlt':¬(r:Int)<(r:Int):=Zo
   have FR:Hid (Rd wr (.slice da DD.length dc) (RR.take r).flatten):=by show Rd _ _ _;rw[<-hDD.out];exact Rd.owned hO
   have FO:Hid (OwnI wr w.heap.size 3 (.slice oa BB.length oc) BB):=HO2.out.later hB;have FB:Hid (Below w.heap.size w wr):=F2.stepL hB F2.size;clear hO hB;go_wp2;refine bodyPost_ret (v:=.tuple #[.slice da DD.length dc,.slice oa BB.length oc,.int .i64 0]) (by simp[results,Tryz.results36,go_sem]) rfl ?_
   exact⟨_,_,rfl,FR.out,FO.out,FB.out⟩
theorem z31_2{p:Prop} (h:p:=by
 go_wp2_with fail
 go_region_held3 (fun wx=>wx.cell? ⟨ob,r,none⟩=some (.int .i64 (sh:Int))/\wx.cell? ⟨xb,xo+sh,none⟩=some (.slice xa LN xc)/\wx.cell? ⟨w.heap.size,0,none⟩=some (.int .i64 k)/\wx.cell? ⟨w.heap.size,1,none⟩=some (.int .i64 m)/\wx.cell? ⟨w.heap.size,2,none⟩=some (.int .i64 z)/\wx.cell? ⟨w.heap.size,3,none⟩=some (.int .i64 s)/\wx.cell? ⟨w.heap.size,4,none⟩=some (.int .i64 t)/\wx.cell? ⟨w.heap.size,5,none⟩=some (.int .i64 o)) (first|exact s0|exact sD|exact s5) (first
  |(go_at_call 68;go_loud (refine KU.mono ?_);rintro _ w4 ⟨rfl,A4,T4⟩;have s5:=s4.out _ T4))
 have HA4:Hid (RaAt w4 rb HR GA (AR (r+1))):=by rw[<-e2.out];exact A4
 have HT4:Hid (TurnG HR v3 w4):=(hTu.drew).trans T4;clear s0 sD s5 KU A4 T4 hTu;go_wp2;go_roundw
 case rel=>exact⟨r+1,Zo,Zg,by rw[HP1.out]<;>first|rfl|go_num,HA4.out,HT4.out,H2.out⟩
 case measure=>simp[intOf];omega
 ):p:=h
theorem rfix15_any{w:World}{rb:Nat}{HR GA:Nat->Prop}{a:ArS}(h:RaAt w rb HR GA a){g:GeoS}(hg:g.Wf){st ep:Int}(hst:(Lit.int .i64 st).wf=true)(hz:okG g->g.z<=300):
  Calls Tryz.prog 38 #[.pointer (some ⟨rb,0,none⟩),aggG g,.int .i64 st,.int .i64 ep] w (LeavesRA w rb HR GA (fxS a g st ep) (.tuple #[.int .i64 ((fxN a g st ep:Nat):Int),.int .i64 (fxX a g st ep)])):=by
 obtain⟨c,hc⟩:∃c,Hid (ckT g st ep=c):=⟨_,rfl⟩;have KC:=fun W=>@rck15_any W g hg st ep c hc.out
 obtain⟨X,hX⟩:∃X,Hid (X=rtX a g st ep):=⟨_,rfl⟩;have NO:Hid (¬X=0->fxX a g st ep=X/\fxN a g st ep=0/\fxS a g st ep=a):=fun hX0=>by
  rw[hX.out]at hX0;have e:fxX a g st ep=X:=by unfold fxX;rw[if_neg hX0,hX.out]
  refine⟨e,?_,?_⟩
  ·unfold fxN;rw[e,hX.out,if_neg hX0]
  ·unfold fxS;rw[if_neg hX0]
 by_cases hT:OkT g st ep
 rotate_left
 ·have c0:¬c=0:=by rw[<-hc.out];exact ckT_not hT
  have e1:X=c:=by rw[hX.out];unfold rtX;rw[if_neg hT];exact hc.out
  subst e1;rw[(NO.out c0).1,(NO.out c0).2.1,(NO.out c0).2.2];clear hc hX NO;obtain⟨k,m,z,s,t,o⟩:=g;have LA:=geo_laid w ⟨k,m,z,s,t,o⟩;rw[aggE]at KC ⊢
  go_enter Tryz.func38,Tryz.ntmps38
  go_wp2_with fail
  refine(KC _).mono ?_
  rintro _ w1 ⟨rfl,B1⟩;obtain⟨_,F1⟩:=LA _ _ B1;clear B1 LA KC;go_wp2;refine bodyPost_ret (v:=.tuple #[.int .i64 0,.int .i64 X]) (by simp[results,Tryz.results38,go_sem]) rfl ?_
  exact⟨rfl,h.below F1,Below.turnG F1 HR⟩
 have c0:c=0:=by rw[<-hc.out];exact ckT_ok hT
 subst c0;clear hc;have zz:=okG_nat hT.1;have KA:=fun W (hA:RaAt W rb HR GA a)=>rall15_any hA hg hst hT (hz hT.1)
 obtain⟨RR,hRR⟩:∃RR,Hid (RR=rtR a g st ep):=⟨_,rfl⟩;obtain⟨BB,hBB⟩:∃BB,Hid (BB=rtB a g st ep):=⟨_,rfl⟩;rw[<-hX.out,<-hRR.out,<-hBB.out]at KA
 by_cases hX0:X=0
 rotate_left
 ·rw[(NO.out hX0).1,(NO.out hX0).2.1,(NO.out hX0).2.2];clear NO;obtain⟨k,m,z,s,t,o⟩:=g;have LA:=geo_laid w ⟨k,m,z,s,t,o⟩;rw[aggE]at KC KA ⊢
  go_enter Tryz.func38,Tryz.ntmps38
  go_wp2_with fail
  refine(KC _).mono ?_
  rintro _ w1 ⟨rfl,B1⟩;obtain⟨⟨x0,x1,x2,x3,x4,x5⟩,F1⟩:=LA _ _ B1;simp only at x0 x1 x2 x3 x4 x5
  go_wp2_with fail
  refine(KA _ (h.below F1)).mono ?_
  rintro _ w2 ⟨va,vb,rfl,R2,O2,b2⟩;have F2:Hid (Below w.heap.size w w2):=F1.stepL b2 F1.size;clear x0 x1 x2 x3 x4 x5 R2 O2 b2 F1 B1 LA KA KC;go_wp2;refine bodyPost_ret (v:=.tuple #[.int .i64 0,.int .i64 X]) (by simp[results,Tryz.results38,go_sem]) rfl ?_
  exact⟨rfl,h.below F2.out,Below.turnG F2.out HR⟩
 subst hX0;clear NO;obtain⟨rl1,rl2⟩:=rtR_row hT hX.out.symm;have eR:alR a g st ep=RR:=by rw[hRR.out];unfold rtR;rw[if_pos hX.out.symm]
 have eB:bdT a g st ep=BB:=by rw[hBB.out];unfold rtB;rw[if_pos hX.out.symm]
 have hmem:Hid (∀r,r<BB.length->BB.getD r 0<nT g):=fun r hr=>by
  have:=getD_mem hr;rw[<-eB]at this ⊢;exact(plc_mem.1 this).1
 have hBl:Hid (BB.length<=32):=by
  show _<=_
  rw[<-eB];unfold bdT;rw[plc_length];exact Nat.le_trans (cnt_le _ _) zz.2.2.2.2.1
 obtain⟨AR,hAR⟩:∃AR:Nat->ArS,Hid (AR=psT a g st ep RR BB):=⟨_,rfl⟩;obtain⟨PN,hPN⟩:∃PN:Nat->Nat,Hid (PN=pnT a g st ep RR BB):=⟨_,rfl⟩;have HAR0:Hid (AR 0=a):=by rw[hAR.out];rfl
 have HPN0:Hid (PN 0=0):=by rw[hPN.out];rfl
 have HARs:Hid (∀r,AR (r+1)=puS (AR r) g st ep (BB.getD r 0) (ro RR (BB.getD r 0))):=fun r=>by rw[hAR.out];rfl
 have HPNs:Hid (∀r,PN (r+1)=PN r+(if puX (AR r) g st ep (BB.getD r 0) (ro RR (BB.getD r 0))=0 then 1 else 0)):=fun r=>by rw[hPN.out,hAR.out];rfl
 have HPNl:Hid (∀r,PN r<=r):=fun r=>by
  induction r with
  |zero=>rw[HPN0.out];exact Zr
  |succ r ih=>rw[HPNs.out];split<;>omega
 have SX:Hid (∀r,r<BB.length->(AR r).off=true->fxX a g st ep=130/\fxN a g st ep=0/\fxS a g st ep=AR r):=fun r hr ho=>by
  rw[hAR.out]at ho ⊢;obtain⟨q1,q2⟩:=pc_at hr ho;have e:fxX a g st ep=130:=by unfold fxX;rw[if_pos hX.out.symm,eR,eB,q1];rfl
  refine⟨e,?_,?_⟩
  ·unfold fxN;rw[e,if_neg Zd]
  ·unfold fxS;rw[if_pos hX.out.symm,eR,eB];exact q2
 have SN:Hid ((∀r,r<BB.length->(AR r).off=false)->fxX a g st ep=0/\fxN a g st ep=PN BB.length/\fxS a g st ep=AR BB.length):=fun ho=>by
  have e:fxX a g st ep=0:=by
   unfold fxX;rw[if_pos hX.out.symm,eR,eB,pc_end (fun i hi9=>by rw[<-hAR.out];exact ho i hi9)];rfl
  refine⟨e,?_,?_⟩
  ·unfold fxN;rw[if_pos e,eR,eB,hPN.out]
  ·unfold fxS;rw[if_pos hX.out.symm,eR,eB,hAR.out]
 have Hrow:Hid (∀i,i<nT g->i<RR.length/\(ro RR i).length<=4096):=fun i hi9=>by
  rw[<-hRR.out]at rl1 rl2;refine⟨by rw[rl1];exact hi9,?_⟩;rw[rl2 i hi9];exact zz.2.2.2.2.2.2.1
 have HA:Hid (RaAt w rb HR GA a):=h;clear zz rl1 rl2 eR eB h;obtain⟨k,m,z,s,t,o⟩:=g;have LB:=geo_laid w ⟨k,m,z,s,t,o⟩ 24;rw[aggE]at KC KA ⊢
 go_enter Tryz.func38,Tryz.ntmps38
 go_wp2_with fail
 obtain⟨W0,hW0⟩:∃W0,W0=w.alloc (.cells (cellsG ⟨k,m,z,s,t,o⟩) 24):=⟨_,rfl⟩;rw[<-hW0]at LB;have gb:Hid (w.heap.size<W0.heap.size):=by rw[hW0];show _<_;simp
 refine(KC _).mono ?_
 rintro _ v1 ⟨rfl,b1⟩;replace b1:Below W0.heap.size W0 v1:=by rw[hW0];exact b1
 clear hW0 KC;obtain⟨⟨x0,x1,x2,x3,x4,x5⟩,F1⟩:=LB _ b1;simp only at x0 x1 x2 x3 x4 x5
 go_wp2_with fail
 refine(KA _ (HA.out.below F1)).mono ?_
 rintro _ v3 ⟨va,vb,rfl,R3,O3,b3⟩;have B3:=b1.stepL b3 b1.size;have F3:=(LB _ B3).2;have hHR:∀q,HR q->q<w.heap.size:=HA.out.ltR;have TL:Hid (ToldL v3 HR va RR):=ToldL.far R3 (fun q hq=>Zu (hHR q hq) F1.size);obtain⟨oa,oc,rfl⟩:=O3.form;have CB:Hid (∀W r,TurnG HR v3 W->r<BB.length->∃ob,oa=some ⟨ob,0,none⟩/\ob<v3.heap.size/\¬HR ob/\W.cell? ⟨ob,r,none⟩=some (.int .i64 ((BB.getD r 0:Nat):Int))):=fun W r hW hr=>by
  obtain⟨ob,e1,e2,e3,e4⟩:=O3.cell hr;have hne:¬HR ob:=fun q=>by have:=hHR ob q;have:=F1.size;omega
  exact⟨ob,e1,e2,hne,(hW.cell (p:=⟨ob,r,none⟩) e2 hne).trans e4⟩
 have G3:Hid (GeoAt v3 w.heap.size ⟨k,m,z,s,t,o⟩/\w.heap.size<v3.heap.size/\¬HR w.heap.size):=⟨(LB _ B3).1,Zu gb.out B3.size,fun q=>Nat.lt_irrefl _ (hHR _ q)⟩;have A3:Hid (RaAt v3 rb HR GA (AR 0)):=by rw[HAR0.out];exact HA.out.below F3
 have T3:Hid (TurnG HR w v3):=Below.turnG F3 HR;obtain⟨ra,rc,rfl⟩:=R3.form;clear x0 x1 x2 x3 x4 x5 F1 b1 b3 B3 F3 R3 O3 KA LB hHR HA;go_wp2
 go_loopw [14,15] (fun nv i wr=>∃r:Nat,r<=BB.length/\i= .int .i64 (r:Int)/\nv= .int .i64 ((PN r:Nat):Int)/\RaAt wr rb HR GA (AR r)/\TurnG HR v3 wr/\∀j,j<r->(AR j).off=false) (fun _ i _=>BB.length-(intOf i).toNat)
 case atStart=>exact⟨0,Zz,rfl,by rw[HPN0.out];rfl,A3.out,TurnG.refl _ _,fun j hj=>absurd hj (Nat.not_lt_zero _)⟩
 case round=>
  clear A3;obtain⟨r,hr,rfl,rfl,hA,hTu,hoff⟩:=hrel;obtain⟨pn,hpn⟩:∃pn,Hid (pn=PN r):=⟨_,rfl⟩;rw[<-hpn.out]
  by_cases hlt:r<BB.length
  ·have hlt':(r:Int)<(BB.length:Int):=by omega
   have g1:IntKind.i64.wrap ((r:Int)+1)=((r+1:Nat):Int):=by rw[IntKind.wrap_i64];have:=hBl.out;omega
   have g2:IntKind.i64.wrap ((pn:Int)+1)=((pn+1:Nat):Int):=by rw[IntKind.wrap_i64];have:=hBl.out;have:=HPNl.out r;rw[<-hpn.out]at this;omega
   obtain⟨ob,eo,oblt,obn,co9⟩:=CB.out _ r hTu hlt;subst eo;obtain⟨sh,hsh⟩:∃sh,Hid (sh=BB.getD r 0):=⟨_,rfl⟩;rw[<-hsh.out]at co9;have hshn:Hid (sh<nT ⟨k,m,z,s,t,o⟩):=by rw[hsh.out];exact hmem.out r hlt
   obtain⟨hrl,hrl2⟩:=Hrow.out sh hshn.out;have hrl':(sh:Int)<(RR.length:Int):=Zo
   have TLr:=TL.out.turn hTu;obtain⟨xb,xo,xcap,esx,_⟩:=TLr.rs.somewhere Zo;simp at esx;obtain⟨rfl,rfl⟩:=esx;obtain⟨xa,xc,cx,Tx,xlt,xng⟩:=TLr.spot hrl rfl;obtain⟨LN,hLN⟩:∃LN,Hid (LN=(ro RR sh).length):=⟨_,rfl⟩;rw[<-hLN.out]at cx Tx;have obw:ob<wr.heap.size:=Zu oblt hTu.size;obtain⟨x0,x1,x2,x3,x4,x5⟩:=G3.out.1.turn G3.out.2.1 G3.out.2.2 hTu;simp only at x0 x1 x2 x3 x4 x5;have s0:wr.cell? ⟨ob,r,none⟩=some (.int .i64 (sh:Int))/\wr.cell? ⟨xb,xo+sh,none⟩=some (.slice xa LN xc)/\GeoAt wr w.heap.size ⟨k,m,z,s,t,o⟩:=⟨co9,cx,x0,x1,x2,x3,x4,x5⟩;have bD:Below wr.heap.size wr wr.drew:=Zf.drew;have sD:wr.drew.cell? ⟨ob,r,none⟩=some (.int .i64 (sh:Int))/\wr.drew.cell? ⟨xb,xo+sh,none⟩=some (.slice xa LN xc)/\GeoAt wr.drew w.heap.size ⟨k,m,z,s,t,o⟩:=⟨co9,cx,x0,x1,x2,x3,x4,x5⟩;have hgsz:Hid (w.heap.size<wr.heap.size):=Zu G3.out.2.1 hTu.size;obtain⟨px,hpx⟩:∃px,Hid (puX (AR r) ⟨k,m,z,s,t,o⟩ st ep sh (ro RR sh)=px):=⟨_,rfl⟩;obtain⟨AN,hAN⟩:∃AN,Hid (puS (AR r) ⟨k,m,z,s,t,o⟩ st ep sh (ro RR sh)=AN):=⟨_,rfl⟩;have KU:Calls Tryz.prog 68 #[.pointer (some ⟨rb,0,none⟩),.agg #[.int .i64 k,.int .i64 m,.int .i64 z,.int .i64 s,.int .i64 t,.int .i64 o],.int .i64 st,.int .i64 ep,.int .i64 (sh:Int),.slice xa LN xc] wr.drew (LeavesRA wr.drew rb HR GA AN (.int .i64 px)):=by
    have:=rput15_any (hA.below bD) hg hT hshn.out (Tx.rd.below bD) hrl2 hst;rw[hpx.out,hAN.out]at this;exact this
   have s4:Hid (∀w4,TurnG HR wr.drew w4->w4.cell? ⟨ob,r,none⟩=some (.int .i64 (sh:Int))/\w4.cell? ⟨xb,xo+sh,none⟩=some (.slice xa LN xc)/\GeoAt w4 w.heap.size ⟨k,m,z,s,t,o⟩):=fun w4 T4=>⟨(T4.cell (p:=⟨ob,r,none⟩) obw obn).trans sD.1,(T4.cell (p:=⟨xb,xo+sh,none⟩) xlt xng).trans sD.2.1,sD.2.2.turn hgsz.out G3.out.2.2 T4⟩
   clear cx Tx x0 x1 x2 x3 x4 x5 hA bD co9 TLr
   by_cases ho:(AR r).off=true
   ·have e1:px=130:=by rw[<-hpx.out];exact puX_crash.2 ho
    have e2:AN=AR r:=by rw[<-hAN.out];exact puS_off ho _ _
    subst e1 e2;have E9:Hid _:=SX.out r hlt ho
    go_wp2_with fail
    go_region_held3 (fun wx=>wx.cell? ⟨ob,r,none⟩=some (.int .i64 (sh:Int))/\wx.cell? ⟨xb,xo+sh,none⟩=some (.slice xa LN xc)/\wx.cell? ⟨w.heap.size,0,none⟩=some (.int .i64 k)/\wx.cell? ⟨w.heap.size,1,none⟩=some (.int .i64 m)/\wx.cell? ⟨w.heap.size,2,none⟩=some (.int .i64 z)/\wx.cell? ⟨w.heap.size,3,none⟩=some (.int .i64 s)/\wx.cell? ⟨w.heap.size,4,none⟩=some (.int .i64 t)/\wx.cell? ⟨w.heap.size,5,none⟩=some (.int .i64 o)) (first|exact s0|exact sD|exact s5) (first
     |(go_at_call 68;go_loud (refine KU.mono ?_);rintro _ w4 ⟨rfl,A4,T4⟩;have s5:=s4.out _ T4))
    have HA4:Hid _:=A4;have HT4:Hid (TurnG HR w w4):=T3.out.trans ((hTu.drew).trans T4);clear s0 sD s5 KU A4 T4;go_wp2;refine bodyPost_ret (v:=.tuple #[.int .i64 0,.int .i64 130]) (by simp[results,Tryz.results38,go_sem]) rfl ?_
    exact⟨by rw[E9.out.1,E9.out.2.1];rfl,by rw[E9.out.2.2];exact HA4.out,HT4.out⟩
   ·have ho':(AR r).off=false:=by simpa using ho
    have e1:¬px=130:=by rw[<-hpx.out];exact fun e=>ho (puX_crash.1 e)
    have e2:Hid (AN=AR (r+1)):=by rw[<-hAN.out,hsh.out];exact(HARs.out r).symm
    have H2:Hid (∀j,j<r+1->(AR j).off=false):=fun j hj=>by
     by_cases e:j=r
     ·rw[e];exact ho'
     ·exact hoff j Zo
    have HP:Hid (PN (r+1)=pn+(if px=0 then 1 else 0)):=by
     show _=_
     rw[HPNs.out,<-hsh.out,hpx.out,hpn.out]
    clear hoff ho ho'
    by_cases hp0:px=0
    ·have HP1:Hid (PN (r+1)=pn+1):=by show _=_;rw[HP.out,if_pos hp0]
     subst hp0;exact z31_2
    ·have HP1:Hid (PN (r+1)=pn):=by show _=_;rw[HP.out,if_neg hp0];rfl
     exact z31_2
  ·obtain rfl:r=BB.length:=by omega
   have hlt':¬(BB.length:Int)<(BB.length:Int):=Zo
   have E9:Hid _:=SN.out hoff;have HA4:Hid (RaAt wr rb HR GA (AR BB.length)):=hA;have HT4:Hid (TurnG HR w wr):=T3.out.trans hTu;clear hA hTu hoff;go_wp2;refine bodyPost_ret (v:=.tuple #[.int .i64 (pn:Int),.int .i64 0]) (by simp[results,Tryz.results38,go_sem]) rfl ?_
   exact⟨by rw[E9.out.1,E9.out.2.1,hpn.out],by rw[E9.out.2.2];exact HA4.out,HT4.out⟩
end Go.Proofs.YtddnfhfangfgeaaGreat.Gf
