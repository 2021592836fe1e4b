/- JOINED: StRefA, StRefP, StRefW, StTwo. -/
import Derived.Test.YtddnfhfangfgeaaGreatPome32
import Derived.Test.YtddnfhfangfgeaaGreatPome36
set_option maxHeartbeats 4000000
set_option maxRecDepth 100000
namespace Go.Proofs.YtddnfhfangfgeaaGreat.Gf
set_option linter.unusedVariables false
set_option linter.unusedSimpArgs false
open Go.RowKit
theorem z40_1{p:Prop} (h:p:=by
 subst hx
 go_enter Tryz.func65,Tryz.ntmps65
 go_wp2_with fail
 refine(KC _).mono ?_
 rintro _ w1 ⟨rfl,B1⟩;obtain⟨⟨x0,x1,x2,x3,x4,x5⟩,F1⟩:=LA _ _ B1;simp only at x0 x1 x2 x3 x4 x5;clear B1 LA KC;go_wp2;go_ret;exact⟨rfl,F1⟩
 ):p:=h
theorem z40_2{p:Prop} (h:p:=by
 rw[ckT_arg h0 (fun q=>by obtain⟨_,q1,q2,q3,q4⟩:=q;simp only at q2;omega)]at hx;exact z40_1
 ):p:=h
theorem rck15_any{w:World}{g:GeoS}(hg:g.Wf){st ep x:Int}(hx:ckT g st ep=x):Calls Tryz.prog 65 #[aggG g,.int .i64 st,.int .i64 ep] w fun e w'=>e= .returned (.int .i64 x)/\Below w.heap.size w w':=by
 obtain⟨k,m,z,s,t,o⟩:=g;have LA:=geo_laid w ⟨k,m,z,s,t,o⟩;have KC:=fun W=>@rcheckL_any W ⟨k,m,z,s,t,o⟩ hg _ rfl
 rw[show aggG ⟨k,m,z,s,t,o⟩= .agg #[.int .i64 k,.int .i64 m,.int .i64 z,.int .i64 s,.int .i64 t,.int .i64 o]from rfl]at KC ⊢
 by_cases h0:okG ⟨k,m,z,s,t,o⟩
 rotate_left
 ·rw[show chG ⟨k,m,z,s,t,o⟩=50 from if_neg h0]at KC;rw[ckT_geo h0]at hx;exact z40_1
 rw[show chG ⟨k,m,z,s,t,o⟩=0 from if_pos h0]at KC
 by_cases h1:st<0
 ·exact z40_2
 by_cases h2:st>=s
 ·exact z40_2
 by_cases h3:ep<0
 ·exact z40_2
 by_cases h4:ep>2147483647
 ·exact z40_2
 rw[ckT_ok ⟨h0,Zo,by simp only;omega,Zo,Zo⟩]at hx;exact z40_1
theorem rput15_any{w:World}{rb:Nat}{HR GA:Nat->Prop}{a:ArS}(h:RaAt w rb HR GA a){g:GeoS}(hg:g.Wf){st ep:Int}(hT:OkT g st ep){sh:Nat}(hs:sh<nT g){v:Value}{b:List UInt8}(hp:Rd w v b)(hb:b.length<=4096)(hst:(Lit.int .i64 st).wf=true):
  Calls Tryz.prog 68 #[.pointer (some ⟨rb,0,none⟩),aggG g,.int .i64 st,.int .i64 ep,.int .i64 (sh:Int),v] w (LeavesRA w rb HR GA (puS a g st ep sh b) (.int .i64 (puX a g st ep sh b))):=by
 obtain⟨ax,x0⟩:∃x,Hid (x=puX a g st ep sh b):=⟨_,rfl⟩;obtain⟨as',s0⟩:∃x,Hid (x=puS a g st ep sh b):=⟨_,rfl⟩;obtain⟨pk,p0⟩:∃x,Hid (x=pkT g st ep b):=⟨_,rfl⟩;obtain⟨at_,t0⟩:∃x,Hid (x=stG g st):=⟨_,rfl⟩;obtain⟨dd,d0⟩:∃x,Hid (x=diG g st (sh:Int)):=⟨_,rfl⟩;have E1:paX at_ ep b=0/\paR at_ ep b=pk:=by
  obtain⟨q1,q2⟩:=pa_ok (hT.se hb);rw[t0.out,p0.out];exact⟨q1,q2⟩
 have EX:wrAX a dd at_ pk=ax:=by rw[x0.out,d0.out,t0.out,p0.out];rfl
 have ES:wrAS a dd at_ pk=as':=by rw[s0.out,d0.out,t0.out,p0.out];rfl
 have wsh:(Lit.int .i64 (sh:Int)).wf=true:=by
  have:=(okG_nat hT.1).2.2.2.2.1;simp[Lit.wf,IntKind.min,IntKind.max,IntKind.signed,IntKind.bits];omega
 have KS:=fun W=>@rstripe_any W g hg st _ t0.out.symm
 have KD:=fun W=>@rdisk_any W g hg st (sh:Int) hst wsh _ d0.out.symm
 have KP:=fun W (hr:Rd W v b)=>rpack_any (w:=W) (a:=at_) (e:=ep) hr Zo
 rw[E1.1,E1.2]at KP;rw[<-x0.out,<-s0.out];clear x0 s0 t0 d0 E1;obtain⟨k,m,z,s,t,o⟩:=g;have LA:=geo_laid w ⟨k,m,z,s,t,o⟩;rw[show aggG ⟨k,m,z,s,t,o⟩= .agg #[.int .i64 k,.int .i64 m,.int .i64 z,.int .i64 s,.int .i64 t,.int .i64 o]from rfl]at KS KD ⊢;obtain⟨va,vc,rfl⟩:=hp.form
 go_enter Tryz.func68,Tryz.ntmps68
 go_wp2_with fail
 refine(KS _).mono ?_
 rintro _ w1 ⟨rfl,B1⟩;obtain⟨⟨x0,x1,x2,x3,x4,x5⟩,F1⟩:=LA _ _ B1;simp only at x0 x1 x2 x3 x4 x5
 go_wp2_with fail
 refine(KP _ (hp.below F1)).mono ?_
 rintro _ w2 ⟨vs,rfl,R2,b2⟩;have B2:=B1.stepL b2 B1.size;clear x0 x1 x2 x3 x4 x5 F1 B1 b2;obtain⟨⟨x0,x1,x2,x3,x4,x5⟩,F2⟩:=LA _ _ B2;simp only at x0 x1 x2 x3 x4 x5;obtain⟨sa,sc,rfl⟩:=R2.form
 go_wp2_with fail
 refine(KD _).mono ?_
 rintro _ w3 ⟨rfl,b3⟩;have R3:=R2.below b3;have B3:=B2.stepL b3 B2.size;clear x0 x1 x2 x3 x4 x5 F2 B2 b3 R2;obtain⟨_,F3⟩:=LA _ _ B3;clear LA;have K:=rwriteA_any (h.below F3) (i:=dd) (ad:=at_) R3;rw[EX,ES]at K
 go_wp2_with fail
 refine K.mono ?_
 rintro _ w4 ⟨rfl,A4,T4⟩;go_wp2;go_ret;exact⟨rfl,A4,(Below.turnG F3 HR).trans T4⟩
theorem info_bytes15:(Tryz.prog.info? 36).map (fun i=>(i.zero,i.size,i.bytes))=some (some (.slice none 0 0),1,24):=Zk
theorem rparts15_any{w:World}{g:GeoS}(hg:g.Wf)(hok:okG g){v:Value}{D:List UInt8}(hp:Rd w v D)(hD:LenT g D):
  Calls Tryz.prog 67 #[aggG g,v] w fun e w'=>∃v',e= .returned v'/\Rs w' v' (parT g D)/\Below w.heap.size w w':=by
 obtain⟨i0,hi,hz0,hz1,hz2⟩:=info_parts info_bytes15;have hn:=hD.nat hok;have zz:=okG_nat hok;obtain⟨k,m,z,s,t,o⟩:=g;have LB:=geo_laid w ⟨k,m,z,s,t,o⟩ 24;obtain⟨z1,z2,z3,z4,z5,z6,z7,z8⟩:=zz;simp only at hn z1 z3 z4 z6 z7;obtain⟨K,hK⟩:∃K,Hid (K=k.toNat):=⟨_,rfl⟩;obtain⟨Z,hZ⟩:∃Z,Hid (Z=z.toNat):=⟨_,rfl⟩;have EP:Hid (parT ⟨k,m,z,s,t,o⟩ D=mkL K (fun i=>(D.drop (i*Z)).take Z)):=by show _=_;rw[hK.out,hZ.out];rfl
 have ek:k=(K:Int):=by rw[hK.out];exact z1.symm
 have ez:z=(Z:Int):=by rw[hZ.out];exact z3.symm
 rw[<-hK.out,<-hZ.out]at hn;rw[<-hZ.out]at z6 z7;have hK32:K<=32:=by have:=hok.2.1;have:=hok.2.2.1;simp only at*;omega
 have hK1:1<=K:=by have:=hok.1;simp only at*;omega
 rw[show aggG ⟨k,m,z,s,t,o⟩= .agg #[.int .i64 k,.int .i64 m,.int .i64 z,.int .i64 s,.int .i64 t,.int .i64 o]from rfl];rw[EP.out];clear z1 z2 z3 z4 z5 z8 hK hZ EP hD hok hg;subst ek ez;have hpos:0<D.length:=by rw[hn];exact Nat.mul_pos Zo Zo
 have hform:∃b off c,v= .slice (some ⟨b,off,none⟩) D.length c/\D.length<=c:=by
  rcases hp with⟨_,_,e,_⟩|⟨b,off,cap,h1,h2,h3,_⟩
  ·exact absurd (List.length_eq_zero_iff.2 e) Zo
  ·exact⟨b,off,cap,h2,h3⟩
 obtain⟨db,doff,dc,rfl,hdc⟩:=hform;obtain⟨N,hN⟩:∃N,Hid (N=D.length):=⟨_,rfl⟩;have HP:Hid (Rd w (.slice (some ⟨db,doff,none⟩) N dc) D):=by rw[hN.out];exact hp
 have hNc:N<=dc:=by rw[hN.out];exact hdc
 have hNk:Hid (N=K*Z):=by rw[hN.out];exact hn
 have hpl:Hid (0<D.length):=hpos;rw[<-hN.out];clear hp hpos hdc hn
 go_enter Tryz.func67,Tryz.ntmps67
 go_wp2_with fail
 obtain⟨W0,hW0⟩:∃W0,W0=w.alloc (.cells (cellsG ⟨(K:Int),m,(Z:Int),s,t,o⟩) 24):=⟨_,rfl⟩;rw[<-hW0]at LB;have START:Hid (Below W0.heap.size W0 (w.alloc (.cells (cellsG ⟨(K:Int),m,(Z:Int),s,t,o⟩) 24))):=by rw[hW0];exact Below.refl _ _
 have hW1:Hid (w.heap.size<=W0.heap.size):=by rw[hW0];show _<=_;simp
 clear hW0
 go_loopw [5,6] (fun ov i wr=>∃r:Nat,r<=K/\i= .int .i64 (r:Int)/\(∃vals,Vs wr W0.heap.size 36 ov (mkL r (fun i=>(D.drop (i*Z)).take Z)) vals)/\Below W0.heap.size W0 wr) (fun _ i _=>K-(intOf i).toNat)
 case atStart=>exact⟨0,Nat.zero_le _,rfl,⟨[],Vs.nil _ _ _⟩,START.out⟩
 case round=>
  clear START;obtain⟨r,hr,rfl,⟨vals,hV⟩,hB⟩:=hrel;obtain⟨⟨x0,x1,x2,x3,x4,x5⟩,F0⟩:=LB _ hB;simp only at x0 x1 x2 x3 x4 x5
  by_cases hlt:r<K
  ·have hlt':(r:Int)<(K:Int):=by omega
   obtain⟨lo,hlo⟩:∃lo,Hid (lo=r*Z):=⟨_,rfl⟩;have hle:lo+Z<=N:=by
    rw[hlo.out,hNk.out]
    have:(r+1)*Z<=K*Z:=Nat.mul_le_mul_right _ hlt
    rw[Nat.add_mul]at this;omega
   have hbig:K*Z<=32*4096:=Nat.mul_le_mul hK32 z7;have hNb:N<=131072:=by rw[hNk.out];exact hbig
   clear hbig;obtain⟨hh,hhi⟩:∃hh,Hid (hh=lo+Z):=⟨_,rfl⟩;have gl:IntKind.i64.wrap ((r:Int)*(Z:Int))=(lo:Int):=by
    rw[show(r:Int)*(Z:Int)=(lo:Int) by rw[hlo.out];simp,IntKind.wrap_i64];omega
   have gr:IntKind.i64.wrap ((r:Int)+1)=((r+1:Nat):Int):=Zw
   have gh:IntKind.i64.wrap (((r+1:Nat):Int)*(Z:Int))=(hh:Int):=by
    have:((r+1:Nat):Int)*(Z:Int)=(hh:Int):=by rw[hhi.out,hlo.out,<-Int.natCast_mul,Nat.add_mul,Nat.one_mul]
    rw[this,IntKind.wrap_i64,hhi.out];omega
   have gh2:IntKind.i64.wrap (((r:Int)+1)*(Z:Int))=(hh:Int):=gh;have q1:(lo:Int)<=(hh:Int):=by rw[hhi.out];omega
   have q2:(hh:Int)<=(dc:Int):=by rw[hhi.out];omega
   have q3:lo<dc:=Zo
   have q4:¬dc=lo:=Zo
   have q5:hh-lo=Z:=by rw[hhi.out];omega
   have q6:hh<=dc:=by rw[hhi.out];omega
   have q7:lo<=hh:=by rw[hhi.out];omega
   have RX:Hid (Rd w (.slice (some ⟨db,doff+lo,none⟩) Z (dc-lo)) ((D.drop lo).take Z)):=HP.out.cutS (by rw[<-hN.out];exact hle) hpl.out rfl;obtain⟨ra,rc,rfl⟩:=hV.form;have hsz:=hB.size;have hml:Hid ((mkL r (fun i=>(D.drop (i*Z)).take Z)).length<=100000):=by show _<=_;rw[mkL_length];omega
   have V4:=hV.below (belL wr (.cells #[.slice (some ⟨db,doff+lo,none⟩) Z (dc-lo)] 36));have B4:Below W0.heap.size W0 (wr.alloc (.cells #[.slice (some ⟨db,doff+lo,none⟩) Z (dc-lo)] 36)):=hB.stepL (belL _ _) hsz;have RX4:Hid (Rd (wr.alloc (.cells #[.slice (some ⟨db,doff+lo,none⟩) Z (dc-lo)] 36)) (.slice (some ⟨db,doff+lo,none⟩) Z (dc-lo)) ((D.drop lo).take Z)):=RX.out.below (F0.stepL (belL _ _) F0.size);have FAR:Hid (∀g,(Value.slice ra (mkL r (fun i=>(D.drop (i*Z)).take Z)).length rc).ownBlock=some g->Apart g (.slice (some ⟨db,doff+lo,none⟩) Z (dc-lo))):=fun g hg=>RX.out.apart (Nat.le_trans hW1.out (World.ownsRow.lt hV.row g hg).1)
   clear hV hB F0
   go_wp2_with (at_builtin;go_loud (refine wpList_append_v _ rfl (.tmp 13) (.tmp 25) 106 rfl W0.heap.size 36 i0 (.slice none 0 0) 24 Tryz.underlying106 hi hz0 hz1 hz2 rfl Zd (.slice ra (mkL r (fun i=>(D.drop (i*Z)).take Z)).length rc) (mkL r (fun i=>(D.drop (i*Z)).take Z)).length vals rfl V4.row wr.heap.size 1 (.slice (some ⟨db,doff+lo,none⟩) Z (dc-lo)) rfl (World.cell?_alloc_new _ _ _ 0) rfl hml.out B4.size ?_);intro v5 w5 h5 g5 e5)
   have V5:Hid (Vs w5 W0.heap.size 36 v5 (mkL (r+1) (fun i=>(D.drop (i*Z)).take Z)) (vals++[.slice (some ⟨db,doff+lo,none⟩) Z (dc-lo)])):=by
    have:=V4.push RX4.out FAR.out h5 g5 e5;rw[hlo.out]at this
    show Vs _ _ _ _ _ _
    rw[mkL_succ,hlo.out];exact this
   have B5:Hid (Below W0.heap.size W0 w5):=B4.grown g5 B4.size (fun q hq=>(World.ownsRow.lt V4.row q hq).1);clear V4 B4 h5 g5 e5 RX4 RX FAR hml x0 x1 x2 x3 x4 x5;go_wp2;go_roundw
   case rel=>exact⟨r+1,Zo,Zg,⟨_,V5.out⟩,B5.out⟩
   case measure=>simp[intOf];omega
  ·obtain rfl:r=K:=by omega
   have hlt':¬(r:Int)<(r:Int):=Zo
   have RR:Hid (Rs wr u5 (mkL r (fun i=>(D.drop (i*Z)).take Z))):=hV.rs;clear hV hB;go_wp2;go_ret;exact⟨_,rfl,RR.out,F0⟩
theorem GeoAt.turn{w w':World}{b:Nat}{g:GeoS}{G:Nat->Prop}(h:GeoAt w b g)(hb:b<w.heap.size)(hg:¬G b)(t:TurnG G w w'):GeoAt w' b g:=
 ⟨(t.cell (p:=⟨b,0,none⟩) hb hg).trans h.1,(t.cell (p:=⟨b,1,none⟩) hb hg).trans h.2.1,(t.cell (p:=⟨b,2,none⟩) hb hg).trans h.2.2.1,(t.cell (p:=⟨b,3,none⟩) hb hg).trans h.2.2.2.1,(t.cell (p:=⟨b,4,none⟩) hb hg).trans h.2.2.2.2.1,(t.cell (p:=⟨b,5,none⟩) hb hg).trans h.2.2.2.2.2⟩
theorem RaAt.ltR{w:World}{rb:Nat}{HR GA:Nat->Prop}{a:ArS}(h:RaAt w rb HR GA a):∀k,HR k->k<w.heap.size:=by
 obtain⟨_,_,_,_,_,hI⟩:=h;exact hI.1.lt
theorem parT_small{g:GeoS}{D:List UInt8}(hok:okG g)(hD:LenT g D)(hz:g.z<=300):Small (parT g D):=by
 have z:=okG_nat hok;refine⟨by rw[parT_length];unfold nT at z;omega,fun i=>?_⟩
 by_cases hi:i<g.k.toNat
 ·rw[parT_row hD hok hi];omega
 ·rw[ro_ge (by rw[parT_length];omega)];simp
theorem rwrite15_any{w:World}{rb:Nat}{HR GA:Nat->Prop}{a:ArS}(h:RaAt w rb HR GA a){g:GeoS}(hg:g.Wf){st ep:Int}(hst:(Lit.int .i64 st).wf=true){v:Value}{D:List UInt8}(hp:Rd w v D)(hz:okG g->g.z<=300):
  Calls Tryz.prog 35 #[.pointer (some ⟨rb,0,none⟩),aggG g,.int .i64 st,.int .i64 ep,v] w (LeavesRA w rb HR GA (swS a g st ep D) (.int .i64 (swX a g st ep D))):=by
 obtain⟨c,hc⟩:∃c,Hid (ckT g st ep=c):=⟨_,rfl⟩;have KC:=fun W=>@rck15_any W g hg st ep c hc.out
 by_cases hT:OkT g st ep
 rotate_left
 ·have e1:swX a g st ep D=c:=by unfold swX;rw[if_neg hT];exact hc.out
  have e2:swS a g st ep D=a:=if_neg fun q=>hT q.1
  have c0:¬c=0:=by rw[<-hc.out];exact ckT_not hT
  rw[e1,e2];clear e1 e2 hc;obtain⟨k,m,z,s,t,o⟩:=g;have LA:=geo_laid w ⟨k,m,z,s,t,o⟩;rw[show aggG ⟨k,m,z,s,t,o⟩= .agg #[.int .i64 k,.int .i64 m,.int .i64 z,.int .i64 s,.int .i64 t,.int .i64 o]from rfl]at KC ⊢;obtain⟨va,vc,rfl⟩:=hp.form
  go_enter Tryz.func35,Tryz.ntmps35
  go_wp2_with fail
  refine(KC _).mono ?_
  rintro _ w1 ⟨rfl,B1⟩;obtain⟨_,F1⟩:=LA _ _ B1;clear B1 LA KC;go_wp2;go_ret;exact⟨rfl,h.below F1,Below.turnG F1 HR⟩
 have c0:c=0:=by rw[<-hc.out];exact ckT_ok hT
 subst c0;clear hc
 by_cases hD:LenT g D
 rotate_left
 ·have e1:swX a g st ep D=1:=by unfold swX;rw[if_pos hT,if_neg hD]
  have e2:swS a g st ep D=a:=if_neg fun q=>hD q.2
  rw[e1,e2];clear e1 e2;have op:=one_pos hT.1;obtain⟨k,m,z,s,t,o⟩:=g;simp only at op;have hl:¬(D.length:Int)=k*z:=hD;obtain⟨c,hc⟩:∃c,Hid (c=k*z):=⟨_,rfl⟩;rw[<-hc.out]at op hl;have gk:IntKind.i64.wrap (k*z)=c:=by rw[<-hc.out,IntKind.wrap_i64];omega
  have hl2:((D.length:Int)!=c)=true:=by simp[hl]
  have LA:=geo_laid w ⟨k,m,z,s,t,o⟩;rw[show aggG ⟨k,m,z,s,t,o⟩= .agg #[.int .i64 k,.int .i64 m,.int .i64 z,.int .i64 s,.int .i64 t,.int .i64 o]from rfl]at KC ⊢;obtain⟨va,vc,rfl⟩:=hp.form
  go_enter Tryz.func35,Tryz.ntmps35
  go_wp2_with fail
  refine(KC _).mono ?_
  rintro _ w1 ⟨rfl,B1⟩;obtain⟨⟨x0,x1,x2,x3,x4,x5⟩,F1⟩:=LA _ _ B1;simp only at x0 x1 x2 x3 x4 x5;clear B1 LA KC;go_wp2;go_ret;exact⟨rfl,h.below F1,Below.turnG F1 HR⟩
 have zz:=okG_nat hT.1;have hE:=encR_parT hD hT.1;have hsm:=parT_small hT.1 hD (hz hT.1);have hev:=parT_even hD hT.1;obtain⟨N,hN⟩:∃N,Hid (N=nT g):=⟨_,rfl⟩;obtain⟨AR,hAR⟩:∃AR:Nat->ArS,Hid (AR=psT a g st ep (shT g D) (List.range (nT g))):=⟨_,rfl⟩;have AR0:AR 0=a:=by rw[hAR.out];rfl
 have ARs:∀r,r<N->AR (r+1)=puS (AR r) g st ep r (ro (shT g D) r):=fun r hr=>by
  rw[hN.out]at hr;rw[hAR.out]
  show puS _ _ _ _ ((List.range (nT g)).getD r 0) (ro _ ((List.range (nT g)).getD r 0))=_
  rw[show(List.range (nT g)).getD r 0=r by simp[List.getD,hr]]
 have SX:Hid (∀r,r<N->(AR r).off=true->swX a g st ep D=130/\swS a g st ep D=AR r):=fun r hr ho=>by
  rw[hN.out]at hr;rw[hAR.out]at ho ⊢;obtain⟨q1,q2⟩:=pc_at (B:=List.range (nT g)) (by rw[List.length_range];exact hr) ho;rw[List.length_range]at q2;refine⟨?_,?_⟩
  ·unfold swX;rw[if_pos hT,if_pos hD,q1];rfl
  ·unfold swS;rw[if_pos ⟨hT,hD⟩];exact q2
 have SN:Hid ((∀r,r<N->(AR r).off=false)->swX a g st ep D=0/\swS a g st ep D=AR N):=fun ho=>by
  refine⟨?_,?_⟩
  ·unfold swX;rw[if_pos hT,if_pos hD,pc_end (fun i hi=>by rw[List.length_range]at hi;rw[<-hAR.out];exact ho i (by rw[hN.out];exact hi))];rfl
  ·unfold swS;rw[if_pos ⟨hT,hD⟩,hAR.out,hN.out]
 have hrow:∀r,r<N->(ro (shT g D) r).length<=4096:=fun r hr=>by rw[hN.out]at hr;rw[shT_row hD hT.1 hr];omega
 have hrN:∀r,r<N->r<nT g:=fun r hr=>by rw[hN.out]at hr;exact hr
 have hN1:N<=32:=by rw[hN.out];exact zz.2.2.2.2.1
 have hlen:Hid ((shT g D).length=N):=by show _=_;rw[shT_length,hN.out]
 have KP:=fun W (hr:Rd W v D)=>rparts15_any (w:=W) hg hT.1 hr hD
 have KE:∀W vp,Rs W vp (parT g D)->Calls Tryz.prog 66 #[.int .i64 g.k,.int .i64 g.m,vp] W (MakesFar W 0 (shT g D)):=fun W vp hr=>by
  have:=renc_far (w:=W) (v:=vp) (k:=g.k.toNat) (m:=g.m.toNat) zz.2.2.2.1 (by have:=zz.2.2.2.2.1;unfold nT at this;omega) hr parT_length hev hsm zz.1.symm zz.2.1.symm;exact this
 have op:=one_pos hT.1;obtain⟨k,m,z,s,t,o⟩:=g;simp only at op KE;have hl:(D.length:Int)=k*z:=hD;have gk:IntKind.i64.wrap (k*z)=(D.length:Int):=by rw[<-hl,IntKind.wrap_i64];omega
 have LB:=geo_laid w ⟨k,m,z,s,t,o⟩ 24;rw[show aggG ⟨k,m,z,s,t,o⟩= .agg #[.int .i64 k,.int .i64 m,.int .i64 z,.int .i64 s,.int .i64 t,.int .i64 o]from rfl]at KC KP ⊢;obtain⟨L,hL⟩:∃L,Hid (L=shT ⟨k,m,z,s,t,o⟩ D):=⟨_,rfl⟩;rw[<-hL.out]at ARs KE hrow hlen;obtain⟨P,hP⟩:∃P,Hid (P=parT ⟨k,m,z,s,t,o⟩ D):=⟨_,rfl⟩;rw[<-hP.out]at KE KP;obtain⟨va,vc,rfl⟩:=hp.form;obtain⟨dn,hdn⟩:∃dn,Hid (dn=D.length):=⟨_,rfl⟩;rw[<-hdn.out]at gk KP ⊢;have HP:Hid (Rd w (.slice va dn vc) D):=by rw[hdn.out];exact hp
 have HA:Hid (RaAt w rb HR GA a):=h;clear hE hsm hev zz hz op hl hp h hD
 go_enter Tryz.func35,Tryz.ntmps35
 go_wp2_with fail
 obtain⟨W0,hW0⟩:∃W0,W0=w.alloc (.cells (cellsG ⟨k,m,z,s,t,o⟩) 24):=⟨_,rfl⟩;rw[<-hW0]at LB;have gb:Hid (w.heap.size<W0.heap.size):=by rw[hW0];show _<_;simp
 refine(KC _).mono ?_
 rintro _ v1 ⟨rfl,b1⟩;replace b1:Below W0.heap.size W0 v1:=by rw[hW0];exact b1
 clear hW0 KC;have HAR0:Hid (AR 0=a):=AR0;have HARs:Hid (∀r,r<N->AR (r+1)=puS (AR r) ⟨k,m,z,s,t,o⟩ st ep r (ro L r)):=ARs;have Hrow:Hid (∀r,r<N->(ro L r).length<=4096):=hrow;have HrN:Hid (∀r,r<N->r<nT ⟨k,m,z,s,t,o⟩):=hrN;clear AR0 ARs hrow hrN;obtain⟨⟨x0,x1,x2,x3,x4,x5⟩,F1⟩:=LB _ b1;simp only at x0 x1 x2 x3 x4 x5
 go_upto_region 6 with fail
 have s1:=(LB _ b1).1;have BD:Below W0.heap.size W0 v1.drew:=b1.drew;have sD:=(LB _ BD).1;have FD:=(LB _ BD).2;clear x0 x1 x2 x3 x4 x5 F1
 go_region_held3 (fun wx=>wx.cell? ⟨w.heap.size,0,none⟩=some (.int .i64 k)/\wx.cell? ⟨w.heap.size,1,none⟩=some (.int .i64 m)/\wx.cell? ⟨w.heap.size,2,none⟩=some (.int .i64 z)/\wx.cell? ⟨w.heap.size,3,none⟩=some (.int .i64 s)/\wx.cell? ⟨w.heap.size,4,none⟩=some (.int .i64 t)/\wx.cell? ⟨w.heap.size,5,none⟩=some (.int .i64 o)) (first|exact s1|exact sD|exact s2|exact s3) (first
  |(go_at_call 67;go_loud (refine(KP _ (HP.out.below FD)).mono ?_);rintro _ v2 ⟨vp,rfl,R2,b2⟩;have B2:=BD.stepL b2 BD.size;have s2:=(LB _ B2).1;obtain⟨pa,pc,rfl⟩:=R2.form)
  |(go_at_call 66;go_loud (refine(KE _ _ R2).mono ?_);rintro _ v3 ⟨vs,rfl,R3,b3⟩;have B3:=B2.stepL b3 B2.size;have s3:=(LB _ B3).1;obtain⟨sa,sc,rfl⟩:=R3.form))
 have hL1:0<L.length:=by rw[hlen.out];have:=HrN.out;have:=nT_pos hT.1;rw[hN.out];omega
 have F3:=(LB _ B3).2;have hHR:∀q,HR q->q<w.heap.size:=HA.out.ltR;have TL:Hid (ToldL v3 HR (.slice sa L.length sc) L):=ToldL.far R3 (fun q hq=>Nat.lt_of_lt_of_le (hHR q hq) ((LB _ B2).2.size));have G3:Hid (GeoAt v3 w.heap.size ⟨k,m,z,s,t,o⟩/\w.heap.size<v3.heap.size/\¬HR w.heap.size):=⟨s3,Nat.lt_of_lt_of_le gb.out B3.size,fun q=>Nat.lt_irrefl _ (hHR _ q)⟩;have A3:Hid (RaAt v3 rb HR GA (AR 0)):=by rw[HAR0.out];exact HA.out.below F3
 have T3:Hid (TurnG HR w v3):=Below.turnG F3 HR;obtain⟨xb,xo,xcap,esx,_⟩:=R3.rs.somewhere hL1;simp at esx;obtain⟨rfl,rfl⟩:=esx;clear s1 sD s2 s3 b1 b2 b3 B2 BD FD R2 R3 F3 B3 hHR HA;go_wp2
 go_loopw [14] (fun i wr=>∃r:Nat,r<=L.length/\i= .int .i64 (r:Int)/\RaAt wr rb HR GA (AR r)/\TurnG HR v3 wr/\∀j,j<r->(AR j).off=false) (fun i _=>L.length-(intOf i).toNat)
 case atStart=>exact⟨0,Nat.zero_le _,rfl,A3.out,TurnG.refl _ _,fun j hj=>absurd hj (Nat.not_lt_zero _)⟩
 case round=>
  clear A3;obtain⟨r,hr,rfl,hA,hTu,hoff⟩:=hrel
  by_cases hlt:r<L.length
  ·have hlt':(r:Int)<(L.length:Int):=by omega
   have hrn:Hid (r<N):=by rw[<-hlen.out];exact hlt
   have g1:IntKind.i64.wrap ((r:Int)+1)=((r+1:Nat):Int):=by rw[IntKind.wrap_i64];have:=hlen.out;omega
   obtain⟨xa,xc,cx,Tx,xlt,xng⟩:=(TL.out.turn hTu).spot hlt rfl;obtain⟨LN,hLN⟩:∃LN,Hid (LN=(ro L r).length):=⟨_,rfl⟩;rw[<-hLN.out]at cx Tx;have GG:=G3.out.1.turn G3.out.2.1 G3.out.2.2 hTu;obtain⟨x0,x1,x2,x3,x4,x5⟩:=GG;simp only at x0 x1 x2 x3 x4 x5;have s0:wr.cell? ⟨xb,xo+r,none⟩=some (.slice xa LN xc)/\GeoAt wr w.heap.size ⟨k,m,z,s,t,o⟩:=⟨cx,x0,x1,x2,x3,x4,x5⟩;have bD:Below wr.heap.size wr wr.drew:=(Below.refl _ _).drew;have sD:wr.drew.cell? ⟨xb,xo+r,none⟩=some (.slice xa LN xc)/\GeoAt wr.drew w.heap.size ⟨k,m,z,s,t,o⟩:=⟨cx,x0,x1,x2,x3,x4,x5⟩;have hgsz:Hid (w.heap.size<wr.heap.size):=Nat.lt_of_lt_of_le G3.out.2.1 hTu.size;obtain⟨px,hpx⟩:∃px,Hid (puX (AR r) ⟨k,m,z,s,t,o⟩ st ep r (ro L r)=px):=⟨_,rfl⟩;obtain⟨AN,hAN⟩:∃AN,Hid (puS (AR r) ⟨k,m,z,s,t,o⟩ st ep r (ro L r)=AN):=⟨_,rfl⟩;have KU:Calls Tryz.prog 68 #[.pointer (some ⟨rb,0,none⟩),.agg #[.int .i64 k,.int .i64 m,.int .i64 z,.int .i64 s,.int .i64 t,.int .i64 o],.int .i64 st,.int .i64 ep,.int .i64 (r:Int),.slice xa LN xc] wr.drew (LeavesRA wr.drew rb HR GA AN (.int .i64 px)):=by
    have:=rput15_any (hA.below bD) hg hT (HrN.out r hrn.out) (Tx.rd.below bD) (Hrow.out r hrn.out) hst;rw[hpx.out,hAN.out]at this;exact this
   have s4:Hid (∀w4,TurnG HR wr.drew w4->w4.cell? ⟨xb,xo+r,none⟩=some (.slice xa LN xc)/\GeoAt w4 w.heap.size ⟨k,m,z,s,t,o⟩):=fun w4 T4=>⟨(T4.cell (p:=⟨xb,xo+r,none⟩) xlt xng).trans sD.1,sD.2.turn hgsz.out G3.out.2.2 T4⟩
   clear cx Tx x0 x1 x2 x3 x4 x5 hA bD
   by_cases ho:(AR r).off=true
   ·have e1:px=130:=by rw[<-hpx.out];exact puX_crash.2 ho
    have e2:AN=AR r:=by rw[<-hAN.out];exact puS_off ho _ _
    subst e1 e2;have E9:Hid _:=SX.out r hrn.out ho
    go_wp2_with fail
    go_region_held3 (fun wx=>wx.cell? ⟨xb,xo+r,none⟩=some (.slice xa LN xc)/\wx.cell? ⟨w.heap.size,0,none⟩=some (.int .i64 k)/\wx.cell? ⟨w.heap.size,1,none⟩=some (.int .i64 m)/\wx.cell? ⟨w.heap.size,2,none⟩=some (.int .i64 z)/\wx.cell? ⟨w.heap.size,3,none⟩=some (.int .i64 s)/\wx.cell? ⟨w.heap.size,4,none⟩=some (.int .i64 t)/\wx.cell? ⟨w.heap.size,5,none⟩=some (.int .i64 o)) (first|exact s0|exact sD|exact s5) (first
     |(go_at_call 68;go_loud (refine KU.mono ?_);rintro _ w4 ⟨rfl,A4,T4⟩;have s5:=s4.out _ T4))
    have HA4:Hid _:=A4;have HT4:Hid (TurnG HR w w4):=T3.out.trans ((hTu.drew).trans T4);clear s0 sD s5 KU A4 T4;go_wp2;go_ret;exact⟨by rw[E9.out.1];rfl,by rw[E9.out.2];exact HA4.out,HT4.out⟩
   ·have ho':(AR r).off=false:=by simpa using ho
    have e1:¬px=130:=by rw[<-hpx.out];exact fun e=>ho (puX_crash.1 e)
    have e2:Hid (AN=AR (r+1)):=by rw[<-hAN.out];exact(HARs.out r hrn.out).symm
    have H2:Hid (∀j,j<r+1->(AR j).off=false):=fun j hj=>by
     by_cases e:j=r
     ·rw[e];exact ho'
     ·exact hoff j Zo
    clear hoff ho ho'
    go_wp2_with fail
    go_region_held3 (fun wx=>wx.cell? ⟨xb,xo+r,none⟩=some (.slice xa LN xc)/\wx.cell? ⟨w.heap.size,0,none⟩=some (.int .i64 k)/\wx.cell? ⟨w.heap.size,1,none⟩=some (.int .i64 m)/\wx.cell? ⟨w.heap.size,2,none⟩=some (.int .i64 z)/\wx.cell? ⟨w.heap.size,3,none⟩=some (.int .i64 s)/\wx.cell? ⟨w.heap.size,4,none⟩=some (.int .i64 t)/\wx.cell? ⟨w.heap.size,5,none⟩=some (.int .i64 o)) (first|exact s0|exact sD|exact s5) (first
     |(go_at_call 68;go_loud (refine KU.mono ?_);rintro _ w4 ⟨rfl,A4,T4⟩;have s5:=s4.out _ T4))
    have HA4:Hid (RaAt w4 rb HR GA (AR (r+1))):=by rw[<-e2.out];exact A4
    have HT4:Hid (TurnG HR v3 w4):=(hTu.drew).trans T4;clear s0 sD s5 KU A4 T4 hTu;go_wp2;go_roundw
    case rel=>exact⟨r+1,Zo,Zg,HA4.out,HT4.out,H2.out⟩
    case measure=>simp[intOf];omega
  ·obtain rfl:r=L.length:=by omega
   have hlt':¬(L.length:Int)<(L.length:Int):=Zo
   have E9:Hid _:=SN.out (fun j hj=>hoff j (by rw[hlen.out];exact hj));have HA4:Hid (RaAt wr rb HR GA (AR N)):=by rw[<-hlen.out];exact hA
   have HT4:Hid (TurnG HR w wr):=T3.out.trans hTu;clear hA hTu hoff;go_wp2;go_ret;exact⟨by rw[E9.out.1];rfl,by rw[E9.out.2];exact HA4.out,HT4.out⟩
structure TwoR(w:World)(base:Nat)(vh:Value)(hs:List Bool)(vs:Value)(L:List (List UInt8))(vals:List Value):Prop where
 hr:OwnB w base 4 vh hs
 vr:Vs w base 36 vs L vals
 df:∀g,vh.ownBlock=some g->vs.ownBlock≠some g
 ax:∀(i:Nat) (x:Value),vals[i]? =some x->∀g,vh.ownBlock=some g->Apart g x
section
variable {w w2:World} {base:Nat} {vh vh' vs vs' x:Value} {hs:List Bool} {L:List (List UInt8)} {vals:List Value} {p:List UInt8} {b:Bool}
theorem TwoR.nil(w:World)(base:Nat):TwoR w base (.slice none 0 0) [] (.slice none 0 0) [] []:=⟨OwnB.nil _ _ _,Vs.nil _ _ _,(fun g h=>by cases h),(fun i x h=>by simp at h)⟩
theorem TwoR.below(h:TwoR w base vh hs vs L vals)(hb:Below w.heap.size w w2):TwoR w2 base vh hs vs L vals:=⟨owns_later h.hr hb,h.vr.below hb,h.df,h.ax⟩
theorem ne_or{a b:Option Nat}(h:∀g,a=some g->b≠some g):a=none∨a≠b:=by
 cases a with
 |none=>exact Or.inl rfl
 |some g=>exact Or.inr fun e=>h g rfl e.symm
theorem TwoR.pushH(h:TwoR w base vh hs vs L vals)(hr:OwnB w2 base 4 vh' (hs++[b]))(g:w.grownBy w2 vh.ownBlock)(e:vh'.ownBlock=vh.ownBlock∨vh'.ownBlock=some w.heap.size):TwoR w2 base vh' (hs++[b]) vs L vals:=by
 have hvs:vs.ownBlock=none∨vs.ownBlock≠vh.ownBlock:=ne_or fun q hq e2=>h.df q e2 hq
 refine⟨hr,⟨World.ownsRow.kept h.vr.row g hvs,fun i x hx=>(h.vr.each i x hx).grownV g (h.ax i x hx),h.vr.ap⟩,fun q hq e2=>?_,fun i x hx q hq=>?_⟩
 ·rcases e with e|e
  ·rw[e]at hq;exact h.df q hq e2
  ·rw[e]at hq;simp at hq;have:=(World.ownsRow.lt h.vr.row q e2).2;omega
 ·rcases e with e|e
  ·rw[e]at hq;exact h.ax i x hx q hq
  ·rw[e]at hq;simp at hq;exact(h.vr.each i x hx).apart Zo
theorem TwoR.pushV(h:TwoR w base vh hs vs L vals)(hx:Rd w x p)(hxa:∀g,vs.ownBlock=some g∨vh.ownBlock=some g->Apart g x)(hr:w2.ownsRow base 36 1 vs' (L.length+1) (vals++[x]))(g:w.grownBy w2 vs.ownBlock)(e:vs'.ownBlock=vs.ownBlock∨vs'.ownBlock=some w.heap.size):TwoR w2 base vh hs vs' (L++[p]) (vals++[x]):=by
 refine⟨World.ownsRow.kept h.hr g (ne_or fun q hq=>h.df q hq),h.vr.push hx (fun q hq=>hxa q (Or.inl hq)) hr g e,fun q hq e2=>?_,fun i y hy q hq=>?_⟩
 ·rcases e with e|e
  ·rw[e]at e2;exact h.df q hq e2
  ·rw[e]at e2;simp at e2;have:=(World.ownsRow.lt h.hr q hq).2;omega
 ·by_cases hi:i<vals.length
  ·rw[List.getElem?_append_left hi]at hy;exact h.ax i y hy q hq
  ·rw[List.getElem?_append_right Zo]at hy;have e0:i-vals.length=0:=by
    rcases Nat.eq_zero_or_pos (i-vals.length)with e|e
    ·exact e
    ·rw[List.getElem?_eq_none Zm]at hy;cases hy
   rw[e0]at hy;simp at hy;subst hy;exact hxa q (Or.inr hq)
theorem TwoR.lt(h:TwoR w base vh hs vs L vals){q:Nat}(hq:vs.ownBlock=some q∨vh.ownBlock=some q):base<=q/\q<w.heap.size:=by
 rcases hq with hq|hq
 ·exact World.ownsRow.lt h.vr.row q hq
 ·exact World.ownsRow.lt h.hr q hq
theorem TwoR.both(h:TwoR w base vh hs vs L vals)(hx:Rd w x p)(hxa:∀q,vs.ownBlock=some q∨vh.ownBlock=some q->Apart q x)(o1 o2:Obj)(hr:OwnB w2 base 4 vh' (hs++[b]))(g:(w.alloc o1).grownBy w2 vh.ownBlock)(e:vh'.ownBlock=vh.ownBlock∨vh'.ownBlock=some (w.alloc o1).heap.size):
  TwoR (w2.alloc o2) base vh' (hs++[b]) vs L vals/\Rd (w2.alloc o2) x p/\(∀q,vs.ownBlock=some q∨vh'.ownBlock=some q->Apart q x):=by
 have b1:Below w.heap.size w (w.alloc o1):=(Below.refl _ _).alloc (Nat.le_refl _) _;have b2:Below w2.heap.size w2 (w2.alloc o2):=(Below.refl _ _).alloc (Nat.le_refl _) _;have R1:=hx.below b1;refine⟨((h.below b1).pushH hr g e).below b2,(R1.grownV g fun q hq=>hxa q (Or.inr hq)).below b2,fun q hq=>?_⟩
 rcases hq with hq|hq
 ·exact hxa q (Or.inl hq)
 ·rcases e with e|e
  ·rw[e]at hq;exact hxa q (Or.inr hq)
  ·rw[e]at hq;simp at hq;exact R1.apart Zm
theorem TwoR.bel{w0:World}(h:TwoR w base vh hs vs L vals)(hb:Below base w0 w)(hs0:base<=w.heap.size)(o1:Obj){r:Option Nat}(hr:r=vh.ownBlock∨r=vs.ownBlock)(g:(w.alloc o1).grownBy w2 r):Below base w0 w2:=by
 have b1:Below w.heap.size w (w.alloc o1):=(Below.refl _ _).alloc (Nat.le_refl _) _;refine(hb.trans (b1.mono hs0)).grown g (Nat.le_trans hs0 b1.size) fun q hq=>?_
 rcases hr with e|e
 ·rw[e]at hq;exact(h.lt (Or.inr hq)).1
 ·rw[e]at hq;exact(h.lt (Or.inl hq)).1
end
end Go.Proofs.YtddnfhfangfgeaaGreat.Gf
