/- JOINED: MeRefL, MeRefR, MeRefS, MeRefJ. -/
import Derived.Test.YtclieefpnbdbjaaGreatPome31
import Derived.Test.YtclieefpnbdbjaaGreatPome28
import Derived.Test.YtclieefpnbdbjaaGreatPome22
set_option maxHeartbeats 8000000
set_option maxRecDepth 100000
namespace Go.Proofs.YtclieefpnbdbjaaGreat.Gf
set_option linter.unusedVariables false
set_option linter.unusedSimpArgs false
open Go.RowKit
theorem lat_yes2{w wr Y:World}{x:Int}{A:ArW}{b6 N:Nat}{v:Value}{L:List ObV}(hv:RdOF N wr v L)(ho:oL L=A.ob)(o:Only b6 wr Y)(h6:b6<N)(hb:w.heap.size<=b6)(hN:w.heap.size<=N)(b:Below w.heap.size w wr):Lat18 w x A (.returned (.tuple #[.agg #[.int .i64 A.ar,.int .i64 A.ep,v],.int .i64 x])) Y:=
 ⟨v,L,rfl,(rdOF_only hv o h6).mono hN,ho,b.trans (o.below hb)⟩
theorem lt_now{a:ArS}{g:GeoS}{K:List Bool}(h1:okG g)(h2:rvX a=0){x y:ArW}(hx:onA a g K 0=x)(hy:onA a g K 1=y):ltX a g K=ltE x y/\ltA a g K=if ltE x y=0 then ltW x y else default:=by
 have ho:a.off=false:=by
  cases e:a.off with
  |false=>rfl
  |true=>
   have:rvX a=130:=if_pos e
   rw[this]at h2;cases h2
 have e:ltX a g K=ltE (onA a g K 0) (onA a g K 1):=by unfold ltX;rw[if_neg (fun k=>k h1),if_neg (by rw[ho];decide)]
 rw[<-hx,<-hy];refine⟨e,?_⟩;unfold ltA;rw[e]
theorem lz_end{p:Prop} (h:p:=by
 obtain⟨⟨_,BW⟩,q0,q1,q2,qf⟩:=T3.out _ BZ.out;have f0:=qf 0;have f1:=qf 1;have f2:=qf 2;obtain⟨oY,s0,s1,s2⟩:=set3 (a:=.int .i64 0) (b:=.int .i64 0) (c:=.slice none 0 0) q0 q1 q2;have F9:=hidI (lat_no (x:=E) BW oY (Nat.le_succ _));clear oY BZ qf BW T3;go_wp2;exact bodyPost_ret (v:=.tuple #[.agg #[.int .i64 0,.int .i64 0,.slice none 0 0],.int .i64 E]) (by simp[results,Tryz.results41,go_sem,s0,s1,s2]) rfl (by rw[XE.out,AE.out];exact F9.out)):p:=h
theorem ld_end{p:Prop} (h:p:=by
 obtain⟨⟨_,BW⟩,q0,q1,q2,qf⟩:=T3.out _ BZ.out;have f0:=qf 0;have f1:=qf 1;have f2:=qf 2;obtain⟨oY,s0,s1,s2⟩:=set3 (a:=.int .i64 0) (b:=.int .i64 0) (c:=.slice none 0 0) q0 q1 q2;have F9:=hidI (lat_no (x:=150) BW oY (Nat.le_succ _));clear oY BZ qf BW T3;go_wp2;exact bodyPost_ret (v:=.tuple #[.agg #[.int .i64 0,.int .i64 0,.slice none 0 0],.int .i64 150]) (by simp[results,Tryz.results41,go_sem,s0,s1,s2]) rfl (by rw[XE.out,AE.out];exact F9.out)):p:=h
theorem lx_end{p:Prop} (h:p:=by
 obtain⟨⟨_,BW⟩,q0,q1,q2,qf⟩:=T3.out _ BZ.out;have f0:=qf 0;have f1:=qf 1;have f2:=qf 2;obtain⟨oY,s0,s1,s2⟩:=set3 (a:=.int .i64 A0.ar) (b:=.int .i64 A0.ep) (c:=.slice aa0 L.length ac0) q0 q1 q2;have F9:=hidI (lat_yes2 (w:=w) (x:=0) (A:=A0) HX6.out OX.out oY NX.out (Nat.le_succ _) (by have:=NX.out;omega) BW);clear oY BZ qf BW T3;go_wp2;exact bodyPost_ret (v:=.tuple #[.agg #[.int .i64 A0.ar,.int .i64 A0.ep,.slice aa0 L.length ac0],.int .i64 0]) (by simp[results,Tryz.results41,go_sem,s0,s1,s2]) rfl (by rw[XE.out,AE.out];exact F9.out)):p:=h
theorem ly_end{p:Prop} (h:p:=by
 obtain⟨⟨_,BW⟩,q0,q1,q2,qf⟩:=T3.out _ BZ.out;have f0:=qf 0;have f1:=qf 1;have f2:=qf 2;obtain⟨oY,s0,s1,s2⟩:=set3 (a:=.int .i64 A1.ar) (b:=.int .i64 A1.ep) (c:=.slice aa1 L1.length ac1) q0 q1 q2;have F9:=hidI (lat_yes2 (w:=w) (x:=0) (A:=A1) HY6.out OY.out oY NY.out (Nat.le_succ _) (by have:=NY.out;omega) BW);clear oY BZ qf BW T3;go_wp2;exact bodyPost_ret (v:=.tuple #[.agg #[.int .i64 A1.ar,.int .i64 A1.ep,.slice aa1 L1.length ac1],.int .i64 0]) (by simp[results,Tryz.results41,go_sem,s0,s1,s2]) rfl (by rw[XE.out,AE.out];exact F9.out)):p:=h
theorem rlatest18_any{w:World}{rb:Nat}{HR GA:Nat->Prop}{a:ArS}(h:RaAt w rb HR GA a){g:GeoS}(hg:g.Wf){u:Value}{K:List Bool}(hk:RdB w u K):
  Calls Tryz.prog 41 #[.pointer (some ⟨rb,0,none⟩),aggG g,u] w (Lat18 w (ltX a g K) (ltA a g K)):=by
 obtain⟨ua,uc,eu⟩:=hk.form;subst eu;have HA:Hid (RaAt w rb HR GA a):=h;have HK:Hid (RdB w (.slice ua K.length uc) K):=hk;have KC:=fun V=>@rcheckL_any V g hg _ rfl
 have KO:=fun W2 (b:Below w.heap.size w W2) (ar:Int)=>rone18_any (HA.out.below b) hg (HK.out.below b) (ar:=ar)
 have T2:=two18l w g 23 41;obtain⟨A0,hA0⟩:∃A,onA a g K 0=A:=⟨_,rfl⟩;obtain⟨A1,hA1⟩:∃A,onA a g K 1=A:=⟨_,rfl⟩;have KO0:=fun W2 b=>KO W2 b 0
 have KO1:=fun W2 b=>KO W2 b 1
 rw[hA0]at KO0;rw[hA1]at KO1;have BAD:Hid (¬chG g=0->ltX a g K=chG g/\ltA a g K=default):=fun q=>ltF_ref q
 have OK:chG g=0->okG g:=fun q=>by
  unfold chG at q
  by_cases k:okG g
  ·exact k
  ·rw[if_neg k]at q;cases q
 have OFF:Hid (chG g=0->¬rvX a=0->ltX a g K=rvX a/\ltA a g K=default):=fun q n=>ltF_off (OK q) n
 have NOW:Hid (chG g=0->rvX a=0->ltX a g K=ltE A0 A1/\ltA a g K=if ltE A0 A1=0 then ltW A0 A1 else default):=fun q n=>lt_now (OK q) n hA0 hA1
 obtain⟨X,hX⟩:∃X,rvX a=X:=⟨_,rfl⟩;rw[hX]at KO0 KO1 OFF NOW;obtain⟨y,hy⟩:∃y,chG g=y:=⟨_,rfl⟩;rw[hy]at BAD OFF NOW KC;have AR0:Hid (A0.ar=0):=by rw[<-hA0];rfl
 have AR1:Hid (A1.ar=1):=by rw[<-hA1];rfl
 clear h hk hg OK hX hy hA0 hA1 KO;obtain⟨k,m,z,s,t,o⟩:=g;rw[aggE]at KC KO0 KO1 ⊢;obtain⟨W2,hW2⟩:∃W2,W2=(w.alloc (.cells #[.int .i64 k,.int .i64 m,.int .i64 z,.int .i64 s,.int .i64 t,.int .i64 o] 23)).alloc (.cells #[.int .i64 0,.int .i64 0,.slice none 0 0] 41):=⟨_,rfl⟩;have T3:Hid (∀V,Below W2.heap.size W2 V->(GeoAt V w.heap.size ⟨k,m,z,s,t,o⟩/\Below w.heap.size w V)/\LtBox V (w.heap.size+1) default (.slice none 0 0)):=by rw[hW2];exact T2
 have LW2:Hid (w.heap.size+1<W2.heap.size):=by show _<_;rw[hW2];simp
 clear T2;obtain⟨⟨⟨y0,y1,y2,y3,y4,y5⟩,_⟩,_⟩:=T3.out W2 Zf;simp only at y0 y1 y2 y3 y4 y5
 go_enter Tryz.func41,Tryz.ntmps41
 go_wp2_with fail
 rw[<-hW2];clear hW2;refine(KC _).mono ?_
 rintro _ w1 ⟨rfl,B1⟩;clear KC y0 y1 y2 y3 y4 y5;have BZ:=hidI B1
 by_cases q:y=0
 rotate_left
 ·have q1:(y==0)=false:=Zq.2 q;have q2:(y !=0)=true:=by simp[bne,q1]
  obtain⟨XE0,AE0⟩:=BAD.out q;have XE:=hidI XE0;have AE:=hidI AE0;obtain⟨E,rfl⟩:∃E,E=y:=⟨_,rfl⟩;clear BAD OFF NOW KO0 KO1 XE0 AE0 B1;exact lz_end
 subst q;have OFF':=hidI (OFF.out rfl);have NOW':=hidI (NOW.out rfl);clear BAD OFF NOW BZ;obtain⟨⟨⟨y0,y1,y2,y3,y4,y5⟩,BW1⟩,_⟩:=T3.out w1 B1;simp only at y0 y1 y2 y3 y4 y5;have K0:=KO0 w1 BW1;clear KO0
 go_wp2_with fail
 refine K0.mono ?_
 rintro _ w3 ⟨h3,b3⟩;clear K0 y0 y1 y2 y3 y4 y5 BW1
 rcases h3 with⟨hx,vs,L,rfl,hv,hob⟩|⟨hx,yy,rfl⟩
 rotate_left
 ·have q1:(X==0)=false:=Zq.2 hx;have q2:(X !=0)=true:=by simp[bne,q1]
  obtain⟨XE0,AE0⟩:=OFF'.out hx;have XE:=hidI XE0;have AE:=hidI AE0;obtain⟨E,rfl⟩:∃E,E=X:=⟨_,rfl⟩;obtain⟨w4,hw4⟩:∃w4,w4=w3.alloc (.cells #[.int .i64 A0.ar,.int .i64 yy,.slice none 0 0] 41):=⟨_,rfl⟩;have BZ:Hid (Below W2.heap.size W2 w4):=by
   have b4:Below w3.heap.size w3 w4:=by rw[hw4];exact belR _ _
   exact B1.step16 (b3.step16 b4 b3.size) B1.size
  clear OFF' NOW' KO1 XE0 AE0 B1 b3
  go_upto_region 5 with fail
  rw[<-hw4];clear hw4;exact lz_end
 subst hx;obtain⟨aa0,ac0,ev⟩:=hv.form;subst ev;have NOW2:=hidI (NOW'.out rfl);clear OFF' NOW';obtain⟨z0,z1,z2,b4,zf,lz⟩:=@lay3 w3 (.int .i64 A0.ar) (.int .i64 A0.ep) (.slice aa0 L.length ac0) 41;obtain⟨w4,hw4⟩:∃w4,w4=w3.alloc (.cells #[.int .i64 A0.ar,.int .i64 A0.ep,.slice aa0 L.length ac0] 41):=⟨_,rfl⟩;rw[<-hw4]at z0 z1 z2 b4 lz;obtain⟨bx,hbx⟩:∃bx,Hid (bx=w3.heap.size):=⟨_,rfl⟩;rw[<-hbx.out]at z0 z1 z2 lz;have HX:=hidI (hv.below b4);have OX:=hidI hob;have NX:Hid (w.heap.size+1<w1.heap.size):=by show _<_;have h1:=LW2.out;have h2:=B1.size;omega
 have B4:=hidI (B1.step16 (b3.step16 b4 b3.size) B1.size);clear hv hob zf b4 b3 B1
 go_upto_region 5 with fail
 rw[<-hw4];rw[<-hbx.out];clear hw4;obtain⟨⟨⟨y0,y1,y2,y3,y4,y5⟩,BW4⟩,_⟩:=T3.out w4 B4.out;simp only at y0 y1 y2 y3 y4 y5;have K1:=KO1 w4 BW4;clear KO1
 go_wp2_with fail
 refine K1.mono ?_
 rintro _ w5 ⟨h5,b5⟩;clear K1 y0 y1 y2 y3 y4 y5 BW4
 rcases h5 with⟨_,vs1,L1,rfl,hv1,hob1⟩|⟨hx,_⟩
 rotate_left
 ·exact absurd rfl hx
 obtain⟨aa1,ac1,ev⟩:=hv1.form;subst ev;obtain⟨t0,t1,t2,b6,tf,lt⟩:=@lay3 w5 (.int .i64 A1.ar) (.int .i64 A1.ep) (.slice aa1 L1.length ac1) 41;obtain⟨w6,hw6⟩:∃w6,w6=w5.alloc (.cells #[.int .i64 A1.ar,.int .i64 A1.ep,.slice aa1 L1.length ac1] 41):=⟨_,rfl⟩;rw[<-hw6]at t0 t1 t2 b6;obtain⟨bY,hbY⟩:∃bY,Hid (bY=w5.heap.size):=⟨_,rfl⟩;rw[<-hbY.out]at t0 t1 t2;have b56:=b5.step16 b6 b5.size;replace z0:=(b56.cell (p:=⟨bx,0,none⟩) lz).trans z0;replace z1:=(b56.cell (p:=⟨bx,1,none⟩) lz).trans z1;replace z2:=(b56.cell (p:=⟨bx,2,none⟩) lz).trans z2;have HX6:=hidI (HX.out.below b56);have HY6:=hidI (hv1.below b6);have OY:=hidI hob1;have NY:Hid (w.heap.size+1<w4.heap.size):=by show _<_;have h1:=LW2.out;have h2:=B4.out.size;omega
 have BZ:=hidI (B4.out.step16 b56 B4.out.size);clear hv1 hob1 tf lt b6 b5 b56 HX B4 lz
 go_upto_region 8 with fail
 rw[<-hw6];rw[<-hbY.out];clear hw6;obtain⟨XE0,AE0⟩:=NOW2.out;cases exw:A0.whole with
 |false=>
  cases eyw:A1.whole with
  |false=>
   have hE:ltE A0 A1=150:=by unfold ltE;rw[exw,eyw];simp
   have XE:=hidI (XE0.trans hE);have AE:=hidI (AE0.trans (if_neg (by rw[hE];decide)));clear NOW2 XE0 AE0 hE;exact ld_end
  |true=>
   cases exs:A0.wit with
   |false=>
    have hE:ltE A0 A1=150:=by unfold ltE;rw[exw,eyw,exs];simp
    have XE:=hidI (XE0.trans hE);have AE:=hidI (AE0.trans (if_neg (by rw[hE];decide)));clear NOW2 XE0 AE0 hE;exact ld_end
   |true=>
    have hE:ltE A0 A1=0:=by unfold ltE;rw[exw,eyw,exs];simp
    have hW:ltW A0 A1=A1:=by unfold ltW;rw[if_pos (Or.inl exw)]
    have XE:=hidI (XE0.trans hE);have AE:=hidI (AE0.trans ((if_pos hE).trans hW));clear NOW2 XE0 AE0 hE hW;exact ly_end
 |true=>
  cases eyw:A1.whole with
  |false=>
   cases eys:A1.wit with
   |false=>
    have hE:ltE A0 A1=150:=by unfold ltE;rw[exw,eyw,eys];simp
    have XE:=hidI (XE0.trans hE);have AE:=hidI (AE0.trans (if_neg (by rw[hE];decide)));clear NOW2 XE0 AE0 hE;exact ld_end
   |true=>
    have hE:ltE A0 A1=0:=by unfold ltE;rw[exw,eyw,eys];simp
    have hW:ltW A0 A1=A0:=by unfold ltW;exact if_neg (fun q=>q.elim (fun q=>absurd (exw.symm.trans q) Zd) (fun q=>absurd (eyw.symm.trans q.1) Zd))
    have XE:=hidI (XE0.trans hE);have AE:=hidI (AE0.trans ((if_pos hE).trans hW));clear NOW2 XE0 AE0 hE hW;exact lx_end
  |true=>
   by_cases tk:A1.ep>A0.ep
   ·have t9:decide (A1.ep>A0.ep)=true:=Zy tk;have t8:decide (A0.ep<A1.ep)=true:=Zy tk;have hE:ltE A0 A1=0:=by unfold ltE;rw[exw,eyw];simp
    have hW:ltW A0 A1=A1:=by unfold ltW;rw[if_pos (Or.inr ⟨eyw,tk⟩)]
    have XE:=hidI (XE0.trans hE);have AE:=hidI (AE0.trans ((if_pos hE).trans hW));clear NOW2 XE0 AE0 hE hW;exact ly_end
   ·have t9:decide (A1.ep>A0.ep)=false:=Zx tk;have t8:decide (A0.ep<A1.ep)=false:=Zx tk;have hE:ltE A0 A1=0:=by unfold ltE;rw[exw,eyw];simp
    have hW:ltW A0 A1=A0:=by unfold ltW;exact if_neg (fun q=>q.elim (fun q=>absurd (exw.symm.trans q) Zd) (fun q=>tk q.2))
    have XE:=hidI (XE0.trans hE);have AE:=hidI (AE0.trans ((if_pos hE).trans hW));clear NOW2 XE0 AE0 hE hW;exact lx_end
theorem rp_no{p:Prop} (h:p:=by
 subst hw6;rw[hcb.out]at r0 r1 r2 r3;cases vw with
 |false=>
  have F:=NF.1 rfl;have F':Hid _:=F;clear NF BWW INN NR O6 F;go_wp2;exact bodyPost_ret (v:=.tuple #[.slice none 0 0,.int .i64 150]) (by simp[results,Tryz.results39,go_sem]) rfl F'.out
 |true=>
  have F:=NF.2 rfl;have F':Hid _:=F;clear NF BWW INN NR O6 F;go_wp2;exact bodyPost_ret (v:=.tuple #[.slice la L.length lc,.int .i64 0]) (by simp[results,Tryz.results39,go_sem]) rfl F'.out):p:=h
theorem z32_2{p:Prop} (h:p:=by
 clear m1 x50 x1 RF KS B1 B01 LG2 TT F1;go_wp2;exact bodyPost_ret (v:=.tuple #[.slice none 0 0,.int .i64 1]) (by simp[results,Tryz.results39,go_sem]) rfl F.out
 ):p:=h
theorem rreplay18_any{w:World}{rb:Nat}{HR GA:Nat->Prop}{a:ArS}(h:RaAt w rb HR GA a){g:GeoS}(hg:g.Wf){u:Value}{K:List Bool}(hk:RdB w u K){base:Int}(hbw:(Lit.int .i64 base).wf=true):
  Calls Tryz.prog 39 #[.pointer (some ⟨rb,0,none⟩),aggG g,u,.int .i64 base] w (Recs18 w (rlX a g K base) (rlR a g K base)):=by
 have HK:Hid (RdB w u K):=hk;obtain⟨ua,uc,eu⟩:=hk.form;subst eu;have HA:Hid (RaAt w rb HR GA a):=h;have KC:=fun V=>@rcheckL_any V g hg _ rfl
 have KS:=fun V i=>@rslot_any V g hg i _ rfl
 have m1:=@rl_bad a g K base;have RF:=fun ok q=>@rl_facts a g K base ok q
 have x50:¬okG g->rlX a g K base=50:=fun q=>if_pos q
 have x1:okG g->¬(0<=base/\base<=mo18)->rlX a g K base=1:=fun q1 q2=>by unfold rlX;rw[if_neg (fun k=>k q1),if_pos q2]
 have LG:=geo_laid w g 23;clear h hk;have TT:okG g->1<=g.t/\g.t<=64:=fun q=>by
  obtain⟨_,_,_,_,_,_,_,q7,q8,_⟩:=q;exact⟨q7,q8⟩
 obtain⟨k,m,z,s,t,o⟩:=g;rw[aggE]at KC KS ⊢;obtain⟨W,hW⟩:∃W,W=w.alloc (.cells #[.int .i64 k,.int .i64 m,.int .i64 z,.int .i64 s,.int .i64 t,.int .i64 o] 23):=⟨_,rfl⟩;have LG2:Hid (∀V,Below W.heap.size W V->GeoAt V w.heap.size ⟨k,m,z,s,t,o⟩/\Below w.heap.size w V):=by rw[hW];exact LG
 clear LG;obtain⟨⟨y0,y1,y2,y3,y4,y5⟩,B0⟩:=LG2.out W Zf;have BW:Hid (w.heap.size<=W.heap.size):=B0.size;simp only at y0 y1 y2 y3 y4 y5
 go_enter Tryz.func39,Tryz.ntmps39
 go_wp2_with fail
 rw[<-hW];clear hW;refine(KC _).mono ?_
 rintro _ w1 ⟨rfl,B1⟩;obtain⟨_,B01⟩:=LG2.out w1 B1;clear KC y0 y1 y2 y3 y4 y5 B0
 by_cases ok:okG ⟨k,m,z,s,t,o⟩
 rotate_left
 ·rw[show chG ⟨k,m,z,s,t,o⟩=50 from if_neg ok];have F:Hid (Recs18 w (rlX a ⟨k,m,z,s,t,o⟩ K base) (rlR a ⟨k,m,z,s,t,o⟩ K base) (.returned (.tuple #[.slice none 0 0,.int .i64 50])) w1):=by
   show Recs18 _ _ _ _ _
   rw[m1 (x50 ok) Zd,x50 ok];exact recs_nil rfl B01
  clear m1 x50 x1 RF KS B1 B01 LG2 TT;go_wp2;exact bodyPost_ret (v:=.tuple #[.slice none 0 0,.int .i64 50]) (by simp[results,Tryz.results39,go_sem]) rfl F.out
 rw[show chG ⟨k,m,z,s,t,o⟩=0 from if_pos ok];have F1:Hid (¬(0<=base/\base<=mo18)->Recs18 w (rlX a ⟨k,m,z,s,t,o⟩ K base) (rlR a ⟨k,m,z,s,t,o⟩ K base) (.returned (.tuple #[.slice none 0 0,.int .i64 1])) w1):=fun q=>by
  show Recs18 _ _ _ _ _
  rw[m1 (x1 ok q) Zd,x1 ok q];exact recs_nil rfl B01
 by_cases q1:base<0
 ·have F:Hid _:=F1.out (fun k=>Zo);exact z32_2
 by_cases q3:base>2147483547
 ·have F:Hid _:=F1.out (fun k=>by have:=k.2;unfold mo18 at this;omega);exact z32_2
 have qq:0<=base/\base<=mo18:=⟨Zo,by unfold mo18;omega⟩;obtain⟨t1,t2⟩:1<=t/\t<=64:=TT ok;have RFF:=RF ok qq;clear F1 m1 x50 x1 RF TT;obtain⟨gb,hgb⟩:∃gb,Hid (gb=w.heap.size):=⟨_,rfl⟩;rw[<-hgb.out];obtain⟨T,hT⟩:∃T:Nat,t=(T:Int):=⟨t.toNat,Zo⟩;subst hT;rw[show(GeoS.t ⟨k,m,z,s,(T:Int),o⟩).toNat=T from Int.toNat_natCast T]at RFF
 go_wp2_with fail
 go_loopw [11,12] (fun v i wr=>∃(r:Nat) (L:List RcV),r<=T/\i= .int .i64 (r:Int)/\OwnRc wr W.heap.size v L/\Hid (L.map (·.r)=(List.range r).map fun i=>raR (rlV a ⟨k,m,z,s,(T:Int),o⟩ K i).da)/\Hid (Below W.heap.size W wr)/\Hid (∀j,j<r->rlF a ⟨k,m,z,s,(T:Int),o⟩ K base j=true)/\Hid (0<r->a.off=false)) (fun _ i _=>T-(intOf i).toNat)
 case atStart=>exact⟨0,[],Zz,rfl,OwnRc.nil _ _,rfl,B1,fun j hj=>Zo,fun q=>Zo⟩
 case round=>
  obtain⟨r,L,hr,rfl,hO,hS,hB,hall,hof⟩:=hrel;have LL:Hid (L.length=r):=by
   show _=_
   have:=congrArg List.length hS.out;rw[List.length_map,List.length_map,List.length_range]at this;exact this
  obtain⟨la,lc,el⟩:=(hO.rd (by have:=LL.out;omega)).form;subst el;obtain⟨⟨y0,y1,y2,y3,y4,y5⟩,B0⟩:=LG2.out wr hB.out;simp only at y0 y1 y2 y3 y4 y5;rw[<-hgb.out]at y0 y1 y2 y3 y4 y5
  by_cases hlt:r<T
  ·have hlt':(r:Int)<(T:Int):=by omega
   obtain⟨V,hV⟩:∃V,Hid (V=rlV a ⟨k,m,z,s,(T:Int),o⟩ K r):=⟨_,rfl⟩;obtain⟨ad,had⟩:∃ad,Hid (ad=slG ⟨k,m,z,s,(T:Int),o⟩ (r:Int)):=⟨_,rfl⟩;have KS1:=fun V=>KS V (r:Int)
   rw[<-had.out]at KS1;have KR:=fun W2 (b:Below wr.heap.size wr W2)=>rread17_any (HA.out.below (B0.step16 b B0.size)) (ad:=ad) (HK.out.below (B0.step16 b B0.size))
   have EV:rvV a K ad=V:=by rw[hV.out,had.out];rfl
   rw[EV]at KR;have DV:V.da.length<=4096/\(Lit.int .i64 V.ep).wf=true:=by rw[<-EV];exact vo_da
   obtain⟨vh,ve,vda,vco,vw⟩:=V;simp only at DV
   go_wp2_with fail
   refine(KS1 _).mono ?_
   rintro _ w2 ⟨rfl,B2⟩;clear KS1;obtain⟨X,hX⟩:∃X,Hid (X=rvX a):=⟨_,rfl⟩;have KR1:=KR w2 B2;rw[<-hX.out]at KR1
   go_wp2_with fail
   refine KR1.mono ?_
   rintro _ w3 ⟨vd,rfl,R3,B3⟩;clear KR KR1;simp only at R3;obtain⟨da,dc,ed⟩:=R3.form;subst ed;rw[show aggV ⟨vh,ve,vda,vco,vw⟩ (.slice da vda.length dc)= .agg #[.bool vh,.int .i64 ve,.slice da vda.length dc,.int .i64 ((vco:Nat):Int),.bool vw]from rfl];have B13:=B2.step16 B3 B2.size;obtain⟨w4,hw4⟩:∃w4,w4=w3.alloc (.cells #[.bool vh,.int .i64 ve,.slice da vda.length dc,.int .i64 ((vco:Nat):Int),.bool vw] 130):=⟨_,rfl⟩;have b4:Below w3.heap.size w3 w4:=by rw[hw4];exact belR _ _
   have v0:w4.cell? ⟨w3.heap.size,0,none⟩=some (.bool vh):=by rw[hw4];exact World.cell?_alloc_new _ _ _ _
   have v1:w4.cell? ⟨w3.heap.size,1,none⟩=some (.int .i64 ve):=by rw[hw4];exact World.cell?_alloc_new _ _ _ _
   have v2:w4.cell? ⟨w3.heap.size,2,none⟩=some (.slice da vda.length dc):=by rw[hw4];exact World.cell?_alloc_new _ _ _ _
   have v4:w4.cell? ⟨w3.heap.size,4,none⟩=some (.bool vw):=by rw[hw4];exact World.cell?_alloc_new _ _ _ _
   have l4:w3.heap.size<w4.heap.size:=by rw[hw4];simp
   obtain⟨vb,hvb⟩:∃vb,Hid (vb=w3.heap.size):=⟨_,rfl⟩;have B14:=B13.step16 b4 B13.size;have BW4:=B0.step16 B14 B0.size;cases ho:a.off with
   |true=>
    have eX:X=130:=hX.out.trans (if_pos ho);subst eX;have F:Hid (Recs18 w (rlX a ⟨k,m,z,s,(T:Int),o⟩ K base) (rlR a ⟨k,m,z,s,(T:Int),o⟩ K base) (.returned (.tuple #[.slice none 0 0,.int .i64 130])) w4):=by
     show Recs18 _ _ _ _ _
     rw[(RFF.off ho).2,(RFF.off ho).1];exact recs_nil rfl BW4
    clear RFF hO hS hB hall hof B13 B2 B3 b4 v0 v1 v2 v4 l4 B14 BW4 R3 hX hV EV
    go_wp2_with fail
    rw[<-hw4];clear hw4;exact bodyPost_ret (v:=.tuple #[.slice none 0 0,.int .i64 130]) (by simp[results,Tryz.results39,go_sem]) rfl F.out
   |false=>
    have eX:X=0:=hX.out.trans (if_neg (by rw[ho];decide));subst eX;have R4:=R3.below b4;have KD:=rdec16_any R4 Zo rfl rfl;obtain⟨hh,hhh⟩:∃hh,Hid (hh=if IsR vda then (0:Int)else 160):=⟨_,rfl⟩;rw[<-hhh.out]at KD;rw[<-hvb.out]at v0 v1 v2 v4 l4
    go_wp2_with fail
    rw[<-hw4,<-hvb.out];clear hw4
    go_wp2_with fail
    refine KD.mono ?_
    rintro _ w5 ⟨c,rfl,hcr,hcin,B5,hfar⟩;clear KD;obtain⟨⟨ckd,cky,cln,cst⟩,cvs⟩:=c;obtain⟨ca,cc,ecs⟩:=hcin.rs.form;simp only at ecs hcr hfar;subst ecs;rw[show aggR ⟨⟨ckd,cky,cln,cst⟩,.slice ca cst.length cc⟩= .agg #[.int .i64 ckd,.string ⟨cky.toArray⟩,.int .i64 cln,.slice ca cst.length cc]from rfl];have l5:vb<w5.heap.size:=Zu l4 B5.size;obtain⟨w6,hw6⟩:∃w6,w6=w5.alloc (.cells #[.int .i64 ckd,.string ⟨cky.toArray⟩,.int .i64 cln,.slice ca cst.length cc] 38):=⟨_,rfl⟩;have b6:Below w5.heap.size w5 w6:=by rw[hw6];exact belR _ _
    have r0:w6.cell? ⟨w5.heap.size,0,none⟩=some (.int .i64 ckd):=by rw[hw6];exact World.cell?_alloc_new _ _ _ _
    have r1:w6.cell? ⟨w5.heap.size,1,none⟩=some (.string ⟨cky.toArray⟩):=by rw[hw6];exact World.cell?_alloc_new _ _ _ _
    have r2:w6.cell? ⟨w5.heap.size,2,none⟩=some (.int .i64 cln):=by rw[hw6];exact World.cell?_alloc_new _ _ _ _
    have r3:w6.cell? ⟨w5.heap.size,3,none⟩=some (.slice ca cst.length cc):=by rw[hw6];exact World.cell?_alloc_new _ _ _ _
    have B56:=B5.step16 b6 B5.size;replace v0:=(B56.cell (p:=⟨vb,0,none⟩) l4).trans v0;replace v1:=(B56.cell (p:=⟨vb,1,none⟩) l4).trans v1;replace v2:=(B56.cell (p:=⟨vb,2,none⟩) l4).trans v2;replace v4:=(B56.cell (p:=⟨vb,4,none⟩) l4).trans v4;have BW6:=BW4.step16 B56 BW4.size;have Br6:=B14.step16 B56 B14.size;have O6:=hO.later Br6;have BWW:Hid (Below W.heap.size W w6):=hB.out.step16 Br6 hB.out.size;have INN:RcV.In w6 ⟨⟨ckd,cky,cln,cst⟩,.slice ca cst.length cc⟩:=hcin.below b6;have lo4:wr.heap.size<=w4.heap.size:=B14.size;have NR:NearR W.heap.size w6.heap.size (.slice la L.length lc) (.slice ca cst.length cc):=near_far (lo:=w4.heap.size) INN.rs (Nat.le_trans hB.out.size lo4) (fun q hq=>by have:=(Zv hO.row q hq).2;omega) hfar;have s6:=BWW.out.size;have RV:rlV a ⟨k,m,z,s,(T:Int),o⟩ K r=⟨vh,ve,vda,vco,vw⟩:=hV.out.symm;have FI:=@rlF_iff a ⟨k,m,z,s,(T:Int),o⟩ K base r;rw[RV]at FI;have st0:=RFF.stop0 r ho hall.out hlt;have st1:=RFF.stop1 r ho hall.out hlt;rw[RV]at st0 st1;have STOP:Hid (rlF a ⟨k,m,z,s,(T:Int),o⟩ K base r=false->(vw=false->Recs18 w (rlX a ⟨k,m,z,s,(T:Int),o⟩ K base) (rlR a ⟨k,m,z,s,(T:Int),o⟩ K base) (.returned (.tuple #[.slice none 0 0,.int .i64 150])) w6)/\(vw=true->Recs18 w (rlX a ⟨k,m,z,s,(T:Int),o⟩ K base) (rlR a ⟨k,m,z,s,(T:Int),o⟩ K base) (.returned (.tuple #[.slice la L.length lc,.int .i64 0])) w6)):=fun hf=>And.intro (fun q=>by
      rw[(st0 hf q).2,(st0 hf q).1];exact recs_nil rfl BW6) (fun q=>by
      rw[(st1 hf q).2,(st1 hf q).1];exact⟨_,L,rfl,O6.weak BW.out,hS.out,BW6⟩)
    have SNXT:Hid (IsR vda->(L++[(⟨⟨ckd,cky,cln,cst⟩,.slice ca cst.length cc⟩:RcV)]).map (fun x=>RcV.r x)=(List.range (r+1)).map fun i=>raR (rlV a ⟨k,m,z,s,(T:Int),o⟩ K i).da):=fun q=>by
     have e:(⟨ckd,cky,cln,cst⟩:RcS)=raR vda:=hcr.trans (if_pos q);rw[List.map_append,hS.out,List.range_succ,List.map_append]
     show _++[(⟨ckd,cky,cln,cst⟩:RcS)]=_++[raR (rlV a ⟨k,m,z,s,(T:Int),o⟩ K r).da]
     rw[RV,e]
    have ALL:Hid (rlF a ⟨k,m,z,s,(T:Int),o⟩ K base r=true->∀j,j<r+1->rlF a ⟨k,m,z,s,(T:Int),o⟩ K base j=true):=fun q j hj=>by
     by_cases e:j=r
     ·rw[e];exact q
     ·exact hall.out j Zo
    have OFF:Hid (0<r+1->a.off=false):=fun _=>ho
    have NOT:Hid (¬(vh=true/\ve=base+(r:Int)+1/\IsR vda)->rlF a ⟨k,m,z,s,(T:Int),o⟩ K base r=false):=fun q=>by
     cases e:rlF a ⟨k,m,z,s,(T:Int),o⟩ K base r with
     |false=>rfl
     |true=>exact absurd (FI.1 e) q
    have YES:Hid ((vh=true/\ve=base+(r:Int)+1/\IsR vda)->rlF a ⟨k,m,z,s,(T:Int),o⟩ K base r=true):=fun q=>FI.2 q
    obtain⟨cb,hcb⟩:∃cb,Hid (cb=w5.heap.size):=⟨_,rfl⟩;rw[<-hcb.out]at r0 r1 r2 r3;have wa:IntKind.i64.wrap (base+(r:Int))=base+(r:Int):=Zw
    have wb:IntKind.i64.wrap (base+(r:Int)+1)=base+(r:Int)+1:=Zw
    clear FI st0 st1 hO hS hB hall hof RFF R3 R4 hX hV EV RV B13 B14 B2 B3 B5 b4 b6 B56 Br6 lo4 hcin hfar hcr BW4 B0 y0 y1 y2 y3 y4 y5 KS DV
    by_cases q5:vh=true
    rotate_left
    ·have q5':vh=false:=by simpa using q5
     subst q5';have NF:=STOP.out (NOT.out Zs);clear STOP NOT YES ALL SNXT;exact rp_no
    subst q5
    by_cases q6:ve=base+(r:Int)+1
    rotate_left
    ·have q6':(ve==base+(r:Int)+1)=false:=Zq.2 q6;have NF:=STOP.out (NOT.out (fun x=>q6 x.2.1));clear STOP NOT YES ALL SNXT;exact rp_no
    subst q6
    by_cases q7:IsR vda
    rotate_left
    ·have eh:hh=160:=hhh.out.trans (if_neg q7);subst eh;have NF:=STOP.out (NOT.out (fun x=>q7 x.2.2));clear STOP NOT YES ALL SNXT;exact rp_no
    have eh:hh=0:=hhh.out.trans (if_pos q7);subst eh;have SN:=SNXT.out q7;have AL:Hid (∀j,j<r+1->rlF a ⟨k,m,z,s,(T:Int),o⟩ K base j=true):=ALL.out (YES.out (And.intro rfl (And.intro rfl q7)));have SN':Hid ((L++[(⟨⟨ckd,cky,cln,cst⟩,.slice ca cst.length cc⟩:RcV)]).map (fun x=>RcV.r x)=(List.range (r+1)).map fun i=>raR (rlV a ⟨k,m,z,s,(T:Int),o⟩ K i).da):=SN;clear SNXT ALL YES NOT STOP SN hhh;subst hw6;rw[hcb.out]at r0 r1 r2 r3;have h6s:Hid (w5.heap.size+1=(w5.alloc (.cells #[.int .i64 ckd,.string ⟨cky.toArray⟩,.int .i64 cln,.slice ca cst.length cc] 38)).heap.size):=by show _=_;simp
    have Ll:L.length<=100000:=by have:=LL.out;omega
    go_wp2_with (at_builtin;go_loud (refine wpList_append_rc (w:=w5.alloc (.cells #[.int .i64 ckd,.string ⟨cky.toArray⟩,.int .i64 cln,.slice ca cst.length cc] 38)) (c:=⟨⟨ckd,cky,cln,cst⟩,.slice ca cst.length cc⟩) rfl (.tmp 72) (.tmp 74) rfl rfl rfl O6 INN NR rfl rfl h6s.out Ll s6 ?_);go_loud (intro v7 w7 o7 G7;have B7:Below W.heap.size W w7:=BWW.out.grown G7.gr BWW.out.size (fun q hq=>(Zv O6.row q hq).1);clear G7 O6 NR INN))
    have B8:Hid (Below W.heap.size W w7):=B7;go_roundw
    case rel=>exact⟨r+1,_,Zo,Zg,o7,SN',B8,AL,OFF⟩
    case measure=>simp[intOf];omega
  ·obtain rfl:r=T:=by omega
   have hge:¬(r:Int)<(r:Int):=Zo
   have ho:a.off=false:=hof.out Zo;have F:Hid (Recs18 w (rlX a ⟨k,m,z,s,(r:Int),o⟩ K base) (rlR a ⟨k,m,z,s,(r:Int),o⟩ K base) (.returned (.tuple #[.slice la L.length lc,.int .i64 0])) wr):=by
    obtain⟨e1,e2⟩:=RFF.full ho hall.out
    show Recs18 _ _ _ _ _
    rw[e1,e2];exact⟨_,L,rfl,hO.weak BW.out,hS.out,B0⟩
   clear RFF hO hS hB hall hof B0 KS;go_wp2;exact bodyPost_ret (v:=.tuple #[.slice la L.length lc,.int .i64 0]) (by simp[results,Tryz.results39,go_sem]) rfl F.out
def puR(a:ArS)(g:GeoS)(ar ep:Int)(L:List ObS)(r:Nat):PuS:=if r=0 then svA a g ar ep L else svB a g ar ep L
def stR(a:ArS)(g:GeoS)(ar ep:Int)(L:List ObS)(r:Nat):ArS:=if r=0 then a else (puR a g ar ep L (r-1)).st
def alR(a:ArS)(g:GeoS)(ar ep:Int)(L:List ObS):Nat->Bool
 |0=>true
 |r+1=>alR a g ar ep L r&&decide (0<(puR a g ar ep L r).n)
theorem pu_step{a:ArS}{g:GeoS}{ar ep:Int}{L:List ObS}(h:svP g ar ep L=0){r:Nat}(hr:r<2):wvX (stR a g ar ep L r) (arG g ar (r:Int)) ep (ro (snP L) r)=puE (puR a g ar ep L r)/\wvN (stR a g ar ep L r) (arG g ar (r:Int)) ep (ro (snP L) r)=puN (puR a g ar ep L r)/\wvS (stR a g ar ep L r) (arG g ar (r:Int)) ep (ro (snP L) r)=stR a g ar ep L (r+1)/\(ro (snP L) r).length<=100000:=by
 obtain⟨s1,s2⟩:=sv_se h
 have:r=0∨r=1:=Zo
 rcases this with rfl|rfl
 ·have e:ro (snP L) 0=(snB L).take 4096:=rfl;have w:wvP (stR a g ar ep L 0) (arG g ar 0) ep ((snB L).take 4096)=puR a g ar ep L 0:=rfl;rw[e]
  show wvX _ (arG g ar 0) _ _=_/\wvN _ (arG g ar 0) _ _=_/\wvS _ (arG g ar 0) _ _=_/\_
  unfold wvX wvN wvS;rw[if_pos s1,w];exact⟨rfl,rfl,rfl,by have:=s1.2.2;omega⟩
 ·have e:ro (snP L) 1=(snB L).drop 4096:=rfl;have w:wvP (stR a g ar ep L 1) (arG g ar 1) ep ((snB L).drop 4096)=puR a g ar ep L 1:=rfl;rw[e]
  show wvX _ (arG g ar 1) _ _=_/\wvN _ (arG g ar 1) _ _=_/\wvS _ (arG g ar 1) _ _=_/\_
  unfold wvX wvN wvS;rw[if_pos s2,w];exact⟨rfl,rfl,rfl,by have:=s2.2.2;omega⟩
theorem sv_crash{a:ArS}{g:GeoS}{ar ep:Int}{L:List ObS}(h:svP g ar ep L=0){r:Nat}(hr:r<2)(hc:(puR a g ar ep L r).cr=true)(hb:∀j,j<r->(puR a g ar ep L j).cr=false):svX a g ar ep L=130/\svS a g ar ep L=stR a g ar ep L (r+1):=by
 have nn:¬¬svP g ar ep L=0:=fun k=>k h
 unfold svX svS;rw[if_neg nn,if_neg nn]
 have:r=0∨r=1:=Zo
 rcases this with rfl|rfl
 ·have c:(svA a g ar ep L).cr=true:=hc;rw[if_pos c,if_pos c];exact⟨rfl,rfl⟩
 ·have c0:(svA a g ar ep L).cr=false:=hb 0 Zo;have c:(svB a g ar ep L).cr=true:=hc;have n0:¬(svA a g ar ep L).cr=true:=by rw[c0];decide
  rw[if_neg n0,if_neg n0,if_pos c,if_pos c];exact⟨rfl,rfl⟩
theorem sv_done{a:ArS}{g:GeoS}{ar ep:Int}{L:List ObS}(h:svP g ar ep L=0)(hb:∀j,j<2->(puR a g ar ep L j).cr=false):svX a g ar ep L=(if ¬flAX (stR a g ar ep L 2)=0 then flAX (stR a g ar ep L 2)else if alR a g ar ep L 2=true then 0 else 150)/\svS a g ar ep L=flAS (stR a g ar ep L 2):=by
 have nn:¬¬svP g ar ep L=0:=fun k=>k h
 have c0:(svA a g ar ep L).cr=false:=hb 0 Zo;have c1:(svB a g ar ep L).cr=false:=hb 1 Zo;unfold svX svS;have n0:¬(svA a g ar ep L).cr=true:=by rw[c0];decide
 have n1:¬(svB a g ar ep L).cr=true:=by rw[c1];decide
 rw[if_neg nn,if_neg nn,if_neg n0,if_neg n0,if_neg n1,if_neg n1];refine⟨?_,rfl⟩
 show(if ¬flAX (svB a g ar ep L).st=0 then _ else _)=if ¬flAX (svB a g ar ep L).st=0 then _ else _
 have e:alR a g ar ep L 2=(decide (0<(svA a g ar ep L).n)&&decide (0<(svB a g ar ep L).n)):=by
  show((true&&decide (0<(svA a g ar ep L).n))&&decide (0<(svB a g ar ep L).n))=_
  rw[Bool.true_and]
 rw[e]
 by_cases zz:flAX (svB a g ar ep L).st=0
 rotate_left
 ·rw[if_pos zz,if_pos zz];rfl
 have mm:¬¬flAX (svB a g ar ep L).st=0:=fun k=>k zz
 rw[if_neg mm,if_neg mm]
 by_cases z0:(svA a g ar ep L).n=0
 ·rw[if_pos (Or.inl z0),z0];rfl
 ·by_cases z1:(svB a g ar ep L).n=0
  ·rw[if_pos (Or.inr z1),z1];simp
  ·have mn:¬((svA a g ar ep L).n=0∨(svB a g ar ep L).n=0):=fun k=>k.elim z0 z1
   rw[if_neg mn,Zy (show 0<(svA a g ar ep L).n by omega),Zy (show 0<(svB a g ar ep L).n by omega)];rfl
theorem svP_50{g:GeoS}{ar ep:Int}{L:List ObS}(h:¬okG g):svP g ar ep L=50:=if_pos h
theorem svP_1{g:GeoS}{ar ep:Int}{L:List ObS}(h:okG g)(q:¬(0<=ar/\ar<=1/\0<=ep/\ep<=mo18/\MayL L)):svP g ar ep L=1:=by
 unfold svP;rw[if_neg (fun k=>k h),if_neg (by rw[@Zx _ (Classical.propDecidable _) q];decide)]
theorem svP_0{g:GeoS}{ar ep:Int}{L:List ObS}(h:okG g)(q:0<=ar/\ar<=1/\0<=ep/\ep<=mo18/\MayL L):svP g ar ep L=0:=by
 unfold svP;rw[if_neg (fun k=>k h),if_pos (@Zy _ (Classical.propDecidable _) q)]
theorem z32_3{p:Prop} (h:p:=by
 go_wp2;exact bodyPost_ret (v:=.int .i64 1) (by simp[results,Tryz.results40,go_sem]) rfl F.out
 ):p:=h
theorem z32_1{p:Prop} (h:p:=by
 clear E0 ST SC SD KA KEEP hX3 hpn F1;exact z32_3
 ):p:=h
theorem z32_4{p:Prop} (h:p:=by
 have F:=hidI (F1.out (fun k=>Zo));exact z32_1
 ):p:=h
theorem rsave18_any{w:World}{rb:Nat}{HR GA:Nat->Prop}{a:ArS}(h:RaAt w rb HR GA a){g:GeoS}(hg:g.Wf){ar ep:Int}(haw:(Lit.int .i64 ar).wf=true){vs:Value}{L:List ObV}(ho:RdO w vs L)(hs:∀i,i<L.length->(L.getD i default).o.st.length<=1000000):
  Calls Tryz.prog 40 #[.pointer (some ⟨rb,0,none⟩),aggG g,.agg #[.int .i64 ar,.int .i64 ep,vs]] w (LeavesRA w rb HR GA (svS a g ar ep (oL L)) (.int .i64 (svX a g ar ep (oL L)))):=by
 obtain⟨va,vc,ev⟩:=ho.form;subst ev;have HA:Hid (RaAt w rb HR GA a):=h;have KC:=fun V=>@rcheckL_any V g hg _ rfl
 have KA:=fun V (i:Int)=>@rarea_any V g hg ar i _ rfl
 have T2:=two18s w g ar ep (.slice va L.length vc) 23 41;have EARLY:Hid (∀V e,svP g ar ep (oL L)=e->¬e=0->Below w.heap.size w V->LeavesRA w rb HR GA (svS a g ar ep (oL L)) (.int .i64 (svX a g ar ep (oL L))) (.returned (.int .i64 e)) V):=fun V e hP he b=>by
  have nz:¬svP g ar ep (oL L)=0:=by rw[hP];exact he
  unfold svX svS;rw[if_pos nz,if_pos nz,hP];exact⟨rfl,HA.out.below b,Below.turnG b HR⟩
 have E50:=hidI (fun q=>@svP_50 g ar ep (oL L) q);have E1:=hidI (fun q r=>@svP_1 g ar ep (oL L) q r);have E0:=hidI (fun q r=>@svP_0 g ar ep (oL L) q r);have ST:=hidI (fun q r hr=>@pu_step a g ar ep (oL L) q r hr);have SC:=hidI (fun q r hr c b=>@sv_crash a g ar ep (oL L) q r hr c b);have SD:=hidI (fun q b=>@sv_done a g ar ep (oL L) q b);have KSN:=fun W (b:Below w.heap.size w W)=>rsnap16_far (ho.below b) hs
 have lHR:∀k,HR k->k<w.heap.size:=by
  obtain⟨_,_,_,_,_,hI,_⟩:=h;exact hI.lt
 clear h ho hs;obtain⟨k,m,z,s,t,o⟩:=g;rw[aggE]at KC KA ⊢;obtain⟨W,hW⟩:∃W,W=(w.alloc (.cells #[.int .i64 k,.int .i64 m,.int .i64 z,.int .i64 s,.int .i64 t,.int .i64 o] 23)).alloc (.cells #[.int .i64 ar,.int .i64 ep,.slice va L.length vc] 41):=⟨_,rfl⟩;have T3:Hid (∀V,Below W.heap.size W V->(GeoAt V w.heap.size ⟨k,m,z,s,t,o⟩/\Below w.heap.size w V)/\V.cell? ⟨w.heap.size+1,0,none⟩=some (.int .i64 ar)/\V.cell? ⟨w.heap.size+1,1,none⟩=some (.int .i64 ep)/\V.cell? ⟨w.heap.size+1,2,none⟩=some (.slice va L.length vc)):=by
  rw[hW];exact T2
 have LW:Hid (w.heap.size+1<W.heap.size):=by show _<_;rw[hW];simp
 clear T2;obtain⟨⟨⟨x0,x1,x2,x3,x4,x5⟩,B0⟩,y0,y1,y2⟩:=T3.out W Zf;simp only at x0 x1 x2 x3 x4 x5
 go_enter Tryz.func40,Tryz.ntmps40
 go_wp2_with fail
 rw[<-hW];clear hW;refine(KC _).mono ?_
 rintro _ w1 ⟨rfl,B1⟩;clear KC x0 x1 x2 x3 x4 x5 y0 y1 y2 B0;obtain⟨⟨⟨x0,x1,x2,x3,x4,x5⟩,B01⟩,y0,y1,y2⟩:=T3.out w1 B1;clear x0 x1 x2 x3 x4 x5
 by_cases ok:okG ⟨k,m,z,s,t,o⟩
 rotate_left
 ·rw[show chG ⟨k,m,z,s,t,o⟩=50 from if_neg ok];have F:=hidI (EARLY.out w1 50 (E50.out ok) Zd B01);clear EARLY E50 E1 E0 ST SC SD KSN KA;go_wp2;exact bodyPost_ret (v:=.int .i64 50) (by simp[results,Tryz.results40,go_sem]) rfl F.out
 rw[show chG ⟨k,m,z,s,t,o⟩=0 from if_pos ok];have KE:=KSN w1 B01
 go_wp2_with fail
 refine KE.mono ?_
 rintro ez w2 hsn;obtain⟨X3,pv,hez,hX3,B2,KEEP,pa,pn,pc,epv,hpn⟩:∃(X3:Int) (pv:Value),ez=Ending.returned (.tuple #[pv,.int .i64 X3])/\((MayL (oL L)/\X3=0)∨(¬MayL (oL L)/\X3=1))/\Below w1.heap.size w1 w2/\(MayL (oL L)->KeepRs w1.heap.size w2 pv (snP (oL L)))/\∃pa pn pc,pv= .slice pa pn pc/\(MayL (oL L)->pn=2):=by
  rcases hsn with⟨m,u,rfl,k1,k2,k3⟩|⟨m,rfl,k3⟩
  ·obtain⟨pa,pc,e⟩:=k1.form;exact⟨0,u,rfl,Or.inl ⟨m,rfl⟩,k3,fun _=>k2,pa,_,pc,e,fun _=>rfl⟩
  ·exact⟨1,_,rfl,Or.inr ⟨m,rfl⟩,k3,fun q=>absurd q m,none,0,0,rfl,fun q=>absurd q m⟩
 clear KE hsn KSN y0 y1 y2;subst hez epv;have B12:=B1.step16 B2 B1.size;obtain⟨⟨⟨x0,x1,x2,x3,x4,x5⟩,B02⟩,y0,y1,y2⟩:=T3.out w2 B12;clear x0 x1 x2 x3 x4 x5 y2;have F1:=hidI (fun q=>EARLY.out w2 1 (E1.out ok q) Zd B02);clear EARLY E50 E1
 by_cases q1:ar<0
 ·exact z32_4
 by_cases q2:ar>1
 ·exact z32_4
 by_cases q3:ep<0
 ·exact z32_4
 by_cases q4:ep>2147483547
 ·have F:=hidI (F1.out (fun k=>by have:=k.2.2.2.1;unfold mo18 at this;omega));exact z32_1
 rcases hX3 with⟨may,rfl⟩|⟨may,rfl⟩
 rotate_left
 ·have F:=hidI (F1.out (fun k=>may k.2.2.2.2));clear E0 ST SC SD KA KEEP hpn F1;exact z32_3
 have hP:=E0.out ok ⟨Zo,Zo,Zo,by unfold mo18;omega,may⟩;have KP:=hidI (KEEP may);obtain rfl:pn=2:=hpn may;have ST':=hidI (ST.out hP);have SC':=hidI (SC.out hP);have SD':=hidI (SD.out hP);have sz:w.heap.size<=w1.heap.size:=B01.size;have A2:Hid (RaAt w2 rb HR GA (stR a ⟨k,m,z,s,t,o⟩ ar ep (oL L) 0)):=HA.out.below B02;have LHR:=hidI lHR;have s2:w.heap.size+1<w2.heap.size:=Zu LW.out B12.size;have CB:Hid (∀V,TurnG HR w2 V->GeoAt V w.heap.size ⟨k,m,z,s,t,o⟩/\V.cell? ⟨w.heap.size+1,0,none⟩=some (.int .i64 ar)/\V.cell? ⟨w.heap.size+1,1,none⟩=some (.int .i64 ep)):=fun V tt=>by
  obtain⟨⟨⟨x0,x1,x2,x3,x4,x5⟩,_⟩,y0,y1,_⟩:=T3.out w2 B12;have c:∀j,V.cell? ⟨w.heap.size,j,none⟩=w2.cell? ⟨w.heap.size,j,none⟩:=fun j=>tt.cell (p:=⟨w.heap.size,j,none⟩) (by show w.heap.size<_;omega) (fun q=>by have:=LHR.out _ q;simp at this)
  have d:∀j,V.cell? ⟨w.heap.size+1,j,none⟩=w2.cell? ⟨w.heap.size+1,j,none⟩:=fun j=>tt.cell (p:=⟨w.heap.size+1,j,none⟩) s2 (fun q=>by have:=LHR.out _ q;simp at this;omega)
  exact⟨⟨(c 0).trans x0,(c 1).trans x1,(c 2).trans x2,(c 3).trans x3,(c 4).trans x4,(c 5).trans x5⟩,(d 0).trans y0,(d 1).trans y1⟩
 have RK:Hid (∀r,r<2->∃b off x,pa=some ⟨b,off,none⟩/\(∀V,TurnG HR w2 V->V.cell? ⟨b,off+r,none⟩=some x/\Rd V x (ro (snP (oL L)) r))):=fun r hr=>by
  obtain⟨b,off,x,e,n0,l0,c0,K0⟩:=KP.out.at (i:=r) hr;exact⟨b,off,x,e,fun V tt=>⟨(tt.cell (p:=⟨b,off+r,none⟩) l0 (fun q=>by have:=LHR.out _ q;simp at this;omega)).trans c0,K0.turn (fun q hq=>by have:=LHR.out _ hq;omega) tt⟩⟩
 have T02:=hidI (Below.turnG B02 HR);clear E0 ST SC SD KEEP hpn F1 hP may T3 LW KP A2;have A2:Hid (RaAt w2 rb HR GA (stR a ⟨k,m,z,s,t,o⟩ ar ep (oL L) 0)):=HA.out.below B02;clear B1 B2 B12 B01 B02 sz s2 lHR HA
 go_wp2_with fail
 clear y0 y1
 go_loopw [10,11] (fun av i wr=>∃r:Nat,r<=2/\i= .int .i64 (r:Int)/\av= .bool (alR a ⟨k,m,z,s,t,o⟩ ar ep (oL L) r)/\Hid (RaAt wr rb HR GA (stR a ⟨k,m,z,s,t,o⟩ ar ep (oL L) r))/\Hid (TurnG HR w2 wr)/\Hid (∀j,j<r->(puR a ⟨k,m,z,s,t,o⟩ ar ep (oL L) j).cr=false)) (fun _ i _=>2-(intOf i).toNat)
 case atStart=>exact⟨0,Zz,rfl,rfl,A2,TurnG.refl _ _,fun j hj=>absurd hj (Nat.not_lt_zero j)⟩
 case round=>
  obtain⟨r,hr,rfl,rfl,hA,hT,hall⟩:=hrel
  by_cases hlt:r<2
  ·have hlt':(r:Int)<2:=by omega
   obtain⟨b,off,x,rfl,RX⟩:=RK.out r hlt;obtain⟨e1,e2,e3,e4⟩:=ST'.out r hlt;have SCr:=hidI (SC'.out r hlt);have ALr:Hid (alR a ⟨k,m,z,s,t,o⟩ ar ep (oL L) (r+1)=(alR a ⟨k,m,z,s,t,o⟩ ar ep (oL L) r&&decide (0<(puR a ⟨k,m,z,s,t,o⟩ ar ep (oL L) r).n))):=rfl;obtain⟨P,hPu⟩:∃P,Hid (puR a ⟨k,m,z,s,t,o⟩ ar ep (oL L) r=P):=⟨_,rfl⟩;rw[hPu.out]at e1 e2 SCr ALr;have NXT:Hid (P.cr=false->∀j,j<r+1->(puR a ⟨k,m,z,s,t,o⟩ ar ep (oL L) j).cr=false):=fun c j hj=>by
    by_cases e:j=r
    ·rw[e,hPu.out];exact c
    ·exact hall.out j Zo
   obtain⟨S2,hS2⟩:∃S2,Hid (stR a ⟨k,m,z,s,t,o⟩ ar ep (oL L) (r+1)=S2):=⟨_,rfl⟩;rw[hS2.out]at e3 SCr;obtain⟨al,hal⟩:∃al,Hid (alR a ⟨k,m,z,s,t,o⟩ ar ep (oL L) r=al):=⟨_,rfl⟩;rw[hal.out]at ALr ⊢;have TD:TurnG HR w2 wr.drew:=hT.out.drew;have KW:∀V,TurnG HR w2 V->Below wr.heap.size wr V->Calls Tryz.prog 92 #[.pointer (some ⟨rb,0,none⟩),.int .i64 (arG ⟨k,m,z,s,t,o⟩ ar (r:Int)),.int .i64 ep,x] V (LeavesRA V rb HR GA S2 (.tuple #[.bool (decide (0<puN P)),.int .i64 (puE P)])):=fun V tt bb=>by
    have kk:=rwrite18_any (hA.out.below bb) (ad:=arG ⟨k,m,z,s,t,o⟩ ar (r:Int)) (ep:=ep) (RX V tt).2 e4;rw[e1,e2,e3]at kk;exact kk
   have KAr:=fun V=>KA V (r:Int)
   obtain⟨ad,had⟩:∃ad,Hid (arG ⟨k,m,z,s,t,o⟩ ar (r:Int)=ad):=⟨_,rfl⟩;rw[had.out]at KW KAr;have SF:Hid (∀V,TurnG HR w2 V->(V.cell? ⟨w.heap.size,0,none⟩=some (.int .i64 k)/\V.cell? ⟨w.heap.size,1,none⟩=some (.int .i64 m)/\V.cell? ⟨w.heap.size,2,none⟩=some (.int .i64 z)/\V.cell? ⟨w.heap.size,3,none⟩=some (.int .i64 s)/\V.cell? ⟨w.heap.size,4,none⟩=some (.int .i64 t)/\V.cell? ⟨w.heap.size,5,none⟩=some (.int .i64 o))/\(V.cell? ⟨w.heap.size+1,0,none⟩=some (.int .i64 ar)/\V.cell? ⟨w.heap.size+1,1,none⟩=some (.int .i64 ep))/\V.cell? ⟨b,off+r,none⟩=some x):=fun V tt=>⟨(CB.out V tt).1,(CB.out V tt).2,(RX V tt).1⟩
   have sD:=SF.out _ TD;have BDr:Below wr.heap.size wr wr.drew:=Zf.drew;clear e1 e2 e3 e4 RX had ST' SD'
   go_upto_region 11 with fail
   go_cut [12,13]from 54 to 69 (fun s12 s13 wx=>s12= .bool (decide (0<puN P))/\s13= .int .i64 (puE P)/\RaAt wx rb HR GA S2/\TurnG HR w2 wx)
   case first=>
    refine wp_region_held_drew (S:=fun wx=>(wx.cell? ⟨w.heap.size,0,none⟩=some (.int .i64 k)/\wx.cell? ⟨w.heap.size,1,none⟩=some (.int .i64 m)/\wx.cell? ⟨w.heap.size,2,none⟩=some (.int .i64 z)/\wx.cell? ⟨w.heap.size,3,none⟩=some (.int .i64 s)/\wx.cell? ⟨w.heap.size,4,none⟩=some (.int .i64 t)/\wx.cell? ⟨w.heap.size,5,none⟩=some (.int .i64 o))/\(wx.cell? ⟨w.heap.size+1,0,none⟩=some (.int .i64 ar)/\wx.cell? ⟨w.heap.size+1,1,none⟩=some (.int .i64 ep))/\wx.cell? ⟨b,off+r,none⟩=some x) Zk sD (fun hHeld=>?_);refine tkH 0 ?_
    refine tkH 1 ?_
    refine tkH 2 ?_
    refine tkH 3 ?_
    refine tkH 4 ?_
    refine tkH 6 ?_
    refine tkH 7 ?_
    refine tkH 8 ?_
    refine tkH 9 ?_
    refine tkH 10 ?_
    refine tkH 11 ?_
    refine rnH 5 (fun K' hK=>?_);go_simp
    go_at_call 97
    refine(KAr _).mono ?_
    rintro _ v1 ⟨rfl,bt⟩;dsimp only;have TV:TurnG HR w2 v1:=TD.trans (Below.turnG bt HR);have BV:Below wr.heap.size wr v1:=BDr.step16 bt BDr.size;refine koH hK (SF.out _ TV) fun hHeld=>?_
    clear hK K';refine rnH 12 (fun K' hK=>?_);go_simp
    go_at_call 92
    refine(KW _ TV BV).mono ?_
    rintro _ v2 ⟨rfl,A4,T4⟩;dsimp only;have TX:=TV.trans T4;refine koH hK (SF.out _ TX) fun hHeld=>?_
    clear hK K';refine tkH 13 ?_
    refine tkH 14 ?_
    refine tkH 15 ?_
    have REL:=hidI (And.intro A4 TX);refine tkH 16 ?_
    refine tkH 17 ?_
    refine wpAnyH_done Zk ?_ _
    go_wp2
    go_meet
    case rel=>exact⟨rfl,rfl,REL.out⟩
   case rest=>
    obtain⟨rfl,rfl,A4,T4⟩:=hcut;clear KW KAr SF sD BDr TD KA;cases hcr:P.cr with
    |true=>
     have p1:puE P=130:=by unfold puE;rw[hcr];rfl
     rw[p1];obtain⟨sx,ss⟩:=SCr.out hcr hall.out;have F:Hid (LeavesRA w rb HR GA (svS a ⟨k,m,z,s,t,o⟩ ar ep (oL L)) (.int .i64 (svX a ⟨k,m,z,s,t,o⟩ ar ep (oL L))) (.returned (.int .i64 130)) wc):=by
      show LeavesRA _ _ _ _ _ _ _ _
      rw[sx,ss];exact⟨rfl,A4,T02.out.trans T4⟩
     clear sx ss A4 T4 SCr ALr NXT hall hA hT RK CB p1;go_wp2;exact bodyPost_ret (v:=.int .i64 130) (by simp[results,Tryz.results40,go_sem]) rfl F.out
    |false=>
     have p1:puE P=0:=by unfold puE;rw[hcr];rfl
     have p2:decide (0<puN P)=decide (0<P.n):=by unfold puN;rw[hcr];simp
     rw[p1,p2];obtain⟨tk,htk⟩:∃tk,Hid (decide (0<P.n)=tk):=⟨_,rfl⟩;rw[htk.out]at ALr ⊢;have NX2:=hidI (NXT.out hcr);have A5:Hid (RaAt wc rb HR GA (stR a ⟨k,m,z,s,t,o⟩ ar ep (oL L) (r+1))):=by rw[hS2.out];exact A4
     have T5:=hidI T4;clear A4 T4 SCr NXT hall hA hT p1 p2 hcr hPu hS2 hal htk;cases al with
     |false=>
      go_wp2;go_roundw
      case rel=>exact⟨r+1,Zo,Zg,by rw[ALr.out];rfl,A5,T5,NX2⟩
      case measure=>simp[intOf];omega
     |true=>
      go_wp2;go_roundw
      case rel=>exact⟨r+1,Zo,Zg,by rw[ALr.out];rfl,A5,T5,NX2⟩
      case measure=>simp[intOf];omega
  ·obtain rfl:r=2:=by omega
   have hge:¬(2:Int)<2:=Zo
   obtain⟨d1,d2⟩:=SD'.out hall.out;have KF:=rflushA_any hA.out;obtain⟨x,hx⟩:∃x,Hid (x=flAX (stR a ⟨k,m,z,s,t,o⟩ ar ep (oL L) 2)):=⟨_,rfl⟩;rw[<-hx.out]at KF d1;obtain⟨al,hal⟩:∃al,Hid (alR a ⟨k,m,z,s,t,o⟩ ar ep (oL L) 2=al):=⟨_,rfl⟩;rw[hal.out]at d1 ⊢;have F0:Hid (∀w6 y,RaAt w6 rb HR GA (flAS (stR a ⟨k,m,z,s,t,o⟩ ar ep (oL L) 2))->TurnG HR wr w6->y=(if ¬x=0 then x else if al=true then 0 else 150)->LeavesRA w rb HR GA (svS a ⟨k,m,z,s,t,o⟩ ar ep (oL L)) (.int .i64 (svX a ⟨k,m,z,s,t,o⟩ ar ep (oL L))) (.returned (.int .i64 y)) w6):=fun w6 y A6 T6 hy=>by
    rw[d1,d2,hy];exact⟨rfl,A6,(T02.out.trans hT.out).trans T6⟩
   clear d1 d2 hx hal SD' SC' ST' RK CB hall hA hT KA
   go_wp2_with fail
   refine KF.mono ?_
   rintro _ w6 ⟨rfl,A6,T6⟩;clear KF
   by_cases q6:x=0
   ·subst q6;cases al with
    |false=>
     have F:=hidI (F0.out w6 150 A6 T6 Zs);clear A6 T6 F0;go_wp2;exact bodyPost_ret (v:=.int .i64 150) (by simp[results,Tryz.results40,go_sem]) rfl F.out
    |true=>
     have F:=hidI (F0.out w6 0 A6 T6 Zs);clear A6 T6 F0;go_wp2;exact bodyPost_ret (v:=.int .i64 0) (by simp[results,Tryz.results40,go_sem]) rfl F.out
   ·have q6':(x==0)=false:=Zq.2 q6;have F:=hidI (F0.out w6 x A6 T6 (by rw[if_pos q6]));clear A6 T6 F0;go_wp2;exact bodyPost_ret (v:=.int .i64 x) (by simp[results,Tryz.results40,go_sem]) rfl F.out
theorem rcL_ext{L M:List RcV}(hl:L.length=M.length)(h:∀i,i<L.length->(L.getD i default).r=(M.getD i default).r):L.map (·.r)=M.map (·.r):=by
 refine List.ext_getElem (by simp[hl]) fun i h1 h2=>?_
 have q1:i<L.length:=by simpa using h1
 have q2:i<M.length:=Zo
 have:=h i q1;rw[show L.getD i default=L[i] by simp[List.getD,q1],show M.getD i default=M[i] by simp[List.getD,q2]]at this;simpa using this
theorem rcL_at{L M:List RcV}(h:L.map (·.r)=M.map (·.r)){i:Nat}(hi:i<L.length):(L.getD i default).r=(M.getD i default).r:=by
 have hl:L.length=M.length:=by simpa using congrArg List.length h
 have q2:i<M.length:=Zo
 have e:=congrArg (fun l=>l[i]?) h;simp[hi,q2]at e;rw[show L.getD i default=L[i] by simp[List.getD,hi],show M.getD i default=M[i] by simp[List.getD,q2]];exact e
theorem hidR{p:Prop}(h:p):Hid p:=h
theorem rrecs18_any{w:World}{v u:Value}{L M:List RcV}(h:RdR w v L)(k:RdR w u M)(hL:L.length<=100000)(hs:∀i,i<L.length->(L.getD i default).r.st.length<=1000000)(hs2:∀i,i<M.length->(M.getD i default).r.st.length<=1000000):Calls Tryz.prog 24 #[v,u] w (Says16 (L.map (·.r)=M.map (·.r)) w):=by
 obtain⟨a,cp,rfl⟩:=h.form;obtain⟨a',cp',rfl⟩:=k.form
 by_cases h5:L.length=M.length
 rotate_left
 ·have N:Hid (¬L.map (·.r)=M.map (·.r)):=fun q=>h5 (by simpa using congrArg List.length q)
  have h5':¬(L.length:Int)=(M.length:Int):=Zo
  clear h k hs hs2
  go_enter Tryz.func24,Tryz.ntmps24
  go_wp2;go_ret;exact Says16.no N.out rfl Zf
 have h5':(L.length:Int)=(M.length:Int):=Zo
 have h6:Hid (L.length=M.length):=h5;clear h5
 go_enter Tryz.func24,Tryz.ntmps24
 go_wp2
 go_loopw [5] (fun i wr=>∃r:Nat,r<=L.length/\i= .int .i64 (r:Int)/\Hid (Below w.heap.size w wr)/\Hid (∀j,j<r->(L.getD j default).r=(M.getD j default).r)) (fun i _=>L.length-(intOf i).toNat)
 case atStart=>exact⟨0,Zz,rfl,Zf,fun j hj=>absurd hj (Nat.not_lt_zero _)⟩
 case round=>
  obtain⟨r,hr,rfl,hB,hall⟩:=hrel
  by_cases hlt:r<L.length
  ·have hlt':(r:Int)<(L.length:Int):=by omega
   have hlt2:r<M.length:=by rw[<-h6.out];exact hlt
   have hlt3:(r:Int)<(M.length:Int):=Zo
   obtain⟨b,off,rfl,hb,cz⟩:=(h.below hB.out).at hlt;obtain⟨b',off',rfl,hb',cz'⟩:=(k.below hB.out).at hlt2;have HA:Hid ((L.getD r default).r=(M.getD r default).r->∀j,j<r+1->(L.getD j default).r=(M.getD j default).r):=fun q j hj=>by
    by_cases e:j=r
    ·rw[e];exact q
    ·exact hall.out j Zo
   have HN:Hid ((L.getD r default).r≠(M.getD r default).r->¬L.map (·.r)=M.map (·.r)):=fun q e=>q (rcL_at e hlt)
   have l1:=hs r hlt;have l2:=hs2 r hlt2;generalize L.getD r default=c at cz HA HN l1;generalize M.getD r default=d at cz' HA HN l2;have I1:=cz.ok;have I2:=cz'.ok;obtain⟨⟨kd,ky,ln,st⟩,vs⟩:=c;obtain⟨a2,c2,e⟩:=I1.rs.form;simp only at e HA HN l1;subst e;obtain⟨⟨kd',ky',ln',st'⟩,vs'⟩:=d;obtain⟨a3,c3,e⟩:=I2.rs.form;simp only at e HA HN l2;subst e;obtain⟨x,hx⟩:∃x,Hid (sameR ⟨kd,ky,ln,st⟩ ⟨kd',ky',ln',st'⟩=x):=⟨_,rfl⟩;have KS:∀W,Below wr.heap.size wr W->Calls Tryz.prog 73 #[.agg #[.int .i64 kd,.string ⟨ky.toArray⟩,.int .i64 ln,.slice a2 st.length c2],.agg #[.int .i64 kd',.string ⟨ky'.toArray⟩,.int .i64 ln',.slice a3 st'.length c3]] W (fun e w'=>e= .returned (.bool x)/\Below wr.heap.size wr w'):=fun W q=>(same16_any (c:=⟨⟨kd,ky,ln,st⟩,.slice a2 st.length c2⟩) (d:=⟨⟨kd',ky',ln',st'⟩,.slice a3 st'.length c3⟩) (w:=W) (I1.below q) (I2.below q) l1 l2 hx.out).mono fun e w' ⟨he,hb⟩=>⟨he,q.step16 hb q.size⟩
   have BD:Below wr.heap.size wr wr.drew:=Zf.drew;have SH:=hidR (fun W (q:Below wr.heap.size wr W)=>And.intro (cz.below hb q) (cz'.below hb' q));have SB:∀W,Below wr.heap.size wr W->(W.cell? ⟨b,off+r*4,none⟩=some (.int .i64 kd)/\W.cell? ⟨b,off+r*4+1,none⟩=some (.string ⟨ky.toArray⟩)/\W.cell? ⟨b,off+r*4+2,none⟩=some (.int .i64 ln)/\W.cell? ⟨b,off+r*4+3,none⟩=some (.slice a2 st.length c2))/\W.cell? ⟨b',off'+r*4,none⟩=some (.int .i64 kd')/\W.cell? ⟨b',off'+r*4+1,none⟩=some (.string ⟨ky'.toArray⟩)/\W.cell? ⟨b',off'+r*4+2,none⟩=some (.int .i64 ln')/\W.cell? ⟨b',off'+r*4+3,none⟩=some (.slice a3 st'.length c3):=fun W q=>⟨⟨(SH.out W q).1.c0,(SH.out W q).1.c1,(SH.out W q).1.c2,(SH.out W q).1.c3⟩,(SH.out W q).2.c0,(SH.out W q).2.c1,(SH.out W q).2.c2,(SH.out W q).2.c3⟩
   have SBH:=hidR SB;have sD:=SB _ BD;clear h k hall I1 I2 cz cz' SH SB
   go_upto_region 6 with fail
   go_cut [6]from 18 to 26 (fun s6 wx=>s6= .bool x/\Below wr.heap.size wr wx)
   case first=>
    refine wp_region_held_drew (S:=fun wx=>(wx.cell? ⟨b,off+r*4,none⟩=some (.int .i64 kd)/\wx.cell? ⟨b,off+r*4+1,none⟩=some (.string ⟨ky.toArray⟩)/\wx.cell? ⟨b,off+r*4+2,none⟩=some (.int .i64 ln)/\wx.cell? ⟨b,off+r*4+3,none⟩=some (.slice a2 st.length c2))/\wx.cell? ⟨b',off'+r*4,none⟩=some (.int .i64 kd')/\wx.cell? ⟨b',off'+r*4+1,none⟩=some (.string ⟨ky'.toArray⟩)/\wx.cell? ⟨b',off'+r*4+2,none⟩=some (.int .i64 ln')/\wx.cell? ⟨b',off'+r*4+3,none⟩=some (.slice a3 st'.length c3)) Zk sD (fun hHeld=>?_);refine tkH 0 ?_
    refine tkH 1 ?_
    refine tkH 2 ?_
    refine tkH 3 ?_
    refine tkH 4 ?_
    refine tkH 5 ?_
    refine tkH 6 ?_
    refine tkH 7 ?_
    refine rnH 8 (fun K' hK=>?_);go_simp
    go_at_call 73
    refine(KS _ BD).mono ?_
    rintro _ v1 ⟨rfl,bt⟩;dsimp only;refine koH hK (SBH.out _ bt) fun hHeld=>?_
    clear hK K';have BT:=hidR bt;refine tkH 9 ?_
    refine wpAnyH_done Zk ?_ _
    go_wp2
    go_meet
    case rel=>exact⟨rfl,BT.out⟩
   case rest=>
    obtain⟨rfl,bC⟩:=hcut;have BF:=hidR (hB.out.step16 bC hB.out.size);clear KS SBH sD BD bC hB;cases x with
    |false=>
     have N:Hid (¬L.map (·.r)=M.map (·.r)):=HN.out fun e=>by
      have:=(sameR_iff).2 e;rw[hx.out]at this;cases this
     clear HA HN hx;go_wp2;go_ret;exact Says16.no N.out rfl BF.out
    |true=>
     have H3:=hidR (HA.out (sameR_iff.1 hx.out));clear HA HN hx;go_wp2;go_roundw
     case rel=>exact⟨r+1,Zo,Zg,BF,H3⟩
     case measure=>simp[intOf];omega
  ·obtain rfl:r=L.length:=by omega
   have hge:¬(L.length:Int)<(L.length:Int):=Zo
   have Y:Hid (L.map (·.r)=M.map (·.r)):=rcL_ext h6.out hall.out;clear h k;go_wp2;go_ret;exact Says16.yes Y.out rfl hB.out
end Go.Proofs.YtclieefpnbdbjaaGreat.Gf
