/- PROVED: for every geometry g, every number disks and every script of calls on a journal the call MetalogPlays(g, disks, script) returns true, and its arguments read behind it as before; no conditions. -/
import Derived.ProofKit
import Derived.ShutString
import Derived.ChangeOld
import Derived.Test.YtclieefpnbdbjaaGreatPome35
namespace Go.Proofs.YtclieefpnbdbjaaGreat.metalogPlays
open Go.ChangeShapes Go.WideShapes Go.ChangeAt Go.RowKit
open Go.ChangeMaps (open_string shut_string)
set_option linter.unusedVariables false
theorem own:ownKnob Tryz.prog.godebug=none:=by kernel_rfl
theorem laidOut:laidOutB Tryz.prog=true:=by kernel_rfl
def IsRow(k:IntKind)(w:World)(a:Option Addr)(len cap:Nat)(zs:List Int):Prop:=
 (a=none/\len=0/\cap=0/\zs=[])∨
 ∃x,a=some x/\len<=cap/\cap<=maxLen/\zs.length=cap/\(∀i,i<zs.length->w.cell? (x.add i)=some (.int k (zs.getD i 0)))/\∀n∈zs,(Lit.int k n).wf=true
open Gf
set_option linter.unusedSimpArgs false
theorem mp_ret{p:Prop} (h:p:=by
 go_wp2;go_ret;exact⟨rfl,Z1⟩):p:=h
theorem RdI.short18{w:World}{v:Value}{zs:List Int}(h:RdI w v zs):zs.length<=9223372036854775807:=by
 rcases h with⟨_,_,rfl,_⟩|⟨b,off,c,h1,h2,h3,_⟩
 ·exact Nat.zero_le _
 ·unfold maxLen at h3;omega
theorem RdII.short18{w:World}{v:Value}{L:List VI}(h:RdII w v L){r:VI}(hr:r∈L):r.2.length<=9223372036854775807:=by
 rcases h with⟨_,_,rfl,_⟩|⟨b,off,c,h1,h2,h3,h4,h5⟩
 ·cases hr
 ·obtain⟨i,hi,e⟩:=List.getElem_of_mem hr;have q:=RdI.short18 (h5 i hi).rd;have e2:L.getD i default=r:=by simp[List.getD,hi,e]
  rw[e2]at q;exact q
theorem callM_range{w:World}{b off:Nat}{x:CallM}(h:CallAtM w b off x):w.rangeAt b off [.int .i64 x.kind,.int .i64 x.n,.int .i64 x.m,x.vd,x.vk,.int .i64 x.r.r.kind,sv x.r.r.key,.int .i64 x.r.r.len,x.r.vs,.int .i64 x.ar,.int .i64 x.ep,x.vo,.int .i64 x.c.kind,.int .i64 x.c.d,.int .i64 x.c.n,.int .i64 x.c.m,.int .u8 ((x.c.by8.toNat:Nat):Int),x.c.vb,x.c.vk]:=fun j v hv=>by
 match j,hv with
 |0,hv=>exact h.s0.trans hv
 |1,hv=>exact h.s1.trans hv
 |2,hv=>exact h.s2.trans hv
 |3,hv=>exact h.s3.trans hv
 |4,hv=>exact h.s4.trans hv
 |5,hv=>exact h.s5.trans hv
 |6,hv=>exact h.s6.trans hv
 |7,hv=>exact h.s7.trans hv
 |8,hv=>exact h.s8.trans hv
 |9,hv=>exact h.s9.trans hv
 |10,hv=>exact h.s10.trans hv
 |11,hv=>exact h.s11.trans hv
 |12,hv=>exact h.s12.trans hv
 |13,hv=>exact h.s13.trans hv
 |14,hv=>exact h.s14.trans hv
 |15,hv=>exact h.s15.trans hv
 |16,hv=>exact h.s16.trans hv
 |17,hv=>exact h.s17.trans hv
 |18,hv=>exact h.s18.trans hv
 |n+19,hv=>simp at hv
set_option maxRecDepth 100000 in
set_option maxHeartbeats 4000000 in
theorem walk(c0:GeoS)(a1:Int)(a2:Option Addr)(len2 cap2:Nat)(z2:List CallM)(w:World)(w0:c0.Wf)(w1:(Lit.int .i64 a1).wf=true)(w2:RdM18 w (.slice a2 len2 cap2) z2):
  Calls Tryz.prog 3 #[aggG c0,.int .i64 a1,.slice a2 len2 cap2] w fun e w'=>e= .returned (.bool true)/\Below w.heap.size w w':=by
 obtain rfl:=w2.lenEq;have HV:Hid (∀V,Below w.heap.size w V->RdM18 V (.slice a2 z2.length cap2) z2):=fun V b=>w2.below b
 clear w2;obtain⟨sx,hsx⟩:∃sx,Hid (decide (smG c0)=sx):=⟨_,rfl⟩;have KSm:=fun W=>@small15_any W c0 w0 _ hsx.out
 have LG:=geo_laid w c0 23;obtain⟨W,hW⟩:∃W,W=w.alloc (.cells #[.int .i64 c0.k,.int .i64 c0.m,.int .i64 c0.z,.int .i64 c0.s,.int .i64 c0.t,.int .i64 c0.o] 23):=⟨_,rfl⟩;have T3:Hid (∀V,Below W.heap.size W V->GeoAt V w.heap.size c0/\Below w.heap.size w V):=by rw[hW];exact LG
 clear LG hsx;have HWF:=hidI w0;clear w0 w1;obtain⟨k,m,z,s,t,o⟩:=c0;simp only at hW;rw[aggE]at KSm ⊢
 go_enter Tryz.func3,Tryz.ntmps3
 go_wp2_with fail
 rw[<-hW];clear hW;refine awake18_any.mono ?_
 rintro e v0 ⟨rfl,b0⟩;obtain⟨⟨y0,y1,y2,y3,y4,y5⟩,_⟩:=T3.out v0 b0;simp only at y0 y1 y2 y3 y4 y5;have K:=KSm v0;clear KSm
 go_wp2_with fail
 refine K.mono ?_
 clear K;rintro _ v1 ⟨rfl,b1⟩;have B1:=hidI (b0.step16 b1 b0.size);clear b0 b1 y0 y1 y2 y3 y4 y5;have Z1:=(T3.out v1 B1.out).2;cases sx with
 |false=>
  clear T3 B1 HV;exact mp_ret
 |true=>
 by_cases h1:a1<1
 ·clear T3 B1 HV;exact mp_ret
 by_cases h2:a1>7
 ·clear T3 B1 HV;exact mp_ret
 clear Z1;obtain⟨n0,rfl⟩:∃n0:Nat,a1=(n0:Int):=⟨a1.toNat,by omega⟩;have K:=anew_is (w:=v1) (n:=(n0:Int)) (s:=40) (m:=n0) (k:=40) rfl (by omega) (by omega) (by decide) (by decide) rfl
 go_wp2_with fail
 refine K.mono ?_
 rintro _ uA ⟨ab,GA,rfl,A1,H1,bA⟩;clear K
 go_wp2_with fail
 refine(rnewA_any (n:=n0) (s:=40) (by omega) (by omega) (by decide) (by decide) (GA:=GA) A1.lt).mono ?_
 rintro _ v2 ⟨rb,HR,rfl,R2,H2,C2⟩;have START:Hid (∃G a,BothA v1 v2 ab rb G HR a):=⟨GA,newA n0 40,⟨A1.below C2,H1,Nat.le_trans bA.size C2.size⟩,R2,fun k hk=>Nat.le_trans bA.size (H2 k hk),bA.step16 C2 bA.size⟩;have TV:Hid (∀V,Below v1.heap.size v1 V->GeoAt V w.heap.size ⟨k,m,z,s,t,o⟩/\Below w.heap.size w V):=fun V b=>T3.out V (B1.out.step16 b B1.out.size)
 clear A1 H1 bA R2 H2 C2 B1 T3
 go_wp2_with fail
 have d1:decide ((n0:Int)<1)=false:=decide_eq_false (by omega);have d2:decide (7<(n0:Int))=false:=decide_eq_false (by omega);have d3:decide (7<n0)=false:=decide_eq_false (by omega);have d4:decide (n0<1)=false:=decide_eq_false (by omega);simp only[d1,d2,d3,d4,Bool.or_false];clear d1 d2 d3 d4 h1 h2
 go_loopw [12] (fun i wr=>∃r:Nat,r<=25/\i= .int .i64 (r:Int)/\Hid (∃G a,BothA v1 wr ab rb G HR a)) (fun i _=>25-(intOf i).toNat)
 case atStart=>exact⟨0,Nat.zero_le _,rfl,START.out⟩
 case round=>
  clear START;obtain⟨r,hr,rfl,hGB⟩:=hrel;obtain⟨G,aS,hI⟩:=hGB.out;clear hGB
  by_cases hlt:r<z2.length/\r<25
  ·have l1:(r:Int)<(z2.length:Int):=by omega
   have l2:(r:Int)<25:=by omega
   obtain⟨b,off,ea,lb0,x0⟩:=(HV.out v1 (TV.out v1 (Below.refl _ _)).2).at hlt.1;subst ea;have lb:=hidI lb0;clear lb0;generalize z2.getD r default=x at x0;obtain⟨kd,n,mm,vd,di,vk,kn,⟨⟨rk,ky,rl,st⟩,rvs⟩,ar,ep,vo,ob,⟨ak,ac,an,am,ay,avb,avk,abb,akk⟩⟩:=x;have pd:RdI v1 vd di:=x0.rd;have pn:RdB v1 vk kn:=x0.rk;have pr:RcV.In v1 ⟨⟨rk,ky,rl,st⟩,rvs⟩:=x0.rr;have prs:RdI v1 rvs st:=x0.rr.rs;have po:RdO v1 vo ob:=x0.ro;have pv:CallV v1 ⟨ak,ac,an,am,ay,avb,avk,abb,akk⟩:=x0.cv;have pb:Rd v1 avb abb:=pv.rb;have pk:RdII v1 avk akk:=pv.rk;obtain⟨wn,wm,wa,wd,wcn,wcm⟩:(Lit.int .i64 n).wf=true/\(Lit.int .i64 mm).wf=true/\(Lit.int .i64 ar).wf=true/\(Lit.int .i64 ac).wf=true/\(Lit.int .i64 an).wf=true/\(Lit.int .i64 am).wf=true:=⟨x0.wn,x0.wm,x0.wa,pv.wd,pv.wn,pv.wm⟩;have wdi:∀i,i<di.length->(Lit.int .i64 (di.getD i 0)).wf=true:=fun i hi=>by
    have h:=x0.wd (di[i]) (List.getElem_mem hi);rw[show di.getD i 0=di[i] by simp[List.getD,hi]];exact h
   obtain⟨da,dc,ed⟩:=pd.form;obtain⟨ka,kc,ek⟩:=pn.form;obtain⟨sa,sc,es⟩:=prs.form;obtain⟨oa,oc,eo⟩:=po.form;obtain⟨ba,bc,eb⟩:=pb.form;obtain⟨ca,cc,ec⟩:=pk.form;subst ed ek es eo eb ec;have SS:Hid (∀V,Below v1.heap.size v1 V->(fun V=>V.rangeAt b (off+r*19) [.int .i64 kd,.int .i64 n,.int .i64 mm,.slice da di.length dc,.slice ka kn.length kc,.int .i64 rk,.string ⟨ky.toArray⟩,.int .i64 rl,.slice sa st.length sc,.int .i64 ar,.int .i64 ep,.slice oa ob.length oc,.int .i64 ak,.int .i64 ac,.int .i64 an,.int .i64 am,.int .u8 ((ay.toNat:Nat):Int),.slice ba abb.length bc,.slice ca akk.length cc]/\V.cell? ⟨w.heap.size,0,none⟩=some (.int .i64 k)/\V.cell? ⟨w.heap.size,1,none⟩=some (.int .i64 m)/\V.cell? ⟨w.heap.size,2,none⟩=some (.int .i64 z)/\V.cell? ⟨w.heap.size,3,none⟩=some (.int .i64 s)/\V.cell? ⟨w.heap.size,4,none⟩=some (.int .i64 t)/\V.cell? ⟨w.heap.size,5,none⟩=some (.int .i64 o)) V):=fun V bV=>by
    obtain⟨⟨g0,g1,g2,g3,g4,g5⟩,_⟩:=TV.out V bV;exact⟨callM_range (x0.below lb.out bV),g0,g1,g2,g3,g4,g5⟩
   obtain⟨sm,hsm⟩:∃sm,Hid (decide (smM di.length kn.length ky.length st.length (oL ob))=sm):=⟨_,rfl⟩;have K:=msmall18_any (w:=wr) (k:=kd) (n:=n) (m:=mm) (da:=da) (ka:=ka) (sa:=sa) (ba:=ba) (ca:=ca) (dc:=dc) (kc:=kc) (sc:=sc) (bl:=abb.length) (bc:=bc) (cl:=akk.length) (cc:=cc) (rk:=rk) (rl:=rl) (ar:=ar) (ep:=ep) (q0:=ak) (q1:=ac) (q2:=an) (q3:=am) (q4:=((ay.toNat:Nat):Int)) (po.below hI.B) hsm.out;have RA:=(SS.out wr hI.B).1;have HI:=hidI hI;clear pv x0 hI prs
   go_wp2_with (refine wpList_load_mid rfl 47 (.tmp 65) rfl b (off+r*19) rfl _ _ RA Tryz.underlying47 rfl (by kernel_rfl) ?_)
   refine K.mono ?_
   clear K RA;rintro _ v3 ⟨rfl,C3⟩;have I3:=hidI (HI.out.below C3);clear HI C3;cases sm with
   |false=>
    have E5:Hid (∃G a,BothA v1 v3 ab rb G HR a):=⟨G,aS,I3.out⟩;clear I3 pd pn pb pk pr po SS;go_wp2;go_roundw
    case rel=>exact⟨r+1,by omega,by go_num,E5.out⟩
    case measure=>simp[intOf];omega
   |true=>
    have hSM:=of_decide_eq_true hsm.out;have BD:Below v3.heap.size v3 v3.drew:=(Below.refl _ _).drew;have ID:=I3.out.below BD;have K:=did18_any ID HWF.out (kd:=kd) wn wm pd hSM.1 wdi pn pr wa (ep:=ep) po (fun i hi=>Nat.le_trans ((sm_st hSM).2 i hi) (by decide)) (ak:=ak) (cy:=ay) pb pk wd wcn wcm (fun q hq=>RdII.short18 pk hq);rw[aggE]at K;have C0:=SS.out v3 I3.out.B;clear pd pn pb pk pr po ID BD hsm hSM wdi;go_wp2;refine wp_region_held_drew (S:=fun V=>V.rangeAt b (off+r*19) [.int .i64 kd,.int .i64 n,.int .i64 mm,.slice da di.length dc,.slice ka kn.length kc,.int .i64 rk,.string ⟨ky.toArray⟩,.int .i64 rl,.slice sa st.length sc,.int .i64 ar,.int .i64 ep,.slice oa ob.length oc,.int .i64 ak,.int .i64 ac,.int .i64 an,.int .i64 am,.int .u8 ((ay.toNat:Nat):Int),.slice ba abb.length bc,.slice ca akk.length cc]/\V.cell? ⟨w.heap.size,0,none⟩=some (.int .i64 k)/\V.cell? ⟨w.heap.size,1,none⟩=some (.int .i64 m)/\V.cell? ⟨w.heap.size,2,none⟩=some (.int .i64 z)/\V.cell? ⟨w.heap.size,3,none⟩=some (.int .i64 s)/\V.cell? ⟨w.heap.size,4,none⟩=some (.int .i64 t)/\V.cell? ⟨w.heap.size,5,none⟩=some (.int .i64 o)) (by kernel_rfl) C0 (fun hHeld=>?_);refine tkH 0 ?_
    refine tkH 1 ?_
    refine tkH 2 ?_
    refine tkH 3 ?_
    refine tkH 4 ?_
    refine tkH 5 ?_
    refine tkH 6 ?_ (hy:=yieldsIf_load_mid (by rfl) 47 (.tmp 74) rfl b (off+r*19) rfl _ _ (fun w h=>h.1) Tryz.underlying47 rfl (by kernel_rfl))
    refine rnH 7 (fun K' hK=>?_);go_simp
    go_at_call 12
    refine K.mono ?_
    rintro _ v4 ⟨rfl,G4,a4,I4⟩;dsimp only;refine koH hK (SS.out v4 I4.B) fun hHeld=>?_
    clear hK K';refine tkH 8 ?_
    refine wpAnyH_done (by kernel_rfl) ?_ _
    ·have J4:=hidI I4;clear K C0 I4 SS I3
     go_wp2_with fail
     refine(showsA_any J4.out).mono ?_
     rintro _ v5 ⟨rfl,I5⟩;have E5:Hid (∃G a,BothA v1 v5 ab rb G HR a):=⟨G4,a4,I5⟩;clear J4 I5;go_wp2;go_roundw
     case rel=>exact⟨r+1,by omega,by go_num,E5.out⟩
     case measure=>simp[intOf];omega
  ·have Z1:Below w.heap.size w wr:=(TV.out wr hI.B).2;have NC:¬((r:Int)<(z2.length:Int)/\(r:Int)<25):=fun q=>hlt ⟨by omega,by omega⟩
   clear hI TV HV
   by_cases c1:(r:Int)<(z2.length:Int)
   ·have c2:¬(r:Int)<25:=fun q=>NC ⟨c1,q⟩
    clear NC;exact mp_ret
   ·clear NC;exact mp_ret
set_option maxRecDepth 100000 in
set_option maxHeartbeats 2000000 in
theorem lifted(os:Os)(started:os.Started)(H:Type)(enc:TypeId×Value->H):
  ReturnsInHanded {} Tryz.checked os 3 .any (Rows.metalogPlaysSpec.pre6 enc Tryz.prog Tryz.f3 Rows.metalogPlaysRow.domain false) (Rows.metalogPlaysSpec.post enc Tryz.prog Tryz.f3 false true false false):=by
 refine returnsInHanded_of_change (C:=Tryz.checked) own started (by kernel_rfl) Tryz.func3
  (ChangeSpec.witness6 (enc:=enc) (C:=Tryz.checked) false ⟨#[],#[.agg #[.int .i64 0,.int .i64 0,.int .i64 0,.int .i64 0,.int .i64 0,.int .i64 0],.int .i64 0,.slice none 0 0],[]⟩ 8 (by kernel_rfl) (by kernel_rfl) (by kernel_rfl) (by kernel_rfl)) ?_
 intro W base args ds gs before hval0 hW hcnd _;have hval:∀(j:Nat) t v,Tryz.f3.params[j]? =some t->args[j]? =some v->Value.okWide Tryz.prog W .any base t v:=hval0
 have hW':=hW;obtain⟨p,q,hA0,hV,rfl,hfz,hnd⟩:=hW;have hA:DataW.TrodAll enc Tryz.prog W 0 (fun _=>true) true Tryz.f3.params.toList args.toList ds p:=hA0;rw[Tryz.params3]at hA hval;obtain⟨v0,vs0,d0,ds0,p0,q0,hargs,rfl,rfl,h0,r0⟩:=trodAll_cons hA;obtain⟨v1,vs1,d1,ds1,p1,q1,rfl,rfl,rfl,h1,r1⟩:=trodAll_cons r0;obtain⟨v2,vs2,d2,ds2,p2,q2,rfl,rfl,rfl,h2,r2⟩:=trodAll_cons r1;obtain⟨rfl,rfl,rfl⟩:=trodAll_nil r2;obtain rfl:args= #[v0,v1,v2]:=by cases args;simp_all
 obtain⟨rfl,rfl⟩:=trodVars_none hV;have k0:=h0;have lt0:∀x∈p0,x.block<W.heap.size:=by obtain⟨m,hm⟩:=k0;exact DataW.trod_lt m _ _ _ hm
 obtain⟨c0,rfl,w0⟩:=open_geo Tryz.underlying23 (by kernel_rfl) rfl rfl rfl rfl rfl rfl (by kernel_rfl) (by kernel_rfl) (by kernel_rfl) (by kernel_rfl) (by kernel_rfl) (by kernel_rfl) (by kernel_rfl) (by kernel_rfl) (by kernel_rfl) (by kernel_rfl) (by kernel_rfl) (by kernel_rfl) (hval 0 23 v0 rfl rfl) h0;obtain⟨a1,rfl,rfl,rfl,w1⟩:=open_int Tryz.underlying3 (hval 1 3 v1 rfl rfl) h1;obtain⟨a2,len2,cap2,rfl⟩:=okWide_slice Tryz.underlying24 (hval 2 24 v2 rfl rfl);have k2:=h2;have lt2:∀x∈p2,x.block<W.heap.size:=by obtain⟨m,hm⟩:=k2;exact DataW.trod_lt m _ _ _ hm
 obtain⟨z2,w2⟩:∃zs,RdM18 W (.slice a2 len2 cap2) zs:=by
  obtain⟨fuel,hf⟩:=h2;obtain⟨a9,l9,c9,L9,hcs,_,hR⟩:=open_mcalls (sb:=5) (ss:=35) (si:=3) (sd:=3) (sk:=4) (te:=92) Tryz.underlying24 Tryz.underlying47 (by kernel_rfl) rfl rfl rfl rfl rfl rfl rfl rfl (by kernel_rfl) (by kernel_rfl) (by kernel_rfl) (by kernel_rfl) (by kernel_rfl) (by kernel_rfl) (by kernel_rfl) (by kernel_rfl) (by kernel_rfl) (by kernel_rfl) (by kernel_rfl) (by kernel_rfl) (by kernel_rfl) (by kernel_rfl) (by kernel_rfl) Tryz.underlying38 rfl rfl rfl rfl (by kernel_rfl) (by kernel_rfl) (by kernel_rfl) (by kernel_rfl) (by kernel_rfl) (by kernel_rfl) (by kernel_rfl) (by kernel_rfl) Tryz.underlying41 rfl rfl rfl (by kernel_rfl) (by kernel_rfl) (by kernel_rfl) (by kernel_rfl) (by kernel_rfl) (by kernel_rfl) Tryz.underlying92 (by kernel_rfl) rfl rfl rfl rfl (by kernel_rfl) (by kernel_rfl) (by kernel_rfl) (by kernel_rfl) (by kernel_rfl) (by kernel_rfl) (by kernel_rfl) (by kernel_rfl) Tryz.underlying45 rfl rfl rfl rfl rfl rfl rfl (by kernel_rfl) (by kernel_rfl) (by kernel_rfl) (by kernel_rfl) (by kernel_rfl) (by kernel_rfl) (by kernel_rfl) (by kernel_rfl) (by kernel_rfl) (by kernel_rfl) (by kernel_rfl) (by kernel_rfl) (by kernel_rfl) (by kernel_rfl) (by kernel_rfl) (by kernel_rfl) (by kernel_rfl) (by kernel_rfl) (by kernel_rfl) (by kernel_rfl) (by kernel_rfl) (by kernel_rfl) hf;simp[Value.cells]at hcs;obtain⟨rfl,rfl,rfl⟩:=hcs;exact⟨L9,hR⟩
 clear hA0 hval0;refine(walk c0 a1 a2 len2 cap2 z2 W w0 w1 w2).mono fun e W' ⟨he,bel⟩=>?_
 subst he;exact⟨_,rfl,_,_,_,[],_,[],hW',trodAll_mk1 (shut_bool Tryz.underlying4 _),(trodAll_cons_mk (Below.trod laidOut (by kernel_rfl) (of_decide_eq_true (by kernel_rfl)) k0 bel lt0) (trodAll_cons_mk (shut_int Tryz.underlying3 w1) (trodAll_cons_mk (Below.trod laidOut (by kernel_rfl) (of_decide_eq_true (by kernel_rfl)) k2 bel lt2) trodAll_mk0))),rfl,bel.frame _,fun h=>by cases h⟩
theorem over:Rows.metalogPlaysRow.holds Tryz.pinned (OpenSpec.ofChange Rows.metalogPlaysSpec):=
 OpenClaim.holds_of_wide 3 Tryz.f3 rfl rfl rfl rfl rfl rfl rfl ⟨rfl,rfl,rfl,rfl,rfl⟩ rfl rfl rfl rfl rfl (by kernel_rfl) Tryz.func3 (by kernel_rfl)
  (of_decide_eq_true (by kernel_rfl)) (by unfold Func.isWrapper;first|(rw[if_pos (by decide+kernel)];kernel_rfl)|(rw[if_neg (by decide+kernel)];exact⟨rfl,rfl⟩))
  (fun os started H enc _=>lifted os started H enc)
theorem proved:Rows.MetalogPlaysSaid:=over
end Go.Proofs.YtclieefpnbdbjaaGreat.metalogPlays
namespace Go.Proofs.YtclieefpnbdbjaaGreat
theorem metalogPlays_holds:Rows.MetalogPlaysSaid:=metalogPlays.proved
#print axioms metalogPlays_holds
end Go.Proofs.YtclieefpnbdbjaaGreat
