/- JOINED: VoRefE, MeMath, MeCB, MeCL, MeAp. -/
import Derived.Test.YtclieefpnbdbjaaGreatPome26
import Derived.Test.YtclieefpnbdbjaaGreatPome15
set_option maxHeartbeats 4000000
set_option maxRecDepth 100000
namespace Go.Proofs.YtclieefpnbdbjaaGreat.Gf
set_option linter.unusedVariables false
set_option linter.unusedSimpArgs false
open Go.RowKit
theorem info_bool17:(Tryz.prog.info? 4).map (fun i=>(i.zero,i.size,i.bytes))=some (some (.bool false),1,1):=Zk
theorem row_rdB{w:World}{g t n:Nat}{F:Nat->Bool}(h:w.rowIs g t n (fun i=>.bool (F i)))(hn:n<=1000000):RdB w (.slice (some ⟨g,0,none⟩) n n) ((List.range n).map F):=by
 have hl:((List.range n).map F).length=n:=Zs
 refine⟨some ⟨g,0,none⟩,n,by rw[hl],by rw[hl];exact Zr,Zl,nofun,fun i hi=>?_⟩;rw[hl]at hi;refine⟨g,0,rfl,h.lt,?_⟩;rw[Nat.zero_add,h.cell hi];simp[hb,List.getD,hi]
theorem hb_range{n:Nat}{F:Nat->Bool}{i:Nat}(h:i<n):hb ((List.range n).map F) i=F i:=by simp[hb,List.getD,h]
theorem rwrite17_any{w:World}{rb:Nat}{HR GA:Nat->Prop}{a:ArS}(h:RaAt w rb HR GA a){ad ep:Int}{v:Value}{p:List UInt8}(hp:Rd w v p)(hpl:p.length<=100000):
  Calls Tryz.prog 139 #[.pointer (some ⟨rb,0,none⟩),.int .i64 ad,.int .i64 ep,v] w (LeavesRA w rb HR GA (wvS a ad ep p) (.tuple #[.int .i64 (wvN a ad ep p),.int .i64 (wvX a ad ep p)])):=by
 obtain⟨xb,cx,c0⟩:=h.len17;have d2:=h.ok17.d2;have lr:rb<w.heap.size:=by obtain⟨_,_,_,_,_,hI⟩:=h;exact hI.1.lt _ hI.1.hr
 have HA:Hid (RaAt w rb HR GA a):=h;have HP:Hid (Rd w v p):=hp;obtain⟨va,vc,ev⟩:=hp.form;subst ev;obtain⟨n,hn⟩:∃n,Hid (n=a.D.length):=⟨_,rfl⟩;rw[<-hn.out]at c0 d2;have mk1:=run_make_row' (P:=Tryz.prog) 36 4 (.bool false) 1 Tryz.underlying36 info_bool17 rfl .i64 .i64 n Zo Zo w;obtain⟨u,hu⟩:∃u,u=w.alloc (Obj.cells (madeCells #[Value.bool false] n) 4):=⟨_,rfl⟩;have hub:Below w.heap.size w u:=by rw[hu];exact belR _ _
 have hur:u.rowIs w.heap.size 4 n (fun _=>.bool false):=by rw[hu];exact World.rowIs_made _ _ _ _
 obtain⟨g,hg⟩:∃g,Hid (g=w.heap.size):=⟨_,rfl⟩;rw[<-hu,<-hg.out]at mk1;rw[<-hg.out]at hur;have ng:Hid (¬HR g):=fun k=>by have:=h.lt17 g k;have:=hg.out;omega
 clear hu h hp
 go_enter Tryz.func139,Tryz.ntmps139
 go_wp2_with fail
 have START:Hid (u.rowIs g 4 n (fun j=>.bool (decide (j<0)))/\Below w.heap.size w u):=⟨hur.congr fun j _=>by rw[Zx Zo],hub⟩;clear mk1 hub hur
 go_loopw [11] (fun i wr=>∃k:Nat,k<=n/\i= .int .i64 (k:Int)/\wr.rowIs g 4 n (fun j=>.bool (decide (j<k)))/\Hid (Below w.heap.size w wr)) (fun i _=>n-(intOf i).toNat)
 case atStart=>exact⟨0,Zz,rfl,START.out.1,START.out.2⟩
 case round=>
  clear START;obtain⟨k,hk,rfl,hr,hB⟩:=hrel
  by_cases hlt:k<n
  ·have hlt':(k:Int)<(n:Int):=by omega
   have cq:=hr.cell hlt;have fq:=hr.frozen k;have R3:=hr.set k (.bool true);have E2:Hid ((wr.setCell ⟨g,k,none⟩ (.bool true)).rowIs g 4 n (fun j=>.bool (decide (j<k+1)))):=R3.congr fun j hj=>by
    by_cases e:j=k
    ·rw[if_pos e,Zy Zo]
    ·rw[if_neg e]
     by_cases e2:j<k
     ·rw[Zy e2,Zy Zo]
     ·rw[Zx e2,Zx Zo]
   have B2:Hid (Below w.heap.size w (wr.setCell ⟨g,k,none⟩ (.bool true))):=hB.out.setCell (by rw[hg.out];exact Zr) _;clear R3 hr hB;go_wp2;go_roundw
   case rel=>exact⟨k+1,Zo,Zg,E2.out,B2⟩
   case measure=>simp[intOf];omega
  ·obtain rfl:k=n:=by omega
   have hge:¬(k:Int)<(k:Int):=Zo
   have hT:∀W,TurnG HR wr W->RdB W (.slice (some ⟨g,0,none⟩) k k) ((List.range k).map fun j=>decide (j<k)):=fun W t=>row_rdB (hr.of_block (t.block g hr.lt ng.out)) Zo
   have K:=rput17_any (HA.out.below hB.out) (ad:=ad) (ep:=ep) (HP.out.below hB.out) hpl hT (by rw[<-hn.out];simp);have eP:ppP a ad ep p (hb ((List.range k).map fun j=>decide (j<k)))=wvP a ad ep p:=by
    unfold ppP wvP
    split
    ·exact puV_congr (n:=a.D.length) (fun i hi=>by rw[hb_range (by rw[hn.out];exact hi)];exact Zy (by rw[hn.out];exact hi)) _ Zr
    ·rfl
   have eX:ppX a ad ep p (hb ((List.range k).map fun j=>decide (j<k)))=wvX a ad ep p:=by unfold ppX wvX;rw[eP]
   rw[eP,eX]at K;have TW:Hid (TurnG HR w wr):=Below.turnG hB.out HR;clear hT eP eX hr hB
   go_wp2_with fail
   refine K.mono ?_
   rintro _ w3 ⟨rfl,R3,T3⟩;have FIN:Hid (LeavesRA w rb HR GA (wvS a ad ep p) (.tuple #[.int .i64 (wvN a ad ep p),.int .i64 (wvX a ad ep p)]) (.returned (.tuple #[.int .i64 (wvN a ad ep p),.int .i64 (wvX a ad ep p)])) w3):=⟨rfl,R3,TW.out.trans T3⟩;rw[show puN (wvP a ad ep p)=wvN a ad ep p from rfl];clear K R3 T3;go_wp2;exact bodyPost_ret (v:=.tuple #[.int .i64 (wvN a ad ep p),.int .i64 (wvX a ad ep p)]) (by simp[results,Tryz.results139,go_sem]) rfl FIN.out
def TellsV(w:World)(X:Int)(V:VoS)(e:Ending)(w':World):Prop:=∃vd,e= .returned (.tuple #[aggV V vd,.int .i64 X])/\Rd w' vd V.da/\Below w.heap.size w w'
theorem rvX_up{a:ArS}(h:a.off=false):rvX a=0:=by unfold rvX;rw[if_neg (by rw[h];decide)]
theorem rvV_up{a:ArS}(h:a.off=false)(K:List Bool)(ad:Int):rvV a K ad=votS (sayL a ad) K:=by unfold rvV;rw[if_neg (by rw[h];decide)]
theorem rread17_far{w:World}{rb:Nat}{HR GA:Nat->Prop}{a:ArS}(h:RaAt w rb HR GA a){ad:Int}{u:Value}{K:List Bool}(hk:RdB w u K):
  Calls Tryz.prog 94 #[.pointer (some ⟨rb,0,none⟩),u,.int .i64 ad] w (TellsVF w (rvX a) (rvV a K ad)):=by
 obtain⟨w0,hw0⟩:∃w0,w0=w.alloc (.cells #[.bool false,.int .i64 0,.slice none 0 0,.int .i64 0,.bool false] 130):=⟨_,rfl⟩;have b0:Below w.heap.size w w0:=by rw[hw0];exact belR _ _
 have s0:w.heap.size<w0.heap.size:=by rw[hw0];show w.heap.size<(w.heap.push _).size;rw[Array.size_push];exact Nat.lt_succ_self _
 have d2:=h.ok17.d2;have CR:Hid (∀W,Below w0.heap.size w0 W->(∀j,W.cell? ⟨w.heap.size,j,none⟩= #[Value.bool false,.int .i64 0,.slice none 0 0,.int .i64 0,.bool false][j]?/\W.frozen? ⟨w.heap.size,j,none⟩=false)):=fun W o j=>by
  refine⟨(o.cell (p:=⟨w.heap.size,j,none⟩) s0).trans ?_,(o.frozen (p:=⟨w.heap.size,j,none⟩) s0).trans ?_⟩
  ·rw[hw0];exact World.cell?_alloc_new _ _ _ _
  ·rw[hw0];simp[go_sem]
 have KS:=rsaid17_any (h.below b0) (ad:=ad);have HK:Hid (RdB w u K):=hk;obtain⟨ua,uc,eu⟩:=hk.form;subst eu;clear h hk
 go_enter Tryz.func94,Tryz.ntmps94
 go_wp2_with fail
 rw[<-hw0];clear hw0;refine KS.mono ?_
 rintro _ w1 (⟨ho,rfl,b1⟩|⟨ho,L,v,rfl,O1,eL,b1⟩)
 ·have FW:=b0.step16 b1 b0.size;have kA:=CR.out w1 b1;obtain⟨m0,f0⟩:=kA 0;obtain⟨m1,f1⟩:=kA 1;obtain⟨m2,f2⟩:=kA 2;obtain⟨m3,f3⟩:=kA 3;obtain⟨m4,f4⟩:=kA 4;simp at m0 m1 m2 m3 m4;obtain⟨W,hW⟩:∃W,W=((((w1.setCell ⟨w.heap.size,0,none⟩ (.bool false)).setCell ⟨w.heap.size,1,none⟩ (.int .i64 0)).setCell ⟨w.heap.size,2,none⟩ (.slice none 0 0)).setCell ⟨w.heap.size,3,none⟩ (.int .i64 0)).setCell ⟨w.heap.size,4,none⟩ (.bool false):=⟨_,rfl⟩;obtain⟨OA,n0,n1,n2,n3,n4⟩:=set5 m0 m1 m2 m3 m4 hW;have FIN:Hid (TellsVF w (rvX a) (rvV a K ad) (.returned (.tuple #[.agg #[.bool false,.int .i64 0,.slice none 0 0,.int .i64 0,.bool false],.int .i64 130])) W):=by
   have e1:rvX a=130:=if_pos ho;have e2:rvV a K ad=noV:=if_pos ho
   show TellsVF _ _ _ _ _
   rw[e1,e2];exact⟨_,rfl,Or.inl ⟨none,0,rfl,rfl,Zl,fun _=>rfl⟩,FarV.nil _ _ _,FW.trans (OA.below Zr)⟩
  clear OA kA KS FW b1 CR b0;go_wp2;rw[<-hW];clear hW;exact bodyPost_ret (v:=.tuple #[.agg #[.bool false,.int .i64 0,.slice none 0 0,.int .i64 0,.bool false],.int .i64 130]) (by simp[results,Tryz.results94,go_sem,n0,n1,n2,n3,n4]) rfl FIN.out
 ·have FW:=b0.step16 b1 b0.size;have lL:Hid (L.length<=32):=by
   have:=congrArg List.length eL;rw[sL_length,sayL_length]at this
   show _<=_
   omega
  have R1:=O1.rd (by have:=lL.out;omega);have KV:=rvote17_any R1 (by have:=lL.out;omega) (HK.out.below FW);have EL:Hid (sL L=sayL a ad):=eL;rw[eL]at KV;obtain⟨la,lc,el⟩:=R1.form;subst el;have NA:Hid (∀c,c∈L->NearV w0.heap.size w1.heap.size (.slice la L.length lc) c.vs):=O1.ap;clear KS eL O1 R1
  go_wp2_with fail
  refine KV.mono ?_
  rintro _ w2 ⟨vd,rfl,RV,OV,b2⟩;clear KV;have NV0:Hid (NearV w0.heap.size w1.heap.size (.slice la L.length lc) vd):=by
   rcases OV with rfl|⟨c,hc,rfl⟩
   ·exact fun x n c e=>by cases e
   ·exact NA.out c hc
  clear OV;have b12:=b1.step16 b2 b1.size;have FW2:=FW.step16 b2 FW.size;have RV2:=RV.below b2;have kA:=CR.out w2 b12;obtain⟨V,hV⟩:∃V,Hid (V=votS (sayL a ad) K):=⟨_,rfl⟩;rw[<-hV.out]at RV2 ⊢;have EA:Hid (rvX a=0/\rvV a K ad=V):=⟨rvX_up ho,by rw[rvV_up ho,hV.out]⟩;obtain⟨vh,ve,vda,vco,vw⟩:=V;obtain⟨da,dc,ed⟩:=RV2.form;simp only at ed RV2;subst ed;have NV:=NV0;rw[show aggV ⟨vh,ve,vda,vco,vw⟩ (.slice da vda.length dc)= .agg #[.bool vh,.int .i64 ve,.slice da vda.length dc,.int .i64 ((vco:Nat):Int),.bool vw]from rfl];obtain⟨m0,f0⟩:=kA 0;obtain⟨m1,f1⟩:=kA 1;obtain⟨m2,f2⟩:=kA 2;obtain⟨m3,f3⟩:=kA 3;obtain⟨m4,f4⟩:=kA 4;simp at m0 m1 m2 m3 m4;obtain⟨W,hW⟩:∃W,W=((((w2.setCell ⟨w.heap.size,0,none⟩ (.bool vh)).setCell ⟨w.heap.size,1,none⟩ (.int .i64 ve)).setCell ⟨w.heap.size,2,none⟩ (.slice da vda.length dc)).setCell ⟨w.heap.size,3,none⟩ (.int .i64 ((vco:Nat):Int))).setCell ⟨w.heap.size,4,none⟩ (.bool vw):=⟨_,rfl⟩;obtain⟨OA,n0,n1,n2,n3,n4⟩:=set5 m0 m1 m2 m3 m4 hW;have FIN:Hid (TellsVF w (rvX a) (rvV a K ad) (.returned (.tuple #[.agg #[.bool vh,.int .i64 ve,.slice da vda.length dc,.int .i64 ((vco:Nat):Int),.bool vw],.int .i64 0])) W):=by
   show TellsVF _ _ _ _ _
   rw[EA.out.1,EA.out.2];have ne:Apart w.heap.size (.slice da vda.length dc):=fun x n c e=>(NV.out x n c e).imp id fun q k=>by have:=q.1;omega
   have fv:FarV w (.slice da vda.length dc):=fun x n c e=>(NV.out x n c e).imp id fun q=>by have:=q.1;omega
   exact⟨_,rfl,RV2.only ne OA,fv,FW2.trans (OA.below Zr)⟩
  clear OA kA FW b1 CR b0 RV2 RV hV NV NV0 NA;go_wp2;rw[<-hW];clear hW;exact bodyPost_ret (v:=.tuple #[.agg #[.bool vh,.int .i64 ve,.slice da vda.length dc,.int .i64 ((vco:Nat):Int),.bool vw],.int .i64 0]) (by simp[results,Tryz.results94,go_sem,n0,n1,n2,n3,n4]) rfl FIN.out
theorem rread17_any{w:World}{rb:Nat}{HR GA:Nat->Prop}{a:ArS}(h:RaAt w rb HR GA a){ad:Int}{u:Value}{K:List Bool}(hk:RdB w u K):
  Calls Tryz.prog 94 #[.pointer (some ⟨rb,0,none⟩),u,.int .i64 ad] w (TellsV w (rvX a) (rvV a K ad)):=(rread17_far h hk).mono fun _ _ ⟨vd,e,r,_,b⟩=>⟨vd,e,r,b⟩
def lbB:List UInt8:=pkS 0 0 [76]
theorem lb_ok:OkSe 0 0 ([76]:List UInt8).length:=⟨⟨Zd,Zd⟩,⟨Zd,Zd⟩,Zd⟩
theorem lb_okb:OkB lbB:=by
 have:=pk_length (a:=0) (e:=0) (d:=[76]);exact⟨by rw[show lbB=pkS 0 0 [76]from rfl,pk_length];decide,by rw[show lbB=pkS 0 0 [76]from rfl,pk_length];decide⟩
section
variable {a:ArS}
def lbV(a:ArS)(l:List Int):Nat->PuS
 |0=>⟨false,0,a⟩
 |r+1=>if (lbV a l r).cr=true then lbV a l r else if wrAX (lbV a l r).st (l.getD r 0) 0 lbB=130 then ⟨true,0,(lbV a l r).st⟩else ⟨false,0,wrAS (lbV a l r).st (l.getD r 0) 0 lbB⟩
theorem lbV_len{l:List Int}:∀r,(lbV a l r).st.D.length=a.D.length
 |0=>rfl
 |r+1=>by
  have ih:=lbV_len (l:=l) r;unfold lbV
  split
  ·exact ih
  split
  ·exact ih
  ·show(wrAS _ _ _ _).D.length=_
   rw[wrAS_len,ih]
theorem lb_cr{l:List Int}{r n:Nat}(hc:(lbV a l r).cr=false)(hx:wrAX (lbV a l r).st (l.getD r 0) 0 lbB=130)(hr:r<n):lbV a l n=⟨true,0,(lbV a l r).st⟩:=by
 obtain⟨k,rfl⟩:=Nat.exists_eq_add_of_lt hr
 induction k with
 |zero=>
  show lbV a l (r+1)=_
  rw[lbV,if_neg (by rw[hc];decide),if_pos hx]
 |succ k ih=>
  have e:=ih Zo;rw[show r+(k+1)+1=(r+k+1)+1 by omega,lbV,e];rfl
theorem lb_go{l:List Int}{r:Nat}(hc:(lbV a l r).cr=false)(hx:¬wrAX (lbV a l r).st (l.getD r 0) 0 lbB=130):lbV a l (r+1)=⟨false,0,wrAS (lbV a l r).st (l.getD r 0) 0 lbB⟩:=by
 rw[lbV,if_neg (by rw[hc];decide),if_neg hx]
def lbX(a:ArS)(l:List Int):Int:=if (lbV a l l.length).cr=true then 130 else flAX (lbV a l l.length).st
def lbS(a:ArS)(l:List Int):ArS:=if (lbV a l l.length).cr=true then (lbV a l l.length).st else flAS (lbV a l l.length).st
theorem flAS_len:(flAS a).D.length=a.D.length:=by
 unfold flAS
 split
 ·rfl
 ·simp
def knF(a:ArS)(i:Nat):Bool:=decide (rdAX a (i:Int) 0=0)&&(rdAB a (i:Int) 0==lbB)
def knX(a:ArS):Int:=if a.off=true then 130 else 0
def knL(a:ArS):List Bool:=if a.off=true then []else (List.range a.D.length).map (knF a)
def mo18:Int:=2147483547
def apP(g:GeoS)(base count:Int)(r:RcS):Int:=if ¬okG g then 50 else if ¬(0<=base/\0<=count/\base<=mo18/\OkR r)then 1 else if g.t<=count then 180 else 0
def apW(a:ArS)(g:GeoS)(base count:Int)(r:RcS):PuS:=wvP a (slG g count) (base+count+1) (enR r)
def apX(a:ArS)(g:GeoS)(base count:Int)(r:RcS):Int:=
 if ¬apP g base count r=0 then apP g base count r else if (apW a g base count r).cr=true then 130 else if ¬flAX (apW a g base count r).st=0 then flAX (apW a g base count r).st else if (apW a g base count r).n=0 then 150 else 0
def apS(a:ArS)(g:GeoS)(base count:Int)(r:RcS):ArS:=if ¬apP g base count r=0 then a else if (apW a g base count r).cr=true then (apW a g base count r).st else flAS (apW a g base count r).st
theorem ap_may{g:GeoS}{base count:Int}{r:RcS}(h:apP g base count r=0):okG g/\0<=base/\0<=count/\base<=mo18/\OkR r/\count<g.t:=by
 unfold apP at h
 split at h
 ·cases h
 ·rename_i h1
  split at h
  ·cases h
  ·rename_i h2
   split at h
   ·cases h
   ·rename_i h3
    have h2':=Classical.not_not.1 h2;exact⟨Classical.not_not.1 h1,h2'.1,h2'.2.1,h2'.2.2.1,h2'.2.2.2,Zo⟩
theorem ap_se{g:GeoS}{base count:Int}{r:RcS}(h:apP g base count r=0):OkSe (slG g count) (base+count+1) (enR r).length:=by
 obtain⟨h1,h2,h3,h4,h5,h6⟩:=ap_may h;unfold mo18 at h4;have e:slG g count=5+count:=if_pos ⟨h1,h3,h6⟩;have ht:g.t<=64:=by
  obtain⟨_,_,_,_,_,_,_,_,q,_⟩:=h1;exact q
 have hk:=h5.2.2.1;have hs:=h5.2.2.2.2.2.1;rw[e,enR_length];exact⟨⟨Zo,Zo⟩,⟨Zo,Zo⟩,Zo⟩
def ruN(ok:Nat->Bool):Nat->Nat
 |0=>0
 |t+1=>if ruN ok t=t/\ok t=true then t+1 else ruN ok t
theorem ru_le(ok:Nat->Bool):∀t,ruN ok t<=t
 |0=>Zr
 |t+1=>by
  have:=ru_le ok t;unfold ruN
  split<;>omega
theorem ru_all(ok:Nat->Bool):∀t i,i<ruN ok t->ok i=true
 |0,i,h=>by unfold ruN at h;omega
 |t+1,i,h=>by
  unfold ruN at h
  split at h
  ·rename_i q
   by_cases e:i=t
   ·rw[e];exact q.2
   ·exact ru_all ok t i (by rw[q.1];omega)
  ·exact ru_all ok t i h
theorem ru_stop{ok:Nat->Bool}{k t:Nat}(h:∀i,i<k->ok i=true)(hk:k<t)(hn:ok k=false):ruN ok t=k:=by
 have h1:∀j,j<=k->ruN ok j=j:=by
  intro j
  induction j with
  |zero=>intro _;rfl
  |succ j ih=>intro hj;unfold ruN;rw[if_pos ⟨ih Zo,h j Zo⟩]
 obtain⟨d,rfl⟩:=Nat.exists_eq_add_of_lt hk
 induction d with
 |zero=>
  show ruN ok (k+1)=k
  unfold ruN;rw[if_neg (by rw[hn];simp)];exact h1 k Zr
 |succ d ih=>
  have e:=ih Zo
  show ruN ok (k+d+1+1)=k
  unfold ruN;rw[if_neg (by rw[e];omega),e]
theorem ru_full{ok:Nat->Bool}{t:Nat}(h:∀i,i<t->ok i=true):ruN ok t=t:=by
 induction t with
 |zero=>rfl
 |succ t ih=>unfold ruN;rw[if_pos ⟨ih fun i hi=>h i Zo,h t Zo⟩]
def rlV(a:ArS)(g:GeoS)(K:List Bool)(i:Nat):VoS:=rvV a K (slG g (i:Int))
noncomputable def rlF(a:ArS)(g:GeoS)(K:List Bool)(base:Int)(i:Nat):Bool:=@decide ((rlV a g K i).has=true/\(rlV a g K i).ep=base+(i:Int)+1/\IsR (rlV a g K i).da) (Classical.propDecidable _)
noncomputable def rlN(a:ArS)(g:GeoS)(K:List Bool)(base:Int):Nat:=ruN (rlF a g K base) g.t.toNat
noncomputable def rlX(a:ArS)(g:GeoS)(K:List Bool)(base:Int):Int:=
 if ¬okG g then 50 else if ¬(0<=base/\base<=mo18)then 1 else if a.off=true then 130 else if rlN a g K base<g.t.toNat/\(rlV a g K (rlN a g K base)).wi=false then 150 else 0
noncomputable def rlR(a:ArS)(g:GeoS)(K:List Bool)(base:Int):List RcS:=if rlX a g K base=0 then (List.range (rlN a g K base)).map fun i=>raR (rlV a g K i).da else []
noncomputable def svP(g:GeoS)(ar ep:Int)(L:List ObS):Int:=if ¬okG g then 50 else if @decide (0<=ar/\ar<=1/\0<=ep/\ep<=mo18/\MayL L) (Classical.propDecidable _)=true then 0 else 1
def svA(a:ArS)(g:GeoS)(ar ep:Int)(L:List ObS):PuS:=wvP a (arG g ar 0) ep ((snB L).take 4096)
def svB(a:ArS)(g:GeoS)(ar ep:Int)(L:List ObS):PuS:=wvP (svA a g ar ep L).st (arG g ar 1) ep ((snB L).drop 4096)
noncomputable def svX(a:ArS)(g:GeoS)(ar ep:Int)(L:List ObS):Int:=
 if ¬svP g ar ep L=0 then svP g ar ep L else if (svA a g ar ep L).cr=true then 130 else if (svB a g ar ep L).cr=true then 130 else
 if ¬flAX (svB a g ar ep L).st=0 then flAX (svB a g ar ep L).st else if (svA a g ar ep L).n=0∨(svB a g ar ep L).n=0 then 150 else 0
noncomputable def svS(a:ArS)(g:GeoS)(ar ep:Int)(L:List ObS):ArS:=
 if ¬svP g ar ep L=0 then a else if (svA a g ar ep L).cr=true then (svA a g ar ep L).st else if (svB a g ar ep L).cr=true then (svB a g ar ep L).st else flAS (svB a g ar ep L).st
theorem sv_may{g:GeoS}{ar ep:Int}{L:List ObS}(h:svP g ar ep L=0):okG g/\0<=ar/\ar<=1/\0<=ep/\ep<=mo18/\MayL L:=by
 unfold svP at h
 split at h
 ·cases h
 ·rename_i h1
  split at h
  ·rename_i h2
   have:=@of_decide_eq_true _ (Classical.propDecidable _) h2;exact⟨Classical.not_not.1 h1,this.1,this.2.1,this.2.2.1,this.2.2.2.1,this.2.2.2.2⟩
  ·cases h
theorem ar_at{g:GeoS}(h:okG g){ar i:Int}(h1:0<=ar)(h2:ar<=1)(h3:0<=i)(h4:i<2):arG g ar i=1+ar*2+i:=if_pos ⟨⟨h,h1,Zo⟩,h3,h4⟩
theorem sv_se{g:GeoS}{ar ep:Int}{L:List ObS}(h:svP g ar ep L=0):OkSe (arG g ar 0) ep ((snB L).take 4096).length/\OkSe (arG g ar 1) ep ((snB L).drop 4096).length:=by
 obtain⟨h1,h2,h3,h4,h5,h6⟩:=sv_may h;unfold mo18 at h5;have e:=snB_le h6;rw[ar_at h1 h2 h3 Zo Zo,ar_at h1 h2 h3 Zo Zo];refine⟨⟨⟨Zo,Zo⟩,⟨Zo,Zo⟩,by rw[List.length_take];omega⟩,⟨⟨Zo,Zo⟩,⟨Zo,Zo⟩,by rw[List.length_drop];omega⟩⟩
structure ArW where
 ar:Int
 ep:Int
 ob:List ObS
 whole:Bool
 wit:Bool
instance:Inhabited ArW:=⟨⟨0,0,[],false,false⟩⟩
def onV(a:ArS)(g:GeoS)(K:List Bool)(ar:Int)(i:Int):VoS:=rvV a K (arG g ar i)
noncomputable def onL(P:List (List UInt8)):Option (List ObS):=@dite (Option (List ObS)) (∃l,IsP P l) (Classical.propDecidable _) (fun h=>some h.choose) (fun _=>none)
theorem onL_some{P:List (List UInt8)}{l:List ObS}(h:IsP P l):onL P=some l:=by
 have hh:∃l,IsP P l:=⟨l,h⟩;unfold onL;rw[dif_pos hh];exact congrArg some (isP_one hh.choose_spec h)
theorem onL_none{P:List (List UInt8)}(h:¬∃l,IsP P l):onL P=none:=by
 unfold onL;rw[dif_neg h]
noncomputable def onA(a:ArS)(g:GeoS)(K:List Bool)(ar:Int):ArW:=
 ⟨ar,(onV a g K ar 0).ep,(onL [(onV a g K ar 0).da,(onV a g K ar 1).da]).getD [],(onV a g K ar 0).has&&(onV a g K ar 1).has&&((onV a g K ar 1).ep==(onV a g K ar 0).ep)&&(onL [(onV a g K ar 0).da,(onV a g K ar 1).da]).isSome,(onV a g K ar 0).wi&&(onV a g K ar 1).wi⟩
def ltE(x y:ArW):Int:=if (x.whole=false/\y.whole=false)∨(x.whole=false/\x.wit=false)∨(y.whole=false/\y.wit=false)then 150 else 0
def ltW(x y:ArW):ArW:=if x.whole=false∨(y.whole=true/\y.ep>x.ep)then y else x
noncomputable def ltX(a:ArS)(g:GeoS)(K:List Bool):Int:=if ¬okG g then 50 else if a.off=true then 130 else ltE (onA a g K 0) (onA a g K 1)
noncomputable def ltA(a:ArS)(g:GeoS)(K:List Bool):ArW:=if ltX a g K=0 then ltW (onA a g K 0) (onA a g K 1)else default
end
def fiE:List Int->Int
 |[]=>0
 |x::l=>if x=0 then fiE l else x
theorem fi_go:∀{l:List Int} {r:Nat},(∀i,i<r->l.getD i 0=0)->r<l.length->¬l.getD r 0=0->fiE l=l.getD r 0
 |[],r,_,hr,_=>by simp at hr
 |x::l,0,_,_,hx=>if_neg hx
 |x::l,r+1,h,hr,hx=>by
  have h0:x=0:=h 0 Zo;unfold fiE;rw[if_pos h0];exact fi_go (l:=l) (r:=r) (fun i hi=>h (i+1) Zo) (by simpa using hr) hx
theorem fi_end:∀{l:List Int},(∀i,i<l.length->l.getD i 0=0)->fiE l=0
 |[],_=>rfl
 |x::l,h=>by
  have h0:x=0:=h 0 Zs;unfold fiE;rw[if_pos h0];exact fi_end fun i hi=>h (i+1) (by simpa using hi)
theorem mfirst_any{w:World}{a:Option Addr}{n c:Nat}{l:List Int}(h:RdI w (.slice a n c) l)(hn:l.length=n)(hl:n<=1000){x:Int}(hx:fiE l=x):Calls Tryz.prog 67 #[.slice a n c] w fun e w'=>e= .returned (.int .i64 x)/\Below w.heap.size w w':=by
 have HN:Hid (l.length=n):=hn;have HX:Hid (fiE l=x):=hx;clear hx hn
 go_enter Tryz.func67,Tryz.ntmps67
 go_wp2_with fail
 go_loopw [7] (fun i wr=>∃r:Nat,r<=n/\i= .int .i64 (r:Int)/\Hid (∀j,j<r->l.getD j 0=0)/\Hid (Below w.heap.size w wr)) (fun i _=>n-(intOf i).toNat)
 case atStart=>exact⟨0,Zz,rfl,fun j hj=>Zo,Zf⟩
 case round=>
  obtain⟨r,hr,rfl,h0,hB⟩:=hrel
  by_cases hlt:r<n
  ·have hlt':(r:Int)<(n:Int):=by omega
   have hr2:r<l.length:=by rw[HN.out];exact hlt
   obtain⟨b,off,rfl,_,hc⟩:=(h.below hB.out).at hr2;obtain⟨z,hz⟩:∃z,Hid (z=l.getD r 0):=⟨_,rfl⟩;rw[<-hz.out]at hc
   by_cases q:z=0
   ·have N1:Hid (∀j,j<r+1->l.getD j 0=0):=fun j hj=>by
     by_cases e:j=r
     ·rw[e,<-hz.out];exact q
     ·exact h0.out j Zo
    subst q;clear hz h0 h hr2;go_wp2;go_roundw
    case rel=>exact⟨r+1,Zo,Zg,N1,hB.out⟩
    case measure=>simp[intOf];omega
   ·have q':(z==0)=false:=Zq.2 q;have q2:(z !=0)=true:=by simp[bne,q']
    have F:Hid (x=z/\Below w.heap.size w wr):=⟨by rw[<-HX.out,fi_go h0.out hr2 (by rw[<-hz.out];exact q),hz.out],hB.out⟩;clear hz h0 h hr2 HX hB;go_wp2;exact bodyPost_ret (v:=.int .i64 z) (by simp[results,Tryz.results67,go_sem]) rfl ⟨by rw[F.out.1],F.out.2⟩
  ·obtain rfl:r=n:=by omega
   have hge:¬(r:Int)<(r:Int):=Zo
   have F:Hid (x=0/\Below w.heap.size w wr):=⟨by rw[<-HX.out,fi_end (fun i hi=>h0.out i (by rw[HN.out]at hi;exact hi))],hB.out⟩;clear h0 h HX hB;go_wp2;exact bodyPost_ret (v:=.int .i64 0) (by simp[results,Tryz.results67,go_sem]) rfl ⟨by rw[F.out.1],F.out.2⟩
theorem mfirst2{w:World}{x y:Int}(e:Nat){z:Int}(hz:fiE [x,y]=z):Calls Tryz.prog 67 #[.slice (some ⟨w.heap.size,0,none⟩) 2 2] (w.alloc (.cells #[.int .i64 x,.int .i64 y] e)) fun e w'=>e= .returned (.int .i64 z)/\Below w.heap.size w w':=
 (mfirst_any (rdI_lit2 [x,y] rfl rfl rfl Zs) rfl Zs hz).mono fun _ _ h=>⟨h.1,(belR _ _).step16 h.2 Zs⟩
theorem mfirst3{w:World}{x y u:Int}(e:Nat){z:Int}(hz:fiE [x,y,u]=z):Calls Tryz.prog 67 #[.slice (some ⟨w.heap.size,0,none⟩) 3 3] (w.alloc (.cells #[.int .i64 x,.int .i64 y,.int .i64 u] e)) fun e w'=>e= .returned (.int .i64 z)/\Below w.heap.size w w':=
 (mfirst_any (rdI_lit2 [x,y,u] rfl rfl rfl Zs) rfl Zs hz).mono fun _ _ h=>⟨h.1,(belR _ _).step16 h.2 Zs⟩
theorem mfirst4{w:World}{x y u v:Int}(e:Nat){z:Int}(hz:fiE [x,y,u,v]=z):Calls Tryz.prog 67 #[.slice (some ⟨w.heap.size,0,none⟩) 4 4] (w.alloc (.cells #[.int .i64 x,.int .i64 y,.int .i64 u,.int .i64 v] e)) fun e w'=>e= .returned (.int .i64 z)/\Below w.heap.size w w':=
 (mfirst_any (rdI_lit2 [x,y,u,v] rfl rfl rfl Zs) rfl Zs hz).mono fun _ _ h=>⟨h.1,(belR _ _).step16 h.2 Zs⟩
theorem munless_any{w:World}(b:Bool)(x:Int):Calls Tryz.prog 66 #[.bool b,.int .i64 x] w fun e w'=>e= .returned (.int .i64 (if b=true then 0 else x))/\w'=w:=by
 cases b with
 |true=>
  go_enter Tryz.func66,Tryz.ntmps66
  go_wp2;exact bodyPost_ret (v:=.int .i64 0) (by simp[results,Tryz.results66,go_sem]) rfl ⟨rfl,rfl⟩
 |false=>
  go_enter Tryz.func66,Tryz.ntmps66
  go_wp2;exact bodyPost_ret (v:=.int .i64 x) (by simp[results,Tryz.results66,go_sem]) rfl ⟨rfl,rfl⟩
theorem z27_1{p:Prop} (h:p:=by
 subst E;clear HX
 go_enter Tryz.func68,Tryz.ntmps68
 go_wp2;go_ret;exact⟨rfl,rfl⟩
 ):p:=h
theorem misbase_any{w:World}{n:Int}{x:Bool}(hx:decide (0<=n/\n<=mo18)=x):Calls Tryz.prog 68 #[.int .i64 n] w fun e w'=>e= .returned (.bool x)/\w'=w:=by
 unfold mo18 at hx;have HX:Hid (decide (0<=n/\n<=2147483547)=x):=hx;clear hx
 by_cases h1:0<=n
 ·by_cases h2:n<=2147483547
  ·have E:x=true:=by rw[<-HX.out];exact Zy ⟨h1,h2⟩
   exact z27_1
  ·have E:x=false:=by rw[<-HX.out];exact Zx fun q=>h2 q.2
   exact z27_1
 ·have E:x=false:=by rw[<-HX.out];exact Zx fun q=>h1 q.1
  exact z27_1
theorem mepoch_any{w:World}{b i:Int}{x:Int}(hx:b+i+1=x)(h:0<=b/\b<=mo18/\0<=i/\i<=1000):Calls Tryz.prog 72 #[.int .i64 b,.int .i64 i] w fun e w'=>e= .returned (.int .i64 x)/\w'=w:=by
 unfold mo18 at h;subst hx;have wa:IntKind.i64.wrap (b+i)=b+i:=Zw
 have wb:IntKind.i64.wrap (b+i+1)=b+i+1:=Zw
 go_enter Tryz.func72,Tryz.ntmps72
 go_wp2;exact bodyPost_ret (v:=.int .i64 (b+i+1)) (by simp[results,Tryz.results72,go_sem,wa,wb]) rfl ⟨rfl,rfl⟩
theorem mref_any{w:World}{ab:Nat}{g:GeoS}(hg:g.Wf){x:Int}(hx:chG g=x):Calls Tryz.prog 62 #[.pointer (some ⟨ab,0,none⟩),aggG g] w fun e w'=>e= .returned (.int .i64 x)/\Below w.heap.size w w':=by
 have KC:=fun V=>@lcheck_any V g hg _ rfl
 have LG:=geo_laid w g 23;have EX:Hid (fiE [0,chG g]=x):=by
  show fiE [0,chG g]=x
  rw[<-hx];unfold fiE;rw[if_pos rfl];unfold fiE;unfold chG
  split
  ·rfl
  ·rfl
 clear hx;obtain⟨y,hy⟩:∃y,Hid (y=chG g):=⟨_,rfl⟩;rw[<-hy.out]at KC EX;clear hy;obtain⟨k,m,z,s,t,o⟩:=g;rw[aggE]at KC ⊢;obtain⟨W0,hW⟩:∃W0,W0=w.alloc (.cells #[.int .i64 k,.int .i64 m,.int .i64 z,.int .i64 s,.int .i64 t,.int .i64 o] 23):=⟨_,rfl⟩;have LB:Hid (∀V,Below W0.heap.size W0 V->GeoAt V w.heap.size ⟨k,m,z,s,t,o⟩/\Below w.heap.size w V):=by rw[hW];exact LG
 have LL:Hid (∀V cs e,Below W0.heap.size W0 V->Below W0.heap.size W0 (V.alloc (.cells cs e))):=fun V cs e b=>b.step16 (belR _ _) b.size
 clear LG;have S2:=(LB.out W0 Zf).1;have SD:=(LB.out W0.drew Zf.drew).1;have BD:Below W0.heap.size W0 W0.drew:=Zf.drew;have KU:∀V,Below W0.heap.size W0 V->Calls Tryz.prog 66 #[.bool true,.int .i64 1] V fun e w'=>e= .returned (.int .i64 0)/\Below W0.heap.size W0 w':=fun V b=>(munless_any true 1).mono fun e w' h=>⟨h.1,by rw[h.2];exact b⟩
 have KG:∀V,Below W0.heap.size W0 V->Calls Tryz.prog 14 #[.agg #[.int .i64 k,.int .i64 m,.int .i64 z,.int .i64 s,.int .i64 t,.int .i64 o]] V fun e w'=>e= .returned (.int .i64 y)/\Below W0.heap.size W0 w':=fun V b=>(KC V).mono fun e w' h=>⟨h.1,b.step16 h.2 b.size⟩
 have KF:∀V,Below W0.heap.size W0 V->Calls Tryz.prog 67 #[.slice (some ⟨V.heap.size,0,none⟩) 2 2] (V.alloc (.cells #[.int .i64 0,.int .i64 y] 28)) fun e w'=>e= .returned (.int .i64 x)/\Below W0.heap.size W0 w':=fun V b=>(mfirst2 28 EX.out).mono fun e w' h=>⟨h.1,b.step16 h.2 b.size⟩
 clear KC
 go_enter Tryz.func62,Tryz.ntmps62
 go_wp2_with fail
 rw[<-hW];clear hW
 go_region_held3 (fun wx=>wx.cell? ⟨w.heap.size,0,none⟩=some (.int .i64 k)/\wx.cell? ⟨w.heap.size,1,none⟩=some (.int .i64 m)/\wx.cell? ⟨w.heap.size,2,none⟩=some (.int .i64 z)/\wx.cell? ⟨w.heap.size,3,none⟩=some (.int .i64 s)/\wx.cell? ⟨w.heap.size,4,none⟩=some (.int .i64 t)/\wx.cell? ⟨w.heap.size,5,none⟩=some (.int .i64 o)) (first|exact S2|exact SD|exact(LB.out _ Za).1|exact(LB.out _ (LL.out _ _ _ Za)).1) (first
  |(go_at_call 66;go_loud (refine(KU _ Za).mono ?_);rintro _ vv ⟨rfl,hB⟩)
  |(go_at_call 14;go_loud (refine(KG _ Za).mono ?_);rintro _ vv ⟨rfl,hB⟩)
  |(go_at_call 67;go_loud (refine(KF _ Za).mono ?_);rintro _ vv ⟨rfl,hB⟩))
 have F:=(LB.out _ Za).2;go_wp2;exact bodyPost_ret (v:=.int .i64 x) (by simp[results,Tryz.results62,go_sem]) rfl ⟨rfl,F⟩
structure LaS where
 cr:Bool
 ok:Bool
 st:ArS
def laP(a:ArS)(ep:Int)(p:Int×List UInt8):PuS:=wvP a p.1 ep p.2
def laV(a:ArS)(ep:Int)(L:List (Int×List UInt8)):Nat->LaS
 |0=>⟨false,true,a⟩
 |r+1=>if (laV a ep L r).cr=true then laV a ep L r else ⟨(laP (laV a ep L r).st ep (L.getD r default)).cr,(laV a ep L r).ok&&decide (0<(laP (laV a ep L r).st ep (L.getD r default)).n),(laP (laV a ep L r).st ep (L.getD r default)).st⟩
theorem la_go{a:ArS}{ep:Int}{L:List (Int×List UInt8)}{r:Nat}(h:(laV a ep L r).cr=false):laV a ep L (r+1)=⟨(laP (laV a ep L r).st ep (L.getD r default)).cr,(laV a ep L r).ok&&decide (0<(laP (laV a ep L r).st ep (L.getD r default)).n),(laP (laV a ep L r).st ep (L.getD r default)).st⟩:=by
 rw[laV,if_neg (by rw[h];decide)]
theorem la_stay{a:ArS}{ep:Int}{L:List (Int×List UInt8)}{r:Nat}(h:(laV a ep L r).cr=true):∀k,laV a ep L (r+k)=laV a ep L r
 |0=>rfl
 |k+1=>by
  have ih:=la_stay h k
  show laV a ep L (r+k+1)=_
  rw[laV,ih,if_pos h]
def laX(a:ArS)(ep:Int)(L:List (Int×List UInt8)):Int:=if (laV a ep L L.length).cr=true then 130 else fiE [flAX (laV a ep L L.length).st,if (laV a ep L L.length).ok=true then 0 else 150]
def laT(a:ArS)(ep:Int)(L:List (Int×List UInt8)):ArS:=if (laV a ep L L.length).cr=true then (laV a ep L L.length).st else flAS (laV a ep L L.length).st
theorem ml_step{p:Prop} (h:p:=by
 go_wp2;go_roundw
 case rel=>exact⟨r+1,GC,Zo,by rw[OKN.out],Zg,RA.out,T02,CN⟩
 case measure=>simp[intOf];omega):p:=h
theorem mlay_any{w:World}{ab:Nat}{GA:Nat->Prop}{a:ArS}(h:ArAt w ab GA a){ep:Int}{b off n c:Nat}{L:List (Int×List UInt8)}(hn:L.length=n)(hn1:n<=100)(hs:∀i,i<n->OkSe (L.getD i default).1 ep (L.getD i default).2.length)
  (hp:∀W,TurnG GA w W->∀i,i<n->∃v,W.cell? ⟨b,off+i*2,none⟩=some (.int .i64 (L.getD i default).1)/\W.cell? ⟨b,off+i*2+1,none⟩=some v/\Rd W v (L.getD i default).2):
  Calls Tryz.prog 79 #[.pointer (some ⟨ab,0,none⟩),.int .i64 ep,.slice (some ⟨b,off,none⟩) n c] w (LeavesA w ab GA (laT a ep L) (.int .i64 (laX a ep L))):=by
 have HA:Hid (ArAt w ab GA a):=h;have HP:Hid (∀W,TurnG GA w W->∀i,i<n->∃v,W.cell? ⟨b,off+i*2,none⟩=some (.int .i64 (L.getD i default).1)/\W.cell? ⟨b,off+i*2+1,none⟩=some v/\Rd W v (L.getD i default).2):=hp;have HS:Hid (∀i,i<n->OkSe (L.getD i default).1 ep (L.getD i default).2.length):=hs;have HN:Hid (L.length=n):=hn;clear h hp hs hn
 go_enter Tryz.func79,Tryz.ntmps79
 go_wp2_with fail
 go_loopw [7,14] (fun tv i wr=>∃(r:Nat) (GB:Nat->Prop),r<=n/\tv= .bool (laV a ep L r).ok/\i= .int .i64 (r:Int)/\ArAt wr ab GB (laV a ep L r).st/\Hid (Grew GA w GB wr)/\Hid ((laV a ep L r).cr=false)) (fun _ i _=>n-(intOf i).toNat)
 case atStart=>exact⟨0,GA,Zz,rfl,rfl,HA.out,Grew.refl _ _,rfl⟩
 case round=>
  obtain⟨r,GB,hr,rfl,rfl,hRA,hT,hcr⟩:=hrel;obtain⟨y,hy⟩:∃y,Hid (y=(laV a ep L r).ok):=⟨_,rfl⟩;rw[<-hy.out]
  by_cases hlt:r<n
  ·have hlt':(r:Int)<(n:Int):=by omega
   obtain⟨v,c0,c1,Rv⟩:=HP.out wr hT.out.turn r hlt;have se:=HS.out r hlt;have GO:=la_go hcr.out;have STAY:=fun (k:(laV a ep L (r+1)).cr=true)=>la_stay k
   obtain⟨⟨z,d⟩,hzd⟩:∃z,z=L.getD r default:=⟨_,rfl⟩;rw[<-hzd]at c0 Rv se GO;obtain⟨va,vc,ev⟩:=Rv.form;subst ev;simp only at c0 c1 Rv se;obtain⟨P,hP⟩:∃P,Hid (P=wvP (laV a ep L r).st z ep d):=⟨_,rfl⟩;obtain⟨w1,hw1⟩:∃w1,w1=wr.alloc (.cells #[.int .i64 z,.slice va d.length vc] 146):=⟨_,rfl⟩;have B1:Below wr.heap.size wr w1:=by rw[hw1];exact belR _ _
   have y0:w1.cell? ⟨wr.heap.size,0,none⟩=some (.int .i64 z):=by rw[hw1];exact World.cell?_alloc_new _ _ _ _
   have y1:w1.cell? ⟨wr.heap.size,1,none⟩=some (.slice va d.length vc):=by rw[hw1];exact World.cell?_alloc_new _ _ _ _
   have K:=vwrite17_any (hRA.below B1) (ad:=z) (ep:=ep) (WalkArith.wf_i64 (by have:=se.1;omega)) (Rv.below B1) (by have:=se.2.2;omega);have e1:wvX (laV a ep L r).st z ep d=puE P:=by unfold wvX;rw[if_pos se,hP.out]
   have e2:wvN (laV a ep L r).st z ep d=puN P:=by unfold wvN;rw[hP.out]
   have e3:wvS (laV a ep L r).st z ep d=P.st:=by unfold wvS;rw[hP.out]
   rw[e1,e2,e3]at K;have GO':Hid (laV a ep L (r+1)=⟨P.cr,y&&decide (0<P.n),P.st⟩):=by show _=_;rw[GO,hy.out,hP.out];rfl
   have SS:Hid ((laV a ep L (r+1)).cr=true->laV a ep L L.length=laV a ep L (r+1)):=fun k=>by
    obtain⟨m,hm⟩:=Nat.exists_eq_add_of_le (show r+1<=L.length by rw[HN.out];omega);rw[hm];exact STAY k m
   clear STAY GO e1 e2 e3 hP hzd
   go_wp2_with fail
   rw[<-hw1];clear hw1;refine K.mono ?_
   rintro _ w2 ⟨rfl,GC,A2,g2⟩;have T02:Hid (Grew GA w GC w2):=(hT.out.trans (Grew.of_below B1)).trans g2;clear K c0 c1 y0 y1 Rv B1 hT g2 hRA;cases hcp:P.cr with
   |true=>
    have x1:puE P=130:=by unfold puE;rw[hcp];rfl
    have x2:puN P=0:=by unfold puN;rw[hcp];rfl
    rw[x1,x2];have F:Hid (LeavesA w ab GA (laT a ep L) (.int .i64 (laX a ep L)) (.returned (.int .i64 130)) w2):=by
     have e:=SS.out (by rw[GO'.out];exact hcp)
     show LeavesA _ _ _ _ _ _ _
     unfold laT laX;rw[e,GO'.out];simp only[hcp,if_true];exact⟨rfl,GC,A2,T02.out⟩
    clear A2 T02 GO' SS x1 x2 se;go_wp2;exact bodyPost_ret (v:=.int .i64 130) (by simp[results,Tryz.results79,go_sem]) rfl F.out
   |false=>
    have x1:puE P=0:=by unfold puE;rw[hcp];rfl
    have x2:puN P=(P.n:Int):=by unfold puN;rw[hcp];rfl
    rw[x1,x2];have RA:Hid (ArAt w2 ab GC (laV a ep L (r+1)).st):=by show ArAt _ _ _ _;rw[GO'.out];exact A2
    have CN:Hid ((laV a ep L (r+1)).cr=false):=by show _=_;rw[GO'.out];exact hcp
    have OK0:Hid ((laV a ep L (r+1)).ok=(y&&decide (0<P.n))):=by show _=_;rw[GO'.out]
    obtain⟨N,hN⟩:∃N,Hid (N=P.n):=⟨_,rfl⟩;rw[<-hN.out]at OK0 ⊢;clear A2 GO' SS x1 x2 se hcr hN hy;cases y with
    |false=>
     have OKN:Hid ((laV a ep L (r+1)).ok=false):=by show _=_;rw[OK0.out];rfl
     clear OK0;exact ml_step
    |true=>
     by_cases q:0<N
     ·have q1:(0:Int)<(N:Int):=by omega
      have OKN:Hid ((laV a ep L (r+1)).ok=true):=by show _=_;rw[OK0.out,Zy q];rfl
      clear OK0;exact ml_step
     ·have q1:¬(0:Int)<(N:Int):=by omega
      have OKN:Hid ((laV a ep L (r+1)).ok=false):=by show _=_;rw[OK0.out,Zx q];rfl
      clear OK0;exact ml_step
  ·obtain rfl:r=n:=by omega
   have hge:¬(r:Int)<(r:Int):=Zo
   have KF:=aflush_any hRA;obtain⟨x,hx⟩:∃x,Hid (x=flAX (laV a ep L r).st):=⟨_,rfl⟩;rw[<-hx.out]at KF;obtain⟨u,hu⟩:∃u:Int,Hid (u=if y=true then 0 else 150):=⟨_,rfl⟩;obtain⟨e,he⟩:∃e,Hid (e=fiE [x,u]):=⟨_,rfl⟩;have F:Hid (∀w6 GC,ArAt w6 ab GC (flAS (laV a ep L r).st)->Grew GA w GC w6->LeavesA w ab GA (laT a ep L) (.int .i64 (laX a ep L)) (.returned (.int .i64 e)) w6):=fun w6 GC A g=>by
    have hl:=HN.out;unfold laT laX;rw[hl,hcr.out,if_neg Zd,if_neg Zd,<-hx.out,<-hy.out,<-hu.out,<-he.out];exact⟨rfl,GC,A,g⟩
   have KU:∀V,Calls Tryz.prog 66 #[.bool y,.int .i64 150] V fun e w'=>e= .returned (.int .i64 u)/\w'=V:=fun V=>by rw[hu.out];exact munless_any y 150
   have K2:=fun V=>@mfirst2 V x u 28 e he.out.symm
   clear hRA hu he hx hy
   go_wp2_with fail
   refine KF.mono ?_
   rintro _ w2 ⟨rfl,GC,A2,g2⟩;have T02:Hid (Grew GA w GC w2):=hT.out.trans g2;clear KF g2
   go_wp2_with fail
   refine(KU _).mono ?_
   rintro _ w3 ⟨rfl,rfl⟩
   go_wp2_with fail
   refine(K2 _).mono ?_
   rintro _ w4 ⟨rfl,B4⟩;have F2:Hid _:=F.out w4 GC (A2.below B4) (T02.out.trans (Grew.of_below B4));clear F K2 KU A2 B4 T02;go_wp2;exact bodyPost_ret (v:=.int .i64 e) (by simp[results,Tryz.results79,go_sem]) rfl F2.out
theorem ap_early{a:ArS}{g:GeoS}{base count:Int}{r:RcS}{e:Int}(hP:apP g base count r=e)(he:¬e=0):apX a g base count r=e/\apS a g base count r=a:=by
 unfold apX apS;rw[hP,if_pos he,if_pos he];exact⟨rfl,rfl⟩
theorem ap_50{g:GeoS}{base count:Int}{r:RcS}(h:¬okG g):apP g base count r=50:=if_pos h
theorem ap_1{g:GeoS}{base count:Int}{r:RcS}(h:okG g)(q:¬(0<=base/\0<=count/\base<=mo18/\OkR r)):apP g base count r=1:=by
 unfold apP;rw[if_neg (fun k=>k h),if_pos q]
theorem ap_180{g:GeoS}{base count:Int}{r:RcS}(h:okG g)(q:0<=base/\0<=count/\base<=mo18/\OkR r)(t:g.t<=count):apP g base count r=180:=by
 unfold apP;rw[if_neg (fun k=>k h),if_neg (fun k=>k q),if_pos t]
theorem ap_0{g:GeoS}{base count:Int}{r:RcS}(h:okG g)(q:0<=base/\0<=count/\base<=mo18/\OkR r)(t:¬g.t<=count):apP g base count r=0:=by
 unfold apP;rw[if_neg (fun k=>k h),if_neg (fun k=>k q),if_neg t]
theorem two18(w:World)(g:GeoS)(kd ln:Int)(ky:List UInt8)(vs:Value)(e f:Nat):∀V,Below ((w.alloc (.cells (cellsG g) e)).alloc (.cells #[.int .i64 kd,.string ⟨ky.toArray⟩,.int .i64 ln,vs] f)).heap.size ((w.alloc (.cells (cellsG g) e)).alloc (.cells #[.int .i64 kd,.string ⟨ky.toArray⟩,.int .i64 ln,vs] f)) V->
  (GeoAt V w.heap.size g/\Below w.heap.size w V)/\V.cell? ⟨w.heap.size+1,0,none⟩=some (.int .i64 kd)/\V.cell? ⟨w.heap.size+1,1,none⟩=some (.string ⟨ky.toArray⟩)/\V.cell? ⟨w.heap.size+1,2,none⟩=some (.int .i64 ln)/\V.cell? ⟨w.heap.size+1,3,none⟩=some vs:=by
 intro V hV;obtain⟨u,hu⟩:∃u,u=w.alloc (.cells (cellsG g) e):=⟨_,rfl⟩;have LG:=geo_laid w g e;rw[<-hu]at hV LG;have s1:u.heap.size=w.heap.size+1:=by rw[hu];simp
 have b2:Below u.heap.size u (u.alloc (.cells #[.int .i64 kd,.string ⟨ky.toArray⟩,.int .i64 ln,vs] f)):=belR _ _;have z:∀j,(u.alloc (.cells #[.int .i64 kd,.string ⟨ky.toArray⟩,.int .i64 ln,vs] f)).cell? ⟨u.heap.size,j,none⟩= #[Value.int .i64 kd,.string ⟨ky.toArray⟩,.int .i64 ln,vs][j]? :=fun j=>World.cell?_alloc_new _ _ _ _
 have lt:u.heap.size<(u.alloc (.cells #[.int .i64 kd,.string ⟨ky.toArray⟩,.int .i64 ln,vs] f)).heap.size:=Zs
 refine⟨LG V (b2.step16 hV b2.size),?_⟩;rw[<-s1];exact⟨(hV.cell (p:=⟨u.heap.size,0,none⟩) lt).trans (z 0),(hV.cell (p:=⟨u.heap.size,1,none⟩) lt).trans (z 1),(hV.cell (p:=⟨u.heap.size,2,none⟩) lt).trans (z 2),(hV.cell (p:=⟨u.heap.size,3,none⟩) lt).trans (z 3)⟩
end Go.Proofs.YtclieefpnbdbjaaGreat.Gf
