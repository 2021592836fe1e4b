/- JOINED: VoRefA, VoRefB, VoRefC, VoRefD. -/
import Derived.Test.YtclieefpnbdbjaaGreatPome25
set_option maxHeartbeats 4000000
set_option maxRecDepth 100000
namespace Go.Proofs.YtclieefpnbdbjaaGreat.Gf
set_option linter.unusedVariables false
set_option linter.unusedSimpArgs false
open Go.RowKit
def Saids17(w:World)(a:ArS)(ad:Int)(e:Ending)(w':World):Prop:=
 (a.off=true/\e= .returned (.tuple #[.slice none 0 0,.int .i64 130])/\Below w.heap.size w w')∨(a.off=false/\∃L v,e= .returned (.tuple #[v,.int .i64 0])/\OwnSa w' w.heap.size v L/\sL L=sayL a ad/\Below w.heap.size w w')
theorem far_part{w:World}{u v:Value}(h:FarV w u)(k:PartV u v):FarV w v:=fun x n c e=>by
 rcases k (fun q=>q<w.heap.size) (h.apart fun q hq=>hq) x n c e with q|q
 ·exact Or.inl q
 ·exact Or.inr Zo
theorem near_of{w wr w2:World}{lv u:Value}{D:List UInt8}(hf:FarV wr u)(hr:Rd w2 u D)(hs:w.heap.size<=wr.heap.size)(hl:∀k,lv.ownBlock=some k->k<wr.heap.size):NearV w.heap.size w2.heap.size lv u:=fun x n c e=>by
 rcases hf x n c e with q|q
 ·exact Or.inl q
 ·rcases hr with⟨ao,cap,h1,h2,_⟩|⟨b,off,cap,h1,h2,h3,h4,h5,_⟩
  ·rw[h2]at e;simp at e;exact Or.inl e.2.1.symm
  ·rw[h2]at e;simp at e;obtain⟨rfl,_⟩:=e;refine Or.inr ⟨by show w.heap.size<=b;have:wr.heap.size<=b:=q;omega,h5,fun k=>?_⟩;have h6:b<wr.heap.size:=hl b k
   have:wr.heap.size<=b:=q
   omega
theorem say_step{a:ArS}{ad:Int}{L:List SaV}{r:Nat}{c:SaV}(h:sL L=(List.range r).map (sayV a ad))(hc:sayV a ad r=c.s):sL (L++[c])=(List.range (r+1)).map (sayV a ad):=by
 unfold sL at h ⊢;rw[List.map_append,h,List.range_succ,List.map_append]
 show _++[c.s]=_++[sayV a ad r]
 rw[hc]
theorem sa_tf{p:Prop} (h:p:=by
 go_wp2_with (at_builtin;(refine wpList_append_sa (w:=w2) rfl (.tmp 39) (.tmp 56) rfl rfl rfl O2 (c:=⟨⟨true,false,(N:Int),D⟩,.slice ua D.length uc⟩) RC NC rfl rfl rfl (by have:=ll.out;omega) s2 ?_);intro v4 w4 o4 G4;have B4:=BF.grown G4.gr BF.size (fun q hq=>(lo q hq).1);clear G4 O2 BF RC)
 have B5:Hid (Below w.heap.size w w4):=B4;go_roundw
 case rel=>exact⟨r+1,_,Zo,Zg,o4,HS,B5⟩
 case measure=>simp[intOf];omega):p:=h
theorem sa_ft{p:Prop} (h:p:=by
 go_wp2_with (at_builtin;(refine wpList_append_sa (w:=w2) rfl (.tmp 39) (.tmp 56) rfl rfl rfl O2 (c:=⟨⟨false,true,(N:Int),D⟩,.slice ua D.length uc⟩) RC NC rfl rfl rfl (by have:=ll.out;omega) s2 ?_);intro v4 w4 o4 G4;have B4:=BF.grown G4.gr BF.size (fun q hq=>(lo q hq).1);clear G4 O2 BF RC)
 have B5:Hid (Below w.heap.size w w4):=B4;go_roundw
 case rel=>exact⟨r+1,_,Zo,Zg,o4,HS,B5⟩
 case measure=>simp[intOf];omega):p:=h
theorem sa_ff{p:Prop} (h:p:=by
 go_wp2_with (at_builtin;(refine wpList_append_sa (w:=w2) rfl (.tmp 39) (.tmp 56) rfl rfl rfl O2 (c:=⟨⟨false,false,(N:Int),D⟩,.slice ua D.length uc⟩) RC NC rfl rfl rfl (by have:=ll.out;omega) s2 ?_);intro v4 w4 o4 G4;have B4:=BF.grown G4.gr BF.size (fun q hq=>(lo q hq).1);clear G4 O2 BF RC)
 have B5:Hid (Below w.heap.size w w4):=B4;go_roundw
 case rel=>exact⟨r+1,_,Zo,Zg,o4,HS,B5⟩
 case measure=>simp[intOf];omega):p:=h
theorem rsaid17_any{w:World}{rb:Nat}{HR GA:Nat->Prop}{a:ArS}(h:RaAt w rb HR GA a){ad:Int}:Calls Tryz.prog 141 #[.pointer (some ⟨rb,0,none⟩),.int .i64 ad] w (Saids17 w a ad):=by
 have HA:Hid (∀W,Below w.heap.size w W->RaAt W rb HR GA a):=fun W b=>h.below b
 obtain⟨xb,yb,cx,cy,rd,hM,ok⟩:=h;have c0:=hM.c0;have lr:=hM.lt rb hM.hr;have d1:=hM.d1;have d2:=hM.d2;have OK:Hid a.Ok:=ok;obtain⟨n,hn⟩:∃n,Hid (n=a.D.length):=⟨_,rfl⟩;rw[<-hn.out]at c0 d1 d2;clear hM ok;cases ho:a.off with
 |true=>
  have hn0:(0:Int)<(n:Int):=Zo
  have KR:=fun W (b:Below w.heap.size w W)=>rreadA_far (HA.out W b) (i:=0) (ad:=ad)
  have e1:rdAX a 0 ad=130:=if_pos ho;have e2:rdAB a 0 ad=[]:=if_pos ho;rw[e1,e2]at KR;have KR':Hid _:=KR;clear KR e1 e2 OK
  go_enter Tryz.func141,Tryz.ntmps141
  go_wp2_with fail
  go_loopw [6,7] (fun lv i wr=>i= .int .i64 0/\lv= .slice none 0 0/\wr=w) (fun _ _ _=>0)
  case atStart=>exact⟨rfl,rfl,rfl⟩
  case round=>
   obtain⟨rfl,rfl,rfl⟩:=hrel
   go_wp2_with fail
   refine(KR'.out _ Zf).mono ?_
   rintro _ w1 ⟨v,rfl,R1,F1,B1⟩;obtain⟨va,vc,rfl⟩:=R1.form;clear R1 F1;go_wp2;exact bodyPost_ret (v:=.tuple #[.slice none 0 0,.int .i64 130]) (by simp[results,Tryz.results141,go_sem]) rfl (Or.inl ⟨ho,rfl,B1⟩)
 |false=>
  have HO:Hid (a.off=false):=ho;clear ho
  go_enter Tryz.func141,Tryz.ntmps141
  go_wp2_with fail
  go_loopw [6,7] (fun lv i wr=>∃(r:Nat) (L:List SaV),r<=n/\i= .int .i64 (r:Int)/\OwnSa wr w.heap.size lv L/\Hid (sL L=(List.range r).map (sayV a ad))/\Hid (Below w.heap.size w wr)) (fun _ i _=>n-(intOf i).toNat)
  case atStart=>exact⟨0,[],Zz,rfl,OwnSa.nil _ _,rfl,Zf⟩
  case round=>
   obtain⟨r,L,hr,rfl,hO,hS,hB⟩:=hrel;have ll:Hid (L.length=r):=by have:=congrArg List.length hS.out;rw[sL_length,List.length_map,List.length_range]at this;exact this
   obtain⟨la,lc,el⟩:=(hO.rd (by have:=ll.out;omega)).form;subst el;have k0:wr.cell? ⟨rb,0,none⟩=some (.slice (some ⟨xb,0,none⟩) n cx):=(hB.out.cell (p:=⟨rb,0,none⟩) lr).trans c0
   by_cases hlt:r<n
   ·have hlt':(r:Int)<(n:Int):=by omega
    have KR:=rreadA_far (HA.out wr hB.out) (i:=(r:Int)) (ad:=ad);have lo:Hid (∀k,(Value.slice la L.length lc).ownBlock=some k->w.heap.size<=k/\k<wr.heap.size):=Zv hO.row;obtain⟨x,hx⟩:∃x,Hid (x=rdAX a (r:Int) ad):=⟨_,rfl⟩;obtain⟨p,hp⟩:∃p,Hid (p=rdAB a (r:Int) ad):=⟨_,rfl⟩;have lp:p.length<=100000:=by rw[hp.out];exact Nat.le_trans (rdB_le OK.out _ _) Zd
    rw[<-hx.out,<-hp.out]at KR;have x130:¬x=130:=by rw[hx.out];exact rdAX_up HO.out
    have x130':(x==130)=false:=Zq.2 x130
    go_wp2_with fail
    refine KR.mono ?_
    rintro _ w1 ⟨v,rfl,R1,F1,B1⟩;have KU:=runpack_part (a:=ad) R1 lp;obtain⟨va,vc,ev⟩:=R1.form;obtain⟨X,hX⟩:∃X,Hid (X=upX ad p):=⟨_,rfl⟩;obtain⟨N,hN⟩:∃N,Hid (N=upN ad p):=⟨_,rfl⟩;obtain⟨D,hD⟩:∃D,Hid (D=upD ad p):=⟨_,rfl⟩;rw[<-hX.out,<-hN.out,<-hD.out]at KU;subst ev;clear KR;have sz:=hB.out.size
    go_wp2_with fail
    refine KU.mono ?_
    rintro _ w2 ⟨u,rfl,R2,P2,B2⟩;clear KU;obtain⟨ua,uc,eu⟩:=R2.form;subst eu;have O2:=hO.later (B1.step16 B2 B1.size);have BF:=(hB.out.step16 B1 hB.out.size).step16 B2 (Nat.le_trans hB.out.size B1.size);have s2:=BF.size;have NC:NearV w.heap.size w2.heap.size (.slice la L.length lc) (.slice ua D.length uc):=near_of (far_part F1 P2) R2 hB.out.size (fun k hk=>(lo.out k hk).2);have SV:Hid (sayV a ad r=⟨decide (x=0/\X=0),decide (x=0/\p=[]),(N:Int),D⟩):=by
     show _=_
     unfold sayV;rw[<-hx.out,<-hp.out,<-hX.out,<-hN.out,<-hD.out]
    have XP:Hid (X=0->p.length≠0):=fun q=>by
     rw[hX.out]at q;have:=(upX_iff.1 q).1;omega
    replace lo:=Zv O2.row;clear F1 P2 B1 B2 R1 hO hB hX hN hD hx k0 x130
    by_cases q0:x=0
    ·subst q0
     by_cases q1:X=0
     ·subst q1;have q2:¬(p.length:Int)=0:=by have:=XP.out rfl;omega
      have q3:((p.length:Int)==0)=false:=Zq.2 q2;obtain⟨C,hC⟩:∃C:SaV,C=⟨⟨true,false,(N:Int),D⟩,.slice ua D.length uc⟩:=⟨_,rfl⟩;have HS:Hid (sL (L++[C])=(List.range (r+1)).map (sayV a ad)):=say_step hS.out (by
       rw[SV.out,hC,Zy ⟨rfl,rfl⟩,Zx fun k=>q2 (by rw[k.2];rfl)])
      have RC:Rd w2 C.vs C.s.da:=by rw[hC];exact R2
      subst hC;clear SV XP hS R2;exact sa_tf
     ·by_cases q2:(p.length:Int)=0
      ·obtain⟨C,hC⟩:∃C:SaV,C=⟨⟨false,true,(N:Int),D⟩,.slice ua D.length uc⟩:=⟨_,rfl⟩;have q1':(X==0)=false:=Zq.2 q1;have HS:Hid (sL (L++[C])=(List.range (r+1)).map (sayV a ad)):=say_step hS.out (by
        rw[SV.out,hC,Zx fun k=>q1 k.2,Zy ⟨rfl,List.length_eq_zero_iff.1 Zo⟩])
       have RC:Rd w2 C.vs C.s.da:=by rw[hC];exact R2
       subst hC;clear SV XP hS R2;exact sa_ft
      ·obtain⟨C,hC⟩:∃C:SaV,C=⟨⟨false,false,(N:Int),D⟩,.slice ua D.length uc⟩:=⟨_,rfl⟩;have q1':(X==0)=false:=Zq.2 q1;have q3:((p.length:Int)==0)=false:=Zq.2 q2;have HS:Hid (sL (L++[C])=(List.range (r+1)).map (sayV a ad)):=say_step hS.out (by
        rw[SV.out,hC,Zx fun k=>q1 k.2,Zx fun k=>q2 (by rw[k.2];rfl)])
       have RC:Rd w2 C.vs C.s.da:=by rw[hC];exact R2
       subst hC;clear SV XP hS R2;exact sa_ff
    ·obtain⟨C,hC⟩:∃C:SaV,C=⟨⟨false,false,(N:Int),D⟩,.slice ua D.length uc⟩:=⟨_,rfl⟩;have q0':(x==0)=false:=Zq.2 q0;have HS:Hid (sL (L++[C])=(List.range (r+1)).map (sayV a ad)):=say_step hS.out (by
      rw[SV.out,hC,Zx fun k=>q0 k.1,Zx fun k=>q0 k.1])
     have RC:Rd w2 C.vs C.s.da:=by rw[hC];exact R2
     subst hC;clear SV XP hS R2;exact sa_ff
   ·obtain rfl:r=n:=by omega
    have hge:¬(r:Int)<(r:Int):=Zo
    have FIN:Hid (Saids17 w a ad (.returned (.tuple #[.slice la L.length lc,.int .i64 0])) wr):=Or.inr ⟨HO.out,L,_,rfl,hO,by rw[hS.out,hn.out];rfl,hB.out⟩;clear hO hS hB;go_wp2;exact bodyPost_ret (v:=.tuple #[.slice la L.length lc,.int .i64 0]) (by simp[results,Tryz.results141,go_sem]) rfl FIN.out
theorem RdSa.drewN{w:World}{v:Value}{L:List SaV}(h:RdSa w v L)(n:Nat):RdSa (w.drewN n) v L:=h.below (Zf.drewN n)
theorem co_no{p:Prop} (h:p:=by
 go_wp2;go_roundw
 case rel=>exact⟨r+1,_,Zo,Zg,by rw[CN.out],rfl⟩
 case measure=>simp[intOf];omega):p:=h
theorem rcopies17_any{w:World}{v u:Value}{L:List SaV}{e:Int}{d:List UInt8}(h:RdSa w v L)(hl:L.length<=1000000)(hd:Rd w u d):Calls Tryz.prog 176 #[v,.int .i64 e,u] w fun x w'=>x= .returned (.int .i64 ((cpV (sL L) e d:Nat):Int))/\∃n,w'=w.drewN n:=by
 obtain⟨a,c,ev⟩:=h.form;subst ev;obtain⟨ua,uc,eu⟩:=hd.form;have HD:Hid (Rd w u d):=hd;subst eu;have ec:cpV (sL L) e d=cnt (fun i=>isV (sF (sL L) i) e d) L.length:=by unfold cpV;rw[sL_length]
 rw[ec];obtain⟨p,hp⟩:∃p:Nat->Bool,Hid (p=fun i=>isV (sF (sL L) i) e d):=⟨_,rfl⟩;rw[<-hp.out];clear ec hd
 go_enter Tryz.func176,Tryz.ntmps176
 go_wp2_with fail
 go_loopw [7,8] (fun cv i wr=>∃(r nd:Nat),r<=L.length/\i= .int .i64 (r:Int)/\cv= .int .i64 ((cnt p r:Nat):Int)/\wr=w.drewN nd) (fun _ i _=>L.length-(intOf i).toNat)
 case atStart=>exact⟨0,0,Zz,rfl,rfl,rfl⟩
 case round=>
  obtain⟨r,nd,hr,rfl,rfl,rfl⟩:=hrel;have cl:cnt p r<=r:=cnt_le p r
  by_cases hlt:r<L.length
  ·have hlt':(r:Int)<(L.length:Int):=by omega
   obtain⟨b,off,rfl,hb,z⟩:=(h.drewN nd).at hlt;have PR:Hid (p r=isV (L.getD r default).s e d):=by show _=_;rw[hp.out];show isV (sF (sL L) r) e d=_;rw[sL_at]
   generalize L.getD r default=k at z PR;obtain⟨⟨si,sn,se,sd⟩,vs⟩:=k;have KS:=same_any z.rd (Rd.drewN HD.out nd);obtain⟨va,vc,ev⟩:=z.rd.form;simp only at ev KS PR;have z0:(w.drewN nd).cell? ⟨b,off+r*4,none⟩=some (.bool si):=z.c0;have z2:(w.drewN nd).cell? ⟨b,off+r*4+2,none⟩=some (.int .i64 se):=z.c2;have z3:(w.drewN nd).cell? ⟨b,off+r*4+3,none⟩=some vs:=z.c3;have y0:w.cell? ⟨b,off+r*4,none⟩=some (.bool si):=z.c0;have y2:w.cell? ⟨b,off+r*4+2,none⟩=some (.int .i64 se):=z.c2;rw[ev]at z3 KS;obtain⟨sb,hsb⟩:∃sb,Hid (sb=sameB sd d):=⟨_,rfl⟩;rw[<-hsb.out]at KS;have PS:Hid (p r=(si&&(se==e)&&sb)):=by
    show _=_
    rw[PR.out,hsb.out];unfold isV sameB;rw[show(sd==d)=decide (sd=d) by rw[Bool.eq_iff_iff];simp]
   clear z PR ev hsb
   go_wp2_with fail
   refine KS.mono ?_
   rintro _ w1 ⟨rfl,n1,rfl⟩;clear KS z0 z2 z3;cases si with
   |false=>
    have CN:Hid (cnt p (r+1)=cnt p r):=cnt_not (by rw[PS.out];rfl);clear PS;exact co_no
   |true=>
    by_cases qe:se=e
    ·subst qe;cases sb with
     |false=>
      have CN:Hid (cnt p (r+1)=cnt p r):=cnt_not (by rw[PS.out];simp);clear PS;exact co_no
     |true=>
      have CN:Hid (cnt p (r+1)=cnt p r+1):=cnt_yes (by rw[PS.out];simp);clear PS;go_wp2;go_roundw
      case rel=>exact⟨r+1,_,Zo,Zg,by rw[CN.out];go_num,rfl⟩
      case measure=>simp[intOf];omega
    ·have qe':(se==e)=false:=Zq.2 qe;have CN:Hid (cnt p (r+1)=cnt p r):=cnt_not (by rw[PS.out,qe'];simp);clear PS;exact co_no
  ·obtain rfl:r=L.length:=by omega
   have hge:¬(L.length:Int)<(L.length:Int):=Zo
   clear h HD;go_wp2;go_ret;exact⟨rfl,_,rfl⟩
def OneV(L:List SaV)(vd:Value):Prop:=vd= .slice none 0 0∨∃c,c∈L/\vd=c.vs
def Votes17(w:World)(L:List SaV)(v:VoS)(e:Ending)(w':World):Prop:=∃vd,e= .returned (aggV v vd)/\Rd w vd v.da/\OneV L vd/\Below w.heap.size w w'
theorem votV_is{S:List SaS}{K:List Bool}{r:Nat}(hi:(sF S r).is=false):votV S K (r+1)={votV S K r with wi:=wiF S K (r+1)}:=by
 rw[votV,if_neg fun k=>by rw[hi]at k;exact absurd k.1 Zd]
theorem votV_no{S:List SaS}{K:List Bool}{r:Nat}(hb:betV (votV S K r) (sF S r).ep (sF S r).da (cpV S (sF S r).ep (sF S r).da)=false):votV S K (r+1)={votV S K r with wi:=wiF S K (r+1)}:=by
 rw[votV,if_neg fun k=>by rw[hb]at k;exact absurd k.2 Zd]
theorem votV_yes{S:List SaS}{K:List Bool}{r:Nat}(hi:(sF S r).is=true)(hb:betV (votV S K r) (sF S r).ep (sF S r).da (cpV S (sF S r).ep (sF S r).da)=true):votV S K (r+1)=⟨true,(sF S r).ep,(sF S r).da,cpV S (sF S r).ep (sF S r).da,wiF S K (r+1)⟩:=by
 rw[votV,if_pos ⟨hi,hb⟩]
structure SeeV(w1:World)(g b o:Nat)(W:World)(V:VoS)(vd:Value)(c:SaV):Prop where
 bx:BoxV w1 g W V vd
 z0:W.cell? ⟨b,o,none⟩=some (.bool c.s.is)
 z1:W.cell? ⟨b,o+1,none⟩=some (.bool c.s.no)
 z2:W.cell? ⟨b,o+2,none⟩=some (.int .i64 c.s.ep)
 z3:W.cell? ⟨b,o+3,none⟩=some c.vs
theorem SeeV.drewN{w1:World}{g b o:Nat}{W:World}{V:VoS}{vd:Value}{c:SaV}(h:SeeV w1 g b o W V vd c)(n:Nat):SeeV w1 g b o (W.drewN n) V vd c:=⟨h.bx.drewN n,h.z0,h.z1,h.z2,h.z3⟩
theorem SeeV.set{w1:World}{g b o:Nat}{W:World}{V V':VoS}{vd vd':Value}{c:SaV}{j:Nat}{x:Value}(h:SeeV w1 g b o W V vd c)(hb:b≠g)(k:BoxV w1 g (W.setCell ⟨g,j,none⟩ x) V' vd'):SeeV w1 g b o (W.setCell ⟨g,j,none⟩ x) V' vd' c:=by
 have o1:Only g W (W.setCell ⟨g,j,none⟩ x):=(Only.refl _ _).setCell _ _;exact⟨k,(o1.cell (p:=⟨b,o,none⟩) hb).trans h.z0,(o1.cell (p:=⟨b,o+1,none⟩) hb).trans h.z1,(o1.cell (p:=⟨b,o+2,none⟩) hb).trans h.z2,(o1.cell (p:=⟨b,o+3,none⟩) hb).trans h.z3⟩
theorem vt_keep{p:Prop} (h:p:=by
 go_wp2;go_roundw
 case rel=>exact⟨r+1,_,Zo,Zg,BE.out,RE.out,OV⟩
 case measure=>simp[intOf];omega):p:=h
theorem vt_put{p:Prop} (h:p:=by
 have BP:Hid (BoxV w1 g ((((Wd.setCell ⟨g,0,none⟩ (.bool true)).setCell ⟨g,1,none⟩ (.int .i64 se)).setCell ⟨g,2,none⟩ (.slice va sd.length vc)).setCell ⟨g,3,none⟩ (.int .i64 ((n:Nat):Int))) (votV S K (r+1)) (.slice va sd.length vc)):=by show BoxV _ _ _ _ _;rw[EY.out];exact ST.bx.put se (.slice va sd.length vc) n sd
 have RP:Hid (Rd w (.slice va sd.length vc) (votV S K (r+1)).da):=by show Rd _ _ _;rw[EY.out];exact Rv.out
 have f0:=fz 0;have f1:=fz 1;have f2:=fz 2;have f3:=fz 3;clear ST WI CP XS XV NO YF HR Rv EY fz;go_wp2;go_roundw
 case rel=>exact⟨r+1,_,Zo,Zg,BP.out,RP.out,ON⟩
 case measure=>simp[intOf];omega):p:=h
theorem vt_stay{p:Prop} (h:p:=by
 have BE:Hid (BoxV w1 g Wd (votV S K (r+1)) (.slice da vda.length dc)):=by show BoxV _ _ _ _ _;rw[EN.out];exact ST.bx
 have RE:Hid (Rd w (.slice da vda.length dc) (votV S K (r+1)).da):=by show Rd _ _ _;rw[EN.out];exact HR.out
 clear ST WI CP XS XV NO YF HR Rv EN;exact vt_keep):p:=h
theorem z26_1{p:Prop} (h:p:=by
 go_wp2_with fail
 go_quiet (fail)
 clear c0 c1 c2 c3 c4 fz on z0 z1 z2 z3;replace ST:=ST.drewN nq;generalize Wd.drewN nq=Wx at ST;clear nq;obtain⟨Wd,hWd⟩:∃X,X=Wx:=⟨_,rfl⟩;subst hWd;obtain⟨⟨c0,c1,c2,c3,c4,fz,on⟩,z0,z1,z2,z3⟩:=id ST;simp only at c0 c1 c2 c3 c4 z0 z1 z2 z3;exact vt_stay
 ):p:=h
theorem z26_2{p:Prop} (h:p:=by
 go_wp2_with fail
 go_quiet (fail)
 clear c0 c1 c2 c3 c4 fz on z0 z1 z2 z3;replace ST:=ST.drewN nq;generalize Wd.drewN nq=Wx at ST;clear nq;obtain⟨Wd,hWd⟩:∃X,X=Wx:=⟨_,rfl⟩;subst hWd;obtain⟨⟨c0,c1,c2,c3,c4,fz,on⟩,z0,z1,z2,z3⟩:=id ST;simp only at c0 c1 c2 c3 c4 z0 z1 z2 z3;exact vt_put
 ):p:=h
theorem vt_tail{p:Prop} (h:p:=by
 have KC:=CP.out Wc ST.bx.on;obtain⟨⟨c0,c1,c2,c3,c4,fz,on⟩,z0,z1,z2,z3⟩:=id ST;simp only at c0 c1 c2 c3 c4 z0 z1 z2 z3
 try go_wp2_with fail
 go_quiet ((go_at_call 176;go_loud (exact Calls.quiet_of (KC _))))
 clear KC c0 c1 c2 c3 c4 fz on z0 z1 z2 z3;replace ST:=ST.drewN nq;generalize Wc.drewN nq=Wd at ST;obtain⟨⟨c0,c1,c2,c3,c4,fz,on⟩,z0,z1,z2,z3⟩:=id ST;simp only at c0 c1 c2 c3 c4 z0 z1 z2 z3;cases vh with
 |false=>
  have EY:Hid (votV S K (r+1)=⟨true,se,sd,n,vx⟩):=YF.out vx (bet_no rfl _ _ _) W1.out
  go_wp2_with fail
  go_quiet (fail)
  clear c0 c1 c2 c3 c4 fz on z0 z1 z2 z3;replace ST:=ST.drewN nq;generalize Wd.drewN nq=Wx at ST;clear nq;obtain⟨Wd,hWd⟩:∃X,X=Wx:=⟨_,rfl⟩;subst hWd;obtain⟨⟨c0,c1,c2,c3,c4,fz,on⟩,z0,z1,z2,z3⟩:=id ST;simp only at c0 c1 c2 c3 c4 z0 z1 z2 z3
  go_wp2_with fail
  go_quiet (fail)
  clear c0 c1 c2 c3 c4 fz on z0 z1 z2 z3;replace ST:=ST.drewN nq;generalize Wd.drewN nq=Wx at ST;clear nq;obtain⟨Wd,hWd⟩:∃X,X=Wx:=⟨_,rfl⟩;subst hWd;obtain⟨⟨c0,c1,c2,c3,c4,fz,on⟩,z0,z1,z2,z3⟩:=id ST;simp only at c0 c1 c2 c3 c4 z0 z1 z2 z3;exact vt_put
 |true=>
  by_cases q1:ve<se
  ·have EY:Hid (votV S K (r+1)=⟨true,se,sd,n,vx⟩):=YF.out vx ((bet_gt rfl).2 (Or.inl q1)) W1.out;have d1:decide (se>ve)=true:=Zy q1;have d2:decide (ve<se)=true:=Zy q1;have d3:(se==ve)=false:=Zq.2 Zo;have d4:¬se=ve:=by omega
   go_wp2_with fail
   go_quiet (fail)
   clear c0 c1 c2 c3 c4 fz on z0 z1 z2 z3;replace ST:=ST.drewN nq;generalize Wd.drewN nq=Wx at ST;clear nq;obtain⟨Wd,hWd⟩:∃X,X=Wx:=⟨_,rfl⟩;subst hWd;obtain⟨⟨c0,c1,c2,c3,c4,fz,on⟩,z0,z1,z2,z3⟩:=id ST;simp only at c0 c1 c2 c3 c4 z0 z1 z2 z3;exact z26_2
  have d1:decide (se>ve)=false:=Zx q1;have d2:decide (ve<se)=false:=Zx q1
  by_cases q2:se=ve
  rotate_left
  ·have EN:Hid (votV S K (r+1)=⟨true,ve,vda,vco,vx⟩):=NO.out vx (by
    cases e:betV ⟨true,ve,vda,vco,vw⟩ se sd n with
    |false=>rfl
    |true=>
     rcases(bet_gt rfl).1 e with k|⟨k,_⟩
     ·exact absurd k q1
     ·exact absurd k q2) W1.out
   have d3:(se==ve)=false:=Zq.2 q2
   go_wp2_with fail
   go_quiet (fail)
   clear c0 c1 c2 c3 c4 fz on z0 z1 z2 z3;replace ST:=ST.drewN nq;generalize Wd.drewN nq=Wx at ST;clear nq;obtain⟨Wd,hWd⟩:∃X,X=Wx:=⟨_,rfl⟩;subst hWd;obtain⟨⟨c0,c1,c2,c3,c4,fz,on⟩,z0,z1,z2,z3⟩:=id ST;simp only at c0 c1 c2 c3 c4 z0 z1 z2 z3;exact z26_1
  subst q2;have BG:Hid (betV ⟨true,se,vda,vco,vw⟩ se sd n=true↔(vco<n∨(n=vco/\Op.bytesLess sd vda=true))):=by
   refine(bet_gt rfl).trans ⟨fun k=>?_,fun k=>Or.inr ⟨rfl,k⟩⟩
   rcases k with k|⟨_,k⟩
   ·exact absurd k q1
   ·exact k
  go_wp2_with fail
  go_quiet (fail)
  clear c0 c1 c2 c3 c4 fz on z0 z1 z2 z3;replace ST:=ST.drewN nq;generalize Wd.drewN nq=Wx at ST;clear nq;obtain⟨Wd,hWd⟩:∃X,X=Wx:=⟨_,rfl⟩;subst hWd;obtain⟨⟨c0,c1,c2,c3,c4,fz,on⟩,z0,z1,z2,z3⟩:=id ST;simp only at c0 c1 c2 c3 c4 z0 z1 z2 z3
  go_wp2_with fail
  go_quiet (fail)
  clear c0 c1 c2 c3 c4 fz on z0 z1 z2 z3;replace ST:=ST.drewN nq;generalize Wd.drewN nq=Wx at ST;clear nq;obtain⟨Wd,hWd⟩:∃X,X=Wx:=⟨_,rfl⟩;subst hWd;obtain⟨⟨c0,c1,c2,c3,c4,fz,on⟩,z0,z1,z2,z3⟩:=id ST;simp only at c0 c1 c2 c3 c4 z0 z1 z2 z3
  by_cases q3:vco<n
  ·have EY:Hid (votV S K (r+1)=⟨true,se,sd,n,vx⟩):=YF.out vx (BG.out.2 (Or.inl q3)) W1.out;have d3:decide ((n:Int)>(vco:Int))=true:=Zy Zo;have d4:decide ((vco:Int)<(n:Int))=true:=Zy Zo;have d5:(vco:Int)<(n:Int):=by omega
   clear BG;exact z26_2
  have d3:decide ((n:Int)>(vco:Int))=false:=Zx Zo;have d4:decide ((vco:Int)<(n:Int))=false:=Zx Zo
  by_cases q4:n=vco
  rotate_left
  ·have EN:Hid (votV S K (r+1)=⟨true,se,vda,vco,vx⟩):=NO.out vx (by
    cases e:betV ⟨true,se,vda,vco,vw⟩ se sd n with
    |false=>rfl
    |true=>
     rcases BG.out.1 e with k|⟨k,_⟩
     ·exact absurd k q3
     ·exact absurd k q4) W1.out
   have d5:((n:Int)==(vco:Int))=false:=Zq.2 Zo;have d6:(n==vco)=false:=Zq.2 q4;clear BG;exact z26_1
  subst q4;have E1:=XS.out Wd ST.bx.on;have E2:=XV.out Wd ST.bx.on;cases hless:Op.bytesLess sd vda with
  |true=>
   have EY:Hid (votV S K (r+1)=⟨true,se,sd,n,vx⟩):=YF.out vx (BG.out.2 (Or.inr ⟨rfl,hless⟩)) W1.out;clear BG
   go_wp2_with fail
   go_quiet (fail)
   clear c0 c1 c2 c3 c4 fz on z0 z1 z2 z3;replace ST:=ST.drewN nq;generalize Wd.drewN nq=Wx at ST;clear nq;obtain⟨Wd,hWd⟩:∃X,X=Wx:=⟨_,rfl⟩;subst hWd;obtain⟨⟨c0,c1,c2,c3,c4,fz,on⟩,z0,z1,z2,z3⟩:=id ST;simp only at c0 c1 c2 c3 c4 z0 z1 z2 z3;clear E1 E2;exact vt_put
  |false=>
   have EN:Hid (votV S K (r+1)=⟨true,se,vda,n,vx⟩):=NO.out vx (by
    cases e:betV ⟨true,se,vda,n,vw⟩ se sd n with
    |false=>rfl
    |true=>
     rcases BG.out.1 e with k|⟨_,k⟩
     ·exact absurd k q3
     ·rw[hless]at k;cases k) W1.out
   clear BG
   go_wp2_with fail
   go_quiet (fail)
   clear c0 c1 c2 c3 c4 fz on z0 z1 z2 z3;replace ST:=ST.drewN nq;generalize Wd.drewN nq=Wx at ST;clear nq;obtain⟨Wd,hWd⟩:∃X,X=Wx:=⟨_,rfl⟩;subst hWd;obtain⟨⟨c0,c1,c2,c3,c4,fz,on⟩,z0,z1,z2,z3⟩:=id ST;simp only at c0 c1 c2 c3 c4 z0 z1 z2 z3;clear E1 E2;exact vt_stay):p:=h
theorem rvote17_any{w:World}{v u:Value}{L:List SaV}{K:List Bool}(h:RdSa w v L)(hl:L.length<=1000000)(hk:RdB w u K):Calls Tryz.prog 142 #[v,u] w (Votes17 w L (votS (sL L) K)):=by
 obtain⟨a,c,ev⟩:=h.form;subst ev;obtain⟨ua,uc,eu⟩:=hk.form;subst eu;obtain⟨w0,hw0⟩:∃w0,w0=w.alloc (.cells #[.bool false,.int .i64 0,.slice none 0 0,.int .i64 0,.bool false] 130):=⟨_,rfl⟩;obtain⟨g,hg⟩:∃g,Hid (g=w.heap.size+1):=⟨_,rfl⟩;obtain⟨w1,hw1⟩:∃w1,w1=w0.alloc (.cells #[.bool false,.int .i64 0,.slice none 0 0,.int .i64 0,.bool false] 130):=⟨_,rfl⟩;have s0:w0.heap.size=w.heap.size+1:=by rw[hw0];simp
 have BX:BoxV w1 g w1 noV (.slice none 0 0):=by rw[hw1];exact BoxV.made w0 (by rw[hg.out,s0])
 have b0:Below w.heap.size w w0:=by rw[hw0];exact belR _ _
 have b1:Below w0.heap.size w0 w1:=by rw[hw1];exact belR _ _
 have B1:Below w.heap.size w w1:=b0.step16 b1 b0.size;have HB:Hid (∀W,Only g w1 W->Below w.heap.size w W):=fun W o=>B1.trans (o.below (by rw[hg.out];omega))
 have CR:Hid (∀W,Only g w1 W->(∀j,W.cell? ⟨w.heap.size,j,none⟩= #[Value.bool false,.int .i64 0,.slice none 0 0,.int .i64 0,.bool false][j]?/\W.frozen? ⟨w.heap.size,j,none⟩=false)):=fun W o j=>by
  have ne:w.heap.size≠g:=by rw[hg.out];omega
  have lt:w.heap.size<w0.heap.size:=by rw[s0];omega
  refine⟨(o.cell (p:=⟨w.heap.size,j,none⟩) ne).trans ((b1.cell (p:=⟨w.heap.size,j,none⟩) lt).trans ?_),(o.frozen (p:=⟨w.heap.size,j,none⟩) ne).trans ((b1.frozen (p:=⟨w.heap.size,j,none⟩) lt).trans ?_)⟩
  ·rw[hw0];exact World.cell?_alloc_new _ _ _ _
  ·rw[hw0];simp[go_sem]
 obtain⟨S,hS⟩:∃S,Hid (S=sL L):=⟨_,rfl⟩;have lS:Hid (S.length=L.length):=by rw[hS.out];exact sL_length L
 rw[<-hS.out];clear b0 b1 s0
 go_enter Tryz.func142,Tryz.ntmps142
 go_wp2_with fail
 rw[<-hw0,<-hw1,<-hg.out];clear hw0 hw1
 go_loopw [6] (fun i wr=>∃(r:Nat) (vd:Value),r<=L.length/\i= .int .i64 (r:Int)/\BoxV w1 g wr (votV S K r) vd/\Rd w vd (votV S K r).da/\Hid (OneV L vd)) (fun i _=>L.length-(intOf i).toNat)
 case atStart=>exact⟨0,_,Zz,rfl,BX,Or.inl ⟨none,0,rfl,rfl,Zl,fun _=>rfl⟩,Or.inl rfl⟩
 case round=>
  clear BX;obtain⟨r,vd,hr,rfl,hX,hR,OV⟩:=hrel
  by_cases hlt:r<L.length
  ·have hlt':(r:Int)<(L.length:Int):=by omega
   obtain⟨b,off,rfl,lb,z⟩:=h.at hlt;have ES:Hid (sF S r=(L.getD r default).s):=by show _=_;rw[hS.out];exact sL_at L r
   have nb:b≠g:=by rw[hg.out];omega
   have BW:=HB.out wr hX.on;have ON:Hid (OneV L (L.getD r default).vs):=Or.inr ⟨_,(by rw[List.getD_eq_getElem?_getD,List.getElem?_eq_getElem hlt];exact List.getElem_mem hlt),rfl⟩;generalize L.getD r default=k at z ES ON;have ST:SeeV w1 g b (off+r*4) wr (votV S K r) vd k:=by
    have e:∀j,wr.cell? ⟨b,j,none⟩=w.cell? ⟨b,j,none⟩:=fun j=>BW.cell (p:=⟨b,j,none⟩) lb
    exact⟨hX,(e _).trans z.c0,(e _).trans z.c1,(e _).trans z.c2,(e _).trans z.c3⟩
   have Rv:Hid (Rd w k.vs k.s.da):=z.rd;have RL:Hid (RdSa w (.slice (some ⟨b,off,none⟩) L.length c) L):=h;have HR:Hid (Rd w vd (votV S K r).da):=hR;have WI:Hid (wiF S K (r+1)=((votV S K r).wi||(hb K r&&(k.s.is||k.s.no)))):=by
    show _=_
    rw[vot_wi,wiF,ES.out]
   have SN:Hid (S.length=L.length):=lS;obtain⟨⟨si,sn,se,sd⟩,vs⟩:=k;obtain⟨va,vc,ev⟩:=Rv.out.form;simp only at ev ES WI Rv ON;subst ev;obtain⟨da,dc,ed⟩:=HR.out.form;obtain⟨V,hV⟩:∃V,Hid (V=votV S K r):=⟨_,rfl⟩;rw[<-hV.out]at ST HR WI ed;obtain⟨vh,ve,vda,vco,vw⟩:=V;simp only at HR WI ed;subst ed;have CP:Hid (∀W,Only g w1 W->∀m,Calls Tryz.prog 176 #[.slice (some ⟨b,off,none⟩) L.length c,.int .i64 se,.slice va sd.length vc] (W.drewN m) fun x w'=>x= .returned (.int .i64 ((cpV S se sd:Nat):Int))/\∃n,w'=(W.drewN m).drewN n):=fun W o m=>by
    rw[hS.out];exact rcopies17_any ((RL.out.below (HB.out W o)).drewN m) hl ((Rv.out.below (HB.out W o)).drewN m)
   obtain⟨n,hn⟩:∃n,Hid (n=cpV S se sd):=⟨_,rfl⟩;rw[<-hn.out]at CP;have XS:Hid (∀W,Only g w1 W->∀m,(convert 42 9 (.slice va sd.length vc)).run Tryz.prog (W.drewN m)= .ok (.string ⟨sd.toArray⟩) (W.drewN m)):=fun W o m=>conv_str16 ((Rv.out.below (HB.out W o)).drewN m)
   have XV:Hid (∀W,Only g w1 W->∀m,(convert 42 9 (.slice da vda.length dc)).run Tryz.prog (W.drewN m)= .ok (.string ⟨vda.toArray⟩) (W.drewN m)):=fun W o m=>conv_str16 ((HR.out.below (HB.out W o)).drewN m)
   have NE:Hid (∀x,si=false->wiF S K (r+1)=x->votV S K (r+1)=⟨vh,ve,vda,vco,x⟩):=fun x q e=>by rw[votV_is (by rw[ES.out];exact q),<-hV.out,e]
   have NO:Hid (∀x,betV ⟨vh,ve,vda,vco,vw⟩ se sd n=false->wiF S K (r+1)=x->votV S K (r+1)=⟨vh,ve,vda,vco,x⟩):=fun x q e=>by
    rw[votV_no (by rw[ES.out,<-hV.out,<-hn.out];exact q),<-hV.out,e]
   have YE:Hid (∀x,si=true->betV ⟨vh,ve,vda,vco,vw⟩ se sd n=true->wiF S K (r+1)=x->votV S K (r+1)=⟨true,se,sd,n,x⟩):=fun x q0 q e=>by
    rw[votV_yes (by rw[ES.out];exact q0) (by rw[ES.out,<-hV.out,<-hn.out];exact q),ES.out,<-hn.out,e]
   clear hV z hR hX ES RL hn h
   by_cases hK:r<K.length
   rotate_left
   ·have hK1:¬(r:Int)<(K.length:Int):=by omega
    have hK2:decide ((r:Int)<(K.length:Int))=false:=Zx hK1;have W1:Hid (wiF S K (r+1)=vw):=by show _=_;rw[WI.out,hb_ge Zo];simp
    obtain⟨⟨c0,c1,c2,c3,c4,fz,on⟩,z0,z1,z2,z3⟩:=id ST;simp only at c0 c1 c2 c3 c4 z0 z1 z2 z3;cases si with
    |false=>
     have BE:Hid (BoxV w1 g wr (votV S K (r+1)) (.slice da vda.length dc)):=by show BoxV _ _ _ _ _;rw[NE.out vw rfl W1.out];exact ST.bx
     have RE:Hid (Rd w (.slice da vda.length dc) (votV S K (r+1)).da):=by show Rd _ _ _;rw[NE.out vw rfl W1.out];exact HR.out
     clear ST WI CP XS XV NE NO YE HR Rv;exact vt_keep
    |true=>
     obtain⟨Wc,hWc⟩:∃Wc,Wc=wr:=⟨_,rfl⟩;subst hWc;obtain⟨vx,hvx⟩:∃vx,vx=vw:=⟨_,rfl⟩;rw[<-hvx]at W1 ST;clear c0 c1 c2 c3 c4 fz on z0 z1 z2 z3 hvx;have YF:Hid (∀x,betV ⟨vh,ve,vda,vco,vw⟩ se sd n=true->wiF S K (r+1)=x->votV S K (r+1)=⟨true,se,sd,n,x⟩):=fun x=>YE.out x rfl
     clear YE NE;exact vt_tail
   obtain⟨kb,ko,rfl,lk,kc⟩:=hk.at hK;have hK1:(r:Int)<(K.length:Int):=Zo
   have hK2:decide ((r:Int)<(K.length:Int))=true:=Zy hK1;have kc':wr.cell? ⟨kb,ko+r,none⟩=some (.bool (hb K r)):=(BW.cell (p:=⟨kb,ko+r,none⟩) lk).trans kc;obtain⟨x,hx⟩:∃x,Hid (x=hb K r):=⟨_,rfl⟩;rw[<-hx.out]at kc' WI;obtain⟨⟨c0,c1,c2,c3,c4,fz,on⟩,z0,z1,z2,z3⟩:=id ST;simp only at c0 c1 c2 c3 c4 z0 z1 z2 z3;clear kc hx;cases x with
   |false=>
    have W1:Hid (wiF S K (r+1)=vw):=by show _=_;rw[WI.out];simp
    cases si with
    |false=>
     have BE:Hid (BoxV w1 g wr (votV S K (r+1)) (.slice da vda.length dc)):=by show BoxV _ _ _ _ _;rw[NE.out vw rfl W1.out];exact ST.bx
     have RE:Hid (Rd w (.slice da vda.length dc) (votV S K (r+1)).da):=by show Rd _ _ _;rw[NE.out vw rfl W1.out];exact HR.out
     clear ST WI CP XS XV NE NO YE HR Rv;exact vt_keep
    |true=>
     obtain⟨Wc,hWc⟩:∃Wc,Wc=wr:=⟨_,rfl⟩;subst hWc;obtain⟨vx,hvx⟩:∃vx,vx=vw:=⟨_,rfl⟩;rw[<-hvx]at W1 ST;clear c0 c1 c2 c3 c4 fz on z0 z1 z2 z3 hvx;have YF:Hid (∀x,betV ⟨vh,ve,vda,vco,vw⟩ se sd n=true->wiF S K (r+1)=x->votV S K (r+1)=⟨true,se,sd,n,x⟩):=fun x=>YE.out x rfl
     clear YE NE;exact vt_tail
   |true=>
    have f4:=fz 4;have hg1:¬g=b:=fun q=>nb q.symm
    cases si with
    |false=>
     cases sn with
     |false=>
      have W1:Hid (wiF S K (r+1)=vw):=by show _=_;rw[WI.out];simp
      have BE:Hid (BoxV w1 g wr (votV S K (r+1)) (.slice da vda.length dc)):=by show BoxV _ _ _ _ _;rw[NE.out vw rfl W1.out];exact ST.bx
      have RE:Hid (Rd w (.slice da vda.length dc) (votV S K (r+1)).da):=by show Rd _ _ _;rw[NE.out vw rfl W1.out];exact HR.out
      clear ST WI CP XS XV NE NO YE HR Rv;exact vt_keep
     |true=>
      have W1:Hid (wiF S K (r+1)=true):=by show _=_;rw[WI.out];simp
      have BE:Hid (BoxV w1 g (wr.setCell ⟨g,4,none⟩ (.bool true)) (votV S K (r+1)) (.slice da vda.length dc)):=by show BoxV _ _ _ _ _;rw[NE.out true rfl W1.out];exact ST.bx.wi true
      have RE:Hid (Rd w (.slice da vda.length dc) (votV S K (r+1)).da):=by show Rd _ _ _;rw[NE.out true rfl W1.out];exact HR.out
      clear ST WI CP XS XV NE NO YE HR Rv;exact vt_keep
    |true=>
     have W1:Hid (wiF S K (r+1)=true):=by show _=_;rw[WI.out];simp
     have YF:Hid (∀x,betV ⟨vh,ve,vda,vco,vw⟩ se sd n=true->wiF S K (r+1)=x->votV S K (r+1)=⟨true,se,sd,n,x⟩):=fun x=>YE.out x rfl
     clear YE NE;replace ST:=ST.set nb (ST.bx.wi true)
     go_wp2_with fail
     obtain⟨Wc,hWc⟩:∃Wc,Wc=wr.setCell ⟨g,4,none⟩ (.bool true):=⟨_,rfl⟩;rw[<-hWc]at ST ⊢;obtain⟨vx,hvx⟩:∃vx,vx=true:=⟨_,rfl⟩;rw[<-hvx]at W1;have ST:SeeV w1 g b (off+r*4) Wc ⟨vh,ve,vda,vco,vx⟩ (.slice da vda.length dc) ⟨⟨true,sn,se,sd⟩,.slice va sd.length vc⟩:=by rw[hvx];exact ST
     clear c0 c1 c2 c3 c4 fz on z0 z1 z2 z3 hvx hWc;exact vt_tail
  ·obtain rfl:r=L.length:=by omega
   have hge:¬(L.length:Int)<(L.length:Int):=Zo
   have EV:votV S K L.length=votS S K:=by unfold votS;rw[lS.out]
   rw[EV]at hX hR;have FV:Hid (Rd w vd (votS S K).da):=hR;obtain⟨va,vc,ev⟩:=hR.form;obtain⟨V,hV⟩:∃V,V=votS S K:=⟨_,rfl⟩;rw[<-hV]at hX FV;obtain⟨vh,ve,vda,vco,vw⟩:=V;simp only[<-hV]at ev;subst ev;obtain⟨c0,c1,c2,c3,c4,fz,on⟩:=hX;simp only at c0 c1 c2 c3 c4;have kA:=CR.out wr on;obtain⟨m0,f0⟩:=kA 0;obtain⟨m1,f1⟩:=kA 1;obtain⟨m2,f2⟩:=kA 2;obtain⟨m3,f3⟩:=kA 3;obtain⟨m4,f4⟩:=kA 4;simp at m0 m1 m2 m3 m4;obtain⟨W,hW⟩:∃W,W=((((wr.setCell ⟨w.heap.size,0,none⟩ (.bool vh)).setCell ⟨w.heap.size,1,none⟩ (.int .i64 ve)).setCell ⟨w.heap.size,2,none⟩ (.slice va vda.length vc)).setCell ⟨w.heap.size,3,none⟩ (.int .i64 ((vco:Nat):Int))).setCell ⟨w.heap.size,4,none⟩ (.bool vw):=⟨_,rfl⟩;obtain⟨OA,n0,n1,n2,n3,n4⟩:=set5 m0 m1 m2 m3 m4 hW;have FIN:Hid (Votes17 w L (votS S K) (.returned (.agg #[.bool vh,.int .i64 ve,.slice va vda.length vc,.int .i64 ((vco:Nat):Int),.bool vw])) W):=by show Votes17 _ _ _ _ _;rw[<-hV];exact⟨_,rfl,FV.out,OV.out,(HB.out wr on).trans (OA.below Zr)⟩
   clear OA kA hk h FV hV EV on fz;go_wp2;rw[<-hW];clear hW;exact bodyPost_ret (v:=.agg #[.bool vh,.int .i64 ve,.slice va vda.length vc,.int .i64 ((vco:Nat):Int),.bool vw]) (by simp[results,Tryz.results142,go_sem,n0,n1,n2,n3,n4]) rfl FIN.out
theorem RaAt.lt17{w:World}{rb:Nat}{HR GA:Nat->Prop}{a:ArS}(h:RaAt w rb HR GA a):∀k,HR k->k<w.heap.size:=by
 obtain⟨_,_,_,_,_,hI⟩:=h;exact hI.1.lt
theorem RaAt.ok17{w:World}{rb:Nat}{HR GA:Nat->Prop}{a:ArS}(h:RaAt w rb HR GA a):a.Ok:=by
 obtain⟨_,_,_,_,_,hI⟩:=h;exact hI.2
theorem RaAt.len17{w:World}{rb:Nat}{HR GA:Nat->Prop}{a:ArS}(h:RaAt w rb HR GA a):∃xb cx,w.cell? ⟨rb,0,none⟩=some (.slice (some ⟨xb,0,none⟩) a.D.length cx):=by
 obtain⟨xb,_,cx,_,_,hI⟩:=h;exact⟨xb,cx,hI.1.c0⟩
theorem wrAS_off{a:ArS}{i ad:Int}{b:List UInt8}(h:wrAX a i ad b=130):wrAS a i ad b=a:=if_pos (wrAX_crash.1 h)
section
variable {a:ArS} {ad:Int} {b:List UInt8} {tO:Nat->Bool}
theorem pu_no{r:Nat}(h:tO r=false):puV a ad b tO (r+1)=puV a ad b tO r:=by
 rw[puV]
 split
 ·rfl
 ·rw[if_neg (by rw[h];decide)]
theorem pu_cr{r n:Nat}(hc:(puV a ad b tO r).cr=false)(h:tO r=true)(hx:wrAX (puV a ad b tO r).st (r:Int) ad b=130)(hr:r<n):puV a ad b tO n=⟨true,(puV a ad b tO r).n,(puV a ad b tO r).st⟩:=by
 have e:puV a ad b tO (r+1)=⟨true,(puV a ad b tO r).n,(puV a ad b tO r).st⟩:=by
  rw[puV,if_neg (by rw[hc];decide),if_pos h,if_pos hx]
 obtain⟨k,rfl⟩:=Nat.exists_eq_add_of_lt hr;have:=puV_stop (a:=a) (ad:=ad) (b:=b) (tO:=tO) (r:=r+1) (by rw[e]) k;rw[show r+k+1=r+1+k by omega,this,e]
theorem pu_go{r:Nat}(hc:(puV a ad b tO r).cr=false)(h:tO r=true)(hx:¬wrAX (puV a ad b tO r).st (r:Int) ad b=130):puV a ad b tO (r+1)=⟨false,(puV a ad b tO r).n+(if wrAX (puV a ad b tO r).st (r:Int) ad b=0 then 1 else 0),wrAS (puV a ad b tO r).st (r:Int) ad b⟩:=by
 rw[puV,if_neg (by rw[hc];decide),if_pos h,if_neg hx]
end
theorem pt_next{p:Prop} (h:p:=by
 go_wp2;go_roundw
 case rel=>exact⟨r+1,Zo,Zg,by rw[EN.out],RA.out,TN,CN⟩
 case measure=>simp[intOf];omega):p:=h
theorem rput17_any{w:World}{rb:Nat}{HR GA:Nat->Prop}{a:ArS}(h:RaAt w rb HR GA a){ad ep:Int}{v:Value}{p:List UInt8}(hp:Rd w v p)(hpl:p.length<=100000){tv:Value}{T:List Bool}(hT:∀W,TurnG HR w W->RdB W tv T)(hl:a.D.length<=T.length):
  Calls Tryz.prog 174 #[.pointer (some ⟨rb,0,none⟩),.int .i64 ad,.int .i64 ep,v,tv] w (LeavesRA w rb HR GA (ppP a ad ep p (hb T)).st (.tuple #[.int .i64 (puN (ppP a ad ep p (hb T))),.int .i64 (ppX a ad ep p (hb T))])):=by
 have KP:=rpack_far (a:=ad) (e:=ep) hp hpl;obtain⟨va,vc,ev⟩:=hp.form;subst ev;obtain⟨ta,tc,et⟩:=(hT w (TurnG.refl _ _)).form;subst et;have HT:Hid (∀W,TurnG HR w W->RdB W (.slice ta T.length tc) T):=hT;have HA:Hid (RaAt w rb HR GA a):=h;have d2:=h.ok17.d2;have HL:Hid (∀k,HR k->k<w.heap.size):=h.lt17
 by_cases ho:OkSe ad ep p.length
 rotate_left
 ·have e1:ppP a ad ep p (hb T)=⟨false,0,a⟩:=if_neg ho;have e2:ppX a ad ep p (hb T)=1:=if_neg ho;rw[e1,e2];rw[(pa_not ho).1,(pa_not ho).2]at KP
  show Calls Tryz.prog 174 _ w (LeavesRA w rb HR GA a (.tuple #[.int .i64 0,.int .i64 1]))
  clear hT h e1 e2 hp
  go_enter Tryz.func174,Tryz.ntmps174
  go_wp2_with fail
  refine KP.mono ?_
  rintro _ w1 ⟨s,rfl,R1,F1,B1⟩;obtain⟨sa,sc,rfl⟩:=R1.form;clear KP R1 F1;go_wp2;exact bodyPost_ret (v:=.tuple #[.int .i64 0,.int .i64 1]) (by simp[results,Tryz.results174,go_sem]) rfl ⟨rfl,HA.out.below B1,Below.turnG B1 HR⟩
 rw[(pa_ok ho).1,(pa_ok ho).2]at KP;obtain⟨b,hb0⟩:∃b,Hid (b=pkS ad.toNat ep.toNat p):=⟨_,rfl⟩;obtain⟨n,hn⟩:∃n,Hid (n=a.D.length):=⟨_,rfl⟩;have e1:ppP a ad ep p (hb T)=puV a ad b (hb T) n:=by unfold ppP;rw[if_pos ho,<-hb0.out,<-hn.out]
 have e2:ppX a ad ep p (hb T)=puE (puV a ad b (hb T) n):=by unfold ppX;rw[if_pos ho,e1]
 rw[e1,e2];rw[<-hb0.out]at KP;rw[<-hn.out]at hl d2;have d1:1<=n:=by rw[hn.out];exact h.ok17.d1
 clear hT h e1 e2 hp ho hb0
 go_enter Tryz.func174,Tryz.ntmps174
 go_wp2_with fail
 refine KP.mono ?_
 rintro _ w1 ⟨s,rfl,R1,F1,B1⟩;clear KP;obtain⟨sa,sc,es⟩:=R1.form;have HS:Hid (∀W,TurnG HR w1 W->Rd W s b):=fun W t=>R1.turnG (F1.apart HL.out) t
 subst es;clear R1 F1
 go_wp2_with fail
 go_loopw [14,15] (fun cv i wr=>∃r:Nat,r<=n/\i= .int .i64 (r:Int)/\cv= .int .i64 (((puV a ad b (hb T) r).n:Nat):Int)/\RaAt wr rb HR GA (puV a ad b (hb T) r).st/\Hid (TurnG HR w1 wr)/\Hid ((puV a ad b (hb T) r).cr=false)) (fun _ i _=>n-(intOf i).toNat)
 case atStart=>exact⟨0,Zz,rfl,rfl,HA.out.below B1,TurnG.refl _ _,rfl⟩
 case round=>
  obtain⟨r,hr,rfl,rfl,hRA,hTu,hcr⟩:=hrel;have nl:(puV a ad b (hb T) r).n<=r:=puV_le r;obtain⟨xb,cx,c0⟩:=hRA.len17;rw[puV_len,<-hn.out]at c0;have TW:=(Below.turnG B1 HR).trans hTu.out
  by_cases hlt:r<n
  ·have hlt':(r:Int)<(n:Int):=by omega
   obtain⟨tb,tO,et,lt,tc0⟩:=(HT.out wr TW).at (i:=r) Zo;subst et;have rT:(r:Int)<(T.length:Int):=Zo
   have rT':r<T.length:=Zo
   obtain⟨x,hx⟩:∃x,Hid (x=hb T r):=⟨_,rfl⟩;rw[<-hx.out]at tc0;cases x with
   |false=>
    have E:=pu_no (a:=a) (ad:=ad) (b:=b) hx.out.symm;have EN:Hid ((puV a ad b (hb T) (r+1)).n=(puV a ad b (hb T) r).n):=by show _=_;rw[E]
    have RA:Hid (RaAt wr rb HR GA (puV a ad b (hb T) (r+1)).st):=by show RaAt _ _ _ _ _;rw[E];exact hRA
    have CN:Hid ((puV a ad b (hb T) (r+1)).cr=false):=by show _=_;rw[E];exact hcr.out
    have TN:=hTu;clear hRA TW E hcr;exact pt_next
   |true=>
    have KW:=rwriteA_any hRA (i:=(r:Int)) (ad:=ad) (HS.out wr hTu.out);obtain⟨f,hf⟩:∃f,Hid (f=wrAX (puV a ad b (hb T) r).st (r:Int) ad b):=⟨_,rfl⟩;rw[<-hf.out]at KW
    go_wp2_with fail
    refine KW.mono ?_
    rintro _ w3 ⟨rfl,R3,T3⟩;clear KW;have T13:=hTu.out.trans T3
    by_cases q1:f=130
    ·have q1':wrAX (puV a ad b (hb T) r).st (r:Int) ad b=130:=by rw[<-hf.out];exact q1
     have E:=pu_cr hcr.out hx.out.symm q1' hlt;have FIN:Hid (LeavesRA w rb HR GA (puV a ad b (hb T) n).st (.tuple #[.int .i64 (puN (puV a ad b (hb T) n)),.int .i64 (puE (puV a ad b (hb T) n))]) (.returned (.tuple #[.int .i64 0,.int .i64 130])) w3):=by
      show LeavesRA _ _ _ _ _ _ _ _
      rw[E];refine⟨rfl,?_,(Below.turnG B1 HR).trans T13⟩;rw[wrAS_off q1']at R3;exact R3
     subst q1;clear R3 T3 T13 hRA TW E hcr hf;go_wp2;exact bodyPost_ret (v:=.tuple #[.int .i64 0,.int .i64 130]) (by simp[results,Tryz.results174,go_sem]) rfl FIN.out
    ·have E:=pu_go (a:=a) (ad:=ad) (b:=b) hcr.out hx.out.symm (by rw[<-hf.out];exact q1);have RA:Hid (RaAt w3 rb HR GA (puV a ad b (hb T) (r+1)).st):=by show RaAt _ _ _ _ _;rw[E];exact R3
     have CN:Hid ((puV a ad b (hb T) (r+1)).cr=false):=by show _=_;rw[E]
     have TN:Hid (TurnG HR w1 w3):=T13;have q1':(f==130)=false:=Zq.2 q1
     by_cases q2:f=0
     ·have EN:Hid ((puV a ad b (hb T) (r+1)).n=(puV a ad b (hb T) r).n+1):=by show _=_;rw[E,<-hf.out,if_pos q2]
      subst q2;clear R3 T3 T13 hRA TW E hcr hf;go_wp2;go_roundw
      case rel=>exact⟨r+1,Zo,Zg,by rw[EN.out];go_num,RA.out,TN,CN⟩
      case measure=>simp[intOf];omega
     ·have EN:Hid ((puV a ad b (hb T) (r+1)).n=(puV a ad b (hb T) r).n):=by show _=_;rw[E,<-hf.out,if_neg q2];rfl
      have q2':(f==0)=false:=Zq.2 q2;clear R3 T3 T13 hRA TW E hcr hf;exact pt_next
  ·obtain rfl:r=n:=by omega
   have hge:¬(r:Int)<(r:Int):=Zo
   have FIN:Hid (LeavesRA w rb HR GA (puV a ad b (hb T) r).st (.tuple #[.int .i64 (puN (puV a ad b (hb T) r)),.int .i64 (puE (puV a ad b (hb T) r))]) (.returned (.tuple #[.int .i64 (((puV a ad b (hb T) r).n:Nat):Int),.int .i64 0])) wr):=by
    refine⟨?_,hRA,TW⟩;unfold puN puE;rw[hcr.out];rfl
   clear hRA TW hcr;go_wp2;exact bodyPost_ret (v:=.tuple #[.int .i64 (((puV a ad b (hb T) r).n:Nat):Int),.int .i64 0]) (by simp[results,Tryz.results174,go_sem]) rfl FIN.out
end Go.Proofs.YtclieefpnbdbjaaGreat.Gf
