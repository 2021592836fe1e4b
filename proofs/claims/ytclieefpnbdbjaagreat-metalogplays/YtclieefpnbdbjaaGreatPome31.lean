/- JOINED: MeRefA, MeRefB, MeRefK, MeRefO. -/
import Derived.Test.YtclieefpnbdbjaaGreatPome13
import Derived.Test.YtclieefpnbdbjaaGreatPome29
import Derived.Test.YtclieefpnbdbjaaGreatPome30
import Derived.Test.YtclieefpnbdbjaaGreatPome21
set_option maxHeartbeats 8000000
set_option maxRecDepth 100000
namespace Go.Proofs.YtclieefpnbdbjaaGreat.Gf
set_option linter.unusedVariables false
set_option linter.unusedSimpArgs false
open Go.RowKit
theorem rlabel18_any{w:World}:Calls Tryz.prog 85 #[] w fun e w'=>∃v,e= .returned v/\Rd w' v lbB/\FarV w v/\Below w.heap.size w w':=by
 have KP:=rpack_far (a:=0) (e:=0) (w:=w.alloc (.cells #[.int .u8 76] 5)) (rd_lit [76] rfl rfl Zd) Zd;rw[(pa_ok lb_ok).1,(pa_ok lb_ok).2]at KP;replace KP:Calls Tryz.prog 133 #[.int .i64 0,.int .i64 0,.slice (some ⟨w.heap.size,0,none⟩) 1 1] (w.alloc (.cells #[.int .u8 76] 5)) (MakesSF (w.alloc (.cells #[.int .u8 76] 5)) 0 lbB):=KP
 go_enter Tryz.func85,Tryz.ntmps85
 go_wp2_with fail
 refine KP.mono ?_
 rintro _ w1 ⟨v,rfl,R1,F1,B1⟩;have FIN:Hid (Rd w1 v lbB/\FarV w v/\Below w.heap.size w w1):=⟨R1,fun x n c e=>(F1 x n c e).imp id fun q=>by simp at q;omega,(belR _ _).step16 B1 Zs⟩;obtain⟨va,vc,ev⟩:=R1.form;subst ev;clear KP R1 F1 B1;go_wp2;exact bodyPost_ret (v:=.slice va lbB.length vc) (by simp[results,Tryz.results85,go_sem]) rfl ⟨_,rfl,FIN.out⟩
theorem rdI_cell{G:Nat->Prop}{w:World}{a:Option Addr}{n c:Nat}{l:List Int}(hd:∀W,TurnG G w W->RdI W (.slice a n c) l){r:Nat}(hr:r<l.length):∃b off,a=some ⟨b,off,none⟩/\∀W,TurnG G w W->W.cell? ⟨b,off+r,none⟩=some (.int .i64 (l.getD r 0)):=by
 obtain⟨b,off,rfl,_,_⟩:=(hd w (TurnG.refl _ _)).at hr;refine⟨b,off,rfl,fun W t=>?_⟩;obtain⟨b',off',e,_,h⟩:=(hd W t).at hr;simp at e;obtain⟨rfl,rfl⟩:=e;exact h
theorem rlabelA18_any{w:World}{rb:Nat}{HR GA:Nat->Prop}{a:ArS}(h:RaAt w rb HR GA a){dv:Value}{l:List Int}(hd:∀W,TurnG HR w W->RdI W dv l)(hl:l.length<=1000000):
  Calls Tryz.prog 35 #[.pointer (some ⟨rb,0,none⟩),dv] w (LeavesRA w rb HR GA (lbS a l) (.int .i64 (lbX a l))):=by
 obtain⟨da,dc,ed⟩:=(hd w (TurnG.refl _ _)).form;subst ed;have HD:Hid (∀W,TurnG HR w W->RdI W (.slice da l.length dc) l):=hd;have HA:Hid (RaAt w rb HR GA a):=h;have HLt:Hid (∀k,HR k->k<w.heap.size):=h.lt17;obtain⟨n,hn⟩:∃n,Hid (n=l.length):=⟨_,rfl⟩;rw[<-hn.out]at hl HD ⊢;clear hd h
 go_enter Tryz.func35,Tryz.ntmps35
 go_wp2_with fail
 go_loopw [5] (fun i wr=>∃r:Nat,r<=n/\i= .int .i64 (r:Int)/\RaAt wr rb HR GA (lbV a l r).st/\Hid (TurnG HR w wr)/\Hid ((lbV a l r).cr=false)) (fun i _=>n-(intOf i).toNat)
 case atStart=>exact⟨0,Zz,rfl,HA.out,TurnG.refl _ _,rfl⟩
 case round=>
  obtain⟨r,hr,rfl,hRA,hT,hcr⟩:=hrel
  by_cases hlt:r<n
  ·have hlt':(r:Int)<(n:Int):=by omega
   obtain⟨b,off,rfl,hc⟩:=rdI_cell HD.out (r:=r) (by rw[<-hn.out];exact hlt);obtain⟨z,hz⟩:∃z,Hid (z=l.getD r 0):=⟨_,rfl⟩;rw[<-hz.out]at hc;obtain⟨x,hx⟩:∃x,Hid (x=wrAX (lbV a l r).st z 0 lbB):=⟨_,rfl⟩;have BD:Below wr.heap.size wr wr.drew:=Zf.drew;have s0:=hc wr hT.out;have sD:=hc wr.drew (hT.out.trans (Below.turnG BD HR));have SB:Hid (∀W,Below wr.heap.size wr W->W.cell? ⟨b,off+r,none⟩=some (.int .i64 z)):=fun W b=>hc W (hT.out.trans (Below.turnG b HR))
   have ST:Hid (∀W1 W,Below wr.heap.size wr W1->TurnG HR W1 W->W.cell? ⟨b,off+r,none⟩=some (.int .i64 z)):=fun W1 W b t=>hc W ((hT.out.trans (Below.turnG b HR)).trans t)
   have KW:Hid (∀W1 v,Below wr.heap.size wr W1->Rd W1 v lbB->Calls Tryz.prog 84 #[.pointer (some ⟨rb,0,none⟩),.int .i64 z,.int .i64 0,v] W1 (LeavesRA W1 rb HR GA (wrAS (lbV a l r).st z 0 lbB) (.int .i64 x))):=fun W1 v b R=>by
    rw[hx.out];exact rwriteA_any (hRA.below b) R
   clear hc
   go_wp2_with fail
   go_region_held3 (fun wx=>wx.cell? ⟨b,off+r,none⟩=some (.int .i64 z)) (first|exact s0|exact sD|exact s1|exact s2) (first
    |(go_at_call 85;go_loud (refine rlabel18_any.mono ?_);rintro _ w1 ⟨v,rfl,R1,F1,B1⟩;have b1:=BD.step16 B1 BD.size;have s1:=SB.out _ b1;obtain⟨va,vc,ev⟩:=R1.form;subst ev)
    |(go_at_call 84;go_loud (refine(KW.out _ _ b1 R1).mono ?_);rintro _ w2 ⟨rfl,A2,T2⟩;have s2:=ST.out _ _ b1 T2))
   have T02:Hid (TurnG HR w w2):=(hT.out.trans (Below.turnG b1 HR)).trans T2
   by_cases q:x=130
   ·have E:=lb_cr (l:=l) (r:=r) (n:=l.length) hcr.out (by rw[<-hz.out,<-hx.out];exact q) (by rw[<-hn.out];exact hlt);have F:Hid (LeavesRA w rb HR GA (lbS a l) (.int .i64 (lbX a l)) (.returned (.int .i64 x)) w2):=by
     show LeavesRA _ _ _ _ _ _ _ _
     unfold lbS lbX;rw[E,q];refine⟨rfl,?_,T02.out⟩
     have:wrAS (lbV a l r).st z 0 lbB=(lbV a l r).st:=wrAS_off (by rw[<-hx.out];exact q)
     rw[this]at A2;exact A2
    subst q;clear A2 T2 T02 s0 sD s1 s2 SB ST KW R1 F1 B1 b1 BD hRA E hT hcr hx;go_wp2;exact bodyPost_ret (v:=.int .i64 130) (by simp[results,Tryz.results35,go_sem]) rfl F.out
   ·have q':(x==130)=false:=Zq.2 q;have E:=lb_go (l:=l) (r:=r) hcr.out (by rw[<-hz.out,<-hx.out];exact q);rw[<-hz.out]at E;have RA:Hid (RaAt w2 rb HR GA (lbV a l (r+1)).st):=by show RaAt _ _ _ _ _;rw[E];exact A2
    have CN:Hid ((lbV a l (r+1)).cr=false):=by show _=_;rw[E]
    clear A2 T2 s0 sD s1 s2 SB ST KW R1 F1 B1 b1 BD hRA E hT hcr hx;go_wp2;go_roundw
    case rel=>exact⟨r+1,Zo,Zg,RA.out,T02,CN⟩
    case measure=>simp[intOf];omega
  ·obtain rfl:r=n:=by omega
   have hge:¬(r:Int)<(r:Int):=Zo
   have KF:=rflushA_any hRA;have E:Hid (lbX a l=flAX (lbV a l r).st/\lbS a l=flAS (lbV a l r).st):=by
    unfold lbX lbS;rw[<-hn.out,hcr.out];exact⟨rfl,rfl⟩
   obtain⟨x,hx⟩:∃x,Hid (x=flAX (lbV a l r).st):=⟨_,rfl⟩;rw[<-hx.out]at KF;clear hRA
   go_wp2_with fail
   refine KF.mono ?_
   rintro _ w2 ⟨rfl,A2,T2⟩;have F:Hid (LeavesRA w rb HR GA (lbS a l) (.int .i64 (lbX a l)) (.returned (.int .i64 x)) w2):=by
    show LeavesRA _ _ _ _ _ _ _ _
    rw[E.out.1,E.out.2,hx.out];exact⟨rfl,A2,hT.out.trans T2⟩
   clear KF A2 T2;go_wp2;exact bodyPost_ret (v:=.int .i64 x) (by simp[results,Tryz.results35,go_sem]) rfl F.out
theorem rwrite18_any{w:World}{rb:Nat}{HR GA:Nat->Prop}{a:ArS}(h:RaAt w rb HR GA a){ad ep:Int}{v:Value}{p:List UInt8}(hp:Rd w v p)(hpl:p.length<=100000):
  Calls Tryz.prog 92 #[.pointer (some ⟨rb,0,none⟩),.int .i64 ad,.int .i64 ep,v] w (LeavesRA w rb HR GA (wvS a ad ep p) (.tuple #[.bool (decide (0<wvN a ad ep p)),.int .i64 (wvX a ad ep p)])):=by
 have K:=rwrite17_any h (ad:=ad) (ep:=ep) hp hpl;obtain⟨va,vc,ev⟩:=hp.form;subst ev;obtain⟨n,hn⟩:∃n,Hid (n=wvN a ad ep p):=⟨_,rfl⟩;obtain⟨x,hx⟩:∃x,Hid (x=wvX a ad ep p):=⟨_,rfl⟩;rw[<-hn.out,<-hx.out]at K ⊢;clear hp h
 go_enter Tryz.func92,Tryz.ntmps92
 go_wp2_with fail
 refine K.mono ?_
 rintro _ w1 ⟨rfl,A1,T1⟩;have F:Hid (RaAt w1 rb HR GA (wvS a ad ep p)/\TurnG HR w w1):=⟨A1,T1⟩;clear K A1 T1;go_wp2;exact bodyPost_ret (v:=.tuple #[.bool (decide (0<n)),.int .i64 x]) (by simp[results,Tryz.results92,go_sem]) rfl ⟨rfl,F.out⟩
theorem z31_1{p:Prop} (h:p:=by
 clear EARLY e50 e1 e180 e0 ese KS EW F1;go_wp2;exact bodyPost_ret (v:=.int .i64 1) (by simp[results,Tryz.results38,go_sem]) rfl F.out
 ):p:=h
theorem rappend18_any{w:World}{rb:Nat}{HR GA:Nat->Prop}{a:ArS}(h:RaAt w rb HR GA a){g:GeoS}(hg:g.Wf){base count:Int}(hbw:(Lit.int .i64 base).wf=true)(hcw:(Lit.int .i64 count).wf=true){c:RcV}(hc:c.In w):
  Calls Tryz.prog 38 #[.pointer (some ⟨rb,0,none⟩),aggG g,.int .i64 base,.int .i64 count,aggR c] w (LeavesRA w rb HR GA (apS a g base count c.r) (.int .i64 (apX a g base count c.r))):=by
 obtain⟨⟨kd,ky,ln,st⟩,vs⟩:=c;obtain⟨va,vc,ev⟩:=hc.rs.form;simp only at ev;subst ev;have HC:Hid (RcV.In w ⟨⟨kd,ky,ln,st⟩,.slice va st.length vc⟩):=hc;have HA:Hid (RaAt w rb HR GA a):=h;have KC:=fun V=>@rcheckL_any V g hg _ rfl
 have KS:=fun V=>@rslot_any V g hg count _ rfl
 have EE:=fun e (hP:apP g base count ⟨kd,ky,ln,st⟩=e) (he:¬e=0)=>@ap_early a g base count ⟨kd,ky,ln,st⟩ e hP he
 have EARLY:Hid (∀e V,apP g base count ⟨kd,ky,ln,st⟩=e->¬e=0->Below w.heap.size w V->LeavesRA w rb HR GA (apS a g base count ⟨kd,ky,ln,st⟩) (.int .i64 (apX a g base count ⟨kd,ky,ln,st⟩)) (.returned (.int .i64 e)) V):=fun e V hP he b=>by
  rw[(EE e hP he).1,(EE e hP he).2];exact⟨rfl,HA.out.below b,Below.turnG b HR⟩
 have e50:=@ap_50 g base count ⟨kd,ky,ln,st⟩;have e1:=@ap_1 g base count ⟨kd,ky,ln,st⟩;have e180:=@ap_180 g base count ⟨kd,ky,ln,st⟩;have e0:=@ap_0 g base count ⟨kd,ky,ln,st⟩;have ese:=@ap_se g base count ⟨kd,ky,ln,st⟩;have T2:=two18 w g kd ln ky (.slice va st.length vc) 23 38;have EW:Hid (∀hP:apP g base count ⟨kd,ky,ln,st⟩=0,apX a g base count ⟨kd,ky,ln,st⟩=(if (apW a g base count ⟨kd,ky,ln,st⟩).cr=true then 130 else if ¬flAX (apW a g base count ⟨kd,ky,ln,st⟩).st=0 then flAX (apW a g base count ⟨kd,ky,ln,st⟩).st else if (apW a g base count ⟨kd,ky,ln,st⟩).n=0 then 150 else 0)/\apS a g base count ⟨kd,ky,ln,st⟩=(if (apW a g base count ⟨kd,ky,ln,st⟩).cr=true then (apW a g base count ⟨kd,ky,ln,st⟩).st else flAS (apW a g base count ⟨kd,ky,ln,st⟩).st)):=fun hP=>by
  have nn:¬¬apP g base count ⟨kd,ky,ln,st⟩=0:=fun k=>k hP
  unfold apX apS;rw[if_neg nn,if_neg nn];exact⟨rfl,rfl⟩
 clear h hc EE;obtain⟨k,m,z,s,t,o⟩:=g;rw[aggE]at KC KS ⊢
 show Calls Tryz.prog 38 #[.pointer (some ⟨rb,0,none⟩),.agg #[.int .i64 k,.int .i64 m,.int .i64 z,.int .i64 s,.int .i64 t,.int .i64 o],.int .i64 base,.int .i64 count,.agg #[.int .i64 kd,.string ⟨ky.toArray⟩,.int .i64 ln,.slice va st.length vc]] w _
 obtain⟨W,hW⟩:∃W,W=(w.alloc (.cells #[.int .i64 k,.int .i64 m,.int .i64 z,.int .i64 s,.int .i64 t,.int .i64 o] 23)).alloc (.cells #[.int .i64 kd,.string ⟨ky.toArray⟩,.int .i64 ln,.slice va st.length vc] 38):=⟨_,rfl⟩;have T3:Hid (∀V,Below W.heap.size W V->(GeoAt V w.heap.size ⟨k,m,z,s,t,o⟩/\Below w.heap.size w V)/\V.cell? ⟨w.heap.size+1,0,none⟩=some (.int .i64 kd)/\V.cell? ⟨w.heap.size+1,1,none⟩=some (.string ⟨ky.toArray⟩)/\V.cell? ⟨w.heap.size+1,2,none⟩=some (.int .i64 ln)/\V.cell? ⟨w.heap.size+1,3,none⟩=some (.slice va st.length vc)):=by
  rw[hW];exact T2
 clear T2;obtain⟨⟨⟨x0,x1,x2,x3,x4,x5⟩,B0⟩,y0,y1,y2,y3⟩:=T3.out W Zf;simp only at x0 x1 x2 x3 x4 x5
 go_enter Tryz.func38,Tryz.ntmps38
 go_wp2_with fail
 rw[<-hW];clear hW;refine(KC _).mono ?_
 rintro _ w1 ⟨rfl,B1⟩;clear KC x0 x1 x2 x3 x4 x5 y0 y1 y2 y3 B0;obtain⟨⟨⟨x0,x1,x2,x3,x4,x5⟩,B0⟩,y0,y1,y2,y3⟩:=T3.out w1 B1;simp only at x0 x1 x2 x3 x4 x5
 by_cases ok:okG ⟨k,m,z,s,t,o⟩
 rotate_left
 ·rw[show chG ⟨k,m,z,s,t,o⟩=50 from if_neg ok];have F:Hid _:=EARLY.out 50 w1 (e50 ok) Zd B0;clear EARLY e50 e1 e180 e0 ese KS EW;go_wp2;exact bodyPost_ret (v:=.int .i64 50) (by simp[results,Tryz.results38,go_sem]) rfl F.out
 rw[show chG ⟨k,m,z,s,t,o⟩=0 from if_pos ok];have F1:Hid (∀V,Below w.heap.size w V->¬(0<=base/\0<=count/\base<=mo18/\OkR ⟨kd,ky,ln,st⟩)->LeavesRA w rb HR GA (apS a ⟨k,m,z,s,t,o⟩ base count ⟨kd,ky,ln,st⟩) (.int .i64 (apX a ⟨k,m,z,s,t,o⟩ base count ⟨kd,ky,ln,st⟩)) (.returned (.int .i64 1)) V):=fun V b q=>EARLY.out 1 V (e1 ok q) Zd b
 by_cases q1:base<0
 ·have F:Hid _:=F1.out w1 B0 (fun k=>Zo);exact z31_1
 by_cases q2:count<0
 ·have F:Hid _:=F1.out w1 B0 (fun k=>Zo);exact z31_1
 by_cases q3:base>2147483547
 ·have F:Hid _:=F1.out w1 B0 (fun k=>by have:=k.2.2.1;unfold mo18 at this;omega);exact z31_1
 have KR:=rchk16_any (HC.out.below B0) rfl
 by_cases q4:OkR ⟨kd,ky,ln,st⟩
 rotate_left
 ·have F:Hid (∀V,Below w1.heap.size w1 V->LeavesRA w rb HR GA (apS a ⟨k,m,z,s,t,o⟩ base count ⟨kd,ky,ln,st⟩) (.int .i64 (apX a ⟨k,m,z,s,t,o⟩ base count ⟨kd,ky,ln,st⟩)) (.returned (.int .i64 1)) V):=fun V b=>F1.out V (B0.step16 b B0.size) (fun k=>q4 k.2.2.2)
  rw[show chR ⟨kd,ky,ln,st⟩=1 from if_neg q4]at KR;clear EARLY e50 e1 e180 e0 ese KS EW F1
  go_wp2_with fail
  refine KR.mono ?_
  rintro _ w2 ⟨rfl,B2⟩;have F2:Hid _:=F.out w2 B2;clear F KR B2;go_wp2;exact bodyPost_ret (v:=.int .i64 1) (by simp[results,Tryz.results38,go_sem]) rfl F2.out
 rw[show chR ⟨kd,ky,ln,st⟩=0 from if_pos q4]at KR;clear F1 e50 e1
 go_wp2_with fail
 refine KR.mono ?_
 rintro _ w2 ⟨rfl,B2⟩;clear KR x0 x1 x2 x3 x4 x5 y0 y1 y2 y3;have B12:=B1.step16 B2 B1.size;obtain⟨⟨⟨x0,x1,x2,x3,x4,x5⟩,B02⟩,y0,y1,y2,y3⟩:=T3.out w2 B12;simp only at x0 x1 x2 x3 x4 x5;have qq:0<=base/\0<=count/\base<=mo18/\OkR ⟨kd,ky,ln,st⟩:=⟨Zo,Zo,by unfold mo18;omega,q4⟩
 by_cases q5:count>=t
 ·have F:Hid _:=EARLY.out 180 w2 (e180 ok qq q5) Zd B02;clear EARLY e180 e0 ese KS EW B0 B1 B2 B12 B02 T3;go_wp2;exact bodyPost_ret (v:=.int .i64 180) (by simp[results,Tryz.results38,go_sem]) rfl F.out
 have hP:=e0 ok qq Zo;have hS:=ese hP;obtain⟨EX,ES⟩:=EW.out hP;have KE:=renc16_far (HC.out.below B02) rfl rfl;rw[show chR ⟨kd,ky,ln,st⟩=0 from if_pos q4,if_pos (show OkR (RcV.r ⟨⟨kd,ky,ln,st⟩,.slice va st.length vc⟩)from q4)]at KE;have ht:t<=64:=by
  obtain⟨_,_,_,_,_,_,_,_,q,_⟩:=ok;exact q
 have wa:IntKind.i64.wrap (base+count)=base+count:=Zw
 have wb:IntKind.i64.wrap (base+count+1)=base+count+1:=Zw
 obtain⟨ad,had⟩:∃ad,Hid (ad=slG ⟨k,m,z,s,t,o⟩ count):=⟨_,rfl⟩;obtain⟨b,hb⟩:∃b,Hid (b=enR ⟨kd,ky,ln,st⟩):=⟨_,rfl⟩;obtain⟨P,hPP⟩:∃P,Hid (P=apW a ⟨k,m,z,s,t,o⟩ base count ⟨kd,ky,ln,st⟩):=⟨_,rfl⟩;rw[<-hPP.out]at EX ES;rw[<-hb.out]at KE hS;rw[<-had.out]at hS KS;have EP:Hid (wvX a ad (base+count+1) b=puE P/\wvN a ad (base+count+1) b=puN P/\wvS a ad (base+count+1) b=P.st):=by
  have e1:wvP a ad (base+count+1) b=P:=by rw[hPP.out,had.out,hb.out];rfl
  unfold wvX wvN wvS;rw[if_pos hS,e1];exact⟨rfl,rfl,rfl⟩
 have hbl:b.length<=100000:=by have:=hS.2.2;omega
 have HX:Hid (apX a ⟨k,m,z,s,t,o⟩ base count ⟨kd,ky,ln,st⟩=(if P.cr=true then 130 else if ¬flAX P.st=0 then flAX P.st else if P.n=0 then 150 else 0)/\apS a ⟨k,m,z,s,t,o⟩ base count ⟨kd,ky,ln,st⟩=(if P.cr=true then P.st else flAS P.st)):=⟨EX,ES⟩;clear EX ES EARLY e180 e0 ese EW hP hS
 go_wp2_with fail
 refine KE.mono ?_
 rintro _ w3 ⟨v,rfl,R3,B3,-⟩;clear KE x0 x1 x2 x3 x4 x5 y0 y1 y2 y3;have B13:=B12.step16 B3 B12.size;obtain⟨va2,vc2,ev⟩:=R3.form;subst ev;obtain⟨⟨⟨x0,x1,x2,x3,x4,x5⟩,B03⟩,y0,y1,y2,y3⟩:=T3.out w3 B13;simp only at x0 x1 x2 x3 x4 x5
 go_wp2_with fail
 refine(KS _).mono ?_
 rintro _ w4 ⟨rfl,B4⟩;have B04:=B03.step16 B4 B03.size;have KW:=rwrite18_any (HA.out.below B04) (ad:=ad) (ep:=base+count+1) (R3.below B4) hbl;rw[EP.out.1,EP.out.2.1,EP.out.2.2]at KW;have T4:Hid (TurnG HR w w4):=Below.turnG B04 HR;clear KS x0 x1 x2 x3 x4 x5 y0 y1 y2 y3 R3 B3 B4 B03 B13 B12 B02 B2 B1 B0 T3
 go_wp2_with fail
 refine KW.mono ?_
 rintro _ w5 ⟨rfl,A5,T5⟩;clear KW;have T05:=T4.out.trans T5;cases hcr:P.cr with
 |true=>
  have e1:puE P=130:=by unfold puE;rw[hcr];rfl
  rw[e1];have F:Hid (LeavesRA w rb HR GA (apS a ⟨k,m,z,s,t,o⟩ base count ⟨kd,ky,ln,st⟩) (.int .i64 (apX a ⟨k,m,z,s,t,o⟩ base count ⟨kd,ky,ln,st⟩)) (.returned (.int .i64 130)) w5):=by
   show LeavesRA _ _ _ _ _ _ _ _
   rw[HX.out.1,HX.out.2,hcr];exact⟨rfl,A5,T05⟩
  clear A5 T5 T05 HX EP e1;go_wp2;exact bodyPost_ret (v:=.int .i64 130) (by simp[results,Tryz.results38,go_sem]) rfl F.out
 |false=>
  have e1:puE P=0:=by unfold puE;rw[hcr];rfl
  have e2:puN P=(P.n:Int):=by unfold puN;rw[hcr];rfl
  rw[e1,e2];have KF:=rflushA_any A5;obtain⟨x,hx⟩:∃x,Hid (x=flAX P.st):=⟨_,rfl⟩;rw[<-hx.out]at KF;obtain⟨n,hn⟩:∃n,Hid (n=P.n):=⟨_,rfl⟩;rw[<-hn.out];have F0:Hid (∀w6 y,RaAt w6 rb HR GA (flAS P.st)->TurnG HR w5 w6->y=(if ¬x=0 then x else if n=0 then 150 else 0)->LeavesRA w rb HR GA (apS a ⟨k,m,z,s,t,o⟩ base count ⟨kd,ky,ln,st⟩) (.int .i64 (apX a ⟨k,m,z,s,t,o⟩ base count ⟨kd,ky,ln,st⟩)) (.returned (.int .i64 y)) w6):=fun w6 y A6 T6 hy=>by
   rw[HX.out.1,HX.out.2,hcr,hy,hx.out,hn.out];exact⟨rfl,A6,T05.trans T6⟩
  clear A5 T5 HX EP e1 e2 hx hn
  go_wp2_with fail
  refine KF.mono ?_
  rintro _ w6 ⟨rfl,A6,T6⟩;clear KF
  by_cases q6:x=0
  ·subst q6
   by_cases q7:n=0
   ·subst q7;have F:Hid _:=F0.out w6 150 A6 T6 Zs;clear A6 T6 F0;go_wp2;exact bodyPost_ret (v:=.int .i64 150) (by simp[results,Tryz.results38,go_sem]) rfl F.out
   ·have q8:decide (0<n)=true:=Zy Zo;have q9:decide (0<(n:Int))=true:=Zy Zo;have F:Hid _:=F0.out w6 0 A6 T6 (by simp[q7]);clear A6 T6 F0;go_wp2;exact bodyPost_ret (v:=.int .i64 0) (by simp[results,Tryz.results38,go_sem]) rfl F.out
  ·have q6':(x==0)=false:=Zq.2 q6;have F:Hid _:=F0.out w6 x A6 T6 (by rw[if_pos q6]);clear A6 T6 F0;go_wp2;exact bodyPost_ret (v:=.int .i64 x) (by simp[results,Tryz.results38,go_sem]) rfl F.out
def OwnB18(w:World)(base:Nat)(v:Value)(L:List Bool):Prop:=w.ownsRow base 4 1 v L.length (L.map Value.bool)
theorem OwnB18.nil(w:World)(base:Nat):OwnB18 w base (.slice none 0 0) []:=World.ownsRow_nil _ _ _ _
theorem OwnB18.rd{w:World}{base:Nat}{v:Value}{L:List Bool}(h:OwnB18 w base v L)(hl:L.length<=1000):RdB w v L:=by
 obtain⟨_,⟨e,hn⟩|⟨g,cap,cur,e,hg,hh,hc,hm,hs,ht⟩⟩:=id h
 ·have:L=[]:=List.length_eq_zero_iff.1 hn
  subst this;rw[e];exact rdB_none
 ·subst e;have hlt:=Zv h g rfl;refine⟨some ⟨g,0,none⟩,cap,rfl,Zo,Zo,nofun,fun i hi=>⟨g,0,rfl,hlt.2,?_⟩⟩;rw[Nat.zero_add,World.ownsRow.cellAt h i Zo,List.getElem?_map,List.getElem?_eq_getElem hi];simp[hb,List.getD,hi]
theorem info_bool18:∃i,Tryz.prog.info? 4=some i/\i.zero=some (.bool false)/\i.size=1/\i.bytes=1:=by
 have h:(Tryz.prog.info? 4).map (fun i=>(i.zero,i.size,i.bytes))=some (some (.bool false),1,1):=Zk
 cases e:Tryz.prog.info? 4 with
 |none=>rw[e]at h;cases h
 |some i=>
  rw[e]at h;simp only[Option.map_some,Option.some.injEq,Prod.mk.injEq]at h;exact⟨i,rfl,h.1,h.2.1,h.2.2⟩
theorem wpList_append_b18{w W:World}{base b:Nat}{v:Value}{L:List Bool}{z:Bool}{ops:Array Oper}{rest:List Oper}{o:Oper}{a:Act}{Q:Exit->Act->World->Prop}(hgd:o.guard=none)(s x:Operand)
  (ho:o.op= .call {callee:=.builtin .append,args:=#[s,x],argTypes:=#[36,36]}) (hs:a.eval s=v) (hx:a.eval x= .slice (some ⟨b,0,none⟩) 1 1)
  (hO:OwnB18 w base v L) (hW:W=w.alloc (.cells #[.bool z] 4)) (hb:b=w.heap.size) (hl:L.length<=1000) (hbase:base<=w.heap.size)
  (k:∀v' w',OwnB18 w' base v' (L++[z])->Below base w w'->wpList Tryz.prog ops Q rest (a.put o.dst v') w'):wpList Tryz.prog ops Q (o::rest) a W:=by
 refine wpList_plain hgd fun K hK=>?_
 subst hW hb;obtain⟨i,hi,hz,hs1,hy⟩:=info_bool18;obtain⟨v',w',hrun,h2,h3,_,h5⟩:=run_append_own_at (P:=Tryz.prog) (w.alloc (.cells #[.bool z] 4)) base 36 o.type 4 i (.bool false) 1 1 Tryz.underlying36 hi hz hs1 hy rfl Zd v L.length (L.map Value.bool) (World.ownsRow.alloc hO _) ⟨w.heap.size,0,none⟩ 1 1 [.bool z] rfl (by intro j y hj;rw[add_at,Nat.zero_add];rcases j with _|j<;>simp at hj;subst hj;simp) (by intro y hy;simp at hy;rw[hy];rfl) Zl Zo Zm;unfold Oper.wp execOp;simp only[ho,resolve,invoke,builtin,Sem.run_bind,Sem.run_pure,Result.andThen_ok,List.map_toArray,List.map_cons,List.map_nil,hs,hx,hrun];refine hK _ _ (k v' w' ?_ ?_)
 ·unfold OwnB18;rw[List.length_append,List.map_append];exact h2
 ·exact((Below.refl base w).alloc hbase _).grown h3 Zm (fun q hq=>(Zv hO q hq).1)
def Knows18(w:World)(X:Int)(L:List Bool)(e:Ending)(w':World):Prop:=∃v,e= .returned (.tuple #[v,.int .i64 X])/\OwnB18 w' w.heap.size v L/\Below w.heap.size w w'
theorem kn_off{a:ArS}(h:a.off=true):knX a=130/\knL a=[]:=⟨if_pos h,if_pos h⟩
theorem kn_on{a:ArS}(h:a.off=false):knX a=0/\knL a=(List.range a.D.length).map (knF a):=⟨if_neg (by rw[h];decide),if_neg (by rw[h];decide)⟩
theorem z31_2{p:Prop} (h:p:=by
 rw[<-E]at o4;have B5:Hid (Below w.heap.size w w4):=B4;go_roundw
 case rel=>exact⟨r+1,Zo,Zg,o4,B5,OFF⟩
 case measure=>simp[intOf];omega
 ):p:=h
theorem rknows18_any{w:World}{rb:Nat}{HR GA:Nat->Prop}{a:ArS}(h:RaAt w rb HR GA a):Calls Tryz.prog 36 #[.pointer (some ⟨rb,0,none⟩)] w (Knows18 w (knX a) (knL a)):=by
 have d2:=h.ok17.d2;have d1:=h.ok17.d1;have HO:Hid a.Ok:=h.ok17;have HA:Hid (RaAt w rb HR GA a):=h;obtain⟨xb,cx,c0⟩:=h.len17;have lr:rb<w.heap.size:=World.block_lt_of_cell? w _ c0;obtain⟨n,hn⟩:∃n,Hid (n=a.D.length):=⟨_,rfl⟩;rw[<-hn.out]at d1 d2 c0;clear h
 go_enter Tryz.func36,Tryz.ntmps36
 go_wp2_with fail
 go_loopw [4,5] (fun v i wr=>∃r:Nat,r<=n/\i= .int .i64 (r:Int)/\OwnB18 wr w.heap.size v ((List.range r).map (knF a))/\Hid (Below w.heap.size w wr)/\Hid (0<r->a.off=false)) (fun _ i _=>n-(intOf i).toNat)
 case atStart=>exact⟨0,Zz,rfl,OwnB18.nil _ _,Zf,fun q=>Zo⟩
 case round=>
  obtain⟨r,hr,rfl,hOw,hB,hOf⟩:=hrel;have y0:=(hB.out.cell (p:=⟨rb,0,none⟩) lr).trans c0
  by_cases hlt:r<n
  ·have hlt':(r:Int)<(n:Int):=by omega
   have KR:=rreadA_far (HA.out.below hB.out) (i:=(r:Int)) (ad:=0);obtain⟨x,hx⟩:∃x,Hid (x=rdAX a (r:Int) 0):=⟨_,rfl⟩;obtain⟨p,hp⟩:∃p,Hid (p=rdAB a (r:Int) 0):=⟨_,rfl⟩;have lp:p.length<=100000:=by rw[hp.out];exact Nat.le_trans (rdB_le HO.out _ _) Zd
   rw[<-hx.out,<-hp.out]at KR
   go_wp2_with fail
   refine KR.mono ?_
   rintro _ w1 ⟨v,rfl,R1,F1,B1⟩;obtain⟨va,vc,ev⟩:=R1.form;subst ev;have B01:=hB.out.step16 B1 hB.out.size;clear KR F1
   by_cases q:x=130
   ·have F:Hid (Knows18 w (knX a) (knL a) (.returned (.tuple #[.slice none 0 0,.int .i64 x])) w1):=by
     have ho:a.off=true:=by
      cases ho:a.off with
      |true=>rfl
      |false=>exact absurd (hx.out.symm.trans q) (rdAX_up ho)
     show Knows18 _ _ _ _ _
     rw[(kn_off ho).1,(kn_off ho).2,q];exact⟨_,rfl,OwnB18.nil _ _,B01⟩
    subst q;clear hOw hB y0 B1 B01 R1 hx;go_wp2;exact bodyPost_ret (v:=.tuple #[.slice none 0 0,.int .i64 130]) (by simp[results,Tryz.results36,go_sem]) rfl F.out
   ·have q':(x==130)=false:=Zq.2 q
    go_wp2_with fail
    refine rlabel18_any.mono ?_
    rintro _ w2 ⟨u,rfl,R2,F2,B2⟩;obtain⟨ua,uc,eu⟩:=R2.form;subst eu;have KS:=same_b (R1.below B2) R2;obtain⟨y,hy⟩:∃y,Hid (y=sameB p lbB):=⟨_,rfl⟩;rw[<-hy.out]at KS;have B02:=B01.step16 B2 B01.size;have B12:=B1.step16 B2 B1.size;have EY:Hid (∀z,z=(decide (x=0)&&y)->(List.range (r+1)).map (knF a)=(List.range r).map (knF a)++[z]):=fun z e=>by
     rw[List.range_succ,List.map_append,e,hx.out,hy.out,hp.out];have e2:(rdAB a (r:Int) 0==lbB)=decide (rdAB a (r:Int) 0=lbB):=by by_cases q:rdAB a (r:Int) 0=lbB<;>simp[q]
     show _++[knF a r]=_
     unfold knF sameB;rw[e2]
    have OFF:Hid (0<r+1->a.off=false):=fun _=>by
     cases ho:a.off with
     |false=>rfl
     |true=>exact absurd (hx.out.trans (if_pos ho)) q
    have ll:((List.range r).map (knF a)).length<=1000:=by rw[List.length_map,List.length_range];omega
    have O2:OwnB18 w2 w.heap.size u4 ((List.range r).map (knF a)):=row_later17 hOw B12;have s2:=B02.size;clear R1 R2 F2 B1 B2 B12 B01 hOw hB y0 hx hp hy
    go_wp2_with fail
    refine KS.mono ?_
    rintro _ w3 ⟨rfl,B3⟩;have O3:OwnB18 w3 w.heap.size u4 ((List.range r).map (knF a)):=row_later17 O2 B3;have B03:=B02.step16 B3 B02.size;have s3:=B03.size;clear KS O2 B02 s2 B3
    by_cases q0:x=0
    ·subst q0;have E:=EY.out y Zs;clear EY
     go_wp2_with (at_builtin;(refine wpList_append_b18 (w:=w3) (z:=y) rfl (.tmp 30) (.tmp 36) rfl rfl rfl O3 rfl rfl ll s3 ?_);intro v4 w4 o4 G4;have B4:=B03.trans G4;clear G4 O3 B03)
     exact z31_2
    ·have q0':(x==0)=false:=Zq.2 q0;have E:=EY.out false (by simp[q0]);clear EY
     go_wp2_with (at_builtin;(refine wpList_append_b18 (w:=w3) (z:=false) rfl (.tmp 30) (.tmp 36) rfl rfl rfl O3 rfl rfl ll s3 ?_);intro v4 w4 o4 G4;have B4:=B03.trans G4;clear G4 O3 B03)
     exact z31_2
  ·obtain rfl:r=n:=by omega
   have hge:¬(r:Int)<(r:Int):=Zo
   cases ho:a.off with
   |true=>exact absurd (hOf.out Zo) (by rw[ho];decide)
   |false=>
    have F:Hid (Knows18 w (knX a) (knL a) (.returned (.tuple #[u4,.int .i64 0])) wr):=by
     show Knows18 _ _ _ _ _
     rw[(kn_on ho).1,(kn_on ho).2,<-hn.out];exact⟨_,rfl,hOw,hB.out⟩
    clear hOw hB;go_wp2;exact bodyPost_ret (v:=.tuple #[u4,.int .i64 0]) (by simp[results,Tryz.results36,go_sem]) rfl F.out
def wlR(V:Nat->VoS):Nat->Bool
 |0=>true
 |r+1=>wlR V r&&((V r).has&&((V r).ep==(V 0).ep))
def wiR(V:Nat->VoS):Nat->Bool
 |0=>true
 |r+1=>wiR V r&&(V r).wi
def One18(w:World)(X:Int)(A:ArW)(e:Ending)(w':World):Prop:=
 ((X=0/\∃(vs:Value) (L:List ObV),e= .returned (.tuple #[.agg #[.int .i64 A.ar,.int .i64 A.ep,vs],.bool A.whole,.bool A.wit,.int .i64 0])/\RdOF w.heap.size w' vs L/\oL L=A.ob)∨(¬X=0/\∃y:Int,e= .returned (.tuple #[.agg #[.int .i64 A.ar,.int .i64 y,.slice none 0 0],.bool false,.bool false,.int .i64 X])))/\Below w.heap.size w w'
structure SvBox(w:World)(b:Nat)(x y:Int)(v:Value):Prop where
 c0:w.cell? ⟨b,0,none⟩=some (.int .i64 x)
 c1:w.cell? ⟨b,1,none⟩=some (.int .i64 y)
 c2:w.cell? ⟨b,2,none⟩=some v
 fz:∀j,w.frozen? ⟨b,j,none⟩=false
 lt:b<w.heap.size
theorem SvBox.below{w w':World}{b:Nat}{x y:Int}{v:Value}(h:SvBox w b x y v)(hb:Below w.heap.size w w'):SvBox w' b x y v:=⟨(hb.cell (p:=⟨b,0,none⟩) h.lt).trans h.c0,(hb.cell (p:=⟨b,1,none⟩) h.lt).trans h.c1,(hb.cell (p:=⟨b,2,none⟩) h.lt).trans h.c2,fun j=>(hb.frozen (p:=⟨b,j,none⟩) h.lt).trans (h.fz j),Zu h.lt hb.size⟩
theorem SvBox.ep{w:World}{b:Nat}{x y:Int}{v:Value}(h:SvBox w b x y v)(z:Int):SvBox (w.setCell ⟨b,1,none⟩ (.int .i64 z)) b x z v:=⟨(World.cell?_setCell_other _ _ _ _ Zs).trans h.c0,World.cell?_setCell_same _ _ _ h.c1,(World.cell?_setCell_other _ _ _ _ Zs).trans h.c2,fun j=>by rw[World.frozen?_setCell];exact h.fz j,by rw[((Only.refl b w).setCell 1 (.int .i64 z)).size];exact h.lt⟩
theorem SvBox.ob{w:World}{b:Nat}{x y:Int}{v:Value}(h:SvBox w b x y v)(z:Value):SvBox (w.setCell ⟨b,2,none⟩ z) b x y z:=⟨(World.cell?_setCell_other _ _ _ _ Zs).trans h.c0,(World.cell?_setCell_other _ _ _ _ Zs).trans h.c1,World.cell?_setCell_same _ _ _ h.c2,fun j=>by rw[World.frozen?_setCell];exact h.fz j,by rw[((Only.refl b w).setCell 2 z).size];exact h.lt⟩
theorem onA_is{a:ArS}{g:GeoS}{K:List Bool}{ar:Int}{V:Nat->VoS}(hV:∀i:Nat,V i=onV a g K ar (i:Int)):onA a g K ar=⟨ar,(V 0).ep,(onL [(V 0).da,(V 1).da]).getD [],wlR V 2&&(onL [(V 0).da,(V 1).da]).isSome,wiR V 2⟩:=by
 unfold onA;rw[hV 0,hV 1];have e:wlR V 2=((onV a g K ar 0).has&&(onV a g K ar 1).has&&((onV a g K ar 1).ep==(onV a g K ar 0).ep)):=by
  show(true&&((V 0).has&&((V 0).ep==(V 0).ep))&&((V 1).has&&((V 1).ep==(V 0).ep)))=_
  rw[hV 0,hV 1];simp[Bool.and_assoc]
 have e2:wiR V 2=((onV a g K ar 0).wi&&(onV a g K ar 1).wi):=by
  show(true&&(V 0).wi&&(V 1).wi)=_
  rw[hV 0,hV 1,Bool.true_and];rfl
 rw[e,e2];rfl
theorem SvBox.belowB{w w':World}{b B:Nat}{x y:Int}{v:Value}(h:SvBox w b x y v)(hb:Below B w w')(hl:b<B):SvBox w' b x y v:=⟨(hb.cell (p:=⟨b,0,none⟩) hl).trans h.c0,(hb.cell (p:=⟨b,1,none⟩) hl).trans h.c1,(hb.cell (p:=⟨b,2,none⟩) hl).trans h.c2,fun j=>(hb.frozen (p:=⟨b,j,none⟩) hl).trans (h.fz j),Zu h.lt hb.size⟩
theorem one_push{W2 Y w7:World}{base T t b1:Nat}{pv v7 x:Value}{L:List (List UInt8)}{vals:List Value}{p:List UInt8}{ar y:Int}(hV:Vs Y base T pv L vals)(hR:Rd Y x p)(hap:∀g,pv.ownBlock=some g->Apart g x)(hS:SvBox Y b1 ar y (.slice none 0 0))(hB:Below W2.heap.size W2 Y)(hb1:b1<base)(h2:W2.heap.size<=base)(hbase:base<=Y.heap.size)
  (h7:w7.ownsRow base T 1 v7 (L.length+1) (vals++[x])) (g7:(Y.alloc (.cells #[x] t)).grownBy w7 pv.ownBlock) (e7:v7.ownBlock=pv.ownBlock∨v7.ownBlock=some (Y.alloc (.cells #[x] t)).heap.size):
  Vs w7 base T v7 (L++[p]) (vals++[x])/\SvBox w7 b1 ar y (.slice none 0 0)/\Below W2.heap.size W2 w7/\base<=w7.heap.size:=by
 have ba:=belR Y (.cells #[x] t);have VA:=hV.below ba;have own:∀q,pv.ownBlock=some q->base<=q:=fun q hq=>(Zv VA.row q hq).1
 have G:Below base (Y.alloc (.cells #[x] t)) w7:=Zf.grown g7 (Nat.le_trans hbase ba.size) own;have BA:=hB.step16 ba hB.size;refine⟨VA.push (hR.below ba) hap h7 g7 e7,(hS.below ba).belowB G hb1,BA.trans (G.mono h2),Nat.le_trans (Nat.le_trans hbase ba.size) G.size⟩
theorem uns_one{wr w6:World}{P:List (List UInt8)}{e:Ending}(h:UnP16F wr P e w6):∃(v:Value) (L:List ObV) (hh:Int),e= .returned (.tuple #[v,.int .i64 hh])/\RdOF wr.heap.size w6 v L/\Below wr.heap.size wr w6/\oL L=(onL P).getD []/\(hh==0)=(onL P).isSome:=by
 rcases h with⟨L,v,hp,rfl,hv,b6⟩|⟨hn,rfl,b6⟩
 ·exact⟨v,L,0,rfl,hv,b6,by rw[onL_some hp];rfl,by rw[onL_some hp];rfl⟩
 ·exact⟨_,[],160,rfl,rdOF_nil _ _,b6,by rw[onL_none (fun ⟨l,k⟩=>hn l k)];rfl,by rw[onL_none (fun ⟨l,k⟩=>hn l k)];rfl⟩
theorem one_leaf{p:Prop} (h:p:=by
 have V5r:=(VY.out.below (belR Y (.cells #[.slice da vda.length dc] 42))).row;rw[hlen.out]at V5r;have c5:(Y.alloc (.cells #[.slice da vda.length dc] 42)).cell? ⟨Y.heap.size,0,none⟩=some (.slice da vda.length dc):=by rw[World.cell?_alloc_new];rfl
 have h1:(Value.slice da vda.length dc).oneCell'=true:=rfl;have hl5:r<=100000:=Zo
 have s5:W0.heap.size<=(Y.alloc (.cells #[.slice da vda.length dc] 42)).heap.size:=Nat.le_trans zY.out (belR Y (.cells #[.slice da vda.length dc] 42)).size
 go_wp2_with (at_builtin;go_loud (refine wpList_append_v (Y.alloc (.cells #[.slice da vda.length dc] 42)) rfl (.tmp 63) (.tmp 66) 140 rfl W0.heap.size 42 i0 (.slice none 0 0) 24 Tryz.underlying140 hi hz0 hz1 hz2 rfl Zd (.slice pa r pc) r vals rfl V5r Y.heap.size 1 (.slice da vda.length dc) rfl c5 h1 hl5 s5 ?_);intro v7 w7 h7 g7 e7)
 obtain⟨V7,S7,B7,Z7⟩:=one_push VY.out RY.out hap.out SY.out BY.out hb10.out h20.out zY.out (by rw[hlen.out];exact h7) g7 (by rcases e7 with e|e<;>simp[e]);have HV7:=hidI V7;have HS7:=hidI S7;have HB7:=hidI B7;have HZ7:=hidI Z7;clear V7 S7 B7 Z7 h7 g7 e7 VY RY hap SY BY zY V5r c5 hl5 s5;go_roundw
 case rel=>exact⟨r+1,_,ye,Zo,Zg,(by rw[WL.out];try rfl),(by rw[WI.out];try rfl),(by rw[<-LST.out];exact HV7.out),HS7.out,(fun _=>yE.out),HB7.out,HZ7.out,(fun q=>Zo),(fun _=>by first|exact XZ.out|trivial)⟩
 case measure=>simp[intOf];try omega):p:=h
theorem rone18_any{w:World}{rb:Nat}{HR GA:Nat->Prop}{a:ArS}(h:RaAt w rb HR GA a){g:GeoS}(hg:g.Wf){u:Value}{K:List Bool}(hk:RdB w u K){ar:Int}:
  Calls Tryz.prog 98 #[.pointer (some ⟨rb,0,none⟩),aggG g,u,.int .i64 ar] w (One18 w (rvX a) (onA a g K ar)):=by
 have HK:Hid (RdB w u K):=hk;obtain⟨ua,uc,eu⟩:=hk.form;subst eu;have HA:Hid (RaAt w rb HR GA a):=h;have KS:=fun V i=>@rarea_any V g hg ar i _ rfl
 have T2:=two18l w g 23 41;obtain⟨V,hV⟩:∃V:Nat->VoS,V=fun (i:Nat)=>onV a g K ar (i:Int):=⟨_,rfl⟩
 obtain⟨AD,hAD⟩:∃AD:Nat->Int,Hid (∀i:Nat,arG g ar (i:Int)=AD i):=⟨fun i=>arG g ar (i:Int),fun i=>rfl⟩;have EVA:Hid (∀i:Nat,rvV a K (AD i)=V i):=fun i=>by rw[hV,<-hAD.out i];rfl
 have ON:=onA_is (a:=a) (g:=g) (K:=K) (ar:=ar) (V:=V) (fun i=>by rw[hV]);have DV:Hid (∀i:Nat,(V i).da.length<=4096/\(Lit.int .i64 (V i).ep).wf=true):=fun i=>by rw[<-EVA.out i];exact vo_da
 rw[ON];have WLs:Hid (∀r,wlR V (r+1)=(wlR V r&&((V r).has&&((V r).ep==(V 0).ep)))):=fun r=>rfl
 have WIs:Hid (∀r,wiR V (r+1)=(wiR V r&&(V r).wi)):=fun r=>rfl
 obtain⟨X,hX⟩:∃X,rvX a=X:=⟨_,rfl⟩;rw[hX];have KR0:=fun W2 (b:Below w.heap.size w W2) (i:Nat)=>rread17_far (HA.out.below b) (ad:=AD i) (HK.out.below b)
 rw[hX]at KR0;clear h hk hV ON hg hX;obtain⟨k,m,z,s,t,o⟩:=g;rw[aggE]at KS ⊢;obtain⟨W2,hW2⟩:∃W2,W2=(w.alloc (.cells #[.int .i64 k,.int .i64 m,.int .i64 z,.int .i64 s,.int .i64 t,.int .i64 o] 23)).alloc (.cells #[.int .i64 0,.int .i64 0,.slice none 0 0] 41):=⟨_,rfl⟩;have T3:Hid (∀V,Below W2.heap.size W2 V->(GeoAt V w.heap.size ⟨k,m,z,s,t,o⟩/\Below w.heap.size w V)/\LtBox V (w.heap.size+1) default (.slice none 0 0)):=by rw[hW2];exact T2
 have LW2:Hid (w.heap.size+1<W2.heap.size):=by show _<_;rw[hW2];simp
 obtain⟨z0,z1,z2,bz,zf,lz⟩:=@lay3 W2 (.int .i64 ar) (.int .i64 0) (.slice none 0 0) 41;obtain⟨W0,hW0⟩:∃W0,W0=W2.alloc (.cells #[.int .i64 ar,.int .i64 0,.slice none 0 0] 41):=⟨_,rfl⟩;rw[<-hW0]at z0 z1 z2 bz zf lz;obtain⟨b1,hb1⟩:∃b1,Hid (b1=W2.heap.size):=⟨_,rfl⟩;rw[<-hb1.out]at z0 z1 z2 zf lz;have SB0:Hid (SvBox W0 b1 ar 0 (.slice none 0 0)):=⟨z0,z1,z2,zf,lz⟩;have hb10:Hid (b1<W0.heap.size):=lz;have h20:Hid (W2.heap.size<=W0.heap.size):=bz.size;have BZ:Hid (Below W2.heap.size W2 W0):=bz;clear z0 z1 z2 bz zf lz T2;obtain⟨i0,hi,hz0,hz1,hz2⟩:=info_bytesW'
 go_enter Tryz.func98,Tryz.ntmps98
 go_wp2_with fail
 rw[<-hW2];rw[<-hW0];have eb:w.heap.size+1+1=b1:=by rw[hb1.out,hW2];simp
 rw[eb];clear hW2 hW0 eb
 go_loopw [13,14,15,16] (fun wv iv pv i wr=>∃(r:Nat) (vals:List Value) (y:Int),r<=2/\i= .int .i64 (r:Int)/\wv= .bool (wlR V r)/\iv= .bool (wiR V r)/\Hid (Vs wr W0.heap.size 42 pv ((List.range r).map fun i=>(V i).da) vals)/\Hid (SvBox wr b1 ar y (.slice none 0 0))/\Hid (0<r->y=(V 0).ep)/\Hid (Below W2.heap.size W2 wr)/\Hid (W0.heap.size<=wr.heap.size)/\Hid (r=0->pv= .slice none 0 0)/\Hid (0<r->X=0)) (fun _ _ _ i _=>2-(intOf i).toNat)
 case atStart=>exact⟨0,[],0,Zz,rfl,rfl,rfl,Vs.nil _ _ _,SB0.out,(fun q=>absurd q (Nat.lt_irrefl _)),BZ.out,Zr,(fun _=>rfl),(fun q=>absurd q (Nat.lt_irrefl _))⟩
 case round=>
  obtain⟨r,vals,y,hr,rfl,rfl,rfl,hV,hS,hy,hB,hsz,hp0,hx0⟩:=hrel;have hlen:Hid (((List.range r).map fun i=>(V i).da).length=r):=by show _=_;rw[List.length_map,List.length_range]
  obtain⟨pa,pc,epv⟩:=hV.out.form;rw[hlen.out]at epv;subst epv;obtain⟨⟨⟨y0,y1,y2,y3,y4,y5⟩,B0⟩,_⟩:=T3.out wr hB.out;simp only at y0 y1 y2 y3 y4 y5;have HB0:=hidI B0
  by_cases hlt:r<2
  ·have hlt':(r:Int)<2:=by omega
   have KS1:=fun V=>KS V (r:Int)
   rw[hAD.out r]at KS1;have KR1:=fun W3 (b:Below wr.heap.size wr W3)=>KR0 W3 (HB0.out.step16 b HB0.out.size) r
   rw[EVA.out r]at KR1;have DVr:=DV.out r;obtain⟨Vr,hVr⟩:∃Vr,Hid (V r=Vr):=⟨_,rfl⟩;rw[hVr.out]at KR1 DVr;obtain⟨vh,ve,vda,vco,vw⟩:=Vr;simp only at DVr;clear B0
   go_wp2_with fail
   refine(KS1 _).mono ?_
   rintro _ w2 ⟨rfl,B2⟩;clear KS1 y0 y1 y2 y3 y4 y5;have KR2:=KR1 w2 B2;clear KR1
   go_wp2_with fail
   refine KR2.mono ?_
   rintro _ w3 ⟨vd,rfl,R3,F3,B3⟩;clear KR2;simp only at R3;obtain⟨da,dc,ed⟩:=R3.form;subst ed;rw[show aggV ⟨vh,ve,vda,vco,vw⟩ (.slice da vda.length dc)= .agg #[.bool vh,.int .i64 ve,.slice da vda.length dc,.int .i64 ((vco:Nat):Int),.bool vw]from rfl];have B13:=B2.step16 B3 B2.size;obtain⟨w4,hw4⟩:∃w4,w4=w3.alloc (.cells #[.bool vh,.int .i64 ve,.slice da vda.length dc,.int .i64 ((vco:Nat):Int),.bool vw] 130):=⟨_,rfl⟩;have b4:Below w3.heap.size w3 w4:=by rw[hw4];exact belR _ _
   have v0:w4.cell? ⟨w3.heap.size,0,none⟩=some (.bool vh):=by rw[hw4];exact World.cell?_alloc_new _ _ _ _
   have v1:w4.cell? ⟨w3.heap.size,1,none⟩=some (.int .i64 ve):=by rw[hw4];exact World.cell?_alloc_new _ _ _ _
   have v2:w4.cell? ⟨w3.heap.size,2,none⟩=some (.slice da vda.length dc):=by rw[hw4];exact World.cell?_alloc_new _ _ _ _
   have v4:w4.cell? ⟨w3.heap.size,4,none⟩=some (.bool vw):=by rw[hw4];exact World.cell?_alloc_new _ _ _ _
   have hvb1:Hid (b1<w3.heap.size):=by show _<_;have h1:=hb10.out;have h2:=hsz.out;have h3:=B13.size;omega
   obtain⟨vb,hvb⟩:∃vb,Hid (vb=w3.heap.size):=⟨_,rfl⟩;have B14:=B13.step16 b4 B13.size;have R4:=hidI (R3.below b4);have S4:=hidI (hS.out.below B14);have BB4:=hidI (hB.out.step16 B14 hB.out.size);have Z4:Hid (W0.heap.size<=w4.heap.size):=Nat.le_trans hsz.out B14.size;have V4:=hidI (hV.out.below B14);have AP:Hid (∀g,g<wr.heap.size->Apart g (.slice da vda.length dc)):=fun g hg x n c e=>(F3 x n c e).imp id fun q k=>by have:=B2.size;omega
   have hap:Hid (∀g,(Value.slice pa r pc).ownBlock=some g->Apart g (.slice da vda.length dc)):=fun g hg=>AP.out g (Zv hV.out.row g hg).2
   have ap1:Hid (Apart b1 (.slice da vda.length dc)):=AP.out b1 (by have h1:=hb10.out;have h2:=hsz.out;omega);rw[<-hvb.out]at v0 v1 v2 v4 hvb1;clear B13 B14 B2 B3 b4 R3 F3 AP hV hS hB hsz
   go_upto_region 9 with fail
   rw[<-hw4,<-hvb.out];clear hw4
   by_cases hx:X=0
   rotate_left
   ·have x1:(X==0)=false:=Zq.2 hx;have x2:(X !=0)=true:=by simp[bne,x1]
    obtain⟨⟨_,BW4⟩,q0,q1,q2,qf⟩:=T3.out w4 BB4.out;have f0:=qf 0;have f1:=qf 1;have f2:=qf 2;obtain⟨c0,c1,c2,_,_⟩:=S4.out;obtain⟨oY,s0,s1,s2⟩:=set3 (a:=.int .i64 ar) (b:=.int .i64 y) (c:=.slice none 0 0) q0 q1 q2;have F:Hid (∀A:ArW,A.ar=ar->One18 w X A (.returned (.tuple #[.agg #[.int .i64 ar,.int .i64 y,.slice none 0 0],.bool false,.bool false,.int .i64 X])) (((w4.setCell ⟨w.heap.size+1,0,none⟩ (.int .i64 ar)).setCell ⟨w.heap.size+1,1,none⟩ (.int .i64 y)).setCell ⟨w.heap.size+1,2,none⟩ (.slice none 0 0))):=fun A e=>⟨Or.inr ⟨hx,y,by rw[e]⟩,BW4.trans (oY.below (Nat.le_succ _))⟩
    clear T3 BB4 S4 V4 R4 oY qf BW4 KS KR0 EVA DV WLs WIs hAD hVr hy hp0 hx0 SB0 BZ;go_wp2;exact bodyPost_ret (v:=.tuple #[.agg #[.int .i64 ar,.int .i64 y,.slice none 0 0],.bool false,.bool false,.int .i64 X]) (by simp[results,Tryz.results98,go_sem,s0,s1,s2]) rfl (F.out _ rfl)
   subst hx;have XZ:Hid ((0:Int)=0):=rfl;have LST:Hid (((List.range r).map fun i=>(V i).da)++[vda]=(List.range (r+1)).map fun i=>(V i).da):=by
    show _=_
    rw[List.range_succ,List.map_append]
    show _=_++[(V r).da]
    rw[hVr.out]
   have WLr:=hidI (WLs.out r);have WIr:=hidI (WIs.out r);rw[hVr.out]at WLr WIr;have EP0:Hid (r=0->ve=(V 0).ep):=fun q=>by rw[<-q,hVr.out]
   obtain⟨wl,hwl⟩:∃wl,Hid (wlR V r=wl):=⟨_,rfl⟩;obtain⟨wi,hwi⟩:∃wi,Hid (wiR V r=wi):=⟨_,rfl⟩;have W00:Hid (r=0->wl=true/\wi=true):=fun q=>⟨by rw[<-hwl.out,q];rfl,by rw[<-hwi.out,q];rfl⟩
   rw[hwl.out]at WLr ⊢;rw[hwi.out]at WIr ⊢;simp only at WLr WIr;clear hwl hwi KS KR0 EVA DV WLs WIs hAD hVr T3 SB0 BZ hx0
   by_cases r0:r=0
   ·obtain⟨rfl,rfl⟩:=W00.out r0;have e1:((r:Int)==0)=true:=by rw[r0];rfl
    have yE:=hidI (EP0.out r0);rw[<-yE.out]at WLr;have ep0:=hp0.out r0;obtain⟨ye,hye⟩:∃ye,ye=ve:=⟨_,rfl⟩;have oY:Only b1 w4 (w4.setCell ⟨b1,1,none⟩ (.int .i64 ve)):=(Only.refl _ _).setCell _ _;have RY:=hidI (R4.out.only ap1.out oY);have SY:=hidI (S4.out.ep ve);have BY:=hidI (BB4.out.trans (oY.below (by rw[hb1.out];exact Zr)));have zY:Hid (W0.heap.size<=(w4.setCell ⟨b1,1,none⟩ (.int .i64 ve)).heap.size):=by show _<=_;rw[oY.size];exact Z4.out
    have VY:Hid (Vs (w4.setCell ⟨b1,1,none⟩ (.int .i64 ve)) W0.heap.size 42 (.slice pa r pc) ((List.range r).map fun i=>(V i).da) vals):=by
     have hl:=V4.out.len;rw[hlen.out,r0]at hl;rw[ep0,List.length_eq_zero_iff.1 hl,r0];exact Vs.nil _ _ _
    clear ep0;have nb:¬vb=b1:=by have:=hvb1.out;omega
    have u0:=(oY.cell (p:=⟨vb,0,none⟩) nb).trans v0;have u1:=(oY.cell (p:=⟨vb,1,none⟩) nb).trans v1;have u2:=(oY.cell (p:=⟨vb,2,none⟩) nb).trans v2;have u4:=(oY.cell (p:=⟨vb,4,none⟩) nb).trans v4;obtain⟨Y,hY⟩:∃Y,Y=w4.setCell ⟨b1,1,none⟩ (.int .i64 ve):=⟨_,rfl⟩;rw[<-hY]at RY SY BY zY VY u0 u1 u2 u4;obtain⟨c0,c1,c2,cf,_⟩:=S4.out;have f1:=cf 1;clear oY R4 S4 BB4 Z4 V4 W00 EP0 hp0 hy cf nb ap1 hvb1
    go_upto_region 13 with fail
    rw[<-hY];clear hY v0 v1 v2 v4 c0 c1 c2 f1;have d1:=SY.out.c1;subst hye;cases vh with
    |false=>
     have WL:Hid (wlR V (r+1)=false):=by rw[WLr.out];rfl
     have WI:Hid (wiR V (r+1)=vw):=by rw[WIr.out];rfl
     clear WLr WIr;exact one_leaf
    |true=>
     have WL:Hid (wlR V (r+1)=true):=by show _=_;rw[WLr.out,beq_self_eq_true];rfl
     have WI:Hid (wiR V (r+1)=vw):=by rw[WIr.out];rfl
     clear WLr WIr;exact one_leaf
   ·have e1:((r:Int)==0)=false:=Zq.2 Zo;have yE:=hidI (hy.out Zo);rw[<-yE.out]at WLr;obtain⟨ye,hye⟩:∃ye,ye=y:=⟨_,rfl⟩;obtain⟨Y,hY⟩:∃Y,Y=w4:=⟨_,rfl⟩;subst hY;have RY:=R4;have SY:=S4;have BY:=BB4;have zY:=Z4;have VY:=V4;have d1:=SY.out.c1;subst hye;clear W00 EP0 hp0 hy ap1 hvb1 R4 S4 BB4 Z4 V4;cases wl with
    |false=>
     have WL:Hid (wlR V (r+1)=false):=by rw[WLr.out];rfl
     clear WLr;cases wi with
     |false=>
      have WI:Hid (wiR V (r+1)=false):=by rw[WIr.out];rfl
      clear WIr;exact one_leaf
     |true=>
      have WI:Hid (wiR V (r+1)=vw):=by rw[WIr.out];rfl
      clear WIr;exact one_leaf
    |true=>
     cases vh with
     |false=>
      have WL:Hid (wlR V (r+1)=false):=by rw[WLr.out];rfl
      clear WLr;cases wi with
      |false=>
       have WI:Hid (wiR V (r+1)=false):=by rw[WIr.out];rfl
       clear WIr;exact one_leaf
      |true=>
       have WI:Hid (wiR V (r+1)=vw):=by rw[WIr.out];rfl
       clear WIr;exact one_leaf
     |true=>
      have WL:Hid (wlR V (r+1)=(ve==ye)):=by rw[WLr.out];rfl
      clear WLr;cases wi with
      |false=>
       have WI:Hid (wiR V (r+1)=false):=by rw[WIr.out];rfl
       clear WIr;exact one_leaf
      |true=>
       have WI:Hid (wiR V (r+1)=vw):=by rw[WIr.out];rfl
       clear WIr;exact one_leaf
  ·obtain rfl:r=2:=by omega
   have hge:¬(2:Int)<2:=Zo
   have X0:X=0:=hx0.out Zo;have yE:y=(V 0).ep:=hy.out Zo;have hV2:Vs wr W0.heap.size 42 (.slice pa 2 pc) [(V 0).da,(V 1).da] vals:=hV.out;have hU:=runs16_far hV2.rs;subst X0;obtain⟨P,hP⟩:∃P,Hid ([(V 0).da,(V 1).da]=P):=⟨_,rfl⟩;rw[hP.out]at hU;have lw:Hid (w.heap.size+1<wr.heap.size):=by show _<_;have h1:=LW2.out;have h2:=hB.out.size;omega
   have lb:Hid (b1<wr.heap.size):=by show _<_;have h1:=hb10.out;have h2:=hsz.out;omega
   clear hV hV2 y0 y1 y2 y3 y4 y5 B0 hi hz0 hz1 hz2 KS KR0 EVA DV WLs WIs hAD hy hp0 hx0 SB0 BZ hlen
   go_wp2_with fail
   refine hU.mono ?_
   intro e6 w6 h6;obtain⟨v,L,hh,rfl,hv,b6,eob,ehh⟩:=uns_one h6;obtain⟨va,vc,ev⟩:=hv.form;subst ev;have S6:=hS.out.below b6;have B6:=hB.out.step16 b6 hB.out.size;have oY:Only b1 w6 (w6.setCell ⟨b1,2,none⟩ (.slice va L.length vc)):=(Only.refl _ _).setCell _ _;have S7:=S6.ob (.slice va L.length vc);have B7:=B6.trans (oY.below (by rw[hb1.out];exact Zr));have RD7:=rdOF_only hv oY lb.out;obtain⟨Y,hY⟩:∃Y,Y=w6.setCell ⟨b1,2,none⟩ (.slice va L.length vc):=⟨_,rfl⟩;rw[<-hY]at S7 B7 RD7;obtain⟨d0,d1,d2,df,_⟩:=S6;have g2:=df 2;clear hU h6 hv b6 oY B6 df hS hB
   go_upto_region 18 with fail
   rw[<-hY];clear hY d0 d1 d2 g2;obtain⟨⟨_,BW7⟩,q0,q1,q2,qf⟩:=T3.out Y B7;have f0:=qf 0;have f1:=qf 1;have f2:=qf 2;obtain⟨c0,c1,c2,_,_⟩:=S7;obtain⟨oZ,s0,s1,s2⟩:=set3 (a:=.int .i64 ar) (b:=.int .i64 y) (c:=.slice va L.length vc) q0 q1 q2;obtain⟨wl,hwl⟩:∃wl,wlR V 2=wl:=⟨_,rfl⟩;obtain⟨wi,hwi⟩:∃wi,wiR V 2=wi:=⟨_,rfl⟩;have F:Hid (One18 w 0 ⟨ar,(V 0).ep,(onL [(V 0).da,(V 1).da]).getD [],wlR V 2&&(onL [(V 0).da,(V 1).da]).isSome,wiR V 2⟩ (.returned (.tuple #[.agg #[.int .i64 ar,.int .i64 y,.slice va L.length vc],.bool (wl&&(hh==0)),.bool wi,.int .i64 0])) (((Y.setCell ⟨w.heap.size+1,0,none⟩ (.int .i64 ar)).setCell ⟨w.heap.size+1,1,none⟩ (.int .i64 y)).setCell ⟨w.heap.size+1,2,none⟩ (.slice va L.length vc))):=by
    show One18 _ _ _ _ _
    rw[hP.out,hwl,hwi];exact⟨Or.inl ⟨rfl,_,L,by rw[yE,ehh],(rdOF_only RD7 oZ lw.out).mono (by have:=lw.out;omega),eob⟩,BW7.trans (oZ.below (Nat.le_succ _))⟩
   clear T3 B7 RD7 oZ qf BW7 eob ehh yE hP;have hwl2:=hidI hwl;rw[hwl,hwi];clear hwl;cases wl with
   |false=>
    go_wp2;exact bodyPost_ret (v:=.tuple #[.agg #[.int .i64 ar,.int .i64 y,.slice va L.length vc],.bool false,.bool wi,.int .i64 0]) (by simp[results,Tryz.results98,go_sem,s0,s1,s2]) rfl F.out
   |true=>
    go_wp2;exact bodyPost_ret (v:=.tuple #[.agg #[.int .i64 ar,.int .i64 y,.slice va L.length vc],.bool (hh==0),.bool wi,.int .i64 0]) (by simp[results,Tryz.results98,go_sem,s0,s1,s2]) rfl F.out
end Go.Proofs.YtclieefpnbdbjaaGreat.Gf
