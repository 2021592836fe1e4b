/- JOINED: MeDid, MeSml, MeUni. -/
import Derived.Test.YtclieefpnbdbjaaGreatPome32
import Derived.Test.YtclieefpnbdbjaaGreatPome14
import Derived.Test.YtclieefpnbdbjaaGreatPome33
set_option maxHeartbeats 8000000
set_option maxRecDepth 100000
namespace Go.Proofs.YtclieefpnbdbjaaGreat.Gf
set_option linter.unusedVariables false
set_option linter.unusedSimpArgs false
open Go.RowKit
structure BoxM(w:World)(P X:Nat)(g:GeoS)(cs:Array Value):Prop where
 ge:GeoAt w P g
 cs:∀j,w.cell? ⟨X,j,none⟩=cs[j]?
 lP:P<w.heap.size
 lX:X<w.heap.size
theorem BoxM.turn{G:Nat->Prop}{w w':World}{P X:Nat}{g:GeoS}{cs:Array Value}(h:BoxM w P X g cs)(t:TurnG G w w')(hP:¬G P)(hX:¬G X):BoxM w' P X g cs:=by
 obtain⟨⟨x0,x1,x2,x3,x4,x5⟩,c,l1,l2⟩:=h;have k:∀j,w'.cell? ⟨P,j,none⟩=w.cell? ⟨P,j,none⟩:=fun j=>t.cell (p:=⟨P,j,none⟩) l1 hP
 exact⟨⟨(k _).trans x0,(k _).trans x1,(k _).trans x2,(k _).trans x3,(k _).trans x4,(k _).trans x5⟩,fun j=>(t.cell (p:=⟨X,j,none⟩) l2 hX).trans (c j),Zu l1 t.size,Zu l2 t.size⟩
theorem BoxM.below{w w':World}{P X:Nat}{g:GeoS}{cs:Array Value}(h:BoxM w P X g cs)(b:Below w.heap.size w w'):BoxM w' P X g cs:=h.turn (G:=fun _=>False) (Below.turnG b _) (fun h=>h) (fun h=>h)
theorem boxM_laid(w:World)(g:GeoS)(cs:Array Value)(e f:Nat):BoxM ((w.alloc (.cells (cellsG g) e)).alloc (.cells cs f)) w.heap.size (w.heap.size+1) g cs/\Below w.heap.size w ((w.alloc (.cells (cellsG g) e)).alloc (.cells cs f)):=by
 obtain⟨u,hu⟩:∃u,u=w.alloc (.cells (cellsG g) e):=⟨_,rfl⟩;have LG:=geo_laid w g e;rw[<-hu]at LG ⊢;have s1:u.heap.size=w.heap.size+1:=by rw[hu];simp
 have b2:Below u.heap.size u (u.alloc (.cells cs f)):=belR _ _;obtain⟨h1,h2⟩:=LG _ b2;rw[<-s1];exact⟨⟨h1,fun j=>World.cell?_alloc_new _ _ _ _,Zm,Zs⟩,h2⟩
theorem rl_may18(a:ArS)(g:GeoS)(K:List Bool)(base:Int):(rlR a g K base).length<=4096/\∀x∈rlR a g K base,OkR x:=by
 by_cases h:rlX a g K base=0
 ·have hg:okG g:=by
   by_cases q:okG g
   ·exact q
   ·exfalso;unfold rlX at h;rw[if_pos q]at h;cases h
  have e:rlR a g K base=(List.range (rlN a g K base)).map fun i=>raR (rlV a g K i).da:=by unfold rlR;rw[if_pos h]
  rw[e];refine⟨?_,fun x hx=>?_⟩
  ·rw[List.length_map,List.length_range];have h1:=ru_le (rlF a g K base) g.t.toNat;have h2:=sec_in hg;have h3:g.t<=4096:=by
    obtain⟨_,_,_,_,_,_,_,_,q,_⟩:=hg;omega
   unfold rlN;omega
  ·obtain⟨i,hi,rfl⟩:=List.mem_map.1 hx;exact(isR_back (rlF_iff.1 (ru_all (rlF a g K base) g.t.toNat i (List.mem_range.1 hi))).2.2).1
 ·have e:rlR a g K base=[]:=rl_bad rfl h;rw[e];exact⟨Zz,fun x hx=>by cases hx⟩
theorem z34_1{p:Prop} (h:p:=by
 rw[<-h,show L.getD i default=L[i] by simp[List.getD,hi]];exact List.mem_map.2 ⟨L[i],List.getElem_mem hi,rfl⟩
 ):p:=h
theorem rcs_st{L:List RcV}{R:List RcS}(h:L.map (·.r)=R)(hR:∀x∈R,OkR x):∀i,i<L.length->(L.getD i default).r.st.length<=1000000:=fun i hi=>by
 have m:(L.getD i default).r∈R:=by
  exact z34_1
 have:=(hR _ m).2.2.2.2.2.1;omega
theorem lt_may18(a:ArS)(g:GeoS)(K:List Bool):(ltA a g K).ob.length<=64/\∀o∈(ltA a g K).ob,OkO o:=by
 have k:∀ar,(onA a g K ar).ob.length<=64/\∀o∈(onA a g K ar).ob,OkO o:=fun ar=>by
  obtain⟨P,hP⟩:∃P,P=[(onV a g K ar 0).da,(onV a g K ar 1).da]:=⟨_,rfl⟩;have e:(onA a g K ar).ob=(onL P).getD []:=by rw[hP];rfl
  rw[e]
  by_cases h:∃l,IsP P l
  ·obtain⟨l,hl⟩:=h;rw[onL_some hl];have M:MayL l:=(isP_back hl).1;exact⟨M.1,fun o ho=>M.all ho⟩
  ·rw[onL_none h];exact⟨Zz,fun o ho=>by cases ho⟩
 unfold ltA
 split
 ·unfold ltW
  split
  ·exact k 1
  ·exact k 0
 ·exact⟨Zz,fun o ho=>by cases ho⟩
theorem obs_st{L:List ObV}{R:List ObS}(h:oL L=R)(hR:∀o∈R,OkO o):∀i,i<L.length->(L.getD i default).o.st.length<=1000000:=fun i hi=>by
 have m:(L.getD i default).o∈R:=by
  exact z34_1
 have h1:OkR (putR (L.getD i default).o):=(hR _ m).1;have h2:(putR (L.getD i default).o).st.length<=256:=h1.2.2.2.2.2.1;have h3:(L.getD i default).o.st.length<=256:=h2;omega
theorem rbools18_any{w:World}{a1 a2:Option Addr}{c1 c2:Nat}{L:List Bool}(h1:RdB w (.slice a1 L.length c1) L)(h2:RdB w (.slice a2 L.length c2) L)(hn:L.length<=1000000):
  Calls Tryz.prog 37 #[.slice a1 L.length c1,.slice a2 L.length c2] w fun e w'=>e= .returned (.bool true)/\Below w.heap.size w w':=by
 go_enter Tryz.func37,Tryz.ntmps37
 go_wp2
 go_loopw [5] (fun i wr=>∃k:Nat,k<=L.length/\i= .int .i64 (k:Int)/\Below w.heap.size w wr) (fun i _=>L.length-(intOf i).toNat)
 case atStart=>exact⟨0,Zz,rfl,Zf⟩
 case round=>
  obtain⟨k,hk,rfl,hB⟩:=hrel
  by_cases hlt:k<L.length
  ·have hlt':(k:Int)<(L.length:Int):=by omega
   obtain⟨b1,o1,rfl,_,k1⟩:=(h1.below hB).at hlt;obtain⟨b2,o2,rfl,_,k2⟩:=(h2.below hB).at hlt;generalize hb L k=y at k1 k2;have HQ:Hid (∀n,Below w.heap.size w (wr.drewN n)):=fun n=>hB.drewN n
   clear h1 h2 hB;cases y
   all_goals
    go_wp2_with fail
    try go_quiet (fail)
    try go_wp2
    go_roundw
    case rel=>exact⟨k+1,Zo,Zg,by first|exact HQ.out _|exact HQ.out 0⟩
    case measure=>simp[intOf];omega
  ·have hlt':¬(k:Int)<(L.length:Int):=by omega
   clear h1 h2;go_wp2;go_ret;exact⟨rfl,hB⟩
section
variable {u1 w:World} {ab rb:Nat} {G HR:Nat->Prop} {a:ArS}
def DidM(u1:World)(ab rb:Nat)(HR:Nat->Prop)(e:Ending)(w':World):Prop:=e= .returned (.bool true)/\∃G' a',BothA u1 w' ab rb G' HR a'
theorem dm_end{p:Prop} (h:p:=by
 go_wp2;go_ret;exact⟨rfl,FF.out⟩):p:=h
theorem did18_any(h:BothA u1 w ab rb G HR a){g:GeoS}(hg:g.Wf){kd n m:Int}(wn:(Lit.int .i64 n).wf=true)(wm:(Lit.int .i64 m).wf=true){di:List Int}{da:Option Addr}{dc:Nat}(pd:RdI u1 (.slice da di.length dc) di)(hd:di.length<=20)(wdi:∀i,i<di.length->(Lit.int .i64 (di.getD i 0)).wf=true)
  {kn:List Bool} {na:Option Addr} {nc:Nat} (pn:RdB u1 (.slice na kn.length nc) kn) {rk rl:Int} {ky:List UInt8} {st:List Int} {sa:Option Addr} {sc:Nat} (pr:RcV.In u1 ⟨⟨rk,ky,rl,st⟩,.slice sa st.length sc⟩)
  {ar ep:Int} (war:(Lit.int .i64 ar).wf=true) {ob:List ObV} {oa:Option Addr} {oc:Nat} (po:RdO u1 (.slice oa ob.length oc) ob) (hob:∀i,i<ob.length->(ob.getD i default).o.st.length<=1000000)
  {ak cd cn cm:Int} {cy:UInt8} {cb:List UInt8} {ck:List VI} {ba ka:Option Addr} {bc kc:Nat} (pb:Rd u1 (.slice ba cb.length bc) cb) (pk:RdII u1 (.slice ka ck.length kc) ck) (wd:(Lit.int .i64 cd).wf=true) (wcn:(Lit.int .i64 cn).wf=true) (wcm:(Lit.int .i64 cm).wf=true) (hk:∀r∈ck,r.2.length<=9223372036854775807):
  Calls Tryz.prog 12 #[.pointer (some ⟨ab,0,none⟩),.pointer (some ⟨rb,0,none⟩),aggG g,.agg #[.int .i64 kd,.int .i64 n,.int .i64 m,.slice da di.length dc,.slice na kn.length nc,.int .i64 rk,.string ⟨ky.toArray⟩,.int .i64 rl,.slice sa st.length sc,.int .i64 ar,.int .i64 ep,.slice oa ob.length oc,.int .i64 ak,.int .i64 cd,.int .i64 cn,.int .i64 cm,.int .u8 ((cy.toNat:Nat):Int),.slice ba cb.length bc,.slice ka ck.length kc]] w (DidM u1 ab rb HR):=by
 obtain⟨CS,hCS⟩:∃CS:Array Value,CS= #[.int .i64 kd,.int .i64 n,.int .i64 m,.slice da di.length dc,.slice na kn.length nc,.int .i64 rk,.string ⟨ky.toArray⟩,.int .i64 rl,.slice sa st.length sc,.int .i64 ar,.int .i64 ep,.slice oa ob.length oc,.int .i64 ak,.int .i64 cd,.int .i64 cn,.int .i64 cm,.int .u8 ((cy.toNat:Nat):Int),.slice ba cb.length bc,.slice ka ck.length kc]:=⟨_,rfl⟩;obtain⟨bx,bA⟩:=boxM_laid w g CS 23 47;obtain⟨W,hW⟩:∃W,W=(w.alloc (.cells #[.int .i64 g.k,.int .i64 g.m,.int .i64 g.z,.int .i64 g.s,.int .i64 g.t,.int .i64 g.o] 23)).alloc (.cells CS 47):=⟨_,rfl⟩;have hA:BothA u1 W ab rb G HR a:=by rw[hW];exact h.below bA
 have BX0:BoxM W w.heap.size (w.heap.size+1) g CS:=by rw[hW];exact bx
 have nP:¬G w.heap.size:=fun e=>by have:=h.D.at_.lt _ e;omega
 have nX:¬G (w.heap.size+1):=fun e=>by have:=h.D.at_.lt _ e;omega
 have BX1:Hid (∀U V G2,Below W.heap.size W U->Grew G U G2 V->BoxM V w.heap.size (w.heap.size+1) g CS):=fun U V G2 b t=>(BX0.below b).turn t.turn nP nX
 have rP:¬HR w.heap.size:=fun e=>by have:=h.R.lt _ e;omega
 have rX:¬HR (w.heap.size+1):=fun e=>by have:=h.R.lt _ e;omega
 have BX2:Hid (∀U V,BoxM U w.heap.size (w.heap.size+1) g CS->TurnG HR U V->BoxM V w.heap.size (w.heap.size+1) g CS):=fun U V b t=>b.turn t rP rX
 have BX:Hid (∀V,Below W.heap.size W V->BoxM V w.heap.size (w.heap.size+1) g CS):=fun V t=>BX0.below t
 clear bx bA nP nX rP rX h;rw[hCS]at hW BX0 BX BX1 BX2;clear hCS;have y:=BX0.cs;obtain⟨z0,z1,z2,z3,z4,z5⟩:=BX0.ge;have y0:=y 0;have y1:=y 1;have y2:=y 2;have y3:=y 3;have y4:=y 4;have y5:=y 5;have y6:=y 6;have y7:=y 7;have y8:=y 8;have y9:=y 9;have y10:=y 10;have y11:=y 11;have y12:=y 12;have y13:=y 13;have y14:=y 14;have y15:=y 15;have y16:=y 16;have y17:=y 17;have y18:=y 18;simp at y0 y1 y2 y3 y4 y5 y6 y7 y8 y9 y10 y11 y12 y13 y14 y15 y16 y17 y18;clear y BX0;have HA:=hidI hA;have HRN:=hidI HA.out.rN
 by_cases k1:kd=1
 ·subst k1;have KW:=fun V (hV:BothA u1 V ab rb G HR a)=>mlabelA_any hV.D.at_ (dv:=.slice da di.length dc) (l:=di) (fun Z t=>pd.below (hV.B.trans (t.below hV.D.low hV.D.size))) Zo wdi
  have KR:=fun V G2 (hR:RaAt V rb HR G2 a) (bV:Below u1.heap.size u1 V)=>rlabelA18_any hR (dv:=.slice da di.length dc) (l:=di) (fun Z t=>pd.below (bV.trans (t.below HRN.out bV.size))) Zo
  clear hA;obtain⟨k,m',z,s,t,o⟩:=g;simp only at hW z0 z1 z2 z3 z4 z5;rw[aggE];have HKW:=hidI KW;have HKR:=hidI KR;have SS:Hid (∀V,BoxM V w.heap.size (w.heap.size+1) ⟨k,m',z,s,t,o⟩ #[.int .i64 1,.int .i64 n,.int .i64 m,.slice da di.length dc,.slice na kn.length nc,.int .i64 rk,.string ⟨ky.toArray⟩,.int .i64 rl,.slice sa st.length sc,.int .i64 ar,.int .i64 ep,.slice oa ob.length oc,.int .i64 ak,.int .i64 cd,.int .i64 cn,.int .i64 cm,.int .u8 ((cy.toNat:Nat):Int),.slice ba cb.length bc,.slice ka ck.length kc]->(fun V=>V.cell? ⟨w.heap.size+1,3,none⟩=some (.slice da di.length dc)) V):=fun V b=>by
   obtain⟨g0,g1,g2,g3,g4,g5⟩:=b.ge;exact(b.cs 3).trans rfl
  have BD:Below W.heap.size W W.drew:=Zf.drew;have C0:=SS.out W (BX.out W Zf);have hAD:=hidI (HA.out.below BD);have HBD:=hidI BD;clear KW KR BD HA
  go_enter Tryz.func12,Tryz.ntmps12
  go_wp2_with fail
  rw[<-hW];clear hW y0 y1 y2 y3 y4 y5 y6 y7 y8 y9 y10 y11 y12 y13 y14 y15 y16 y17 y18 z0 z1 z2 z3 z4 z5
  go_region_held3 (fun V=>V.cell? ⟨w.heap.size+1,3,none⟩=some (.slice da di.length dc)) (first|exact C0|exact m2|exact m3) (first
   |(go_at_call 29;refine(HKW.out _ hAD.out).mono ?_;rintro _ v2 ⟨rfl,G2,A2,g2⟩;have R2:=RaAt.other hAD.out.R g2 A2.lt;have U2:=hAD.out.B.trans (hAD.out.D.bel g2);have N2:=hidI (BX1.out _ v2 G2 HBD.out g2);have m2:=SS.out v2 N2.out)
   |(go_at_call 35;refine(HKR.out _ _ R2 U2).mono ?_;rintro _ v3 ⟨rfl,R3,t3⟩;have m3:=SS.out v3 (BX2.out v2 v3 N2.out t3)))
  all_goals
   have FF:Hid (∃G' a',BothA u1 v3 ab rb G' HR a'):=⟨G2,_,hAD.out.step A2 g2 R3 t3⟩;clear HKW HKR SS C0 m2 m3 R2 U2 N2 R3 t3 A2 g2 hAD HBD BX BX1 BX2;exact dm_end
 by_cases k2:kd=2
 ·subst k2;have KW:=mknows_any hA.D.at_;have KR:=hidI fun V (h:BothA u1 V ab rb G HR a)=>rknows18_any h.R
  have kl:Hid ((knL a).length<=1000):=by
   show _<=_
   have d2:=hA.D.at_.ok.d2;unfold knL
   split
   ·exact Zz
   ·rw[List.length_map,List.length_range];omega
  obtain⟨X,hX⟩:∃X,knX a=X:=⟨_,rfl⟩;obtain⟨KL,hKL⟩:∃KL,knL a=KL:=⟨_,rfl⟩;rw[hX,hKL]at KW;rw[hX,hKL]at KR;rw[hKL]at kl;clear hA hX hKL;obtain⟨k,m',z,s,t,o⟩:=g;simp only at hW z0 z1 z2 z3 z4 z5;rw[aggE]
  go_enter Tryz.func12,Tryz.ntmps12
  go_wp2_with fail
  rw[<-hW];clear hW;refine KW.mono ?_
  rintro _ v2 ⟨xv,rfl,r2,f2,b2⟩;obtain⟨xa,xc,ex⟩:=r2.form;subst ex;have h3:=hidI (HA.out.below b2);have K2:=KR.out _ h3.out;clear KW KR f2 b2 HA BX BX1 BX2 z0 z1 z2 z3 z4 z5 y0 y1 y2 y3 y4 y5 y6 y7 y8 y9 y10 y11 y12 y13 y14 y15 y16 y17 y18
  go_wp2_with fail
  refine K2.mono ?_
  rintro _ v3 ⟨yv,rfl,ow,b3⟩;have r3:=ow.rd kl.out;obtain⟨ya,yc,ey⟩:=r3.form;subst ey;have K3:=rbools18_any (r2.below b3) r3 (by have:=kl.out;omega);have h4:=hidI (h3.out.below b3);clear K2 r2 r3 ow b3 h3
  go_wp2_with fail
  refine K3.mono ?_
  rintro _ v4 ⟨rfl,b4⟩;have FF:Hid (∃G' a',BothA u1 v4 ab rb G' HR a'):=⟨G,_,h4.out.below b4⟩;clear K3 b4 h4;exact dm_end
 by_cases k3:kd=3
 ·subst k3;have KW:=fun V (hV:BothA u1 V ab rb G HR a)=>mappend_any hV.D.at_ hg (base:=n) wm (pr.below hV.B)
  have KR:=fun V G2 (hR:RaAt V rb HR G2 a) (bV:Below u1.heap.size u1 V)=>rappend18_any hR hg (base:=n) wn wm (pr.below bV)
  clear hA;obtain⟨k,m',z,s,t,o⟩:=g;simp only at hW z0 z1 z2 z3 z4 z5;rw[aggE]at KW KR ⊢;rw[show aggR ⟨⟨rk,ky,rl,st⟩,.slice sa st.length sc⟩= .agg #[.int .i64 rk,.string ⟨ky.toArray⟩,.int .i64 rl,.slice sa st.length sc]from rfl]at KW KR;have HKW:=hidI KW;have HKR:=hidI KR;have SS:Hid (∀V,BoxM V w.heap.size (w.heap.size+1) ⟨k,m',z,s,t,o⟩ #[.int .i64 3,.int .i64 n,.int .i64 m,.slice da di.length dc,.slice na kn.length nc,.int .i64 rk,.string ⟨ky.toArray⟩,.int .i64 rl,.slice sa st.length sc,.int .i64 ar,.int .i64 ep,.slice oa ob.length oc,.int .i64 ak,.int .i64 cd,.int .i64 cn,.int .i64 cm,.int .u8 ((cy.toNat:Nat):Int),.slice ba cb.length bc,.slice ka ck.length kc]->(fun V=>V.cell? ⟨w.heap.size,0,none⟩=some (.int .i64 k)/\V.cell? ⟨w.heap.size,1,none⟩=some (.int .i64 m')/\V.cell? ⟨w.heap.size,2,none⟩=some (.int .i64 z)/\V.cell? ⟨w.heap.size,3,none⟩=some (.int .i64 s)/\V.cell? ⟨w.heap.size,4,none⟩=some (.int .i64 t)/\V.cell? ⟨w.heap.size,5,none⟩=some (.int .i64 o)/\V.cell? ⟨w.heap.size+1,1,none⟩=some (.int .i64 n)/\V.cell? ⟨w.heap.size+1,2,none⟩=some (.int .i64 m)/\V.cell? ⟨w.heap.size+1,5,none⟩=some (.int .i64 rk)/\V.cell? ⟨w.heap.size+1,6,none⟩=some (.string ⟨ky.toArray⟩)/\V.cell? ⟨w.heap.size+1,7,none⟩=some (.int .i64 rl)/\V.cell? ⟨w.heap.size+1,8,none⟩=some (.slice sa st.length sc)) V):=fun V b=>by
   obtain⟨g0,g1,g2,g3,g4,g5⟩:=b.ge;exact⟨g0,g1,g2,g3,g4,g5,(b.cs 1).trans rfl,(b.cs 2).trans rfl,(b.cs 5).trans rfl,(b.cs 6).trans rfl,(b.cs 7).trans rfl,(b.cs 8).trans rfl⟩
  have BD:Below W.heap.size W W.drew:=Zf.drew;have C0:=SS.out W (BX.out W Zf);have hAD:=hidI (HA.out.below BD);have HBD:=hidI BD;clear KW KR BD HA
  go_enter Tryz.func12,Tryz.ntmps12
  go_wp2_with fail
  rw[<-hW];clear hW y0 y1 y2 y3 y4 y5 y6 y7 y8 y9 y10 y11 y12 y13 y14 y15 y16 y17 y18 z0 z1 z2 z3 z4 z5
  go_region_held3 (fun V=>V.cell? ⟨w.heap.size,0,none⟩=some (.int .i64 k)/\V.cell? ⟨w.heap.size,1,none⟩=some (.int .i64 m')/\V.cell? ⟨w.heap.size,2,none⟩=some (.int .i64 z)/\V.cell? ⟨w.heap.size,3,none⟩=some (.int .i64 s)/\V.cell? ⟨w.heap.size,4,none⟩=some (.int .i64 t)/\V.cell? ⟨w.heap.size,5,none⟩=some (.int .i64 o)/\V.cell? ⟨w.heap.size+1,1,none⟩=some (.int .i64 n)/\V.cell? ⟨w.heap.size+1,2,none⟩=some (.int .i64 m)/\V.cell? ⟨w.heap.size+1,5,none⟩=some (.int .i64 rk)/\V.cell? ⟨w.heap.size+1,6,none⟩=some (.string ⟨ky.toArray⟩)/\V.cell? ⟨w.heap.size+1,7,none⟩=some (.int .i64 rl)/\V.cell? ⟨w.heap.size+1,8,none⟩=some (.slice sa st.length sc)) (first|exact C0|exact m2|exact m3) (first
   |(go_at_call 28;refine(HKW.out _ hAD.out).mono ?_;rintro _ v2 ⟨rfl,G2,A2,g2⟩;have R2:=RaAt.other hAD.out.R g2 A2.lt;have U2:=hAD.out.B.trans (hAD.out.D.bel g2);have N2:=hidI (BX1.out _ v2 G2 HBD.out g2);have m2:=SS.out v2 N2.out)
   |(go_at_call 38;refine(HKR.out _ _ R2 U2).mono ?_;rintro _ v3 ⟨rfl,R3,t3⟩;have m3:=SS.out v3 (BX2.out v2 v3 N2.out t3)))
  all_goals
   have FF:Hid (∃G' a',BothA u1 v3 ab rb G' HR a'):=⟨G2,_,hAD.out.step A2 g2 R3 t3⟩;clear HKW HKR SS C0 m2 m3 R2 U2 N2 R3 t3 A2 g2 hAD HBD BX BX1 BX2;exact dm_end
 by_cases k4:kd=4
 ·subst k4;have KW:=mreplay_any hA.D.at_ hg (pn.below hA.B) (base:=n);have KR:=hidI fun V (h:BothA u1 V ab rb G HR a)=>rreplay18_any h.R hg (pn.below h.B) (base:=n) wn
  have MO:=rl_may18 a g kn n;obtain⟨X,hX⟩:∃X,rlX a g kn n=X:=⟨_,rfl⟩;obtain⟨R,hR⟩:∃R,rlR a g kn n=R:=⟨_,rfl⟩;rw[hX,hR]at KW;rw[hX,hR]at KR;rw[hR]at MO;have HM:=hidI MO;clear hA hX hR MO;obtain⟨k,m',z,s,t,o⟩:=g;simp only at hW z0 z1 z2 z3 z4 z5;rw[aggE]at KW KR ⊢
  go_enter Tryz.func12,Tryz.ntmps12
  go_wp2_with fail
  rw[<-hW];clear hW;refine KW.mono ?_
  rintro _ v2 ⟨xv,L,rfl,ow,el,b2⟩;have HL:Hid (L.length<=4096):=by show _<=_;rw[<-List.length_map (f:=(·.r)),el];exact HM.out.1
  have r2:=ow.rd (by have:=HL.out;omega);obtain⟨xa,xc,ex⟩:=r2.form;subst ex;have EL:=hidI el;have h3:=hidI (HA.out.below b2);have K2:=KR.out _ h3.out;obtain⟨⟨x0,x1,x2,x3,x4,x5⟩,q,_,_⟩:=BX.out v2 b2;simp only at x0 x1 x2 x3 x4 x5;have q1:=q 1;have q4:=q 4;simp at q1 q4;clear KW KR b2 HA BX BX1 BX2 z0 z1 z2 z3 z4 z5 q el ow y0 y1 y2 y3 y4 y5 y6 y7 y8 y9 y10 y11 y12 y13 y14 y15 y16 y17 y18
  go_wp2_with fail
  refine K2.mono ?_
  rintro _ v3 ⟨yv,M,rfl,ow3,el3,b3⟩;have HL3:Hid (M.length<=4096):=by show _<=_;rw[<-List.length_map (f:=(·.r)),el3];exact HM.out.1
  have r3:=ow3.rd (by have:=HL3.out;omega);obtain⟨ya,yc,ey⟩:=r3.form;subst ey;have K3:=rrecs18_any (r2.below b3) r3 (by have:=HL.out;omega) (rcs_st EL.out HM.out.2) (rcs_st el3 HM.out.2);have EQ:Hid (L.map (·.r)=M.map (·.r)):=EL.out.trans el3.symm;have h4:=hidI (h3.out.below b3);clear K2 r2 r3 ow3 b3 h3 el3 EL HL HL3 HM x0 x1 x2 x3 x4 x5 q1 q4
  go_wp2_with fail
  refine K3.mono ?_
  rintro _ v4 ⟨xx,rfl,hxx,b4⟩;obtain rfl:xx=true:=hxx.2 EQ.out;have FF:Hid (∃G' a',BothA u1 v4 ab rb G' HR a'):=⟨G,_,h4.out.below b4⟩;clear K3 b4 h4 hxx EQ;exact dm_end
 by_cases k5:kd=5
 ·subst k5;have KW:=fun V (hV:BothA u1 V ab rb G HR a)=>msave_any hV.D.at_ hg war (ep:=ep) (po.below hV.B) hob
  have KR:=fun V G2 (hR:RaAt V rb HR G2 a) (bV:Below u1.heap.size u1 V)=>rsave18_any hR hg war (ep:=ep) (po.below bV) hob
  clear hA;obtain⟨k,m',z,s,t,o⟩:=g;simp only at hW z0 z1 z2 z3 z4 z5;rw[aggE]at KW KR ⊢;have HKW:=hidI KW;have HKR:=hidI KR;have SS:Hid (∀V,BoxM V w.heap.size (w.heap.size+1) ⟨k,m',z,s,t,o⟩ #[.int .i64 5,.int .i64 n,.int .i64 m,.slice da di.length dc,.slice na kn.length nc,.int .i64 rk,.string ⟨ky.toArray⟩,.int .i64 rl,.slice sa st.length sc,.int .i64 ar,.int .i64 ep,.slice oa ob.length oc,.int .i64 ak,.int .i64 cd,.int .i64 cn,.int .i64 cm,.int .u8 ((cy.toNat:Nat):Int),.slice ba cb.length bc,.slice ka ck.length kc]->(fun V=>V.cell? ⟨w.heap.size,0,none⟩=some (.int .i64 k)/\V.cell? ⟨w.heap.size,1,none⟩=some (.int .i64 m')/\V.cell? ⟨w.heap.size,2,none⟩=some (.int .i64 z)/\V.cell? ⟨w.heap.size,3,none⟩=some (.int .i64 s)/\V.cell? ⟨w.heap.size,4,none⟩=some (.int .i64 t)/\V.cell? ⟨w.heap.size,5,none⟩=some (.int .i64 o)/\V.cell? ⟨w.heap.size+1,9,none⟩=some (.int .i64 ar)/\V.cell? ⟨w.heap.size+1,10,none⟩=some (.int .i64 ep)/\V.cell? ⟨w.heap.size+1,11,none⟩=some (.slice oa ob.length oc)) V):=fun V b=>by
   obtain⟨g0,g1,g2,g3,g4,g5⟩:=b.ge;exact⟨g0,g1,g2,g3,g4,g5,(b.cs 9).trans rfl,(b.cs 10).trans rfl,(b.cs 11).trans rfl⟩
  have BD:Below W.heap.size W W.drew:=Zf.drew;have C0:=SS.out W (BX.out W Zf);have hAD:=hidI (HA.out.below BD);have HBD:=hidI BD;clear KW KR BD HA
  go_enter Tryz.func12,Tryz.ntmps12
  go_wp2_with fail
  rw[<-hW];clear hW y0 y1 y2 y3 y4 y5 y6 y7 y8 y9 y10 y11 y12 y13 y14 y15 y16 y17 y18 z0 z1 z2 z3 z4 z5
  go_region_held3 (fun V=>V.cell? ⟨w.heap.size,0,none⟩=some (.int .i64 k)/\V.cell? ⟨w.heap.size,1,none⟩=some (.int .i64 m')/\V.cell? ⟨w.heap.size,2,none⟩=some (.int .i64 z)/\V.cell? ⟨w.heap.size,3,none⟩=some (.int .i64 s)/\V.cell? ⟨w.heap.size,4,none⟩=some (.int .i64 t)/\V.cell? ⟨w.heap.size,5,none⟩=some (.int .i64 o)/\V.cell? ⟨w.heap.size+1,9,none⟩=some (.int .i64 ar)/\V.cell? ⟨w.heap.size+1,10,none⟩=some (.int .i64 ep)/\V.cell? ⟨w.heap.size+1,11,none⟩=some (.slice oa ob.length oc)) (first|exact C0|exact m2|exact m3) (first
   |(go_at_call 27;refine(HKW.out _ hAD.out).mono ?_;rintro _ v2 ⟨rfl,G2,A2,g2⟩;have R2:=RaAt.other hAD.out.R g2 A2.lt;have U2:=hAD.out.B.trans (hAD.out.D.bel g2);have N2:=hidI (BX1.out _ v2 G2 HBD.out g2);have m2:=SS.out v2 N2.out)
   |(go_at_call 40;refine(HKR.out _ _ R2 U2).mono ?_;rintro _ v3 ⟨rfl,R3,t3⟩;have m3:=SS.out v3 (BX2.out v2 v3 N2.out t3)))
  all_goals
   have FF:Hid (∃G' a',BothA u1 v3 ab rb G' HR a'):=⟨G2,_,hAD.out.step A2 g2 R3 t3⟩;clear HKW HKR SS C0 m2 m3 R2 U2 N2 R3 t3 A2 g2 hAD HBD BX BX1 BX2;exact dm_end
 by_cases k6:kd=6
 ·subst k6;have KW:=mlatest_any hA.D.at_ hg (pn.below hA.B);have KR:=hidI fun V (h:BothA u1 V ab rb G HR a)=>rlatest18_any h.R hg (pn.below h.B)
  have MO:=lt_may18 a g kn;obtain⟨X,hX⟩:∃X,ltX a g kn=X:=⟨_,rfl⟩;obtain⟨A,hA2⟩:∃A,ltA a g kn=A:=⟨_,rfl⟩;rw[hX,hA2]at KW;rw[hX,hA2]at KR;rw[hA2]at MO;have HM:=hidI MO;clear hA hX hA2 MO;obtain⟨Aar,Aep,Aob,Awh,Awi⟩:=A;obtain⟨k,m',z,s,t,o⟩:=g;simp only at hW z0 z1 z2 z3 z4 z5;rw[aggE]at KW KR ⊢
  go_enter Tryz.func12,Tryz.ntmps12
  go_wp2_with fail
  rw[<-hW];clear hW;refine KW.mono ?_
  rintro _ v2 ⟨xv,L,rfl,rf,el,b2⟩;simp only at el;obtain⟨xa,xc,ex⟩:=rf.form;subst ex;have HL:Hid (L.length<=64):=by show _<=_;rw[<-oL_length,el];exact HM.out.1
  have EL:=hidI el;obtain⟨v3,hv3⟩:∃v3,v3=v2.alloc (.cells #[.int .i64 Aar,.int .i64 Aep,.slice xa L.length xc] 41):=⟨_,rfl⟩;have b3:Below v2.heap.size v2 v3:=by rw[hv3];exact belR _ _
  have b23:=b2.step16 b3 b2.size;have h3:=hidI (HA.out.below b23);obtain⟨⟨x0,x1,x2,x3,x4,x5⟩,q,_,_⟩:=BX.out v3 b23;simp only at x0 x1 x2 x3 x4 x5;have q4:=q 4;simp at q4;obtain⟨Y,hY⟩:∃Y,Hid (Y=v2.heap.size):=⟨_,rfl⟩;have lY:Y<v3.heap.size:=by rw[hY.out,hv3];simp
  have cY:∀j,v3.cell? ⟨Y,j,none⟩=(#[.int .i64 Aar,.int .i64 Aep,.slice xa L.length xc]:Array Value)[j]? :=fun j=>by rw[hv3,hY.out];exact World.cell?_alloc_new _ _ _ _
  have r3:=rf.1.below b3;have K2:=KR.out _ h3.out;rw[hv3]at x0 x1 x2 x3 x4 x5 q4 K2;clear KW KR b2 b3 b23 HA BX BX1 BX2 z0 z1 z2 z3 z4 z5 q el rf y0 y1 y2 y3 y4 y5 y6 y7 y8 y9 y10 y11 y12 y13 y14 y15 y16 y17 y18
  go_wp2_with fail
  rw[<-hY.out];refine K2.mono ?_
  rintro _ v4 ⟨yv,M,rfl,rf4,el4,b4⟩;rw[<-hv3]at b4;simp only at el4;obtain⟨ya,yc,ey⟩:=rf4.form;subst ey;have EL4:Hid (oL L=oL M):=EL.out.trans el4.symm;have HLM:Hid (M.length=L.length):=by show _=_;rw[<-oL_length,<-EL4.out,oL_length]
  have HS1:=hidI (obs_st EL.out HM.out.2);have HS2:=hidI (obs_st el4 HM.out.2);obtain⟨v5,hv5⟩:∃v5,v5=v4.alloc (.cells #[.int .i64 Aar,.int .i64 Aep,.slice ya M.length yc] 41):=⟨_,rfl⟩;have b5:Below v4.heap.size v4 v5:=by rw[hv5];exact belR _ _
  have b45:=b4.step16 b5 b4.size;have h5:=hidI (h3.out.below b45);have dY:∀j,v5.cell? ⟨Y,j,none⟩=_:=fun j=>(b45.cell (p:=⟨Y,j,none⟩) lY).trans (cY j)
  obtain⟨Z,hZ⟩:∃Z,Hid (Z=v4.heap.size):=⟨_,rfl⟩;have lZ:Z<v5.heap.size:=by rw[hZ.out,hv5];simp
  have lY5:Y<v5.heap.size:=Zu lY b45.size;have cZ:∀j,v5.cell? ⟨Z,j,none⟩=(#[.int .i64 Aar,.int .i64 Aep,.slice ya M.length yc]:Array Value)[j]? :=fun j=>by rw[hv5,hZ.out];exact World.cell?_alloc_new _ _ _ _
  have KS:=robjs16_any (r3.below b45) (rf4.1.below b5) (by have:=HL.out;omega) HS1.out HS2.out;have CC:Hid (∀V,Below v5.heap.size v5 V->V.cell? ⟨Y,0,none⟩=some (.int .i64 Aar)/\V.cell? ⟨Y,1,none⟩=some (.int .i64 Aep)/\V.cell? ⟨Z,0,none⟩=some (.int .i64 Aar)/\V.cell? ⟨Z,1,none⟩=some (.int .i64 Aep)):=fun V bV=>
   ⟨(bV.cell (p:=⟨Y,0,none⟩) lY5).trans (dY 0),(bV.cell (p:=⟨Y,1,none⟩) lY5).trans (dY 1),(bV.cell (p:=⟨Z,0,none⟩) lZ).trans (cZ 0),(bV.cell (p:=⟨Z,1,none⟩) lZ).trans (cZ 1)⟩
  have g2:=dY 2;have e2:=cZ 2;simp at g2 e2;have HV5:Hid (v5=v4.alloc (.cells #[.int .i64 Aar,.int .i64 Aep,.slice ya M.length yc] 41)):=hv5;rw[hv5]at KS g2 e2;clear K2 r3 rf4 b4 b5 b45 dY cZ cY h3 hv3 hv5 lY lZ lY5 EL HM HS1 HS2 HL HLM x0 x1 x2 x3 x4 x5 q4 el4
  go_wp2_with fail
  rw[<-hZ.out];refine KS.mono ?_
  rintro _ v6 ⟨xx,rfl,hxx,b6⟩;rw[<-HV5.out]at b6;obtain rfl:xx=true:=hxx.2 EL4.out;have FF:Hid (∃G' a',BothA u1 v6 ab rb G' HR a'):=⟨G,_,h5.out.below b6⟩;obtain⟨c1,c2,c3,c4⟩:=CC.out v6 b6;clear KS hxx b6 h5 HV5 CC EL4 g2 e2;exact dm_end
 ·have K:=didA_any hA (kd:=ak) (cd:=cd) (cn:=cn) (cm:=cm) (cy:=cy) pb pk wd wcn wcm hk;have k1':(kd==1)=false:=Zq.2 k1;have k2':(kd==2)=false:=Zq.2 k2;have k3':(kd==3)=false:=Zq.2 k3;have k4':(kd==4)=false:=Zq.2 k4;have k5':(kd==5)=false:=Zq.2 k5;have k6':(kd==6)=false:=Zq.2 k6;clear hA HA BX BX1 BX2;obtain⟨k,m',z,s,t,o⟩:=g;simp only at hW z0 z1 z2 z3 z4 z5;rw[aggE];rw[hW]at K y0 y12 y13 y14 y15 y16 y17 y18;clear hW y1 y2 y3 y4 y5 y6 y7 y8 y9 y10 y11 z0 z1 z2 z3 z4 z5
  go_enter Tryz.func12,Tryz.ntmps12
  go_wp2_with fail
  refine K.mono ?_
  rintro _ v2 ⟨rfl,G2,I2⟩;have FF:Hid (∃G' a',BothA u1 v2 ab rb G' HR a'):=⟨G2,_,I2⟩;clear K I2 y0 y12 y13 y14 y15 y16 y17 y18;exact dm_end
end
def smO(o:ObS):Prop:=o.key.length<=100/\o.st.length<=20
instance (o:ObS):Decidable (smO o):=inferInstanceAs (Decidable (_/\_))
def smM(dl kl ky st:Nat)(L:List ObS):Prop:=dl<=20/\kl<=40/\ky<=100/\st<=20/\L.length<=20/\∀o∈L,smO o
instance (dl kl ky st:Nat)(L:List ObS):Decidable (smM dl kl ky st L):=inferInstanceAs (Decidable (_/\_/\_/\_/\_/\_))
theorem sm_st{dl kl ky st:Nat}{L:List ObV}(h:smM dl kl ky st (oL L)):L.length<=20/\∀i,i<L.length->(L.getD i default).o.st.length<=20:=by
 obtain⟨_,_,_,_,h5,h6⟩:=h;refine⟨by simpa[oL]using h5,fun i hi=>?_⟩;rw[show L.getD i default=L[i] by simp[List.getD,hi]];exact(h6 _ (List.mem_map.2 ⟨L[i],List.getElem_mem hi,rfl⟩)).2
theorem sm_no{p:Prop} (h:p:=by
 obtain rfl:x=false:=by
  rw[<-HX.out];exact Zx (fun q=>by obtain⟨q1,q2,q3,q4,q5,q6⟩:=q;rw[oL_length]at q5;omega)
 clear HX HO
 go_enter Tryz.func11,Tryz.ntmps11
 go_wp2;go_ret;exact⟨rfl,belR _ _⟩):p:=h
theorem z34_2{p:Prop} (h:p:=by
 clear NO NX;go_wp2;exact bodyPost_ret (v:=.bool false) (by simp[results,Tryz.results11,go_sem]) rfl ⟨rfl,BU.out⟩
 ):p:=h
theorem msmall18_any{w:World}{k n m:Int}{da ka sa oa ba ca:Option Addr}{dl dc kl kc sl sc oc bl bc cl cc:Nat}{rk rl ar ep:Int}{ky:List UInt8}{L:List ObV}{q0 q1 q2 q3 q4:Int}{x:Bool}(ho:RdO w (.slice oa L.length oc) L)(hx:decide (smM dl kl ky.length sl (oL L))=x):
  Calls Tryz.prog 11 #[.agg #[.int .i64 k,.int .i64 n,.int .i64 m,.slice da dl dc,.slice ka kl kc,.int .i64 rk,.string ⟨ky.toArray⟩,.int .i64 rl,.slice sa sl sc,.int .i64 ar,.int .i64 ep,.slice oa L.length oc,.int .i64 q0,.int .i64 q1,.int .i64 q2,.int .i64 q3,.int .u8 q4,.slice ba bl bc,.slice ca cl cc]] w fun e w'=>e= .returned (.bool x)/\Below w.heap.size w w':=by
 have HX:Hid (decide (smM dl kl ky.length sl (oL L))=x):=hx;have HO:Hid (RdO w (.slice oa L.length oc) L):=ho;clear hx ho
 by_cases h1:(dl:Int)>20
 ·exact sm_no
 by_cases h2:(kl:Int)>40
 ·exact sm_no
 by_cases h3:(ky.length:Int)>100
 ·exact sm_no
 by_cases h4:(sl:Int)>20
 ·exact sm_no
 by_cases h5:(L.length:Int)>20
 ·exact sm_no
 have HY:Hid ((∀i,i<L.length->smO (L.getD i default).o)->x=true):=fun q=>by
  rw[<-HX.out];refine Zy ⟨Zo,Zo,Zo,Zo,by rw[oL_length];omega,fun o ho=>?_⟩;obtain⟨c,hc,rfl⟩:=List.mem_map.1 ho;obtain⟨i,hi,e⟩:=List.getElem_of_mem hc;have:=q i hi;rw[show L.getD i default=L[i] by simp[List.getD,hi],e]at this;exact this
 have HN:Hid (∀i,i<L.length->¬smO (L.getD i default).o->x=false):=fun i hi q=>by
  rw[<-HX.out];refine Zx fun h=>q ?_
  obtain⟨_,_,_,_,_,h6⟩:=h;rw[show L.getD i default=L[i] by simp[List.getD,hi]];exact h6 _ (List.mem_map.2 ⟨L[i],List.getElem_mem hi,rfl⟩)
 obtain⟨u,hu⟩:∃u,u=w.alloc (.cells #[.int .i64 k,.int .i64 n,.int .i64 m,.slice da dl dc,.slice ka kl kc,.int .i64 rk,.string ⟨ky.toArray⟩,.int .i64 rl,.slice sa sl sc,.int .i64 ar,.int .i64 ep,.slice oa L.length oc,.int .i64 q0,.int .i64 q1,.int .i64 q2,.int .i64 q3,.int .u8 q4,.slice ba bl bc,.slice ca cl cc] 47):=⟨_,rfl⟩;have x11:u.cell? ⟨w.heap.size,11,none⟩=some (.slice oa L.length oc):=by rw[hu];exact World.cell?_alloc_new _ _ _ _
 have BU:Hid (Below w.heap.size w u):=by rw[hu];exact belR _ _
 have RU:Hid (RdO u (.slice oa L.length oc) L):=HO.out.below BU.out;have h6:L.length<=20:=Zo
 clear HX HO
 go_enter Tryz.func11,Tryz.ntmps11
 go_wp2;rw[<-hu];clear hu
 go_loopw [3] (fun i wr=>∃r:Nat,r<=L.length/\i= .int .i64 (r:Int)/\wr=u/\Hid (∀j,j<r->smO (L.getD j default).o)) (fun i _=>L.length-(intOf i).toNat)
 case atStart=>exact⟨0,Zz,rfl,rfl,fun j hj=>absurd hj (Nat.not_lt_zero _)⟩
 case round=>
  obtain⟨r,hr,rfl,rfl,hj⟩:=hrel
  by_cases hlt:r<L.length
  ·have hlt':(r:Int)<(L.length:Int):=by omega
   obtain⟨b,off,eoa,hb,oat⟩:=RU.out.at hlt;subst eoa;have NO:=hidI (HN.out r hlt);have NX:Hid (smO (L.getD r default).o->∀j,j<r+1->smO (L.getD j default).o):=fun q j hj2=>by
    by_cases e:j=r
    ·rw[e];exact q
    ·exact hj.out j Zo
   obtain⟨c,hc⟩:∃c,Hid (L.getD r default=c):=⟨_,rfl⟩;rw[hc.out]at oat NO NX;obtain⟨⟨oky,oln,oep,ost⟩,ovs⟩:=c;obtain⟨ova,ovc,e⟩:=oat.rs.form;simp only at e;subst e;have c0:wr.cell? ⟨b,off+r*4,none⟩=some (.string ⟨oky.toArray⟩):=oat.c0;have c3:wr.cell? ⟨b,off+r*4+3,none⟩=some (.slice ova ost.length ovc):=oat.c3;clear oat HY HN hj hc
   by_cases k1:(oky.length:Int)>100
   ·obtain rfl:x=false:=NO.out (fun q=>by have h1:oky.length<=100:=q.1;omega);exact z34_2
   by_cases k2:(ost.length:Int)>20
   ·obtain rfl:x=false:=NO.out (fun q=>by have h1:ost.length<=20:=q.2;omega);exact z34_2
   have NX2:=hidI (NX.out ⟨by show oky.length<=100;omega,by show ost.length<=20;omega⟩);clear NO NX;go_wp2;go_roundw
   case rel=>exact⟨r+1,Zo,Zg,trivial,NX2⟩
   case measure=>simp[intOf];omega
  ·obtain rfl:r=L.length:=by omega
   have hge:¬(L.length:Int)<(L.length:Int):=Zo
   obtain rfl:x=true:=HY.out hj.out;clear HY HN hj;go_wp2;exact bodyPost_ret (v:=.bool true) (by simp[results,Tryz.results11,go_sem]) rfl ⟨rfl,BU.out⟩
theorem putB_same(f:Int->Option (List UInt8))(x:Int)(b:List UInt8):putB (putB f x b) x b=putB f x b:=by
 funext y;unfold putB
 split<;>rfl
theorem over_put(F:Int->Option (List UInt8))(x:Int)(b:List UInt8):overB (putB noneI x b) F=putB F x b:=by
 funext y;unfold overB putB noneI
 by_cases e:y=x
 ·rw[if_pos e,if_pos e]
 ·rw[if_neg e,if_neg e]
theorem over_put2(F:Int->Option (List UInt8))(x y:Int)(b c:List UInt8):overB (putB (putB noneI x b) y c) F=putB (putB F x b) y c:=by
 funext z;unfold overB putB noneI
 by_cases e:z=y
 ·rw[if_pos e,if_pos e]
 ·rw[if_neg e,if_neg e]
  by_cases e2:z=x
  ·rw[if_pos e2,if_pos e2]
  ·rw[if_neg e2,if_neg e2]
theorem flS_at(S:Nat)(F W:Int->Option (List UInt8)):flS (⟨S,F,W,false⟩:DkS)=⟨S,overB W F,noneI,false⟩:=by
 unfold flS;rw[if_neg Zs]
section
variable {a:ArS} {n S:Nat} {F W:Int->Option (List UInt8)}
structure UniW(a:ArS)(n S:Nat)(F W:Int->Option (List UInt8)):Prop where
 calm:Calm a
 len:a.D.length=n
 di:∀i:Nat,i<n->diA a (i:Int)=⟨S,F,W,false⟩
theorem uni_new(n S:Nat):UniW (newA n S) n S noneI noneI:=⟨calm_new n S,by simp[newA],fun i hi=>by
 rw[di_nat]
 show(List.replicate n (newD S)).getD i default=_
 simp[List.getD,hi,newD]⟩
theorem uw_put(h:UniW a n S F W){ad e:Int}{d:List UInt8}(hs:OkSe ad e d.length)(h1:ad<(S:Int)):(wvP a ad e d).cr=false/\(wvP a ad e d).n=n/\UniW (wvP a ad e d).st n S F (putB W ad (pkS ad.toNat e.toNat d)):=by
 have okb:=okB_pk hs;have eP:wvP a ad e d=puV a ad (pkS ad.toNat e.toNat d) (fun _=>true) a.D.length:=if_pos hs;obtain⟨p1,p2,p3,p4⟩:=pu_calm (ad:=ad) (b:=pkS ad.toNat e.toNat d) h.calm (tO:=fun _=>true) a.D.length Zr;have w0:∀i,i<n->wrX (diA a (i:Int)) ad (pkS ad.toNat e.toNat d)=0:=fun i hi=>by
  rw[h.di i hi];exact wrX_ok (d:=⟨S,F,W,false⟩) rfl hs.1.1 h1 okb
 rw[eP];refine⟨p1,?_,p2,by rw[puV_len,h.len],fun i hi=>?_⟩
 ·rw[p3,h.len,cnt_full fun i hi=>?_]
  show(true&&decide _)=true
  rw[Zy (w0 i hi)];rfl
 ·rw[p4 i,if_pos ⟨by rw[h.len];exact hi,rfl⟩,h.di i hi];exact wrS_at (d:=⟨S,F,W,false⟩) rfl hs.1.1 h1 okb
theorem uw_flush(h:UniW a n S F W):flAX a=0/\UniW (flAS a) n S (overB W F) noneI:=by
 have e:flAS a={a with D:=a.D.map flS}:=if_neg (by rw[h.calm.1];decide);refine⟨if_neg (by rw[h.calm.1];decide),by rw[e];exact h.calm,by rw[e];simpa using h.len,fun i hi=>?_⟩;have hi':i<a.D.length:=by rw[h.len];exact hi
 have k:=h.di i hi;rw[di_nat]at k;rw[e,di_nat]
 show(a.D.map flS).getD i default=_
 rw[show(a.D.map flS).getD i default=flS (a.D.getD i default) by simp[List.getD,hi'],k];exact flS_at S F W
theorem wr_di(hc:Calm a){i ad:Int}{b:List UInt8}:Calm (wrAS a i ad b)/\∀j:Nat,j<a.D.length->diA (wrAS a i ad b) (j:Int)=if i=(j:Int)then wrS (diA a (j:Int)) ad b else diA a (j:Int):=by
 by_cases ht:thA a i
 ·by_cases hx:wrX (diA a i) ad b=0
  ·have e:=(wr_set (ad:=ad) (b:=b) hc ht hx).2;rw[e];refine⟨hc,fun j hj=>?_⟩;rw[diA_set ht _ Zo]
   by_cases q:i=(j:Int)
   ·rw[if_pos q.symm,if_pos q,q]
   ·rw[if_neg (fun k=>q k.symm),if_neg q]
  ·have e:wrAS a i ad b=a:=by unfold wrAS;rw[if_neg (by rw[hc.1];decide),if_pos ht,if_neg hx]
   rw[e];refine⟨hc,fun j hj=>?_⟩
   by_cases q:i=(j:Int)
   ·rw[if_pos q,<-q,wrS_same hx]
   ·rw[if_neg q]
 ·have e:wrAS a i ad b=a:=by unfold wrAS;rw[if_neg (by rw[hc.1];decide),if_neg ht]
  rw[e];exact⟨hc,fun j hj=>by rw[if_neg (fun q=>ht ⟨Zo,Zo⟩)]⟩
theorem wrS_twice(d:DkS)(ad:Int)(b:List UInt8):wrS (wrS d ad b) ad b=wrS d ad b:=by
 by_cases h:faX d ad=0/\OkB b
 ·have e:wrS d ad b={d with wait:=putB d.wait ad b}:=if_pos h;rw[e];have e2:wrS ({d with wait:=putB d.wait ad b}:DkS) ad b={d with wait:=putB (putB d.wait ad b) ad b}:=if_pos h;rw[e2,putB_same]
 ·have e:wrS d ad b=d:=if_neg h;rw[e,e]
theorem lb_calm(hc:Calm a){l:List Int}:∀r,r<=l.length->(lbV a l r).cr=false/\Calm (lbV a l r).st/\∀j:Nat,j<a.D.length->diA (lbV a l r).st (j:Int)=if (j:Int)∈l.take r then wrS (diA a (j:Int)) 0 lbB else diA a (j:Int)
 |0,_=>⟨rfl,hc,fun j _=>by rw[if_neg Zs];rfl⟩
 |r+1,hr=>by
  obtain⟨h1,h2,h3⟩:=lb_calm hc (l:=l) r Zo;have hx:¬wrAX (lbV a l r).st (l.getD r 0) 0 lbB=130:=by rw[wrAX_crash,h2.1];decide
  rw[lb_go h1 hx];obtain⟨k1,k2⟩:=wr_di (i:=l.getD r 0) (ad:=0) (b:=lbB) h2;refine⟨rfl,k1,fun j hj=>?_⟩
  show diA (wrAS _ _ _ _) _=_
  rw[k2 j (by rw[lbV_len];exact hj),h3 j hj];have hm:(j:Int)∈l.take (r+1)↔((j:Int)∈l.take r∨l.getD r 0=(j:Int)):=by
   rw[List.take_succ_eq_append_getElem Zo,List.mem_append,List.mem_singleton]
   have:l.getD r 0=l[r]:=by simp[List.getD,show r<l.length by omega]
   rw[this];exact⟨Or.imp id Eq.symm,Or.imp id Eq.symm⟩
  by_cases q:l.getD r 0=(j:Int)
  ·rw[if_pos q,if_pos (hm.2 (Or.inr q))]
   split
   ·rw[wrS_twice]
   ·rfl
  ·rw[if_neg q]
   by_cases q2:(j:Int)∈l.take r
   ·rw[if_pos q2,if_pos (hm.2 (Or.inl q2))]
   ·rw[if_neg q2,if_neg fun k=>(hm.1 k).elim q2 q]
theorem lb_end(hc:Calm a){l:List Int}:lbX a l=0/\Calm (lbS a l)/\(lbS a l).D.length=a.D.length/\∀j:Nat,j<a.D.length->diA (lbS a l) (j:Int)=flS (if (j:Int)∈l then wrS (diA a (j:Int)) 0 lbB else diA a (j:Int)):=by
 obtain⟨h1,h2,h3⟩:=lb_calm hc (l:=l) l.length Zr;rw[List.take_length]at h3;have e:flAS (lbV a l l.length).st={(lbV a l l.length).st with D:=(lbV a l l.length).st.D.map flS}:=if_neg (by rw[h2.1];decide);unfold lbX lbS;rw[h1,if_neg Zd,if_neg Zd];refine⟨if_neg (by rw[h2.1];decide),by rw[e];exact h2,by rw[flAS_len,lbV_len],fun j hj=>?_⟩;have hj':j<(lbV a l l.length).st.D.length:=by rw[lbV_len];exact hj
 rw[<-h3 j hj,e,di_nat,di_nat]
 show((lbV a l l.length).st.D.map flS).getD j default=_
 simp[List.getD,hj']
theorem uni_label{n S:Nat}(hS:1<=S):UniW (lbS (newA n S) ((List.range n).map fun (i:Nat)=>(i:Int))) n S (putB noneI 0 lbB) noneI:=by
 obtain⟨_,h2,h3,h4⟩:=lb_end (calm_new n S) (l:=(List.range n).map fun (i:Nat)=>(i:Int));have hl:(newA n S).D.length=n:=by simp[newA]
 refine⟨h2,by rw[h3,hl],fun i hi=>?_⟩;have u:=(uni_new n S).di i hi;have m:(i:Int)∈(List.range n).map fun (i:Nat)=>(i:Int):=List.mem_map.2 ⟨i,List.mem_range.2 hi,rfl⟩
 rw[h4 i (by rw[hl];exact hi),if_pos m,u,wrS_at (d:=⟨S,noneI,noneI,false⟩) rfl Zd (by show(0:Int)<(S:Int);omega) lb_okb]
 show flS (⟨S,noneI,putB noneI 0 lbB,false⟩:DkS)=_
 rw[flS_at,over_put]
theorem kn_iff(hc:Calm a){i:Nat}(hi:i<a.D.length):knF a i=decide (rdB (diA a (i:Int)) 0=lbB):=by
 have ht:thA a (i:Int):=⟨Zo,Zo⟩;unfold knF;rw[rd_at hc.1 ht,rdAX_at hc.1 ht]
 by_cases q:rdB (diA a (i:Int)) 0=lbB
 ·have hf:=(rdB_some q (fun k=>by have:=congrArg List.length k;rw[show lbB=pkS 0 0 [76]from rfl,pk_length]at this;simp at this)).1;rw[Zy q,Zy hf,beq_iff_eq.2 q];rfl
 ·rw[Zx q,Zq.2 q,Bool.and_false]
end
end Go.Proofs.YtclieefpnbdbjaaGreat.Gf
