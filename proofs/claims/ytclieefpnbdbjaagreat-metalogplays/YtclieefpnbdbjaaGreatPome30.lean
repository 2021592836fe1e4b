/- JOINED: MeCV, MeCW, MeCX. -/
import Derived.Test.YtclieefpnbdbjaaGreatPome27
import Derived.Test.YtclieefpnbdbjaaGreatPome19
import Derived.Deep.RegionWith
set_option maxHeartbeats 4000000
set_option maxRecDepth 100000
namespace Go.Proofs.YtclieefpnbdbjaaGreat.Gf
set_option linter.unusedVariables false
set_option linter.unusedSimpArgs false
open Go.RowKit
def vt5(V:VoS)(d:Value)(j:Nat):Value:=if j=0 then .bool V.has else if j=1 then .int .i64 V.ep else if j=2 then d else if j=3 then .int .i64 ((V.co:Nat):Int)else .bool V.wi
def vtR(V:Nat->VoS)(D:Nat->Value)(k:Nat)(j:Nat):Value:=if j/5<k then vt5 (V (j/5)) (D (j/5)) (j%5)else vt5 noV (.slice none 0 0) (j%5)
theorem info_vote18:(Tryz.prog.info? 130).map (fun i=>(i.zero,i.size,i.bytes))=some (some (.agg #[.bool false,.int .i64 0,.slice none 0 0,.int .i64 0,.bool false]),5,56):=Zk
theorem run_make_votes(n:Nat)(hn:n<=32)(w:World):(Instr.makeSlice 120 (.int .i64 (n:Int)) (.int .i64 (n:Int))).run Tryz.prog w= .ok (.slice (some ⟨w.heap.size,0,none⟩) n n) (w.alloc (.cells (madeCells #[.bool false,.int .i64 0,.slice none 0 0,.int .i64 0,.bool false] (n*5)) 130)):=by
 obtain⟨i,hi,hzz⟩:=Option.map_eq_some_iff.1 info_vote18;simp only[Prod.mk.injEq]at hzz;obtain⟨hz,hs,hb⟩:=hzz;have hr:=run_make (P:=Tryz.prog) w 120 130 i _ Tryz.underlying120 hi hz .i64 .i64 n n Zo (Int.le_refl _) (by rw[hb];omega) Zo;simp only[Int.toNat_natCast,hs]at hr;exact hr
theorem made_votes(w:World)(n:Nat)(t:TypeId)(V:Nat->VoS)(D:Nat->Value):(w.alloc (.cells (madeCells #[.bool false,.int .i64 0,.slice none 0 0,.int .i64 0,.bool false] (n*5)) t)).rowIs w.heap.size t (n*5) (vtR V D 0):=by
 have hs:(madeCells #[Value.bool false,.int .i64 0,.slice none 0 0,.int .i64 0,.bool false] (n*5)).size=n*5:=size_madeCells _ _;have h:=World.rowIs_alloc w (madeCells #[.bool false,.int .i64 0,.slice none 0 0,.int .i64 0,.bool false] (n*5)) t (vtR V D 0) (fun i hi=>by
  rw[hs]at hi;have h5:i%5<5:=Nat.mod_lt _ Zd
  have:i%5=0∨i%5=1∨i%5=2∨i%5=3∨i%5=4:=Zo
  unfold vtR vt5
  rcases this with e|e|e|e|e<;>simp[madeCells,hi,e,noV])
 rw[hs]at h;exact h
theorem vt_step{w:World}{g t n r:Nat}{V:Nat->VoS}{D:Nat->Value}{d:Value}(h:w.rowIs g t (n*5) (vtR V D r))(hr:r<n):(((((w.setCell ⟨g,r*5,none⟩ (.bool (V r).has)).setCell ⟨g,r*5+1,none⟩ (.int .i64 (V r).ep)).setCell ⟨g,r*5+2,none⟩ d).setCell ⟨g,r*5+3,none⟩ (.int .i64 (((V r).co:Nat):Int))).setCell ⟨g,r*5+4,none⟩ (.bool (V r).wi)).rowIs g t (n*5) (vtR V (fun i=>if i=r then d else D i) (r+1)):=by
 refine World.rowIs.congr (((((World.rowIs.set h _ _).set _ _).set _ _).set _ _).set _ _) fun j hj=>?_
 unfold vtR;have key:∀m,m<5->j=r*5+m->(if j/5<r+1 then vt5 (V (j/5)) (if j/5=r then d else D (j/5)) (j%5)else vt5 noV (.slice none 0 0) (j%5))=vt5 (V r) d m:=fun m hm e=>by
  have e1:j/5=r:=Zo
  have e2:j%5=m:=Zo
  rw[e1,e2,if_pos Zo,if_pos rfl]
 by_cases e4:j=r*5+4
 ·rw[if_pos e4,key 4 Zo e4];rfl
 rw[if_neg e4]
 by_cases e3:j=r*5+3
 ·rw[if_pos e3,key 3 Zo e3];rfl
 rw[if_neg e3]
 by_cases e2:j=r*5+2
 ·rw[if_pos e2,key 2 Zo e2];rfl
 rw[if_neg e2]
 by_cases e1:j=r*5+1
 ·rw[if_pos e1,key 1 Zo e1];rfl
 rw[if_neg e1]
 by_cases e0:j=r*5
 ·rw[if_pos e0,key 0 Zo Zo];rfl
 rw[if_neg e0]
 by_cases e:j/5<r
 ·have n1:¬j/5=r:=by omega
  have n2:j/5<r+1:=Zo
  simp only[if_pos e,if_pos n2,if_neg n1]
 ·have n2:¬j/5<r+1:=by omega
  simp only[if_neg e,if_neg n2]
theorem vt_at{w:World}{g t n k:Nat}{V:Nat->VoS}{D:Nat->Value}(h:w.rowIs g t (n*5) (vtR V D k)){i:Nat}(hi:i<n)(hk:i<k):w.cell? ⟨g,i*5,none⟩=some (.bool (V i).has)/\w.cell? ⟨g,i*5+1,none⟩=some (.int .i64 (V i).ep)/\w.cell? ⟨g,i*5+2,none⟩=some (D i)/\w.cell? ⟨g,i*5+3,none⟩=some (.int .i64 (((V i).co:Nat):Int))/\w.cell? ⟨g,i*5+4,none⟩=some (.bool (V i).wi):=by
 have c:∀m,m<5->w.cell? ⟨g,i*5+m,none⟩=some (vt5 (V i) (D i) m):=fun m hm=>by
  rw[h.cell (i:=i*5+m) Zo];unfold vtR;rw[if_pos Zo,show(i*5+m)/5=i by omega,show(i*5+m)%5=m by omega]
 exact⟨c 0 Zo,c 1 Zo,c 2 Zo,c 3 Zo,c 4 Zo⟩
theorem Rk.only{N g:Nat}{w w':World}{v:Value}{p:List UInt8}(h:Rk N w v p)(o:Only g w w')(hg:g<N):Rk N w' v p:=⟨h.turn (G:=fun k=>k=g) (fun k e=>by rw[e];exact hg) (Only.turnG o rfl),h.far⟩
def VotesM(w:World)(X:Int)(V:Nat->VoS)(e:Ending)(w':World):Prop:=(¬X=0/\e= .returned (.tuple #[.slice none 0 0,.int .i64 X])/\Below w.heap.size w w')∨(X=0/\∃(pg:Nat) (D:Nat->Value),e= .returned (.tuple #[.slice (some ⟨pg,0,none⟩) 2 2,.int .i64 0])/\w'.rowIs pg 130 (2*5) (vtR V D 2)/\(∀i,i<2->Rd w' (D i) (V i).da)/\Below w.heap.size w w')
theorem mvotes_any{w:World}{ab:Nat}{GA:Nat->Prop}{a:ArS}(h:ArAt w ab GA a){g:GeoS}(hg:g.Wf){u:Value}{K:List Bool}(hk:RdB w u K){ar:Int}(haw:(Lit.int .i64 ar).wf=true):
  Calls Tryz.prog 63 #[.pointer (some ⟨ab,0,none⟩),aggG g,u,.int .i64 ar] w (VotesM w (rvX a) (fun i=>onV a g K ar (i:Int))):=by
 obtain⟨ua,uc,eu⟩:=hk.form;subst eu;have HA:Hid (ArAt w ab GA a):=h;have HK:Hid (RdB w (.slice ua K.length uc) K):=hk;have KS0:=fun V (i:Int) (hi:(Lit.int .i64 i).wf=true)=>@larea_any V g hg ar i haw hi _ rfl
 have WA:∀i:Nat,i<2->(Lit.int .i64 (arG g ar (i:Int))).wf=true:=fun i hi=>WalkArith.wf_i64 (by
  unfold arG
  split
  ·rename_i q
   obtain⟨⟨_,q1,q2⟩,q3,q4⟩:=q;omega
  ·omega)
 have LG:=geo_laid w g 23;obtain⟨V,hV⟩:∃V:Nat->VoS,Hid (V=fun (i:Nat)=>onV a g K ar (i:Int)):=⟨_,rfl⟩;rw[<-hV.out];have HVR:Hid (∀i:Nat,rvV a K (arG g ar (i:Int))=V i):=fun i=>by rw[hV.out];rfl
 obtain⟨X,hX⟩:∃X,Hid (X=rvX a):=⟨_,rfl⟩;rw[<-hX.out];obtain⟨A,hA⟩:∃A:Nat->Int,Hid (A=fun (i:Nat)=>arG g ar (i:Int)):=⟨_,rfl⟩;have KR:Hid (∀(i:Nat),i<2->∀W2,Below w.heap.size w W2->Calls Tryz.prog 69 #[.pointer (some ⟨ab,0,none⟩),.slice ua K.length uc,.int .i64 (A i)] W2 (TellsVF W2 X (V i))):=fun i hi W2 b=>by
  rw[hA.out,hX.out,<-HVR.out i];exact vread17_any (HA.out.below b) (WA i hi) (HK.out.below b)
 clear h hk hV HVR;obtain⟨k,m,z,s,t,o⟩:=g;rw[aggE]at KS0 ⊢;have KS1:Hid (∀(i:Nat),i<2->∀W2,Calls Tryz.prog 78 #[.agg #[.int .i64 k,.int .i64 m,.int .i64 z,.int .i64 s,.int .i64 t,.int .i64 o],.int .i64 ar,.int .i64 (i:Int)] W2 fun e w'=>e= .returned (.int .i64 (A i))/\Below W2.heap.size W2 w'):=fun i hi W2=>by
  rw[hA.out];exact KS0 W2 (i:Int) (WalkArith.wf_i64 Zo)
 clear KS0 WA hA hX;obtain⟨W,hW⟩:∃W,W=w.alloc (.cells #[.int .i64 k,.int .i64 m,.int .i64 z,.int .i64 s,.int .i64 t,.int .i64 o] 23):=⟨_,rfl⟩;have LG2:Hid (∀V,Below W.heap.size W V->GeoAt V w.heap.size ⟨k,m,z,s,t,o⟩/\Below w.heap.size w V):=by rw[hW];exact LG
 clear LG;obtain⟨gb,hgb⟩:∃gb,Hid (gb=w.heap.size):=⟨_,rfl⟩;have mk2:(Instr.makeSlice 120 (.int .i64 2) (.int .i64 2)).run Tryz.prog W=_:=run_make_votes 2 Zo W;obtain⟨u1,hu⟩:∃u1,u1=W.alloc (.cells (madeCells #[.bool false,.int .i64 0,.slice none 0 0,.int .i64 0,.bool false] (2*5)) 130):=⟨_,rfl⟩;have hub:Below W.heap.size W u1:=by rw[hu];exact belR _ _
 have hur:u1.rowIs W.heap.size 130 (2*5) (vtR V (fun _=>.slice none 0 0) 0):=by rw[hu];exact made_votes W 2 130 V _
 obtain⟨pg,hpg⟩:∃pg,Hid (pg=W.heap.size):=⟨_,rfl⟩;rw[<-hu,<-hpg.out]at mk2;rw[<-hpg.out]at hur;have START:Hid (u1.rowIs pg 130 (2*5) (vtR V (fun _=>.slice none 0 0) 0)/\Below W.heap.size W u1):=⟨hur,hub⟩;clear hu hub hur
 go_enter Tryz.func63,Tryz.ntmps63
 go_wp2_with fail
 rw[<-hW,<-hgb.out];clear hW;rw[mk2]
 go_wp2_with fail
 go_loopw [17] (fun i wr=>∃(r:Nat) (D:Nat->Value),r<=2/\i= .int .i64 (r:Int)/\wr.rowIs pg 130 (2*5) (vtR V D r)/\Hid (Below W.heap.size W wr)/\Hid (∀i,i<r->Rk (pg+1) wr (D i) (V i).da)/\Hid (0<r->X=0)) (fun i _=>2-(intOf i).toNat)
 case atStart=>exact⟨0,_,Zz,rfl,START.out.1,START.out.2,fun i hi=>Zo,fun q=>Zo⟩
 case round=>
  clear START mk2;obtain⟨r,D,hr,rfl,hR,hB,hD,hX0⟩:=hrel;obtain⟨⟨y0,y1,y2,y3,y4,y5⟩,B0⟩:=LG2.out wr hB.out;simp only at y0 y1 y2 y3 y4 y5;rw[<-hgb.out]at y0 y1 y2 y3 y4 y5;have hX0':=hX0
  by_cases hlt:r<2
  ·have hlt':(r:Int)<2:=by omega
   have KS:=KS1.out r hlt wr;have KRr:=fun W2 (b:Below wr.heap.size wr W2)=>KR.out r hlt W2 (B0.step16 b B0.size)
   have ST:=fun (Y:World) (d:Value) (h:Y.rowIs pg 130 (2*5) (vtR V D r))=>vt_step (d:=d) h hlt
   have HST:Hid _:=ST;obtain⟨Ar,hAr⟩:∃Ar,A r=Ar:=⟨_,rfl⟩;rw[hAr]at KS;simp only[hAr]at KRr;obtain⟨Vr,hVr⟩:∃Vr,Hid (V r=Vr):=⟨_,rfl⟩;rw[hVr.out]at KRr HST;obtain⟨vh,ve,vda,vco,vw⟩:=Vr;simp only at HST;clear ST hAr
   go_wp2_with fail
   refine KS.mono ?_
   rintro _ w2 ⟨rfl,B2⟩;have KR2:=KRr w2 B2;clear KRr KS
   go_wp2_with fail
   refine KR2.mono ?_
   rintro _ w3 ⟨vd,rfl,R3,F3,B3⟩;simp only at R3;obtain⟨da,dc,ed⟩:=R3.form;subst ed;rw[show aggV ⟨vh,ve,vda,vco,vw⟩ (.slice da vda.length dc)= .agg #[.bool vh,.int .i64 ve,.slice da vda.length dc,.int .i64 ((vco:Nat):Int),.bool vw]from rfl];have B13:=B2.step16 B3 B2.size;obtain⟨w4,hw4⟩:∃w4,w4=w3.alloc (.cells #[.bool vh,.int .i64 ve,.slice da vda.length dc,.int .i64 ((vco:Nat):Int),.bool vw] 130):=⟨_,rfl⟩;obtain⟨v0,v1,v2,v3,v4,b4,-,l4⟩:=@lay5 w3 (.bool vh) (.int .i64 ve) (.slice da vda.length dc) (.int .i64 ((vco:Nat):Int)) (.bool vw) 130;rw[<-hw4]at v0 v1 v2 v3 v4 b4 l4;have B14:=B13.step16 b4 B13.size
   by_cases q:X=0
   ·subst q;have hR4:=hR.of_block (B14.block pg hR.lt);have q0:=hR4.cell (i:=r*5) Zo;have q1:=hR4.cell (i:=r*5+1) Zo;have q2:=hR4.cell (i:=r*5+2) Zo;have q3:=hR4.cell (i:=r*5+3) Zo;have q4:=hR4.cell (i:=r*5+4) Zo;have g0:=hR4.frozen (r*5);have g1:=hR4.frozen (r*5+1);have g2:=hR4.frozen (r*5+2);have g3:=hR4.frozen (r*5+3);have g4:=hR4.frozen (r*5+4);obtain⟨Y,hY⟩:∃Y,Y=((((w4.setCell ⟨pg,r*5,none⟩ (.bool vh)).setCell ⟨pg,r*5+1,none⟩ (.int .i64 ve)).setCell ⟨pg,r*5+2,none⟩ (.slice da vda.length dc)).setCell ⟨pg,r*5+3,none⟩ (.int .i64 ((vco:Nat):Int))).setCell ⟨pg,r*5+4,none⟩ (.bool vw):=⟨_,rfl⟩;have oY:Only pg w4 Y:=by rw[hY];exact(((((Only.refl _ _).setCell _ _).setCell _ _).setCell _ _).setCell _ _).setCell _ _
    have R5:Hid (Y.rowIs pg 130 (2*5) (vtR V (fun i=>if i=r then .slice da vda.length dc else D i) (r+1))):=by rw[hY];exact HST.out w4 (.slice da vda.length dc) hR4
    have lpg:pg<w2.heap.size:=Zu hR.lt B2.size;have RK:Rk (pg+1) w4 (.slice da vda.length dc) vda:=⟨R3.below b4,fun x n c e=>(F3 x n c e).imp id fun k=>Zo⟩;have D5:Hid (∀i,i<r+1->Rk (pg+1) Y ((fun i=>if i=r then Value.slice da vda.length dc else D i) i) (V i).da):=fun i hi=>by
     show Rk (pg+1) Y (if i=r then Value.slice da vda.length dc else D i) (V i).da
     by_cases e:i=r
     ·rw[if_pos e,e,hVr.out];exact RK.only oY Zo
     ·rw[if_neg e];exact((hD.out i Zo).below B14).only oY Zo
    have B5:Hid (Below W.heap.size W Y):=(hB.out.step16 B14 hB.out.size).trans (oY.below (by rw[hpg.out];exact Zr));clear KR2 R3 F3 B2 B3 B13 b4 B14 hR hR4 hD hB HST oY RK hVr B0 y0 y1 y2 y3 y4 y5 l4;subst hw4;go_wp2;rw[<-hY];clear hY;go_roundw
    case rel=>exact⟨r+1,_,Zo,Zg,R5.out,B5,D5,fun _=>by first|rfl|trivial⟩
    case measure=>simp[intOf];omega
   ·have q1:(X==0)=false:=Zq.2 q;have q2:(X !=0)=true:=by simp[bne,q1]
    have F:Hid (VotesM w X V (.returned (.tuple #[.slice none 0 0,.int .i64 X])) w4):=Or.inl ⟨q,rfl,B0.step16 B14 B0.size⟩;clear KR2 R3 F3 B2 B3 B13 b4 B14 hR hD hB HST hVr B0 y0 y1 y2 y3 y4 y5 v0 v1 v2 v3 v4 l4 hX0;go_wp2;rw[<-hw4];clear hw4;exact bodyPost_ret (v:=.tuple #[.slice none 0 0,.int .i64 X]) (by simp[results,Tryz.results63,go_sem]) rfl F.out
  ·obtain rfl:r=2:=by omega
   have F:Hid (VotesM w X V (.returned (.tuple #[.slice (some ⟨pg,0,none⟩) 2 2,.int .i64 0])) wr):=Or.inr ⟨hX0.out Zo,pg,D,rfl,hR,fun i hi=>(hD.out i hi).rd,B0⟩;clear hR hD hB B0 hX0;go_wp2;exact bodyPost_ret (v:=.tuple #[.slice (some ⟨pg,0,none⟩) 2 2,.int .i64 0]) (by simp[results,Tryz.results63,go_sem]) rfl F.out
theorem mwitn_any{w:World}{pg:Nat}{V:Nat->VoS}{D:Nat->Value}(hR:w.rowIs pg 130 (2*5) (vtR V D 2))(hD:∀i,i<2->Rd w (D i) (V i).da){x:Bool}(hx:((V 0).wi&&(V 1).wi)=x):Calls Tryz.prog 65 #[.slice (some ⟨pg,0,none⟩) 2 2] w fun e w'=>e= .returned (.bool x)/\Below w.heap.size w w':=by
 have HR:Hid (w.rowIs pg 130 (2*5) (vtR V D 2)):=hR;have HD:Hid (∀i,i<2->Rd w (D i) (V i).da):=hD;have HX:Hid (((V 0).wi&&(V 1).wi)=x):=hx;clear hx hR hD
 go_enter Tryz.func65,Tryz.ntmps65
 go_wp2_with fail
 go_loopw [7] (fun i wr=>∃r:Nat,r<=2/\i= .int .i64 (r:Int)/\Hid (Below w.heap.size w wr)/\Hid (∀i,i<r->(V i).wi=true)) (fun i _=>2-(intOf i).toNat)
 case atStart=>exact⟨0,Zz,rfl,Zf,fun i hi=>Zo⟩
 case round=>
  obtain⟨r,hr,rfl,hB,hW⟩:=hrel
  by_cases hlt:r<2
  ·have hlt':(r:Int)<2:=by omega
   obtain⟨c0,c1,c2,c3,c4⟩:=vt_at (HR.out.of_block (hB.out.block pg HR.out.lt)) hlt hlt;obtain⟨da,dc,ed⟩:=(HD.out r hlt).form;obtain⟨Vr,hVr⟩:∃Vr,Hid (V r=Vr):=⟨_,rfl⟩;rw[hVr.out]at c0 c1 c3 c4 ed;rw[ed]at c2;obtain⟨vh,ve,vda,vco,vw⟩:=Vr;simp only at c0 c1 c2 c3 c4;have B2:Hid (∀cs e,Below w.heap.size w (wr.alloc (.cells cs e))):=fun cs e=>hB.out.step16 (belR _ _) hB.out.size
   cases vw with
   |true=>
    have W2:Hid (∀i,i<r+1->(V i).wi=true):=fun i hi=>by
     by_cases e:i=r
     ·rw[e,hVr.out]
     ·exact hW.out i Zo
    clear hVr hW hB;go_wp2;go_roundw
    case rel=>exact⟨r+1,Zo,Zg,B2.out _ _,W2⟩
    case measure=>simp[intOf];omega
   |false=>
    have E:x=false:=by
     rw[<-HX.out]
     have:r=0∨r=1:=Zo
     rcases this with rfl|rfl
     ·rw[hVr.out];rfl
     ·rw[hVr.out];simp
    subst E;clear hVr hW hB HX;go_wp2;go_ret;exact⟨rfl,B2.out _ _⟩
  ·obtain rfl:r=2:=by omega
   have E:x=true:=by rw[<-HX.out,hW.out 0 Zo,hW.out 1 Zo];rfl
   subst E;have FB:Hid (Below w.heap.size w wr):=hB.out;clear hW hB HX;go_wp2;go_ret;exact⟨rfl,FB.out⟩
theorem lay3{w:World}{a b c:Value}{t:Nat}:(w.alloc (.cells #[a,b,c] t)).cell? ⟨w.heap.size,0,none⟩=some a/\(w.alloc (.cells #[a,b,c] t)).cell? ⟨w.heap.size,1,none⟩=some b/\(w.alloc (.cells #[a,b,c] t)).cell? ⟨w.heap.size,2,none⟩=some c/\Below w.heap.size w (w.alloc (.cells #[a,b,c] t))/\(∀j,(w.alloc (.cells #[a,b,c] t)).frozen? ⟨w.heap.size,j,none⟩=false)/\w.heap.size<(w.alloc (.cells #[a,b,c] t)).heap.size:=by
 have z:∀j,(w.alloc (.cells #[a,b,c] t)).cell? ⟨w.heap.size,j,none⟩= #[a,b,c][j]? :=fun j=>World.cell?_alloc_new _ _ _ _
 exact⟨z 0,z 1,z 2,belR _ _,fun j=>by simp[go_sem],Zs⟩
theorem set3{w:World}{g:Nat}{a b c x0 x1 x2:Value}(m0:w.cell? ⟨g,0,none⟩=some x0)(m1:w.cell? ⟨g,1,none⟩=some x1)(m2:w.cell? ⟨g,2,none⟩=some x2):
  Only g w (((w.setCell ⟨g,0,none⟩ a).setCell ⟨g,1,none⟩ b).setCell ⟨g,2,none⟩ c)/\(((w.setCell ⟨g,0,none⟩ a).setCell ⟨g,1,none⟩ b).setCell ⟨g,2,none⟩ c).cell? ⟨g,0,none⟩=some a/\(((w.setCell ⟨g,0,none⟩ a).setCell ⟨g,1,none⟩ b).setCell ⟨g,2,none⟩ c).cell? ⟨g,1,none⟩=some b/\(((w.setCell ⟨g,0,none⟩ a).setCell ⟨g,1,none⟩ b).setCell ⟨g,2,none⟩ c).cell? ⟨g,2,none⟩=some c:=by
 refine⟨(((Only.refl _ _).setCell _ _).setCell _ _).setCell _ _,?_,?_,?_⟩
 ·rw[World.cell?_setCell_other _ _ _ _ Zs,World.cell?_setCell_other _ _ _ _ Zs,World.cell?_setCell_same _ _ _ m0]
 ·rw[World.cell?_setCell_other _ _ _ _ Zs,World.cell?_setCell_same _ _ _ ((World.cell?_setCell_other _ _ _ _ Zs).trans m1)]
 ·exact World.cell?_setCell_same _ _ _ ((World.cell?_setCell_other _ _ _ _ Zs).trans ((World.cell?_setCell_other _ _ _ _ Zs).trans m2))
theorem info_bytesW:(Tryz.prog.info? 42).map (fun i=>(i.zero,i.size,i.bytes))=some (some (.slice none 0 0),1,24):=Zk
theorem info_bytesW':∃i,Tryz.prog.info? 42=some i/\i.zero=some (.slice none 0 0)/\i.size=1/\i.bytes=24:=by
 have h:=info_bytesW;cases e:Tryz.prog.info? 42 with
 |none=>rw[e]at h;cases h
 |some i=>
  rw[e]at h;simp only[Option.map_some,Option.some.injEq,Prod.mk.injEq]at h;exact⟨i,rfl,h.1,h.2.1,h.2.2⟩
def SavedM(w:World)(ar:Int)(V:Nat->VoS)(wh:Bool)(e:Ending)(w':World):Prop:=∃(x y:Int) (vs:Value) (L:List ObV),e= .returned (.tuple #[.agg #[.int .i64 x,.int .i64 y,vs],.bool wh])/\RdOF w.heap.size w' vs L/\Below w.heap.size w w'/\(wh=true->x=ar/\y=(V 0).ep/\onL [(V 0).da,(V 1).da]=some (oL L))/\(wh=false->x=0/\y=0/\L=[])
theorem rdOF_nil(N:Nat)(w:World):RdOF N w (.slice none 0 0) []:=⟨Or.inl ⟨none,0,rfl,rfl⟩,fun G W _ _=>Or.inl ⟨none,0,rfl,rfl⟩⟩
theorem saved_no{w W:World}{ar:Int}{V:Nat->VoS}(b:Below w.heap.size w W):SavedM w ar V false (.returned (.tuple #[.agg #[.int .i64 0,.int .i64 0,.slice none 0 0],.bool false])) W:=⟨0,0,_,[],rfl,rdOF_nil _ _,b,fun q=>(by cases q),fun _=>⟨rfl,rfl,rfl⟩⟩
theorem wh_no{V:Nat->VoS}{r:Nat}(hr:r<2)(h:(V r).has=false∨¬(V r).ep=(V 0).ep):(((V 0).has&&(V 1).has&&((V 1).ep==(V 0).ep))=false):=by
 have:r=0∨r=1:=Zo
 rcases this with rfl|rfl
 ·rcases h with h|h
  ·rw[h];rfl
  ·exact absurd rfl h
 ·rcases h with h|h
  ·rw[h];simp
  ·rw[Zq.2 h];simp
theorem z30_1{p:Prop} (h:p:=by
 exact TurnG.trans (o.turnG (Or.inr rfl)) ⟨t.os,t.tape,t.output,t.size,fun k hk hn=>t.block k hk (fun g=>hn (Or.inl g))⟩
 ):p:=h
theorem saved_yes{w wr w6 Y:World}{ar ep:Int}{V:Nat->VoS}{v:Value}{L:List ObV}{b1:Nat}(he:(V 0).ep=ep)(hp:IsP [(V 0).da,(V 1).da] (oL L))(hlt:w.heap.size<wr.heap.size)(b:Below w.heap.size w w6)(hv:RdOF wr.heap.size w6 v L)(o:Only b1 w6 Y)(h1:b1=w.heap.size):SavedM w ar V true (.returned (.tuple #[.agg #[.int .i64 ar,.int .i64 ep,v],.bool true])) Y:=by
 refine⟨ar,ep,v,L,rfl,⟨hv.turn (G:=fun k=>k=b1) (fun k hk=>by rw[hk,h1];exact hlt) (o.turnG rfl),fun G W hG t=>?_⟩,b.trans (o.below (by rw[h1];exact Zr)),fun _=>⟨rfl,he.symm,onL_some hp⟩,fun q=>by cases q⟩;refine hv.turn (G:=fun k=>G k∨k=b1) (fun k hk=>?_) ?_
 ·rcases hk with hk|hk
  ·exact Nat.lt_trans (hG k hk) hlt
  ·rw[hk,h1];exact hlt
 ·exact z30_1
theorem hidI{p:Prop}(h:p):Hid p:=h
theorem sv_zero{p:Prop} (h:p:=by
 obtain⟨oY,s0,s1,s2⟩:=set3 (a:=.int .i64 0) (b:=.int .i64 0) (c:=.slice none 0 0) q0 q1 q2;have F:=saved_no (w:=w) (ar:=ar) (V:=V) (BBA.trans (oY.below (by rw[hb1.out];exact Zr)));have F9:=hidI F;clear F oY BBA;go_wp2;exact bodyPost_ret (v:=.tuple #[.agg #[.int .i64 0,.int .i64 0,.slice none 0 0],.bool false]) (by simp[results,Tryz.results64,go_sem,s0,s1,s2]) rfl F9.out):p:=h
theorem msaved_any{w:World}{pg:Nat}{V:Nat->VoS}{D:Nat->Value}(hR:w.rowIs pg 130 (2*5) (vtR V D 2))(hD:∀i,i<2->Rd w (D i) (V i).da){ar:Int}{wh:Bool}(hwh:((V 0).has&&(V 1).has&&((V 1).ep==(V 0).ep)&&(onL [(V 0).da,(V 1).da]).isSome)=wh):
  Calls Tryz.prog 64 #[.int .i64 ar,.slice (some ⟨pg,0,none⟩) 2 2] w (SavedM w ar V wh):=by
 have HR:Hid (w.rowIs pg 130 (2*5) (vtR V D 2)):=hR;have HD:Hid (∀i,i<2->Rd w (D i) (V i).da):=hD;have HWH:Hid (((V 0).has&&(V 1).has&&((V 1).ep==(V 0).ep)&&(onL [(V 0).da,(V 1).da]).isSome)=wh):=hwh;obtain⟨z0,z1,z2,bW,zf,lW⟩:=@lay3 w (.int .i64 0) (.int .i64 0) (.slice none 0 0) 41;obtain⟨W0,hW0⟩:∃W0,W0=w.alloc (.cells #[.int .i64 0,.int .i64 0,.slice none 0 0] 41):=⟨_,rfl⟩;rw[<-hW0]at z0 z1 z2 bW zf lW;obtain⟨b1,hb1⟩:∃b1,Hid (b1=w.heap.size):=⟨_,rfl⟩;rw[<-hb1.out]at z0 z1 z2 zf lW;have ZZ:Hid (∀W,Below W0.heap.size W0 W->W.cell? ⟨b1,0,none⟩=some (.int .i64 0)/\W.cell? ⟨b1,1,none⟩=some (.int .i64 0)/\W.cell? ⟨b1,2,none⟩=some (.slice none 0 0)/\(∀j,W.frozen? ⟨b1,j,none⟩=false)):=fun W b=>⟨(b.cell (p:=⟨b1,0,none⟩) lW).trans z0,(b.cell (p:=⟨b1,1,none⟩) lW).trans z1,(b.cell (p:=⟨b1,2,none⟩) lW).trans z2,fun j=>(b.frozen (p:=⟨b1,j,none⟩) lW).trans (zf j)⟩
 have HBW:Hid (Below w.heap.size w W0):=bW;have HSZ:=hidI (hb1.out▸lW:w.heap.size<W0.heap.size);obtain⟨e0,e1,e2,e3,e4⟩:=vt_at (hR.of_block (bW.block pg hR.lt)) (i:=0) Zo Zo;simp only[Nat.zero_mul,Nat.zero_add]at e0 e1 e2 e3 e4;obtain⟨ep,hep⟩:∃ep,Hid ((V 0).ep=ep):=⟨_,rfl⟩;rw[hep.out]at e1;obtain⟨i0,hi,hz0,hz1,hz2⟩:=info_bytesW';clear hwh hR hD bW e0 e2 e3 e4 z0 z1 z2 zf lW
 go_enter Tryz.func64,Tryz.ntmps64
 rw[hW0]at e1
 go_wp2_with fail
 rw[<-hW0];rw[<-hb1.out];clear hW0 e1
 go_loopw [7,18] (fun pv i wr=>∃(r:Nat) (vals:List Value),r<=2/\i= .int .i64 (r:Int)/\Vs wr W0.heap.size 42 pv ((List.range r).map fun i=>(V i).da) vals/\Hid (Below W0.heap.size W0 wr)/\Hid (∀i,i<r->(V i).has=true/\(V i).ep=(V 0).ep)) (fun _ i _=>2-(intOf i).toNat)
 case atStart=>exact⟨0,[],Zz,rfl,Vs.nil _ _ _,Zf,fun i hi=>Zo⟩
 case round=>
  obtain⟨r,vals,hr,rfl,hV,hB,hall⟩:=hrel;obtain⟨pa,pc,epv⟩:=hV.form;rw[List.length_map,List.length_range]at epv;subst epv;have BB:=HBW.out.step16 hB.out HBW.out.size
  by_cases hlt:r<2
  ·have hlt':(r:Int)<2:=by omega
   obtain⟨c0,c1,c2,c3,c4⟩:=vt_at (HR.out.of_block (BB.block pg HR.out.lt)) hlt hlt;have Rv:=(HD.out r hlt).below BB;have APX:Hid (∀g,w.heap.size<=g->Apart g (D r)):=fun g hg=>(HD.out r hlt).apart hg
   obtain⟨da,dc,ed⟩:=Rv.form;have NO:=@wh_no V r hlt;have ALL2:Hid ((V r).has=true->(V r).ep=(V 0).ep->∀i,i<r+1->(V i).has=true/\(V i).ep=(V 0).ep):=fun k1 k2 i hi=>by
    by_cases e:i=r
    ·rw[e];exact⟨k1,k2⟩
    ·exact hall.out i Zo
   have LST:Hid (((List.range r).map fun i=>(V i).da)++[(V r).da]=(List.range (r+1)).map fun i=>(V i).da):=by show _=_;rw[List.range_succ,List.map_append];rfl
   obtain⟨Vr,hVr⟩:∃Vr,Hid (V r=Vr):=⟨_,rfl⟩;rw[hVr.out]at c0 c1 c3 c4 ed Rv NO ALL2 LST;rw[ed]at c2 Rv APX;rw[hep.out]at NO ALL2;obtain⟨vh,ve,vda,vco,vw⟩:=Vr;simp only at c0 c1 c2 c3 c4 Rv NO ALL2 LST;have HNO:Hid (vh=false∨¬ve=ep->wh=false):=fun q=>by
    have:=NO q;rw[<-hep.out]at this;rw[<-HWH.out,this];rfl
   have ZN:=fun cs e=>ZZ.out (wr.alloc (.cells cs e)) (hB.out.step16 (belR _ _) hB.out.size)
   have BBN:=fun cs e=>BB.step16 (belR wr (.cells cs e)) BB.size
   clear NO hVr hall;cases vh with
   |false=>
    obtain rfl:wh=false:=HNO.out (Or.inl rfl);obtain⟨q0,q1,q2,qf⟩:=ZN #[.bool false,.int .i64 ve,.slice da vda.length dc,.int .i64 ((vco:Nat):Int),.bool vw] 130;have f0:=qf 0;have f1:=qf 1;have f2:=qf 2;have BBA:=BBN #[.bool false,.int .i64 ve,.slice da vda.length dc,.int .i64 ((vco:Nat):Int),.bool vw] 130;clear HNO HWH ALL2 LST ZN hV hB BB Rv qf BBN;exact sv_zero
   |true=>
    by_cases q:ve=ep
    rotate_left
    ·have q':(ve==ep)=false:=Zq.2 q;have q'':(ve !=ep)=true:=by simp[bne,q']
     obtain rfl:wh=false:=HNO.out (Or.inr q);obtain⟨q0,q1,q2,qf⟩:=ZN #[.bool true,.int .i64 ve,.slice da vda.length dc,.int .i64 ((vco:Nat):Int),.bool vw] 130;have f0:=qf 0;have f1:=qf 1;have f2:=qf 2;have BBA:=BBN #[.bool true,.int .i64 ve,.slice da vda.length dc,.int .i64 ((vco:Nat):Int),.bool vw] 130;clear HNO HWH ALL2 LST ZN hV hB BB Rv qf BBN;exact sv_zero
    ·subst q;have AL:Hid _:=ALL2.out rfl rfl;obtain⟨w4,hw4⟩:∃w4,w4=wr.alloc (.cells #[.bool true,.int .i64 ve,.slice da vda.length dc,.int .i64 ((vco:Nat):Int),.bool vw] 130):=⟨_,rfl⟩;obtain⟨w5,hw5⟩:∃w5,w5=w4.alloc (.cells #[.slice da vda.length dc] 42):=⟨_,rfl⟩;have b4:Below wr.heap.size wr w4:=by rw[hw4];exact belR _ _
     have b5:Below w4.heap.size w4 w5:=by rw[hw5];exact belR _ _
     have b45:=b4.step16 b5 b4.size;have V5:=hV.below b45;have R5:=Rv.below b45;have B5:=hB.out.step16 b45 hB.out.size;have hap:∀g,(Value.slice pa r pc).ownBlock=some g->Apart g (.slice da vda.length dc):=fun g hg=>APX.out g (by
      have h1:=(Zv hV.row g hg).1;have h2:=HBW.out.size;omega)
     have e4:w4.heap.size=wr.heap.size+1:=by rw[hw4];simp
     have c5:w5.cell? ⟨wr.heap.size+1,0,none⟩=some (.slice da vda.length dc):=by rw[hw5,<-e4,World.cell?_alloc_new];rfl
     have hl5:((List.range r).map fun i=>(V i).da).length<=100000:=by rw[List.length_map,List.length_range];omega
     clear HNO ZN hV hB BB Rv ALL2 BBN;rw[hw5,hw4]at V5 R5 c5;rw[hw4]at hw5;rw[hw5]at B5;have s5:W0.heap.size<=((wr.alloc (.cells #[.bool true,.int .i64 ve,.slice da vda.length dc,.int .i64 ((vco:Nat):Int),.bool vw] 130)).alloc (.cells #[.slice da vda.length dc] 42)).heap.size:=B5.size;have h1:(Value.slice da vda.length dc).oneCell'=true:=rfl;clear hw4 hw5 b4 b5 b45 e4;have hlen:((List.range r).map fun i=>(V i).da).length=r:=by rw[List.length_map,List.length_range]
     have V5r:=V5.row;rw[hlen]at V5r hl5
     go_wp2_with (at_builtin;go_loud (refine wpList_append_v ((wr.alloc (.cells #[.bool true,.int .i64 ve,.slice da vda.length dc,.int .i64 ((vco:Nat):Int),.bool vw] 130)).alloc (.cells #[.slice da vda.length dc] 42)) rfl (.tmp 32) (.tmp 35) 140 rfl W0.heap.size 42 i0 (.slice none 0 0) 24 Tryz.underlying140 hi hz0 hz1 hz2 rfl Zd (.slice pa r pc) r vals rfl V5r (wr.heap.size+1) 1 (.slice da vda.length dc) rfl c5 h1 hl5 s5 ?_);intro v7 w7 h7 g7 e7)
     have V7:=V5.push R5 hap (by rw[hlen];exact h7) g7 (by rcases e7 with e|e<;>simp[e]);rw[LST.out]at V7;have B7:Hid (Below W0.heap.size W0 w7):=B5.grown g7 B5.size (fun q hq=>(Zv V5.row q hq).1);clear V5 R5 hap h7 g7 e7 B5 c5 V5r s5;go_roundw
     case rel=>exact⟨r+1,_,Zo,Zg,V7,B7,hep.out▸AL⟩
     case measure=>simp[intOf];omega
  ·obtain rfl:r=2:=by omega
   have hge:¬(2:Int)<2:=Zo
   have A0:=hall.out 0 Zo;have A1:=hall.out 1 Zo;have WH2:Hid ((onL [(V 0).da,(V 1).da]).isSome=wh):=by
    show _=_
    rw[<-HWH.out,A0.1,A1.1,A1.2];simp
   have hU:=uns16_far (P:=[(V 0).da,(V 1).da]) hV.rs Zs;have BW:=hidI (fun W (b:Below wr.heap.size wr W)=>ZZ.out W (hB.out.step16 b hB.out.size));have hlw:w.heap.size<wr.heap.size:=by
    have h1:=hB.out.size;have h2:=HSZ.out;omega
   have B9:=hidI (fun W (b:Below wr.heap.size wr W)=>BB.step16 b BB.size);clear A0 A1 hall HWH hV BB hi hz0 hz1 hz2 HR HD ZZ HBW hB
   go_wp2_with fail
   refine hU.mono ?_
   rintro _ w6 (⟨L,v,hp,rfl,hv,b6⟩|⟨hn,rfl,b6⟩)
   ·obtain⟨q0,q1,q2,qf⟩:=BW.out w6 b6;have f0:=qf 0;have f1:=qf 1;have f2:=qf 2;obtain rfl:true=wh:=by rw[<-WH2.out,onL_some hp];rfl
    obtain⟨oY,s0,s1,s2⟩:=set3 (a:=.int .i64 ar) (b:=.int .i64 ep) (c:=v) q0 q1 q2;have F:=saved_yes (ar:=ar) (V:=V) hep.out hp hlw (B9.out _ b6) hv oY hb1.out;have F9:=hidI F;obtain⟨va,vc,hv0⟩:=hv.form;clear hU BW B9 hp hv oY F;subst hv0;go_wp2;exact bodyPost_ret (v:=.tuple #[.agg #[.int .i64 ar,.int .i64 ep,.slice va L.length vc],.bool true]) (by simp[results,Tryz.results64,go_sem,s0,s1,s2]) rfl F9.out
   ·obtain⟨q0,q1,q2,qf⟩:=BW.out w6 b6;have f0:=qf 0;have f1:=qf 1;have f2:=qf 2;have BBA:=B9.out _ b6;obtain rfl:false=wh:=by rw[<-WH2.out,onL_none (fun ⟨l,k⟩=>hn l k)];rfl
    clear hU BW B9 hn;exact sv_zero
noncomputable def ltF(a:ArS)(g:GeoS)(K:List Bool):Nat->Bool×ArW
 |0=>(false,default)
 |r+1=>if (onA a g K (r:Int)).whole=true/\((ltF a g K r).1=false∨(onA a g K (r:Int)).ep>(ltF a g K r).2.ep)then (true,onA a g K (r:Int))else ltF a g K r
theorem ltF_bad{a:ArS}{g:GeoS}{K:List Bool}(h1:okG g)(h2:a.off=false){r:Nat}(hr:r<2)(hw:(onA a g K (r:Int)).whole=false)(hi:(onA a g K (r:Int)).wit=false):ltX a g K=150/\ltA a g K=default:=by
 have n1:¬¬okG g:=fun k=>k h1
 have x:ltX a g K=150:=by
  unfold ltX;rw[if_neg n1,h2,if_neg Zs];unfold ltE
  have:r=0∨r=1:=Zo
  rcases this with rfl|rfl
  ·exact if_pos (Or.inr (Or.inl ⟨hw,hi⟩))
  ·exact if_pos (Or.inr (Or.inr ⟨hw,hi⟩))
 refine⟨x,?_⟩;unfold ltA;rw[x];exact if_neg Zd
theorem ltF_off{a:ArS}{g:GeoS}{K:List Bool}(h1:okG g)(h2:¬rvX a=0):ltX a g K=rvX a/\ltA a g K=default:=by
 have n1:¬¬okG g:=fun k=>k h1
 have x:ltX a g K=rvX a:=by
  unfold ltX;unfold rvX at h2 ⊢;rw[if_neg n1]
  by_cases q:a.off=true
  ·rw[if_pos q,if_pos q]
  ·rw[if_neg q]at h2;exact absurd rfl h2
 refine⟨x,?_⟩;unfold ltA;rw[x];exact if_neg h2
theorem ltF_ref{a:ArS}{g:GeoS}{K:List Bool}(h:¬chG g=0):ltX a g K=chG g/\ltA a g K=default:=by
 have x:ltX a g K=chG g:=by
  unfold ltX;unfold chG at h ⊢
  by_cases q:okG g
  ·rw[if_pos q]at h;exact absurd rfl h
  ·rw[if_pos q,if_neg q]
 refine⟨x,?_⟩;unfold ltA;rw[x];exact if_neg h
theorem ltF_good{a:ArS}{g:GeoS}{K:List Bool}(h1:okG g)(h2:rvX a=0)(hok:∀i:Nat,i<2->¬((onA a g K (i:Int)).whole=false/\(onA a g K (i:Int)).wit=false)):ltX a g K=(if (ltF a g K 2).1=true then 0 else 150)/\ltA a g K=(ltF a g K 2).2:=by
 have n1:¬¬okG g:=fun k=>k h1
 have ho:a.off=false:=by
  unfold rvX at h2;cases e:a.off with
  |false=>rfl
  |true=>rw[if_pos e]at h2;cases h2
 have k0:=hok 0 Zo;have k1:=hok 1 Zo;have e0:((0:Nat):Int)=0:=rfl;have e1:((1:Nat):Int)=1:=rfl;rw[e0]at k0;rw[e1]at k1;have x:ltX a g K=ltE (onA a g K 0) (onA a g K 1):=by
  unfold ltX;rw[if_neg n1,ho,if_neg Zs]
 unfold ltA;rw[x]
 show _=(if (ltF a g K (1+1)).1=true then _ else _)/\_=(ltF a g K (1+1)).2
 have f1:ltF a g K 1=if (onA a g K 0).whole=true then (true,onA a g K 0)else (false,default):=by
  have z:ltF a g K (0+1)=if (onA a g K 0).whole=true/\((ltF a g K 0).1=false∨(onA a g K 0).ep>(ltF a g K 0).2.ep)then (true,onA a g K 0)else ltF a g K 0:=rfl
  refine Eq.trans z ?_
  by_cases q:(onA a g K 0).whole=true
  ·exact(if_pos ⟨q,Or.inl rfl⟩).trans (if_pos q).symm
  ·exact(if_neg (fun k=>q k.1)).trans (if_neg q).symm
 have f2:ltF a g K (1+1)=if (onA a g K 1).whole=true/\((ltF a g K 1).1=false∨(onA a g K 1).ep>(ltF a g K 1).2.ep)then (true,onA a g K 1)else ltF a g K 1:=rfl
 generalize onA a g K 0=X at*;generalize onA a g K 1=Y at*;rw[f2,f1];obtain⟨xa,xe,xo,xw,xi⟩:=X;obtain⟨ya,ye,yo,yw,yi⟩:=Y;unfold ltE ltW;simp only at k0 k1 ⊢;cases xw<;>cases yw<;>cases xi<;>cases yi<;>simp at k0 k1 ⊢<;>(try split)<;>simp
def Lat18(w:World)(x:Int)(A:ArW)(e:Ending)(w':World):Prop:=∃(vs:Value) (L:List ObV),e= .returned (.tuple #[.agg #[.int .i64 A.ar,.int .i64 A.ep,vs],.int .i64 x])/\RdOF w.heap.size w' vs L/\oL L=A.ob/\Below w.heap.size w w'
theorem lat_no{w W Y:World}{x:Int}{b6:Nat}(b:Below w.heap.size w W)(o:Only b6 W Y)(h6:w.heap.size<=b6):Lat18 w x default (.returned (.tuple #[.agg #[.int .i64 0,.int .i64 0,.slice none 0 0],.int .i64 x])) Y:=⟨_,[],rfl,rdOF_nil _ _,rfl,b.trans (o.below h6)⟩
theorem rdOF_only{N b:Nat}{w Y:World}{v:Value}{L:List ObV}(hv:RdOF N w v L)(o:Only b w Y)(hb:b<N):RdOF N Y v L:=by
 refine⟨hv.turn (G:=fun k=>k=b) (fun k hk=>by rw[hk];exact hb) (o.turnG rfl),fun G W hG t=>?_⟩;refine hv.turn (G:=fun k=>G k∨k=b) (fun k hk=>?_) ?_
 ·rcases hk with hk|hk
  ·exact hG k hk
  ·rw[hk];exact hb
 ·exact z30_1
theorem lat_yes{w wr Y:World}{x:Int}{A:ArW}{b6 N:Nat}{v:Value}{L:List ObV}(hv:RdOF N wr v L)(ho:oL L=A.ob)(o:Only b6 wr Y)(h6:b6<N)(hb:w.heap.size<=b6)(hN:w.heap.size<=N)(b:Below w.heap.size w wr):Lat18 w x A (.returned (.tuple #[.agg #[.int .i64 A.ar,.int .i64 A.ep,v],.int .i64 x])) Y.drew:=by
 have d:=Below.drew (Below.refl Y.heap.size Y);exact⟨v,L,rfl,((rdOF_only hv o h6).mono hN).below d,ho,(b.trans (o.below hb)).drew⟩
def LtBox(w:World)(lb:Nat)(A:ArW)(v:Value):Prop:=w.cell? ⟨lb,0,none⟩=some (.int .i64 A.ar)/\w.cell? ⟨lb,1,none⟩=some (.int .i64 A.ep)/\w.cell? ⟨lb,2,none⟩=some v/\∀j,w.frozen? ⟨lb,j,none⟩=false
theorem LtBox.below{w w':World}{lb:Nat}{A:ArW}{v:Value}(h:LtBox w lb A v)(b:Below w.heap.size w w')(hl:lb<w.heap.size):LtBox w' lb A v:=⟨(b.cell (p:=⟨lb,0,none⟩) hl).trans h.1,(b.cell (p:=⟨lb,1,none⟩) hl).trans h.2.1,(b.cell (p:=⟨lb,2,none⟩) hl).trans h.2.2.1,fun j=>(b.frozen (p:=⟨lb,j,none⟩) hl).trans (h.2.2.2 j)⟩
theorem two18l(w:World)(g:GeoS)(e f:Nat):∀V,Below ((w.alloc (.cells (cellsG g) e)).alloc (.cells #[.int .i64 0,.int .i64 0,.slice none 0 0] f)).heap.size ((w.alloc (.cells (cellsG g) e)).alloc (.cells #[.int .i64 0,.int .i64 0,.slice none 0 0] f)) V->
  (GeoAt V w.heap.size g/\Below w.heap.size w V)/\LtBox V (w.heap.size+1) default (.slice none 0 0):=by
 intro V hV;obtain⟨u,hu⟩:∃u,u=w.alloc (.cells (cellsG g) e):=⟨_,rfl⟩;have LG:=geo_laid w g e;rw[<-hu]at hV LG;have s1:u.heap.size=w.heap.size+1:=by rw[hu];simp
 obtain⟨z0,z1,z2,b2,zf,lt⟩:=@lay3 u (.int .i64 0) (.int .i64 0) (.slice none 0 0) f;refine⟨LG V (b2.step16 hV b2.size),?_⟩;rw[<-s1];exact LtBox.below (A:=default) ⟨z0,z1,z2,zf⟩ hV lt
theorem ltF_take{a:ArS}{g:GeoS}{K:List Bool}{r:Nat}(h:(onA a g K (r:Int)).whole=true/\((ltF a g K r).1=false∨(onA a g K (r:Int)).ep>(ltF a g K r).2.ep)):ltF a g K (r+1)=(true,onA a g K (r:Int)):=if_pos h
theorem ltF_keep{a:ArS}{g:GeoS}{K:List Bool}{r:Nat}(h:¬((onA a g K (r:Int)).whole=true/\((ltF a g K r).1=false∨(onA a g K (r:Int)).ep>(ltF a g K r).2.ep))):ltF a g K (r+1)=ltF a g K r:=if_neg h
theorem saved_onA{w w':World}{a:ArS}{g:GeoS}{K:List Bool}{r:Nat}{e:Ending}(h:SavedM w (r:Int) (fun i=>onV a g K (r:Int) (i:Int)) (onA a g K (r:Int)).whole e w'):∃(x y:Int) (vs:Value) (L:List ObV),e= .returned (.tuple #[.agg #[.int .i64 x,.int .i64 y,vs],.bool (onA a g K (r:Int)).whole])/\RdOF w.heap.size w' vs L/\Below w.heap.size w w'/\((onA a g K (r:Int)).whole=true->x=(onA a g K (r:Int)).ar/\y=(onA a g K (r:Int)).ep/\oL L=(onA a g K (r:Int)).ob):=by
 obtain⟨x,y,vs,L,h1,h2,h3,h4,h5⟩:=h;refine⟨x,y,vs,L,h1,h2,h3,fun q=>?_⟩;obtain⟨k1,k2,k3⟩:=h4 q;refine⟨k1,k2,?_⟩
 show _=(onL [(onV a g K (r:Int) 0).da,(onV a g K (r:Int) 1).da]).getD []
 have k3':onL [(onV a g K (r:Int) 0).da,(onV a g K (r:Int) 1).da]=some (oL L):=k3;rw[k3'];rfl
theorem lt_zero{p:Prop} (h:p:=by
 obtain⟨q0,q1,q2,qf⟩:=ZB.out _ BZ;have f0:=qf 0;have f1:=qf 1;have f2:=qf 2;obtain⟨oY,s0,s1,s2⟩:=set3 (a:=.int .i64 0) (b:=.int .i64 0) (c:=.slice none 0 0) q0 q1 q2;have F:=lat_no (x:=E) (ZW.out _ BZ) oY h6.out;have F9:=hidI F;clear F oY BZ qf;go_wp2;exact bodyPost_ret (v:=.tuple #[.agg #[.int .i64 0,.int .i64 0,.slice none 0 0],.int .i64 E]) (by simp[results,Tryz.results20,go_sem,s0,s1,s2]) rfl (by first|exact(XE.out▸AE.out▸F9.out)|(rw[XE.out,AE.out];exact F9.out))):p:=h
theorem lt_damaged{p:Prop} (h:p:=by
 obtain⟨q0,q1,q2,qf⟩:=ZB.out _ BZ;have f0:=qf 0;have f1:=qf 1;have f2:=qf 2;obtain⟨oY,s0,s1,s2⟩:=set3 (a:=.int .i64 0) (b:=.int .i64 0) (c:=.slice none 0 0) q0 q1 q2;have F:=lat_no (x:=150) (ZW.out _ BZ) oY h6.out;have F9:=hidI F;clear F oY BZ qf;go_wp2;exact bodyPost_ret (v:=.tuple #[.agg #[.int .i64 0,.int .i64 0,.slice none 0 0],.int .i64 150]) (by simp[results,Tryz.results20,go_sem,s0,s1,s2]) rfl (by first|exact(XE.out▸AE.out▸F9.out)|(rw[XE.out,AE.out];exact F9.out))):p:=h
theorem mlatest_any{w:World}{ab:Nat}{GA:Nat->Prop}{a:ArS}(h:ArAt w ab GA a){g:GeoS}(hg:g.Wf){u:Value}{K:List Bool}(hk:RdB w u K):
  Calls Tryz.prog 20 #[.pointer (some ⟨ab,0,none⟩),aggG g,u] w (Lat18 w (ltX a g K) (ltA a g K)):=by
 obtain⟨ua,uc,eu⟩:=hk.form;subst eu;have HA:Hid (ArAt w ab GA a):=h;have HK:Hid (RdB w (.slice ua K.length uc) K):=hk;have KC0:=fun V=>@mref_any V ab g hg _ rfl
 have KV0:=fun V (b:Below w.heap.size w V) (ar:Int) (haw:(Lit.int .i64 ar).wf=true)=>@mvotes_any V ab GA a (HA.out.below b) g hg _ K (HK.out.below b) ar haw
 obtain⟨y,hy⟩:∃y,Hid (y=chG g):=⟨_,rfl⟩;rw[<-hy.out]at KC0;have BAD:Hid (¬y=0->ltX a g K=y/\ltA a g K=default):=fun q=>by rw[hy.out]at q ⊢;exact ltF_ref q
 have OK:Hid (y=0->okG g):=fun q=>by
  rw[hy.out]at q;unfold chG at q
  by_cases k:okG g
  ·exact k
  ·rw[if_neg k]at q;cases q
 have T2:=two18l w g 23 41;have FT:=fun r=>@ltF_take a g K r
 have FN:=fun r=>@ltF_keep a g K r
 have WIT:=fun (wx:World) (pg:Nat) (D:Nat->Value) (r:Nat) hR hD=>@mwitn_any wx pg (fun i=>onV a g K (r:Int) (i:Int)) D hR hD (onA a g K (r:Int)).wit rfl
 have SAV:=fun (wx:World) (pg:Nat) (D:Nat->Value) (r:Nat) hR hD=>(@msaved_any wx pg (fun i=>onV a g K (r:Int) (i:Int)) D hR hD (r:Int) (onA a g K (r:Int)).whole rfl).mono (fun _ _ h=>saved_onA h)
 obtain⟨X,hX⟩:∃X,Hid (rvX a=X):=⟨_,rfl⟩;rw[hX.out]at KV0;have OFF:Hid (y=0->¬X=0->ltX a g K=X/\ltA a g K=default):=fun q n=>by
  rw[<-hX.out]at n ⊢;exact ltF_off (OK.out q) n
 have BADR:Hid (y=0->X=0->∀r:Nat,r<2->(onA a g K (r:Int)).whole=false->(onA a g K (r:Int)).wit=false->ltX a g K=150/\ltA a g K=default):=fun q n r hr h1 h2=>by
  refine ltF_bad (OK.out q) ?_ hr h1 h2
  rw[<-hX.out]at n;unfold rvX at n;cases e:a.off with
  |false=>rfl
  |true=>rw[if_pos e]at n;cases n
 have GOOD:Hid (y=0->(∀i:Nat,i<2->X=0/\¬((onA a g K (i:Int)).whole=false/\(onA a g K (i:Int)).wit=false))->ltX a g K=(if (ltF a g K 2).1=true then 0 else 150)/\ltA a g K=(ltF a g K 2).2):=fun q n=>ltF_good (OK.out q) (by rw[hX.out];exact(n 0 Zo).1) (fun i hi=>(n i hi).2)
 obtain⟨W,hW⟩:∃W,W=(w.alloc (.cells #[.int .i64 g.k,.int .i64 g.m,.int .i64 g.z,.int .i64 g.s,.int .i64 g.t,.int .i64 g.o] 23)).alloc (.cells #[.int .i64 0,.int .i64 0,.slice none 0 0] 41):=⟨_,rfl⟩;have T3:Hid (∀V,Below W.heap.size W V->(GeoAt V w.heap.size g/\Below w.heap.size w V)/\LtBox V (w.heap.size+1) default (.slice none 0 0)):=by rw[hW];exact T2
 clear T2 OK hX hy;obtain⟨gv,hgv⟩:∃gv,Hid (aggG g=gv):=⟨_,rfl⟩;obtain⟨k,m,z,s,t,o⟩:=g;have ZB:Hid (∀V,Below W.heap.size W V->V.cell? ⟨w.heap.size+1,0,none⟩=some (.int .i64 0)/\V.cell? ⟨w.heap.size+1,1,none⟩=some (.int .i64 0)/\V.cell? ⟨w.heap.size+1,2,none⟩=some (.slice none 0 0)/\∀j,V.frozen? ⟨w.heap.size+1,j,none⟩=false):=fun V b=>(T3.out V b).2
 have ZW:Hid (∀V,Below W.heap.size W V->Below w.heap.size w V):=fun V b=>(T3.out V b).1.2
 have ZG:Hid (∀V,Below W.heap.size W V->GeoAt V w.heap.size ⟨k,m,z,s,t,o⟩):=fun V b=>(T3.out V b).1.1
 have LW:Hid (w.heap.size+1<W.heap.size):=by show _<_;rw[hW];simp
 have h6:Hid (w.heap.size<=w.heap.size+1):=Nat.le_succ _;clear T3 h hk hg;rw[aggE]at KC0 KV0 ⊢;clear hgv;obtain⟨x0,x1,x2,x3,x4,x5⟩:=ZG.out W Zf;simp only at x0 x1 x2 x3 x4 x5 hW
 go_enter Tryz.func20,Tryz.ntmps20
 go_wp2_with fail
 rw[<-hW];clear hW;refine(KC0 _).mono ?_
 rintro _ w1 ⟨rfl,B1⟩;clear KC0 x0 x1 x2 x3 x4 x5
 by_cases q:y=0
 rotate_left
 ·have q1:(y==0)=false:=Zq.2 q;have q2:(y !=0)=true:=by simp[bne,q1]
  have XE:Hid (ltX a ⟨k,m,z,s,t,o⟩ K=y):=(BAD.out q).1;have AE:Hid (ltA a ⟨k,m,z,s,t,o⟩ K=default):=(BAD.out q).2;obtain⟨E,rfl⟩:∃E,E=y:=⟨_,rfl⟩;have BZ:=B1;clear BAD OFF BADR GOOD KV0 FT FN WIT SAV B1;exact lt_zero
 subst q;have OFF':=hidI (OFF.out rfl);have BADR':=hidI (BADR.out rfl);have GOOD':=hidI (GOOD.out rfl);clear BAD OFF BADR GOOD;obtain⟨l0,l1,l2,b2,lf,l2s⟩:=@lay3 w1 (.int .i64 0) (.int .i64 0) (.slice none 0 0) 41;obtain⟨w2,hw2⟩:∃w2,w2=w1.alloc (.cells #[.int .i64 0,.int .i64 0,.slice none 0 0] 41):=⟨_,rfl⟩;have LB0:Hid (LtBox w2 w1.heap.size (ltF a ⟨k,m,z,s,t,o⟩ K 0).2 (.slice none 0 0)):=by rw[hw2];exact⟨l0,l1,l2,lf⟩
 rw[<-hw2]at b2 l2s;have HB1:Hid (Below W.heap.size W w1):=B1;obtain⟨lb,hlb⟩:∃lb,Hid (lb=w1.heap.size):=⟨_,rfl⟩;rw[<-hlb.out]at LB0 l2s;clear l0 l1 l2 lf B1
 go_wp2_with fail
 rw[<-hw2];clear hw2;rw[<-hlb.out]
 go_loopw [10,23] (fun hv i wr=>∃(r:Nat) (lv:Value) (L:List ObV),r<=2/\i= .int .i64 (r:Int)/\hv= .bool (ltF a ⟨k,m,z,s,t,o⟩ K r).1/\Hid (Below w1.heap.size w1 wr)/\Hid (lb<wr.heap.size)/\Hid (LtBox wr lb (ltF a ⟨k,m,z,s,t,o⟩ K r).2 lv)/\Hid (RdOF (lb+1) wr lv L)/\Hid (oL L=(ltF a ⟨k,m,z,s,t,o⟩ K r).2.ob)/\Hid (∀i:Nat,i<r->X=0/\¬((onA a ⟨k,m,z,s,t,o⟩ K (i:Int)).whole=false/\(onA a ⟨k,m,z,s,t,o⟩ K (i:Int)).wit=false))) (fun _ i _=>2-(intOf i).toNat)
 case atStart=>exact⟨0,_,[],Zz,rfl,rfl,b2,l2s,LB0,rdOF_nil _ _,rfl,fun i hi=>Zo⟩
 case round=>
  obtain⟨r,lv,L,hr,rfl,rfl,hB,hl,hbox,hrd,hob,hall⟩:=hrel;have BW:=HB1.out.step16 hB.out HB1.out.size
  by_cases hlt:r<2
  ·have hlt':(r:Int)<2:=by omega
   have KV:=KV0 wr (ZW.out _ BW) (r:Int) (by
    have:r=0∨r=1:=Zo
    rcases this with rfl|rfl<;>decide)
   obtain⟨x0,x1,x2,x3,x4,x5⟩:=ZG.out wr BW;simp only at x0 x1 x2 x3 x4 x5;clear KV0
   go_wp2_with fail
   refine KV.mono ?_
   rintro _ w3 (⟨hx,rfl,b3⟩|⟨hx,pg,D,rfl,hrow,hrdd,b3⟩)
   ·have q1:(X==0)=false:=Zq.2 hx;have q2:(X !=0)=true:=by simp[bne,q1]
    have XE:Hid (ltX a ⟨k,m,z,s,t,o⟩ K=X):=(OFF'.out hx).1;have AE:Hid (ltA a ⟨k,m,z,s,t,o⟩ K=default):=(OFF'.out hx).2;obtain⟨E,rfl⟩:∃E,E=X:=⟨_,rfl⟩;have BZ:=BW.step16 b3 BW.size;clear OFF' BADR' GOOD' FT FN WIT SAV KV hB hl hbox hrd hob hall BW x0 x1 x2 x3 x4 x5;exact lt_zero
   subst hx;have BAD1:=hidI (BADR'.out rfl r hlt);have NEXT:Hid (¬((onA a ⟨k,m,z,s,t,o⟩ K (r:Int)).whole=false/\(onA a ⟨k,m,z,s,t,o⟩ K (r:Int)).wit=false)->∀i:Nat,i<r+1->(0:Int)=0/\¬((onA a ⟨k,m,z,s,t,o⟩ K (i:Int)).whole=false/\(onA a ⟨k,m,z,s,t,o⟩ K (i:Int)).wit=false)):=fun n i hi=>by
    by_cases e:i=r
    ·rw[e];exact⟨rfl,n⟩
    ·exact hall.out i Zo
   have FT1:=hidI (@FT r);have FN1:=hidI (@FN r);have S1:=SAV w3 pg D r hrow hrdd;have W1:=hidI (fun V (b:Below w3.heap.size w3 V)=>WIT V pg D r (hrow.of_block (b.block pg hrow.lt)) (fun i hi=>(hrdd i hi).below b));have B3:=hidI (fun V (b:Below w3.heap.size w3 V)=>hB.out.step16 (b3.step16 b b3.size) hB.out.size);have lb3:lb<w3.heap.size:=Zu hl.out b3.size;have BX3:=hidI (fun V (b:Below w3.heap.size w3 V)=>(hbox.out.below b3 hl.out).below b lb3);have RD3:=hidI (fun V (b:Below w3.heap.size w3 V)=>(hrd.out.below b3).below b);clear OFF' BADR' GOOD' FT FN WIT SAV KV hB hl hbox hrd hall BW x0 x1 x2 x3 x4 x5 hrow hrdd b3;obtain⟨XA,hXA⟩:∃XA,onA a ⟨k,m,z,s,t,o⟩ K (r:Int)=XA:=⟨_,rfl⟩;obtain⟨FA,hFA⟩:∃FA,ltF a ⟨k,m,z,s,t,o⟩ K r=FA:=⟨_,rfl⟩;rw[hXA]at BAD1 FT1 FN1 S1 W1;rw[hFA]at FT1 FN1 BX3 hob ⊢;have NEXT1:=hidI (fun n=>NEXT.out (hXA.symm▸n:¬((onA a ⟨k,m,z,s,t,o⟩ K (r:Int)).whole=false/\(onA a ⟨k,m,z,s,t,o⟩ K (r:Int)).wit=false)));clear NEXT hXA hFA;obtain⟨xar,xep,xob,xw,xi⟩:=XA;obtain⟨fh,far,fep,fob,fw,fi⟩:=FA;simp only at BAD1 FT1 FN1 S1 W1 BX3 hob NEXT1
   go_wp2_with fail
   refine S1.mono ?_
   rintro _ w4 ⟨x,y,vs,L2,rfl,hv,b4,himp⟩;obtain⟨va,vc,ev⟩:=hv.form;subst ev;clear S1;have b5:=belR w4 (.cells #[.int .i64 x,.int .i64 y,.slice va L2.length vc] 41);have B45:=b4.step16 b5 b4.size;have RD5:=hidI (hv.below b5);cases xw with
   |false=>
    obtain⟨w5,hw5⟩:∃w5,w5=w4.alloc (.cells #[.int .i64 x,.int .i64 y,.slice va L2.length vc] 41):=⟨_,rfl⟩;rw[<-hw5]at B45;have W5:=W1.out _ B45;clear himp hv b4 b5 RD5 FT1
    go_wp2_with fail
    rw[<-hw5];clear hw5;refine W5.mono ?_
    rintro _ w6 ⟨rfl,b6⟩;have B6:=B45.step16 b6 B45.size;cases xi with
    |false=>
     have XE:Hid (ltX a ⟨k,m,z,s,t,o⟩ K=150):=(BAD1.out Zs Zs).1;have AE:Hid (ltA a ⟨k,m,z,s,t,o⟩ K=default):=(BAD1.out Zs Zs).2;have BZ:=HB1.out.step16 (B3.out _ B6) HB1.out.size;clear BAD1 FN1 NEXT1 W1 B3 BX3 RD3 B45 W5 B6 hob b6;exact lt_damaged
    |true=>
     have FNX:=hidI (FN1.out (fun q=>by cases q.1));have B7:=hidI (B3.out _ B6);have L7:Hid (lb<w6.heap.size):=Zu lb3 B6.size;have BX7:=hidI (BX3.out _ B6);have RD7:=hidI (RD3.out _ B6);have AL7:=hidI (NEXT1.out (fun q=>by cases q.2));clear BAD1 FN1 NEXT1 W1 B3 BX3 RD3 B45 W5 B6 b6;go_wp2;go_roundw
     case rel=>exact⟨r+1,lv,L,Zo,Zg,by rw[FNX.out],B7,L7,by rw[FNX.out];exact BX7,RD7,by rw[FNX.out];exact hob,AL7⟩
     case measure=>simp[intOf];omega
   |true=>
    obtain⟨ex,ey,eob⟩:=himp Zs;subst ex;subst ey;obtain⟨c0,c1,c2,cf⟩:=BX3.out _ B45;simp only at c0 c1 c2;have f0:=cf 0;have f1:=cf 1;have f2:=cf 2;have L7:Hid (lb<(w4.alloc (.cells #[.int .i64 x,.int .i64 y,.slice va L2.length vc] 41)).heap.size):=Zu lb3 B45.size;have B7:=hidI (B3.out _ B45);have AL7:=hidI (NEXT1.out (fun q=>by cases q.1))
    by_cases tk:fh=false∨y>fep
    ·have FTX:=hidI (FT1.out ⟨Zs,tk⟩);obtain⟨Y,hY⟩:∃Y,Y=(((w4.alloc (.cells #[.int .i64 x,.int .i64 y,.slice va L2.length vc] 41)).setCell ⟨lb,0,none⟩ (.int .i64 x)).setCell ⟨lb,1,none⟩ (.int .i64 y)).setCell ⟨lb,2,none⟩ (.slice va L2.length vc):=⟨_,rfl⟩;obtain⟨oY,s0,s1,s2⟩:=set3 (a:=.int .i64 x) (b:=.int .i64 y) (c:=.slice va L2.length vc) c0 c1 c2;rw[<-hY]at oY s0 s1 s2;have BXY:Hid (LtBox Y lb ⟨x,y,xob,true,xi⟩ (.slice va L2.length vc)):=⟨s0,s1,s2,fun j=>by rw[hY];simpa[go_sem]using cf j⟩;have BY:Hid (Below w1.heap.size w1 Y):=B7.out.trans (oY.below (by rw[hlb.out];exact Zr));have RDY:=hidI ((rdOF_only RD5.out oY lb3).mono lb3);have LY:Hid (lb<Y.heap.size):=by
      show _<_
      rw[oY.size];exact L7.out
     have tk':fh=true->decide (y>fep)=true/\decide (fep<y)=true:=fun e=>by
      rcases tk with k|k
      ·rw[e]at k;cases k
      ·exact⟨Zy k,Zy k⟩
     clear BAD1 FT1 FN1 NEXT1 W1 B3 BX3 RD3 B45 b4 b5 hob hv himp oY s0 s1 s2 RD5 B7 L7;cases fh with
     |false=>
      clear tk' tk;go_wp2;rw[<-hY];go_roundw
      case rel=>exact⟨r+1,_,L2,Zo,Zg,by rw[FTX.out],BY,LY,by rw[FTX.out];exact BXY,RDY,by rw[FTX.out];exact eob,AL7⟩
      case measure=>simp[intOf];omega
     |true=>
      obtain⟨t1,t2⟩:=tk' Zs;clear tk' tk;go_wp2;rw[<-hY];go_roundw
      case rel=>exact⟨r+1,_,L2,Zo,Zg,by rw[FTX.out],BY,LY,by rw[FTX.out];exact BXY,RDY,by rw[FTX.out];exact eob,AL7⟩
      case measure=>simp[intOf];omega
    ·have FNX:=hidI (FN1.out (fun q=>tk q.2));obtain rfl:fh=true:=by
      cases fh with
      |true=>rfl
      |false=>exact absurd (Or.inl rfl) tk
     have t1:decide (y>fep)=false:=Zx (fun q=>tk (Or.inr q));have t2:decide (fep<y)=false:=Zx (fun q=>tk (Or.inr q));have BX7:=hidI (BX3.out _ B45);have RD7:=hidI (RD3.out _ B45);clear BAD1 FT1 FN1 NEXT1 W1 B3 BX3 RD3 B45 b4 b5 hv himp RD5 tk;go_wp2;go_roundw
     case rel=>exact⟨r+1,lv,L,Zo,Zg,by rw[FNX.out],B7,L7,by rw[FNX.out];exact BX7,RD7,by rw[FNX.out];exact hob,AL7⟩
     case measure=>simp[intOf];omega
  ·obtain rfl:r=2:=by omega
   have hge:¬(2:Int)<2:=Zo
   obtain⟨gx,ga⟩:=GOOD'.out hall.out;obtain⟨FA,hFA⟩:∃FA,ltF a ⟨k,m,z,s,t,o⟩ K 2=FA:=⟨_,rfl⟩;rw[hFA]at gx ga hbox hob ⊢;obtain⟨fh,⟨far,fep,fob,fw,fi⟩⟩:=FA;simp only at gx ga hbox hob;clear hFA OFF' BADR' GOOD' FT FN WIT SAV KV0 hall;obtain⟨c0,c1,c2,cf⟩:=hbox.out;simp only at c0 c1 c2;obtain⟨q0,q1,q2,qf⟩:=ZB.out _ BW;have f0:=qf 0;have f1:=qf 1;have f2:=qf 2;obtain⟨E,hE⟩:∃E:Int,E=if fh=true then 0 else 150:=⟨_,rfl⟩
   rw[<-hE]at gx;have KU:∀V,Calls Tryz.prog 66 #[.bool fh,.int .i64 150] V fun e w'=>e= .returned (.int .i64 E)/\w'=V:=fun V=>by rw[hE];exact munless_any fh 150
   clear hE;obtain⟨la,lc,elv⟩:=hrd.out.form;subst elv;obtain⟨oY,s0,s1,s2⟩:=set3 (a:=.int .i64 far) (b:=.int .i64 fep) (c:=.slice la L.length lc) q0 q1 q2;have F9:=hidI (lat_yes (w:=w) (x:=E) (A:=⟨far,fep,fob,fw,fi⟩) hrd.out hob.out oY (by have h1:=LW.out;have h2:=HB1.out.size;have h3:=hlb.out;omega) (Nat.le_succ _) (by have h1:=LW.out;have h2:=HB1.out.size;have h3:=hlb.out;omega) (ZW.out _ BW));have GX:=hidI gx;have GA':=hidI ga;clear gx ga oY hrd hob hbox BW hl hB cf qf
   go_upto_region 18 with fail
   go_region_with ((go_at_call 66;refine(KU _).mono ?_;rintro e v5 ⟨rfl,hv5⟩;subst hv5))
   all_goals
    go_wp2;exact bodyPost_ret (v:=.tuple #[.agg #[.int .i64 far,.int .i64 fep,.slice la L.length lc],.int .i64 E]) (by simp[results,Tryz.results20,go_sem,s0,s1,s2]) rfl (by rw[GX.out,GA'.out];exact F9.out)
end Go.Proofs.YtclieefpnbdbjaaGreat.Gf
