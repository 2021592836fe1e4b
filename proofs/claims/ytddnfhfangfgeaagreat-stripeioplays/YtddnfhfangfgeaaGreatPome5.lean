/- JOINED: MxRPick, MxWi, MxRmu, MxNf. -/
import Derived.Test.YtddnfhfangfgeaaGreatPome4
import Derived.Deep.RegionWith
import Derived.Deep.OwnRows
import Derived.Deep.CutRange
set_option maxHeartbeats 4000000
set_option maxRecDepth 100000
namespace Go.Proofs.YtddnfhfangfgeaaGreat.Gf
set_option linter.unusedVariables false
set_option linter.unusedSimpArgs false
open Go.RowKit
theorem z5_1{p:Prop} (h:p:=by
 intro v' w5 hown5 hgrow5;rw[List.length_nil,Nat.add_zero,List.map_nil,List.append_nil]at hown5;obtain⟨a5,c5,rfl⟩:=owns_form hown5;have ym5:=(hgrow5.cell_far ⟨w2.heap.size,2,none⟩ l2 (Ne.symm hnm)).trans ym2;have gm5:=(hgrow5.frozen_far ⟨w2.heap.size,2,none⟩ l2 (Ne.symm hnm)).trans gm2;refine koH hK ⟨(hgrow5.cell_far ⟨w.heap.size,2,none⟩ l1 (Ne.symm hnb)).trans x12,(hgrow5.cell_far ⟨bz,oz+k,none⟩ hz3 (Ne.symm hnz)).trans cz1,(hgrow5.cell_far ⟨w.heap.size,1,none⟩ l1 (Ne.symm hnb)).trans x11⟩ fun hHeld=>?_
 clear hK K;refine tkH 21 ?_
 refine rnH 22 fun K hK=>?_
 go_simp;refine koH hK ⟨(World.cell?_setCell_far _ _ _ _ hx1).trans hHeld.1,(World.cell?_setCell_far _ _ _ _ hx2).trans hHeld.2.1,(World.cell?_setCell_far _ _ _ _ hx1).trans hHeld.2.2⟩ fun hHeld=>?_
 clear hK K;refine wpAnyH_done Zk ?_ _
 have l5:wr.heap.size<=w5.heap.size:=((Below.refl 0 _).grown hgrow5 (Nat.zero_le _) (fun k h=>Nat.zero_le _)).size;have O6:Only w2.heap.size w5 (w5.setCell ⟨w2.heap.size,2,none⟩ (.slice a5 (0) c5)):=(Only.refl _ _).setCell 2 _;have N1:Hid _:=((Y1.drewN _).grown hgrow5 l1 (Ne.symm hnb)).only (fun h=>hx1 h.symm) O6;have N3:Hid _:=((Y3.drewN _).grown hgrow5 (show w.heap.size+1<wr.heap.size by omega) (Ne.symm hnr)).only (show w.heap.size+1≠w2.heap.size by omega) O6;have M3:Hid _:=((G3.drewN _).grown hgrow5 (show w.heap.size+1<wr.heap.size by omega) (Ne.symm hnr)).only (show w.heap.size+1≠w2.heap.size by omega) O6;have NM:Hid _:=((YM.drewN _).grown hgrow5 l2 (Ne.symm hnm)).set2 (.slice a5 (0) c5);have MM:Hid _:=((GM.drewN _).grown hgrow5 l2 (Ne.symm hnm)).setCell ⟨w2.heap.size,2,none⟩ (.slice a5 (0) c5);have NO:Hid _:=ownsRow_setCell_below hown5 (a:=⟨w2.heap.size,2,none⟩) (show w2.heap.size<w2.heap.size+1 by omega) (.slice a5 (0) c5);have NB:Hid _:=((BB.drewN _).grown hgrow5 (show w.heap.size<=wr.heap.size by omega) (fun g hg=>by have:=hown.lt g hg;omega)).trans (O6.below (show w.heap.size<=w2.heap.size by omega));have NS:Hid (w2.heap.size+1<=(w5.setCell ⟨w2.heap.size,2,none⟩ (.slice a5 (0) c5)).heap.size):=by show _<=_;rw[O6.size];omega
 have EL:Hid (flat (k+1) 0 F=flat k 0 F):=by show _=_;rw[flat_succ];exact List.append_nil _
 have EN:Hid ((k+1)*0=0):=by show _=_;exact Nat.mul_zero _
 clear hHeld hown5 hgrow5 hown Y1 Y3 G3 YM GM BB ym5 gm5 hsub O6;go_wp2;go_roundw
 case rel=>exact⟨k+1,Zo,Zo,fun j hj=>by simpa using hall2.out j hj,by simpa using N1.out,N3.out,M3.out,_,by simpa using NM.out,MM.out,by rw[EL.out];simpa[World.ownsRow]using NO.out,Zo,NB.out⟩
 case measure=>simp[intOf];omega
 ):p:=h
theorem z5_2{p:Prop} (h:p:=by
 have x30:=Y3.c0;have x31:=Y3.c1;have x32:=Y3.c2;have f30:=G3.f0;have f31:=G3.f1;have f32:=G3.f2;have NA:Hid (¬AllIn r zs):=fun h=>by have:=h k hlt;omega
 clear hz hzc;clear hall hown YM GM;go_wp2
 go_quiet (fail)
 go_wp2;refine bodyPost_ret (v:=.tuple #[.agg #[.int .i64 0,.int .i64 0,.slice none 0 0],.int .i64 30]) (by simp[results,Tryz.results235,go_sem,x30,x31,x32,f30,f31,f32]) rfl (Or.inr ⟨NA.out,_,rfl,rd_none,?_⟩);exact(BB.drewN _).trans ((((Only.refl _ _).setCell 0 _).setCell 1 _).setCell 2 _|>.below Zo)
 ):p:=h
theorem rpick_ok{va vr:Value}{r c:Nat}{A:List UInt8}{zs:List Int}{w:World}(ha:RdM w va r c A)(hr:RdI w vr zs)(k1:OkM r c A)(k2:zs.length<=256):
  Calls Tryz.prog 235 #[va,vr] w fun e w'=>(AllIn r zs/\MakesM w zs.length c (pickF c A zs) e w')∨(¬AllIn r zs/\MakesErr w 30 e w'):=by
 obtain⟨i0,hi,hz0,hz1,hz2⟩:=info_parts info_u8;obtain⟨vs,rfl,h1⟩:=ha;obtain⟨az,cz,rfl⟩:=hr.form
 go_enter Tryz.func235,Tryz.ntmps235
 go_wp2_with fail
 refine(rcheck_ok ⟨vs,rfl,h1.below (by repeat (first|exact Below.refl _ _|apply below_lit))⟩ k1).mono ?_
 rintro e w2 ⟨rfl,b2⟩;have X1:Box w2 w.heap.size r c vs:=Below.box b2 Zn ((Box.new w r c vs _).alloc Zs _);have X3:Box w2 (w.heap.size+1) 0 0 (.slice none 0 0):=Below.box b2 Zn (by have h:=Box.new (w.alloc (.cells #[.int .i64 (r:Int),.int .i64 (c:Int),vs] 148)) 0 0 (.slice none 0 0) 148;rwa[World.size_alloc]at h);have F3:Free w2 (w.heap.size+1):=Below.free b2 Zn (by have h:=Free.new (w.alloc (.cells #[.int .i64 (r:Int),.int .i64 (c:Int),vs] 148)) #[.int .i64 0,.int .i64 0,.slice none 0 0] 148;rwa[World.size_alloc]at h);have B2:Below w.heap.size w w2:=Below.next (by repeat (first|exact Below.refl _ _|apply below_lit)) b2;have s2:w.heap.size+1<w2.heap.size:=by have:=b2.size;simp at this;omega
 clear b2;obtain⟨q1,q2,q3,q4,q5⟩:=k1;have hAl:A.length=r*c:=by exact_mod_cast q5
 clear q5;have kz:¬(zs.length:Int)>256:=Zo
 have x11:=X1.c1;obtain⟨F,hFF⟩:∃F,Hid (F=pickF c A zs):=⟨_,rfl⟩;go_wp2;clear x11
 go_loopw [7] (fun i wr=>∃(k:Nat) (v:Value),k<=zs.length/\i= .int .i64 k/\(∀j,j<k->0<=zs.getD j 0/\zs.getD j 0<(r:Int))/\Box wr w.heap.size r c vs/\Box wr (w.heap.size+1) 0 0 (.slice none 0 0)/\Free wr (w.heap.size+1)/\Box wr w2.heap.size (zs.length:Int) c v/\Free wr w2.heap.size/\wr.ownsRow (w2.heap.size+1) 5 1 v (k*c) ((flat k c F).map vb)/\w2.heap.size+1<=wr.heap.size/\Below w.heap.size w wr) (fun i _=>zs.length-(intOf i).toNat)
 case atStart=>
  have hA:Below w2.heap.size w2 (w2.alloc (.cells #[.int .i64 (zs.length:Int),.int .i64 (c:Int),.slice none 0 0] 148)):=(Below.refl _ _).alloc (Nat.le_refl _) _;refine⟨0,.slice none 0 0,Zo,rfl,fun j hj=>Zo,X1.below Zo hA,X3.below Zo hA,F3.below Zo hA,Box.new _ _ _ _ _,Free.new _ _ _,?_,Zs,Below.next B2 hA⟩;rw[Nat.zero_mul];have e:flat 0 c F=[]:=List.length_eq_zero_iff.1 (by rw[flat_length,Nat.zero_mul]);rw[e];exact World.ownsRow_nil _ _ _ _
 case round=>
  obtain⟨k,v,hk,rfl,hall,Y1,Y3,G3,YM,GM,hown,hsz,BB⟩:=hrel;clear X1 X3 F3 B2
  by_cases hlt:k<zs.length
  ·have hz9:∀b o n cc,(Value.slice az zs.length cz)= .slice (some ⟨b,o,none⟩) n cc->b<w.heap.size:=fun b o n cc e=>by
    rcases hr with⟨a0,c0,e1,e2⟩|⟨bz,oz,c0,hz0',e2,hz1',hz3,hzc⟩
    ·subst e1;simp at hlt
    ·rw[e]at e2;simp at e2;obtain⟨⟨rfl,rfl⟩,_⟩:=e2;exact hz3
   rcases(hr.below BB)with⟨a0,c0,e1,e2⟩|⟨bz,oz,c0,hz0',e2,hz1',hz3,hzc⟩
   ·subst e1;simp at hlt
   ·simp at e2;obtain⟨rfl,rfl⟩:=e2;have cz1:=hzc k hlt;have hlt':(k:Int)<(zs.length:Int):=by omega
    have x10:=Y1.c0
    by_cases hneg:zs.getD k 0<0
    ·obtain⟨z,hz⟩:∃z,z=zs.getD k 0:=⟨_,rfl⟩;rw[<-hz]at cz1 hneg;have hd1:decide (z<0)=true:=decide_eq_true hneg;exact z5_2
    ·by_cases hbig:zs.getD k 0>=(r:Int)
     ·obtain⟨z,hz⟩:∃z,z=zs.getD k 0:=⟨_,rfl⟩;rw[<-hz]at cz1 hneg hbig;have hd1:decide (z<0)=false:=decide_eq_false hneg;have hd2:decide (z>=(r:Int))=true:=decide_eq_true hbig;exact z5_2
     ·obtain⟨z,hz⟩:∃z:Nat,zs.getD k 0=(z:Int):=⟨(zs.getD k 0).toNat,Zo⟩;have hzr:z<r:=by omega
      rw[hz]at cz1;have hd1:decide ((z:Int)<0)=false:=decide_eq_false Zo;have hd2:decide ((z:Int)>=(r:Int))=false:=decide_eq_false Zo;have hall2:Hid (∀j,j<k+1->0<=zs.getD j 0/\zs.getD j 0<(r:Int)):=fun j hj=>by
       by_cases e:j=k
       ·subst e;omega
       ·exact hall j Zo
      have HFk:Hid (upto (fun j=>F k j) c=upto (fun j=>co A (z*c+j)) c):=by
       show _=_
       refine upto_congr fun j hj=>?_
       rw[hFF.out]
       show en c A (zs.getD k 0).toNat j=_
       rw[hz];rfl
      obtain⟨p1,hp1⟩:∃p1,p1=z*c:=⟨_,rfl⟩;have hp1A:p1+c<=A.length:=by
       rw[hp1,hAl];have:=Nat.mul_le_mul_right c (show z+1<=r from hzr);rw[Nat.add_mul,Nat.one_mul]at this;exact this
      have hkc:k*c<=65536:=mul_small Zo Zo;have hA9:A.length<=65536:=by rw[hAl];exact mul_small Zo Zo
      rw[<-hp1]at HFk;have g1:(z:Int)*(c:Int)=(p1:Int):=by rw[hp1];exact_mod_cast rfl
      have g2:((z:Int)+1)*(c:Int)=((p1+c:Nat):Int):=by rw[Int.add_mul,g1];omega
      obtain⟨p2,hp2⟩:∃p2,p2=p1+c:=⟨_,rfl⟩;rw[<-hp2]at g2;have x11:=Y1.c1;have x12:=Y1.c2;have ym2:=YM.c2;have gm2:=GM.f2;have l1:w.heap.size<wr.heap.size:=Zo
      have l2:w2.heap.size<wr.heap.size:=Zo
      have hnb:v.ownBlock≠some w.heap.size:=fun h=>by have:=hown.lt _ h;omega
      have hnm:v.ownBlock≠some w2.heap.size:=fun h=>by have:=hown.lt _ h;omega
      have hnr:v.ownBlock≠some (w.heap.size+1):=fun h=>by have:=hown.lt _ h;omega
      have hAs:Rd wr vs A:=h1.below BB;have hw1:IntKind.i64.wrap (p1:Int)=(p1:Int):=Zw
      have hw2:IntKind.i64.wrap (p2:Int)=(p2:Int):=Zw
      have hw3:IntKind.i64.wrap ((z:Int)+1)=(z:Int)+1:=Zw
      have HP2:Hid (p2=p1+c):=hp2;have hp12:(p1:Int)<=(p2:Int):=Zo
      have hp2A:(p2:Int)<=(A.length:Int):=Zo
      have HAl:Hid (A.length=r*c):=hAl;clear hz hzc hp1 hp2 hAl hall h1
      rcases hAs with⟨a9,c9,e1,e2,hc9,hn9⟩|⟨ba,oa,ca,ha0,e2,ha1,ha2,ha3,hac⟩
      ·subst e1 e2;have hc0:c=0:=by
        rcases Nat.eq_zero_or_pos c with e|e
        ·exact e
        ·have h:=HAl.out;simp only[List.length_nil]at h;have:=Nat.mul_pos (show 0<r by omega) e;omega
       subst hc0;simp only[List.length_nil]at*;obtain rfl:p1=0:=Zo
       obtain rfl:p2=0:=by have:=HP2.out;omega
       have hsub:Rd wr (.slice a9 0 c9) []:=Or.inl ⟨a9,c9,rfl,rfl,hc9,hn9⟩;have hnz:v.ownBlock≠some bz:=fun h=>by have:=hown.lt _ h;have:=hz9 bz oz _ _ rfl;omega
       have hx1:w2.heap.size≠w.heap.size:=Zo
       have hx2:w2.heap.size≠bz:=by have:=hz9 bz oz _ _ rfl;omega
       rw[Nat.mul_zero]at hown;have hw0:IntKind.i64.wrap 0=0:=Zw
       rcases a9 with _|x9
       ·have hc9':=hn9 rfl;subst hc9';go_wp2
        go_quiet (fail)
        go_wp2_with fail
        refine wp_region_held_drew (S:=(fun w'=>w'.cell? ⟨w.heap.size,2,none⟩=some (.slice none 0 0)/\w'.cell? ⟨bz,oz+k,none⟩=some (.int .i64 (z:Int))/\w'.cell? ⟨w.heap.size,1,none⟩=some (.int .i64 0))) Zk ?_ (fun hHeld=>?_)
        ·exact⟨x12,cz1,x11⟩
        refine tkH 0 ?_
        refine tkH 2 ?_
        refine tkH 3 ?_
        refine tkH 4 ?_
        refine tkH 5 ?_
        refine tkH 6 ?_
        refine tkH 7 ?_
        refine tkH 8 ?_
        refine tkH 9 ?_
        refine tkH 10 ?_
        refine tkH 11 ?_
        refine tkH 12 ?_
        refine tkH 13 ?_
        refine tkH 14 ?_
        refine tkH 15 ?_
        refine tkH 16 ?_
        refine tkH 17 ?_
        refine tkH 18 ?_
        refine tkH 19 ?_
        refine rnH 1 fun K hK=>?_
        go_simp;refine koH hK Za fun hHeld=>?_
        clear hK K;refine rnH 20 fun K hK=>?_
        refine step_append_rd (by rfl) _ _ _ (by rfl) (w2.heap.size+1) 5 i0 Tryz.underlying36 hi hz0 hz1 hz2 v 0 _ (by rfl) hown (.slice none 0 0) [] (by simp[Act.eval]) hsub Zs hsz ?_
        exact z5_1
       ·go_wp2
        go_quiet (fail)
        go_wp2_with fail
        refine wp_region_held_drew (S:=(fun w'=>w'.cell? ⟨w.heap.size,2,none⟩=some (.slice (some x9) 0 c9)/\w'.cell? ⟨bz,oz+k,none⟩=some (.int .i64 (z:Int))/\w'.cell? ⟨w.heap.size,1,none⟩=some (.int .i64 0))) Zk ?_ (fun hHeld=>?_)
        ·exact⟨x12,cz1,x11⟩
        refine tkH 0 ?_
        refine tkH 2 ?_
        refine tkH 3 ?_
        refine tkH 4 ?_
        refine tkH 5 ?_
        refine tkH 6 ?_
        refine tkH 7 ?_
        refine tkH 8 ?_
        refine tkH 9 ?_
        refine tkH 10 ?_
        refine tkH 11 ?_
        refine tkH 12 ?_
        refine tkH 13 ?_
        refine tkH 14 ?_
        refine tkH 15 ?_
        refine tkH 16 ?_
        refine tkH 17 ?_
        refine tkH 18 ?_
        refine tkH 19 ?_
        refine rnH 1 fun K hK=>?_
        go_simp;refine koH hK Za fun hHeld=>?_
        clear hK K;refine rnH 20 fun K hK=>?_
        refine step_append_rd (by rfl) _ _ _ (by rfl) (w2.heap.size+1) 5 i0 Tryz.underlying36 hi hz0 hz1 hz2 v 0 _ (by rfl) hown (.slice (some x9) 0 c9) [] (by simp[Act.eval]) hsub Zs hsz ?_
        exact z5_1
      ·subst e2;go_wp2
       go_quiet (fail)
       go_wp2_with fail
       have hc0:0<c:=by
        rcases Nat.eq_zero_or_pos c with e|e
        ·exact absurd (List.length_eq_zero_iff.1 (by rw[HAl.out,e,Nat.mul_zero])) ha0
        ·exact e
       ·have hpc2:p2-p1=c:=by have:=HP2.out;omega
        have hsub:Rd wr (.slice (some ⟨ba,oa+p1,none⟩) (p2-p1) (ca-p1)) (upto (fun j=>co A (p1+j)) c):=by
         rw[hpc2];exact Rd.sub (Or.inr ⟨ba,oa,ca,ha0,rfl,ha1,ha2,ha3,hac⟩:Rd wr (.slice (some ⟨ba,oa,none⟩) A.length ca) A) p1 c hc0 hp1A
        have hlc:(upto (fun j=>co A (p1+j)) c).length=c:=upto_length _ _;clear hpc2;have hp0:(0:Int)<=(p1:Int):=Zo
        have hp2c:(p2:Int)<=(ca:Int):=Zo
        have hnz:v.ownBlock≠some bz:=fun h=>by have:=hown.lt _ h;have:=hz9 bz oz _ _ rfl;omega
        clear hac;have hx1:w2.heap.size≠w.heap.size:=Zo
        have hx2:w2.heap.size≠bz:=by have:=hz9 bz oz _ _ rfl;omega
        refine wp_region_held_drew (S:=(fun w'=>w'.cell? ⟨w.heap.size,2,none⟩=some (.slice (some ⟨ba,oa,none⟩) A.length ca)/\w'.cell? ⟨bz,oz+k,none⟩=some (.int .i64 (z:Int))/\w'.cell? ⟨w.heap.size,1,none⟩=some (.int .i64 (c:Int)))) Zk ?_ (fun hHeld=>?_)
        ·exact⟨x12,cz1,x11⟩
        refine tkH 0 ?_
        refine tkH 2 ?_
        refine tkH 3 ?_
        refine tkH 4 ?_
        refine tkH 5 ?_
        refine tkH 6 ?_
        refine tkH 7 ?_
        refine tkH 8 ?_
        refine tkH 9 ?_
        refine tkH 10 ?_
        refine tkH 11 ?_
        refine tkH 12 ?_
        refine tkH 13 ?_
        refine tkH 14 ?_
        refine tkH 15 ?_
        refine tkH 16 ?_
        refine tkH 17 ?_
        refine tkH 18 ?_
        refine tkH 19 ?_
        refine rnH 1 fun K hK=>?_
        go_simp;refine koH hK Za fun hHeld=>?_
        clear hK K;refine rnH 20 fun K hK=>?_
        refine step_append_rd (by rfl) _ _ _ (by rfl) (w2.heap.size+1) 5 i0 Tryz.underlying36 hi hz0 hz1 hz2 v (k*c) _ (by rfl) hown _ _ (by simp[Act.eval];omega) hsub (by rw[hlc];omega) hsz ?_
        intro v' w5 hown5 hgrow5;obtain⟨a5,c5,rfl⟩:=owns_form hown5;have ym5:=(hgrow5.cell_far ⟨w2.heap.size,2,none⟩ l2 (Ne.symm hnm)).trans ym2;have gm5:=(hgrow5.frozen_far ⟨w2.heap.size,2,none⟩ l2 (Ne.symm hnm)).trans gm2;refine koH hK ⟨(hgrow5.cell_far ⟨w.heap.size,2,none⟩ l1 (Ne.symm hnb)).trans x12,(hgrow5.cell_far ⟨bz,oz+k,none⟩ hz3 (Ne.symm hnz)).trans cz1,(hgrow5.cell_far ⟨w.heap.size,1,none⟩ l1 (Ne.symm hnb)).trans x11⟩ fun hHeld=>?_
        clear hK K;refine tkH 21 ?_
        refine rnH 22 fun K hK=>?_
        go_simp;refine koH hK ⟨(World.cell?_setCell_far _ _ _ _ hx1).trans hHeld.1,(World.cell?_setCell_far _ _ _ _ hx2).trans hHeld.2.1,(World.cell?_setCell_far _ _ _ _ hx1).trans hHeld.2.2⟩ fun hHeld=>?_
        clear hK K;refine wpAnyH_done Zk ?_ _
        rw[hlc]at hown5;have l5:wr.heap.size<=w5.heap.size:=((Below.refl 0 _).grown hgrow5 (Nat.zero_le _) (fun k h=>Nat.zero_le _)).size;have O6:Only w2.heap.size w5 (w5.setCell ⟨w2.heap.size,2,none⟩ (.slice a5 (k*c+c) c5)):=(Only.refl _ _).setCell 2 _;have N1:Hid _:=((Y1.drewN _).grown hgrow5 l1 (Ne.symm hnb)).only (fun h=>hx1 h.symm) O6;have N3:Hid _:=((Y3.drewN _).grown hgrow5 (show w.heap.size+1<wr.heap.size by omega) (Ne.symm hnr)).only (show w.heap.size+1≠w2.heap.size by omega) O6;have M3:Hid _:=((G3.drewN _).grown hgrow5 (show w.heap.size+1<wr.heap.size by omega) (Ne.symm hnr)).only (show w.heap.size+1≠w2.heap.size by omega) O6;have NM:Hid _:=((YM.drewN _).grown hgrow5 l2 (Ne.symm hnm)).set2 (.slice a5 (k*c+c) c5);have MM:Hid _:=((GM.drewN _).grown hgrow5 l2 (Ne.symm hnm)).setCell ⟨w2.heap.size,2,none⟩ (.slice a5 (k*c+c) c5);have NO:Hid _:=ownsRow_setCell_below hown5 (a:=⟨w2.heap.size,2,none⟩) (show w2.heap.size<w2.heap.size+1 by omega) (.slice a5 (k*c+c) c5);have NB:Hid _:=((BB.drewN _).grown hgrow5 (show w.heap.size<=wr.heap.size by omega) (fun g hg=>by have:=hown.lt g hg;omega)).trans (O6.below (show w.heap.size<=w2.heap.size by omega));have NS:Hid (w2.heap.size+1<=(w5.setCell ⟨w2.heap.size,2,none⟩ (.slice a5 (k*c+c) c5)).heap.size):=by show _<=_;rw[O6.size];omega
        have EL:Hid (flat (k+1) c F=flat k c F++upto (fun j=>co A (p1+j)) c):=by show _=_;rw[flat_succ,HFk.out]
        have EN:Hid ((k+1)*c=k*c+c):=by show _=_;rw[Nat.add_mul,Nat.one_mul]
        clear hHeld hown5 hgrow5 hown Y1 Y3 G3 YM GM BB ym5 gm5 hsub O6;go_wp2;go_roundw
        case rel=>exact⟨k+1,_,Zo,Zg,hall2.out,N1.out,N3.out,M3.out,NM.out,MM.out,by rw[EL.out,EN.out,List.map_append];exact NO.out,NS.out,NB.out⟩
        case measure=>simp[intOf];omega
  ·have e:k=zs.length:=by omega
   subst e;have hRd:Rd wr v (flat zs.length c F):=Rd.owned (base:=w2.heap.size+1) (e:=5) (by rw[flat_length];exact hown);have hlt9:∀b off n cc,v= .slice (some ⟨b,off,none⟩) n cc->b≠w.heap.size+1:=fun b off n cc e=>by
    have h:=hown.lt b (by rw[e];rfl);omega
   obtain⟨a8,c8,rfl⟩:=hRd.form;have x30:=Y3.c0;have x31:=Y3.c1;have x32:=Y3.c2;have f30:=G3.f0;have f31:=G3.f1;have f32:=G3.f2;have ym0:=YM.c0;have ym1:=YM.c1;have ym2:=YM.c2;have HA:Hid (AllIn r zs):=hall;clear hall hown;go_wp2;have O1:Only (w.heap.size+1) wr (((wr.setCell ⟨w.heap.size+1,0,none⟩ (.int .i64 (zs.length:Int))).setCell ⟨w.heap.size+1,1,none⟩ (.int .i64 (c:Int))).setCell ⟨w.heap.size+1,2,none⟩ (.slice a8 (flat zs.length c F).length c8)):=
    (((Only.refl _ _).setCell 0 _).setCell 1 _).setCell 2 _
   have hAp:Apart (w.heap.size+1) (.slice a8 (flat zs.length c F).length c8):=fun x n cc e=>by
    by_cases h0:n=0
    ·exact Or.inl h0
    ·obtain⟨b,off,spot⟩:=x
     rcases hRd with⟨_,_,_,e2,_⟩|⟨b',off',c',_,e2,_⟩
     ·rw[e]at e2;simp at e2;exact Or.inl e2.2.1
     ·rw[e]at e2;simp at e2;obtain⟨⟨rfl,rfl,rfl⟩,_⟩:=e2;exact Or.inr (hlt9 _ _ _ _ e)
   refine bodyPost_ret (v:=.tuple #[.agg #[.int .i64 (zs.length:Int),.int .i64 (c:Int),.slice a8 (flat zs.length c F).length c8],.int .i64 0]) (by simp[results,Tryz.results235,go_sem,x30,x31,x32,f30,f31,f32]) rfl (Or.inl ⟨HA.out,_,rfl,?_,BB.trans (O1.below Zo)⟩);rw[<-hFF.out];exact hRd.only hAp O1
def wideF(n:Nat)(A:List UInt8):Mx:=fun i j=>if j<n then en n A i j else one i (j-n)
def rt(n:Nat)(W:Mx):Mx:=fun i j=>W i (n+j)
theorem gj_wide(n:Nat)(A:List UInt8):GJ n (en n A) (wideF n A) (rt n (wideF n A)) 0:=
 (GJ.start n (en n A)).congr (Nat.zero_le _) (fun _ _ _ _=>rfl) (fun i j _ hj=>(if_pos hj).symm) (fun i j _ _=>by
  show one i j=if n+j<n then en n A i (n+j)else one i (n+j-n)
  rw[if_neg Zo,Nat.add_sub_cancel_left])
theorem rmu3_at{w:World}(a b:UInt8){x y:Int}(hx:x=((a.toNat:Nat):Int))(hy:y=((b.toNat:Nat):Int)):
  Calls Tryz.prog 146 #[.int .u8 x,.int .u8 y] w fun e w'=>e= .returned (.int .u8 ((mu a b).toNat:Nat))/\w'=w:=by
 rw[mu_toNat];exact rmul_at a.toNat b.toNat hx hy (u8_lt a) (u8_lt b)
theorem nought_facts{w w1:World}{m u t:Nat}(hown:w1.ownsRow w.heap.size u 1 (.slice (some ⟨(w.alloc (Obj.cells #[.int .i64 0,.int .i64 0,.slice none 0 0] t)).heap.size,0,none⟩) m m) m (madeCells (Value.cells (.int .u8 0)) (m*1)).toList)
  (hgrow:(w.alloc (Obj.cells #[.int .i64 0,.int .i64 0,.slice none 0 0] t)).grownBy w1 none):
  RowF w1 w.heap.size u (w.heap.size+1) m m (fun _=>0)/\Below w.heap.size w w1/\w1.cell? ⟨w.heap.size,0,none⟩=some (.int .i64 0)/\w1.cell? ⟨w.heap.size,1,none⟩=some (.int .i64 0)/\w1.cell? ⟨w.heap.size,2,none⟩=some (.slice none 0 0)/\
  w1.frozen? ⟨w.heap.size,0,none⟩=false/\w1.frozen? ⟨w.heap.size,1,none⟩=false/\w1.frozen? ⟨w.heap.size,2,none⟩=false:=by
 simp only[World.size_alloc]at hown;have R1:=RowF.made hown;have B1:Below (w.heap.size+1) (w.alloc (Obj.cells #[.int .i64 0,.int .i64 0,.slice none 0 0] t)) w1:=(Below.refl _ _).grown hgrow Zs (fun k h=>by cases h);have B0:Below w.heap.size w w1:=(below_lit (Below.refl _ _) _).trans (B1.mono Zo);have X0:Box w1 w.heap.size 0 0 (.slice none 0 0):=Box.below (B:=w.heap.size+1) ⟨Zs,Zs,Zs⟩ Zo B1;have F0:Free w1 w.heap.size:=Free.below (B:=w.heap.size+1) ⟨Zs,Zs,Zs⟩ Zo B1;exact⟨R1,B0,X0.c0,X0.c1,X0.c2,F0.f0,F0.f1,F0.f2⟩
end Go.Proofs.YtddnfhfangfgeaaGreat.Gf
