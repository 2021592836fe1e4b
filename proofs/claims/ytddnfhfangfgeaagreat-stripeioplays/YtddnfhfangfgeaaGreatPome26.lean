/- JOINED: DkCF, DkCE, DkNew, DkLay, DkKeys, DkBy, DkTold. -/
import Derived.Maps.RangeWalk
import Derived.Test.YtddnfhfangfgeaaGreatPome25
import Derived.Shelf.SlIterI.Nil
import Derived.Shelf.SortM.Plain
import Derived.Shelf.SortM.SortNone
import Derived.Ground.GgzProg
import Derived.Ground.SlgmProg
set_option maxHeartbeats 1000000
set_option maxRecDepth 100000
namespace Go.Proofs.YtddnfhfangfgeaaGreat.Gf
set_option linter.unusedVariables false
set_option linter.unusedSimpArgs false
open Go.RowKit
open Go.Maps (Keyed)
open Go.ChangeMaps Go.MapKept
theorem has_del{D:DataW Value}{S:Nat}(hk:∀kl,Maps.has D kl=true->∃x:Int,kl= .int .i64 x/\0<=x/\x<(S:Int))(y:Int):(fun z:Lit=>Maps.has D z&& !z.sameKey (.int .i64 y))=Maps.has (D.del (.int .i64 y)):=by
 funext z
 by_cases e:z= .int .i64 y
 ·subst e;rw[Maps.has_del_same,WideAt.sameKey_self (show WideAt.IsKeyLit (.int .i64 y)from trivial)];simp
 ·rw[Maps.has_del_other e];cases hh:Maps.has D z with
  |false=>rfl
  |true=>
   obtain⟨x,rfl,_⟩:=hk z hh
   have:(Lit.int .i64 x).sameKey (.int .i64 y)=false:=by
    cases hs:(Lit.int .i64 x).sameKey (.int .i64 y)with
    |false=>rfl
    |true=>
     simp[Lit.sameKey]at hs;exact absurd (by rw[hs]) e
   rw[this];rfl
structure FlK(d e:DkS):Prop where
 s:e.s=d.s
 dead:e.dead=d.dead
 each:∀x,(e.wait x=d.wait x/\e.last x=d.last x)∨(e.wait x=none/\e.last x=overB d.wait d.last x)
theorem FlK.refl(d:DkS):FlK d d:=⟨rfl,rfl,fun x=>Or.inl ⟨rfl,rfl⟩⟩
theorem FlK.settle{d e:DkS}(h:FlK d e){a:Int}{p:List UInt8}(hp:e.wait a=some p):FlK d (seS e a p):=by
 refine⟨h.s,h.dead,fun x=>?_⟩
 by_cases ex:x=a
 ·subst ex;have hl:(seS e x p).last x=some p:=if_pos rfl;have hw:(seS e x p).wait x=none:=if_pos rfl;refine Or.inr ⟨hw,hl.trans ?_⟩
  rcases h.each x with⟨h1,h2⟩|⟨h1,h2⟩
  ·unfold overB;rw[<-h1,hp]
  ·rw[h1]at hp;cases hp
 ·have hl:(seS e a p).last x=e.last x:=if_neg ex;have hw:(seS e a p).wait x=e.wait x:=if_neg ex;rw[hl,hw];exact h.each x
theorem FlK.done{d e:DkS}(h:FlK d e)(hd:d.dead=false)(hn:∀x,e.wait x=none):e=flS d:=by
 unfold flS;rw[if_neg (by rw[hd];decide)];obtain⟨es,el,ew,ed⟩:=e;rw[DkS.mk.injEq];refine⟨h.s,funext fun x=>?_,funext hn,h.dead⟩
 rcases h.each x with⟨h1,h2⟩|⟨h1,h2⟩
 ·have h3:=hn x;unfold overB;rw[<-h1,show({s:=es,last:=el,wait:=ew,dead:=ed:DkS}).wait x=none from h3];exact h2
 ·exact h2
section
variable {w:World} {db:Nat} {G:Nat->Prop} {d:DkS}
def FlI(w0:World)(db:Nat)(mb:Bool->Nat)(G:Nat->Prop)(d:DkS)(r:Nat)(wr:World):Prop:=
 ∃e B C D cnt,DkIn wr db mb B C G e/\FlK d e/\wr.ranges Tryz.prog 3 RV (mb true) r d.s D (Maps.has D) cnt/\(∀kl,Maps.has D kl=true->∃x:Int,kl= .int .i64 x/\0<=x/\x<(d.s:Int))/\
  (∀x:Int,Maps.has D (.int .i64 x)=(e.wait x).isSome)/\TurnG G w0 wr/\w0.heap.size<=r
theorem dflush_any(h:DiskAt w db G d):Calls Tryz.prog 116 #[.pointer (some ⟨db,0,none⟩)] w (Leaves w db G (flS d) (.int .i64 (flX d))):=by
 obtain⟨mb,B,C,hI⟩:=h;have hM:=hI.1;have c3:=hM.c3;have K:=@dref_any w db d.dead hM.c1;cases hd:d.dead with
 |true=>
  have e1:flX d=120:=if_pos hd;have F:Hid (∃G',DiskAt w db G' (flS d)/\Grew G w G' w):=by
   show ∃G',_
   rw[show flS d=d from if_pos hd];exact⟨G,⟨mb,B,C,hI⟩,Grew.refl G w⟩
  rw[hd]at K;simp only[if_true]at K;rw[e1];clear e1 hI hM c3
  go_enter Tryz.func116,Tryz.ntmps116
  go_wp2_with fail
  refine K.mono ?_
  rintro _ wq ⟨rfl,hwq⟩;rw[hwq];clear hwq wq K;go_wp2;go_ret;exact⟨rfl,F.out⟩
 |false=>
  have e1:flX d=0:=by unfold flX;rw[if_neg (by rw[hd];decide)]
  rw[hd]at K;simp only[Bool.false_eq_true,if_false]at K;rw[e1];obtain⟨D,hown,hk,hf⟩:=hM.mp true
  go_enter Tryz.func116,Tryz.ntmps116
  go_wp2_with fail
  refine K.mono ?_
  rintro _ wq ⟨rfl,hwq⟩;rw[hwq];clear hwq wq K
  go_wp2_with (first|(at_range;refine wpList_range_own _ rfl _ 119 rfl 3 36 keyed_int under_map RV (mb true) d.s D rfl hown ?_;intro w0 hrg0 hg0 hs0))
  go_frame
  have START:Hid (FlI w db mb G d w.heap.size w0):=by
   have hB0:Below w.heap.size w w0:=⟨hg0.os,hg0.tape,hg0.output,hg0.size,fun k hk=>hg0.block k hk Zs⟩;refine⟨d,B,C,D,_,hI.below hB0,FlK.refl d,hrg0,hk,fun x=>?_,Below.turnG hB0 G,Nat.le_refl _⟩
   rcases hf x with⟨h1,h2⟩|⟨v,h1,h2,_⟩
   ·rw[h1];have h2':(d.wait x).map _=none:=h2;rw[Option.map_eq_none_iff]at h2';rw[h2'];rfl
   ·rw[h2];have h1':(d.wait x).map _=some v:=h1;rw[Option.map_eq_some_iff]at h1';obtain⟨p,h3,_⟩:=h1';rw[h3];rfl
  have hGr:Hid (∀k,G k->k<w.heap.size):=hM.lt;have hgm:Hid (∀q,G (mb q)):=hM.gm;obtain⟨r,hr⟩:∃r,Hid (r=w.heap.size):=⟨_,rfl⟩;rw[<-hr.out]at START ⊢;clear hrg0 hg0 hs0 hown hk hf hI hM c3 hr
  go_loopw [4] (fun _ wr=>FlI w db mb G d r wr) (fun _ wr=>wr.rangeLeft (mb true) r)
  case atStart=>exact START.out
  case round=>
   obtain⟨e,B,C,D,cnt,hI,hF,hrg,hk,hh,hT,hr⟩:=hrel;clear START
   go_wp2_with (first|(at_next;refine wpList_next_ranges _ rfl _ rfl 3 keyed_int RV (Value.int .i64) id (fun key kl hkey=>by obtain⟨x,rfl,_⟩:=Maps.keyOf_int_inv (q:=.i64) Zk hkey;exact⟨x,rfl⟩) (fun v y _=>⟨v,rfl⟩) (mb true) r d.s D _ cnt rfl hrg ?_ ?_))
   ·intro _ hl0;have E:e=flS d:=hF.done hd (fun x=>by
     have h1:=hh x;rw[hl0]at h1;cases hx:e.wait x with
     |none=>rfl
     |some p=>rw[hx]at h1;cases h1)
    have FIN:Hid (∃G',DiskAt wr db G' (flS d)/\Grew G w G' wr):=⟨G,⟨mb,B,C,by rw[<-E];exact hI⟩,Grew.of_turn hT⟩;clear hI hF hrg hk hh hT hl0 E hGr hgm;go_wp2;go_ret;exact⟨rfl,FIN.out⟩
   ·intro x c kl y yl w1 cnt1 hkey hlk hv hat hrg1 hlt1 hg1 hs1 hen;obtain⟨x',ex,rfl,hwx⟩:=Maps.keyOf_int_inv (q:=.i64) Zk hkey;cases ex;obtain⟨p,hp⟩:∃p,e.wait x=some p:=by
     have h1:=hh x;rw[hlk]at h1;cases hx:e.wait x with
     |none=>rw[hx]at h1;cases h1
     |some p=>exact⟨p,rfl⟩
    have hnr:¬G r:=fun h=>by have:=hGr.out r h;omega
    have I1:DkIn w1 db mb B C G e:=⟨hI.1.keep (fun k hk=>by
     by_cases e:k<wr.heap.size
     ·exact hg1.block k e (fun h=>hnr (by cases h;exact hk))
     ·rw[Array.getElem?_eq_none (by rw[hs1];omega),Array.getElem?_eq_none Zo]) (by rw[hs1];exact Nat.le_refl _),hI.2⟩
    obtain⟨w2,w3,r1,t1,r2,t2,I3⟩:=I1.settle hwx hp;have KS:=dset_hit I1.1 hwx hp r1 t1 r2;obtain⟨o1,o2,o3,o4⟩:=mapTurned_os t1;have hrg2:=hrg1.kept (w':=w2) (row:=some (mb false)) ⟨o1,o2,o3,by rw[o4];exact Nat.le_refl _,fun k _ hk=>mapTurned_block t1 (fun e=>hk (by rw[e]))⟩ (fun h=>I1.1.lw (by simpa using h.symm)) (fun h=>by simp at h;exact hnr (by rw[h];exact hgm.out false));obtain⟨w3',cnt3,hrun3,hrg3,hle,ht3⟩:=hrg2.drop keyed_int under_map (key_int hwx) 0;rw[r2]at hrun3;simp only[Result.ok.injEq]at hrun3;obtain⟨_,rfl⟩:=hrun3;rw[Maps.strike_twice,has_del hk]at hrg3;have hT1:TurnG G w w1:=⟨hg1.os.trans hT.os,hg1.tape.trans hT.tape,hg1.output.trans hT.output,by rw[hs1];exact hT.size,fun k hk hg=>(hg1.block k (Nat.lt_of_lt_of_le hk hT.size) (fun h=>by cases h;omega)).trans (hT.block k hk hg)⟩;have E2:Hid (FlI w db mb G d r w3):=by
     refine⟨seS e x p,_,_,_,cnt3,I3,hF.settle hp,hrg3,?_,?_,(hT1.trans (mapTurned_turnG t1 (hgm.out false))).trans (mapTurned_turnG t2 (hgm.out true)),hr⟩
     ·intro kl hh2
      by_cases ek:kl= .int .i64 x
      ·subst ek;rw[Maps.has_del_same]at hh2;cases hh2
      ·rw[Maps.has_del_other ek]at hh2;exact hk kl hh2
     ·intro z
      by_cases ez:z=x
      ·subst ez;rw[Maps.has_del_same,show(seS e z p).wait z=none from if_pos rfl];rfl
      ·have hne:Lit.int .i64 z≠.int .i64 x:=fun h=>ez (by simpa using h)
       rw[Maps.has_del_other hne,show(seS e x p).wait z=e.wait z from if_neg ez];exact hh z
    have E3:Hid (w3.rangeLeft (mb true) r<wr.rangeLeft (mb true) r):=by
     show _<_
     rw[hrg3.left_eq,hrg.left_eq];omega
    clear I3 hF hrg3 hle ht3 hrg2 hT1 hT t1 t2 r1 r2 o1 o2 o3 o4 I1 hnr hp hkey hlk hv hat hrg1 hlt1 hg1 hs1 hI hrg hk hh hr hGr hgm
    go_wp2_with fail
    refine KS.mono ?_
    rintro _ wq ⟨rfl,hwq⟩;rw[hwq];clear hwq wq KS;go_wp2;go_roundw
    case rel=>exact E2.out
    case measure=>exact E3.out
end
end Go.Proofs.YtddnfhfangfgeaaGreat.Gf
namespace Go.Proofs.YtddnfhfangfgeaaGreat.Gf
set_option linter.unusedVariables false
set_option linter.unusedSimpArgs false
open Go.RowKit
section
variable {w:World} {db:Nat} {G:Nat->Prop} {d:DkS} {mb:Bool->Nat} {B C:Bool->Int->Nat}
theorem owns_set{base e g c j:Nat}{p:List UInt8}(h:w.ownsRow base e 1 (.slice (some ⟨g,0,none⟩) p.length c) p.length (p.map vb))(y:UInt8):
  (w.setCell ⟨g,j,none⟩ (vb y)).ownsRow base e 1 (.slice (some ⟨g,0,none⟩) (p.set j y).length c) (p.set j y).length ((p.set j y).map vb):=by
 have e1:=(World.ownsRow.stored h j (vb y)).1;rw[List.map_set,List.length_set];exact e1
theorem DkIn.change(h:DkIn w db mb B C G d){q:Bool}{a:Int}{p:List UInt8}(hp:sideD d q a=some p)(j:Nat)(y:UInt8)(hd:d.dead=false):
  DkIn (w.setCell ⟨B q a,j,none⟩ (vb y)) db mb B C G (setD d q (putB (sideD d q) a (p.set j y))):=by
 obtain⟨hM,hi,ho⟩:=h;have hb:∀k,k≠B q a->(w.setCell ⟨B q a,j,none⟩ (vb y)).heap[k]? =w.heap[k]? :=fun k hk=>Below.heap_setCell w ⟨B q a,j,none⟩ _ k hk
 have hdb:=hb db (hM.row_db hp).symm;have hv:∀r x,valI (sideD (setD d q (putB (sideD d q) a (p.set j y))) r) (B r) (C r) x=valI (sideD d r) (B r) (C r) x:=by
  intro r x
  by_cases e:r=q
  ·subst e;rw[side_set];unfold valI putB
   by_cases ex:x=a
   ·subst ex;rw[if_pos rfl,hp];simp
   ·rw[if_neg ex]
  ·rw[side_other d e]
 have key:∀r x p1,sideD (setD d q (putB (sideD d q) a (p.set j y))) r x=some p1->(r=q/\x=a/\p1=p.set j y)∨(¬(r=q/\x=a)/\sideD d r x=some p1):=by
  intro r x p1 h1
  by_cases e:r=q
  ·subst e;rw[side_set]at h1;unfold putB at h1
   by_cases ex:x=a
   ·rw[if_pos ex]at h1;cases h1;exact Or.inl ⟨rfl,ex,rfl⟩
   ·rw[if_neg ex]at h1;exact Or.inr ⟨fun h=>ex h.2,h1⟩
  ·rw[side_other d e]at h1;exact Or.inr ⟨fun h=>e h.1,h1⟩
 have hins:∀r,InS d.s (sideD (setD d q (putB (sideD d q) a (p.set j y))) r):=by
  intro r
  by_cases e:r=q
  ·subst e;rw[side_set];have h1:=hM.ins r a p hp;exact(hM.ins r).put h1.1 h1.2.1 (by rw[List.length_set];exact h1.2.2.1) (by rw[List.length_set];exact h1.2.2.2)
  ·rw[side_other d e];exact hM.ins r
 refine⟨⟨?_,?_,?_,?_,?_,fun r=>?_,fun r x p1 h1=>?_,hM.gd,hM.gm,fun r x p1 h1=>?_,fun k hk=>by simpa using hM.lt k hk,hM.lw,fun r=>?_,?_,?_⟩,?_,?_⟩
 ·rw[setD_s];exact(World.cell?_of_block (w:=w) hdb).trans hM.c0
 ·rw[setD_dead];exact(World.cell?_of_block (w:=w) hdb).trans hM.c1
 ·exact(World.cell?_of_block (w:=w) hdb).trans hM.c2
 ·exact(World.cell?_of_block (w:=w) hdb).trans hM.c3
 ·exact(World.frozen?_of_block (w:=w) hdb).trans hM.fz
 ·rw[setD_s];exact((hM.mp r).of_block (hb _ (hM.row_ne hp r).symm)).congr fun x=>(hv r x).symm
 ·rcases key r x p1 h1 with⟨rfl,rfl,rfl⟩|⟨h2,h3⟩
  ·exact owns_set (hM.row r x p hp) y
  ·exact owns_block (hM.row r x p1 h3) (fun g hg=>by
    cases hg;exact hb _ (fun e=>h2 (hi _ _ _ _ _ _ h3 hp e)))
 ·rcases key r x p1 h1 with⟨rfl,rfl,rfl⟩|⟨h2,h3⟩
  ·exact hM.gb r x p hp
  ·exact hM.gb r x p1 h3
 ·rw[setD_s];exact hins r
 ·rw[setD_s];exact hM.s1
 ·rw[setD_s];exact hM.s2
 ·intro r x p1 r' x' p2 h1 h2 hB;have k1:∃p',sideD d r x=some p':=by
   rcases key r x p1 h1 with⟨rfl,rfl,_⟩|⟨_,h3⟩
   ·exact⟨p,hp⟩
   ·exact⟨p1,h3⟩
  have k2:∃p',sideD d r' x'=some p':=by
   rcases key r' x' p2 h2 with⟨rfl,rfl,_⟩|⟨_,h3⟩
   ·exact⟨p,hp⟩
   ·exact⟨p2,h3⟩
  obtain⟨p1',k1⟩:=k1;obtain⟨p2',k2⟩:=k2;exact hi _ _ _ _ _ _ k1 k2 hB
 ·refine Ok.of_sides (by rw[setD_s];exact hM.s1) (by rw[setD_s];exact hM.s2) (fun r=>by rw[setD_s];exact hins r) (fun h=>?_);rw[setD_dead,hd]at h;cases h
theorem newV_side(h:DkM w db mb B C G d)(a:Int):(newV d B C a= .slice none 0 0/\atD d a=none)∨∃q p,newV d B C a= .slice (some ⟨B q a,0,none⟩) p.length (C q a)/\sideD d q a=some p/\atD d a=some p/\∀at_ y,faX d a=0->coS d a at_ y=setD d q (putB (sideD d q) a (chB p at_ y)):=by
 unfold newV atD valI;cases hw:d.wait a with
 |some p=>exact Or.inr ⟨true,p,rfl,hw,rfl,fun at_ y hf=>by unfold coS;rw[if_pos hf,hw];rfl⟩
 |none=>
  cases hl:d.last a with
  |none=>exact Or.inl ⟨rfl,rfl⟩
  |some p=>exact Or.inr ⟨false,p,rfl,hl,rfl,fun at_ y hf=>by unfold coS;rw[if_pos hf,hw,hl];rfl⟩
theorem dcorr_any(h:DiskAt w db G d){a at_:Int}(ha:(Lit.int .i64 a).wf=true)(hat:(Lit.int .i64 at_).wf=true)(y:UInt8):
  Calls Tryz.prog 59 #[.pointer (some ⟨db,0,none⟩),.int .i64 a,.int .i64 at_,.int .u8 ((y.toNat:Nat):Int)] w (Leaves w db G (coS d a at_ y) (.int .i64 (coX d a))):=by
 obtain⟨mb,B,C,hI⟩:=h;have hM:=hI.1;have K:=@drat_any w db d a hM.c0 hM.c1;have KN:=dnew_any hM ha;have REF:∀{w':World},coS d a at_ y=d->w'=w->Hid (∃G',DiskAt w' db G' (coS d a at_ y)/\Grew G w G' w'):=fun e1 e2=>by
  show ∃G',_
  rw[e1,e2];exact⟨G,⟨mb,B,C,hI⟩,Grew.refl G w⟩
 by_cases hf:faX d a=0
 ·rw[hf]at K
  rcases newV_side hM a with⟨e1,e2⟩|⟨q,p,e1,hp,e2,e3⟩
  ·rw[e1]at KN;have eX:coX d a=1:=by unfold coX;rw[if_pos hf,if_pos e2]
   have eS:coS d a at_ y=d:=by
    unfold coS atD at*;rw[if_pos hf];cases hw:d.wait a with
    |some p=>rw[hw]at e2;cases e2
    |none=>rw[hw]at e2;simp only at e2 ⊢;rw[e2]
   have F:=REF (w':=w) eS rfl;rw[eX];clear eX eS REF hI hM e1 e2 hf hat ha
   go_enter Tryz.func59,Tryz.ntmps59
   go_wp2_with fail
   refine K.mono ?_
   rintro _ wq ⟨rfl,hwq⟩;rw[hwq];clear hwq wq K
   go_wp2_with fail
   refine KN.mono ?_
   rintro _ wq ⟨rfl,hwq⟩;rw[hwq];clear hwq wq KN;go_wp2;go_ret;exact⟨rfl,F.out⟩
  ·rw[e1]at KN;have eX:coX d a=0:=by unfold coX;rw[if_pos hf,if_neg (by rw[e2];simp)]
   have e3':=e3 at_ y hf;have hdd:=(faX_zero hf).1;have hrow:=hM.row q a p hp;have hin:=hM.ins q a p hp;obtain⟨j,hj⟩:∃j,Hid (j=atN at_ p.length):=⟨_,rfl⟩;have hjl:j<p.length:=by rw[hj.out];exact Nat.mod_lt _ Zo
   have E:chB p at_ y=p.set j (co p j^^^y):=by unfold chB;rw[hj.out]
   have I2:=hI.change hp j (co p j^^^y) hdd;rw[E]at e3';rw[<-e3']at I2;have FIN:Hid (∃G',DiskAt (w.setCell ⟨B q a,j,none⟩ (vb (co p j^^^y))) db G' (coS d a at_ y)/\Grew G w G' (w.setCell ⟨B q a,j,none⟩ (vb (co p j^^^y)))):=⟨G,⟨mb,B,C,I2⟩,Grew.of_turn (setCell_turnG (hM.gb q a p hp))⟩;have cj:w.cell? ⟨B q a,j,none⟩=some (.int .u8 (((co p j).toNat:Nat):Int)):=by
    have:=World.ownsRow.cellAt hrow j Zo;rw[this,List.getElem?_map,List.getElem?_eq_getElem hjl,co_lt hjl];rfl
   have fj:w.frozen? ⟨B q a,j,none⟩=false:=World.ownsRow.frozenAt hrow j;have X:bits .xor .u8 (((co p j).toNat:Nat):Int) ((y.toNat:Nat):Int)=(((co p j^^^y).toNat:Nat):Int):=xor_u8 _ _;have q1:((p.length:Int)==0)=false:=beq_eq_false_iff_ne.2 Zo;rw[eX];clear eX REF hI hM e1 e2 e3 e3' I2 E hrow
   by_cases hneg:at_<0
   ·obtain⟨M,hM⟩:∃M:Nat,at_= -((M:Int)+1):=⟨(-(at_+1)).toNat,Zo⟩;have hb:=bounds_i64 hat;have hjM:j=M%p.length:=by rw[hj.out];unfold atN;rw[if_pos hneg];congr 1;omega
    have Z1:wrap64 (at_+1)= -(M:Int):=by unfold wrap64;omega
    have Z2:wrap64 (M:Int)=(M:Int):=by unfold wrap64;omega
    have T:((M:Int)).tmod (p.length:Int)=(j:Int):=by rw[hjM];exact(Int.ofNat_tmod M p.length).symm
    clear hjM hM hb hat hj
    go_enter Tryz.func59,Tryz.ntmps59
    go_wp2_with fail
    refine K.mono ?_
    rintro _ wq ⟨rfl,hwq⟩;rw[hwq];clear hwq wq K
    go_wp2_with fail
    refine KN.mono ?_
    rintro _ wq ⟨rfl,hwq⟩;rw[hwq];clear hwq wq KN;go_wp2;go_ret;exact⟨rfl,FIN.out⟩
   ·obtain⟨M,hM⟩:∃M:Nat,at_=(M:Int):=⟨at_.toNat,Zo⟩;have hjM:j=M%p.length:=by rw[hj.out];unfold atN;rw[if_neg hneg];congr 1;omega
    subst hM;have T:((M:Int)).tmod (p.length:Int)=(j:Int):=by rw[hjM];exact(Int.ofNat_tmod M p.length).symm
    clear hjM hat hj
    go_enter Tryz.func59,Tryz.ntmps59
    go_wp2_with fail
    refine K.mono ?_
    rintro _ wq ⟨rfl,hwq⟩;rw[hwq];clear hwq wq K
    go_wp2_with fail
    refine KN.mono ?_
    rintro _ wq ⟨rfl,hwq⟩;rw[hwq];clear hwq wq KN;go_wp2;go_ret;exact⟨rfl,FIN.out⟩
 ·have eX:coX d a=faX d a:=by unfold coX;rw[if_neg hf]
  have F:=REF (w':=w) (by unfold coS;rw[if_neg hf]) rfl;rw[eX];obtain⟨x,hx⟩:∃x,x=faX d a:=⟨_,rfl⟩;rw[<-hx]at hf K ⊢;clear eX REF hI hM hx KN ha hat;have q1:(x==0)=false:=beq_eq_false_iff_ne.2 hf
  go_enter Tryz.func59,Tryz.ntmps59
  go_wp2_with fail
  refine K.mono ?_
  rintro _ wq ⟨rfl,hwq⟩;rw[hwq];clear hwq wq K;go_wp2;go_ret;exact⟨rfl,F.out⟩
end
theorem new_at(w:World){n:Int}(h1:1<=n)(h2:n<=4096)(t:TypeId):
  DiskAt (((w.alloc (.map #[] 0)).alloc (.map #[] 0)).alloc (.cells #[.int .i64 n,.bool false,.map (some w.heap.size),.map (some (w.heap.size+1))] t)) (w.heap.size+1+1) (fun k=>w.heap.size<=k/\k<w.heap.size+3) (newD n.toNat):=by
 have hn:((n.toNat:Nat):Int)=n:=Zo
 obtain⟨w1,hw1⟩:∃w1,w1=w.alloc (.map #[] 0):=⟨_,rfl⟩;obtain⟨w2,hw2⟩:∃w2,w2=w1.alloc (.map #[] 0):=⟨_,rfl⟩;have s1:w1.heap.size=w.heap.size+1:=by rw[hw1];simp
 have s2:w2.heap.size=w.heap.size+1+1:=by rw[hw2];simp[s1]
 have m1:MapI Tryz.prog 3 w1 w.heap.size n.toNat (fun _=>none):=by rw[hw1];exact MapI.made _ _ w _
 have m2:MapI Tryz.prog 3 w2 (w.heap.size+1) n.toNat (fun _=>none):=by rw[hw2,<-s1];exact MapI.made _ _ w1 _
 have b1:Below w1.heap.size w1 w2:=by rw[hw2];exact(Below.refl _ _).alloc (Nat.le_refl _) _
 have m1':=m1.below b1;rw[<-hw1,<-hw2,<-s2];obtain⟨w3,hw3⟩:∃w3,w3=w2.alloc (.cells #[.int .i64 n,.bool false,.map (some w.heap.size),.map (some (w.heap.size+1))] t):=⟨_,rfl⟩;have b2:Below w2.heap.size w2 w3:=by rw[hw3];exact(Below.refl _ _).alloc (Nat.le_refl _) _
 have m1'':=m1'.below b2;have m2':=m2.below b2;have s3:w3.heap.size=w.heap.size+3:=by rw[hw3];simp[s2]
 have cc:∀i,w3.cell? ⟨w2.heap.size,i,none⟩=(#[Value.int .i64 n,.bool false,.map (some w.heap.size),.map (some (w.heap.size+1))])[i]? :=fun i=>by rw[hw3];exact World.cell?_alloc_new _ _ _ _
 rw[<-hw3];refine⟨fun q=>if q=true then w.heap.size+1 else w.heap.size,fun _ _=>0,fun _ _=>0,⟨?_,?_,?_,?_,?_,fun q=>?_,fun q x p hp=>?_,⟨Zo,Zo⟩,fun q=>?_,fun q x p hp=>?_,fun k hk=>by rw[s3];exact hk.2,?_,fun q=>?_,?_,?_⟩,?_,newD_ok Zo Zo⟩
 ·rw[cc];show some (Value.int .i64 n)=_;rw[show(newD n.toNat).s=n.toNat from rfl,hn]
 ·rw[cc];rfl
 ·rw[cc];rfl
 ·rw[cc];rfl
 ·rw[hw3];simp[go_sem]
 ·cases q
  ·exact m1''
  ·exact m2'
 ·cases q<;>cases hp
 ·cases q
  ·exact⟨Nat.le_refl _,by show w.heap.size<_;omega⟩
  ·exact⟨by show _<=w.heap.size+1;omega,by show w.heap.size+1<_;omega⟩
 ·cases q<;>cases hp
 ·show w.heap.size≠w.heap.size+1
  omega
 ·cases q<;>exact InS.none _
 ·show 1<=n.toNat
  omega
 ·show n.toNat<=4096
  omega
 ·intro q x p r y p' h1;cases q<;>cases h1
def NewsD(w:World)(n:Int)(e:Ending)(w':World):Prop:=∃db G,e= .returned (.tuple #[.pointer (some ⟨db,0,none⟩),.int .i64 0])/\DiskAt w' db G (newD n.toNat)/\(∀k,G k->w.heap.size<=k)/\Below w.heap.size w w'
theorem dmake_any{w:World}{n:Int}(h1:1<=n)(h2:n<=4096):Calls Tryz.prog 33 #[.int .i64 n] w (NewsD w n):=by
 have g1:¬n<1:=Zo
 have g2:¬n>4096:=Zo
 have MK:∀w:World,(Instr.makeMap 119 none).run Tryz.prog w= .ok (.map (some w.heap.size)) (w.alloc (.map #[] 0)):=fun w=>Zk
 go_enter Tryz.func33,Tryz.ntmps33
 go_wp2;refine bodyPost_ret (v:=.tuple #[.pointer (some ⟨w.heap.size+1+1,0,none⟩),.int .i64 0]) (by simp[results,Tryz.results33,go_sem]) rfl ?_
 refine⟨_,_,rfl,new_at w h1 h2 _,fun k hk=>hk.1,?_⟩;exact(((Below.refl _ _).alloc (Nat.le_refl _) _).alloc Zs _).alloc Zm _
end Go.Proofs.YtddnfhfangfgeaaGreat.Gf
namespace Go.Proofs.YtddnfhfangfgeaaGreat.Gf
open Go.RowKit Go.Maps Go.Sort Go.Shelf
def laykeysA_ren:Go.Shelf.Ren:=⟨fun|7=>142|10=>177|n=>n,fun|23=>119|26=>3|3=>36|28=>183|0=>0|27=>182|33=>161|4=>4|n=>n,fun|n=>n⟩
theorem laykeysA:Go.Proofs.SlLaysZI.n7 Tryz.prog laykeysA_ren where
 mixed:=Zk
 f7:=⟨"maps.Keys[map[int][]byte,int,[]byte]",Zd,Tryz.func142.trans (congrArg some Zk)⟩
 f10:=⟨"maps.Keys[map[int][]byte,int,[]byte]$1",Zd,Tryz.func177.trans (congrArg some Zk)⟩
 t0:=Tryz.underlying0
 a0:=Tryz.isAgg0
 z0:=Tryz.sizeOf0
 v0:=Tryz.zeroValue0
 t4:=Tryz.underlying4
 a4:=Tryz.isAgg4
 z4:=Tryz.sizeOf4
 v4:=Tryz.zeroValue4
 t23:=Tryz.underlying119
 a23:=Tryz.isAgg119
 z23:=Tryz.sizeOf119
 v23:=Tryz.zeroValue119
 t26:=Tryz.underlying3
 a26:=Tryz.isAgg3
 z26:=Tryz.sizeOf3
 v26:=Tryz.zeroValue3
 t27:=Tryz.underlying182
 a27:=Tryz.isAgg182
 z27:=Tryz.sizeOf182
 v27:=Tryz.zeroValue182
 t28:=Tryz.underlying183
 a28:=Tryz.isAgg183
 z28:=Tryz.sizeOf183
 v28:=Tryz.zeroValue183
 t33:=Tryz.underlying161
 a33:=Tryz.isAgg161
 z33:=Tryz.sizeOf161
 v33:=Tryz.zeroValue161
def laysortedA_ren:Go.Shelf.Ren:=⟨fun|6=>141|8=>175|9=>176|11=>206|13=>208|12=>207|23=>231|24=>232|14=>222|15=>223|16=>224|17=>225|18=>226|19=>227|20=>228|21=>229|22=>230|25=>238|26=>239|27=>240|28=>241|29=>242|30=>243|31=>249|n=>n,fun|26=>3|28=>183|24=>45|0=>0|3=>3|37=>118|48=>165|50=>251|4=>4|40=>243|39=>242|45=>247|5=>5|9=>9|51=>255|55=>259|57=>265|58=>266|33=>161|n=>n,fun|n=>n⟩
theorem laysortedA:Go.Proofs.SlLaysZI.n6 Tryz.prog laysortedA_ren where
 mixed:=Zk
 f6:=⟨"slices.Sorted[int]",Zd,Tryz.func141.trans (congrArg some Zk)⟩
 f8:=⟨"slices.Collect[int]",Zd,Tryz.func175.trans (congrArg some Zk)⟩
 f11:=⟨"slices.AppendSeq[[]int,int]",Zd,Tryz.func206.trans (congrArg some Zk)⟩
 t0:=Tryz.underlying0
 a0:=Tryz.isAgg0
 z0:=Tryz.sizeOf0
 v0:=Tryz.zeroValue0
 t24:=Tryz.underlying45
 a24:=Tryz.isAgg45
 z24:=Tryz.sizeOf45
 v24:=Tryz.zeroValue45
 t26:=Tryz.underlying3
 a26:=Tryz.isAgg3
 z26:=Tryz.sizeOf3
 v26:=Tryz.zeroValue3
 t28:=Tryz.underlying183
 a28:=Tryz.isAgg183
 z28:=Tryz.sizeOf183
 v28:=Tryz.zeroValue183
 i26:=Zk
def laysortA_ren:Go.Shelf.Ren:=⟨fun|5=>176|8=>208|7=>207|19=>231|20=>232|10=>222|11=>223|12=>224|13=>225|14=>226|15=>227|16=>228|17=>229|18=>230|30=>238|31=>239|32=>240|33=>241|34=>242|35=>243|40=>249|n=>n,fun|23=>45|25=>3|3=>3|32=>118|22=>45|0=>0|44=>165|46=>251|4=>4|36=>243|35=>242|41=>247|5=>5|9=>9|53=>255|57=>259|63=>265|64=>266|n=>n,fun|n=>n⟩
theorem laysortA:Go.Proofs.SlLaysM.n5 Tryz.prog laysortA_ren where
 mixed:=Zk
 f5:=⟨"slices.Sort[[]int,int]",Zd,Tryz.func176.trans (congrArg some Zk)⟩
 f7:=⟨"slices.pdqsortOrdered[int]",Zd,Tryz.func207.trans (congrArg some Zk)⟩
 f8:=Tryz.func208.trans (congrArg some Zk)
 f10:=⟨"slices.insertionSortOrdered[int]",Zd,Tryz.func222.trans (congrArg some Zk)⟩
 f11:=⟨"slices.heapSortOrdered[int]",Zd,Tryz.func223.trans (congrArg some Zk)⟩
 f12:=⟨"slices.breakPatternsOrdered[int]",Zd,Tryz.func224.trans (congrArg some Zk)⟩
 f13:=⟨"slices.choosePivotOrdered[int]",Zd,Tryz.func225.trans (congrArg some Zk)⟩
 f14:=⟨"slices.reverseRangeOrdered[int]",Zd,Tryz.func226.trans (congrArg some Zk)⟩
 f15:=⟨"slices.partialInsertionSortOrdered[int]",Zd,Tryz.func227.trans (congrArg some Zk)⟩
 f16:=⟨"cmp.Less[int]",Zd,Tryz.func228.trans (congrArg some Zk)⟩
 f17:=⟨"slices.partitionEqualOrdered[int]",Zd,Tryz.func229.trans (congrArg some Zk)⟩
 f18:=⟨"slices.partitionOrdered[int]",Zd,Tryz.func230.trans (congrArg some Zk)⟩
 f19:=Tryz.func231.trans (congrArg some Zk)
 f20:=Tryz.func232.trans (congrArg some Zk)
 f30:=⟨"slices.siftDownOrdered[int]",Zd,Tryz.func238.trans (congrArg some Zk)⟩
 f31:=Tryz.func239.trans (congrArg some Zk)
 f32:=Tryz.func240.trans (congrArg some Zk)
 f33:=⟨"slices.medianAdjacentOrdered[int]",Zd,Tryz.func241.trans (congrArg some Zk)⟩
 f34:=⟨"slices.medianOrdered[int]",Zd,Tryz.func242.trans (congrArg some Zk)⟩
 f35:=⟨"cmp.isNaN[int]",Zd,Tryz.func243.trans (congrArg some Zk)⟩
 f40:=⟨"slices.order2Ordered[int]",Zd,Tryz.func249.trans (congrArg some Zk)⟩
 t0:=Tryz.underlying0
 a0:=Tryz.isAgg0
 z0:=Tryz.sizeOf0
 v0:=Tryz.zeroValue0
 t3:=Tryz.underlying3
 a3:=Tryz.isAgg3
 z3:=Tryz.sizeOf3
 v3:=Tryz.zeroValue3
 t4:=Tryz.underlying4
 a4:=Tryz.isAgg4
 z4:=Tryz.sizeOf4
 v4:=Tryz.zeroValue4
 t5:=Tryz.underlying5
 a5:=Tryz.isAgg5
 z5:=Tryz.sizeOf5
 v5:=Tryz.zeroValue5
 t9:=Tryz.underlying9
 a9:=Tryz.isAgg9
 z9:=Tryz.sizeOf9
 v9:=Tryz.zeroValue9
 t22:=Tryz.underlying45
 a22:=Tryz.isAgg45
 z22:=Tryz.sizeOf45
 v22:=Tryz.zeroValue45
 t23:=Tryz.underlying45
 a23:=Tryz.isAgg45
 z23:=Tryz.sizeOf45
 v23:=Tryz.zeroValue45
 t25:=Tryz.underlying3
 a25:=Tryz.isAgg3
 z25:=Tryz.sizeOf3
 v25:=Tryz.zeroValue3
 t32:=Tryz.underlying118
 a32:=Tryz.isAgg118
 z32:=Tryz.sizeOf118
 v32:=Tryz.zeroValue118
 t35:=Tryz.underlying242
 a35:=Tryz.isAgg242
 z35:=Tryz.sizeOf242
 v35:=Tryz.zeroValue242
 t36:=Tryz.underlying243
 a36:=Tryz.isAgg243
 z36:=Tryz.sizeOf243
 v36:=Tryz.zeroValue243
 t41:=Tryz.underlying247
 a41:=Tryz.isAgg247
 z41:=Tryz.sizeOf247
 v41:=Tryz.zeroValue247
 t44:=Tryz.underlying165
 a44:=Tryz.isAgg165
 z44:=Tryz.sizeOf165
 v44:=Tryz.zeroValue165
 t46:=Tryz.underlying251
 a46:=Tryz.isAgg251
 z46:=Tryz.sizeOf251
 v46:=Tryz.zeroValue251
 t53:=Tryz.underlying255
 a53:=Tryz.isAgg255
 z53:=Tryz.sizeOf255
 v53:=Tryz.zeroValue255
 t57:=Tryz.underlying259
 a57:=Tryz.isAgg259
 z57:=Tryz.sizeOf259
 v57:=Tryz.zeroValue259
 t63:=Tryz.underlying265
 a63:=Tryz.isAgg265
 z63:=Tryz.sizeOf265
 v63:=Tryz.zeroValue265
 t64:=Tryz.underlying266
 a64:=Tryz.isAgg266
 z64:=Tryz.sizeOf266
 v64:=Tryz.zeroValue266
set_option linter.unusedVariables false
set_option linter.unusedSimpArgs false
def keysL(f:Int->Option Value)(S:Nat):List Int:=((List.range S).map fun i:Nat=>(i:Int)).filter fun x=>(f x).isSome
theorem keysL_mem{f:Int->Option Value}{S:Nat}{x:Int}:x∈keysL f S↔0<=x/\x<(S:Int)/\(f x).isSome=true:=by
 unfold keysL;rw[List.mem_filter,List.mem_map];constructor
 ·rintro⟨⟨i,hi,rfl⟩,h⟩;rw[List.mem_range]at hi;exact⟨Zo,Zo,h⟩
 ·rintro⟨h0,h1,h2⟩;exact⟨⟨x.toNat,List.mem_range.2 Zo,Zo⟩,h2⟩
theorem keysL_rising(f:Int->Option Value)(S:Nat):(keysL f S).Pairwise (·<·):=by
 unfold keysL;refine List.Pairwise.filter _ ?_
 rw[List.pairwise_map];exact List.pairwise_lt_range.imp (fun h=>Zo)
theorem keysL_nodup(f:Int->Option Value)(S:Nat):(keysL f S).Nodup:=(keysL_rising f S).imp (fun h=>Zo)
theorem keysL_length(f:Int->Option Value)(S:Nat):(keysL f S).length<=S:=by
 unfold keysL;have:=List.length_filter_le (fun x=>(f x).isSome) ((List.range S).map fun i:Nat=>(i:Int));simpa using this
theorem sorted_keys{f:Int->Option Value}{S:Nat}{ss:List Int}(h:ss.Perm (keysL f S)):ss.mergeSort (fun x y=>decide (x<=y))=keysL f S:=by
 have tr:∀a b c:Int,decide (a<=b)=true->decide (b<=c)=true->decide (a<=c)=true:=fun a b c h1 h2=>by simp only[decide_eq_true_eq]at*;omega
 have tO:∀a b:Int,(decide (a<=b)||decide (b<=a))=true:=fun a b=>by simp only[Bool.or_eq_true,decide_eq_true_eq];omega
 refine List.Perm.eq_of_pairwise (le:=fun a b=>decide (a<=b)=true) (fun a b _ _ h1 h2=>?_) (List.pairwise_mergeSort tr tO ss) ((keysL_rising f S).imp (fun h=>decide_eq_true Zo)) ((List.mergeSort_perm ss _).trans h);simp only[decide_eq_true_eq]at h1 h2;omega
theorem sortsA(m:Nat):AnyZI.SortsIn Tryz.prog laysortedA_ren Fence.wide m:=
 ⟨fun blk off cap ss W hH hblk hsz=>callsIn_wide.2 (AnyM.slices_Sort_int laysortA blk off cap ss W hH hblk hsz),
  fun p cap W=>callsIn_wide.2 (AnyM.slices_Sort_int_none laysortA p cap W)⟩
theorem keys_call(mb:Option Nat)(W:World):Calls Tryz.prog 142 #[.map mb] W fun e w'=>e= .returned (.func (.func 177) #[] #[.pointer (some ⟨W.heap.size,0,none⟩)])/\w'=W.alloc (.cells #[.map mb] 119):=
 (callsIn_wide (n:=5)).1 (AnyZI.keys_in laykeysA Fence.wide 5 trivial rfl mb W)
theorem sorted_call{w:World}{b S:Nat}{f:Int->Option Value}(h:MapI Tryz.prog 3 w b S f)(hS:S<=4096):
  Calls Tryz.prog 141 #[.func (.func 177) #[] #[.pointer (some ⟨w.heap.size,0,none⟩)]] (w.alloc (.cells #[.map (some b)] 119)) fun e w'=>∃v,e= .returned v/\w'.ownsRow w.heap.size 3 1 v (keysL f S).length ((keysL f S).map encZ)/\Below w.heap.size w w':=by
 have hbl:=h.lt;obtain⟨D0,hown,hk,hf⟩:=h;obtain⟨es,hE,hp,hl⟩:=hown.entries keyed_int;have hkI:∀p∈es,∃x,p.1= .int .i64 x:=by
  intro p hp1;obtain⟨x,e,_⟩:=hk p.1 (by
   rw[hE,Maps.has_eq,List.any_eq_true];exact⟨p,hp1,WideAt.sameKey_self (hl p hp1)⟩)
  exact⟨x,e⟩
 have hperm:(keysL f S).Perm (intKeys D0):=by
  rw[hE];refine perm_intKeys hp hkI (keysL_nodup f S) fun x=>?_
  rw[<-hE,keysL_mem]
  rcases hf x with⟨h1,h2⟩|⟨v,h1,h2,_⟩
  ·rw[h1,h2];simp
  ·rw[h2,h1];obtain⟨y,e,hy⟩:=hk _ h2;simp at e;subst e;simp[hy]
 have hsz:Maps.size D0<=4096:=Nat.le_trans (by
  obtain⟨es',clock,hb,F,hs,rfl⟩:=hown;simp[Maps.size,length_sorted];exact hs) hS
 have hseq:SeqGives Fence.wide 2 Tryz.prog 177 #[.pointer (some ⟨w.heap.size,0,none⟩)] encZ (fun ss=>ss.Perm (intKeys D0)) (Maps.size D0) (w.alloc (.cells #[.map (some b)] 119)):=
  AnyZI.keys_gives (ρ:=laykeysA_ren) {laykeysA with} Fence.wide _ trivial rfl Zo w.heap.size b S D0 _ Zs Zs (by
   obtain⟨es,clock,hb,Ft,hs,hD⟩:=hown;exact⟨es,clock,(Below.heap_alloc _ _ b hbl).trans hb,Ft,hs,hD⟩)
 have cS:=AnyZI.sorted_in laysortedA Fence.wide 5 trivial trivial trivial trivial rfl Zo (sortsA _) (enters_of Tryz.func176 Zk rfl) 177 #[.pointer (some ⟨w.heap.size,0,none⟩)] trivial (enters_of Tryz.func177 Zk rfl) _ _ Zl Zo _ hseq;refine(Calls.mono ((callsIn_wide (n:=5)).1 cS) ?_);rintro e w' ⟨v,ss,rfl,hS,hrow,hnil,hb⟩;refine⟨v,rfl,?_,((Below.refl _ w).alloc (Nat.le_refl _) _).trans (hb.mono Zs)⟩;have hp2:=hS.trans hperm.symm;have e1:=sorted_keys hp2;rw[e1,hp2.length_eq]at hrow;exact ownsRow_base hrow Zs
end Go.Proofs.YtddnfhfangfgeaaGreat.Gf
namespace Go.Proofs.YtddnfhfangfgeaaGreat.Gf
set_option linter.unusedVariables false
set_option linter.unusedSimpArgs false
open Go.RowKit
abbrev TH:=Int×List UInt8×Value
def cellsT(T:List TH):List Value:=T.flatMap fun t=>[.int .i64 t.1,t.2.2]
def bareT(T:List TH):List (Int×List UInt8):=T.map fun t=>(t.1,t.2.1)
theorem cellsT_length(T:List TH):(cellsT T).length=T.length*2:=by
 unfold cellsT
 induction T with
 |nil=>rfl
 |cons t T ih=>simp[List.flatMap_cons,ih];omega
theorem cellsT_snoc(T:List TH)(t:TH):cellsT (T++[t])=cellsT T++[.int .i64 t.1,t.2.2]:=by unfold cellsT;simp
structure OwnT(w:World)(base:Nat)(v:Value)(T:List TH):Prop where
 row:w.ownsRow base 62 2 v T.length (cellsT T)
 each:∀t∈T,w.ownsRow base 5 1 t.2.2 t.2.1.length (t.2.1.map vb)
def OwnH(w:World)(base:Nat)(v:Value)(L:List (Int×List UInt8)):Prop:=∃T,bareT T=L/\OwnT w base v T
theorem info_held:(Tryz.prog.info? 62).map (fun i=>(i.zero,i.size,i.bytes))=some (some (.agg #[.int .i64 0,.slice none 0 0]),2,32):=Zk
theorem info_parts2{t:Nat}{a:Value}{b c:Nat}(h:(Tryz.prog.info? t).map (fun i=>(i.zero,i.size,i.bytes))=some (some a,b,c)):∃i,Tryz.prog.info? t=some i/\i.zero=some a/\i.size=b/\i.bytes=c:=by
 cases hi:Tryz.prog.info? t with
 |none=>rw[hi]at h;cases h
 |some i=>rw[hi]at h;simp at h;exact⟨i,rfl,h.1,h.2.1,h.2.2⟩
theorem heldL_keys(f:Int->Option (List UInt8))(B C:Int->Nat)(S:Nat):heldL f S=(keysL (valI f B C) S).map fun x=>(x,(f x).getD []):=by
 induction S with
 |zero=>rfl
 |succ S ih=>
  rw[heldL_succ,ih];unfold keysL;rw[List.range_succ,List.map_append,List.filter_append,List.map_append];congr 1;unfold valI;cases h:f (S:Int)<;>simp[h]
theorem keys_some{f:Int->Option (List UInt8)}{B C:Int->Nat}{S k:Nat}(h:k<(keysL (valI f B C) S).length):∃p,f ((keysL (valI f B C) S).getD k 0)=some p:=by
 have h1:(keysL (valI f B C) S).getD k 0∈keysL (valI f B C) S:=by
  rw[show(keysL (valI f B C) S).getD k 0=(keysL (valI f B C) S)[k] by simp[List.getD,h]];exact List.getElem_mem h
 have h2:=(keysL_mem.1 h1).2.2;unfold valI at h2;cases hf:f ((keysL (valI f B C) S).getD k 0)with
 |none=>unfold valI at hf;rw[hf]at h2;cases h2
 |some p=>exact⟨p,rfl⟩
section
variable {w:World}
theorem row_at{base e size n:Nat}{v:Value}{xs:List Value}(h:w.ownsRow base e size v n xs){g:Nat}(hg:v.ownBlock=some g):base<=g/\g<w.heap.size/\∃cur,w.heap[g]? =some (.cells cur e (0,0)):=by
 obtain⟨h0,⟨h,_⟩|⟨g',cap,cur,hv,hg',hh,r⟩⟩:=h
 ·rw[h]at hg;cases hg
 ·rw[hv]at hg;cases hg;exact⟨hg',(Array.getElem?_eq_some_iff.1 hh).1,cur,hh⟩
theorem owns_slice{base e size n:Nat}{v:Value}{xs:List Value}(h:w.ownsRow base e size v n xs):∃a c,v= .slice a n c:=by
 obtain⟨h0,⟨h,e⟩|⟨g',cap,cur,hv,hg',hh,r⟩⟩:=h
 ·exact⟨none,0,by rw[h,e]⟩
 ·exact⟨_,_,hv⟩
theorem owns_low{base base' e size n:Nat}{v:Value}{xs:List Value}(h:w.ownsRow base e size v n xs)(hb:base'<=base):w.ownsRow base' e size v n xs:=by
 obtain⟨h0,h|⟨g,cap,cur,hv,hg,r⟩⟩:=h
 ·exact⟨h0,Or.inl h⟩
 ·exact⟨h0,Or.inr ⟨g,cap,cur,hv,Nat.le_trans hb hg,r⟩⟩
theorem owns_after{base e size n:Nat}{v:Value}{xs:List Value}{w':World}(h:w.ownsRow base e size v n xs)(hb:Below w.heap.size w w'):w'.ownsRow base e size v n xs:=
 owns_block h (fun g hg=>hb.block g (row_at h hg).2.1)
theorem OwnT.after{base:Nat}{v:Value}{T:List TH}{w':World}(h:OwnT w base v T)(hb:Below w.heap.size w w'):OwnT w' base v T:=⟨owns_after h.row hb,fun t ht=>owns_after (h.each t ht) hb⟩
theorem OwnT.snoc{base:Nat}{vl v:Value}{T:List TH}{x:Int}{p:List UInt8}(h:OwnT w base vl T)(hr:w.ownsRow base 5 1 v p.length (p.map vb)){v':Value}{w':World}
  (h':w'.ownsRow base 62 2 v' (T.length+1) (cellsT T++[.int .i64 x,v])) (hg:(w.alloc (.cells #[.int .i64 x,v] 62)).grownBy w' vl.ownBlock):OwnT w' base v' (T++[(x,p,v)]):=by
 have key:∀{v2:Value} {q:List UInt8},w.ownsRow base 5 1 v2 q.length (q.map vb)->w'.ownsRow base 5 1 v2 q.length (q.map vb):=by
  intro v2 q h2;refine owns_block h2 (fun g hg2=>?_);obtain⟨_,hl,cur,hc⟩:=row_at h2 hg2;refine(hg.block g Zm (fun e=>?_)).trans (Below.heap_alloc w _ g hl);obtain⟨_,_,cur',hc'⟩:=row_at h.row e.symm;rw[hc]at hc';simp at hc'
 refine⟨?_,fun t ht=>?_⟩
 ·rw[cellsT_snoc,List.length_append];exact h'
 ·rcases List.mem_append.1 ht with h1|h1
  ·exact key (h.each t h1)
  ·simp at h1;subst h1;exact key hr
theorem bareT_snoc(T:List TH)(x:Int)(p:List UInt8)(v:Value):bareT (T++[(x,p,v)])=bareT T++[(x,p)]:=by unfold bareT;simp
theorem by_any{m S:Nat}{f:Int->Option (List UInt8)}{B C:Int->Nat}(h:MapI Tryz.prog 3 w m S (valI f B C))(hf:InS S f)(hS:S<=4096)(hr:∀x p,f x=some p->Rd w (.slice (some ⟨B x,0,none⟩) p.length (C x)) p):
  Calls Tryz.prog 97 #[.map (some m)] w fun e w'=>∃v,e= .returned v/\OwnH w' w.heap.size v (heldL f S)/\Below w.heap.size w w':=by
 have K1:=keys_call (some m) w;have K2:=sorted_call h hS
 go_enter Tryz.func97,Tryz.ntmps97
 go_wp2_with fail
 refine K1.mono ?_
 rintro _ wq ⟨rfl,hwq⟩;rw[hwq];clear hwq wq K1
 go_wp2_with fail
 refine K2.mono ?_
 rintro _ w1 ⟨v1,rfl,O1,B1⟩;clear K2;obtain⟨i0,hi,hz0,hz1,hz2⟩:=info_parts2 info_held;obtain⟨ka,kc,rfl⟩:=owns_slice O1;obtain⟨Ks,hKs⟩:∃Ks,Ks=keysL (valI f B C) S:=⟨_,rfl⟩;have hKl:Ks.length<=4096:=by rw[hKs];exact Nat.le_trans (keysL_length _ _) hS
 have hKm:∀k,k<Ks.length->∃p,f (Ks.getD k 0)=some p:=fun k hk=>by rw[hKs]at hk ⊢;exact keys_some hk
 have hFin:Hid (Ks.map (fun x=>(x,(f x).getD []))=heldL f S):=by
  show _=_
  rw[heldL_keys f B C S,<-hKs]
 rw[<-hKs]at O1 ⊢;clear hKs;have START:Hid (∃T,bareT T=(Ks.take 0).map (fun x=>(x,(f x).getD []))/\OwnT w1 w1.heap.size (.slice none 0 0) T/\Below w1.heap.size w1 w1):=⟨[],rfl,⟨⟨rfl,Or.inl ⟨rfl,rfl⟩⟩,fun t ht=>by cases ht⟩,Below.refl _ _⟩;go_wp2
 go_loopw [3,10] (fun vl i wr=>∃k:Nat,k<=Ks.length/\i= .int .i64 (k:Int)/\∃T,bareT T=(Ks.take k).map (fun x=>(x,(f x).getD []))/\OwnT wr w1.heap.size vl T/\Below w1.heap.size w1 wr) (fun _ i _=>Ks.length-(intOf i).toNat)
 case atStart=>exact⟨0,Nat.zero_le _,rfl,START.out⟩
 case round=>
  obtain⟨k,hk,rfl,T,hT,hO,hB⟩:=hrel;clear START;obtain⟨la,lc,rfl⟩:=owns_slice hO.row
  by_cases hlt:k<Ks.length
  ·have hlt':(k:Int)<(Ks.length:Int):=by omega
   have BW:Below w.heap.size w wr:=B1.trans (hB.mono B1.size);obtain⟨x,hx⟩:∃x,x=Ks.getD k 0:=⟨_,rfl⟩;obtain⟨p,hp⟩:=hKm k hlt;rw[<-hx]at hp;have hpx:=hf x p hp;have hwx:(Lit.int .i64 x).wf=true:=by simp[Lit.wf,IntKind.min,IntKind.max,IntKind.signed,IntKind.bits];omega
   obtain⟨kg,kc',e1,_,OK⟩:=owns_formD (owns_after O1 hB) (by omega:Ks.length≠0);obtain⟨rfl,rfl⟩:ka=some ⟨kg,0,none⟩/\kc=kc':=by simpa using e1
   have ck:wr.cell? ⟨kg,k,none⟩=some (.int .i64 x):=by
    have:=World.ownsRow.cellAt OK k Zo;rw[this,List.getElem?_map,List.getElem?_eq_getElem hlt,hx];simp[List.getD,hlt]
   have LK:=(h.below BW).look keyed_int under_map (zero_bytes wr) (key_int hwx);have e2:valI f B C x=some (.slice (some ⟨B x,0,none⟩) p.length (C x)):=by unfold valI;rw[hp];rfl
   rw[e2]at LK;simp only[Option.getD_some]at LK;have KC:=bclone_own ((hr x p hp).below BW) Zo;have hTl:Hid (T.length=k):=by
    have:=congrArg List.length hT;simp[bareT]at this
    show T.length=k
    omega
   have hT1:T.length+1<=5000:=by have:=hTl.out;omega
   have HT:Hid (bareT T++[(x,p)]=(Ks.take (k+1)).map (fun x=>(x,(f x).getD []))):=by
    show _=_
    rw[hT,List.take_add_one,List.getElem?_eq_getElem hlt,List.map_append];congr 1
    have:Ks[k]=x:=by rw[hx];simp[List.getD,hlt]
    simp[this,hp]
   clear e1 e2 OK O1 hx hpx hwx hp h hr hf hKm hT hS hFin B1
   go_wp2_with fail
   refine KC.mono ?_
   rintro _ w2 ⟨v2,rfl,R2,B2⟩;have hB2:Below w1.heap.size w1 w2:=hB.trans (B2.mono hB.size);have hO2:=hO.after B2;have R2':=owns_low R2 hB.size;have hsz:w1.heap.size<=(w2.alloc (.cells #[.int .i64 x,v2] 62)).heap.size:=by simp;exact Nat.le_trans hB2.size Zo
   have hO3:=owns_after hO2.row ((Below.refl _ w2).alloc (Nat.le_refl _) (.cells #[.int .i64 x,v2] 62));obtain⟨va,vc,rfl⟩:=owns_slice R2;clear KC ck LK hO B2 R2 hB BW;have hnews:∀j u,[Value.int .i64 x,.slice va p.length vc][j]? =some u->(w2.alloc (.cells #[.int .i64 x,.slice va p.length vc] 62)).cell? ((⟨w2.heap.size,0,none⟩:Addr).add j)=some u:=by
    intro j u hj;rw[add_at,Nat.zero_add,World.cell?_alloc_new];rw[<-hj,<-Array.getElem?_toList]
   have hone:∀u∈[Value.int .i64 x,.slice va p.length vc],u.oneCell'=true:=by
    intro u hu;simp at hu
    rcases hu with rfl|rfl<;>rfl
   have h63:T.length+1<=maxLen:=Zl
   have hby:(T.length+1)*32<=140737488355328:=Zo
   go_wp2_with (at_builtin;go_loud (refine wpList_append_own_at _ rfl (.tmp 14) (.tmp 21) 59 rfl w1.heap.size 62 i0 _ 2 32 Tryz.underlying59 hi hz0 hz1 hz2 rfl Zd (.slice la T.length lc) T.length (cellsT T) rfl hO3 ⟨w2.heap.size,0,none⟩ 1 1 [.int .i64 x,.slice va p.length vc] rfl rfl hnews hone h63 hby hsz ?_);intro v' w9 hv9 hg9 _ _)
   have hO9:=OwnT.snoc hO2 R2' hv9 hg9;have E2:Hid (∃T,bareT T=(Ks.take (k+1)).map (fun x=>(x,(f x).getD []))/\OwnT w9 w1.heap.size v' T/\Below w1.heap.size w1 w9):=by
    refine⟨_,?_,hO9,?_⟩
    ·rw[bareT_snoc];exact HT.out
    ·exact(hB2.alloc hB2.size _).grown hg9 (by simp;exact Nat.le_trans hB2.size Zo) (fun q hq=>(row_at hO2.row hq).1)
   clear hO9 hv9 hg9 hnews hone hO3 R2' hO2 hB2 HT hi hz0 hz1 hz2;go_wp2;go_roundw
   case rel=>exact⟨k+1,Zo,Zg,E2.out⟩
   case measure=>simp[intOf];omega
  ·have hlt':¬(k:Int)<(Ks.length:Int):=by omega
   have hk':k=Ks.length:=Zo
   rw[hk',List.take_length,hFin.out]at hT;have FIN:Hid (OwnH wr w.heap.size (.slice la T.length lc) (heldL f S)/\Below w.heap.size w wr):=⟨⟨T,hT,owns_low hO.row B1.size,fun t ht=>owns_low (hO.each t ht) B1.size⟩,B1.trans (hB.mono B1.size)⟩;clear hT hO hB hFin hKm hKl O1 B1 h hr hf hk';go_wp2;go_ret;exact⟨_,rfl,FIN.out⟩
theorem dlasts_any{db:Nat}{G:Nat->Prop}{d:DkS}(h:DiskAt w db G d):Calls Tryz.prog 64 #[.pointer (some ⟨db,0,none⟩)] w fun e w'=>∃v,e= .returned v/\OwnH w' w.heap.size v (heldL d.last d.s)/\Below w.heap.size w w':=by
 obtain⟨mb,B,C,hM,_,_⟩:=h;have c2:=hM.c2;have c3:=hM.c3;have K:=by_any (hM.mp false) (hM.ins false) hM.s2 (fun x p hp=>Rd.owned (hM.row false x p hp));clear hM
 go_enter Tryz.func64,Tryz.ntmps64
 go_wp2_with fail
 refine K.mono ?_
 rintro _ wq ⟨v,rfl,h1,h2⟩;have F:Hid (OwnH wq w.heap.size v (heldL d.last d.s)/\Below w.heap.size w wq):=⟨h1,h2⟩;clear h1 h2 K;go_wp2;go_ret;exact⟨_,rfl,F.out⟩
theorem dwaits_any{db:Nat}{G:Nat->Prop}{d:DkS}(h:DiskAt w db G d):Calls Tryz.prog 63 #[.pointer (some ⟨db,0,none⟩)] w fun e w'=>∃v,e= .returned v/\OwnH w' w.heap.size v (heldL d.wait d.s)/\Below w.heap.size w w':=by
 obtain⟨mb,B,C,hM,_,_⟩:=h;have c2:=hM.c2;have c3:=hM.c3;have K:=by_any (hM.mp true) (hM.ins true) hM.s2 (fun x p hp=>Rd.owned (hM.row true x p hp));clear hM
 go_enter Tryz.func63,Tryz.ntmps63
 go_wp2_with fail
 refine K.mono ?_
 rintro _ wq ⟨v,rfl,h1,h2⟩;have F:Hid (OwnH wq w.heap.size v (heldL d.wait d.s)/\Below w.heap.size w wq):=⟨h1,h2⟩;clear h1 h2 K;go_wp2;go_ret;exact⟨_,rfl,F.out⟩
end
section
variable {w:World} {db:Nat} {G:Nat->Prop} {d:DkS}
structure Told(w:World)(G:Nat->Prop)(v:Value)(p:List UInt8):Prop where
 rd:Rd w v p
 ap:ApartG G v
theorem Told.below{v:Value}{p:List UInt8}{w':World}(h:Told w G v p)(hb:Below w.heap.size w w'):Told w' G v p:=⟨h.rd.below hb,h.ap⟩
theorem Told.grew{v:Value}{p:List UInt8}{w':World}{G':Nat->Prop}(h:Told w G v p)(g:Grew G w G' w'):Told w' G' v p:=⟨h.rd.grew h.ap g,h.ap.grew h.rd g⟩
theorem DiskAt.dead(h:DiskAt w db G d):w.cell? ⟨db,1,none⟩=some (.bool d.dead):=by
 obtain⟨mb,B,C,h1,_⟩:=h;exact h1.c1
theorem belA(w:World)(o:Obj):Below w.heap.size w (w.alloc o):=(Below.refl _ _).alloc (Nat.le_refl _) _
theorem _root_.Go.RowKit.Below.step12{w w1 w2:World}{B:Nat}(h:Below B w w1)(k:Below w1.heap.size w1 w2)(hB:B<=w1.heap.size):Below B w w2:=h.trans (k.mono hB)
end
end Go.Proofs.YtddnfhfangfgeaaGreat.Gf
