/- JOINED: DkCE, DkNew, DkTol, DkLay, DkKeys, DkBy, DkSame, DkLawM, DkLook. -/
import Derived.Test.YtclieefpnbdbjaaGreatPome7
import Derived.Shelf.SlIterI.Nil
import Derived.Shelf.SortM.Plain
import Derived.Shelf.SortM.SortNone
import Derived.Ground.GgzProg
import Derived.Ground.SlgmProg
set_option maxHeartbeats 1000000
set_option maxRecDepth 100000
namespace Go.Proofs.YtclieefpnbdbjaaGreat.Gf
set_option linter.unusedVariables false
set_option linter.unusedSimpArgs false
open Go.RowKit
section
variable {w:World} {db:Nat} {G:Nat->Prop} {d:DkS} {mb:Bool->Nat} {B C:Bool->Int->Nat}
theorem owns_set{base e g c j:Nat}{p:List UInt8}(h:w.ownsRow base e 1 (.slice (some ⟨g,0,none⟩) p.length c) p.length (p.map vb))(y:UInt8):
  (w.setCell ⟨g,j,none⟩ (vb y)).ownsRow base e 1 (.slice (some ⟨g,0,none⟩) (p.set j y).length c) (p.set j y).length ((p.set j y).map vb):=by
 have e1:=(World.ownsRow.stored h j (vb y)).1;rw[List.map_set,List.length_set];exact e1
theorem DkIn.change(h:DkIn w db mb B C G d){q:Bool}{a:Int}{p:List UInt8}(hp:sideD d q a=some p)(j:Nat)(y:UInt8)(hd:d.dead=false):
  DkIn (w.setCell ⟨B q a,j,none⟩ (vb y)) db mb B C G (setD d q (putB (sideD d q) a (p.set j y))):=by
 obtain⟨hM,hi,ho⟩:=h;have hb:∀k,k≠B q a->(w.setCell ⟨B q a,j,none⟩ (vb y)).heap[k]? =w.heap[k]? :=fun k hk=>Below.heap_setCell w ⟨B q a,j,none⟩ _ k hk
 have hdb:=hb db (hM.row_db hp).symm;have hv:∀r x,valI (sideD (setD d q (putB (sideD d q) a (p.set j y))) r) (B r) (C r) x=valI (sideD d r) (B r) (C r) x:=by
  intro r x
  by_cases e:r=q
  ·subst e;rw[side_set];unfold valI putB
   by_cases ex:x=a
   ·subst ex;rw[if_pos rfl,hp];simp
   ·rw[if_neg ex]
  ·rw[side_other d e]
 have key:∀r x p1,sideD (setD d q (putB (sideD d q) a (p.set j y))) r x=some p1->(r=q/\x=a/\p1=p.set j y)∨(¬(r=q/\x=a)/\sideD d r x=some p1):=by
  intro r x p1 h1
  by_cases e:r=q
  ·subst e;rw[side_set]at h1;unfold putB at h1
   by_cases ex:x=a
   ·rw[if_pos ex]at h1;cases h1;exact Or.inl ⟨rfl,ex,rfl⟩
   ·rw[if_neg ex]at h1;exact Or.inr ⟨fun h=>ex h.2,h1⟩
  ·rw[side_other d e]at h1;exact Or.inr ⟨fun h=>e h.1,h1⟩
 have hins:∀r,InS d.s (sideD (setD d q (putB (sideD d q) a (p.set j y))) r):=by
  intro r
  by_cases e:r=q
  ·subst e;rw[side_set];have h1:=hM.ins r a p hp;exact(hM.ins r).put h1.1 h1.2.1 (by rw[List.length_set];exact h1.2.2.1) (by rw[List.length_set];exact h1.2.2.2)
  ·rw[side_other d e];exact hM.ins r
 refine⟨⟨?_,?_,?_,?_,?_,fun r=>?_,fun r x p1 h1=>?_,hM.gd,hM.gm,fun r x p1 h1=>?_,fun k hk=>by simpa using hM.lt k hk,hM.lw,fun r=>?_,?_,?_⟩,?_,?_⟩
 ·rw[setD_s];exact(Zc (w:=w) hdb).trans hM.c0
 ·rw[setD_dead];exact(Zc (w:=w) hdb).trans hM.c1
 ·exact(Zc (w:=w) hdb).trans hM.c2
 ·exact(Zc (w:=w) hdb).trans hM.c3
 ·exact(World.frozen?_of_block (w:=w) hdb).trans hM.fz
 ·rw[setD_s];exact((hM.mp r).of_block (hb _ (hM.row_ne hp r).symm)).congr fun x=>(hv r x).symm
 ·rcases key r x p1 h1 with⟨rfl,rfl,rfl⟩|⟨h2,h3⟩
  ·exact owns_set (hM.row r x p hp) y
  ·exact owns_block (hM.row r x p1 h3) (fun g hg=>by
    cases hg;exact hb _ (fun e=>h2 (hi _ _ _ _ _ _ h3 hp e)))
 ·rcases key r x p1 h1 with⟨rfl,rfl,rfl⟩|⟨h2,h3⟩
  ·exact hM.gb r x p hp
  ·exact hM.gb r x p1 h3
 ·rw[setD_s];exact hins r
 ·rw[setD_s];exact hM.s1
 ·rw[setD_s];exact hM.s2
 ·intro r x p1 r' x' p2 h1 h2 hB;have k1:∃p',sideD d r x=some p':=by
   rcases key r x p1 h1 with⟨rfl,rfl,_⟩|⟨_,h3⟩
   ·exact⟨p,hp⟩
   ·exact⟨p1,h3⟩
  have k2:∃p',sideD d r' x'=some p':=by
   rcases key r' x' p2 h2 with⟨rfl,rfl,_⟩|⟨_,h3⟩
   ·exact⟨p,hp⟩
   ·exact⟨p2,h3⟩
  obtain⟨p1',k1⟩:=k1;obtain⟨p2',k2⟩:=k2;exact hi _ _ _ _ _ _ k1 k2 hB
 ·refine Ok.of_sides (by rw[setD_s];exact hM.s1) (by rw[setD_s];exact hM.s2) (fun r=>by rw[setD_s];exact hins r) (fun h=>?_);rw[setD_dead,hd]at h;cases h
theorem newV_side(h:DkM w db mb B C G d)(a:Int):(newV d B C a= .slice none 0 0/\atD d a=none)∨∃q p,newV d B C a= .slice (some ⟨B q a,0,none⟩) p.length (C q a)/\sideD d q a=some p/\atD d a=some p/\∀at_ y,faX d a=0->coS d a at_ y=setD d q (putB (sideD d q) a (chB p at_ y)):=by
 unfold newV atD valI;cases hw:d.wait a with
 |some p=>exact Or.inr ⟨true,p,rfl,hw,rfl,fun at_ y hf=>by unfold coS;rw[if_pos hf,hw];rfl⟩
 |none=>
  cases hl:d.last a with
  |none=>exact Or.inl ⟨rfl,rfl⟩
  |some p=>exact Or.inr ⟨false,p,rfl,hl,rfl,fun at_ y hf=>by unfold coS;rw[if_pos hf,hw,hl];rfl⟩
theorem dcorr_any(h:DiskAt w db G d){a at_:Int}(ha:(Lit.int .i64 a).wf=true)(hat:(Lit.int .i64 at_).wf=true)(y:UInt8):
  Calls Tryz.prog 83 #[.pointer (some ⟨db,0,none⟩),.int .i64 a,.int .i64 at_,.int .u8 ((y.toNat:Nat):Int)] w (Leaves w db G (coS d a at_ y) (.int .i64 (coX d a))):=by
 obtain⟨mb,B,C,hI⟩:=h;have hM:=hI.1;have K:=@drat_any w db d a hM.c0 hM.c1;have KN:=dnew_any hM ha;have REF:∀{w':World},coS d a at_ y=d->w'=w->Hid (∃G',DiskAt w' db G' (coS d a at_ y)/\Grew G w G' w'):=fun e1 e2=>by
  show ∃G',_
  rw[e1,e2];exact⟨G,⟨mb,B,C,hI⟩,Grew.refl G w⟩
 by_cases hf:faX d a=0
 ·rw[hf]at K
  rcases newV_side hM a with⟨e1,e2⟩|⟨q,p,e1,hp,e2,e3⟩
  ·rw[e1]at KN;have eX:coX d a=1:=by unfold coX;rw[if_pos hf,if_pos e2]
   have eS:coS d a at_ y=d:=by
    unfold coS atD at*;rw[if_pos hf];cases hw:d.wait a with
    |some p=>rw[hw]at e2;cases e2
    |none=>rw[hw]at e2;simp only at e2 ⊢;rw[e2]
   have F:=REF (w':=w) eS rfl;rw[eX];clear eX eS REF hI hM e1 e2 hf hat ha
   go_enter Tryz.func83,Tryz.ntmps83
   go_wp2_with fail
   refine K.mono ?_
   rintro _ wq ⟨rfl,hwq⟩;rw[hwq];clear hwq wq K
   go_wp2_with fail
   refine KN.mono ?_
   rintro _ wq ⟨rfl,hwq⟩;rw[hwq];clear hwq wq KN;go_wp2;go_ret;exact⟨rfl,F.out⟩
  ·rw[e1]at KN;have eX:coX d a=0:=by unfold coX;rw[if_pos hf,if_neg (by rw[e2];simp)]
   have e3':=e3 at_ y hf;have hdd:=(faX_zero hf).1;have hrow:=hM.row q a p hp;have hin:=hM.ins q a p hp;obtain⟨j,hj⟩:∃j,Hid (j=atN at_ p.length):=⟨_,rfl⟩;have hjl:j<p.length:=by rw[hj.out];exact Nat.mod_lt _ Zo
   have E:chB p at_ y=p.set j (co p j^^^y):=by unfold chB;rw[hj.out]
   have I2:=hI.change hp j (co p j^^^y) hdd;rw[E]at e3';rw[<-e3']at I2;have FIN:Hid (∃G',DiskAt (w.setCell ⟨B q a,j,none⟩ (vb (co p j^^^y))) db G' (coS d a at_ y)/\Grew G w G' (w.setCell ⟨B q a,j,none⟩ (vb (co p j^^^y)))):=⟨G,⟨mb,B,C,I2⟩,Grew.of_turn (setCell_turnG (hM.gb q a p hp))⟩;have cj:w.cell? ⟨B q a,j,none⟩=some (.int .u8 (((co p j).toNat:Nat):Int)):=by
    have:=World.ownsRow.cellAt hrow j Zo;rw[this,List.getElem?_map,List.getElem?_eq_getElem hjl,co_lt hjl];rfl
   have fj:w.frozen? ⟨B q a,j,none⟩=false:=World.ownsRow.frozenAt hrow j;have X:bits .xor .u8 (((co p j).toNat:Nat):Int) ((y.toNat:Nat):Int)=(((co p j^^^y).toNat:Nat):Int):=xor_u8 _ _;have q1:((p.length:Int)==0)=false:=Zq.2 Zo;rw[eX];clear eX REF hI hM e1 e2 e3 e3' I2 E hrow
   by_cases hneg:at_<0
   ·obtain⟨M,hM⟩:∃M:Nat,at_= -((M:Int)+1):=⟨(-(at_+1)).toNat,Zo⟩;have hb:=bounds_i64 hat;have hjM:j=M%p.length:=by rw[hj.out];unfold atN;rw[if_pos hneg];congr 1;omega
    have Z1:wrap64 (at_+1)= -(M:Int):=by unfold wrap64;omega
    have Z2:wrap64 (M:Int)=(M:Int):=by unfold wrap64;omega
    have T:((M:Int)).tmod (p.length:Int)=(j:Int):=by rw[hjM];exact(Int.ofNat_tmod M p.length).symm
    clear hjM hM hb hat hj
    go_enter Tryz.func83,Tryz.ntmps83
    go_wp2_with fail
    refine K.mono ?_
    rintro _ wq ⟨rfl,hwq⟩;rw[hwq];clear hwq wq K
    go_wp2_with fail
    refine KN.mono ?_
    rintro _ wq ⟨rfl,hwq⟩;rw[hwq];clear hwq wq KN;go_wp2;go_ret;exact⟨rfl,FIN.out⟩
   ·obtain⟨M,hM⟩:∃M:Nat,at_=(M:Int):=⟨at_.toNat,Zo⟩;have hjM:j=M%p.length:=by rw[hj.out];unfold atN;rw[if_neg hneg];congr 1;omega
    subst hM;have T:((M:Int)).tmod (p.length:Int)=(j:Int):=by rw[hjM];exact(Int.ofNat_tmod M p.length).symm
    clear hjM hat hj
    go_enter Tryz.func83,Tryz.ntmps83
    go_wp2_with fail
    refine K.mono ?_
    rintro _ wq ⟨rfl,hwq⟩;rw[hwq];clear hwq wq K
    go_wp2_with fail
    refine KN.mono ?_
    rintro _ wq ⟨rfl,hwq⟩;rw[hwq];clear hwq wq KN;go_wp2;go_ret;exact⟨rfl,FIN.out⟩
 ·have eX:coX d a=faX d a:=by unfold coX;rw[if_neg hf]
  have F:=REF (w':=w) (by unfold coS;rw[if_neg hf]) rfl;rw[eX];obtain⟨x,hx⟩:∃x,x=faX d a:=⟨_,rfl⟩;rw[<-hx]at hf K ⊢;clear eX REF hI hM hx KN ha hat;have q1:(x==0)=false:=Zq.2 hf
  go_enter Tryz.func83,Tryz.ntmps83
  go_wp2_with fail
  refine K.mono ?_
  rintro _ wq ⟨rfl,hwq⟩;rw[hwq];clear hwq wq K;go_wp2;go_ret;exact⟨rfl,F.out⟩
end
theorem new_at(w:World){n:Int}(h1:1<=n)(h2:n<=4096)(t:TypeId):
  DiskAt (((w.alloc (.map #[] 0)).alloc (.map #[] 0)).alloc (.cells #[.int .i64 n,.bool false,.map (some w.heap.size),.map (some (w.heap.size+1))] t)) (w.heap.size+1+1) (fun k=>w.heap.size<=k/\k<w.heap.size+3) (newD n.toNat):=by
 have hn:((n.toNat:Nat):Int)=n:=Zo
 obtain⟨w1,hw1⟩:∃w1,w1=w.alloc (.map #[] 0):=⟨_,rfl⟩;obtain⟨w2,hw2⟩:∃w2,w2=w1.alloc (.map #[] 0):=⟨_,rfl⟩;have s1:w1.heap.size=w.heap.size+1:=by rw[hw1];simp
 have s2:w2.heap.size=w.heap.size+1+1:=by rw[hw2];simp[s1]
 have m1:MapI Tryz.prog 3 w1 w.heap.size n.toNat (fun _=>none):=by rw[hw1];exact MapI.made _ _ w _
 have m2:MapI Tryz.prog 3 w2 (w.heap.size+1) n.toNat (fun _=>none):=by rw[hw2,<-s1];exact MapI.made _ _ w1 _
 have b1:Below w1.heap.size w1 w2:=by rw[hw2];exact Zf.alloc Zr _
 have m1':=m1.below b1;rw[<-hw1,<-hw2,<-s2];obtain⟨w3,hw3⟩:∃w3,w3=w2.alloc (.cells #[.int .i64 n,.bool false,.map (some w.heap.size),.map (some (w.heap.size+1))] t):=⟨_,rfl⟩;have b2:Below w2.heap.size w2 w3:=by rw[hw3];exact Zf.alloc Zr _
 have m1'':=m1'.below b2;have m2':=m2.below b2;have s3:w3.heap.size=w.heap.size+3:=by rw[hw3];simp[s2]
 have cc:∀i,w3.cell? ⟨w2.heap.size,i,none⟩=(#[Value.int .i64 n,.bool false,.map (some w.heap.size),.map (some (w.heap.size+1))])[i]? :=fun i=>by rw[hw3];exact World.cell?_alloc_new _ _ _ _
 rw[<-hw3];refine⟨fun q=>if q=true then w.heap.size+1 else w.heap.size,fun _ _=>0,fun _ _=>0,⟨?_,?_,?_,?_,?_,fun q=>?_,fun q x p hp=>?_,⟨Zo,Zo⟩,fun q=>?_,fun q x p hp=>?_,fun k hk=>by rw[s3];exact hk.2,?_,fun q=>?_,?_,?_⟩,?_,newD_ok Zo Zo⟩
 ·rw[cc];show some (Value.int .i64 n)=_;rw[show(newD n.toNat).s=n.toNat from rfl,hn]
 ·rw[cc];rfl
 ·rw[cc];rfl
 ·rw[cc];rfl
 ·rw[hw3];simp[go_sem]
 ·cases q
  ·exact m1''
  ·exact m2'
 ·cases q<;>cases hp
 ·cases q
  ·exact⟨Zr,by show w.heap.size<_;omega⟩
  ·exact⟨by show _<=w.heap.size+1;omega,by show w.heap.size+1<_;omega⟩
 ·cases q<;>cases hp
 ·show w.heap.size≠w.heap.size+1
  omega
 ·cases q<;>exact InS.none _
 ·show 1<=n.toNat
  omega
 ·show n.toNat<=4096
  omega
 ·intro q x p r y p' h1;cases q<;>cases h1
def NewsD(w:World)(n:Int)(e:Ending)(w':World):Prop:=∃db G,e= .returned (.tuple #[.pointer (some ⟨db,0,none⟩),.int .i64 0])/\DiskAt w' db G (newD n.toNat)/\(∀k,G k->w.heap.size<=k)/\Below w.heap.size w w'
theorem dmake_any{w:World}{n:Int}(h1:1<=n)(h2:n<=4096):Calls Tryz.prog 33 #[.int .i64 n] w (NewsD w n):=by
 have g1:¬n<1:=Zo
 have g2:¬n>4096:=Zo
 have MK:∀w:World,(Instr.makeMap 152 none).run Tryz.prog w= .ok (.map (some w.heap.size)) (w.alloc (.map #[] 0)):=fun w=>Zk
 go_enter Tryz.func33,Tryz.ntmps33
 go_wp2;refine bodyPost_ret (v:=.tuple #[.pointer (some ⟨w.heap.size+1+1,0,none⟩),.int .i64 0]) (by simp[results,Tryz.results33,go_sem]) rfl ?_
 refine⟨_,_,rfl,new_at w h1 h2 _,fun k hk=>hk.1,?_⟩;exact((Zf.alloc Zr _).alloc Zs _).alloc Zm _
section
variable {w:World} {db:Nat} {G:Nat->Prop} {d:DkS}
structure Told(w:World)(G:Nat->Prop)(v:Value)(p:List UInt8):Prop where
 rd:Rd w v p
 ap:ApartG G v
theorem Told.below{v:Value}{p:List UInt8}{w':World}(h:Told w G v p)(hb:Below w.heap.size w w'):Told w' G v p:=⟨h.rd.below hb,h.ap⟩
theorem DiskAt.dead(h:DiskAt w db G d):w.cell? ⟨db,1,none⟩=some (.bool d.dead):=by
 obtain⟨mb,B,C,h1,_⟩:=h;exact h1.c1
theorem belA(w:World)(o:Obj):Below w.heap.size w (w.alloc o):=Zf.alloc Zr _
theorem _root_.Go.RowKit.Below.step12{w w1 w2:World}{B:Nat}(h:Below B w w1)(k:Below w1.heap.size w1 w2)(hB:B<=w1.heap.size):Below B w w2:=h.trans (k.mono hB)
end
open Go.RowKit Go.Maps Go.Sort Go.Shelf
def laykeysA_ren:Go.Shelf.Ren:=⟨fun|7=>180|10=>197|n=>n,fun|23=>152|26=>3|3=>42|28=>234|0=>0|27=>233|33=>128|4=>4|n=>n,fun|n=>n⟩
theorem laykeysA:Go.Proofs.SlLaysZI.n7 Tryz.prog laykeysA_ren where
 mixed:=Zk
 f7:=⟨ "maps.Keys[map[int][]byte,int,[]byte]",Zd,Tryz.func180.trans (congrArg some Zk)⟩
 f10:=⟨ "maps.Keys[map[int][]byte,int,[]byte]$1",Zd,Tryz.func197.trans (congrArg some Zk)⟩
 t0:=Tryz.underlying0
 a0:=Tryz.isAgg0
 z0:=Tryz.sizeOf0
 v0:=Tryz.zeroValue0
 t4:=Tryz.underlying4
 a4:=Tryz.isAgg4
 z4:=Tryz.sizeOf4
 v4:=Tryz.zeroValue4
 t23:=Tryz.underlying152
 a23:=Tryz.isAgg152
 z23:=Tryz.sizeOf152
 v23:=Tryz.zeroValue152
 t26:=Tryz.underlying3
 a26:=Tryz.isAgg3
 z26:=Tryz.sizeOf3
 v26:=Tryz.zeroValue3
 t27:=Tryz.underlying233
 a27:=Tryz.isAgg233
 z27:=Tryz.sizeOf233
 v27:=Tryz.zeroValue233
 t28:=Tryz.underlying234
 a28:=Tryz.isAgg234
 z28:=Tryz.sizeOf234
 v28:=Tryz.zeroValue234
 t33:=Tryz.underlying128
 a33:=Tryz.isAgg128
 z33:=Tryz.sizeOf128
 v33:=Tryz.zeroValue128
def laysortedA_ren:Go.Shelf.Ren:=⟨fun|6=>179|8=>195|9=>196|11=>201|13=>203|12=>202|23=>213|24=>214|14=>204|15=>205|16=>206|17=>207|18=>208|19=>209|20=>210|21=>211|22=>212|25=>215|26=>216|27=>217|28=>218|29=>219|30=>189|31=>220|n=>n,fun|26=>3|28=>234|24=>35|0=>0|3=>3|37=>203|48=>191|50=>261|4=>4|40=>253|39=>252|45=>257|5=>5|9=>9|51=>262|55=>266|57=>268|58=>269|33=>128|n=>n,fun|n=>n⟩
theorem laysortedA:Go.Proofs.SlLaysZI.n6 Tryz.prog laysortedA_ren where
 mixed:=Zk
 f6:=⟨ "slices.Sorted[int]",Zd,Tryz.func179.trans (congrArg some Zk)⟩
 f8:=⟨ "slices.Collect[int]",Zd,Tryz.func195.trans (congrArg some Zk)⟩
 f11:=⟨ "slices.AppendSeq[[]int,int]",Zd,Tryz.func201.trans (congrArg some Zk)⟩
 t0:=Tryz.underlying0
 a0:=Tryz.isAgg0
 z0:=Tryz.sizeOf0
 v0:=Tryz.zeroValue0
 t24:=Tryz.underlying35
 a24:=Tryz.isAgg35
 z24:=Tryz.sizeOf35
 v24:=Tryz.zeroValue35
 t26:=Tryz.underlying3
 a26:=Tryz.isAgg3
 z26:=Tryz.sizeOf3
 v26:=Tryz.zeroValue3
 t28:=Tryz.underlying234
 a28:=Tryz.isAgg234
 z28:=Tryz.sizeOf234
 v28:=Tryz.zeroValue234
 i26:=Zk
def laysortA_ren:Go.Shelf.Ren:=⟨fun|5=>196|8=>203|7=>202|19=>213|20=>214|10=>204|11=>205|12=>206|13=>207|14=>208|15=>209|16=>210|17=>211|18=>212|30=>215|31=>216|32=>217|33=>218|34=>219|35=>189|40=>220|n=>n,fun|23=>35|25=>3|3=>3|32=>203|22=>35|0=>0|44=>191|46=>261|4=>4|36=>253|35=>252|41=>257|5=>5|9=>9|53=>262|57=>266|63=>268|64=>269|n=>n,fun|n=>n⟩
theorem laysortA:Go.Proofs.SlLaysM.n5 Tryz.prog laysortA_ren where
 mixed:=Zk
 f5:=⟨ "slices.Sort[[]int,int]",Zd,Tryz.func196.trans (congrArg some Zk)⟩
 f7:=⟨ "slices.pdqsortOrdered[int]",Zd,Tryz.func202.trans (congrArg some Zk)⟩
 f8:=Tryz.func203.trans (congrArg some Zk)
 f10:=⟨ "slices.insertionSortOrdered[int]",Zd,Tryz.func204.trans (congrArg some Zk)⟩
 f11:=⟨ "slices.heapSortOrdered[int]",Zd,Tryz.func205.trans (congrArg some Zk)⟩
 f12:=⟨ "slices.breakPatternsOrdered[int]",Zd,Tryz.func206.trans (congrArg some Zk)⟩
 f13:=⟨ "slices.choosePivotOrdered[int]",Zd,Tryz.func207.trans (congrArg some Zk)⟩
 f14:=⟨ "slices.reverseRangeOrdered[int]",Zd,Tryz.func208.trans (congrArg some Zk)⟩
 f15:=⟨ "slices.partialInsertionSortOrdered[int]",Zd,Tryz.func209.trans (congrArg some Zk)⟩
 f16:=⟨ "cmp.Less[int]",Zd,Tryz.func210.trans (congrArg some Zk)⟩
 f17:=⟨ "slices.partitionEqualOrdered[int]",Zd,Tryz.func211.trans (congrArg some Zk)⟩
 f18:=⟨ "slices.partitionOrdered[int]",Zd,Tryz.func212.trans (congrArg some Zk)⟩
 f19:=Tryz.func213.trans (congrArg some Zk)
 f20:=Tryz.func214.trans (congrArg some Zk)
 f30:=⟨ "slices.siftDownOrdered[int]",Zd,Tryz.func215.trans (congrArg some Zk)⟩
 f31:=Tryz.func216.trans (congrArg some Zk)
 f32:=Tryz.func217.trans (congrArg some Zk)
 f33:=⟨ "slices.medianAdjacentOrdered[int]",Zd,Tryz.func218.trans (congrArg some Zk)⟩
 f34:=⟨ "slices.medianOrdered[int]",Zd,Tryz.func219.trans (congrArg some Zk)⟩
 f35:=⟨ "cmp.isNaN[int]",Zd,Tryz.func189.trans (congrArg some Zk)⟩
 f40:=⟨ "slices.order2Ordered[int]",Zd,Tryz.func220.trans (congrArg some Zk)⟩
 t0:=Tryz.underlying0
 a0:=Tryz.isAgg0
 z0:=Tryz.sizeOf0
 v0:=Tryz.zeroValue0
 t3:=Tryz.underlying3
 a3:=Tryz.isAgg3
 z3:=Tryz.sizeOf3
 v3:=Tryz.zeroValue3
 t4:=Tryz.underlying4
 a4:=Tryz.isAgg4
 z4:=Tryz.sizeOf4
 v4:=Tryz.zeroValue4
 t5:=Tryz.underlying5
 a5:=Tryz.isAgg5
 z5:=Tryz.sizeOf5
 v5:=Tryz.zeroValue5
 t9:=Tryz.underlying9
 a9:=Tryz.isAgg9
 z9:=Tryz.sizeOf9
 v9:=Tryz.zeroValue9
 t22:=Tryz.underlying35
 a22:=Tryz.isAgg35
 z22:=Tryz.sizeOf35
 v22:=Tryz.zeroValue35
 t23:=Tryz.underlying35
 a23:=Tryz.isAgg35
 z23:=Tryz.sizeOf35
 v23:=Tryz.zeroValue35
 t25:=Tryz.underlying3
 a25:=Tryz.isAgg3
 z25:=Tryz.sizeOf3
 v25:=Tryz.zeroValue3
 t32:=Tryz.underlying203
 a32:=Tryz.isAgg203
 z32:=Tryz.sizeOf203
 v32:=Tryz.zeroValue203
 t35:=Tryz.underlying252
 a35:=Tryz.isAgg252
 z35:=Tryz.sizeOf252
 v35:=Tryz.zeroValue252
 t36:=Tryz.underlying253
 a36:=Tryz.isAgg253
 z36:=Tryz.sizeOf253
 v36:=Tryz.zeroValue253
 t41:=Tryz.underlying257
 a41:=Tryz.isAgg257
 z41:=Tryz.sizeOf257
 v41:=Tryz.zeroValue257
 t44:=Tryz.underlying191
 a44:=Tryz.isAgg191
 z44:=Tryz.sizeOf191
 v44:=Tryz.zeroValue191
 t46:=Tryz.underlying261
 a46:=Tryz.isAgg261
 z46:=Tryz.sizeOf261
 v46:=Tryz.zeroValue261
 t53:=Tryz.underlying262
 a53:=Tryz.isAgg262
 z53:=Tryz.sizeOf262
 v53:=Tryz.zeroValue262
 t57:=Tryz.underlying266
 a57:=Tryz.isAgg266
 z57:=Tryz.sizeOf266
 v57:=Tryz.zeroValue266
 t63:=Tryz.underlying268
 a63:=Tryz.isAgg268
 z63:=Tryz.sizeOf268
 v63:=Tryz.zeroValue268
 t64:=Tryz.underlying269
 a64:=Tryz.isAgg269
 z64:=Tryz.sizeOf269
 v64:=Tryz.zeroValue269
def keysL(f:Int->Option Value)(S:Nat):List Int:=((List.range S).map fun i:Nat=>(i:Int)).filter fun x=>(f x).isSome
theorem keysL_mem{f:Int->Option Value}{S:Nat}{x:Int}:x∈keysL f S↔0<=x/\x<(S:Int)/\(f x).isSome=true:=by
 unfold keysL;rw[List.mem_filter,List.mem_map];constructor
 ·rintro⟨⟨i,hi,rfl⟩,h⟩;rw[List.mem_range]at hi;exact⟨Zo,Zo,h⟩
 ·rintro⟨h0,h1,h2⟩;exact⟨⟨x.toNat,List.mem_range.2 Zo,Zo⟩,h2⟩
theorem keysL_rising(f:Int->Option Value)(S:Nat):(keysL f S).Pairwise (·<·):=by
 unfold keysL;refine List.Pairwise.filter _ ?_
 rw[List.pairwise_map];exact List.pairwise_lt_range.imp (fun h=>Zo)
theorem keysL_nodup(f:Int->Option Value)(S:Nat):(keysL f S).Nodup:=(keysL_rising f S).imp (fun h=>Zo)
theorem keysL_length(f:Int->Option Value)(S:Nat):(keysL f S).length<=S:=by
 unfold keysL;have:=List.length_filter_le (fun x=>(f x).isSome) ((List.range S).map fun i:Nat=>(i:Int));simpa using this
theorem sorted_keys{f:Int->Option Value}{S:Nat}{ss:List Int}(h:ss.Perm (keysL f S)):ss.mergeSort (fun x y=>decide (x<=y))=keysL f S:=by
 have tr:∀a b c:Int,decide (a<=b)=true->decide (b<=c)=true->decide (a<=c)=true:=fun a b c h1 h2=>by simp only[decide_eq_true_eq]at*;omega
 have tO:∀a b:Int,(decide (a<=b)||decide (b<=a))=true:=fun a b=>by simp only[Bool.or_eq_true,decide_eq_true_eq];omega
 refine List.Perm.eq_of_pairwise (le:=fun a b=>decide (a<=b)=true) (fun a b _ _ h1 h2=>?_) (List.pairwise_mergeSort tr tO ss) ((keysL_rising f S).imp (fun h=>Zy Zo)) ((List.mergeSort_perm ss _).trans h);simp only[decide_eq_true_eq]at h1 h2;omega
theorem sortsA(m:Nat):AnyZI.SortsIn Tryz.prog laysortedA_ren Fence.wide m:=
 ⟨fun blk off cap ss W hH hblk hsz=>callsIn_wide.2 (AnyM.slices_Sort_int laysortA blk off cap ss W hH hblk hsz),
  fun p cap W=>callsIn_wide.2 (AnyM.slices_Sort_int_none laysortA p cap W)⟩
theorem keys_call(mb:Option Nat)(W:World):Calls Tryz.prog 180 #[.map mb] W fun e w'=>e= .returned (.func (.func 197) #[] #[.pointer (some ⟨W.heap.size,0,none⟩)])/\w'=W.alloc (.cells #[.map mb] 152):=
 (callsIn_wide (n:=5)).1 (AnyZI.keys_in laykeysA Fence.wide 5 trivial rfl mb W)
theorem sorted_call{w:World}{b S:Nat}{f:Int->Option Value}(h:MapI Tryz.prog 3 w b S f)(hS:S<=4096):
  Calls Tryz.prog 179 #[.func (.func 197) #[] #[.pointer (some ⟨w.heap.size,0,none⟩)]] (w.alloc (.cells #[.map (some b)] 152)) fun e w'=>∃v,e= .returned v/\w'.ownsRow w.heap.size 3 1 v (keysL f S).length ((keysL f S).map encZ)/\Below w.heap.size w w':=by
 have hbl:=h.lt;obtain⟨D0,hown,hk,hf⟩:=h;obtain⟨es,hE,hp,hl⟩:=hown.entries keyed_int;have hkI:∀p∈es,∃x,p.1= .int .i64 x:=by
  intro p hp1;obtain⟨x,e,_⟩:=hk p.1 (by
   rw[hE,Maps.has_eq,List.any_eq_true];exact⟨p,hp1,WideAt.sameKey_self (hl p hp1)⟩)
  exact⟨x,e⟩
 have hperm:(keysL f S).Perm (intKeys D0):=by
  rw[hE];refine perm_intKeys hp hkI (keysL_nodup f S) fun x=>?_
  rw[<-hE,keysL_mem]
  rcases hf x with⟨h1,h2⟩|⟨v,h1,h2,_⟩
  ·rw[h1,h2];simp
  ·rw[h2,h1];obtain⟨y,e,hy⟩:=hk _ h2;simp at e;subst e;simp[hy]
 have hsz:Maps.size D0<=4096:=Nat.le_trans (by
  obtain⟨es',clock,hb,F,hs,rfl⟩:=hown;simp[Maps.size,length_sorted];exact hs) hS
 have hseq:SeqGives Fence.wide 2 Tryz.prog 197 #[.pointer (some ⟨w.heap.size,0,none⟩)] encZ (fun ss=>ss.Perm (intKeys D0)) (Maps.size D0) (w.alloc (.cells #[.map (some b)] 152)):=
  AnyZI.keys_gives (ρ:=laykeysA_ren) {laykeysA with} Fence.wide _ trivial rfl Zo w.heap.size b S D0 _ Zs Zs (by
   obtain⟨es,clock,hb,Ft,hs,hD⟩:=hown;exact⟨es,clock,(Below.heap_alloc _ _ b hbl).trans hb,Ft,hs,hD⟩)
 have cS:=AnyZI.sorted_in laysortedA Fence.wide 5 trivial trivial trivial trivial rfl Zo (sortsA _) (enters_of Tryz.func196 Zk rfl) 197 #[.pointer (some ⟨w.heap.size,0,none⟩)] trivial (enters_of Tryz.func197 Zk rfl) _ _ Zl Zo _ hseq;refine(Calls.mono ((callsIn_wide (n:=5)).1 cS) ?_);rintro e w' ⟨v,ss,rfl,hS,hrow,hnil,hb⟩;refine⟨v,rfl,?_,((Below.refl _ w).alloc Zr _).trans (hb.mono Zs)⟩;have hp2:=hS.trans hperm.symm;have e1:=sorted_keys hp2;rw[e1,hp2.length_eq]at hrow;exact ownsRow_base hrow Zs
end Go.Proofs.YtclieefpnbdbjaaGreat.Gf
namespace Go.Proofs.YtclieefpnbdbjaaGreat.Gf
set_option linter.unusedVariables false
set_option linter.unusedSimpArgs false
open Go.RowKit
abbrev TH:=Int×List UInt8×Value
def cellsT(T:List TH):List Value:=T.flatMap fun t=>[.int .i64 t.1,t.2.2]
def bareT(T:List TH):List (Int×List UInt8):=T.map fun t=>(t.1,t.2.1)
theorem cellsT_length(T:List TH):(cellsT T).length=T.length*2:=by
 unfold cellsT
 induction T with
 |nil=>rfl
 |cons t T ih=>simp[List.flatMap_cons,ih];omega
theorem cellsT_snoc(T:List TH)(t:TH):cellsT (T++[t])=cellsT T++[.int .i64 t.1,t.2.2]:=by unfold cellsT;simp
structure OwnT(w:World)(base:Nat)(v:Value)(T:List TH):Prop where
 row:w.ownsRow base 163 2 v T.length (cellsT T)
 each:∀t∈T,w.ownsRow base 5 1 t.2.2 t.2.1.length (t.2.1.map vb)
def OwnH(w:World)(base:Nat)(v:Value)(L:List (Int×List UInt8)):Prop:=∃T,bareT T=L/\OwnT w base v T
theorem info_held:(Tryz.prog.info? 163).map (fun i=>(i.zero,i.size,i.bytes))=some (some (.agg #[.int .i64 0,.slice none 0 0]),2,32):=Zk
theorem info_parts2{t:Nat}{a:Value}{b c:Nat}(h:(Tryz.prog.info? t).map (fun i=>(i.zero,i.size,i.bytes))=some (some a,b,c)):∃i,Tryz.prog.info? t=some i/\i.zero=some a/\i.size=b/\i.bytes=c:=by
 cases hi:Tryz.prog.info? t with
 |none=>rw[hi]at h;cases h
 |some i=>rw[hi]at h;simp at h;exact⟨i,rfl,h.1,h.2.1,h.2.2⟩
theorem heldL_keys(f:Int->Option (List UInt8))(B C:Int->Nat)(S:Nat):heldL f S=(keysL (valI f B C) S).map fun x=>(x,(f x).getD []):=by
 induction S with
 |zero=>rfl
 |succ S ih=>
  rw[heldL_succ,ih];unfold keysL;rw[List.range_succ,List.map_append,List.filter_append,List.map_append];congr 1;unfold valI;cases h:f (S:Int)<;>simp[h]
theorem keys_some{f:Int->Option (List UInt8)}{B C:Int->Nat}{S k:Nat}(h:k<(keysL (valI f B C) S).length):∃p,f ((keysL (valI f B C) S).getD k 0)=some p:=by
 have h1:(keysL (valI f B C) S).getD k 0∈keysL (valI f B C) S:=by
  rw[show(keysL (valI f B C) S).getD k 0=(keysL (valI f B C) S)[k] by simp[List.getD,h]];exact List.getElem_mem h
 have h2:=(keysL_mem.1 h1).2.2;unfold valI at h2;cases hf:f ((keysL (valI f B C) S).getD k 0)with
 |none=>unfold valI at hf;rw[hf]at h2;cases h2
 |some p=>exact⟨p,rfl⟩
section
variable {w:World}
theorem row_at{base e size n:Nat}{v:Value}{xs:List Value}(h:w.ownsRow base e size v n xs){g:Nat}(hg:v.ownBlock=some g):base<=g/\g<w.heap.size/\∃cur,w.heap[g]? =some (.cells cur e (0,0)):=by
 obtain⟨h0,⟨h,_⟩|⟨g',cap,cur,hv,hg',hh,r⟩⟩:=h
 ·rw[h]at hg;cases hg
 ·rw[hv]at hg;cases hg;exact⟨hg',(Array.getElem?_eq_some_iff.1 hh).1,cur,hh⟩
theorem owns_slice{base e size n:Nat}{v:Value}{xs:List Value}(h:w.ownsRow base e size v n xs):∃a c,v= .slice a n c:=by
 obtain⟨h0,⟨h,e⟩|⟨g',cap,cur,hv,hg',hh,r⟩⟩:=h
 ·exact⟨none,0,by rw[h,e]⟩
 ·exact⟨_,_,hv⟩
theorem owns_low{base base' e size n:Nat}{v:Value}{xs:List Value}(h:w.ownsRow base e size v n xs)(hb:base'<=base):w.ownsRow base' e size v n xs:=by
 obtain⟨h0,h|⟨g,cap,cur,hv,hg,r⟩⟩:=h
 ·exact⟨h0,Or.inl h⟩
 ·exact⟨h0,Or.inr ⟨g,cap,cur,hv,Nat.le_trans hb hg,r⟩⟩
theorem owns_after{base e size n:Nat}{v:Value}{xs:List Value}{w':World}(h:w.ownsRow base e size v n xs)(hb:Below w.heap.size w w'):w'.ownsRow base e size v n xs:=
 owns_block h (fun g hg=>hb.block g (row_at h hg).2.1)
theorem OwnT.after{base:Nat}{v:Value}{T:List TH}{w':World}(h:OwnT w base v T)(hb:Below w.heap.size w w'):OwnT w' base v T:=⟨owns_after h.row hb,fun t ht=>owns_after (h.each t ht) hb⟩
theorem OwnT.snoc{base:Nat}{vl v:Value}{T:List TH}{x:Int}{p:List UInt8}(h:OwnT w base vl T)(hr:w.ownsRow base 5 1 v p.length (p.map vb)){v':Value}{w':World}
  (h':w'.ownsRow base 163 2 v' (T.length+1) (cellsT T++[.int .i64 x,v])) (hg:(w.alloc (.cells #[.int .i64 x,v] 163)).grownBy w' vl.ownBlock):OwnT w' base v' (T++[(x,p,v)]):=by
 have key:∀{v2:Value} {q:List UInt8},w.ownsRow base 5 1 v2 q.length (q.map vb)->w'.ownsRow base 5 1 v2 q.length (q.map vb):=by
  intro v2 q h2;refine owns_block h2 (fun g hg2=>?_);obtain⟨_,hl,cur,hc⟩:=row_at h2 hg2;refine(hg.block g Zm (fun e=>?_)).trans (Below.heap_alloc w _ g hl);obtain⟨_,_,cur',hc'⟩:=row_at h.row e.symm;rw[hc]at hc';simp at hc'
 refine⟨?_,fun t ht=>?_⟩
 ·rw[cellsT_snoc,List.length_append];exact h'
 ·rcases List.mem_append.1 ht with h1|h1
  ·exact key (h.each t h1)
  ·simp at h1;subst h1;exact key hr
theorem bareT_snoc(T:List TH)(x:Int)(p:List UInt8)(v:Value):bareT (T++[(x,p,v)])=bareT T++[(x,p)]:=by unfold bareT;simp
theorem by_any{m S:Nat}{f:Int->Option (List UInt8)}{B C:Int->Nat}(h:MapI Tryz.prog 3 w m S (valI f B C))(hf:InS S f)(hS:S<=4096)(hr:∀x p,f x=some p->Rd w (.slice (some ⟨B x,0,none⟩) p.length (C x)) p):
  Calls Tryz.prog 150 #[.map (some m)] w fun e w'=>∃v,e= .returned v/\OwnH w' w.heap.size v (heldL f S)/\Below w.heap.size w w':=by
 have K1:=keys_call (some m) w;have K2:=sorted_call h hS
 go_enter Tryz.func150,Tryz.ntmps150
 go_wp2_with fail
 refine K1.mono ?_
 rintro _ wq ⟨rfl,hwq⟩;rw[hwq];clear hwq wq K1
 go_wp2_with fail
 refine K2.mono ?_
 rintro _ w1 ⟨v1,rfl,O1,B1⟩;clear K2;obtain⟨i0,hi,hz0,hz1,hz2⟩:=info_parts2 info_held;obtain⟨ka,kc,rfl⟩:=owns_slice O1;obtain⟨Ks,hKs⟩:∃Ks,Ks=keysL (valI f B C) S:=⟨_,rfl⟩;have hKl:Ks.length<=4096:=by rw[hKs];exact Nat.le_trans (keysL_length _ _) hS
 have hKm:∀k,k<Ks.length->∃p,f (Ks.getD k 0)=some p:=fun k hk=>by rw[hKs]at hk ⊢;exact keys_some hk
 have hFin:Hid (Ks.map (fun x=>(x,(f x).getD []))=heldL f S):=by
  show _=_
  rw[heldL_keys f B C S,<-hKs]
 rw[<-hKs]at O1 ⊢;clear hKs;have START:Hid (∃T,bareT T=(Ks.take 0).map (fun x=>(x,(f x).getD []))/\OwnT w1 w1.heap.size (.slice none 0 0) T/\Below w1.heap.size w1 w1):=⟨[],rfl,⟨⟨rfl,Or.inl ⟨rfl,rfl⟩⟩,fun t ht=>by cases ht⟩,Zf⟩;go_wp2
 go_loopw [3,10] (fun vl i wr=>∃k:Nat,k<=Ks.length/\i= .int .i64 (k:Int)/\∃T,bareT T=(Ks.take k).map (fun x=>(x,(f x).getD []))/\OwnT wr w1.heap.size vl T/\Below w1.heap.size w1 wr) (fun _ i _=>Ks.length-(intOf i).toNat)
 case atStart=>exact⟨0,Zz,rfl,START.out⟩
 case round=>
  obtain⟨k,hk,rfl,T,hT,hO,hB⟩:=hrel;clear START;obtain⟨la,lc,rfl⟩:=owns_slice hO.row
  by_cases hlt:k<Ks.length
  ·have hlt':(k:Int)<(Ks.length:Int):=by omega
   have BW:Below w.heap.size w wr:=B1.trans (hB.mono B1.size);obtain⟨x,hx⟩:∃x,x=Ks.getD k 0:=⟨_,rfl⟩;obtain⟨p,hp⟩:=hKm k hlt;rw[<-hx]at hp;have hpx:=hf x p hp;have hwx:(Lit.int .i64 x).wf=true:=by simp[Lit.wf,IntKind.min,IntKind.max,IntKind.signed,IntKind.bits];omega
   obtain⟨kg,kc',e1,_,OK⟩:=owns_formD (owns_after O1 hB) (by omega:Ks.length≠0);obtain⟨rfl,rfl⟩:ka=some ⟨kg,0,none⟩/\kc=kc':=by simpa using e1
   have ck:wr.cell? ⟨kg,k,none⟩=some (.int .i64 x):=by
    have:=World.ownsRow.cellAt OK k Zo;rw[this,List.getElem?_map,List.getElem?_eq_getElem hlt,hx];simp[List.getD,hlt]
   have LK:=(h.below BW).look keyed_int under_map (zero_bytes wr) (key_int hwx);have e2:valI f B C x=some (.slice (some ⟨B x,0,none⟩) p.length (C x)):=by unfold valI;rw[hp];rfl
   rw[e2]at LK;simp only[Option.getD_some]at LK;have KC:=bclone_own ((hr x p hp).below BW) Zo;have hTl:Hid (T.length=k):=by
    have:=congrArg List.length hT;simp[bareT]at this
    show T.length=k
    omega
   have hT1:T.length+1<=5000:=by have:=hTl.out;omega
   have HT:Hid (bareT T++[(x,p)]=(Ks.take (k+1)).map (fun x=>(x,(f x).getD []))):=by
    show _=_
    rw[hT,List.take_add_one,List.getElem?_eq_getElem hlt,List.map_append];congr 1
    have:Ks[k]=x:=by rw[hx];simp[List.getD,hlt]
    simp[this,hp]
   clear e1 e2 OK O1 hx hpx hwx hp h hr hf hKm hT hS hFin B1
   go_wp2_with fail
   refine KC.mono ?_
   rintro _ w2 ⟨v2,rfl,R2,B2⟩;have hB2:Below w1.heap.size w1 w2:=hB.trans (B2.mono hB.size);have hO2:=hO.after B2;have R2':=owns_low R2 hB.size;have hsz:w1.heap.size<=(w2.alloc (.cells #[.int .i64 x,v2] 163)).heap.size:=by simp;exact Nat.le_trans hB2.size Zo
   have hO3:=owns_after hO2.row ((Below.refl _ w2).alloc Zr (.cells #[.int .i64 x,v2] 163));obtain⟨va,vc,rfl⟩:=owns_slice R2;clear KC ck LK hO B2 R2 hB BW;have hnews:∀j u,[Value.int .i64 x,.slice va p.length vc][j]? =some u->(w2.alloc (.cells #[.int .i64 x,.slice va p.length vc] 163)).cell? ((⟨w2.heap.size,0,none⟩:Addr).add j)=some u:=by
    intro j u hj;rw[add_at,Nat.zero_add,World.cell?_alloc_new];rw[<-hj,<-Array.getElem?_toList]
   have hone:∀u∈[Value.int .i64 x,.slice va p.length vc],u.oneCell'=true:=by
    intro u hu;simp at hu
    rcases hu with rfl|rfl<;>rfl
   have h63:T.length+1<=maxLen:=Zl
   have hby:(T.length+1)*32<=140737488355328:=Zo
   go_wp2_with (at_builtin;go_loud (refine wpList_append_own_at _ rfl (.tmp 14) (.tmp 21) 102 rfl w1.heap.size 163 i0 _ 2 32 Tryz.underlying102 hi hz0 hz1 hz2 rfl Zd (.slice la T.length lc) T.length (cellsT T) rfl hO3 ⟨w2.heap.size,0,none⟩ 1 1 [.int .i64 x,.slice va p.length vc] rfl rfl hnews hone h63 hby hsz ?_);intro v' w9 hv9 hg9 _ _)
   have hO9:=OwnT.snoc hO2 R2' hv9 hg9;have E2:Hid (∃T,bareT T=(Ks.take (k+1)).map (fun x=>(x,(f x).getD []))/\OwnT w9 w1.heap.size v' T/\Below w1.heap.size w1 w9):=by
    refine⟨_,?_,hO9,?_⟩
    ·rw[bareT_snoc];exact HT.out
    ·exact(hB2.alloc hB2.size _).grown hg9 (by simp;exact Nat.le_trans hB2.size Zo) (fun q hq=>(row_at hO2.row hq).1)
   clear hO9 hv9 hg9 hnews hone hO3 R2' hO2 hB2 HT hi hz0 hz1 hz2;go_wp2;go_roundw
   case rel=>exact⟨k+1,Zo,Zg,E2.out⟩
   case measure=>simp[intOf];omega
  ·have hlt':¬(k:Int)<(Ks.length:Int):=by omega
   have hk':k=Ks.length:=Zo
   rw[hk',List.take_length,hFin.out]at hT;have FIN:Hid (OwnH wr w.heap.size (.slice la T.length lc) (heldL f S)/\Below w.heap.size w wr):=⟨⟨T,hT,owns_low hO.row B1.size,fun t ht=>owns_low (hO.each t ht) B1.size⟩,B1.trans (hB.mono B1.size)⟩;clear hT hO hB hFin hKm hKl O1 B1 h hr hf hk';go_wp2;go_ret;exact⟨_,rfl,FIN.out⟩
theorem dlasts_any{db:Nat}{G:Nat->Prop}{d:DkS}(h:DiskAt w db G d):Calls Tryz.prog 104 #[.pointer (some ⟨db,0,none⟩)] w fun e w'=>∃v,e= .returned v/\OwnH w' w.heap.size v (heldL d.last d.s)/\Below w.heap.size w w':=by
 obtain⟨mb,B,C,hM,_,_⟩:=h;have c2:=hM.c2;have c3:=hM.c3;have K:=by_any (hM.mp false) (hM.ins false) hM.s2 (fun x p hp=>Rd.owned (hM.row false x p hp));clear hM
 go_enter Tryz.func104,Tryz.ntmps104
 go_wp2_with fail
 refine K.mono ?_
 rintro _ wq ⟨v,rfl,h1,h2⟩;have F:Hid (OwnH wq w.heap.size v (heldL d.last d.s)/\Below w.heap.size w wq):=⟨h1,h2⟩;clear h1 h2 K;go_wp2;go_ret;exact⟨_,rfl,F.out⟩
theorem dwaits_any{db:Nat}{G:Nat->Prop}{d:DkS}(h:DiskAt w db G d):Calls Tryz.prog 105 #[.pointer (some ⟨db,0,none⟩)] w fun e w'=>∃v,e= .returned v/\OwnH w' w.heap.size v (heldL d.wait d.s)/\Below w.heap.size w w':=by
 obtain⟨mb,B,C,hM,_,_⟩:=h;have c2:=hM.c2;have c3:=hM.c3;have K:=by_any (hM.mp true) (hM.ins true) hM.s2 (fun x p hp=>Rd.owned (hM.row true x p hp));clear hM
 go_enter Tryz.func105,Tryz.ntmps105
 go_wp2_with fail
 refine K.mono ?_
 rintro _ wq ⟨v,rfl,h1,h2⟩;have F:Hid (OwnH wq w.heap.size v (heldL d.wait d.s)/\Below w.heap.size w wq):=⟨h1,h2⟩;clear h1 h2 K;go_wp2;go_ret;exact⟨_,rfl,F.out⟩
end
instance:Inhabited TH:=⟨(0,[],undef)⟩
structure HeldAt(w:World)(b off:Nat)(t:TH):Prop where
 c0:w.cell? ⟨b,off,none⟩=some (.int .i64 t.1)
 c1:w.cell? ⟨b,off+1,none⟩=some t.2.2
 rd:Rd w t.2.2 t.2.1
def RdT(w:World)(v:Value)(T:List TH):Prop:=
 (∃a c,T=[]/\v= .slice a 0 c)∨(∃b off c,T≠[]/\v= .slice (some ⟨b,off,none⟩) T.length c/\T.length<=100000/\b<w.heap.size/\∀i,i<T.length->HeldAt w b (off+i*2) (T.getD i default))
theorem RdT.below{w w':World}{v:Value}{T:List TH}(h:RdT w v T)(hb:Below w.heap.size w w'):RdT w' v T:=by
 rcases h with h|⟨b,off,c,h1,h2,h3,h4,h5⟩
 ·exact Or.inl h
 ·refine Or.inr ⟨b,off,c,h1,h2,h3,Zu h4 hb.size,fun i hi=>?_⟩;have h6:=h5 i hi;exact⟨(hb.cell (p:=⟨b,off+i*2,none⟩) h4).trans h6.c0,(hb.cell (p:=⟨b,off+i*2+1,none⟩) h4).trans h6.c1,h6.rd.below hb⟩
theorem RdT.form{w:World}{v:Value}{T:List TH}(h:RdT w v T):∃a c,v= .slice a T.length c:=by
 rcases h with⟨a,c,rfl,rfl⟩|⟨b,off,c,_,rfl,_⟩
 ·exact⟨a,c,rfl⟩
 ·exact⟨_,c,rfl⟩
theorem RdT.len{w:World}{v:Value}{T:List TH}(h:RdT w v T):T.length<=100000:=by
 rcases h with⟨a,c,rfl,rfl⟩|⟨b,off,c,_,rfl,h,_⟩
 ·exact Zz
 ·exact h
theorem RdT.at{w:World}{a:Option Addr}{c:Nat}{T:List TH}(h:RdT w (.slice a T.length c) T){k:Nat}(hk:k<T.length):∃b off,a=some ⟨b,off,none⟩/\HeldAt w b (off+k*2) (T.getD k default):=by
 rcases h with⟨_,_,h1,_⟩|⟨b,off,c,h1,h2,h3,h4,h5⟩
 ·rw[h1]at hk;simp at hk
 ·simp at h2;exact⟨b,off,h2.1,h5 k hk⟩
theorem RdT.drewN{w:World}{v:Value}{T:List TH}(h:RdT w v T)(n:Nat):RdT (w.drewN n) v T:=h.below (Zf.drewN n)
theorem cellsT_at(T:List TH){i:Nat}(hi:i<T.length):(cellsT T)[i*2]? =some (.int .i64 (T.getD i default).1)/\(cellsT T)[i*2+1]? =some (T.getD i default).2.2:=by
 induction T generalizing i with
 |nil=>simp at hi
 |cons t T ih=>
  cases i with
  |zero=>exact⟨rfl,rfl⟩
  |succ i=>
   have h:=ih (i:=i) (by simpa using hi);have e:cellsT (t::T)= .int .i64 t.1::t.2.2::cellsT T:=by unfold cellsT;simp
   rw[e,show(i+1)*2=i*2+1+1 by omega];simp only[List.getElem?_cons_succ];exact h
theorem OwnT.rd{w:World}{base:Nat}{v:Value}{T:List TH}(h:OwnT w base v T)(hl:T.length<=100000):RdT w v T:=by
 by_cases h0:T=[]
 ·subst h0;obtain⟨a,c,e⟩:=owns_slice h.row;exact Or.inl ⟨a,c,rfl,e⟩
 ·obtain⟨_,⟨_,h1⟩|⟨g,cap,cur,hv,hg,hh,hc,hm,hs,ht⟩⟩:=h.row
  ·exact absurd (List.length_eq_zero_iff.1 h1) h0
  ·refine Or.inr ⟨g,0,cap,h0,hv,hl,(Array.getElem?_eq_some_iff.1 hh).1,fun i hi=>?_⟩;have ce:∀j,j<T.length*2->w.cell? ⟨g,j,none⟩=(cellsT T)[j]? :=by
    intro j hj;rw[<-ht,List.getElem?_take_of_lt hj];unfold World.cell?;rw[hh];simp
   obtain⟨e0,e1⟩:=cellsT_at T hi;have hm:T.getD i default∈T:=by
    rw[show T.getD i default=T[i] by simp[List.getD,hi]];exact List.getElem_mem hi
   refine⟨?_,?_,Rd.owned (h.each _ hm)⟩
   ·rw[Nat.zero_add,ce _ Zo,e0]
   ·rw[Nat.zero_add,ce _ Zo,e1]
def RdH(w:World)(v:Value)(L:List (Int×List UInt8)):Prop:=∃T,bareT T=L/\RdT w v T
theorem bareT_length(T:List TH):(bareT T).length=T.length:=by simp[bareT]
structure ToldT(w:World)(G:Nat->Prop)(v:Value)(T:List TH):Prop where
 rd:RdT w v T
 ap:ApartG G v
 each:∀t∈T,ApartG G t.2.2
theorem ToldT.below{w w':World}{G:Nat->Prop}{v:Value}{T:List TH}(h:ToldT w G v T)(hb:Below w.heap.size w w'):ToldT w' G v T:=⟨h.rd.below hb,h.ap,h.each⟩
theorem getD_mem12{T:List TH}{i:Nat}(hi:i<T.length):T.getD i default∈T:=by
 rw[show T.getD i default=T[i] by simp[List.getD,hi]];exact List.getElem_mem hi
theorem ToldT.grew{w w':World}{G G':Nat->Prop}{v:Value}{T:List TH}(h:ToldT w G v T)(g:Grew G w G' w'):ToldT w' G' v T:=by
 rcases h.rd with⟨a,c,h1,h2⟩|⟨b,off,c,h1,h2,h3,h4,h5⟩
 ·refine⟨Or.inl ⟨a,c,h1,h2⟩,?_,fun t ht=>by rw[h1]at ht;cases ht⟩;rw[h2];exact ApartG.nil _ _ _
 ·have hb:¬G b:=by
   rcases h.ap _ _ _ h2 with e|e
   ·exact absurd (List.length_eq_zero_iff.1 e) h1
   ·exact e
  refine⟨Or.inr ⟨b,off,c,h1,h2,h3,Zu h4 g.turn.size,fun i hi=>?_⟩,?_,fun t ht=>?_⟩
  ·have h6:=h5 i hi;exact⟨(g.turn.cell (p:=⟨b,off+i*2,none⟩) h4 hb).trans h6.c0,(g.turn.cell (p:=⟨b,off+i*2+1,none⟩) h4 hb).trans h6.c1,h6.rd.grew (h.each _ (getD_mem12 hi)) g⟩
  ·intro x n c' e;rw[h2]at e;simp at e;obtain⟨rfl,_,_⟩:=e;exact Or.inr (g.off h4 hb)
  ·obtain⟨i,hi,e⟩:=List.getElem_of_mem ht;have h6:=(h5 i hi).rd;rw[show T.getD i default=T[i] by simp[List.getD,hi],e]at h6;exact(h.each t ht).grew h6 g
theorem bareT_eq{T U:List TH}(hl:T.length=U.length):bareT T=bareT U↔∀i,i<T.length->(T.getD i default).1=(U.getD i default).1/\(T.getD i default).2.1=(U.getD i default).2.1:=by
 constructor
 ·intro h i hi;have h1:=congrArg (fun l=>l[i]?) h;simp only[bareT,List.getElem?_map]at h1;rw[List.getElem?_eq_getElem hi,List.getElem?_eq_getElem Zo]at h1;simp at h1;simp[List.getD,hi,show i<U.length by omega,h1]
 ·intro h;refine List.ext_getElem (by simp[bareT,hl]) fun i h1 h2=>?_
  simp only[bareT_length]at h1 h2;have h3:=h i h1;simp[List.getD,h1,h2]at h3;simp[bareT,h3]
theorem same12_any{w:World}{va vb:Value}{L M:List (Int×List UInt8)}(hL:RdH w va L)(hM:RdH w vb M):Calls Tryz.prog 43 #[va,vb] w fun e w'=>e= .returned (.bool (decide (L=M)))/\∃n,w'=w.drewN n:=by
 obtain⟨T,rfl,hT⟩:=hL;obtain⟨U,rfl,hU⟩:=hM;have lt:=hT.len;have lu:=hU.len;obtain⟨aa,ca,rfl⟩:=hT.form;obtain⟨ab,cb,rfl⟩:=hU.form
 by_cases hl:T.length=U.length
 ·have q1:((T.length:Int)!=(U.length:Int))=false:=by rw[hl];simp
  have q1':((T.length:Int)==(U.length:Int))=true:=by rw[hl];simp
  obtain⟨X,hX⟩:∃X,Hid (X=decide (bareT T=bareT U)):=⟨_,rfl⟩;rw[<-hX.out];have hl':Hid (T.length=U.length):=hl;clear hl
  go_enter Tryz.func43,Tryz.ntmps43
  go_wp2
  go_loopw [5] (fun i wr=>∃k:Nat,k<=T.length/\i= .int .i64 (k:Int)/\Hid (∀j,j<k->(T.getD j default).1=(U.getD j default).1/\(T.getD j default).2.1=(U.getD j default).2.1)/\∃m,Hid (wr=w.drewN m)) (fun i _=>T.length-(intOf i).toNat)
  case atStart=>exact⟨0,Zz,rfl,fun j hj=>Zo,0,rfl⟩
  case round=>
   obtain⟨k,hk,rfl,hs,m,hd⟩:=hrel;have hT':RdT wr (.slice aa T.length ca) T:=by rw[hd.out];exact hT.drewN _
   have hU':RdT wr (.slice ab U.length cb) U:=by rw[hd.out];exact hU.drewN _
   clear hT hU
   by_cases hlt:k<T.length
   ·have hltU:k<U.length:=by have:=hl'.out;omega
    have hlt':(k:Int)<(T.length:Int):=Zo
    have hlu':(k:Int)<(U.length:Int):=Zo
    have g1:IntKind.i64.wrap ((k:Int)+1)=((k+1:Nat):Int):=Zw
    obtain⟨b,off,rfl,c0,c1,r1⟩:=hT'.at hlt;obtain⟨b',off',rfl,d0,d1,r2⟩:=hU'.at hltU;have NE:Hid (¬((T.getD k default).1=(U.getD k default).1/\(T.getD k default).2.1=(U.getD k default).2.1)->X=false):=fun h=>by
     rw[hX.out];exact Zx (fun e=>h ((bareT_eq hl'.out).1 e k hlt))
    have EQ:Hid ((T.getD k default).1=(U.getD k default).1/\(T.getD k default).2.1=(U.getD k default).2.1->∀j,j<k+1->(T.getD j default).1=(U.getD j default).1/\(T.getD j default).2.1=(U.getD j default).2.1):=fun h j hj=>by
     by_cases e2:j=k
     ·rw[e2];exact h
     ·exact hs.out j Zo
    obtain⟨t,ht⟩:∃t,t=T.getD k default:=⟨_,rfl⟩;obtain⟨u,hu⟩:∃u,u=U.getD k default:=⟨_,rfl⟩;rw[<-ht]at c0 c1 r1;rw[<-hu]at d0 d1 r2;rw[<-ht,<-hu]at NE EQ;obtain⟨t1,t2,t3⟩:=t;obtain⟨u1,u2,u3⟩:=u;simp only at c0 c1 r1 d0 d1 r2;obtain⟨ta,tc,rfl⟩:=r1.form;obtain⟨ua,uc,rfl⟩:=r2.form;clear ht hu hs hT' hU' hX
    by_cases e1:t2=u2
    ·have hn:sameB t2 u2=true:=sameB_of e1
     by_cases e2:t1=u1
     ·have E:=EQ.out ⟨e2,e1⟩;have HS:Hid (∀j,j<k+1->(T.getD j default).1=(U.getD j default).1/\(T.getD j default).2.1=(U.getD j default).2.1):=E;have z1:(t1 !=u1)=false:=by rw[e2];simp
      have z2:(t1==u1)=true:=by rw[e2];simp
      clear E EQ NE e1 e2;go_wp2
      go_quiet ((go_at_call 88;go_loud (exact Calls.quiet_of (same_any (r1.drewN _) (r2.drewN _)))))
      go_wp2
      go_quiet (fail)
      go_wp2;go_roundw
      case rel=>exact⟨k+1,Zo,Zg,HS,_,by show _=_;first|rw[hd.out,World.drewN_drewN,World.drewN_drewN]|rw[hd.out,World.drewN_drewN]|rw[World.drewN_drewN,hd.out,World.drewN_drewN]⟩
      case measure=>simp[intOf];omega
     ·have E:=NE.out (fun h=>e2 h.1);have HE:Hid (X=false):=E;have z1:(t1 !=u1)=true:=by simp[e2]
      have z2:(t1==u1)=false:=by simp[e2]
      clear E EQ NE e1 e2;go_wp2
      go_quiet ((go_at_call 88;go_loud (exact Calls.quiet_of (same_any (r1.drewN _) (r2.drewN _)))))
      go_wp2
      go_quiet (fail)
      go_wp2;go_ret;exact⟨by rw[HE.out];rfl,_,by show _=_;first|rw[hd.out,World.drewN_drewN,World.drewN_drewN]|rw[hd.out,World.drewN_drewN]|rw[World.drewN_drewN,hd.out,World.drewN_drewN]⟩
    ·have hn:sameB t2 u2=false:=Zx e1;have E:=NE.out (fun h=>e1 h.2);have HE:Hid (X=false):=E;clear E EQ NE e1;go_wp2
     go_quiet ((go_at_call 88;go_loud (exact Calls.quiet_of (same_any (r1.drewN _) (r2.drewN _)))))
     go_wp2
     go_quiet (fail)
     go_wp2;go_ret;exact⟨by rw[HE.out];rfl,_,by show _=_;first|rw[hd.out,World.drewN_drewN,World.drewN_drewN]|rw[hd.out,World.drewN_drewN]|rw[World.drewN_drewN,hd.out,World.drewN_drewN]⟩
   ·have HE:Hid (X=true):=by
     show X=true
     rw[hX.out];exact Zy ((bareT_eq hl'.out).2 fun i hi=>hs.out i Zo)
    have hge:¬(k:Int)<(T.length:Int):=Zo
    clear hs hT' hU' hX;go_wp2;go_ret;exact⟨by rw[HE.out];rfl,_,hd.out⟩
 ·have q1:((T.length:Int)!=(U.length:Int))=true:=by simp;omega
  have q1':((T.length:Int)==(U.length:Int))=false:=Zm
  have e:decide (bareT T=bareT U)=false:=Zx (fun h=>hl (by have:=congrArg List.length h;simpa[bareT_length]using this));rw[e];clear e hT hU
  go_enter Tryz.func43,Tryz.ntmps43
  go_wp2;go_ret;exact⟨rfl,0,rfl⟩
section
variable {w:World} {db:Nat} {G:Nat->Prop} {d:DkS}
theorem same12_is{va vb:Value}{L M:List (Int×List UInt8)}(hL:RdH w va L)(hM:RdH w vb M){x:Bool}(hx:decide (L=M)=x):Calls Tryz.prog 43 #[va,vb] w fun e w'=>e= .returned (.bool x)/\∃n,w'=w.drewN n:=by
 rw[<-hx];exact same12_any hL hM
theorem same_is{va vb:Value}{p q:List UInt8}(hp:Rd w va p)(hq:Rd w vb q){x:Bool}(hx:sameB p q=x):Calls Tryz.prog 88 #[va,vb] w fun e w'=>e= .returned (.bool x)/\∃n,w'=w.drewN n:=by
 rw[<-hx];exact same_any hp hq
end
def lookL(L:List (Int×List UInt8))(x:Int):Option (List UInt8):=(L.find? fun t=>t.1==x).map (·.2)
theorem lookL_held{f:Int->Option (List UInt8)}{s:Nat}(hf:InS s f)(x:Int):lookL (heldL f s) x=f x:=by
 unfold lookL;cases h:(heldL f s).find? fun t=>t.1==x with
 |none=>
  cases hx:f x with
  |none=>rfl
  |some b=>
   have h1:=hf x b hx;have h2:=(heldL_mem (f:=f) (s:=s)).2 ⟨h1.1,h1.2.1,hx⟩;have h3:=List.find?_eq_none.1 h _ h2;simp at h3
 |some t=>
  have h1:=List.find?_some h;have h2:=List.mem_of_find?_eq_some h;obtain⟨y,b⟩:=t;have h3:=heldL_mem.1 h2;simp at h1;subst h1;exact h3.2.2.symm
theorem look_none{T:List TH}{x:Int}(h:∀j,j<T.length->(T.getD j default).1≠x):lookL (bareT T) x=none:=by
 unfold lookL;rw[List.find?_eq_none.2,Option.map_none];intro t ht;unfold bareT at ht;rw[List.mem_map]at ht;obtain⟨u,hu,rfl⟩:=ht;obtain⟨i,hi,e⟩:=List.getElem_of_mem hu;have h1:=h i hi;rw[show T.getD i default=T[i] by simp[List.getD,hi],e]at h1;simpa using h1
theorem look_at{T:List TH}{x:Int}{k:Nat}(hk:k<T.length)(h:∀j,j<k->(T.getD j default).1≠x)(hx:(T.getD k default).1=x):lookL (bareT T) x=some (T.getD k default).2.1:=by
 induction T generalizing k with
 |nil=>simp at hk
 |cons t T ih=>
  cases k with
  |zero=>
   have hx':t.1=x:=hx;simp[lookL,bareT,hx']
  |succ k=>
   have h0:t.1≠x:=h 0 Zo;have h1:=ih (k:=k) (by simpa using hk) (fun j hj=>h (j+1) Zo) hx;have h2:lookL (bareT (t::T)) x=lookL (bareT T) x:=by
    unfold lookL bareT;rw[List.map_cons,List.find?_cons_of_neg (by simpa using h0)]
   rw[h2,h1];rfl
theorem mem_take{K:List Int}{j:Nat}(hj:j<K.length)(x:Int):decide (x∈K.take (j+1))=(decide (x∈K.take j)||(K.getD j 0==x)):=by
 have e:K.getD j 0=K[j]:=by simp[List.getD,hj]
 rw[List.take_add_one,List.getElem?_eq_getElem hj,e];simp only[Option.toList_some,List.mem_append,List.mem_singleton]
 by_cases h1:x∈K.take j
 ·simp[h1]
 ·by_cases h2:x=K[j]
  ·rw[<-h2];simp[h1]
  ·have h3:¬K[j]=x:=fun e=>h2 e.symm
   simp[h1,h2,h3]
end Go.Proofs.YtclieefpnbdbjaaGreat.Gf
