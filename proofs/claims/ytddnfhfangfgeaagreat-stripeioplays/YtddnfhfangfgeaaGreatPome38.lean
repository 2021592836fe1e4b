/- TEXTS JOINED: DkRm, DkOwnL, DkRc, DkRd, DkRe. -/
import Derived.Test.YtddnfhfangfgeaaGreatPome33
import Derived.Test.YtddnfhfangfgeaaGreatPome37
set_option maxHeartbeats 2000000
set_option maxRecDepth 100000
namespace Go.Proofs.YtddnfhfangfgeaaGreat.Gf
set_option linter.unusedVariables false
set_option linter.unusedSimpArgs false
open Go.RowKit
abbrev Sorted12(L:List (Int×List UInt8)):Prop:=L.Pairwise fun a b=>a.1<b.1
theorem heldL_sorted(f:Int->Option (List UInt8))(s:Nat):Sorted12 (heldL f s):=by
 induction s with
 |zero=>exact List.Pairwise.nil
 |succ s ih=>
  rw[heldL_succ];refine List.pairwise_append.2 ⟨ih,?_,fun a ha b hb=>?_⟩
  ·cases f (s:Int)<;>simp
  ·have h1:=(heldL_mem (x:=a.1) (b:=a.2)).1 ha;cases hf:f (s:Int)with
   |none=>rw[hf]at hb;cases hb
   |some q=>
    rw[hf]at hb;simp at hb;subst hb;exact h1.2.1
theorem sorted_ext{L M:List (Int×List UInt8)}(hL:Sorted12 L)(hM:Sorted12 M)(h:∀z,z∈L↔z∈M):L=M:=by
 refine List.Perm.eq_of_pairwise (le:=fun a b=>a.1<b.1) (fun a b _ _ h1 h2=>by omega) hL hM ?_
 refine(List.perm_ext_iff_of_nodup (hL.imp fun h e=>?_) (hM.imp fun h e=>?_)).2 h
 ·rw[e]at h;omega
 ·rw[e]at h;omega
theorem place_of(T:List TH)(x:Int):∃k0,k0<=T.length/\(∀j,j<k0->(T.getD j default).1<x)/\(k0=T.length∨(k0<T.length/\x<=(T.getD k0 default).1)):=by
 induction T with
 |nil=>exact⟨0,Nat.le_refl _,fun j hj=>by omega,Or.inl rfl⟩
 |cons t T ih=>
  by_cases h:t.1<x
  ·obtain⟨k,h1,h2,h3⟩:=ih;refine⟨k+1,by simpa using h1,fun j hj=>?_,?_⟩
   ·cases j with
    |zero=>exact h
    |succ j=>exact h2 j (by omega)
   ·rcases h3 with h3|⟨h3,h4⟩
    ·exact Or.inl (by simp[h3])
    ·exact Or.inr ⟨by simpa using h3,h4⟩
  ·exact⟨0,Nat.zero_le _,fun j hj=>by omega,Or.inr ⟨by simp,by show x<=t.1;omega⟩⟩
theorem bare_at{T:List TH}{i:Nat}(h:i<(bareT T).length):(bareT T)[i]=((T.getD i default).1,(T.getD i default).2.1):=by
 have h':i<T.length:=by rw[bareT_length]at h;exact h
 simp[bareT,List.getD,h']
theorem with_place{f:Int->Option (List UInt8)}{s:Nat}{T:List TH}(hT:bareT T=heldL f s){x:Int}(h0:0<=x)(h1:x<(s:Int))(p:List UInt8)(vb:Value):
  ∃k0 k1,k0<=T.length/\(∀j,j<k0->(T.getD j default).1<x)/\((k0=T.length/\k1=k0)∨(k0<T.length/\(T.getD k0 default).1=x/\k1=k0+1)∨(k0<T.length/\x<(T.getD k0 default).1/\k1=k0))/\
   bareT (T.take k0++(x,p,vb)::T.drop k1)=heldL (putB f x p) s:=by
 obtain⟨k0,hk,hlo,hhi⟩:=place_of T x;have hs:Sorted12 (bareT T):=by rw[hT];exact heldL_sorted f s
 have hsi:=List.pairwise_iff_getElem.1 hs;have hl:=bareT_length T;obtain⟨k1,hc⟩:∃k1,(k0=T.length/\k1=k0)∨(k0<T.length/\(T.getD k0 default).1=x/\k1=k0+1)∨(k0<T.length/\x<(T.getD k0 default).1/\k1=k0):=by
  rcases hhi with h|⟨h,h2⟩
  ·exact⟨k0,Or.inl ⟨h,rfl⟩⟩
  ·by_cases e:(T.getD k0 default).1=x
   ·exact⟨k0+1,Or.inr (Or.inl ⟨h,e,rfl⟩)⟩
   ·exact⟨k0,Or.inr (Or.inr ⟨h,by omega,rfl⟩)⟩
 refine⟨k0,k1,hk,hlo,hc,?_⟩;have key:∀i (h:i<(bareT T).length),(bareT T)[i].1=(T.getD i default).1:=fun i h=>by rw[bare_at h]
 have lowT:∀z∈(bareT T).take k0,z.1<x:=by
  intro z hz;obtain⟨i,hi,e⟩:=List.getElem_of_mem hz;have hi':i<k0/\i<(bareT T).length:=by rw[List.length_take]at hi;omega
  rw[List.getElem_take]at e;rw[<-e,key i hi'.2];exact hlo i hi'.1
 have highT:∀z∈(bareT T).drop k1,x<z.1:=by
  intro z hz;obtain⟨i,hi,e⟩:=List.getElem_of_mem hz;rw[List.length_drop]at hi;rw[List.getElem_drop]at e;rw[<-e];have hi2:k1+i<(bareT T).length:=by omega
  rcases hc with⟨e1,e2⟩|⟨e1,e3,e2⟩|⟨e1,e3,e2⟩
  ·omega
  ·have h4:=hsi k0 (k1+i) (by omega) hi2 (by omega);rw[key k0 (by omega),e3]at h4;exact h4
  ·by_cases h5:k1+i=k0
   ·have h6:=key (k1+i) hi2;rw[h6,h5];exact e3
   ·have h4:=hsi k0 (k1+i) (by omega) hi2 (by omega);rw[key k0 (by omega)]at h4;omega
 have hb:bareT (T.take k0++(x,p,vb)::T.drop k1)=(bareT T).take k0++(x,p)::(bareT T).drop k1:=by simp[bareT]
 rw[hb];refine sorted_ext ?_ (heldL_sorted _ _) fun z=>?_
 ·refine List.pairwise_append.2 ⟨hs.sublist (List.take_sublist _ _),List.pairwise_cons.2 ⟨fun a ha=>highT a ha,hs.sublist (List.drop_sublist _ _)⟩,fun a ha b hb2=>?_⟩;have h5:=lowT a ha
  rcases List.mem_cons.1 hb2 with e|h6
  ·rw[e];exact h5
  ·have:=highT b h6;omega
 ·obtain⟨y,q⟩:=z;rw[heldL_mem,List.mem_append,List.mem_cons];have inT:∀y q,(y,q)∈bareT T↔0<=y/\y<(s:Int)/\f y=some q:=fun y q=>by rw[hT];exact heldL_mem
  have split:(y,q)∈bareT T↔((y,q)∈(bareT T).take k0∨(y,q)∈(bareT T).drop k0):=by
   rw[<-List.mem_append,List.take_append_drop]
  by_cases hy:y=x
  ·subst hy;constructor
   ·rintro(h|h|h)
    ·have:=lowT _ h;simp at this
    ·cases h;exact⟨h0,h1,if_pos rfl⟩
    ·have:=highT _ h;simp at this
   ·rintro⟨_,_,h⟩;have h2:putB f y p y=some p:=if_pos rfl;rw[h2]at h;cases h;exact Or.inr (Or.inl rfl)
  ·have h2:putB f x p y=f y:=if_neg hy;rw[h2,<-inT y q,split];have hd:(y,q)∈(bareT T).drop k0↔(y,q)∈(bareT T).drop k1:=by
    rcases hc with⟨e1,e2⟩|⟨e1,e3,e2⟩|⟨e1,e3,e2⟩
    ·rw[e2]
    ·have hk2:k0<(bareT T).length:=by omega
     rw[List.drop_eq_getElem_cons hk2,List.mem_cons,e2];constructor
     ·rintro(h|h)
      ·have h7:=key k0 hk2;rw[<-h,e3]at h7;exact absurd h7 hy
      ·exact h
     ·exact Or.inr
    ·rw[e2]
   constructor
   ·rintro(h|h|h)
    ·exact Or.inl h
    ·cases h;exact absurd rfl hy
    ·exact Or.inr (hd.2 h)
   ·rintro(h|h)
    ·exact Or.inl h
    ·exact Or.inr (Or.inr (hd.1 h))
section
variable {w:World} {N db:Nat} {G:Nat->Prop} {d:DkS}
theorem set_below{g:Nat}(hg:N<=g)(j:Nat)(u:Value):Below N w (w.setCell ⟨g,j,none⟩ u):=(Below.refl _ _).setCell hg u
end
def FindD(w:World)(T:List TH)(x:Int)(e:Ending)(w':World):Prop:=w'=w/\((e= .returned (.int .i64 (-1))/\lookL (bareT T) x=none)∨∃k:Nat,e= .returned (.int .i64 (k:Int))/\k<T.length/\lookL (bareT T) x=some (T.getD k default).2.1)
theorem find_any{w:World}{v:Value}{T:List TH}(hT:RdT w v T){x:Int}:Calls Tryz.prog 155 #[v,.int .i64 x] w (FindD w T x):=by
 have lt:=hT.len;obtain⟨aa,ca,rfl⟩:=hT.form
 go_enter Tryz.func155,Tryz.ntmps155
 go_wp2
 go_loopw [5] (fun i wr=>∃k:Nat,k<=T.length/\i= .int .i64 (k:Int)/\Hid (∀j,j<k->(T.getD j default).1≠x)/\Hid (wr=w)) (fun i _=>T.length-(intOf i).toNat)
 case atStart=>exact⟨0,Nat.zero_le _,rfl,fun j hj=>by omega,rfl⟩
 case round=>
  obtain⟨k,hk,rfl,hs,hd⟩:=hrel;have hT':RdT wr (.slice aa T.length ca) T:=by rw[hd.out];exact hT
  clear hT
  by_cases hlt:k<T.length
  ·have hlt':(k:Int)<(T.length:Int):=by omega
   have g1:IntKind.i64.wrap ((k:Int)+1)=((k+1:Nat):Int):=by rw[IntKind.wrap_i64];omega
   obtain⟨b,off,rfl,c0,c1,r1⟩:=hT'.at hlt
   by_cases e:(T.getD k default).1=x
   ·have HL:Hid (lookL (bareT T) x=some (T.getD k default).2.1):=look_at hlt hs.out e;have z1:((T.getD k default).1==x)=true:=beq_iff_eq.2 e;obtain⟨t1,ht⟩:∃t,t=(T.getD k default).1:=⟨_,rfl⟩;rw[<-ht]at c0 z1;clear ht hs hT' e r1 c1;go_wp2;go_ret;exact⟨hd.out,Or.inr ⟨k,rfl,hlt,HL.out⟩⟩
   ·have z1:((T.getD k default).1==x)=false:=beq_eq_false_iff_ne.2 e;have HS:Hid (∀j,j<k+1->(T.getD j default).1≠x):=fun j hj=>by
     by_cases e2:j=k
     ·rw[e2];exact e
     ·exact hs.out j (by omega)
    obtain⟨t1,ht⟩:∃t,t=(T.getD k default).1:=⟨_,rfl⟩;rw[<-ht]at c0 z1;clear ht hs hT' e r1 c1;go_wp2;go_roundw
    case rel=>exact⟨k+1,by omega,by go_num,HS,hd⟩
    case measure=>simp[intOf];omega
  ·have hge:¬(k:Int)<(T.length:Int):=by omega
   have HL:Hid (lookL (bareT T) x=none):=look_none (fun j hj=>hs.out j (by omega));clear hs hT';go_wp2;go_ret;exact⟨hd.out,Or.inl ⟨rfl,HL.out⟩⟩
theorem changed_any{w:World}{v:Value}{p:List UInt8}(hp:Rd w v p)(h1:1<=p.length)(h2:p.length<=100000){at_:Int}(hat:(Lit.int .i64 at_).wf=true)(y:UInt8):
  Calls Tryz.prog 157 #[v,.int .i64 at_,.int .u8 ((y.toNat:Nat):Int)] w fun e w'=>∃v',e= .returned v'/\w'.ownsRow w.heap.size 5 1 v' p.length ((chB p at_ y).map vb)/\Below w.heap.size w w':=by
 obtain⟨aa,ca,rfl⟩:=hp.form;obtain⟨i0,hi,hz0,hz1,hz2⟩:=info_parts info_u8;have B1:Below w.heap.size w (w.alloc (.cells #[] 5)):=belA _ _;have O1:=own_new12 w 5;have hp1:=hp.below B1;have hsz:w.heap.size<=(w.alloc (.cells #[] 5)).heap.size:=B1.size;obtain⟨j,hj⟩:∃j,Hid (j=atN at_ p.length):=⟨_,rfl⟩;have hjl:j<p.length:=by rw[hj.out];exact Nat.mod_lt _ (by omega)
 have hCh:Hid (chB p at_ y=p.set j (co p j^^^y)):=by show _=_;unfold chB;rw[hj.out]
 by_cases hneg:at_<0
 ·obtain⟨M,hM⟩:∃M:Nat,at_= -((M:Int)+1):=⟨(-(at_+1)).toNat,by omega⟩;have hb:=bounds_i64 hat;have hjM:j=M%p.length:=by rw[hj.out];unfold atN;rw[if_pos hneg];congr 1;omega
  have Z1:wrap64 (at_+1)= -(M:Int):=by unfold wrap64;omega
  have Z2:wrap64 (M:Int)=(M:Int):=by unfold wrap64;omega
  have Tm:((M:Int)).tmod (p.length:Int)=(j:Int):=by rw[hjM];exact(Int.ofNat_tmod M p.length).symm
  clear hjM hM hb hat hj
  go_enter Tryz.func157,Tryz.ntmps157
  go_wp2_with (at_builtin;go_loud (refine wpList_append_rd _ rfl (.tmp 13) (.tmp 14) 36 rfl w.heap.size 5 i0 Tryz.underlying36 hi hz0 hz1 hz2 (.slice (some ⟨w.heap.size,0,none⟩) 0 0) 0 [] rfl O1 (.slice aa p.length ca) p rfl hp1 (by omega) hsz ?_);intro v' w9 hv9 hg9)
  have O9:w9.ownsRow w.heap.size 5 1 v' p.length (p.map vb):=by rw[Nat.zero_add,List.nil_append]at hv9;exact hv9
  have B9:Below w.heap.size w w9:=B1.grown hg9 hsz (fun q hq=>by cases hq;exact Nat.le_refl _);obtain⟨g9,c9,rfl,hg,_⟩:=owns_formD O9 (by omega);have cj:w9.cell? ⟨g9,j,none⟩=some (.int .u8 (((co p j).toNat:Nat):Int)):=by
   rw[World.ownsRow.cellAt O9 j (by omega),List.getElem?_map,List.getElem?_eq_getElem hjl,co_lt hjl];rfl
  have fj:w9.frozen? ⟨g9,j,none⟩=false:=World.ownsRow.frozenAt O9 j;obtain⟨y0,hy0⟩:∃y,Hid (y=co p j):=⟨_,rfl⟩;obtain⟨y1,hy1⟩:∃z,Hid (z=co p j^^^y):=⟨_,rfl⟩;have X:bits .xor .u8 (((co p j).toNat:Nat):Int) ((y.toNat:Nat):Int)=((y1.toNat:Nat):Int):=by rw[hy1.out];exact xor_u8 _ _
  rw[<-hy0.out]at cj X;have FIN:Hid ((w9.setCell ⟨g9,j,none⟩ (.int .u8 ((y1.toNat:Nat):Int))).drew.ownsRow w.heap.size 5 1 (.slice (some ⟨g9,0,none⟩) p.length c9) p.length ((chB p at_ y).map vb)/\Below w.heap.size w (w9.setCell ⟨g9,j,none⟩ (.int .u8 ((y1.toNat:Nat):Int))).drew):=by
   refine⟨World.ownsRow.drew ?_,(B9.trans (set_below hg j _)).drew⟩;have h3:=owns_set (j:=j) O9 y1;rw[hCh.out,<-hy1.out];rw[List.length_set]at h3;exact h3
  have zp:¬p.length=0:=by omega
  have zp':((p.length:Int)==0)=false:=beq_eq_false_iff_ne.2 (by omega);have jl1:(j:Int)<(p.length:Int):=by omega
  have jl0:(0:Int)<=(j:Int):=by omega
  clear O9 B9 hv9 hg9 B1 O1 hp1 hp hCh hy0 hy1 hg hi hz0 hz1 hz2 hsz
  go_big_region
  go_wp2;go_ret;exact⟨_,rfl,FIN.out⟩
 ·obtain⟨M,hM⟩:∃M:Nat,at_=(M:Int):=⟨at_.toNat,by omega⟩;have hjM:j=M%p.length:=by rw[hj.out];unfold atN;rw[if_neg hneg];congr 1;omega
  have Tm:((M:Int)).tmod (p.length:Int)=(j:Int):=by rw[hjM];exact(Int.ofNat_tmod M p.length).symm
  subst hM;clear hjM hat hj
  go_enter Tryz.func157,Tryz.ntmps157
  go_wp2_with (at_builtin;go_loud (refine wpList_append_rd _ rfl (.tmp 13) (.tmp 14) 36 rfl w.heap.size 5 i0 Tryz.underlying36 hi hz0 hz1 hz2 (.slice (some ⟨w.heap.size,0,none⟩) 0 0) 0 [] rfl O1 (.slice aa p.length ca) p rfl hp1 (by omega) hsz ?_);intro v' w9 hv9 hg9)
  have O9:w9.ownsRow w.heap.size 5 1 v' p.length (p.map vb):=by rw[Nat.zero_add,List.nil_append]at hv9;exact hv9
  have B9:Below w.heap.size w w9:=B1.grown hg9 hsz (fun q hq=>by cases hq;exact Nat.le_refl _);obtain⟨g9,c9,rfl,hg,_⟩:=owns_formD O9 (by omega);have cj:w9.cell? ⟨g9,j,none⟩=some (.int .u8 (((co p j).toNat:Nat):Int)):=by
   rw[World.ownsRow.cellAt O9 j (by omega),List.getElem?_map,List.getElem?_eq_getElem hjl,co_lt hjl];rfl
  have fj:w9.frozen? ⟨g9,j,none⟩=false:=World.ownsRow.frozenAt O9 j;obtain⟨y0,hy0⟩:∃y,Hid (y=co p j):=⟨_,rfl⟩;obtain⟨y1,hy1⟩:∃z,Hid (z=co p j^^^y):=⟨_,rfl⟩;have X:bits .xor .u8 (((co p j).toNat:Nat):Int) ((y.toNat:Nat):Int)=((y1.toNat:Nat):Int):=by rw[hy1.out];exact xor_u8 _ _
  rw[<-hy0.out]at cj X;have FIN:Hid ((w9.setCell ⟨g9,j,none⟩ (.int .u8 ((y1.toNat:Nat):Int))).drew.ownsRow w.heap.size 5 1 (.slice (some ⟨g9,0,none⟩) p.length c9) p.length ((chB p (M:Int) y).map vb)/\Below w.heap.size w (w9.setCell ⟨g9,j,none⟩ (.int .u8 ((y1.toNat:Nat):Int))).drew):=by
   refine⟨World.ownsRow.drew ?_,(B9.trans (set_below hg j _)).drew⟩;have h3:=owns_set (j:=j) O9 y1;rw[hCh.out,<-hy1.out];rw[List.length_set]at h3;exact h3
  have zp:¬p.length=0:=by omega
  have zp':((p.length:Int)==0)=false:=beq_eq_false_iff_ne.2 (by omega);have jl1:(j:Int)<(p.length:Int):=by omega
  have jl0:(0:Int)<=(j:Int):=by omega
  clear O9 B9 hv9 hg9 B1 O1 hp1 hp hCh hy0 hy1 hg hi hz0 hz1 hz2 hsz
  go_big_region
  go_wp2;go_ret;exact⟨_,rfl,FIN.out⟩
structure RefIn(w:World)(rb:Nat)(vl vw:Value)(Tl Tw:List TH)(H:Nat->Prop)(d:DkS):Prop where
 c0:w.cell? ⟨rb,0,none⟩=some (.int .i64 (d.s:Int))
 c1:w.cell? ⟨rb,1,none⟩=some vl
 c2:w.cell? ⟨rb,2,none⟩=some vw
 c3:w.cell? ⟨rb,3,none⟩=some (.bool d.dead)
 f1:w.frozen? ⟨rb,1,none⟩=false
 f2:w.frozen? ⟨rb,2,none⟩=false
 f3:w.frozen? ⟨rb,3,none⟩=false
 el:bareT Tl=heldL d.last d.s
 ew:bareT Tw=heldL d.wait d.s
 tl:ToldT w H vl Tl
 tw:ToldT w H vw Tw
 kl:CapOk vl
 kw:CapOk vw
 hr:H rb
 lt:∀k,H k->k<w.heap.size
 s2:d.s<=4096
def RefAt(w:World)(rb:Nat)(H:Nat->Prop)(d:DkS):Prop:=∃vl vw Tl Tw,RefIn w rb vl vw Tl Tw H d
def LeavesR(w:World)(rb:Nat)(H:Nat->Prop)(d':DkS)(x:Value)(e:Ending)(w':World):Prop:=e= .returned x/\RefAt w' rb H d'/\TurnG (fun k=>k=rb) w w'
section
variable {w w':World} {rb:Nat} {vl vw:Value} {Tl Tw:List TH} {H:Nat->Prop} {d:DkS}
theorem RefIn.len_l(h:RefIn w rb vl vw Tl Tw H d):Tl.length<=4096:=by
 rw[<-bareT_length,h.el];exact Nat.le_trans (heldL_length _ _) h.s2
theorem RefIn.len_w(h:RefIn w rb vl vw Tl Tw H d):Tw.length<=4096:=by
 rw[<-bareT_length,h.ew];exact Nat.le_trans (heldL_length _ _) h.s2
theorem RefIn.below(h:RefIn w rb vl vw Tl Tw H d)(hb:Below w.heap.size w w'):RefIn w' rb vl vw Tl Tw H d:=
 have l:=h.lt rb h.hr
 ⟨(hb.cell (p:=⟨rb,0,none⟩) l).trans h.c0,(hb.cell (p:=⟨rb,1,none⟩) l).trans h.c1,(hb.cell (p:=⟨rb,2,none⟩) l).trans h.c2,(hb.cell (p:=⟨rb,3,none⟩) l).trans h.c3,
  (hb.frozen (p:=⟨rb,1,none⟩) l).trans h.f1,(hb.frozen (p:=⟨rb,2,none⟩) l).trans h.f2,(hb.frozen (p:=⟨rb,3,none⟩) l).trans h.f3,h.el,h.ew,h.tl.below hb,h.tw.below hb,h.kl,h.kw,h.hr,fun k hk=>Nat.lt_of_lt_of_le (h.lt k hk) hb.size,h.s2⟩
theorem RefAt.below(h:RefAt w rb H d)(hb:Below w.heap.size w w'):RefAt w' rb H d:=by
 obtain⟨vl,vw,Tl,Tw,h⟩:=h;exact⟨vl,vw,Tl,Tw,h.below hb⟩
theorem setR_grew(hr:H rb)(j:Nat)(v:Value):Grew H w H (w.setCell ⟨rb,j,none⟩ v):=Grew.of_turn (Only.turnG ((Only.refl rb w).setCell j v) hr)
theorem RefIn.setW(h:RefIn w rb vl vw Tl Tw H d){v:Value}{T:List TH}{f:Int->Option (List UInt8)}(ht:ToldT w H v T)(hk:CapOk v)(he:bareT T=heldL f d.s):RefIn (w.setCell ⟨rb,2,none⟩ v) rb vl v Tl T H {d with wait:=f}:=by
 have g:=setR_grew (w:=w) h.hr 2 v;have c2:=h.c2;have f1:=h.f1;have f2:=h.f2;have f3:=h.f3;refine⟨?_,?_,?_,?_,by simp[go_sem,f1],by simp[go_sem,f2],by simp[go_sem,f3],h.el,he,h.tl.grew g,ht.grew g,h.kl,hk,h.hr,fun k hk=>by simpa using h.lt k hk,h.s2⟩
 ·rw[<-h.c0];simp[go_sem]
 ·rw[<-h.c1];simp[go_sem]
 ·simp[go_sem,c2]
 ·rw[<-h.c3];simp[go_sem]
theorem RefIn.setL(h:RefIn w rb vl vw Tl Tw H d){v:Value}{T:List TH}{f:Int->Option (List UInt8)}(ht:ToldT w H v T)(hk:CapOk v)(he:bareT T=heldL f d.s):RefIn (w.setCell ⟨rb,1,none⟩ v) rb v vw T Tw H {d with last:=f}:=by
 have g:=setR_grew (w:=w) h.hr 1 v;have c1:=h.c1;have f1:=h.f1;have f2:=h.f2;have f3:=h.f3;refine⟨?_,?_,?_,?_,by simp[go_sem,f1],by simp[go_sem,f2],by simp[go_sem,f3],he,h.ew,ht.grew g,h.tw.grew g,hk,h.kw,h.hr,fun k hk=>by simpa using h.lt k hk,h.s2⟩
 ·rw[<-h.c0];simp[go_sem]
 ·simp[go_sem,c1]
 ·rw[<-h.c2];simp[go_sem]
 ·rw[<-h.c3];simp[go_sem]
theorem RefIn.setD(h:RefIn w rb vl vw Tl Tw H d)(x:Bool):RefIn (w.setCell ⟨rb,3,none⟩ (.bool x)) rb vl vw Tl Tw H {d with dead:=x}:=by
 have g:=setR_grew (w:=w) h.hr 3 (.bool x);have c3:=h.c3;have f1:=h.f1;have f2:=h.f2;have f3:=h.f3;refine⟨?_,?_,?_,?_,by simp[go_sem,f1],by simp[go_sem,f2],by simp[go_sem,f3],h.el,h.ew,h.tl.grew g,h.tw.grew g,h.kl,h.kw,h.hr,fun k hk=>by simpa using h.lt k hk,h.s2⟩
 ·rw[<-h.c0];simp[go_sem]
 ·rw[<-h.c1];simp[go_sem]
 ·rw[<-h.c2];simp[go_sem]
 ·simp[go_sem,c3]
theorem told_nil(w:World)(H:Nat->Prop):ToldT w H (.slice none 0 0) []:=⟨Or.inl ⟨none,0,rfl,rfl⟩,ApartG.nil _ _ _,fun t ht=>by cases ht⟩
theorem cap_nil:CapOk (.slice none 0 0):=fun a n c e=>by simp at e;obtain⟨rfl,rfl,rfl⟩:=e;exact⟨Nat.le_refl _,fun _=>rfl⟩
theorem turnR_set(j:Nat)(v:Value):TurnG (fun k=>k=rb) w (w.setCell ⟨rb,j,none⟩ v):=Only.turnG ((Only.refl rb w).setCell j v) rfl
theorem rfault_any(h:RefIn w rb vl vw Tl Tw H d){a:Int}:Calls Tryz.prog 153 #[.pointer (some ⟨rb,0,none⟩),.int .i64 a] w fun e w'=>e= .returned (.int .i64 (faX d a))/\w'=w:=by
 have c0:=h.c0;have c3:=h.c3;clear h;cases hd:d.dead with
 |true=>
  have e:=faX_dead hd a;rw[hd]at c3;rw[e];clear e
  go_enter Tryz.func153,Tryz.ntmps153
  go_wp2;go_ret;exact⟨rfl,rfl⟩
 |false=>
  rw[hd]at c3
  by_cases h0:0<=a
  ·have h0':¬a<0:=by omega
   by_cases h1:a<(d.s:Int)
   ·have e:=faX_ok hd ⟨h0,h1⟩;have h1':¬a>=(d.s:Int):=by omega
    rw[e];clear e
    go_enter Tryz.func153,Tryz.ntmps153
    go_wp2;go_ret;exact⟨rfl,rfl⟩
   ·have e:=faX_out hd (a:=a) (fun h=>h1 h.2);have h1':a>=(d.s:Int):=by omega
    rw[e];clear e
    go_enter Tryz.func153,Tryz.ntmps153
    go_wp2;go_ret;exact⟨rfl,rfl⟩
  ·have e:=faX_out hd (a:=a) (fun h=>h0 h.1);have h0':a<0:=by omega
   rw[e];clear e
   go_enter Tryz.func153,Tryz.ntmps153
   go_wp2;go_ret;exact⟨rfl,rfl⟩
theorem rfail_any(h:RefIn w rb vl vw Tl Tw H d):Calls Tryz.prog 120 #[.pointer (some ⟨rb,0,none⟩)] w (LeavesR w rb H (faS d) (.tuple #[])):=by
 have I1:=h.setD true;have I2:=I1.setL (told_nil _ H) cap_nil (f:=noneI) (by rw[heldL_none];rfl);have I3:=I2.setW (told_nil _ H) cap_nil (f:=noneI) (by rw[heldL_none];rfl);have FIN:Hid (RefAt (((w.setCell ⟨rb,3,none⟩ (.bool true)).setCell ⟨rb,1,none⟩ (.slice none 0 0)).setCell ⟨rb,2,none⟩ (.slice none 0 0)) rb H (faS d)/\TurnG (fun k=>k=rb) w (((w.setCell ⟨rb,3,none⟩ (.bool true)).setCell ⟨rb,1,none⟩ (.slice none 0 0)).setCell ⟨rb,2,none⟩ (.slice none 0 0))):=⟨⟨_,_,_,_,I3⟩,((turnR_set 3 _).trans (turnR_set 1 _)).trans (turnR_set 2 _)⟩;have c1:=h.c1;have c2:=h.c2;have c3:=h.c3;have f1:=h.f1;have f2:=h.f2;have f3:=h.f3;clear I1 I2 I3 h
 go_enter Tryz.func120,Tryz.ntmps120
 go_wp2
 go_end0
 exact⟨rfl,FIN.out⟩
theorem rrepl_any(h:RefIn w rb vl vw Tl Tw H d):Calls Tryz.prog 121 #[.pointer (some ⟨rb,0,none⟩)] w (LeavesR w rb H (reS d) (.tuple #[])):=by
 have I1:=h.setD false;have I2:=I1.setL (told_nil _ H) cap_nil (f:=noneI) (by rw[heldL_none];rfl);have I3:=I2.setW (told_nil _ H) cap_nil (f:=noneI) (by rw[heldL_none];rfl);have FIN:Hid (RefAt (((w.setCell ⟨rb,3,none⟩ (.bool false)).setCell ⟨rb,1,none⟩ (.slice none 0 0)).setCell ⟨rb,2,none⟩ (.slice none 0 0)) rb H (reS d)/\TurnG (fun k=>k=rb) w (((w.setCell ⟨rb,3,none⟩ (.bool false)).setCell ⟨rb,1,none⟩ (.slice none 0 0)).setCell ⟨rb,2,none⟩ (.slice none 0 0))):=⟨⟨_,_,_,_,I3⟩,((turnR_set 3 _).trans (turnR_set 1 _)).trans (turnR_set 2 _)⟩;have c1:=h.c1;have c2:=h.c2;have c3:=h.c3;have f1:=h.f1;have f2:=h.f2;have f3:=h.f3;clear I1 I2 I3 h
 go_enter Tryz.func121,Tryz.ntmps121
 go_wp2
 go_end0
 exact⟨rfl,FIN.out⟩
end
theorem rnew_any{w:World}{n:Int}(h1:1<=n)(h2:n<=4096):Calls Tryz.prog 34 #[.int .i64 n] w fun e w'=>e= .returned (.tuple #[.pointer (some ⟨w.heap.size,0,none⟩),.int .i64 0])/\w'=w.alloc (.cells #[.int .i64 n,.slice none 0 0,.slice none 0 0,.bool false] 94):=by
 have g1:¬n<1:=by omega
 have g2:¬n>4096:=by omega
 go_enter Tryz.func34,Tryz.ntmps34
 go_wp2;refine bodyPost_ret (v:=.tuple #[.pointer (some ⟨w.heap.size,0,none⟩),.int .i64 0]) (by simp[results,Tryz.results34,go_sem]) rfl ?_
 exact⟨rfl,rfl⟩
theorem run_append_b{P:Program}(w:World)(t ty:TypeId)(base:Nat)(e:TypeId)(i:TypeInfo)(ht:P.underlying t=some (.slice e))(hi:P.info? e=some i)(hz:i.zero=some (.int .u8 0))(hsize:i.size=1)(hby:i.bytes=1)
  (v:Value) (n:Nat) (xs:List Value) (hown:w.ownsRow base e 1 v n xs) (va:Value) (p:List UInt8) (hr:Rd w va p) (hl:n+p.length<=1000000) (hbase:base<=w.heap.size):
  ∃v' w',(Builtin.append_ #[t,t] ty #[v,va]).run P w= .ok v' w'/\w'.ownsRow base e 1 v' (n+p.length) (xs++p.map vb)/\w.grownBy w' v.ownBlock:=by
 rcases hr with⟨ao,cap,rfl,rfl,hc,hn⟩|⟨b,off,cap,hp0,rfl,h1,h2,h3,hpc⟩
 ·rcases ao with _|ad
  ·have:=hn rfl;subst this;exact⟨v,w,run_append_owned_none (P:=P) (w:=w) base t ty e i 1 ht hi v n xs hown,by simpa using hown,World.grownBy.refl _ _⟩
  ·obtain⟨v',w',hr,h2,h3,_⟩:=run_append_own_at (P:=P) w base t ty e i (.int .u8 0) 1 1 ht hi hz hsize hby rfl (by decide) v n xs hown ad 0 cap [] rfl (by intro j u hj;simp at hj) (by intro u hu;simp at hu) (by unfold maxLen;omega) (by omega) hbase;exact⟨v',w',hr,by simpa using h2,h3⟩
 ·obtain⟨v',w',hr,h2,h3,_⟩:=run_append_own_at (P:=P) w base t ty e i (.int .u8 0) 1 1 ht hi hz hsize hby rfl (by decide) v n xs hown ⟨b,off,none⟩ p.length cap ((p.take p.length).map vb) (by simp) (news_of hpc) (vb_one _) (by unfold maxLen;omega) (by omega) hbase;exact⟨v',w',hr,by simpa using h2,h3⟩
theorem step_append_b{P:Program}{w:World}{ops:Array Oper}{o:Oper}{a:Act}{K:Act->World->Prop}{Q:Exit->Act->World->Prop}{E:Prop}(hgd:o.guard=none)(s x:Operand)(t:TypeId)
  (ho:o.op= .call {callee:=.builtin .append,args:=#[s,x],argTypes:=#[t,t]})
  (base:Nat) (e:TypeId) (i:TypeInfo) (ht:P.underlying t=some (.slice e)) (hi:P.info? e=some i) (hz:i.zero=some (.int .u8 0)) (hsize:i.size=1) (hby:i.bytes=1)
  (v:Value) (n:Nat) (xs:List Value) (hs:a.eval s=v) (hown:w.ownsRow base e 1 v n xs) (va:Value) (p:List UInt8) (hx:a.eval x=va) (hr:Rd w va p) (hl:n+p.length<=1000000) (hbase:base<=w.heap.size)
  (h:∀v' w',w'.ownsRow base e 1 v' (n+p.length) (xs++p.map vb)->w.grownBy w' v.ownBlock->K (a.put o.dst v') w'):
  if Region.wanted o (yielded ops a.tmps)=true then Oper.wp P o a w K Q else E:=by
 have hw:Region.wanted o (yielded ops a.tmps)=true:=by simp[Region.wanted,hgd]
 rw[if_pos hw];obtain⟨v',w',hrun,h2,h3⟩:=run_append_b w t o.type base e i ht hi hz hsize hby v n xs hown va p hr hl hbase;unfold Oper.wp execOp;simp only[ho,resolve,invoke,builtin,Sem.run_bind,Sem.run_pure,Result.andThen_ok,List.map_toArray,List.map_cons,List.map_nil,hs,hx,hrun];exact h v' w' h2 h3
section
variable {w w':World} {rb:Nat} {vl vw:Value} {Tl Tw:List TH} {H:Nat->Prop} {d:DkS}
def WithH(w:World)(H:Nat->Prop)(f:Int->Option (List UInt8))(s:Nat)(e:Ending)(w':World):Prop:=∃v T,e= .returned v/\ToldT w' H v T/\CapOk v/\bareT T=heldL f s/\Below w.heap.size w w'
theorem with_is{v:Value}{T:List TH}{f:Int->Option (List UInt8)}{s:Nat}(ht:ToldT w H v T)(hc:CapOk v)(he:bareT T=heldL f s)(hs:s<=4096)(hl:∀k,H k->k<w.heap.size){x:Int}(h0:0<=x)(h1:x<(s:Int)){p:List UInt8}{vb:Value}(hp:Told w H vb p):
  Calls Tryz.prog 154 #[v,.agg #[.int .i64 x,vb]] w (WithH w H (putB f x p) s):=by
 obtain⟨k0,k1,hk,hlo,hhi,hb⟩:=with_place he h0 h1 p vb;have hlen:T.length<=4096:=by rw[<-bareT_length,he];exact Nat.le_trans (heldL_length _ _) hs
 refine(with_any ht.rd hc hp.rd (by omega) k0 k1 hk hlo hhi).mono ?_
 rintro e w' ⟨v',rfl,hrow,hbel⟩;have hmem:∀t∈T.take k0++(x,p,vb)::T.drop k1,(t∈T∨t=(x,p,vb)):=by
  intro t ht2
  rcases List.mem_append.1 ht2 with h|h
  ·exact Or.inl (List.mem_of_mem_take h)
  ·rcases List.mem_cons.1 h with h|h
   ·exact Or.inr h
   ·exact Or.inl (List.mem_of_mem_drop h)
 have hlen2:(T.take k0++(x,p,vb)::T.drop k1).length<=100000:=by simp;omega
 refine⟨v',_,rfl,⟨rdT_row hrow (fun t ht2=>?_) hlen2,?_,fun t ht2=>?_⟩,cap_row hrow,hb,hbel⟩
 ·rcases hmem t ht2 with h|h
  ·exact(ht.rd.each t h).below hbel
  ·rw[h];exact hp.rd.below hbel
 ·intro y n c e;right;intro hg;have h2:=row_at hrow (g:=y.block) (by rw[e];rfl);have h3:=hl _ hg;omega
 ·rcases hmem t ht2 with h|h
  ·exact ht.each t h
  ·rw[h];exact hp.ap
theorem rwrite_any(h:RefIn w rb vl vw Tl Tw H d){a:Int}{v:Value}{p:List UInt8}(hp:Rd w v p):
  Calls Tryz.prog 112 #[.pointer (some ⟨rb,0,none⟩),.int .i64 a,v] w (LeavesR w rb H (wrS d a p) (.int .i64 (wrX d a p))):=by
 have K:=rfault_any h (a:=a);have hpl:=hp.len;obtain⟨ad,cp,rfl⟩:=hp.form;obtain⟨i0,hi,hz0,hz1,hz2⟩:=info_parts info_u8
 by_cases hf:faX d a=0
 ·by_cases hb:OkB p
  ·have eX:wrX d a p=0:=by unfold wrX;rw[if_pos hf,if_pos hb]
   obtain⟨hb1,hb2⟩:=hb;have q0:¬(p.length:Int)<1:=by omega
   have q3:¬(p.length:Int)>4108:=by omega
   have c2:=h.c2;rw[eX];rw[hf]at K
   go_enter Tryz.func112,Tryz.ntmps112
   go_wp2_with fail
   refine K.mono ?_
   rintro _ wq ⟨rfl,hwq⟩;rw[hwq];clear hwq wq
   go_wp2_with fail
   obtain⟨fz1,fz2,fz3⟩:=faX_zero hf;have bA:Below w.heap.size w (w.alloc (.cells #[] 5)).drew:=(belA _ _).drew;have oA:(w.alloc (.cells #[] 5)).drew.ownsRow w.heap.size 5 1 (.slice (some ⟨w.heap.size,0,none⟩) 0 0) 0 []:=World.ownsRow.drew (own_new12 w 5);have pA:=hp.below bA;have hl0:0+p.length<=1000000:=by omega
   have c0:=h.c0;have c0A:=(h.below bA).c0;have c2A:=(h.below bA).c2;have eS:{d with wait:=putB d.wait a p}=wrS d a p:=by unfold wrS;rw[if_pos ⟨hf,hb1,hb2⟩]
   clear K eX
   go_region_law (first
    |(refine step_append_b rfl (.tmp 28) (.tmp 29) 36 rfl w.heap.size 5 i0 Tryz.underlying36 hi hz0 hz1 hz2 (.slice (some ⟨w.heap.size,0,none⟩) 0 0) 0 [] rfl oA _ p rfl pA hl0 bA.size ?_;intro v4 w4 h4 g4;have C4:Below w.heap.size w w4:=bA.grown g4 bA.size (fun q hq=>by cases hq;exact Nat.le_refl _);have I4:=h.below C4;have O4:w4.ownsRow w.heap.size 5 1 v4 p.length (p.map vb):=(by rw[Nat.zero_add,List.nil_append]at h4;exact h4);have T4:Told w4 H v4 p:=⟨Rd.owned O4,ApartG.own O4 h.lt⟩;have c04:=I4.c0;have c24:=I4.c2;obtain⟨a4,k4,rfl⟩:=owns_slice O4)
    |(go_simp;go_at_call 154;(refine(with_is I4.tw h.kw h.ew h.s2 I4.lt fz2 fz3 T4).mono ?_);rintro _ w5 ⟨v5,T5,rfl,t5,k5,e5,b5⟩;have I5:=I4.below b5;have c05:=I5.c0;have c25:=I5.c2;have f25:=I5.f2;have I6:=I5.setW t5 k5 e5;have c06:=I6.c0;have B5:=C4.step12 b5 C4.size;obtain⟨a5,m5,rfl⟩:=t5.rd.form;dsimp only))
   all_goals
    have FIN:Hid (RefAt (w5.setCell ⟨rb,2,none⟩ (.slice a5 T5.length m5)) rb H (wrS d a p)/\TurnG (fun k=>k=rb) w (w5.setCell ⟨rb,2,none⟩ (.slice a5 T5.length m5))):=⟨⟨_,_,_,_,by rw[<-eS];exact I6⟩,(Below.turnG B5 _).trans (turnR_set 2 _)⟩;clear I6 c06 c05 c25 f25 I5 b5 t5 k5 e5 B5 c04 c24 T4 O4 I4 C4 g4 h4 h hp pA oA bA c0 c0A c2A c2 eS;go_wp2;go_ret;exact⟨rfl,FIN.out⟩
  ·have eX:wrX d a p=1:=by unfold wrX;rw[if_pos hf,if_neg hb]
   have eS:wrS d a p=d:=by unfold wrS;rw[if_neg (fun h=>hb h.2)]
   have FIN:Hid (RefAt w rb H (wrS d a p)/\TurnG (fun k=>k=rb) w w):=by
    show _/\_
    rw[eS];exact⟨⟨_,_,_,_,h⟩,TurnG.refl _ _⟩
   rw[eX];rw[hf]at K;clear eX eS h hp
   by_cases g1:p.length<1
   ·have q0:(p.length:Int)<1:=by omega
    go_enter Tryz.func112,Tryz.ntmps112
    go_wp2_with fail
    refine K.mono ?_
    rintro _ wq ⟨rfl,hwq⟩;rw[hwq];clear hwq wq K;go_wp2;go_ret;exact⟨rfl,FIN.out⟩
   ·have q0:¬(p.length:Int)<1:=by omega
    have q3:(p.length:Int)>4108:=by have:¬(1<=p.length/\p.length<=4108):=hb;omega
    go_enter Tryz.func112,Tryz.ntmps112
    go_wp2_with fail
    refine K.mono ?_
    rintro _ wq ⟨rfl,hwq⟩;rw[hwq];clear hwq wq K;go_wp2;go_ret;exact⟨rfl,FIN.out⟩
 ·have eX:wrX d a p=faX d a:=by unfold wrX;rw[if_neg hf]
  have eS:wrS d a p=d:=by unfold wrS;rw[if_neg (fun h=>hf h.1)]
  have FIN:Hid (RefAt w rb H (wrS d a p)/\TurnG (fun k=>k=rb) w w):=by
   show _/\_
   rw[eS];exact⟨⟨_,_,_,_,h⟩,TurnG.refl _ _⟩
  rw[eX];obtain⟨x,hx⟩:∃x,x=faX d a:=⟨_,rfl⟩;rw[<-hx]at hf K ⊢;clear eX eS h hp hx;have q1:(x==0)=false:=beq_eq_false_iff_ne.2 hf
  go_enter Tryz.func112,Tryz.ntmps112
  go_wp2_with fail
  refine K.mono ?_
  rintro _ wq ⟨rfl,hwq⟩;rw[hwq];clear hwq wq K;go_wp2;go_ret;exact⟨rfl,FIN.out⟩
def TellsR(w:World)(x:Int)(p:List UInt8)(e:Ending)(w':World):Prop:=∃v,e= .returned (.tuple #[v,.int .i64 x])/\Rd w' v p/\Below w.heap.size w w'
def TellsF(w:World)(x:Int)(p:List UInt8)(e:Ending)(w':World):Prop:=∃v,e= .returned (.tuple #[v,.int .i64 x])/\Rd w' v p/\FarV w v/\Below w.heap.size w w'
theorem TellsF.r{w w':World}{x:Int}{p:List UInt8}{e:Ending}(h:TellsF w x p e w'):TellsR w x p e w':=by
 obtain⟨v,h1,h2,_,h3⟩:=h;exact⟨v,h1,h2,h3⟩
theorem ref_look(h:RefIn w rb vl vw Tl Tw H d)(ok:d.Ok)(x:Int):lookL (bareT Tw) x=d.wait x/\lookL (bareT Tl) x=d.last x:=by
 rw[h.ew,h.el];exact⟨lookL_held ok.iw x,lookL_held ok.il x⟩
theorem rread_far(h:RefIn w rb vl vw Tl Tw H d)(ok:d.Ok){a:Int}:Calls Tryz.prog 114 #[.pointer (some ⟨rb,0,none⟩),.int .i64 a] w (TellsF w (faX d a) (rdB d a)):=by
 have K:=rfault_any h (a:=a);obtain⟨i0,hi,hz0,hz1,hz2⟩:=info_parts info_u8;have c1:=h.c1;have c2:=h.c2;have KW:=find_any h.tw.rd (x:=a);have KL:=find_any h.tl.rd (x:=a);obtain⟨LW,LL⟩:=ref_look h ok a
 by_cases hf:faX d a=0
 ·have eR:rdB d a=(atD d a).getD []:=by unfold rdB;rw[if_pos hf]
  rw[hf]at K ⊢;rw[eR];obtain⟨aw,cw,rfl⟩:=h.tw.rd.form;obtain⟨al,cl,rfl⟩:=h.tl.rd.form;cases hw:d.wait a with
  |some p=>
   have eA:(atD d a).getD []=p:=by unfold atD;rw[hw];rfl
   rw[eA];rw[hw]at LW
   go_enter Tryz.func114,Tryz.ntmps114
   go_wp2_with fail
   refine K.mono ?_
   rintro _ wq ⟨rfl,hwq⟩;rw[hwq];clear hwq wq K
   go_wp2_with fail
   refine KW.mono ?_
   rintro _ wq ⟨hwq,⟨rfl,e1⟩|⟨k,rfl,hk,e1⟩⟩
   ·rw[LW]at e1;cases e1
   ·rw[hwq];rw[LW]at e1;cases e1;clear hwq wq KW KL;obtain⟨b,off,rfl,x0,x1,r1⟩:=h.tw.rd.at hk;have hkw:=h.len_w;have hk':(k:Int)<(Tw.length:Int):=by omega
    have hk0:(k:Int)>=0:=by omega
    have hin:(Tw.getD k default).2.1.length<=100000:=by
     have h5:=ok.iw a _ hw;omega
    obtain⟨t3,ht3⟩:∃t,t=(Tw.getD k default).2.2:=⟨_,rfl⟩;obtain⟨t2,ht2⟩:∃t,t=(Tw.getD k default).2.1:=⟨_,rfl⟩;rw[<-ht3]at x1 r1;rw[<-ht2]at r1 hin;obtain⟨ta,tc,rfl⟩:=r1.form;have bA:Below w.heap.size w (w.alloc (.cells #[] 5)):=belA _ _;have HT2:Hid _:=ht2;have oA:=own_new12 w 5;have I1:=h.below bA;have y2:=I1.c2;have hlt:b<w.heap.size:=by
     have e:=x1;unfold World.cell? at e
     by_cases hb:b<w.heap.size
     ·exact hb
     ·rw[Array.getElem?_eq_none (by show w.heap.size<=b;omega)]at e;cases e
    have y9:=(bA.cell (p:=⟨b,off+k*2+1,none⟩) hlt).trans x1;have r9:=r1.below bA;have hl9:0+t2.length<=1000000:=by omega
    clear h LW LL hw x0 x1 r1 I1 ht3 ht2 eR eA
    go_wp2_with (first|(at_builtin;go_loud (refine wpList_append_rd _ rfl _ _ 36 rfl w.heap.size 5 i0 Tryz.underlying36 hi hz0 hz1 hz2 (.slice (some ⟨w.heap.size,0,none⟩) 0 0) 0 [] rfl oA (.slice ta t2.length tc) t2 rfl r9 hl9 bA.size ?_);intro v4 w4 h4 g4))
    have FIN:Hid (Rd w4 v4 t2/\FarV w v4/\Below w.heap.size w w4):=by
     rw[Nat.zero_add,List.nil_append]at h4;exact⟨Rd.owned h4,FarV.own h4,bA.grown g4 bA.size (fun q hq=>by cases hq;exact Nat.le_refl _)⟩
    clear h4 g4 oA r9;go_wp2;refine bodyPost_ret (v:=.tuple #[v4,.int .i64 0]) (by simp[results,Tryz.results114,go_sem]) rfl ?_
    exact⟨_,rfl,by rw[<-HT2.out];exact FIN.out⟩
  |none=>
   rw[hw]at LW;cases hl:d.last a with
   |some p=>
    have eA:(atD d a).getD []=p:=by unfold atD;rw[hw,hl];rfl
    rw[eA];rw[hl]at LL
    go_enter Tryz.func114,Tryz.ntmps114
    go_wp2_with fail
    refine K.mono ?_
    rintro _ wq ⟨rfl,hwq⟩;rw[hwq];clear hwq wq K
    go_wp2_with fail
    refine KW.mono ?_
    rintro _ wq ⟨hwq,⟨rfl,e1⟩|⟨k,rfl,hk,e1⟩⟩
    ·rw[hwq];clear hwq wq KW e1
     go_wp2_with fail
     refine KL.mono ?_
     rintro _ wq ⟨hwq,⟨rfl,e1⟩|⟨k,rfl,hk,e1⟩⟩
     ·rw[LL]at e1;cases e1
     ·rw[hwq];rw[LL]at e1;cases e1;clear hwq wq KL;obtain⟨b,off,rfl,x0,x1,r1⟩:=h.tl.rd.at hk;have hkw:=h.len_l;have hk':(k:Int)<(Tl.length:Int):=by omega
      have hk0:(k:Int)>=0:=by omega
      have hin:(Tl.getD k default).2.1.length<=100000:=by
       have h5:=ok.il a _ hl;omega
      obtain⟨t3,ht3⟩:∃t,t=(Tl.getD k default).2.2:=⟨_,rfl⟩;obtain⟨t2,ht2⟩:∃t,t=(Tl.getD k default).2.1:=⟨_,rfl⟩;rw[<-ht3]at x1 r1;rw[<-ht2]at r1 hin;obtain⟨ta,tc,rfl⟩:=r1.form;have bA:Below w.heap.size w (w.alloc (.cells #[] 5)):=belA _ _;have HT2:Hid _:=ht2;have oA:=own_new12 w 5;have I1:=h.below bA;have y1:=I1.c1;have hlt:b<w.heap.size:=by
       have e:=x1;unfold World.cell? at e
       by_cases hb:b<w.heap.size
       ·exact hb
       ·rw[Array.getElem?_eq_none (by show w.heap.size<=b;omega)]at e;cases e
      have y9:=(bA.cell (p:=⟨b,off+k*2+1,none⟩) hlt).trans x1;have r9:=r1.below bA;have hl9:0+t2.length<=1000000:=by omega
      clear h LW LL hw x0 x1 r1 I1 ht3 ht2 eR eA hl
      go_wp2_with (first|(at_builtin;go_loud (refine wpList_append_rd _ rfl _ _ 36 rfl w.heap.size 5 i0 Tryz.underlying36 hi hz0 hz1 hz2 (.slice (some ⟨w.heap.size,0,none⟩) 0 0) 0 [] rfl oA (.slice ta t2.length tc) t2 rfl r9 hl9 bA.size ?_);intro v4 w4 h4 g4))
      have FIN:Hid (Rd w4 v4 t2/\FarV w v4/\Below w.heap.size w w4):=by
       rw[Nat.zero_add,List.nil_append]at h4;exact⟨Rd.owned h4,FarV.own h4,bA.grown g4 bA.size (fun q hq=>by cases hq;exact Nat.le_refl _)⟩
      clear h4 g4 oA r9;go_wp2;refine bodyPost_ret (v:=.tuple #[v4,.int .i64 0]) (by simp[results,Tryz.results114,go_sem]) rfl ?_
      exact⟨_,rfl,by rw[<-HT2.out];exact FIN.out⟩
    ·rw[LW]at e1;cases e1
   |none=>
    have eA:(atD d a).getD []=[]:=by unfold atD;rw[hw,hl];rfl
    rw[eA];rw[hl]at LL
    go_enter Tryz.func114,Tryz.ntmps114
    go_wp2_with fail
    refine K.mono ?_
    rintro _ wq ⟨rfl,hwq⟩;rw[hwq];clear hwq wq K
    go_wp2_with fail
    refine KW.mono ?_
    rintro _ wq ⟨hwq,⟨rfl,e1⟩|⟨k,rfl,hk,e1⟩⟩
    ·rw[hwq];clear hwq wq KW e1
     go_wp2_with fail
     refine KL.mono ?_
     rintro _ wq ⟨hwq,⟨rfl,e1⟩|⟨k,rfl,hk,e1⟩⟩
     ·rw[hwq];clear hwq wq KL e1;go_wp2;refine bodyPost_ret (v:=.tuple #[.slice none 0 0,.int .i64 0]) (by simp[results,Tryz.results114,go_sem]) rfl ?_
      exact⟨_,rfl,Or.inl ⟨none,0,rfl,rfl,Nat.zero_le _,fun _=>rfl⟩,FarV.nil _ _ _,Below.refl _ _⟩
     ·rw[LL]at e1;cases e1
    ·rw[LW]at e1;cases e1
 ·have eR:rdB d a=[]:=by unfold rdB;rw[if_neg hf]
  rw[eR];obtain⟨x,hx⟩:∃x,x=faX d a:=⟨_,rfl⟩;rw[<-hx]at hf K ⊢;clear eR h hx KW KL;have q1:(x==0)=false:=beq_eq_false_iff_ne.2 hf
  go_enter Tryz.func114,Tryz.ntmps114
  go_wp2_with fail
  refine K.mono ?_
  rintro _ wq ⟨rfl,hwq⟩;rw[hwq];clear hwq wq K;go_wp2;refine bodyPost_ret (v:=.tuple #[.slice none 0 0,.int .i64 x]) (by simp[results,Tryz.results114,go_sem]) rfl ?_
  exact⟨_,rfl,Or.inl ⟨none,0,rfl,rfl,Nat.zero_le _,fun _=>rfl⟩,FarV.nil _ _ _,Below.refl _ _⟩
end
end Go.Proofs.YtddnfhfangfgeaaGreat.Gf
