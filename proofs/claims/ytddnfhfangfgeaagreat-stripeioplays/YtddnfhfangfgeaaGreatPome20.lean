/- JOINED: DkLay, DkKeys, DkBy, DkTold, DkSame, DkLawM, DkLook, DkRa. -/
import Derived.Shelf.SlIterI.Nil
import Derived.Shelf.SortM.Plain
import Derived.Shelf.SortM.SortNone
import Derived.Ground.GgzProg
import Derived.Ground.SlgmProg
import Derived.Test.YtddnfhfangfgeaaGreatPome19
set_option maxHeartbeats 1000000
set_option maxRecDepth 100000
namespace Go.Proofs.YtddnfhfangfgeaaGreat.Gf
open Go.RowKit Go.Maps Go.Sort Go.Shelf
def laykeysA_ren:Go.Shelf.Ren:=⟨fun|7=>142|10=>177|n=>n,fun|23=>119|26=>3|3=>36|28=>183|0=>0|27=>182|33=>161|4=>4|n=>n,fun|n=>n⟩
theorem laykeysA:Go.Proofs.SlLaysZI.n7 Tryz.prog laykeysA_ren where
 mixed:=Zk
 f7:=⟨ "maps.Keys[map[int][]byte,int,[]byte]",Zd,Tryz.func142.trans (congrArg some Zk)⟩
 f10:=⟨ "maps.Keys[map[int][]byte,int,[]byte]$1",Zd,Tryz.func177.trans (congrArg some Zk)⟩
 t0:=Tryz.underlying0
 a0:=Tryz.isAgg0
 z0:=Tryz.sizeOf0
 v0:=Tryz.zeroValue0
 t4:=Tryz.underlying4
 a4:=Tryz.isAgg4
 z4:=Tryz.sizeOf4
 v4:=Tryz.zeroValue4
 t23:=Tryz.underlying119
 a23:=Tryz.isAgg119
 z23:=Tryz.sizeOf119
 v23:=Tryz.zeroValue119
 t26:=Tryz.underlying3
 a26:=Tryz.isAgg3
 z26:=Tryz.sizeOf3
 v26:=Tryz.zeroValue3
 t27:=Tryz.underlying182
 a27:=Tryz.isAgg182
 z27:=Tryz.sizeOf182
 v27:=Tryz.zeroValue182
 t28:=Tryz.underlying183
 a28:=Tryz.isAgg183
 z28:=Tryz.sizeOf183
 v28:=Tryz.zeroValue183
 t33:=Tryz.underlying161
 a33:=Tryz.isAgg161
 z33:=Tryz.sizeOf161
 v33:=Tryz.zeroValue161
def laysortedA_ren:Go.Shelf.Ren:=⟨fun|6=>141|8=>175|9=>176|11=>206|13=>208|12=>207|23=>231|24=>232|14=>222|15=>223|16=>224|17=>225|18=>226|19=>227|20=>228|21=>229|22=>230|25=>238|26=>239|27=>240|28=>241|29=>242|30=>243|31=>249|n=>n,fun|26=>3|28=>183|24=>45|0=>0|3=>3|37=>118|48=>165|50=>251|4=>4|40=>243|39=>242|45=>247|5=>5|9=>9|51=>255|55=>259|57=>265|58=>266|33=>161|n=>n,fun|n=>n⟩
theorem laysortedA:Go.Proofs.SlLaysZI.n6 Tryz.prog laysortedA_ren where
 mixed:=Zk
 f6:=⟨ "slices.Sorted[int]",Zd,Tryz.func141.trans (congrArg some Zk)⟩
 f8:=⟨ "slices.Collect[int]",Zd,Tryz.func175.trans (congrArg some Zk)⟩
 f11:=⟨ "slices.AppendSeq[[]int,int]",Zd,Tryz.func206.trans (congrArg some Zk)⟩
 t0:=Tryz.underlying0
 a0:=Tryz.isAgg0
 z0:=Tryz.sizeOf0
 v0:=Tryz.zeroValue0
 t24:=Tryz.underlying45
 a24:=Tryz.isAgg45
 z24:=Tryz.sizeOf45
 v24:=Tryz.zeroValue45
 t26:=Tryz.underlying3
 a26:=Tryz.isAgg3
 z26:=Tryz.sizeOf3
 v26:=Tryz.zeroValue3
 t28:=Tryz.underlying183
 a28:=Tryz.isAgg183
 z28:=Tryz.sizeOf183
 v28:=Tryz.zeroValue183
 i26:=Zk
def laysortA_ren:Go.Shelf.Ren:=⟨fun|5=>176|8=>208|7=>207|19=>231|20=>232|10=>222|11=>223|12=>224|13=>225|14=>226|15=>227|16=>228|17=>229|18=>230|30=>238|31=>239|32=>240|33=>241|34=>242|35=>243|40=>249|n=>n,fun|23=>45|25=>3|3=>3|32=>118|22=>45|0=>0|44=>165|46=>251|4=>4|36=>243|35=>242|41=>247|5=>5|9=>9|53=>255|57=>259|63=>265|64=>266|n=>n,fun|n=>n⟩
theorem laysortA:Go.Proofs.SlLaysM.n5 Tryz.prog laysortA_ren where
 mixed:=Zk
 f5:=⟨ "slices.Sort[[]int,int]",Zd,Tryz.func176.trans (congrArg some Zk)⟩
 f7:=⟨ "slices.pdqsortOrdered[int]",Zd,Tryz.func207.trans (congrArg some Zk)⟩
 f8:=Tryz.func208.trans (congrArg some Zk)
 f10:=⟨ "slices.insertionSortOrdered[int]",Zd,Tryz.func222.trans (congrArg some Zk)⟩
 f11:=⟨ "slices.heapSortOrdered[int]",Zd,Tryz.func223.trans (congrArg some Zk)⟩
 f12:=⟨ "slices.breakPatternsOrdered[int]",Zd,Tryz.func224.trans (congrArg some Zk)⟩
 f13:=⟨ "slices.choosePivotOrdered[int]",Zd,Tryz.func225.trans (congrArg some Zk)⟩
 f14:=⟨ "slices.reverseRangeOrdered[int]",Zd,Tryz.func226.trans (congrArg some Zk)⟩
 f15:=⟨ "slices.partialInsertionSortOrdered[int]",Zd,Tryz.func227.trans (congrArg some Zk)⟩
 f16:=⟨ "cmp.Less[int]",Zd,Tryz.func228.trans (congrArg some Zk)⟩
 f17:=⟨ "slices.partitionEqualOrdered[int]",Zd,Tryz.func229.trans (congrArg some Zk)⟩
 f18:=⟨ "slices.partitionOrdered[int]",Zd,Tryz.func230.trans (congrArg some Zk)⟩
 f19:=Tryz.func231.trans (congrArg some Zk)
 f20:=Tryz.func232.trans (congrArg some Zk)
 f30:=⟨ "slices.siftDownOrdered[int]",Zd,Tryz.func238.trans (congrArg some Zk)⟩
 f31:=Tryz.func239.trans (congrArg some Zk)
 f32:=Tryz.func240.trans (congrArg some Zk)
 f33:=⟨ "slices.medianAdjacentOrdered[int]",Zd,Tryz.func241.trans (congrArg some Zk)⟩
 f34:=⟨ "slices.medianOrdered[int]",Zd,Tryz.func242.trans (congrArg some Zk)⟩
 f35:=⟨ "cmp.isNaN[int]",Zd,Tryz.func243.trans (congrArg some Zk)⟩
 f40:=⟨ "slices.order2Ordered[int]",Zd,Tryz.func249.trans (congrArg some Zk)⟩
 t0:=Tryz.underlying0
 a0:=Tryz.isAgg0
 z0:=Tryz.sizeOf0
 v0:=Tryz.zeroValue0
 t3:=Tryz.underlying3
 a3:=Tryz.isAgg3
 z3:=Tryz.sizeOf3
 v3:=Tryz.zeroValue3
 t4:=Tryz.underlying4
 a4:=Tryz.isAgg4
 z4:=Tryz.sizeOf4
 v4:=Tryz.zeroValue4
 t5:=Tryz.underlying5
 a5:=Tryz.isAgg5
 z5:=Tryz.sizeOf5
 v5:=Tryz.zeroValue5
 t9:=Tryz.underlying9
 a9:=Tryz.isAgg9
 z9:=Tryz.sizeOf9
 v9:=Tryz.zeroValue9
 t22:=Tryz.underlying45
 a22:=Tryz.isAgg45
 z22:=Tryz.sizeOf45
 v22:=Tryz.zeroValue45
 t23:=Tryz.underlying45
 a23:=Tryz.isAgg45
 z23:=Tryz.sizeOf45
 v23:=Tryz.zeroValue45
 t25:=Tryz.underlying3
 a25:=Tryz.isAgg3
 z25:=Tryz.sizeOf3
 v25:=Tryz.zeroValue3
 t32:=Tryz.underlying118
 a32:=Tryz.isAgg118
 z32:=Tryz.sizeOf118
 v32:=Tryz.zeroValue118
 t35:=Tryz.underlying242
 a35:=Tryz.isAgg242
 z35:=Tryz.sizeOf242
 v35:=Tryz.zeroValue242
 t36:=Tryz.underlying243
 a36:=Tryz.isAgg243
 z36:=Tryz.sizeOf243
 v36:=Tryz.zeroValue243
 t41:=Tryz.underlying247
 a41:=Tryz.isAgg247
 z41:=Tryz.sizeOf247
 v41:=Tryz.zeroValue247
 t44:=Tryz.underlying165
 a44:=Tryz.isAgg165
 z44:=Tryz.sizeOf165
 v44:=Tryz.zeroValue165
 t46:=Tryz.underlying251
 a46:=Tryz.isAgg251
 z46:=Tryz.sizeOf251
 v46:=Tryz.zeroValue251
 t53:=Tryz.underlying255
 a53:=Tryz.isAgg255
 z53:=Tryz.sizeOf255
 v53:=Tryz.zeroValue255
 t57:=Tryz.underlying259
 a57:=Tryz.isAgg259
 z57:=Tryz.sizeOf259
 v57:=Tryz.zeroValue259
 t63:=Tryz.underlying265
 a63:=Tryz.isAgg265
 z63:=Tryz.sizeOf265
 v63:=Tryz.zeroValue265
 t64:=Tryz.underlying266
 a64:=Tryz.isAgg266
 z64:=Tryz.sizeOf266
 v64:=Tryz.zeroValue266
set_option linter.unusedVariables false
set_option linter.unusedSimpArgs false
def keysL(f:Int->Option Value)(S:Nat):List Int:=((List.range S).map fun i:Nat=>(i:Int)).filter fun x=>(f x).isSome
theorem keysL_mem{f:Int->Option Value}{S:Nat}{x:Int}:x∈keysL f S↔0<=x/\x<(S:Int)/\(f x).isSome=true:=by
 unfold keysL;rw[List.mem_filter,List.mem_map];constructor
 ·rintro⟨⟨i,hi,rfl⟩,h⟩;rw[List.mem_range]at hi;exact⟨Zo,Zo,h⟩
 ·rintro⟨h0,h1,h2⟩;exact⟨⟨x.toNat,List.mem_range.2 Zo,Zo⟩,h2⟩
theorem keysL_rising(f:Int->Option Value)(S:Nat):(keysL f S).Pairwise (·<·):=by
 unfold keysL;refine List.Pairwise.filter _ ?_
 rw[List.pairwise_map];exact List.pairwise_lt_range.imp (fun h=>Zo)
theorem keysL_nodup(f:Int->Option Value)(S:Nat):(keysL f S).Nodup:=(keysL_rising f S).imp (fun h=>Zo)
theorem keysL_length(f:Int->Option Value)(S:Nat):(keysL f S).length<=S:=by
 unfold keysL;have:=List.length_filter_le (fun x=>(f x).isSome) ((List.range S).map fun i:Nat=>(i:Int));simpa using this
theorem sorted_keys{f:Int->Option Value}{S:Nat}{ss:List Int}(h:ss.Perm (keysL f S)):ss.mergeSort (fun x y=>decide (x<=y))=keysL f S:=by
 have tr:∀a b c:Int,decide (a<=b)=true->decide (b<=c)=true->decide (a<=c)=true:=fun a b c h1 h2=>by simp only[decide_eq_true_eq]at*;omega
 have tO:∀a b:Int,(decide (a<=b)||decide (b<=a))=true:=fun a b=>by simp only[Bool.or_eq_true,decide_eq_true_eq];omega
 refine List.Perm.eq_of_pairwise (le:=fun a b=>decide (a<=b)=true) (fun a b _ _ h1 h2=>?_) (List.pairwise_mergeSort tr tO ss) ((keysL_rising f S).imp (fun h=>Zy Zo)) ((List.mergeSort_perm ss _).trans h);simp only[decide_eq_true_eq]at h1 h2;omega
theorem sortsA(m:Nat):AnyZI.SortsIn Tryz.prog laysortedA_ren Fence.wide m:=
 ⟨fun blk off cap ss W hH hblk hsz=>callsIn_wide.2 (AnyM.slices_Sort_int laysortA blk off cap ss W hH hblk hsz),
  fun p cap W=>callsIn_wide.2 (AnyM.slices_Sort_int_none laysortA p cap W)⟩
theorem keys_call(mb:Option Nat)(W:World):Calls Tryz.prog 142 #[.map mb] W fun e w'=>e= .returned (.func (.func 177) #[] #[.pointer (some ⟨W.heap.size,0,none⟩)])/\w'=W.alloc (.cells #[.map mb] 119):=
 (callsIn_wide (n:=5)).1 (AnyZI.keys_in laykeysA Fence.wide 5 trivial rfl mb W)
theorem sorted_call{w:World}{b S:Nat}{f:Int->Option Value}(h:MapI Tryz.prog 3 w b S f)(hS:S<=4096):
  Calls Tryz.prog 141 #[.func (.func 177) #[] #[.pointer (some ⟨w.heap.size,0,none⟩)]] (w.alloc (.cells #[.map (some b)] 119)) fun e w'=>∃v,e= .returned v/\w'.ownsRow w.heap.size 3 1 v (keysL f S).length ((keysL f S).map encZ)/\Below w.heap.size w w':=by
 have hbl:=h.lt;obtain⟨D0,hown,hk,hf⟩:=h;obtain⟨es,hE,hp,hl⟩:=hown.entries keyed_int;have hkI:∀p∈es,∃x,p.1= .int .i64 x:=by
  intro p hp1;obtain⟨x,e,_⟩:=hk p.1 (by
   rw[hE,Maps.has_eq,List.any_eq_true];exact⟨p,hp1,WideAt.sameKey_self (hl p hp1)⟩)
  exact⟨x,e⟩
 have hperm:(keysL f S).Perm (intKeys D0):=by
  rw[hE];refine perm_intKeys hp hkI (keysL_nodup f S) fun x=>?_
  rw[<-hE,keysL_mem]
  rcases hf x with⟨h1,h2⟩|⟨v,h1,h2,_⟩
  ·rw[h1,h2];simp
  ·rw[h2,h1];obtain⟨y,e,hy⟩:=hk _ h2;simp at e;subst e;simp[hy]
 have hsz:Maps.size D0<=4096:=Nat.le_trans (by
  obtain⟨es',clock,hb,F,hs,rfl⟩:=hown;simp[Maps.size,length_sorted];exact hs) hS
 have hseq:SeqGives Fence.wide 2 Tryz.prog 177 #[.pointer (some ⟨w.heap.size,0,none⟩)] encZ (fun ss=>ss.Perm (intKeys D0)) (Maps.size D0) (w.alloc (.cells #[.map (some b)] 119)):=
  AnyZI.keys_gives (ρ:=laykeysA_ren) {laykeysA with} Fence.wide _ trivial rfl Zo w.heap.size b S D0 _ Zs Zs (by
   obtain⟨es,clock,hb,Ft,hs,hD⟩:=hown;exact⟨es,clock,(Below.heap_alloc _ _ b hbl).trans hb,Ft,hs,hD⟩)
 have cS:=AnyZI.sorted_in laysortedA Fence.wide 5 trivial trivial trivial trivial rfl Zo (sortsA _) (enters_of Tryz.func176 Zk rfl) 177 #[.pointer (some ⟨w.heap.size,0,none⟩)] trivial (enters_of Tryz.func177 Zk rfl) _ _ Zl Zo _ hseq;refine(Calls.mono ((callsIn_wide (n:=5)).1 cS) ?_);rintro e w' ⟨v,ss,rfl,hS,hrow,hnil,hb⟩;refine⟨v,rfl,?_,((Below.refl _ w).alloc Zr _).trans (hb.mono Zs)⟩;have hp2:=hS.trans hperm.symm;have e1:=sorted_keys hp2;rw[e1,hp2.length_eq]at hrow;exact ownsRow_base hrow Zs
end Go.Proofs.YtddnfhfangfgeaaGreat.Gf
namespace Go.Proofs.YtddnfhfangfgeaaGreat.Gf
set_option linter.unusedVariables false
set_option linter.unusedSimpArgs false
open Go.RowKit
abbrev TH:=Int×List UInt8×Value
def cellsT(T:List TH):List Value:=T.flatMap fun t=>[.int .i64 t.1,t.2.2]
def bareT(T:List TH):List (Int×List UInt8):=T.map fun t=>(t.1,t.2.1)
theorem cellsT_length(T:List TH):(cellsT T).length=T.length*2:=by
 unfold cellsT
 induction T with
 |nil=>rfl
 |cons t T ih=>simp[List.flatMap_cons,ih];omega
theorem cellsT_snoc(T:List TH)(t:TH):cellsT (T++[t])=cellsT T++[.int .i64 t.1,t.2.2]:=by unfold cellsT;simp
structure OwnT(w:World)(base:Nat)(v:Value)(T:List TH):Prop where
 row:w.ownsRow base 62 2 v T.length (cellsT T)
 each:∀t∈T,w.ownsRow base 5 1 t.2.2 t.2.1.length (t.2.1.map vb)
def OwnH(w:World)(base:Nat)(v:Value)(L:List (Int×List UInt8)):Prop:=∃T,bareT T=L/\OwnT w base v T
theorem info_held:(Tryz.prog.info? 62).map (fun i=>(i.zero,i.size,i.bytes))=some (some (.agg #[.int .i64 0,.slice none 0 0]),2,32):=Zk
theorem info_parts2{t:Nat}{a:Value}{b c:Nat}(h:(Tryz.prog.info? t).map (fun i=>(i.zero,i.size,i.bytes))=some (some a,b,c)):∃i,Tryz.prog.info? t=some i/\i.zero=some a/\i.size=b/\i.bytes=c:=by
 cases hi:Tryz.prog.info? t with
 |none=>rw[hi]at h;cases h
 |some i=>rw[hi]at h;simp at h;exact⟨i,rfl,h.1,h.2.1,h.2.2⟩
theorem heldL_keys(f:Int->Option (List UInt8))(B C:Int->Nat)(S:Nat):heldL f S=(keysL (valI f B C) S).map fun x=>(x,(f x).getD []):=by
 induction S with
 |zero=>rfl
 |succ S ih=>
  rw[heldL_succ,ih];unfold keysL;rw[List.range_succ,List.map_append,List.filter_append,List.map_append];congr 1;unfold valI;cases h:f (S:Int)<;>simp[h]
theorem keys_some{f:Int->Option (List UInt8)}{B C:Int->Nat}{S k:Nat}(h:k<(keysL (valI f B C) S).length):∃p,f ((keysL (valI f B C) S).getD k 0)=some p:=by
 have h1:(keysL (valI f B C) S).getD k 0∈keysL (valI f B C) S:=by
  rw[show(keysL (valI f B C) S).getD k 0=(keysL (valI f B C) S)[k] by simp[List.getD,h]];exact List.getElem_mem h
 have h2:=(keysL_mem.1 h1).2.2;unfold valI at h2;cases hf:f ((keysL (valI f B C) S).getD k 0)with
 |none=>unfold valI at hf;rw[hf]at h2;cases h2
 |some p=>exact⟨p,rfl⟩
section
variable {w:World}
theorem row_at{base e size n:Nat}{v:Value}{xs:List Value}(h:w.ownsRow base e size v n xs){g:Nat}(hg:v.ownBlock=some g):base<=g/\g<w.heap.size/\∃cur,w.heap[g]? =some (.cells cur e (0,0)):=by
 obtain⟨h0,⟨h,_⟩|⟨g',cap,cur,hv,hg',hh,r⟩⟩:=h
 ·rw[h]at hg;cases hg
 ·rw[hv]at hg;cases hg;exact⟨hg',(Array.getElem?_eq_some_iff.1 hh).1,cur,hh⟩
theorem owns_slice{base e size n:Nat}{v:Value}{xs:List Value}(h:w.ownsRow base e size v n xs):∃a c,v= .slice a n c:=by
 obtain⟨h0,⟨h,e⟩|⟨g',cap,cur,hv,hg',hh,r⟩⟩:=h
 ·exact⟨none,0,by rw[h,e]⟩
 ·exact⟨_,_,hv⟩
theorem owns_low{base base' e size n:Nat}{v:Value}{xs:List Value}(h:w.ownsRow base e size v n xs)(hb:base'<=base):w.ownsRow base' e size v n xs:=by
 obtain⟨h0,h|⟨g,cap,cur,hv,hg,r⟩⟩:=h
 ·exact⟨h0,Or.inl h⟩
 ·exact⟨h0,Or.inr ⟨g,cap,cur,hv,Nat.le_trans hb hg,r⟩⟩
theorem owns_after{base e size n:Nat}{v:Value}{xs:List Value}{w':World}(h:w.ownsRow base e size v n xs)(hb:Below w.heap.size w w'):w'.ownsRow base e size v n xs:=
 owns_block h (fun g hg=>hb.block g (row_at h hg).2.1)
theorem OwnT.after{base:Nat}{v:Value}{T:List TH}{w':World}(h:OwnT w base v T)(hb:Below w.heap.size w w'):OwnT w' base v T:=⟨owns_after h.row hb,fun t ht=>owns_after (h.each t ht) hb⟩
theorem OwnT.snoc{base:Nat}{vl v:Value}{T:List TH}{x:Int}{p:List UInt8}(h:OwnT w base vl T)(hr:w.ownsRow base 5 1 v p.length (p.map vb)){v':Value}{w':World}
  (h':w'.ownsRow base 62 2 v' (T.length+1) (cellsT T++[.int .i64 x,v])) (hg:(w.alloc (.cells #[.int .i64 x,v] 62)).grownBy w' vl.ownBlock):OwnT w' base v' (T++[(x,p,v)]):=by
 have key:∀{v2:Value} {q:List UInt8},w.ownsRow base 5 1 v2 q.length (q.map vb)->w'.ownsRow base 5 1 v2 q.length (q.map vb):=by
  intro v2 q h2;refine owns_block h2 (fun g hg2=>?_);obtain⟨_,hl,cur,hc⟩:=row_at h2 hg2;refine(hg.block g Zm (fun e=>?_)).trans (Below.heap_alloc w _ g hl);obtain⟨_,_,cur',hc'⟩:=row_at h.row e.symm;rw[hc]at hc';simp at hc'
 refine⟨?_,fun t ht=>?_⟩
 ·rw[cellsT_snoc,List.length_append];exact h'
 ·rcases List.mem_append.1 ht with h1|h1
  ·exact key (h.each t h1)
  ·simp at h1;subst h1;exact key hr
theorem bareT_snoc(T:List TH)(x:Int)(p:List UInt8)(v:Value):bareT (T++[(x,p,v)])=bareT T++[(x,p)]:=by unfold bareT;simp
theorem by_any{m S:Nat}{f:Int->Option (List UInt8)}{B C:Int->Nat}(h:MapI Tryz.prog 3 w m S (valI f B C))(hf:InS S f)(hS:S<=4096)(hr:∀x p,f x=some p->Rd w (.slice (some ⟨B x,0,none⟩) p.length (C x)) p):
  Calls Tryz.prog 97 #[.map (some m)] w fun e w'=>∃v,e= .returned v/\OwnH w' w.heap.size v (heldL f S)/\Below w.heap.size w w':=by
 have K1:=keys_call (some m) w;have K2:=sorted_call h hS
 go_enter Tryz.func97,Tryz.ntmps97
 go_wp2_with fail
 refine K1.mono ?_
 rintro _ wq ⟨rfl,hwq⟩;rw[hwq];clear hwq wq K1
 go_wp2_with fail
 refine K2.mono ?_
 rintro _ w1 ⟨v1,rfl,O1,B1⟩;clear K2;obtain⟨i0,hi,hz0,hz1,hz2⟩:=info_parts2 info_held;obtain⟨ka,kc,rfl⟩:=owns_slice O1;obtain⟨Ks,hKs⟩:∃Ks,Ks=keysL (valI f B C) S:=⟨_,rfl⟩;have hKl:Ks.length<=4096:=by rw[hKs];exact Nat.le_trans (keysL_length _ _) hS
 have hKm:∀k,k<Ks.length->∃p,f (Ks.getD k 0)=some p:=fun k hk=>by rw[hKs]at hk ⊢;exact keys_some hk
 have hFin:Hid (Ks.map (fun x=>(x,(f x).getD []))=heldL f S):=by
  show _=_
  rw[heldL_keys f B C S,<-hKs]
 rw[<-hKs]at O1 ⊢;clear hKs;have START:Hid (∃T,bareT T=(Ks.take 0).map (fun x=>(x,(f x).getD []))/\OwnT w1 w1.heap.size (.slice none 0 0) T/\Below w1.heap.size w1 w1):=⟨[],rfl,⟨⟨rfl,Or.inl ⟨rfl,rfl⟩⟩,fun t ht=>by cases ht⟩,Zf⟩;go_wp2
 go_loopw [3,10] (fun vl i wr=>∃k:Nat,k<=Ks.length/\i= .int .i64 (k:Int)/\∃T,bareT T=(Ks.take k).map (fun x=>(x,(f x).getD []))/\OwnT wr w1.heap.size vl T/\Below w1.heap.size w1 wr) (fun _ i _=>Ks.length-(intOf i).toNat)
 case atStart=>exact⟨0,Zz,rfl,START.out⟩
 case round=>
  obtain⟨k,hk,rfl,T,hT,hO,hB⟩:=hrel;clear START;obtain⟨la,lc,rfl⟩:=owns_slice hO.row
  by_cases hlt:k<Ks.length
  ·have hlt':(k:Int)<(Ks.length:Int):=by omega
   have BW:Below w.heap.size w wr:=B1.trans (hB.mono B1.size);obtain⟨x,hx⟩:∃x,x=Ks.getD k 0:=⟨_,rfl⟩;obtain⟨p,hp⟩:=hKm k hlt;rw[<-hx]at hp;have hpx:=hf x p hp;have hwx:(Lit.int .i64 x).wf=true:=by simp[Lit.wf,IntKind.min,IntKind.max,IntKind.signed,IntKind.bits];omega
   obtain⟨kg,kc',e1,_,OK⟩:=owns_formD (owns_after O1 hB) (by omega:Ks.length≠0);obtain⟨rfl,rfl⟩:ka=some ⟨kg,0,none⟩/\kc=kc':=by simpa using e1
   have ck:wr.cell? ⟨kg,k,none⟩=some (.int .i64 x):=by
    have:=World.ownsRow.cellAt OK k Zo;rw[this,List.getElem?_map,List.getElem?_eq_getElem hlt,hx];simp[List.getD,hlt]
   have LK:=(h.below BW).look keyed_int under_map (zero_bytes wr) (key_int hwx);have e2:valI f B C x=some (.slice (some ⟨B x,0,none⟩) p.length (C x)):=by unfold valI;rw[hp];rfl
   rw[e2]at LK;simp only[Option.getD_some]at LK;have KC:=bclone_own ((hr x p hp).below BW) Zo;have hTl:Hid (T.length=k):=by
    have:=congrArg List.length hT;simp[bareT]at this
    show T.length=k
    omega
   have hT1:T.length+1<=5000:=by have:=hTl.out;omega
   have HT:Hid (bareT T++[(x,p)]=(Ks.take (k+1)).map (fun x=>(x,(f x).getD []))):=by
    show _=_
    rw[hT,List.take_add_one,List.getElem?_eq_getElem hlt,List.map_append];congr 1
    have:Ks[k]=x:=by rw[hx];simp[List.getD,hlt]
    simp[this,hp]
   clear e1 e2 OK O1 hx hpx hwx hp h hr hf hKm hT hS hFin B1
   go_wp2_with fail
   refine KC.mono ?_
   rintro _ w2 ⟨v2,rfl,R2,B2⟩;have hB2:Below w1.heap.size w1 w2:=hB.trans (B2.mono hB.size);have hO2:=hO.after B2;have R2':=owns_low R2 hB.size;have hsz:w1.heap.size<=(w2.alloc (.cells #[.int .i64 x,v2] 62)).heap.size:=by simp;exact Nat.le_trans hB2.size Zo
   have hO3:=owns_after hO2.row ((Below.refl _ w2).alloc Zr (.cells #[.int .i64 x,v2] 62));obtain⟨va,vc,rfl⟩:=owns_slice R2;clear KC ck LK hO B2 R2 hB BW;have hnews:∀j u,[Value.int .i64 x,.slice va p.length vc][j]? =some u->(w2.alloc (.cells #[.int .i64 x,.slice va p.length vc] 62)).cell? ((⟨w2.heap.size,0,none⟩:Addr).add j)=some u:=by
    intro j u hj;rw[add_at,Nat.zero_add,World.cell?_alloc_new];rw[<-hj,<-Array.getElem?_toList]
   have hone:∀u∈[Value.int .i64 x,.slice va p.length vc],u.oneCell'=true:=by
    intro u hu;simp at hu
    rcases hu with rfl|rfl<;>rfl
   have h63:T.length+1<=maxLen:=Zl
   have hby:(T.length+1)*32<=140737488355328:=Zo
   go_wp2_with (at_builtin;go_loud (refine wpList_append_own_at _ rfl (.tmp 14) (.tmp 21) 59 rfl w1.heap.size 62 i0 _ 2 32 Tryz.underlying59 hi hz0 hz1 hz2 rfl Zd (.slice la T.length lc) T.length (cellsT T) rfl hO3 ⟨w2.heap.size,0,none⟩ 1 1 [.int .i64 x,.slice va p.length vc] rfl rfl hnews hone h63 hby hsz ?_);intro v' w9 hv9 hg9 _ _)
   have hO9:=OwnT.snoc hO2 R2' hv9 hg9;have E2:Hid (∃T,bareT T=(Ks.take (k+1)).map (fun x=>(x,(f x).getD []))/\OwnT w9 w1.heap.size v' T/\Below w1.heap.size w1 w9):=by
    refine⟨_,?_,hO9,?_⟩
    ·rw[bareT_snoc];exact HT.out
    ·exact(hB2.alloc hB2.size _).grown hg9 (by simp;exact Nat.le_trans hB2.size Zo) (fun q hq=>(row_at hO2.row hq).1)
   clear hO9 hv9 hg9 hnews hone hO3 R2' hO2 hB2 HT hi hz0 hz1 hz2;go_wp2;go_roundw
   case rel=>exact⟨k+1,Zo,Zg,E2.out⟩
   case measure=>simp[intOf];omega
  ·have hlt':¬(k:Int)<(Ks.length:Int):=by omega
   have hk':k=Ks.length:=Zo
   rw[hk',List.take_length,hFin.out]at hT;have FIN:Hid (OwnH wr w.heap.size (.slice la T.length lc) (heldL f S)/\Below w.heap.size w wr):=⟨⟨T,hT,owns_low hO.row B1.size,fun t ht=>owns_low (hO.each t ht) B1.size⟩,B1.trans (hB.mono B1.size)⟩;clear hT hO hB hFin hKm hKl O1 B1 h hr hf hk';go_wp2;go_ret;exact⟨_,rfl,FIN.out⟩
theorem dlasts_any{db:Nat}{G:Nat->Prop}{d:DkS}(h:DiskAt w db G d):Calls Tryz.prog 64 #[.pointer (some ⟨db,0,none⟩)] w fun e w'=>∃v,e= .returned v/\OwnH w' w.heap.size v (heldL d.last d.s)/\Below w.heap.size w w':=by
 obtain⟨mb,B,C,hM,_,_⟩:=h;have c2:=hM.c2;have c3:=hM.c3;have K:=by_any (hM.mp false) (hM.ins false) hM.s2 (fun x p hp=>Rd.owned (hM.row false x p hp));clear hM
 go_enter Tryz.func64,Tryz.ntmps64
 go_wp2_with fail
 refine K.mono ?_
 rintro _ wq ⟨v,rfl,h1,h2⟩;have F:Hid (OwnH wq w.heap.size v (heldL d.last d.s)/\Below w.heap.size w wq):=⟨h1,h2⟩;clear h1 h2 K;go_wp2;go_ret;exact⟨_,rfl,F.out⟩
theorem dwaits_any{db:Nat}{G:Nat->Prop}{d:DkS}(h:DiskAt w db G d):Calls Tryz.prog 63 #[.pointer (some ⟨db,0,none⟩)] w fun e w'=>∃v,e= .returned v/\OwnH w' w.heap.size v (heldL d.wait d.s)/\Below w.heap.size w w':=by
 obtain⟨mb,B,C,hM,_,_⟩:=h;have c2:=hM.c2;have c3:=hM.c3;have K:=by_any (hM.mp true) (hM.ins true) hM.s2 (fun x p hp=>Rd.owned (hM.row true x p hp));clear hM
 go_enter Tryz.func63,Tryz.ntmps63
 go_wp2_with fail
 refine K.mono ?_
 rintro _ wq ⟨v,rfl,h1,h2⟩;have F:Hid (OwnH wq w.heap.size v (heldL d.wait d.s)/\Below w.heap.size w wq):=⟨h1,h2⟩;clear h1 h2 K;go_wp2;go_ret;exact⟨_,rfl,F.out⟩
end
section
variable {w:World} {db:Nat} {G:Nat->Prop} {d:DkS}
structure Told(w:World)(G:Nat->Prop)(v:Value)(p:List UInt8):Prop where
 rd:Rd w v p
 ap:ApartG G v
theorem Told.below{v:Value}{p:List UInt8}{w':World}(h:Told w G v p)(hb:Below w.heap.size w w'):Told w' G v p:=⟨h.rd.below hb,h.ap⟩
theorem Told.grew{v:Value}{p:List UInt8}{w':World}{G':Nat->Prop}(h:Told w G v p)(g:Grew G w G' w'):Told w' G' v p:=⟨h.rd.grew h.ap g,h.ap.grew h.rd g⟩
theorem DiskAt.dead(h:DiskAt w db G d):w.cell? ⟨db,1,none⟩=some (.bool d.dead):=by
 obtain⟨mb,B,C,h1,_⟩:=h;exact h1.c1
theorem belA(w:World)(o:Obj):Below w.heap.size w (w.alloc o):=Zf.alloc Zr _
theorem _root_.Go.RowKit.Below.step12{w w1 w2:World}{B:Nat}(h:Below B w w1)(k:Below w1.heap.size w1 w2)(hB:B<=w1.heap.size):Below B w w2:=h.trans (k.mono hB)
end
instance:Inhabited TH:=⟨(0,[],undef)⟩
structure HeldAt(w:World)(b off:Nat)(t:TH):Prop where
 c0:w.cell? ⟨b,off,none⟩=some (.int .i64 t.1)
 c1:w.cell? ⟨b,off+1,none⟩=some t.2.2
 rd:Rd w t.2.2 t.2.1
def RdT(w:World)(v:Value)(T:List TH):Prop:=
 (∃a c,T=[]/\v= .slice a 0 c)∨(∃b off c,T≠[]/\v= .slice (some ⟨b,off,none⟩) T.length c/\T.length<=100000/\b<w.heap.size/\∀i,i<T.length->HeldAt w b (off+i*2) (T.getD i default))
theorem RdT.below{w w':World}{v:Value}{T:List TH}(h:RdT w v T)(hb:Below w.heap.size w w'):RdT w' v T:=by
 rcases h with h|⟨b,off,c,h1,h2,h3,h4,h5⟩
 ·exact Or.inl h
 ·refine Or.inr ⟨b,off,c,h1,h2,h3,Zu h4 hb.size,fun i hi=>?_⟩;have h6:=h5 i hi;exact⟨(hb.cell (p:=⟨b,off+i*2,none⟩) h4).trans h6.c0,(hb.cell (p:=⟨b,off+i*2+1,none⟩) h4).trans h6.c1,h6.rd.below hb⟩
theorem RdT.form{w:World}{v:Value}{T:List TH}(h:RdT w v T):∃a c,v= .slice a T.length c:=by
 rcases h with⟨a,c,rfl,rfl⟩|⟨b,off,c,_,rfl,_⟩
 ·exact⟨a,c,rfl⟩
 ·exact⟨_,c,rfl⟩
theorem RdT.len{w:World}{v:Value}{T:List TH}(h:RdT w v T):T.length<=100000:=by
 rcases h with⟨a,c,rfl,rfl⟩|⟨b,off,c,_,rfl,h,_⟩
 ·exact Zz
 ·exact h
theorem RdT.at{w:World}{a:Option Addr}{c:Nat}{T:List TH}(h:RdT w (.slice a T.length c) T){k:Nat}(hk:k<T.length):∃b off,a=some ⟨b,off,none⟩/\HeldAt w b (off+k*2) (T.getD k default):=by
 rcases h with⟨_,_,h1,_⟩|⟨b,off,c,h1,h2,h3,h4,h5⟩
 ·rw[h1]at hk;simp at hk
 ·simp at h2;exact⟨b,off,h2.1,h5 k hk⟩
theorem RdT.drewN{w:World}{v:Value}{T:List TH}(h:RdT w v T)(n:Nat):RdT (w.drewN n) v T:=h.below (Zf.drewN n)
theorem cellsT_at(T:List TH){i:Nat}(hi:i<T.length):(cellsT T)[i*2]? =some (.int .i64 (T.getD i default).1)/\(cellsT T)[i*2+1]? =some (T.getD i default).2.2:=by
 induction T generalizing i with
 |nil=>simp at hi
 |cons t T ih=>
  cases i with
  |zero=>exact⟨rfl,rfl⟩
  |succ i=>
   have h:=ih (i:=i) (by simpa using hi);have e:cellsT (t::T)= .int .i64 t.1::t.2.2::cellsT T:=by unfold cellsT;simp
   rw[e,show(i+1)*2=i*2+1+1 by omega];simp only[List.getElem?_cons_succ];exact h
theorem OwnT.rd{w:World}{base:Nat}{v:Value}{T:List TH}(h:OwnT w base v T)(hl:T.length<=100000):RdT w v T:=by
 by_cases h0:T=[]
 ·subst h0;obtain⟨a,c,e⟩:=owns_slice h.row;exact Or.inl ⟨a,c,rfl,e⟩
 ·obtain⟨_,⟨_,h1⟩|⟨g,cap,cur,hv,hg,hh,hc,hm,hs,ht⟩⟩:=h.row
  ·exact absurd (List.length_eq_zero_iff.1 h1) h0
  ·refine Or.inr ⟨g,0,cap,h0,hv,hl,(Array.getElem?_eq_some_iff.1 hh).1,fun i hi=>?_⟩;have ce:∀j,j<T.length*2->w.cell? ⟨g,j,none⟩=(cellsT T)[j]? :=by
    intro j hj;rw[<-ht,List.getElem?_take_of_lt hj];unfold World.cell?;rw[hh];simp
   obtain⟨e0,e1⟩:=cellsT_at T hi;have hm:T.getD i default∈T:=by
    rw[show T.getD i default=T[i] by simp[List.getD,hi]];exact List.getElem_mem hi
   refine⟨?_,?_,Rd.owned (h.each _ hm)⟩
   ·rw[Nat.zero_add,ce _ Zo,e0]
   ·rw[Nat.zero_add,ce _ Zo,e1]
def RdH(w:World)(v:Value)(L:List (Int×List UInt8)):Prop:=∃T,bareT T=L/\RdT w v T
theorem bareT_length(T:List TH):(bareT T).length=T.length:=by simp[bareT]
structure ToldT(w:World)(G:Nat->Prop)(v:Value)(T:List TH):Prop where
 rd:RdT w v T
 ap:ApartG G v
 each:∀t∈T,ApartG G t.2.2
theorem ToldT.below{w w':World}{G:Nat->Prop}{v:Value}{T:List TH}(h:ToldT w G v T)(hb:Below w.heap.size w w'):ToldT w' G v T:=⟨h.rd.below hb,h.ap,h.each⟩
theorem getD_mem12{T:List TH}{i:Nat}(hi:i<T.length):T.getD i default∈T:=by
 rw[show T.getD i default=T[i] by simp[List.getD,hi]];exact List.getElem_mem hi
theorem ToldT.grew{w w':World}{G G':Nat->Prop}{v:Value}{T:List TH}(h:ToldT w G v T)(g:Grew G w G' w'):ToldT w' G' v T:=by
 rcases h.rd with⟨a,c,h1,h2⟩|⟨b,off,c,h1,h2,h3,h4,h5⟩
 ·refine⟨Or.inl ⟨a,c,h1,h2⟩,?_,fun t ht=>by rw[h1]at ht;cases ht⟩;rw[h2];exact ApartG.nil _ _ _
 ·have hb:¬G b:=by
   rcases h.ap _ _ _ h2 with e|e
   ·exact absurd (List.length_eq_zero_iff.1 e) h1
   ·exact e
  refine⟨Or.inr ⟨b,off,c,h1,h2,h3,Zu h4 g.turn.size,fun i hi=>?_⟩,?_,fun t ht=>?_⟩
  ·have h6:=h5 i hi;exact⟨(g.turn.cell (p:=⟨b,off+i*2,none⟩) h4 hb).trans h6.c0,(g.turn.cell (p:=⟨b,off+i*2+1,none⟩) h4 hb).trans h6.c1,h6.rd.grew (h.each _ (getD_mem12 hi)) g⟩
  ·intro x n c' e;rw[h2]at e;simp at e;obtain⟨rfl,_,_⟩:=e;exact Or.inr (g.off h4 hb)
  ·obtain⟨i,hi,e⟩:=List.getElem_of_mem ht;have h6:=(h5 i hi).rd;rw[show T.getD i default=T[i] by simp[List.getD,hi],e]at h6;exact(h.each t ht).grew h6 g
theorem bareT_eq{T U:List TH}(hl:T.length=U.length):bareT T=bareT U↔∀i,i<T.length->(T.getD i default).1=(U.getD i default).1/\(T.getD i default).2.1=(U.getD i default).2.1:=by
 constructor
 ·intro h i hi;have h1:=congrArg (fun l=>l[i]?) h;simp only[bareT,List.getElem?_map]at h1;rw[List.getElem?_eq_getElem hi,List.getElem?_eq_getElem Zo]at h1;simp at h1;simp[List.getD,hi,show i<U.length by omega,h1]
 ·intro h;refine List.ext_getElem (by simp[bareT,hl]) fun i h1 h2=>?_
  simp only[bareT_length]at h1 h2;have h3:=h i h1;simp[List.getD,h1,h2]at h3;simp[bareT,h3]
theorem same12_any{w:World}{va vb:Value}{L M:List (Int×List UInt8)}(hL:RdH w va L)(hM:RdH w vb M):Calls Tryz.prog 28 #[va,vb] w fun e w'=>e= .returned (.bool (decide (L=M)))/\∃n,w'=w.drewN n:=by
 obtain⟨T,rfl,hT⟩:=hL;obtain⟨U,rfl,hU⟩:=hM;have lt:=hT.len;have lu:=hU.len;obtain⟨aa,ca,rfl⟩:=hT.form;obtain⟨ab,cb,rfl⟩:=hU.form
 by_cases hl:T.length=U.length
 ·have q1:((T.length:Int)!=(U.length:Int))=false:=by rw[hl];simp
  have q1':((T.length:Int)==(U.length:Int))=true:=by rw[hl];simp
  obtain⟨X,hX⟩:∃X,Hid (X=decide (bareT T=bareT U)):=⟨_,rfl⟩;rw[<-hX.out];have hl':Hid (T.length=U.length):=hl;clear hl
  go_enter Tryz.func28,Tryz.ntmps28
  go_wp2
  go_loopw [5] (fun i wr=>∃k:Nat,k<=T.length/\i= .int .i64 (k:Int)/\Hid (∀j,j<k->(T.getD j default).1=(U.getD j default).1/\(T.getD j default).2.1=(U.getD j default).2.1)/\∃m,Hid (wr=w.drewN m)) (fun i _=>T.length-(intOf i).toNat)
  case atStart=>exact⟨0,Zz,rfl,fun j hj=>Zo,0,rfl⟩
  case round=>
   obtain⟨k,hk,rfl,hs,m,hd⟩:=hrel;have hT':RdT wr (.slice aa T.length ca) T:=by rw[hd.out];exact hT.drewN _
   have hU':RdT wr (.slice ab U.length cb) U:=by rw[hd.out];exact hU.drewN _
   clear hT hU
   by_cases hlt:k<T.length
   ·have hltU:k<U.length:=by have:=hl'.out;omega
    have hlt':(k:Int)<(T.length:Int):=Zo
    have hlu':(k:Int)<(U.length:Int):=Zo
    have g1:IntKind.i64.wrap ((k:Int)+1)=((k+1:Nat):Int):=Zw
    obtain⟨b,off,rfl,c0,c1,r1⟩:=hT'.at hlt;obtain⟨b',off',rfl,d0,d1,r2⟩:=hU'.at hltU;have NE:Hid (¬((T.getD k default).1=(U.getD k default).1/\(T.getD k default).2.1=(U.getD k default).2.1)->X=false):=fun h=>by
     rw[hX.out];exact Zx (fun e=>h ((bareT_eq hl'.out).1 e k hlt))
    have EQ:Hid ((T.getD k default).1=(U.getD k default).1/\(T.getD k default).2.1=(U.getD k default).2.1->∀j,j<k+1->(T.getD j default).1=(U.getD j default).1/\(T.getD j default).2.1=(U.getD j default).2.1):=fun h j hj=>by
     by_cases e2:j=k
     ·rw[e2];exact h
     ·exact hs.out j Zo
    obtain⟨t,ht⟩:∃t,t=T.getD k default:=⟨_,rfl⟩;obtain⟨u,hu⟩:∃u,u=U.getD k default:=⟨_,rfl⟩;rw[<-ht]at c0 c1 r1;rw[<-hu]at d0 d1 r2;rw[<-ht,<-hu]at NE EQ;obtain⟨t1,t2,t3⟩:=t;obtain⟨u1,u2,u3⟩:=u;simp only at c0 c1 r1 d0 d1 r2;obtain⟨ta,tc,rfl⟩:=r1.form;obtain⟨ua,uc,rfl⟩:=r2.form;clear ht hu hs hT' hU' hX
    by_cases e1:t2=u2
    ·have hn:sameB t2 u2=true:=sameB_of e1
     by_cases e2:t1=u1
     ·have E:=EQ.out ⟨e2,e1⟩;have HS:Hid (∀j,j<k+1->(T.getD j default).1=(U.getD j default).1/\(T.getD j default).2.1=(U.getD j default).2.1):=E;have z1:(t1 !=u1)=false:=by rw[e2];simp
      have z2:(t1==u1)=true:=by rw[e2];simp
      clear E EQ NE e1 e2;go_wp2
      go_quiet ((go_at_call 25;go_loud (exact Calls.quiet_of (same_any (r1.drewN _) (r2.drewN _)))))
      go_wp2
      go_quiet (fail)
      go_wp2;go_roundw
      case rel=>exact⟨k+1,Zo,Zg,HS,_,by show _=_;first|rw[hd.out,World.drewN_drewN,World.drewN_drewN]|rw[hd.out,World.drewN_drewN]|rw[World.drewN_drewN,hd.out,World.drewN_drewN]⟩
      case measure=>simp[intOf];omega
     ·have E:=NE.out (fun h=>e2 h.1);have HE:Hid (X=false):=E;have z1:(t1 !=u1)=true:=by simp[e2]
      have z2:(t1==u1)=false:=by simp[e2]
      clear E EQ NE e1 e2;go_wp2
      go_quiet ((go_at_call 25;go_loud (exact Calls.quiet_of (same_any (r1.drewN _) (r2.drewN _)))))
      go_wp2
      go_quiet (fail)
      go_wp2;go_ret;exact⟨by rw[HE.out];rfl,_,by show _=_;first|rw[hd.out,World.drewN_drewN,World.drewN_drewN]|rw[hd.out,World.drewN_drewN]|rw[World.drewN_drewN,hd.out,World.drewN_drewN]⟩
    ·have hn:sameB t2 u2=false:=Zx e1;have E:=NE.out (fun h=>e1 h.2);have HE:Hid (X=false):=E;clear E EQ NE e1;go_wp2
     go_quiet ((go_at_call 25;go_loud (exact Calls.quiet_of (same_any (r1.drewN _) (r2.drewN _)))))
     go_wp2
     go_quiet (fail)
     go_wp2;go_ret;exact⟨by rw[HE.out];rfl,_,by show _=_;first|rw[hd.out,World.drewN_drewN,World.drewN_drewN]|rw[hd.out,World.drewN_drewN]|rw[World.drewN_drewN,hd.out,World.drewN_drewN]⟩
   ·have HE:Hid (X=true):=by
     show X=true
     rw[hX.out];exact Zy ((bareT_eq hl'.out).2 fun i hi=>hs.out i Zo)
    have hge:¬(k:Int)<(T.length:Int):=Zo
    clear hs hT' hU' hX;go_wp2;go_ret;exact⟨by rw[HE.out];rfl,_,hd.out⟩
 ·have q1:((T.length:Int)!=(U.length:Int))=true:=by simp;omega
  have q1':((T.length:Int)==(U.length:Int))=false:=Zm
  have e:decide (bareT T=bareT U)=false:=Zx (fun h=>hl (by have:=congrArg List.length h;simpa[bareT_length]using this));rw[e];clear e hT hU
  go_enter Tryz.func28,Tryz.ntmps28
  go_wp2;go_ret;exact⟨rfl,0,rfl⟩
section
variable {w:World} {db:Nat} {G:Nat->Prop} {d:DkS}
theorem same12_is{va vb:Value}{L M:List (Int×List UInt8)}(hL:RdH w va L)(hM:RdH w vb M){x:Bool}(hx:decide (L=M)=x):Calls Tryz.prog 28 #[va,vb] w fun e w'=>e= .returned (.bool x)/\∃n,w'=w.drewN n:=by
 rw[<-hx];exact same12_any hL hM
theorem same_is{va vb:Value}{p q:List UInt8}(hp:Rd w va p)(hq:Rd w vb q){x:Bool}(hx:sameB p q=x):Calls Tryz.prog 25 #[va,vb] w fun e w'=>e= .returned (.bool x)/\∃n,w'=w.drewN n:=by
 rw[<-hx];exact same_any hp hq
end
def lookL(L:List (Int×List UInt8))(x:Int):Option (List UInt8):=(L.find? fun t=>t.1==x).map (·.2)
theorem lookL_held{f:Int->Option (List UInt8)}{s:Nat}(hf:InS s f)(x:Int):lookL (heldL f s) x=f x:=by
 unfold lookL;cases h:(heldL f s).find? fun t=>t.1==x with
 |none=>
  cases hx:f x with
  |none=>rfl
  |some b=>
   have h1:=hf x b hx;have h2:=(heldL_mem (f:=f) (s:=s)).2 ⟨h1.1,h1.2.1,hx⟩;have h3:=List.find?_eq_none.1 h _ h2;simp at h3
 |some t=>
  have h1:=List.find?_some h;have h2:=List.mem_of_find?_eq_some h;obtain⟨y,b⟩:=t;have h3:=heldL_mem.1 h2;simp at h1;subst h1;exact h3.2.2.symm
theorem look_none{T:List TH}{x:Int}(h:∀j,j<T.length->(T.getD j default).1≠x):lookL (bareT T) x=none:=by
 unfold lookL;rw[List.find?_eq_none.2,Option.map_none];intro t ht;unfold bareT at ht;rw[List.mem_map]at ht;obtain⟨u,hu,rfl⟩:=ht;obtain⟨i,hi,e⟩:=List.getElem_of_mem hu;have h1:=h i hi;rw[show T.getD i default=T[i] by simp[List.getD,hi],e]at h1;simpa using h1
theorem look_at{T:List TH}{x:Int}{k:Nat}(hk:k<T.length)(h:∀j,j<k->(T.getD j default).1≠x)(hx:(T.getD k default).1=x):lookL (bareT T) x=some (T.getD k default).2.1:=by
 induction T generalizing k with
 |nil=>simp at hk
 |cons t T ih=>
  cases k with
  |zero=>
   have hx':t.1=x:=hx;simp[lookL,bareT,hx']
  |succ k=>
   have h0:t.1≠x:=h 0 Zo;have h1:=ih (k:=k) (by simpa using hk) (fun j hj=>h (j+1) Zo) hx;have h2:lookL (bareT (t::T)) x=lookL (bareT T) x:=by
    unfold lookL bareT;rw[List.map_cons,List.find?_cons_of_neg (by simpa using h0)]
   rw[h2,h1];rfl
theorem mem_take{K:List Int}{j:Nat}(hj:j<K.length)(x:Int):decide (x∈K.take (j+1))=(decide (x∈K.take j)||(K.getD j 0==x)):=by
 have e:K.getD j 0=K[j]:=by simp[List.getD,hj]
 rw[List.take_add_one,List.getElem?_eq_getElem hj,e];simp only[Option.toList_some,List.mem_append,List.mem_singleton]
 by_cases h1:x∈K.take j
 ·simp[h1]
 ·by_cases h2:x=K[j]
  ·rw[<-h2];simp[h1]
  ·have h3:¬K[j]=x:=fun e=>h2 e.symm
   simp[h1,h2,h3]
def CapOk(v:Value):Prop:=∀a n c,v= .slice a n c->n<=c/\(a=none->c=0)
theorem newsT{W:World}{b off:Nat}{T:List TH}(h:∀i,i<T.length->HeldAt W b (off+i*2) (T.getD i default)):∀j u,(cellsT T)[j]? =some u->W.cell? ((⟨b,off,none⟩:Addr).add j)=some u:=by
 intro j u hj;rw[add_at];have hl:j<T.length*2:=by
  rw[<-cellsT_length]
  by_cases hc:j<(cellsT T).length
  ·exact hc
  ·rw[List.getElem?_eq_none Zo]at hj;cases hj
 have hi:j/2<T.length:=Zo
 have h1:=h (j/2) hi;obtain⟨e0,e1⟩:=cellsT_at T hi
 by_cases hm:j%2=0
 ·have ej:j/2*2=j:=by omega
  rw[ej]at e0;rw[e0]at hj;have:=h1.c0;rw[ej]at this;rw[this];exact hj
 ·have ej:j/2*2+1=j:=by omega
  rw[ej]at e1;rw[e1]at hj;have:=h1.c1;rw[show off+j/2*2+1=off+j by omega]at this;rw[this];exact hj
theorem cellsT_one(T:List TH)(h:∀t∈T,t.2.2.oneCell'=true):∀u∈cellsT T,u.oneCell'=true:=by
 intro u hu;unfold cellsT at hu;rw[List.mem_flatMap]at hu;obtain⟨t,ht,hu⟩:=hu;simp at hu
 rcases hu with rfl|rfl
 ·rfl
 ·exact h t ht
theorem Rd.one{w:World}{v:Value}{p:List UInt8}(h:Rd w v p):v.oneCell'=true:=by
 obtain⟨a,c,rfl⟩:=h.form;rfl
theorem RdT.each{w:World}{v:Value}{T:List TH}(h:RdT w v T):∀t∈T,Rd w t.2.2 t.2.1:=by
 intro t ht
 rcases h with⟨a,c,rfl,_⟩|⟨b,off,c,h1,h2,h3,h4,h5⟩
 ·cases ht
 ·obtain⟨i,hi,e⟩:=List.getElem_of_mem ht;have h6:=(h5 i hi).rd;rw[show T.getD i default=T[i] by simp[List.getD,hi],e]at h6;exact h6
theorem run_append_T(w:World)(ty base:Nat){i:TypeInfo}(hi:Tryz.prog.info? 62=some i)(hz:i.zero=some (.agg #[.int .i64 0,.slice none 0 0]))(hsize:i.size=2)(hby:i.bytes=32)
  {v:Value} {n:Nat} {xs:List Value} (hown:w.ownsRow base 62 2 v n xs) {va:Value} {T:List TH} (hr:RdT w va T) (hc:CapOk va) (hl:n+T.length<=1000000) (hbase:base<=w.heap.size):
  ∃v' w',(Builtin.append_ #[59,59] ty #[v,va]).run Tryz.prog w= .ok v' w'/\w'.ownsRow base 62 2 v' (n+T.length) (xs++cellsT T)/\w.grownBy w' v.ownBlock/\(v'.ownBlock=v.ownBlock∨v'.ownBlock=some w.heap.size):=by
 have hee:=hr.each
 rcases hr with⟨a,c,rfl,rfl⟩|⟨b,off,c,h1,rfl,h3,h4,h5⟩
 ·rcases a with _|ad
  ·have:=(hc none 0 c rfl).2 rfl;subst this;exact⟨v,w,run_append_owned_none (P:=Tryz.prog) (w:=w) base 59 ty 62 i 2 Tryz.underlying59 hi v n xs hown,by simpa[cellsT]using hown,World.grownBy.refl _ _,Or.inl rfl⟩
  ·obtain⟨v',w',hr,h2,h3,_,h5⟩:=run_append_own_at (P:=Tryz.prog) w base 59 ty 62 i _ 2 32 Tryz.underlying59 hi hz hsize hby rfl Zd v n xs hown ad 0 c [] rfl (by intro j u hj;simp at hj) (by intro u hu;simp at hu) Zl Zo hbase;exact⟨v',w',hr,by simpa[cellsT]using h2,h3,h5⟩
 ·obtain⟨v',w',hr,h2,h3,_,h6⟩:=run_append_own_at (P:=Tryz.prog) w base 59 ty 62 i _ 2 32 Tryz.underlying59 hi hz hsize hby rfl Zd v n xs hown ⟨b,off,none⟩ T.length c (cellsT T) (cellsT_length T) (newsT h5) (cellsT_one T (fun t ht=>(hee t ht).one)) Zl Zo hbase;exact⟨v',w',hr,h2,h3,h6⟩
theorem rdT_row{w:World}{base:Nat}{v:Value}{T:List TH}(h:w.ownsRow base 62 2 v T.length (cellsT T))(he:∀t∈T,Rd w t.2.2 t.2.1)(hl:T.length<=100000):RdT w v T:=by
 by_cases h0:T=[]
 ·subst h0;obtain⟨a,c,e⟩:=owns_slice h;exact Or.inl ⟨a,c,rfl,e⟩
 ·obtain⟨_,⟨_,h1⟩|⟨g,cap,cur,hv,hg,hh,hc,hm,hs,ht⟩⟩:=h
  ·exact absurd (List.length_eq_zero_iff.1 h1) h0
  ·refine Or.inr ⟨g,0,cap,h0,hv,hl,(Array.getElem?_eq_some_iff.1 hh).1,fun i hi=>?_⟩;have ce:∀j,j<T.length*2->w.cell? ⟨g,j,none⟩=(cellsT T)[j]? :=by
    intro j hj;rw[<-ht,List.getElem?_take_of_lt hj];unfold World.cell?;rw[hh];simp
   obtain⟨e0,e1⟩:=cellsT_at T hi;refine⟨?_,?_,he _ (getD_mem12 hi)⟩
   ·rw[Nat.zero_add,ce _ Zo,e0]
   ·rw[Nat.zero_add,ce _ Zo,e1]
theorem cap_row{w:World}{base:Nat}{v:Value}{n:Nat}{xs:List Value}(h:w.ownsRow base 62 2 v n xs):CapOk v:=by
 intro a n' c e;obtain⟨_,⟨h1,_⟩|⟨g,cap,cur,hv,_,_,hle,_⟩⟩:=h
 ·rw[h1]at e;simp at e;obtain⟨rfl,rfl,rfl⟩:=e;exact⟨Zr,fun _=>rfl⟩
 ·rw[hv]at e;simp at e;obtain⟨rfl,rfl,rfl⟩:=e;exact⟨hle,fun h=>by cases h⟩
theorem step_append_T{w:World}{ops:Array Oper}{o:Oper}{a:Act}{K:Act->World->Prop}{Q:Exit->Act->World->Prop}{E:Prop}(hgd:o.guard=none)(s x:Operand)
  (ho:o.op= .call {callee:=.builtin .append,args:=#[s,x],argTypes:=#[59,59]})
  (base:Nat) {i:TypeInfo} (hi:Tryz.prog.info? 62=some i) (hz:i.zero=some (.agg #[.int .i64 0,.slice none 0 0])) (hsize:i.size=2) (hby:i.bytes=32)
  (v:Value) (n:Nat) (xs:List Value) (hs:a.eval s=v) (hown:w.ownsRow base 62 2 v n xs) (va:Value) (T:List TH) (hx:a.eval x=va) (hr:RdT w va T) (hc:CapOk va) (hl:n+T.length<=1000000) (hbase:base<=w.heap.size)
  (h:∀v' w',w'.ownsRow base 62 2 v' (n+T.length) (xs++cellsT T)->w.grownBy w' v.ownBlock->K (a.put o.dst v') w'):
  if Region.wanted o (yielded ops a.tmps)=true then Oper.wp Tryz.prog o a w K Q else E:=by
 have hw:Region.wanted o (yielded ops a.tmps)=true:=by simp[Region.wanted,hgd]
 rw[if_pos hw];obtain⟨v',w',hrun,h2,h3,_⟩:=run_append_T w o.type base hi hz hsize hby hown hr hc hl hbase;unfold Oper.wp execOp;simp only[ho,resolve,invoke,builtin,Sem.run_bind,Sem.run_pure,Result.andThen_ok,List.map_toArray,List.map_cons,List.map_nil,hs,hx,hrun];exact h v' w' h2 h3
theorem rdT_lit{w:World}{x:Int}{vb:Value}{p:List UInt8}(hp:Rd w vb p):RdT (w.alloc (.cells #[.int .i64 x,vb] 62)) (.slice (some ⟨w.heap.size,0,none⟩) 1 1) [(x,p,vb)]:=by
 refine Or.inr ⟨w.heap.size,0,1,Zs,rfl,Zs,Zs,fun i hi=>?_⟩
 have:i=0:=by simp at hi;exact hi
 subst this;exact⟨Zs,Zs,hp.below (belA _ _)⟩
theorem RdT.take{w:World}{b off c n:Nat}{T:List TH}(h:RdT w (.slice (some ⟨b,off,none⟩) T.length c) T){k c':Nat}(hk:k<=T.length)(hn:n=k):RdT w (.slice (some ⟨b,off,none⟩) n c') (T.take k):=by
 subst hn;have hl:(T.take n).length=n:=by rw[List.length_take];omega
 by_cases h0:n=0
 ·subst h0;exact Or.inl ⟨_,c',Zs,rfl⟩
 ·rcases h with⟨_,_,h1,_⟩|⟨b',off',c2,h1,h2,h3,h4,h5⟩
  ·rw[h1]at hk;simp at hk;omega
  ·simp at h2;obtain⟨⟨rfl,rfl⟩,_⟩:=h2;refine Or.inr ⟨b,off,c',fun e=>by rw[e]at hl;simp at hl;omega,by rw[hl],Zo,h4,fun i hi=>?_⟩;rw[hl]at hi;have e:(T.take n).getD i default=T.getD i default:=by simp[List.getD,List.getElem?_take_of_lt hi]
   rw[e];exact h5 i Zo
theorem RdT.drop{w:World}{b off c n:Nat}{T:List TH}(h:RdT w (.slice (some ⟨b,off,none⟩) T.length c) T){k c':Nat}(hk:k<=T.length)(hn:n=T.length-k):RdT w (.slice (some ⟨b,off+k*2,none⟩) n c') (T.drop k):=by
 subst hn
 by_cases h0:k=T.length
 ·subst h0;exact Or.inl ⟨some ⟨b,off+T.length*2,none⟩,c',Zs,by rw[Nat.sub_self]⟩
 rcases h with⟨_,_,h1,_⟩|⟨b',off',c2,h1,h2,h3,h4,h5⟩
 ·rw[h1]at hk h0;simp at hk;simp at h0;omega
 ·simp at h2;obtain⟨⟨rfl,rfl⟩,_⟩:=h2;refine Or.inr ⟨b,off+k*2,c',fun e=>by have:=congrArg List.length e;simp at this;omega,by rw[List.length_drop],by rw[List.length_drop];omega,h4,fun i hi=>?_⟩;rw[List.length_drop]at hi;have e:(T.drop k).getD i default=T.getD (k+i) default:=by simp[List.getD]
  rw[e,show off+k*2+i*2=off+(k+i)*2 by omega];exact h5 (k+i) Zo
end Go.Proofs.YtddnfhfangfgeaaGreat.Gf
