/- JOINED: MvK, FoW, GfOwn, PoSum, PoMk, PoRd, PoAppend, PoMulMath, PoInfo, PoOnl, PoSame. -/
import Derived.Test.YtclieefpnbdbjaaGreatZb
import Derived.Deep.RegionHeld3
import Derived.WalkKit
import Derived.Test.YtclieefpnbdbjaaGreatChecked
import GoSem.Claim
import GoSem.ClaimJoined
import GoSem.ClaimMapViews
import Derived.JoinedTies
import Derived.KernelRfl
import Derived.Deep.QuietTactic
import Derived.BigQuiet
import Derived.WalkLawsBesides
import Derived.WalkSpells
import Derived.OpenShut
import Derived.Test.YtclieefpnbdbjaaGreatRows
import Derived.Laws.AppendOwnNone
set_option maxHeartbeats 1000000
set_option maxRecDepth 100000
namespace Go.Proofs.YtclieefpnbdbjaaGreat.Gf
set_option linter.unusedVariables false
set_option linter.unusedSimpArgs false
section
variable {P:Program} {md:Region.Mode} {ops:Array Oper} {Q:Exit->Act->World->Prop} {S:World->Prop} {fuel:Nat} {l l':Array Bool} {a a':Act} {w:World} {o:Oper} {v:Value}
theorem tkH(i:Nat)(h:wpAnyH P md ops Q S fuel l' a' w)(hi:ops[i]? =some o:=by rfl)(hs:Region.noSelect ops=true:=by kernel_rfl)(hf:Region.free md ops l i=true:=by kernel_rfl)(hr:(Region.ready md ops l).contains i=true:=by kernel_rfl)
  (hy:YieldsIf P ops S o v a:=by
   refine Or.inl ⟨by rfl,?_⟩;intro w hSw
   (try dsimp only at hSw)
   go_simp
   try with_reducible rfl)
  (hQ:∀c a w,Q (.panic c) (a.put o.dst v) w->Q (.panic c) a w:=by exact fun _ _ _ h=>h) (hS:S w:=by assumption)
  (e:a.put o.dst v=a':=by
   try simp only[List.getElem_toArray,List.getElem_cons_succ,List.getElem_cons_zero,Act.put,List.setIfInBounds_toArray,List.set_cons_zero,List.set_cons_succ]
   first|done|rfl)
  (el:l.setIfInBounds i true=l':=by
   try simp only[List.setIfInBounds_toArray,List.set_cons_zero,List.set_cons_succ]
   first|done|rfl):wpAnyH P md ops Q S (fuel+1) l a w:=wpAnyH_take hi hs hf hr hQ hy hS (by rw[e,el];exact h)
theorem rnH(i:Nat)(h:∀K':Act->World->Prop,Shut (∀a w,S w->(S w->wpAnyH P md ops Q S fuel (l.setIfInBounds i true) a w)->K' a w)->if Region.wanted o (yielded ops a.tmps)=true then Oper.wp P o a w K' Q else K' (a.put o.dst undef) w)
  (hr:Region.ready md ops l=[i]:=by kernel_rfl) (ho:ops[i]? =some o:=by rfl):wpAnyH P md ops Q S (fuel+1) l a w:=
 wpAnyH_ready hr (by simp) (AllReadyH.cons ho h AllReadyH.nil)
theorem rmH(i j:Nat){o2:Oper}(h:∀K':Act->World->Prop,Shut (∀a w,S w->(S w->wpAnyH P md ops Q S fuel (l.setIfInBounds i true) a w)->K' a w)->if Region.wanted o (yielded ops a.tmps)=true then Oper.wp P o a w K' Q else K' (a.put o.dst undef) w)
  (h2:∀K':Act->World->Prop,Shut (∀a w,S w->(S w->wpAnyH P md ops Q S fuel (l.setIfInBounds j true) a w)->K' a w)->if Region.wanted o2 (yielded ops a.tmps)=true then Oper.wp P o2 a w K' Q else K' (a.put o2.dst undef) w)
  (hr:Region.ready md ops l=[i,j]:=by kernel_rfl) (ho:ops[i]? =some o:=by rfl) (ho2:ops[j]? =some o2:=by rfl):wpAnyH P md ops Q S (fuel+1) l a w:=
 wpAnyH_ready hr (by simp) (AllReadyH.cons ho h (AllReadyH.cons ho2 h2 AllReadyH.nil))
theorem rtH(i j k:Nat){o2 o3:Oper}(h:∀K':Act->World->Prop,Shut (∀a w,S w->(S w->wpAnyH P md ops Q S fuel (l.setIfInBounds i true) a w)->K' a w)->if Region.wanted o (yielded ops a.tmps)=true then Oper.wp P o a w K' Q else K' (a.put o.dst undef) w)
  (h2:∀K':Act->World->Prop,Shut (∀a w,S w->(S w->wpAnyH P md ops Q S fuel (l.setIfInBounds j true) a w)->K' a w)->if Region.wanted o2 (yielded ops a.tmps)=true then Oper.wp P o2 a w K' Q else K' (a.put o2.dst undef) w)
  (h3:∀K':Act->World->Prop,Shut (∀a w,S w->(S w->wpAnyH P md ops Q S fuel (l.setIfInBounds k true) a w)->K' a w)->if Region.wanted o3 (yielded ops a.tmps)=true then Oper.wp P o3 a w K' Q else K' (a.put o3.dst undef) w)
  (hr:Region.ready md ops l=[i,j,k]:=by kernel_rfl) (ho:ops[i]? =some o:=by rfl) (ho2:ops[j]? =some o2:=by rfl) (ho3:ops[k]? =some o3:=by rfl):wpAnyH P md ops Q S (fuel+1) l a w:=
 wpAnyH_ready hr (by simp) (AllReadyH.cons ho h (AllReadyH.cons ho2 h2 (AllReadyH.cons ho3 h3 AllReadyH.nil)))
theorem skH(i:Nat)(h:wpAnyH P md ops Q S fuel l' a' w)(hi:ops[i]? =some o:=by rfl)(hs:Region.noSelect ops=true:=by kernel_rfl)(hf:Region.free md ops l i=true:=by kernel_rfl)(hr:(Region.ready md ops l).contains i=true:=by kernel_rfl)
  (hy:Region.wanted o (yielded ops a.tmps)=false:=by rfl)
  (hQ:∀c a w,Q (.panic c) (a.put o.dst undef) w->Q (.panic c) a w:=by exact fun _ _ _ h=>h) (hS:S w:=by assumption)
  (e:a.put o.dst undef=a':=by
   try simp only[List.getElem_toArray,List.getElem_cons_succ,List.getElem_cons_zero,Act.put,List.setIfInBounds_toArray,List.set_cons_zero,List.set_cons_succ]
   first|done|rfl)
  (el:l.setIfInBounds i true=l':=by
   try simp only[List.setIfInBounds_toArray,List.set_cons_zero,List.set_cons_succ]
   first|done|rfl):wpAnyH P md ops Q S (fuel+1) l a w:=wpAnyH_take hi hs hf hr hQ (Or.inr ⟨hy,rfl⟩) hS (by rw[e,el];exact h)
theorem koH{K':Act->World->Prop}(hK:Shut (∀a w,S w->(S w->wpAnyH P md ops Q S fuel l a w)->K' a w))(hS:S w)(h:S w->wpAnyH P md ops Q S fuel l' a' w)
  (e:a=a':=by
   try simp only[List.getElem_toArray,List.getElem_cons_succ,List.getElem_cons_zero,Act.put,List.setIfInBounds_toArray,List.set_cons_zero,List.set_cons_succ]
   first|done|rfl)
  (el:l=l':=by
   try simp only[List.setIfInBounds_toArray,List.set_cons_zero,List.set_cons_succ]
   first|done|rfl):K' a w:=hK.out _ _ hS (by rw[e,el];exact h)
end
open Go.RowKit
theorem wrap_u8(m:Nat):IntKind.u8.wrap (m:Int)=(((UInt8.ofNat m).toNat:Nat):Int):=by
 rw[IntKind.wrap_u8,UInt8.toNat_ofNat'];omega
theorem ret_int{k:IntKind}{a b:Int}(h:a=b):Ending.returned (.int k a)= .returned (.int k b):=by rw[h]
theorem u8_lt(a:UInt8):a.toNat<256:=a.toNat_lt
theorem u8_ext{a b:UInt8}(h:a.toNat=b.toNat):a=b:=UInt8.toNat_inj.1 h
def co(p:List UInt8)(i:Nat):UInt8:=p[i]?.getD 0
theorem co_lt{p:List UInt8}{i:Nat}(h:i<p.length):co p i=p[i]:=by unfold co;rw[List.getElem?_eq_getElem h];rfl
theorem co_ext{p q:List UInt8}(hl:p.length=q.length)(h:∀i,i<p.length->co p i=co q i):p=q:=by
 refine List.ext_getElem hl fun i h1 h2=>?_
 have:=h i h1;rwa[co_lt h1,co_lt h2]at this
theorem co_append_lt{p q:List UInt8}{i:Nat}(h:i<p.length):co (p++q) i=co p i:=by
 unfold co;rw[List.getElem?_append_left h]
theorem co_append_ge{p q:List UInt8}{i:Nat}(h:p.length<=i):co (p++q) i=co q (i-p.length):=by
 unfold co;rw[List.getElem?_append_right h]
theorem co_take{p:List UInt8}{n i:Nat}(h:i<n):co (p.take n) i=co p i:=by
 unfold co;rw[List.getElem?_take_of_lt h]
theorem co_map_range(f:Nat->UInt8){n i:Nat}(h:i<n):co ((List.range n).map f) i=f i:=by
 rw[co_lt (by simpa using h)];simp
def vb(a:UInt8):Value:=.int .u8 ((a.toNat:Nat):Int)
def Rd(w:World)(v:Value)(p:List UInt8):Prop:=
 (∃ao cap,p=[]/\v= .slice ao 0 cap/\cap<=maxLen/\(ao=none->cap=0))∨
 (∃b off cap,p≠[]/\v= .slice (some ⟨b,off,none⟩) p.length cap/\p.length<=cap/\cap<=maxLen/\b<w.heap.size/\∀i,i<p.length->w.cell? ⟨b,off+i,none⟩=some (.int .u8 ((co p i).toNat:Nat)))
theorem Rd.below{w w':World}{v:Value}{p:List UInt8}(h:Rd w v p)(hb:Below w.heap.size w w'):Rd w' v p:=by
 rcases h with h|⟨b,off,cap,h1,h2,h3,h4,h5,h6⟩
 ·exact Or.inl h
 ·exact Or.inr ⟨b,off,cap,h1,h2,h3,h4,Zu h5 hb.size,fun i hi=>(hb.cell (p:=⟨b,off+i,none⟩) h5).trans (h6 i hi)⟩
theorem Rd.drewN{w:World}{v:Value}{p:List UInt8}(h:Rd w v p)(n:Nat):Rd (w.drewN n) v p:=h
theorem Rd.form{w:World}{v:Value}{p:List UInt8}(h:Rd w v p):∃a c,v= .slice a p.length c:=by
 rcases h with⟨a,c,rfl,rfl,_⟩|⟨b,off,c,_,rfl,_⟩
 ·exact⟨a,c,rfl⟩
 ·exact⟨_,c,rfl⟩
theorem Rd.len{w:World}{v:Value}{p:List UInt8}(h:Rd w v p):p.length<=maxLen:=by
 rcases h with⟨_,_,h,_⟩|⟨_,_,_,_,_,h3,h4,_⟩
 ·subst h;exact Zz
 ·omega
theorem xor_u8(x y:UInt8):bits .xor .u8 ((x.toNat:Nat):Int) ((y.toNat:Nat):Int)=(((x^^^y).toNat:Nat):Int):=by
 rw[u8_xor_nat _ _ (u8_lt x) (u8_lt y),UInt8.toNat_xor]
theorem eq_u8(x y:UInt8):(((x.toNat:Nat):Int)==((y.toNat:Nat):Int))=decide (x=y):=by
 rw[Bool.eq_iff_iff,beq_iff_eq,decide_eq_true_eq];exact⟨fun h=>u8_ext Zo,fun h=>by rw[h]⟩
theorem ne_u8(x y:UInt8):(((x.toNat:Nat):Int)!=((y.toNat:Nat):Int))=decide (x≠y):=by
 rw[bne,eq_u8];by_cases h:x=y<;>simp[h]
theorem ofNat_u8{x:Nat}(h:x<256):((UInt8.ofNat x).toNat:Nat)=x:=by rw[UInt8.toNat_ofNat'];exact Nat.mod_eq_of_lt h
theorem add_at(b off j:Nat):(⟨b,off,none⟩:Addr).add j=⟨b,off+j,none⟩:=by
 unfold Addr.add;split
 ·subst j;rfl
 ·rfl
theorem news_of{W:World}{b off k:Nat}{p:List UInt8}(h:∀i,i<p.length->W.cell? ⟨b,off+i,none⟩=some (.int .u8 ((co p i).toNat:Nat))):
  ∀j u,((p.take k).map vb)[j]? =some u->W.cell? ((⟨b,off,none⟩:Addr).add j)=some u:=by
 intro j u hj;rw[add_at];rw[List.getElem?_map]at hj
 by_cases hjk:j<k
 ·rw[List.getElem?_take_of_lt hjk]at hj
  by_cases hjp:j<p.length
  ·rw[List.getElem?_eq_getElem hjp]at hj;rw[h j hjp,co_lt hjp];simpa[vb]using hj
  ·rw[List.getElem?_eq_none Zo]at hj;cases hj
 ·rw[List.getElem?_eq_none (by rw[List.length_take];omega)]at hj;cases hj
theorem vb_one(p:List UInt8):∀u∈p.map vb,u.oneCell'=true:=by
 intro u hu;obtain⟨a,_,rfl⟩:=List.mem_map.1 hu;rfl
theorem Rd.owned{w:World}{base e:Nat}{v:Value}{p:List UInt8}(h:w.ownsRow base e 1 v p.length (p.map vb)):Rd w v p:=by
 obtain⟨_,⟨hv,hn⟩|⟨g,cap,cur,hv,hg,hh,hc,hm,hs,ht⟩⟩:=h
 ·exact Or.inl ⟨none,0,List.length_eq_zero_iff.1 hn,hv,Zz,fun _=>rfl⟩
 ·by_cases hp:p=[]
  ·subst hp;exact Or.inl ⟨_,cap,rfl,hv,hm,fun h=>by cases h⟩
  ·refine Or.inr ⟨g,0,cap,hp,hv,hc,hm,(Array.getElem?_eq_some_iff.1 hh).1,fun i hi=>?_⟩;have e1:(p.map vb)[i]? =some (vb (co p i)):=by rw[List.getElem?_map,List.getElem?_eq_getElem hi,co_lt hi];rfl
   rw[<-ht,Nat.mul_one,List.getElem?_take_of_lt hi]at e1;rw[Nat.zero_add];unfold World.cell?;rw[hh];simpa[vb]using e1
theorem ownsRow_base{w:World}{base base' e n:Nat}{v:Value}{xs:List Value}(h:w.ownsRow base e 1 v n xs)(hb:base'<=base):w.ownsRow base' e 1 v n xs:=by
 obtain⟨h0,h|⟨g,cap,cur,hv,hg,r⟩⟩:=h
 ·exact⟨h0,Or.inl h⟩
 ·exact⟨h0,Or.inr ⟨g,cap,cur,hv,Nat.le_trans hb hg,r⟩⟩
def upto(f:Nat->UInt8)(k:Nat):List UInt8:=(List.range k).map f
theorem upto_length(f:Nat->UInt8)(k:Nat):(upto f k).length=k:=by simp[upto]
theorem owns_later{wr w1:World}{e n:Nat}{v:Value}{xs:List Value}{base:Nat}(h:wr.ownsRow base e 1 v n xs)(hb:Below wr.heap.size wr w1):w1.ownsRow base e 1 v n xs:=by
 obtain⟨h0,h|⟨g,cap,cur,hv,hg,hh,r⟩⟩:=h
 ·exact⟨h0,Or.inl h⟩
 ·exact⟨h0,Or.inr ⟨g,cap,cur,hv,hg,by rw[hb.block g (Array.getElem?_eq_some_iff.1 hh).1];exact hh,r⟩⟩
theorem rd_row{w:World}{a:Option Addr}{len cap:Nat}{zs:List Int}
  (h:(a=none/\len=0/\cap=0/\zs=[])∨∃x,a=some x/\len<=cap/\cap<=maxLen/\zs.length=cap/\(∀i,i<zs.length->w.cell? (x.add i)=some (.int .u8 (zs.getD i 0)))/\∀n∈zs,(Lit.int .u8 n).wf=true):
  ∃p:List UInt8,len=p.length/\Rd w (.slice a len cap) p:=by
 rcases h with⟨rfl,rfl,rfl,rfl⟩|⟨x,rfl,hl,hm,hz,hcell,hwz⟩
 ·exact⟨[],rfl,Or.inl ⟨none,0,rfl,rfl,Zz,fun _=>rfl⟩⟩
 ·refine⟨(zs.take len).map (fun n=>UInt8.ofNat n.toNat),by rw[List.length_map,List.length_take];omega,?_⟩
  by_cases h0:len=0
  ·subst h0;exact Or.inl ⟨_,cap,rfl,rfl,hm,fun h=>by cases h⟩
  ·obtain⟨b,off,spot⟩:=x;have hc:=hcell 0 Zo;have hspot:spot=none:=by simpa[Addr.add]using World.cell?_spot hc
   subst hspot;have hlen:((zs.take len).map (fun n=>UInt8.ofNat n.toNat)).length=len:=by rw[List.length_map,List.length_take];omega
   have hbw:b<w.heap.size:=by
    have e:w.cell? ⟨b,off,none⟩=some (.int .u8 (zs.getD 0 0)):=by simpa[Addr.add]using hc
    unfold World.cell? at e
    by_cases hb:b<w.heap.size
    ·exact hb
    ·rw[Array.getElem?_eq_none (by show w.heap.size<=b;omega)]at e;cases e
   refine Or.inr ⟨b,off,cap,fun h=>by rw[h]at hlen;simp at hlen;omega,by rw[hlen],by rw[hlen];exact hl,hm,hbw,fun i hi=>?_⟩;rw[hlen]at hi;have e1:=hcell i Zo;rw[add_at]at e1;rw[e1];have hi2:i<zs.length:=Zo
   have e2:co ((zs.take len).map (fun n=>UInt8.ofNat n.toNat)) i=UInt8.ofNat (zs[i]).toNat:=by
    rw[co_lt (by rw[hlen];exact hi)];simp
   rw[e2];have hw:=hwz zs[i] (List.getElem_mem hi2);have hb:=bounds_u8 hw;rw[ofNat_u8 Zo];have e3:zs.getD i 0=zs[i]:=by simp[List.getD,hi2]
   rw[e3];congr 2;omega
theorem rd_lit{w:World}{n:Nat}{cs:Array Value}{e:Nat}(p:List UInt8)(hn:p.length=n)(hs:cs.toList=p.map vb)(hl:n<=1000000):Rd (w.alloc (.cells cs e)) (.slice (some ⟨w.heap.size,0,none⟩) n n) p:=by
 subst hn;refine Rd.owned (base:=w.heap.size) (e:=e) ?_
 rw[<-hs];exact World.ownsRow_lit w cs p.length Zr Zl (by rw[<-Array.length_toList,hs];simp)
theorem below_lit{w w':World}(h:Below w.heap.size w w')(o:Obj):Below w.heap.size w (w'.alloc o):=h.alloc h.size o
theorem wpList_append_rd{P:Program}(w:World){ops:Array Oper}{rest:List Oper}{o:Oper}{a:Act}{Q:Exit->Act->World->Prop}(hgd:o.guard=none)(s x:Operand)(t:TypeId)
  (ho:o.op= .call {callee:=.builtin .append,args:=#[s,x],argTypes:=#[t,t]})
  (base:Nat) (e:TypeId) (i:TypeInfo) (ht:P.underlying t=some (.slice e)) (hi:P.info? e=some i) (hz:i.zero=some (.int .u8 0)) (hsize:i.size=1) (hby:i.bytes=1)
  (v:Value) (n:Nat) (xs:List Value) (hs:a.eval s=v) (hown:w.ownsRow base e 1 v n xs) (va:Value) (p:List UInt8) (hx:a.eval x=va) (hr:Rd w va p) (hl:n+p.length<=1000000) (hbase:base<=w.heap.size)
  (h:∀v' w',w'.ownsRow base e 1 v' (n+p.length) (xs++p.map vb)->w.grownBy w' v.ownBlock->wpList P ops Q rest (a.put o.dst v') w'):wpList P ops Q (o::rest) a w:=by
 rcases hr with⟨ao,cap,rfl,rfl,hc,hn⟩|⟨b,off,cap,hp0,rfl,h1,h2,h3,hpc⟩
 ·rcases ao with _|ad
  ·have:=hn rfl;subst this;refine wpList_append_own_none hgd s x t ho base e i 1 ht hi v n xs hs hown hx ?_
   exact h v w (by simpa using hown) (World.grownBy.refl _ _)
  ·refine wpList_append_own w hgd s x t ho base e i (.int .u8 0) 1 1 ht hi hz hsize hby rfl Zd v n xs hs hown ad 0 cap [] hx rfl (by intro j u hj;simp at hj) (by intro u hu;simp at hu) Zl Zo hbase ?_
   intro v' w' ho' hg' _;exact h v' w' (by simpa using ho') hg'
 ·refine wpList_append_own w hgd s x t ho base e i (.int .u8 0) 1 1 ht hi hz hsize hby rfl Zd v n xs hs hown ⟨b,off,none⟩ p.length cap ((p.take p.length).map vb) hx Zs (news_of hpc) (vb_one _) Zl Zo hbase ?_
  intro v' w' ho' hg' _;exact h v' w' (by simpa using ho') hg'
theorem upto_zeros(L:Nat):(upto (fun _=>0) L).map vb=List.replicate L (.int .u8 0):=by
 unfold upto;rw[List.map_map];refine List.ext_getElem Zs fun i h1 h2=>?_
 simp[vb]
def RowF(w:World)(base e g L C:Nat)(f:Nat->UInt8):Prop:=w.ownsRow base e 1 (.slice (some ⟨g,0,none⟩) L C) L ((upto f L).map vb)
theorem RowF.cell{w:World}{base e g L C:Nat}{f:Nat->UInt8}(h:RowF w base e g L C f){j:Nat}(hj:j<L):w.cell? ⟨g,j,none⟩=some (.int .u8 ((f j).toNat:Nat)):=by
 have e1:=World.ownsRow.cellAt h j Zo;rw[e1,List.getElem?_map];unfold upto;rw[List.getElem?_map,List.getElem?_range hj];rfl
theorem RowF.rd{w:World}{base e g L C:Nat}{f:Nat->UInt8}(h:RowF w base e g L C f):Rd w (.slice (some ⟨g,0,none⟩) L C) (upto f L):=
 Rd.owned (base:=base) (e:=e) (by rw[upto_length];exact h)
theorem RowF.made{w:World}{base e g L:Nat}(h:w.ownsRow base e 1 (.slice (some ⟨g,0,none⟩) L L) L (madeCells (Value.cells (.int .u8 0)) (L*1)).toList):RowF w base e g L L (fun _=>0):=by
 unfold RowF;rw[upto_zeros];have e1:(madeCells (Value.cells (.int .u8 0)) (L*1)).toList=List.replicate L (.int .u8 0):=by
  rw[Nat.mul_one];exact toList_madeCells_one _ _
 rw[<-e1];exact h
theorem RowF.lt{w:World}{base e g L C:Nat}{f:Nat->UInt8}(h:RowF w base e g L C f):base<=g/\g<w.heap.size:=Zv h g rfl
theorem RowF.later{w w':World}{base e g L C:Nat}{f:Nat->UInt8}(h:RowF w base e g L C f)(hb:Below w.heap.size w w'):RowF w' base e g L C f:=owns_later h hb
theorem info_u8:(Tryz.prog.info? 5).map (fun i=>(i.zero,i.size,i.bytes))=some (some (.int .u8 0),1,1):=Zk
structure Only(g:Nat)(w w':World):Prop where
 os:w'.os=w.os
 tape:w'.tape=w.tape
 output:w'.output=w.output
 size:w'.heap.size=w.heap.size
 block:∀k,k≠g->w'.heap[k]? =w.heap[k]?
theorem Only.refl(g:Nat)(w:World):Only g w w:=⟨rfl,rfl,rfl,rfl,fun _ _=>rfl⟩
theorem Only.setCell{g:Nat}{a w:World}(h:Only g a w)(j:Nat)(u:Value):Only g a (w.setCell ⟨g,j,none⟩ u):=by
 have b:=(Below.refl 0 w).setCell (p:=⟨g,j,none⟩) Zz u;exact⟨b.os.trans h.os,b.tape.trans h.tape,b.output.trans h.output,by rw[<-h.size];simp,fun k hk=>(Below.heap_setCell w ⟨g,j,none⟩ u k hk).trans (h.block k hk)⟩
theorem Only.below{g B:Nat}{w w':World}(h:Only g w w')(hB:B<=g):Below B w w':=
 ⟨h.os,h.tape,h.output,by rw[h.size];exact Zr,fun k hk=>h.block k Zo⟩
theorem Only.cell{g:Nat}{w w':World}(h:Only g w w'){p:Addr}(hp:p.block≠g):w'.cell? p=w.cell? p:=Zc (w:=w) (h.block p.block hp)
def Apart(g:Nat)(v:Value):Prop:=∀x n c,v= .slice (some x) n c->n=0∨x.block≠g
theorem Rd.only{g:Nat}{w w':World}{v:Value}{p:List UInt8}(h:Rd w v p)(ha:Apart g v)(ho:Only g w w'):Rd w' v p:=by
 rcases h with h|⟨b,off,cap,h1,h2,h3,h4,h5,h6⟩
 ·exact Or.inl h
 ·have hb:b≠g:=by
   rcases ha _ _ _ h2 with e|e
   ·exact absurd (List.length_eq_zero_iff.1 e) h1
   ·exact e
  exact Or.inr ⟨b,off,cap,h1,h2,h3,h4,by rw[ho.size];exact h5,fun i hi=>(ho.cell (p:=⟨b,off+i,none⟩) hb).trans (h6 i hi)⟩
theorem Rd.apart{w:World}{v:Value}{p:List UInt8}{g:Nat}(h:Rd w v p)(hg:w.heap.size<=g):Apart g v:=by
 intro x n c e
 rcases h with⟨a,c',_,e2,_⟩|⟨b,off,cap,h1,h2,h3,h4,h5,h6⟩
 ·subst e2;simp at e;exact Or.inl e.2.1.symm
 ·subst h2;simp at e;obtain⟨rfl,rfl,rfl⟩:=e;exact Or.inr (by show b≠g;omega)
theorem RowF.only{g g':Nat}{w w':World}{base e L C:Nat}{f:Nat->UInt8}(h:RowF w base e g L C f)(hg:g≠g')(o:Only g' w w'):RowF w' base e g L C f:=by
 obtain⟨h0,h|⟨g2,cap,cur,hv,hgg,hh,r⟩⟩:=h
 ·exact⟨h0,Or.inl h⟩
 ·refine⟨h0,Or.inr ⟨g2,cap,cur,hv,hgg,?_,r⟩⟩;have eg:g2=g:=by simp at hv;exact hv.1.symm
  rw[o.block g2 (by rw[eg];exact hg)];exact hh
theorem Only.drewN{g:Nat}{a w:World}(h:Only g a w)(n:Nat):Only g a (w.drewN n):=⟨h.os,h.tape,h.output,h.size,h.block⟩
theorem apart_block{g b off n c:Nat}(h:b≠g):Apart g (.slice (some ⟨b,off,none⟩) n c):=by
 intro x n' c' e;simp at e;obtain⟨rfl,_⟩:=e;exact Or.inr h
theorem Only.frozen{g:Nat}{w w':World}(h:Only g w w'){p:Addr}(hp:p.block≠g):w'.frozen? p=w.frozen? p:=World.frozen?_of_block (w:=w) (h.block p.block hp)
def sameB(p q:List UInt8):Bool:=decide (p=q)
theorem sameB_self(p:List UInt8):sameB p p=true:=Zy rfl
theorem sameB_of{p q:List UInt8}(h:p=q):sameB p q=true:=Zy h
theorem same_len(a b:Option Addr)(n m c d:Nat)(w:World)(h:n≠m):
  Calls Tryz.prog 88 #[.slice a n c,.slice b m d] w fun e w'=>e= .returned (.bool false)/\w'=w:=by
 have hb:((n:Int)!=(m:Int))=true:=Zm
 go_enter Tryz.func88,Tryz.ntmps88
 go_wp2;go_ret;exact⟨rfl,rfl⟩
theorem same_nil(a b:Option Addr)(c d:Nat)(w:World):
  Calls Tryz.prog 88 #[.slice a 0 c,.slice b 0 d] w fun e w'=>e= .returned (.bool true)/\w'=w:=by
 go_enter Tryz.func88,Tryz.ntmps88
 go_wp2
 go_loop [5] (fun i=>i= .int .i64 0) (fun _=>0)
 case atStart=>rfl
 case round=>
  subst hrel;go_wp2;go_ret;exact⟨rfl,rfl⟩
theorem same_main(b off b' off' c d:Nat)(p q:List UInt8)(w:World)(hl:q.length=p.length)(hm:p.length<=9223372036854775807)
  (hp:∀i,i<p.length->w.cell? ⟨b,off+i,none⟩=some (.int .u8 ((co p i).toNat:Nat)))
  (hq:∀i,i<p.length->w.cell? ⟨b',off'+i,none⟩=some (.int .u8 ((co q i).toNat:Nat))):
  Calls Tryz.prog 88 #[.slice (some ⟨b,off,none⟩) p.length c,.slice (some ⟨b',off',none⟩) p.length d] w fun e w'=>e= .returned (.bool (sameB p q))/\∃n,w'=w.drewN n:=by
 have hb:((p.length:Int)!=(p.length:Int))=false:=Zs
 go_enter Tryz.func88,Tryz.ntmps88
 go_wp2;clear hb
 go_loopw [5] (fun i wr=>∃k:Nat,k<=p.length/\i= .int .i64 k/\Hid (∀j,j<k->co p j=co q j)/\∃n,wr=w.drewN n) (fun i _=>p.length-(intOf i).toNat)
 case atStart=>exact⟨0,Zo,rfl,fun j hj=>Zo,0,rfl⟩
 case round=>
  obtain⟨k,hk,rfl,hs,nd,rfl⟩:=hrel
  by_cases hlt:k<p.length
  ·have c1:=hp k hlt;have c2:=hq k hlt
   by_cases e:co p k=co q k
   ·have hn:((((co p k).toNat:Nat):Int)!=(((co q k).toNat:Nat):Int))=false:=by rw[ne_u8];simp[e]
    have HS:Hid (∀j,j<k+1->co p j=co q j):=fun j hj=>by
     by_cases e2:j=k
     ·rw[e2];exact e
     ·exact hs.out j Zo
    clear e hp hq hs;go_wp2
    go_quiet (fail)
    go_wp2;go_roundw
    case rel=>exact⟨k+1,Zo,Zg,HS,_,rfl⟩
    case measure=>simp[intOf];omega
   ·have hn:((((co p k).toNat:Nat):Int)!=(((co q k).toNat:Nat):Int))=true:=by rw[ne_u8];simp[e]
    have E:Hid (sameB p q=false):=by
     refine Zx (fun h=>e ?_);rw[h]
    clear e hp hq hs;go_wp2
    go_quiet (fail)
    go_wp2;go_ret;exact⟨by rw[E.out];rfl,_,World.drewN_drewN _ _ _⟩
  ·have E:Hid (sameB p q=true):=sameB_of (co_ext hl.symm (fun i hi=>hs.out i Zo));clear hp hq hs;go_wp2;go_ret;exact⟨by rw[E.out];rfl,_,rfl⟩
theorem same_any{va vb:Value}{p q:List UInt8}{w:World}(hp:Rd w va p)(hq:Rd w vb q):
  Calls Tryz.prog 88 #[va,vb] w fun e w'=>e= .returned (.bool (sameB p q))/\∃n,w'=w.drewN n:=by
 have l1:=hp.len;have l2:=hq.len;unfold maxLen at l1 l2
 by_cases hl:p.length=q.length
 ·rcases hp with⟨a,c,rfl,rfl,_⟩|⟨b,off,c,hp0,rfl,_,_,_,hpc⟩
  ·have:q=[]:=List.length_eq_zero_iff.1 (by simpa using hl.symm)
   subst this
   rcases hq with⟨a',c',_,rfl,_⟩|⟨_,_,_,h,_⟩
   ·exact(same_nil a a' c c' w).mono fun e w' ⟨he,hw⟩=>⟨by rw[he,sameB_self],0,hw⟩
   ·exact absurd rfl h
  ·rcases hq with⟨a',c',rfl,rfl,_⟩|⟨b',off',c',hq0,rfl,_,_,_,hqc⟩
   ·exact absurd (List.length_eq_zero_iff.1 hl) hp0
   ·rw[<-hl];exact same_main b off b' off' c c' p q w hl.symm Zo hpc (fun i hi=>hqc i Zo)
 ·have E:sameB p q=false:=Zx (fun h=>hl (by rw[h]));have key:∃a n c,va= .slice a n c/\n=p.length:=by
   rcases hp with⟨a,c,rfl,rfl,_⟩|⟨b,off,c,hp0,rfl,_⟩
   ·exact⟨_,_,_,rfl,rfl⟩
   ·exact⟨_,_,_,rfl,rfl⟩
  have key2:∃a n c,vb= .slice a n c/\n=q.length:=by
   rcases hq with⟨a,c,rfl,rfl,_⟩|⟨b,off,c,hp0,rfl,_⟩
   ·exact⟨_,_,_,rfl,rfl⟩
   ·exact⟨_,_,_,rfl,rfl⟩
  obtain⟨a,n,c,rfl,rfl⟩:=key;obtain⟨a',n',c',rfl,rfl⟩:=key2;exact(same_len a a' _ _ c c' w hl).mono fun e w' ⟨he,hw⟩=>⟨by rw[he,E],0,hw⟩
theorem same_b{va vb:Value}{p q:List UInt8}{w:World}(hp:Rd w va p)(hq:Rd w vb q):
  Calls Tryz.prog 88 #[va,vb] w fun e w'=>e= .returned (.bool (sameB p q))/\Below w.heap.size w w':=
 (same_any hp hq).mono fun e w' ⟨he,n,hw⟩=>⟨he,by rw[hw];exact⟨rfl,rfl,rfl,Zr,fun _ _=>rfl⟩⟩
end Go.Proofs.YtclieefpnbdbjaaGreat.Gf
