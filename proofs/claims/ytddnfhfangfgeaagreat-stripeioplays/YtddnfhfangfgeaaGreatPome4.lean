/- JOINED: RdIn, TuLm, TuL, MxTurn, MxMath, MxRd, MxOwn, MxStep, MxRCheck, MxRPick, MxWi, MxRmu, MxNf. -/
import Derived.Laws.CopyOwn
import Derived.Deep.AppendLies
import Derived.Test.YtddnfhfangfgeaaGreatPome2
import Derived.Deep.OwnRows
import Derived.Deep.CutRange
set_option maxHeartbeats 4000000
set_option maxRecDepth 100000
namespace Go.Proofs.YtddnfhfangfgeaaGreat.Gf
set_option linter.unusedVariables false
set_option linter.unusedSimpArgs false
open Go.RowKit
def RdI(w:World)(v:Value)(zs:List Int):Prop:=
 (∃ao cap,zs=[]/\v= .slice ao 0 cap)∨(∃b off cap,zs≠[]/\v= .slice (some ⟨b,off,none⟩) zs.length cap/\zs.length<=maxLen/\b<w.heap.size/\∀i,i<zs.length->w.cell? ⟨b,off+i,none⟩=some (.int .i64 (zs.getD i 0)))
theorem RdI.below{w w':World}{v:Value}{zs:List Int}(h:RdI w v zs)(hb:Below w.heap.size w w'):RdI w' v zs:=by
 rcases h with h|⟨b,off,cap,h1,h2,h3,h5,h6⟩
 ·exact Or.inl h
 ·exact Or.inr ⟨b,off,cap,h1,h2,h3,Zu h5 hb.size,fun i hi=>(hb.cell (p:=⟨b,off+i,none⟩) h5).trans (h6 i hi)⟩
theorem RdI.form{w:World}{v:Value}{zs:List Int}(h:RdI w v zs):∃a c,v= .slice a zs.length c:=by
 rcases h with⟨a,c,rfl,rfl⟩|⟨b,off,c,_,rfl,_⟩
 ·exact⟨a,c,rfl⟩
 ·exact⟨_,c,rfl⟩
theorem _root_.Go.RowKit.Below.drewN{B:Nat}{a w:World}(h:Below B a w)(n:Nat):Below B a (w.drewN n):=⟨h.os,h.tape,h.output,h.size,h.block⟩
structure TurnL(G:List Nat)(w w':World):Prop where
 os:w'.os=w.os
 tape:w'.tape=w.tape
 output:w'.output=w.output
 size:w.heap.size<=w'.heap.size
 block:∀k,k<w.heap.size->k ∉ G->w'.heap[k]? =w.heap[k]?
theorem TurnL.refl(G:List Nat)(w:World):TurnL G w w:=⟨rfl,rfl,rfl,Zr,fun _ _ _=>rfl⟩
theorem TurnL.trans{G:List Nat}{a b c:World}(h:TurnL G a b)(k:TurnL G b c):TurnL G a c:=
 ⟨k.os.trans h.os,k.tape.trans h.tape,k.output.trans h.output,Nat.le_trans h.size k.size,fun i hi hg=>(k.block i (Zu hi h.size) hg).trans (h.block i hi hg)⟩
theorem Below.turnL{w w':World}(h:Below w.heap.size w w')(G:List Nat):TurnL G w w':=⟨h.os,h.tape,h.output,h.size,fun k hk _=>h.block k hk⟩
theorem Only.turnL{g:Nat}{G:List Nat}{w w':World}(h:Only g w w')(hg:g∈G):TurnL G w w':=
 ⟨h.os,h.tape,h.output,by rw[h.size];exact Zr,fun k _ hk=>h.block k (fun e=>hk (by rw[e];exact hg))⟩
theorem TurnL.put{G:List Nat}{a w:World}(h:TurnL G a w){g:Nat}(hg:g∈G)(j:Nat)(u:Value):TurnL G a (w.setCell ⟨g,j,none⟩ u):=h.trans (((Only.refl g w).setCell j u).turnL hg)
theorem TurnL.drew{G:List Nat}{a w:World}(h:TurnL G a w):TurnL G a w.drew:=⟨h.os,h.tape,h.output,h.size,h.block⟩
theorem TurnL.below{G:List Nat}{B:Nat}{w w':World}(h:TurnL G w w')(hg:∀g,g∈G->B<=g)(hB:B<=w.heap.size):Below B w w':=
 ⟨h.os,h.tape,h.output,h.size,fun k hk=>h.block k Zo (fun e=>by have:=hg k e;omega)⟩
theorem TurnL.cell{G:List Nat}{w w':World}(h:TurnL G w w'){p:Addr}(hs:p.block<w.heap.size)(hp:p.block ∉ G):w'.cell? p=w.cell? p:=Zc (w:=w) (h.block p.block hs hp)
def ApartL(G:List Nat)(v:Value):Prop:=∀x n c,v= .slice (some x) n c->n=0∨x.block ∉ G
theorem Rd.turnL{G:List Nat}{w w':World}{v:Value}{p:List UInt8}(h:Rd w v p)(ha:ApartL G v)(ho:TurnL G w w'):Rd w' v p:=by
 rcases h with h|⟨b,off,cap,h1,h2,h3,h4,h5,h6⟩
 ·exact Or.inl h
 ·have hb:b ∉ G:=by
   rcases ha _ _ _ h2 with e|e
   ·exact absurd (List.length_eq_zero_iff.1 e) h1
   ·exact e
  exact Or.inr ⟨b,off,cap,h1,h2,h3,h4,Zu h5 ho.size,fun i hi=>(ho.cell (p:=⟨b,off+i,none⟩) h5 hb).trans (h6 i hi)⟩
theorem Rd.apartL{w:World}{v:Value}{p:List UInt8}{G:List Nat}(h:Rd w v p)(hg:∀g,g∈G->w.heap.size<=g):ApartL G v:=by
 intro x n c e
 rcases h with⟨a,c',_,e2,_⟩|⟨b,off,cap,h1,h2,h3,h4,h5,h6⟩
 ·subst e2;simp at e;exact Or.inl e.2.1.symm
 ·subst h2;simp at e;obtain⟨rfl,rfl,rfl⟩:=e;exact Or.inr (fun h=>by have:=hg b h;omega)
theorem ApartL.nil(G:List Nat)(c:Nat)(a:Option Addr):ApartL G (.slice a 0 c):=fun x n c' e=>by simp at e;exact Or.inl e.2.1.symm
theorem FieldAt.turnL{G:List Nat}{b:Nat}{w w':World}(h:FieldAt w b)(hb:b ∉ G)(o:TurnL G w w'):FieldAt w' b:=
 ⟨fun i hi=>(o.cell (p:=⟨b,i,none⟩) h.lt hb).trans (h.powers i hi),fun i hi=>(o.cell (p:=⟨b,255+i,none⟩) h.lt hb).trans (h.places i hi),Zu h.lt o.size⟩
structure Turn(g:Nat)(w w':World):Prop where
 os:w'.os=w.os
 tape:w'.tape=w.tape
 output:w'.output=w.output
 size:w.heap.size<=w'.heap.size
 block:∀k,k<w.heap.size->k≠g->w'.heap[k]? =w.heap[k]?
theorem Turn.refl(g:Nat)(w:World):Turn g w w:=⟨rfl,rfl,rfl,Zr,fun _ _ _=>rfl⟩
theorem Turn.trans{g:Nat}{a b c:World}(h:Turn g a b)(k:Turn g b c):Turn g a c:=
 ⟨k.os.trans h.os,k.tape.trans h.tape,k.output.trans h.output,Nat.le_trans h.size k.size,fun i hi hg=>(k.block i (Zu hi h.size) hg).trans (h.block i hi hg)⟩
theorem Only.turn{g:Nat}{w w':World}(h:Only g w w'):Turn g w w':=⟨h.os,h.tape,h.output,by rw[h.size];exact Zr,fun k _ hk=>h.block k hk⟩
theorem Turn.below{g B:Nat}{w w':World}(h:Turn g w w')(hg:B<=g)(hB:B<=w.heap.size):Below B w w':=
 ⟨h.os,h.tape,h.output,h.size,fun k hk=>h.block k Zo Zo⟩
theorem Turn.cell{g:Nat}{w w':World}(h:Turn g w w'){p:Addr}(hs:p.block<w.heap.size)(hp:p.block≠g):w'.cell? p=w.cell? p:=Zc (w:=w) (h.block p.block hs hp)
theorem Turn.frozen{g:Nat}{w w':World}(h:Turn g w w'){p:Addr}(hs:p.block<w.heap.size)(hp:p.block≠g):w'.frozen? p=w.frozen? p:=World.frozen?_of_block (w:=w) (h.block p.block hs hp)
def putAt(f:Nat->UInt8)(o n:Nat)(q:Nat->UInt8)(t:Nat):UInt8:=if o<=t/\t<o+n then q (t-o)else f t
theorem putAt_zero(f:Nat->UInt8)(o:Nat)(q:Nat->UInt8):putAt f o 0 q=f:=by funext t;exact if_neg Zo
theorem putAt_step(f:Nat->UInt8)(o k:Nat)(q:Nat->UInt8)(t:Nat):putAt f o (k+1) q t=if t=o+k then q k else putAt f o k q t:=by
 unfold putAt
 by_cases e:t=o+k
 ·subst e;rw[if_pos Zo,if_pos rfl,show o+k-o=k by omega]
 ·rw[if_neg e]
  by_cases h:o<=t/\t<o+k
  ·rw[if_pos h,if_pos Zo]
  ·rw[if_neg h,if_neg Zo]
theorem putAt_out{f:Nat->UInt8}{o n:Nat}{q:Nat->UInt8}{t:Nat}(h:t<o∨o+n<=t):putAt f o n q t=f t:=if_neg Zo
theorem putAt_in{f:Nat->UInt8}{o n:Nat}{q:Nat->UInt8}{k:Nat}(h:k<n):putAt f o n q (o+k)=q k:=by
 unfold putAt;rw[if_pos Zo,show o+k-o=k by omega]
theorem RowF.heap{w:World}{base e g L C:Nat}{f:Nat->UInt8}(h:RowF w base e g L C f)(hLC:L=C):w.heap[g]? =some (.cells ((upto f L).map vb).toArray e (0,0))/\C<=maxLen:=by
 obtain⟨h0,⟨hv,_⟩|⟨g2,cap,cur,hv,hgg,hh,h1,h2,h3,h4⟩⟩:=h
 ·simp at hv
 ·have e1:g2=g:=by simp at hv;exact hv.1.symm
  have e2:cap=C:=by simp at hv;exact(by first|exact hv.symm|exact hv.2.symm)
  clear hv;subst e1 e2 hLC;refine⟨?_,h2⟩;rw[hh,<-h4,Nat.mul_one];congr 2;apply Array.ext'
  have:cur.toList.length=L:=by rw[Array.length_toList,h3,Nat.mul_one]
  rw[List.toList_toArray,<-this,List.take_length]
theorem RowF.of_heap{w:World}{base e g L:Nat}{f:Nat->UInt8}(hg:base<=g)(hm:L<=maxLen)(h:w.heap[g]? =some (.cells ((upto f L).map vb).toArray e (0,0))):RowF w base e g L L f:=by
 have hl:((upto f L).map vb).length=L:=by rw[List.length_map,upto_length]
 refine⟨by rw[hl,Nat.mul_one],Or.inr ⟨g,L,_,rfl,hg,h,Zr,hm,by rw[List.size_toArray,hl,Nat.mul_one],?_⟩⟩;rw[Nat.mul_one,List.toList_toArray];exact List.take_of_length_le (by rw[hl];exact Zr)
theorem co_drop(p:List UInt8)(n i:Nat):co (p.drop n) i=co p (n+i):=by unfold co;rw[List.getElem?_drop]
theorem co_upto_lt{f:Nat->UInt8}{n i:Nat}(h:i<n):co (upto f n) i=f i:=co_map_range f h
theorem splice_upto{f:Nat->UInt8}{L o:Nat}{p:List UInt8}(h:o+p.length<=L):splice ((upto f L).map vb) o (p.map vb)=(upto (putAt f o p.length (co p)) L).map vb:=by
 unfold splice;rw[<-List.map_take,<-List.map_drop,<-List.map_append,<-List.map_append];congr 1;refine co_ext ?_ ?_
 ·simp[upto];omega
 ·intro i hi;rw[List.length_append,List.length_append,List.length_take,List.length_drop,upto_length,List.length_map]at hi;rw[co_upto_lt (f:=putAt f o p.length (co p)) (show i<L by omega)]
  by_cases h1:i<o
  ·rw[putAt_out (Or.inl h1),co_append_lt (by rw[List.length_take,upto_length];omega),co_take h1,co_upto_lt Zo]
  ·by_cases h2:i<o+p.length
   ·obtain⟨k,rfl⟩:=Nat.exists_eq_add_of_le (show o<=i by omega);rw[putAt_in (show k<p.length by omega),co_append_ge (by rw[List.length_take,upto_length];omega),List.length_take,upto_length];rw[co_append_lt Zo,show o+k-min o L=k by omega]
   ·rw[putAt_out (Or.inr Zo),co_append_ge (by rw[List.length_take,upto_length];omega),List.length_take,upto_length,co_append_ge Zo,co_drop,List.length_map];rw[show o+p.length+(i-min o L-p.length)=i by omega,co_upto_lt Zo]
theorem only_setRow(w:World)(g:Nat)(cs:Array Value):Only g w (w.setRow g cs):=⟨rfl,rfl,rfl,by simp[World.setRow],fun k hk=>setRow_other w g k cs hk⟩
theorem step_copy_rd{P:Program}{ops:Array Oper}{o:Oper}{a:Act}{w:World}{K:Act->World->Prop}{Q:Exit->Act->World->Prop}{E:Prop}(hgd:o.guard=none)(d s:Operand)(dT sT:TypeId)
  (ho:o.op= .call {callee:=.builtin .copy,args:=#[d,s],argTypes:=#[dT,sT]}) (elem:TypeId) (hu:P.underlying dT=some (.slice elem)) (hsz:(P.info? elem).map (·.size)=some 1)
  {g off n dl dCap:Nat} {va:Value} {p:List UInt8} {base e L:Nat} {f:Nat->UInt8} (hd:a.eval d= .slice (some ⟨g,off,none⟩) dl dCap) (hs:a.eval s=va) (hr:Rd w va p) (hn:p.length=n) (hdl:n<=dl) (hR:RowF w base e g L L f) (hl:off+n<=L)
  (h:∀w',Only g w w'->RowF w' base e g L L (putAt f off n (co p))->K (a.put o.dst (goInt n)) w'):
  if Region.wanted o (yielded ops a.tmps)=true then Oper.wp P o a w K Q else E:=by
 have hw:Region.wanted o (yielded ops a.tmps)=true:=by simp[Region.wanted,hgd]
 rw[if_pos hw];subst hn;obtain⟨hg,hm⟩:=hR.heap rfl;have hlt:=hR.lt
 rcases hr with⟨ao,cap,rfl,rfl,_⟩|⟨b,so,cap,hp0,rfl,h1,h2,h3,hpc⟩
 ·have hrun:=run_copy_none (P:=P) w dT sT o.type elem (some ⟨g,off,none⟩) ao dl dCap 0 cap hu hsz (Nat.zero_min _);unfold Oper.wp;simp[execOp,ho,resolve,invoke,builtin,hd,hs,hrun,Result.andThen];exact h w (Only.refl _ _) (by rw[List.length_nil,putAt_zero];exact hR)
 ·have hrun:=run_copy_row (P:=P) w dT sT o.type elem g off dl dCap ⟨b,so,none⟩ p.length cap ((upto f L).map vb).toArray e (p.map vb) hu hsz hg (by rw[List.length_map];exact(Nat.min_eq_left hdl).symm) (by have:=news_of (k:=p.length) hpc;rwa[List.take_length]at this) (by simp[upto_length];exact hl) (vb_one p);unfold Oper.wp;simp[execOp,ho,resolve,invoke,builtin,hd,hs,hrun,Result.andThen];refine h _ (only_setRow _ _ _) (RowF.of_heap hlt.1 hm ?_);rw[<-splice_upto hl];simpa[splice]using setRow_heap w g _ _ e _ hg
theorem S_swap(n m:Nat)(F:Nat->Nat->UInt8):S n (fun i=>S m (fun j=>F i j))=S m (fun j=>S n (fun i=>F i j)):=by
 induction n with
 |zero=>rw[S];exact(S_zero fun _ _=>rfl).symm
 |succ n ih=>
  rw[S,ih,<-S_xor];exact S_congr fun j _=>rfl
abbrev Mx:=Nat->Nat->UInt8
def mm(n:Nat)(A B:Mx):Mx:=fun i j=>S n (fun k=>mu (A i k) (B k j))
def mv(n:Nat)(A:Mx)(x:Nat->UInt8)(i:Nat):UInt8:=S n (fun k=>mu (A i k) (x k))
def one:Mx:=fun i j=>if i=j then 1 else 0
theorem one_self(i:Nat):one i i=1:=if_pos rfl
theorem one_ne{i j:Nat}(h:i≠j):one i j=0:=if_neg h
theorem mm_assoc(n m:Nat)(A B C:Mx):mm n (mm m A B) C=mm m A (mm n B C):=by
 funext i j;unfold mm;have e1:S n (fun k=>mu (S m (fun l=>mu (A i l) (B l k))) (C k j))=S n (fun k=>S m (fun l=>mu (A i l) (mu (B l k) (C k j)))):=
  S_congr fun k _=>by rw[S_mu];exact S_congr fun l _=>mu_assoc _ _ _
 have e2:S m (fun l=>mu (A i l) (S n (fun k=>mu (B l k) (C k j))))=S m (fun l=>S n (fun k=>mu (A i l) (mu (B l k) (C k j)))):=
  S_congr fun l _=>mu_S _ _ _
 rw[e1,e2,S_swap]
theorem mv_assoc(n m:Nat)(A B:Mx)(x:Nat->UInt8):mv n (mm m A B) x=mv m A (mv n B x):=by
 funext i;exact congrFun (congrFun (mm_assoc n m A B (fun k _=>x k)) i) 0
theorem mm_congr{n:Nat}{A A' B B':Mx}{i j:Nat}(hA:∀k,k<n->A i k=A' i k)(hB:∀k,k<n->B k j=B' k j):mm n A B i j=mm n A' B' i j:=
 S_congr fun k hk=>by rw[hA k hk,hB k hk]
theorem mv_congr{n:Nat}{A A':Mx}{x x':Nat->UInt8}{i:Nat}(hA:∀k,k<n->A i k=A' i k)(hx:∀k,k<n->x k=x' k):mv n A x i=mv n A' x' i:=
 S_congr fun k hk=>by rw[hA k hk,hx k hk]
theorem mm_one{n:Nat}(A:Mx)(i:Nat){j:Nat}(hj:j<n):mm n A one i j=A i j:=by
 unfold mm;rw[S_one (k:=j) hj (fun k _ hk=>by rw[one_ne hk,mu_zero]),one_self,mu_one]
theorem one_mm{n:Nat}(A:Mx){i:Nat}(j:Nat)(hi:i<n):mm n one A i j=A i j:=by
 unfold mm;rw[S_one (k:=i) hi (fun k _ hk=>by rw[one_ne (fun h=>hk h.symm),zero_mu]),one_self,one_mu]
theorem one_mv{n:Nat}(x:Nat->UInt8){i:Nat}(hi:i<n):mv n one x i=x i:=one_mm (fun k _=>x k) 0 hi
theorem mm_add(n:Nat)(A B C:Mx)(i j:Nat):mm n A (fun i j=>B i j^^^C i j) i j=mm n A B i j^^^mm n A C i j:=by
 unfold mm;rw[<-S_xor];exact S_congr fun k _=>mu_xor _ _ _
theorem mv_add(n:Nat)(A:Mx)(x y:Nat->UInt8)(i:Nat):mv n A (fun k=>x k^^^y k) i=mv n A x i^^^mv n A y i:=mm_add n A (fun k _=>x k) (fun k _=>y k) i 0
structure IsInv(n:Nat)(A V:Mx):Prop where
 left:∀i j,i<n->j<n->mm n V A i j=one i j
 right:∀i j,i<n->j<n->mm n A V i j=one i j
def IsSing(n:Nat)(A:Mx):Prop:=∃x:Nat->UInt8,(∃j,j<n/\x j≠0)/\∀i,i<n->mv n A x i=0
theorem IsInv.unique_left{n:Nat}{A V V':Mx}(h:IsInv n A V)(hV:∀i j,i<n->j<n->mm n V' A i j=one i j):∀i j,i<n->j<n->V' i j=V i j:=by
 intro i j hi hj;have e1:mm n V' (mm n A V) i j=V' i j:=by rw[mm_congr (A':=V') (B':=one) (fun _ _=>rfl) (fun k hk=>h.right k j hk hj),mm_one V' i hj]
 have e2:mm n (mm n V' A) V i j=V i j:=by rw[mm_congr (A':=one) (B':=V) (fun k hk=>hV i k hi hk) (fun _ _=>rfl),one_mm V j hi]
 rw[<-e1,<-e2,mm_assoc]
theorem IsInv.unique{n:Nat}{A V V':Mx}(h:IsInv n A V)(h':IsInv n A V'):∀i j,i<n->j<n->V' i j=V i j:=h.unique_left h'.left
theorem IsInv.congr{n:Nat}{A A' V V':Mx}(h:IsInv n A V)(hA:∀i j,i<n->j<n->A i j=A' i j)(hV:∀i j,i<n->j<n->V i j=V' i j):IsInv n A' V':=
 ⟨fun i j hi hj=>by rw[<-h.left i j hi hj];exact(mm_congr (fun k hk=>hV i k hi hk) (fun k hk=>hA k j hk hj)).symm,
  fun i j hi hj=>by rw[<-h.right i j hi hj];exact(mm_congr (fun k hk=>hA i k hi hk) (fun k hk=>hV k j hk hj)).symm⟩
theorem IsSing.congr{n:Nat}{A A':Mx}(h:IsSing n A)(hA:∀i j,i<n->j<n->A i j=A' i j):IsSing n A':=by
 obtain⟨x,hx,h0⟩:=h;exact⟨x,hx,fun i hi=>by rw[<-h0 i hi];exact(mv_congr (fun k hk=>hA i k hi hk) (fun _ _=>rfl)).symm⟩
structure GJ(n:Nat)(A L R:Mx)(c:Nat):Prop where
 eqn:∀i j,i<n->j<n->mm n R A i j=L i j
 ker:∀x:Nat->UInt8,(∀i,i<n->mv n R x i=0)->∀j,j<n->x j=0
 done:∀j,j<c->∀i,i<n->i≠j->L i j=0
 piv:∀j,j<c->L j j≠0
theorem GJ.start(n:Nat)(A:Mx):GJ n A A one 0:=
 ⟨fun i j hi hj=>one_mm A j hi,fun x h j hj=>by rw[<-h j hj,one_mv x hj],fun j h=>Zo,fun j h=>Zo⟩
theorem GJ.congr{n c:Nat}{A A' L L' R R':Mx}(h:GJ n A L R c)(hc:c<=n)(hA:∀i j,i<n->j<n->A i j=A' i j)(hL:∀i j,i<n->j<n->L i j=L' i j)(hR:∀i j,i<n->j<n->R i j=R' i j):GJ n A' L' R' c:=
 ⟨fun i j hi hj=>by rw[<-hL i j hi hj,<-h.eqn i j hi hj];exact(mm_congr (fun k hk=>hR i k hi hk) (fun k hk=>hA k j hk hj)).symm,
  fun x hx=>h.ker x fun i hi=>by rw[<-hx i hi];exact mv_congr (fun k hk=>hR i k hi hk) (fun _ _=>rfl),
  fun j hj i hi hij=>by rw[<-hL i j hi Zo];exact h.done j hj i hi hij,
  fun j hj=>by rw[<-hL j j Zo Zo];exact h.piv j hj⟩
def sw(p c i:Nat):Nat:=if i=p then c else if i=c then p else i
theorem sw_lt{p c i n:Nat}(hp:p<n)(hc:c<n)(hi:i<n):sw p c i<n:=by unfold sw;split<;>(try split)<;>omega
theorem sw_sw(p c i:Nat):sw p c (sw p c i)=i:=by
 unfold sw
 by_cases h1:i=p
 ·subst h1;rw[if_pos rfl]
  by_cases h2:c=i
  ·rw[if_pos h2];exact h2
  ·rw[if_neg h2,if_pos rfl]
 ·rw[if_neg h1]
  by_cases h2:i=c
  ·rw[if_pos h2,if_pos rfl];exact h2.symm
  ·rw[if_neg h2,if_neg h1,if_neg h2]
theorem sw_low{p c j:Nat}(h1:j<c)(h2:c<=p):sw p c j=j:=by unfold sw;rw[if_neg Zo,if_neg Zo]
theorem GJ.swap{n c p:Nat}{A L R:Mx}(h:GJ n A L R c)(hcp:c<=p)(hp:p<n):GJ n A (fun i j=>L (sw p c i) j) (fun i j=>R (sw p c i) j) c:=by
 have hc:c<n:=Zo
 refine⟨fun i j hi hj=>?_,fun x hx j hj=>?_,fun j hj i hi hij=>?_,fun j hj=>?_⟩
 ·exact h.eqn (sw p c i) j (sw_lt hp hc hi) hj
 ·refine h.ker x (fun i hi=>?_) j hj;have:=hx (sw p c i) (sw_lt hp hc hi);rw[<-this];unfold mv;exact S_congr fun k _=>by simp only[sw_sw]
 ·refine h.done j hj _ (sw_lt hp hc hi) fun e=>hij ?_
  rw[<-sw_sw p c i,e,sw_low hj hcp]
 ·show L (sw p c j) j≠0
  rw[sw_low hj hcp];exact h.piv j hj
theorem mm_scale(n:Nat)(R A:Mx)(x:UInt8)(i j:Nat):S n (fun k=>mu (mu x (R i k)) (A k j))=mu x (mm n R A i j):=by
 unfold mm;rw[mu_S];exact S_congr fun k _=>mu_assoc _ _ _
theorem GJ.clear{n c r:Nat}{A L R:Mx}{x:UInt8}(h:GJ n A L R c)(hr:r<n)(hc:c<n)(hrc:r≠c):GJ n A (fun i j=>if i=r then L i j^^^mu x (L c j)else L i j) (fun i j=>if i=r then R i j^^^mu x (R c j)else R i j) c:=by
 have key:∀B:Mx,∀j,S n (fun k=>mu (R r k^^^mu x (R c k)) (B k j))=mm n R B r j^^^mu x (mm n R B c j):=by
  intro B j;rw[<-mm_scale,mm,<-S_xor];exact S_congr fun k _=>xor_mu _ _ _
 refine⟨fun i j hi hj=>?_,fun y hy=>?_,fun j hj i hi hij=>?_,fun j hj=>?_⟩
 ·by_cases e:i=r
  ·subst e;rw[if_pos rfl,<-h.eqn i j hi hj,<-h.eqn c j hc hj,<-key A j];exact S_congr fun k _=>by simp only[if_pos,↓reduceIte]
  ·rw[if_neg e,<-h.eqn i j hi hj];exact S_congr fun k _=>by simp only[if_neg e]
 ·have hn:∀i,i<n->i≠r->mv n R y i=0:=fun i hi e=>by
   rw[<-hy i hi];exact S_congr fun k _=>by simp only[if_neg e]
  refine h.ker y (fun i hi=>?_)
  by_cases e:i=r
  ·subst e;have h1:=hy i hi;have e2:mv n (fun i_1 j=>if i_1=i then R i_1 j^^^mu x (R c j)else R i_1 j) y i=mv n R y i^^^mu x (mv n R y c):=by
    rw[show mv n R y i^^^mu x (mv n R y c)=mm n R (fun k _=>y k) i 0^^^mu x (mm n R (fun k _=>y k) c 0)from rfl,<-key];exact S_congr fun k _=>by simp only[if_pos,↓reduceIte]
   rw[e2,hn c hc (fun h=>hrc h.symm),mu_zero,x_zero]at h1;exact h1
  ·exact hn i hi e
 ·show(if i=r then L i j^^^mu x (L c j)else L i j)=0
  rw[h.done j hj i hi hij,h.done j hj c hc Zo,mu_zero,x_zero];split<;>rfl
 ·show(if j=r then L j j^^^mu x (L c j)else L j j)≠0
  rw[h.done j hj c hc Zo,mu_zero,x_zero];split<;>exact h.piv j hj
theorem GJ.next{n c:Nat}{A L R:Mx}(h:GJ n A L R c)(hcol:∀i,i<n->i≠c->L i c=0)(hp:L c c≠0):GJ n A L R (c+1):=
 ⟨h.eqn,h.ker,fun j hj i hi hij=>by
  by_cases e:j=c
  ·subst e;exact hcol i hi hij
  ·exact h.done j Zo i hi hij,
  fun j hj=>by
  by_cases e:j=c
  ·subst e;exact hp
  ·exact h.piv j Zo⟩
theorem GJ.sing{n c:Nat}{A L R:Mx}(h:GJ n A L R c)(hc:c<n)(hz:∀i,c<=i->i<n->L i c=0):IsSing n A:=by
 refine⟨fun j=>if j<c then mu (L j c) (iv (L j j))else one j c,⟨c,hc,by show(if c<c then _ else one c c)≠0;rw[if_neg Zo,one_self];decide⟩,?_⟩;refine h.ker _ fun i hi=>?_
 rw[<-mv_assoc,mv_congr (A':=L) (fun k hk=>h.eqn i k hi hk) (fun _ _=>rfl)];have hsplit:mv n L (fun j=>if j<c then mu (L j c) (iv (L j j))else one j c) i=S n (fun k=>mu (L i k) (if k<c then mu (L k c) (iv (L k k))else 0))^^^S n (fun k=>mu (L i k) (one k c)):=by
  unfold mv;rw[<-S_xor];refine S_congr fun k _=>?_
  show mu (L i k) (if k<c then mu (L k c) (iv (L k k))else one k c)=_
  by_cases hk:k<c
  ·rw[if_pos hk,if_pos hk,one_ne Zo,mu_zero,x_zero]
  ·rw[if_neg hk,if_neg hk,mu_zero,zero_x]
 have e2:S n (fun k=>mu (L i k) (one k c))=L i c:=mm_one L i hc;rw[hsplit,e2]
 by_cases hic:i<c
 ·rw[S_one (k:=i) hi (fun k hk hki=>?_)]
  ·rw[if_pos hic,mu_left,mu_iv (h.piv i hic),mu_one,x_self]
  ·by_cases hkc:k<c
   ·rw[h.done k hkc i hi (fun e=>hki e.symm),zero_mu]
   ·rw[if_neg hkc,mu_zero]
 ·rw[hz i Zo hi,x_zero];refine S_zero fun k hk=>?_
  by_cases hkc:k<c
  ·rw[h.done k hkc i hi Zo,zero_mu]
  ·rw[if_neg hkc,mu_zero]
theorem inv_of_left{n:Nat}{A V:Mx}(hl:∀i j,i<n->j<n->mm n V A i j=one i j)(hk:∀x:Nat->UInt8,(∀i,i<n->mv n V x i=0)->∀j,j<n->x j=0):IsInv n A V:=by
 refine⟨hl,fun i j hi hj=>?_⟩;have h:=hk (fun k=>mm n A V k j^^^one k j) (fun r hr=>?_) i hi
 ·exact x_eq_zero.1 h
 ·rw[mv_add];have e1:mv n V (fun k=>mm n A V k j) r=mm n V (mm n A V) r j:=rfl;have e2:mv n V (fun k=>one k j) r=mm n V one r j:=rfl;rw[e1,e2,mm_one V r hj,<-mm_assoc,mm_congr (A':=one) (B':=V) (fun k hk2=>hl r k hr hk2) (fun _ _=>rfl),one_mm V j hr,x_self]
theorem GJ.finish{n:Nat}{A L R:Mx}(h:GJ n A L R n):IsInv n A (fun i j=>mu (iv (L i i)) (R i j)):=by
 refine inv_of_left (fun i j hi hj=>?_) (fun x hx=>h.ker x fun i hi=>?_)
 ·have e:mm n (fun i j=>mu (iv (L i i)) (R i j)) A i j=mu (iv (L i i)) (mm n R A i j):=mm_scale n R A _ i j;rw[e,h.eqn i j hi hj]
  by_cases hij:i=j
  ·subst hij;rw[one_self,mu_comm,mu_iv (h.piv i hi)]
  ·rw[one_ne hij,h.done j hj i hi hij,mu_zero]
 ·have e:mv n (fun i j=>mu (iv (L i i)) (R i j)) x i=mu (iv (L i i)) (mv n R x i):=mm_scale n R (fun k _=>x k) _ i 0;have h1:=hx i hi;rw[e]at h1
  rcases mu_eq_zero.1 h1 with h2|h2
  ·exfalso;have h3:=mu_iv (h.piv i hi);rw[h2,mu_zero]at h3;cases h3
  ·exact h2
def flat(r c:Nat)(F:Mx):List UInt8:=upto (fun t=>F (t/c) (t%c)) (r*c)
def en(c:Nat)(A:List UInt8):Mx:=fun i j=>co A (i*c+j)
theorem flat_length(r c:Nat)(F:Mx):(flat r c F).length=r*c:=upto_length _ _
theorem place_lt{r c i j:Nat}(hi:i<r)(hj:j<c):i*c+j<r*c:=by
 have:(i+1)*c<=r*c:=Nat.mul_le_mul_right c hi
 rw[Nat.add_mul,Nat.one_mul]at this;omega
theorem place_div{c i j:Nat}(hj:j<c):(i*c+j)/c=i:=by
 rw[Nat.add_comm,Nat.add_mul_div_right _ _ Zo,Nat.div_eq_of_lt hj,Nat.zero_add]
theorem place_mod{c i j:Nat}(hj:j<c):(i*c+j)%c=j:=by
 rw[Nat.add_comm,Nat.add_mul_mod_self_right,Nat.mod_eq_of_lt hj]
theorem en_flat{r c:Nat}(F:Mx){i j:Nat}(hi:i<r)(hj:j<c):en c (flat r c F) i j=F i j:=by
 unfold en flat;rw[upto,co_map_range _ (place_lt hi hj),place_div hj,place_mod hj]
theorem z4_3{p:Prop} (h:p:=by
 have hc:0<c:=by
  rcases Nat.eq_zero_or_pos c with e|e
  ·rw[e,Nat.mul_zero]at ht;omega
  ·exact e
 exact h _ _ ((Nat.div_lt_iff_lt_mul hc).2 ht) (Nat.mod_lt _ hc)
 ):p:=h
theorem flat_congr{r c:Nat}{F G:Mx}(h:∀i j,i<r->j<c->F i j=G i j):flat r c F=flat r c G:=by
 unfold flat;refine upto_congr fun t ht=>?_
 exact z4_3
theorem upto_add(f:Nat->UInt8)(n m:Nat):upto f (n+m)=upto f n++upto (fun j=>f (n+j)) m:=by
 unfold upto;rw[List.range_add,List.map_append,List.map_map];rfl
theorem flat_succ(k c:Nat)(F:Mx):flat (k+1) c F=flat k c F++upto (fun j=>F k j) c:=by
 unfold flat;rw[Nat.add_mul,Nat.one_mul,upto_add];congr 1;exact upto_congr fun j hj=>by rw[place_div hj,place_mod hj]
theorem Rd.sub{w:World}{b off n cap:Nat}{A:List UInt8}(h:Rd w (.slice (some ⟨b,off,none⟩) n cap) A)(lo c:Nat)(hc:0<c)(hl:lo+c<=A.length):
  Rd w (.slice (some ⟨b,off+lo,none⟩) c (cap-lo)) (upto (fun j=>co A (lo+j)) c):=by
 rcases h with⟨a,c',e1,_⟩|⟨b',off',c',hp0,e2,h1,h2,h3,hpc⟩
 ·subst e1;simp at hl;omega
 ·simp at e2;obtain⟨⟨rfl,rfl⟩,rfl,rfl⟩:=e2;refine Or.inr ⟨b,off+lo,cap-lo,fun e=>?_,by rw[upto_length],by rw[upto_length];omega,Zo,h3,fun i hi=>?_⟩
  ·have:=upto_length (fun j=>co A (lo+j)) c;rw[e]at this;simp at this;omega
  ·rw[upto_length]at hi;rw[upto,co_map_range _ hi,Nat.add_assoc];exact hpc _ Zo
def RdM(w:World)(v:Value)(r c:Int)(A:List UInt8):Prop:=∃vs,v= .agg #[.int .i64 r,.int .i64 c,vs]/\Rd w vs A
def OkM(r c:Int)(A:List UInt8):Prop:=0<=r/\r<=256/\0<=c/\c<=256/\(A.length:Int)=r*c
theorem okM_mk{r c:Nat}{A:List UInt8}(hr:r<=256)(hc:c<=256)(h:A.length=r*c):OkM r c A:=
 ⟨Zo,Zo,Zo,Zo,by rw[h];exact_mod_cast rfl⟩
theorem mul_small{r c:Nat}(hr:r<=256)(hc:c<=256):r*c<=65536:=Nat.le_trans (Nat.mul_le_mul hr hc) Zd
structure Box(w:World)(b:Nat)(r c:Int)(vs:Value):Prop where
 c0:w.cell? ⟨b,0,none⟩=some (.int .i64 r)
 c1:w.cell? ⟨b,1,none⟩=some (.int .i64 c)
 c2:w.cell? ⟨b,2,none⟩=some vs
theorem Box.only{g b:Nat}{w w':World}{r c:Int}{vs:Value}(h:Box w b r c vs)(hb:b≠g)(o:Only g w w'):Box w' b r c vs:=
 ⟨(o.cell (p:=⟨b,0,none⟩) hb).trans h.c0,(o.cell (p:=⟨b,1,none⟩) hb).trans h.c1,(o.cell (p:=⟨b,2,none⟩) hb).trans h.c2⟩
theorem Box.below{B b:Nat}{w w':World}{r c:Int}{vs:Value}(h:Box w b r c vs)(hb:b<B)(o:Below B w w'):Box w' b r c vs:=
 ⟨(o.cell (p:=⟨b,0,none⟩) hb).trans h.c0,(o.cell (p:=⟨b,1,none⟩) hb).trans h.c1,(o.cell (p:=⟨b,2,none⟩) hb).trans h.c2⟩
structure Free(w:World)(b:Nat):Prop where
 f0:w.frozen? ⟨b,0,none⟩=false
 f1:w.frozen? ⟨b,1,none⟩=false
 f2:w.frozen? ⟨b,2,none⟩=false
theorem Free.only{g b:Nat}{w w':World}(h:Free w b)(hb:b≠g)(o:Only g w w'):Free w' b:=
 ⟨(o.frozen (p:=⟨b,0,none⟩) hb).trans h.f0,(o.frozen (p:=⟨b,1,none⟩) hb).trans h.f1,(o.frozen (p:=⟨b,2,none⟩) hb).trans h.f2⟩
theorem Free.below{B b:Nat}{w w':World}(h:Free w b)(hb:b<B)(o:Below B w w'):Free w' b:=
 ⟨(o.frozen (p:=⟨b,0,none⟩) hb).trans h.f0,(o.frozen (p:=⟨b,1,none⟩) hb).trans h.f1,(o.frozen (p:=⟨b,2,none⟩) hb).trans h.f2⟩
theorem Below.box{B b:Nat}{w w':World}{r c:Int}{vs:Value}(o:Below B w w')(hb:b<B)(h:Box w b r c vs):Box w' b r c vs:=h.below hb o
theorem Below.free{B b:Nat}{w w':World}(o:Below B w w')(hb:b<B)(h:Free w b):Free w' b:=h.below hb o
theorem Box.new(w:World)(r c:Int)(vs:Value)(t:TypeId):Box (w.alloc (.cells #[.int .i64 r,.int .i64 c,vs] t)) w.heap.size r c vs:=⟨Zs,Zs,Zs⟩
theorem Free.new(w:World)(cs:Array Value)(t:TypeId):Free (w.alloc (.cells cs t)) w.heap.size:=⟨World.frozen?_alloc_at cs t _ _ rfl,World.frozen?_alloc_at cs t _ _ rfl,World.frozen?_alloc_at cs t _ _ rfl⟩
theorem Box.alloc{w:World}{b:Nat}{r c:Int}{vs:Value}(h:Box w b r c vs)(hb:b<w.heap.size)(o:Obj):Box (w.alloc o) b r c vs:=h.below hb (Zf.alloc Zr _)
theorem Free.alloc{w:World}{b:Nat}(h:Free w b)(hb:b<w.heap.size)(o:Obj):Free (w.alloc o) b:=h.below hb (Zf.alloc Zr _)
theorem Box.grown{w w':World}{b:Nat}{r c:Int}{vs:Value}{row:Option Nat}(h:Box w b r c vs)(hg:w.grownBy w' row)(hb:b<w.heap.size)(hne:some b≠row):Box w' b r c vs:=
 ⟨(hg.cell_far ⟨b,0,none⟩ hb hne).trans h.c0,(hg.cell_far ⟨b,1,none⟩ hb hne).trans h.c1,(hg.cell_far ⟨b,2,none⟩ hb hne).trans h.c2⟩
theorem Free.grown{w w':World}{b:Nat}{row:Option Nat}(h:Free w b)(hg:w.grownBy w' row)(hb:b<w.heap.size)(hne:some b≠row):Free w' b:=
 ⟨(hg.frozen_far ⟨b,0,none⟩ hb hne).trans h.f0,(hg.frozen_far ⟨b,1,none⟩ hb hne).trans h.f1,(hg.frozen_far ⟨b,2,none⟩ hb hne).trans h.f2⟩
theorem Box.drewN{w:World}{b:Nat}{r c:Int}{vs:Value}(h:Box w b r c vs)(n:Nat):Box (w.drewN n) b r c vs:=⟨h.c0,h.c1,h.c2⟩
theorem Free.drewN{w:World}{b:Nat}(h:Free w b)(n:Nat):Free (w.drewN n) b:=⟨h.f0,h.f1,h.f2⟩
def AllIn(r:Nat)(zs:List Int):Prop:=∀i,i<zs.length->0<=zs.getD i 0/\zs.getD i 0<(r:Int)
def pickF(c:Nat)(A:List UInt8)(zs:List Int):Mx:=fun i j=>en c A (zs.getD i 0).toNat j
theorem Box.new1(w:World)(o:Obj)(r c:Int)(vs:Value)(t:TypeId):Box ((w.alloc o).alloc (.cells #[.int .i64 r,.int .i64 c,vs] t)) (w.heap.size+1) r c vs:=by
 have h:=Box.new (w.alloc o) r c vs t;rwa[World.size_alloc]at h
theorem Box.set2{w:World}{b:Nat}{r c:Int}{vs:Value}(h:Box w b r c vs)(vs':Value):Box (w.setCell ⟨b,2,none⟩ vs') b r c vs':=⟨(World.cell?_setCell_other w ⟨b,2,none⟩ ⟨b,0,none⟩ vs' Zs).trans h.c0,(World.cell?_setCell_other w ⟨b,2,none⟩ ⟨b,1,none⟩ vs' Zs).trans h.c1,World.cell?_setCell_same w ⟨b,2,none⟩ vs' h.c2⟩
theorem Free.setCell{w:World}{b:Nat}(h:Free w b)(a:Addr)(u:Value):Free (w.setCell a u) b:=⟨by simp[h.f0],by simp[h.f1],by simp[h.f2]⟩
def MakesM(w:World)(r c:Nat)(F:Mx)(e:Ending)(w':World):Prop:=∃vs,e= .returned (.tuple #[.agg #[.int .i64 (r:Int),.int .i64 (c:Int),vs],.int .i64 0])/\Rd w' vs (flat r c F)/\Below w.heap.size w w'
def MakesErr(w:World)(x:Int)(e:Ending)(w':World):Prop:=∃vs,e= .returned (.tuple #[.agg #[.int .i64 0,.int .i64 0,vs],.int .i64 x])/\Rd w' vs []/\Below w.heap.size w w'
theorem rd_none{w:World}:Rd w (.slice none 0 0) []:=Or.inl ⟨none,0,rfl,rfl,Zz,fun _=>rfl⟩
theorem Box.turn{g b:Nat}{w w':World}{r c:Int}{vs:Value}(h:Box w b r c vs)(hs:b<w.heap.size)(hb:b≠g)(o:Turn g w w'):Box w' b r c vs:=
 ⟨(o.cell (p:=⟨b,0,none⟩) hs hb).trans h.c0,(o.cell (p:=⟨b,1,none⟩) hs hb).trans h.c1,(o.cell (p:=⟨b,2,none⟩) hs hb).trans h.c2⟩
theorem Free.turn{g b:Nat}{w w':World}(h:Free w b)(hs:b<w.heap.size)(hb:b≠g)(o:Turn g w w'):Free w' b:=
 ⟨(o.frozen (p:=⟨b,0,none⟩) hs hb).trans h.f0,(o.frozen (p:=⟨b,1,none⟩) hs hb).trans h.f1,(o.frozen (p:=⟨b,2,none⟩) hs hb).trans h.f2⟩
def pl(c:Nat)(F:Mx)(t:Nat):UInt8:=F (t/c) (t%c)
theorem pl_at{c i j:Nat}(F:Mx)(hj:j<c):pl c F (i*c+j)=F i j:=by unfold pl;rw[place_div hj,place_mod hj]
theorem pl_flat(r c:Nat)(F:Mx):upto (pl c F) (r*c)=flat r c F:=rfl
theorem pl_congr{r c:Nat}{F G:Mx}(h:∀i j,i<r->j<c->F i j=G i j):∀t,t<r*c->pl c F t=pl c G t:=by
 intro t ht;exact z4_3
theorem row_iff{c i t:Nat}(hc:0<c):(i*c<=t/\t<i*c+c)↔t/c=i:=by
 constructor
 ·rintro⟨h1,h2⟩;obtain⟨j,rfl⟩:=Nat.exists_eq_add_of_le h1;exact place_div Zo
 ·rintro rfl;have h1:=Nat.div_add_mod t c;have h2:=Nat.mod_lt t hc;rw[Nat.mul_comm]at h1;omega
theorem owns_form{w:World}{base e n:Nat}{v:Value}{xs:List Value}(h:w.ownsRow base e 1 v n xs):∃a c,v= .slice a n c:=by
 obtain⟨_,⟨hv,hn⟩|⟨g,cap,cur,hv,_⟩⟩:=h
 ·subst hn;exact⟨_,_,hv⟩
 ·exact⟨_,_,hv⟩
theorem run_append_rd{P:Program}(w:World)(t ty:TypeId)(base:Nat)(e:TypeId)(i:TypeInfo)(ht:P.underlying t=some (.slice e))(hi:P.info? e=some i)(hz:i.zero=some (.int .u8 0))(hsize:i.size=1)(hby:i.bytes=1)
  (v:Value) (n:Nat) (xs:List Value) (hown:w.ownsRow base e 1 v n xs) (va:Value) (p:List UInt8) (hr:Rd w va p) (hl:n+p.length<=1000000) (hbase:base<=w.heap.size):
  ∃v' w',(Builtin.append_ #[t,t] ty #[v,va]).run P w= .ok v' w'/\w'.ownsRow base e 1 v' (n+p.length) (xs++p.map vb)/\w.grownBy w' v.ownBlock:=by
 rcases hr with⟨ao,cap,rfl,rfl,hc,hn⟩|⟨b,off,cap,hp0,rfl,h1,h2,h3,hpc⟩
 ·rcases ao with _|ad
  ·have:=hn rfl;subst this;exact⟨v,w,run_append_owned_none (P:=P) (w:=w) base t ty e i 1 ht hi v n xs hown,by simpa using hown,World.grownBy.refl _ _⟩
  ·obtain⟨v',w',hr,h2,h3,_⟩:=run_append_own_at (P:=P) w base t ty e i (.int .u8 0) 1 1 ht hi hz hsize hby rfl Zd v n xs hown ad 0 cap [] rfl (by intro j u hj;simp at hj) (by intro u hu;simp at hu) Zl Zo hbase;exact⟨v',w',hr,by simpa using h2,h3⟩
 ·obtain⟨v',w',hr,h2,h3,_⟩:=run_append_own_at (P:=P) w base t ty e i (.int .u8 0) 1 1 ht hi hz hsize hby rfl Zd v n xs hown ⟨b,off,none⟩ p.length cap ((p.take p.length).map vb) Zs (news_of hpc) (vb_one _) Zl Zo hbase;exact⟨v',w',hr,by simpa using h2,h3⟩
theorem step_append_rd{P:Program}{w:World}{ops:Array Oper}{o:Oper}{a:Act}{K:Act->World->Prop}{Q:Exit->Act->World->Prop}{E:Prop}(hgd:o.guard=none)(s x:Operand)(t:TypeId)
  (ho:o.op= .call {callee:=.builtin .append,args:=#[s,x],argTypes:=#[t,t]})
  (base:Nat) (e:TypeId) (i:TypeInfo) (ht:P.underlying t=some (.slice e)) (hi:P.info? e=some i) (hz:i.zero=some (.int .u8 0)) (hsize:i.size=1) (hby:i.bytes=1)
  (v:Value) (n:Nat) (xs:List Value) (hs:a.eval s=v) (hown:w.ownsRow base e 1 v n xs) (va:Value) (p:List UInt8) (hx:a.eval x=va) (hr:Rd w va p) (hl:n+p.length<=1000000) (hbase:base<=w.heap.size)
  (h:∀v' w',w'.ownsRow base e 1 v' (n+p.length) (xs++p.map vb)->w.grownBy w' v.ownBlock->K (a.put o.dst v') w'):
  if Region.wanted o (yielded ops a.tmps)=true then Oper.wp P o a w K Q else E:=by
 have hw:Region.wanted o (yielded ops a.tmps)=true:=by simp[Region.wanted,hgd]
 rw[if_pos hw];obtain⟨v',w',hrun,h2,h3⟩:=run_append_rd w t o.type base e i ht hi hz hsize hby v n xs hown va p hr hl hbase;unfold Oper.wp execOp;simp only[ho,resolve,invoke,builtin,Sem.run_bind,Sem.run_pure,Result.andThen_ok,List.map_toArray,List.map_cons,List.map_nil,hs,hx,hrun];exact h v' w' h2 h3
theorem rcheck_ok{v:Value}{r c:Int}{A:List UInt8}{w:World}(h:RdM w v r c A)(hok:OkM r c A):
  Calls Tryz.prog 245 #[v] w fun e w'=>e= .returned (.int .i64 0)/\Below w.heap.size w w':=by
 obtain⟨vs,rfl,hr⟩:=h;obtain⟨a,cap,rfl⟩:=hr.form;obtain⟨h1,h2,h3,h4,h5⟩:=hok;have k1:decide (r<0)=false:=Zm
 have k2:decide (r>256)=false:=Zm
 have k3:decide (c<0)=false:=Zm
 have k4:decide (c>256)=false:=Zm
 generalize A.length=n at*;have gw:IntKind.i64.wrap (r*c)=(n:Int):=by
  rw[<-h5,IntKind.wrap_i64]
  have:r*c<=256*256:=Int.mul_le_mul h2 h4 h3 Zd
  omega
 clear hr h5
 go_enter Tryz.func245,Tryz.ntmps245
 go_wp2;go_ret;exact⟨rfl,by repeat (first|exact Zf|apply below_lit)⟩
theorem z4_1{p:Prop} (h:p:=by
 intro v' w5 hown5 hgrow5;rw[List.length_nil,Nat.add_zero,List.map_nil,List.append_nil]at hown5;obtain⟨a5,c5,rfl⟩:=owns_form hown5;have ym5:=(hgrow5.cell_far ⟨w2.heap.size,2,none⟩ l2 (Ne.symm hnm)).trans ym2;have gm5:=(hgrow5.frozen_far ⟨w2.heap.size,2,none⟩ l2 (Ne.symm hnm)).trans gm2;refine koH hK ⟨(hgrow5.cell_far ⟨w.heap.size,2,none⟩ l1 (Ne.symm hnb)).trans x12,(hgrow5.cell_far ⟨bz,oz+k,none⟩ hz3 (Ne.symm hnz)).trans cz1,(hgrow5.cell_far ⟨w.heap.size,1,none⟩ l1 (Ne.symm hnb)).trans x11⟩ fun hHeld=>?_
 clear hK K;refine tkH 21 ?_
 refine rnH 22 fun K hK=>?_
 go_simp;refine koH hK ⟨(World.cell?_setCell_far _ _ _ _ hx1).trans hHeld.1,(World.cell?_setCell_far _ _ _ _ hx2).trans hHeld.2.1,(World.cell?_setCell_far _ _ _ _ hx1).trans hHeld.2.2⟩ fun hHeld=>?_
 clear hK K;refine wpAnyH_done Zk ?_ _
 have l5:wr.heap.size<=w5.heap.size:=((Below.refl 0 _).grown hgrow5 Zz (fun k h=>Zz)).size;have O6:Only w2.heap.size w5 (w5.setCell ⟨w2.heap.size,2,none⟩ (.slice a5 (0) c5)):=(Only.refl _ _).setCell 2 _;have N1:Hid _:=((Y1.drewN _).grown hgrow5 l1 (Ne.symm hnb)).only (fun h=>hx1 h.symm) O6;have N3:Hid _:=((Y3.drewN _).grown hgrow5 (show w.heap.size+1<wr.heap.size by omega) (Ne.symm hnr)).only (show w.heap.size+1≠w2.heap.size by omega) O6;have M3:Hid _:=((G3.drewN _).grown hgrow5 (show w.heap.size+1<wr.heap.size by omega) (Ne.symm hnr)).only (show w.heap.size+1≠w2.heap.size by omega) O6;have NM:Hid _:=((YM.drewN _).grown hgrow5 l2 (Ne.symm hnm)).set2 (.slice a5 (0) c5);have MM:Hid _:=((GM.drewN _).grown hgrow5 l2 (Ne.symm hnm)).setCell ⟨w2.heap.size,2,none⟩ (.slice a5 (0) c5);have NO:Hid _:=ownsRow_setCell_below hown5 (a:=⟨w2.heap.size,2,none⟩) (show w2.heap.size<w2.heap.size+1 by omega) (.slice a5 (0) c5);have NB:Hid _:=((BB.drewN _).grown hgrow5 (show w.heap.size<=wr.heap.size by omega) (fun g hg=>by have:=hown.lt g hg;omega)).trans (O6.below (show w.heap.size<=w2.heap.size by omega));have NS:Hid (w2.heap.size+1<=(w5.setCell ⟨w2.heap.size,2,none⟩ (.slice a5 (0) c5)).heap.size):=by show _<=_;rw[O6.size];omega
 have EL:Hid (flat (k+1) 0 F=flat k 0 F):=by show _=_;rw[flat_succ];exact List.append_nil _
 have EN:Hid ((k+1)*0=0):=by show _=_;exact Nat.mul_zero _
 clear hHeld hown5 hgrow5 hown Y1 Y3 G3 YM GM BB ym5 gm5 hsub O6;go_wp2;go_roundw
 case rel=>exact⟨k+1,Zo,Zo,fun j hj=>by simpa using hall2.out j hj,by simpa using N1.out,N3.out,M3.out,_,by simpa using NM.out,MM.out,by rw[EL.out];simpa[World.ownsRow]using NO.out,Zo,NB.out⟩
 case measure=>simp[intOf];omega
 ):p:=h
theorem z4_2{p:Prop} (h:p:=by
 have x30:=Y3.c0;have x31:=Y3.c1;have x32:=Y3.c2;have f30:=G3.f0;have f31:=G3.f1;have f32:=G3.f2;have NA:Hid (¬AllIn r zs):=fun h=>by have:=h k hlt;omega
 clear hz hzc;clear hall hown YM GM;go_wp2
 go_quiet (fail)
 go_wp2;refine bodyPost_ret (v:=.tuple #[.agg #[.int .i64 0,.int .i64 0,.slice none 0 0],.int .i64 30]) (by simp[results,Tryz.results235,go_sem,x30,x31,x32,f30,f31,f32]) rfl (Or.inr ⟨NA.out,_,rfl,rd_none,?_⟩);exact(BB.drewN _).trans ((((Only.refl _ _).setCell 0 _).setCell 1 _).setCell 2 _|>.below Zo)
 ):p:=h
theorem rpick_ok{va vr:Value}{r c:Nat}{A:List UInt8}{zs:List Int}{w:World}(ha:RdM w va r c A)(hr:RdI w vr zs)(k1:OkM r c A)(k2:zs.length<=256):
  Calls Tryz.prog 235 #[va,vr] w fun e w'=>(AllIn r zs/\MakesM w zs.length c (pickF c A zs) e w')∨(¬AllIn r zs/\MakesErr w 30 e w'):=by
 obtain⟨i0,hi,hz0,hz1,hz2⟩:=info_parts info_u8;obtain⟨vs,rfl,h1⟩:=ha;obtain⟨az,cz,rfl⟩:=hr.form
 go_enter Tryz.func235,Tryz.ntmps235
 go_wp2_with fail
 refine(rcheck_ok ⟨vs,rfl,h1.below (by repeat (first|exact Zf|apply below_lit))⟩ k1).mono ?_
 rintro e w2 ⟨rfl,b2⟩;have X1:Box w2 w.heap.size r c vs:=Below.box b2 Zn ((Box.new w r c vs _).alloc Zs _);have X3:Box w2 (w.heap.size+1) 0 0 (.slice none 0 0):=Below.box b2 Zn (by have h:=Box.new (w.alloc (.cells #[.int .i64 (r:Int),.int .i64 (c:Int),vs] 148)) 0 0 (.slice none 0 0) 148;rwa[World.size_alloc]at h);have F3:Free w2 (w.heap.size+1):=Below.free b2 Zn (by have h:=Free.new (w.alloc (.cells #[.int .i64 (r:Int),.int .i64 (c:Int),vs] 148)) #[.int .i64 0,.int .i64 0,.slice none 0 0] 148;rwa[World.size_alloc]at h);have B2:Below w.heap.size w w2:=Below.next (by repeat (first|exact Zf|apply below_lit)) b2;have s2:w.heap.size+1<w2.heap.size:=by have:=b2.size;simp at this;omega
 clear b2;obtain⟨q1,q2,q3,q4,q5⟩:=k1;have hAl:A.length=r*c:=by exact_mod_cast q5
 clear q5;have kz:¬(zs.length:Int)>256:=Zo
 have x11:=X1.c1;obtain⟨F,hFF⟩:∃F,Hid (F=pickF c A zs):=⟨_,rfl⟩;go_wp2;clear x11
 go_loopw [7] (fun i wr=>∃(k:Nat) (v:Value),k<=zs.length/\i= .int .i64 k/\(∀j,j<k->0<=zs.getD j 0/\zs.getD j 0<(r:Int))/\Box wr w.heap.size r c vs/\Box wr (w.heap.size+1) 0 0 (.slice none 0 0)/\Free wr (w.heap.size+1)/\Box wr w2.heap.size (zs.length:Int) c v/\Free wr w2.heap.size/\wr.ownsRow (w2.heap.size+1) 5 1 v (k*c) ((flat k c F).map vb)/\w2.heap.size+1<=wr.heap.size/\Below w.heap.size w wr) (fun i _=>zs.length-(intOf i).toNat)
 case atStart=>
  have hA:Below w2.heap.size w2 (w2.alloc (.cells #[.int .i64 (zs.length:Int),.int .i64 (c:Int),.slice none 0 0] 148)):=Zf.alloc Zr _;refine⟨0,.slice none 0 0,Zo,rfl,fun j hj=>Zo,X1.below Zo hA,X3.below Zo hA,F3.below Zo hA,Box.new _ _ _ _ _,Free.new _ _ _,?_,Zs,Below.next B2 hA⟩;rw[Nat.zero_mul];have e:flat 0 c F=[]:=List.length_eq_zero_iff.1 (by rw[flat_length,Nat.zero_mul]);rw[e];exact World.ownsRow_nil _ _ _ _
 case round=>
  obtain⟨k,v,hk,rfl,hall,Y1,Y3,G3,YM,GM,hown,hsz,BB⟩:=hrel;clear X1 X3 F3 B2
  by_cases hlt:k<zs.length
  ·have hz9:∀b o n cc,(Value.slice az zs.length cz)= .slice (some ⟨b,o,none⟩) n cc->b<w.heap.size:=fun b o n cc e=>by
    rcases hr with⟨a0,c0,e1,e2⟩|⟨bz,oz,c0,hz0',e2,hz1',hz3,hzc⟩
    ·subst e1;simp at hlt
    ·rw[e]at e2;simp at e2;obtain⟨⟨rfl,rfl⟩,_⟩:=e2;exact hz3
   rcases(hr.below BB)with⟨a0,c0,e1,e2⟩|⟨bz,oz,c0,hz0',e2,hz1',hz3,hzc⟩
   ·subst e1;simp at hlt
   ·simp at e2;obtain⟨rfl,rfl⟩:=e2;have cz1:=hzc k hlt;have hlt':(k:Int)<(zs.length:Int):=by omega
    have x10:=Y1.c0
    by_cases hneg:zs.getD k 0<0
    ·obtain⟨z,hz⟩:∃z,z=zs.getD k 0:=⟨_,rfl⟩;rw[<-hz]at cz1 hneg;have hd1:decide (z<0)=true:=Zy hneg;exact z4_2
    ·by_cases hbig:zs.getD k 0>=(r:Int)
     ·obtain⟨z,hz⟩:∃z,z=zs.getD k 0:=⟨_,rfl⟩;rw[<-hz]at cz1 hneg hbig;have hd1:decide (z<0)=false:=Zx hneg;have hd2:decide (z>=(r:Int))=true:=Zy hbig;exact z4_2
     ·obtain⟨z,hz⟩:∃z:Nat,zs.getD k 0=(z:Int):=⟨(zs.getD k 0).toNat,Zo⟩;have hzr:z<r:=by omega
      rw[hz]at cz1;have hd1:decide ((z:Int)<0)=false:=Zx Zo;have hd2:decide ((z:Int)>=(r:Int))=false:=Zx Zo;have hall2:Hid (∀j,j<k+1->0<=zs.getD j 0/\zs.getD j 0<(r:Int)):=fun j hj=>by
       by_cases e:j=k
       ·subst e;omega
       ·exact hall j Zo
      have HFk:Hid (upto (fun j=>F k j) c=upto (fun j=>co A (z*c+j)) c):=by
       show _=_
       refine upto_congr fun j hj=>?_
       rw[hFF.out]
       show en c A (zs.getD k 0).toNat j=_
       rw[hz];rfl
      obtain⟨p1,hp1⟩:∃p1,p1=z*c:=⟨_,rfl⟩;have hp1A:p1+c<=A.length:=by
       rw[hp1,hAl];have:=Nat.mul_le_mul_right c (show z+1<=r from hzr);rw[Nat.add_mul,Nat.one_mul]at this;exact this
      have hkc:k*c<=65536:=mul_small Zo Zo;have hA9:A.length<=65536:=by rw[hAl];exact mul_small Zo Zo
      rw[<-hp1]at HFk;have g1:(z:Int)*(c:Int)=(p1:Int):=by rw[hp1];exact_mod_cast rfl
      have g2:((z:Int)+1)*(c:Int)=((p1+c:Nat):Int):=by rw[Int.add_mul,g1];omega
      obtain⟨p2,hp2⟩:∃p2,p2=p1+c:=⟨_,rfl⟩;rw[<-hp2]at g2;have x11:=Y1.c1;have x12:=Y1.c2;have ym2:=YM.c2;have gm2:=GM.f2;have l1:w.heap.size<wr.heap.size:=Zo
      have l2:w2.heap.size<wr.heap.size:=Zo
      have hnb:v.ownBlock≠some w.heap.size:=fun h=>by have:=hown.lt _ h;omega
      have hnm:v.ownBlock≠some w2.heap.size:=fun h=>by have:=hown.lt _ h;omega
      have hnr:v.ownBlock≠some (w.heap.size+1):=fun h=>by have:=hown.lt _ h;omega
      have hAs:Rd wr vs A:=h1.below BB;have hw1:IntKind.i64.wrap (p1:Int)=(p1:Int):=Zw
      have hw2:IntKind.i64.wrap (p2:Int)=(p2:Int):=Zw
      have hw3:IntKind.i64.wrap ((z:Int)+1)=(z:Int)+1:=Zw
      have HP2:Hid (p2=p1+c):=hp2;have hp12:(p1:Int)<=(p2:Int):=Zo
      have hp2A:(p2:Int)<=(A.length:Int):=Zo
      have HAl:Hid (A.length=r*c):=hAl;clear hz hzc hp1 hp2 hAl hall h1
      rcases hAs with⟨a9,c9,e1,e2,hc9,hn9⟩|⟨ba,oa,ca,ha0,e2,ha1,ha2,ha3,hac⟩
      ·subst e1 e2;have hc0:c=0:=by
        rcases Nat.eq_zero_or_pos c with e|e
        ·exact e
        ·have h:=HAl.out;simp only[List.length_nil]at h;have:=Nat.mul_pos (show 0<r by omega) e;omega
       subst hc0;simp only[List.length_nil]at*;obtain rfl:p1=0:=Zo
       obtain rfl:p2=0:=by have:=HP2.out;omega
       have hsub:Rd wr (.slice a9 0 c9) []:=Or.inl ⟨a9,c9,rfl,rfl,hc9,hn9⟩;have hnz:v.ownBlock≠some bz:=fun h=>by have:=hown.lt _ h;have:=hz9 bz oz _ _ rfl;omega
       have hx1:w2.heap.size≠w.heap.size:=Zo
       have hx2:w2.heap.size≠bz:=by have:=hz9 bz oz _ _ rfl;omega
       rw[Nat.mul_zero]at hown;have hw0:IntKind.i64.wrap 0=0:=Zw
       rcases a9 with _|x9
       ·have hc9':=hn9 rfl;subst hc9';go_wp2
        go_quiet (fail)
        go_wp2_with fail
        refine wp_region_held_drew (S:=(fun w'=>w'.cell? ⟨w.heap.size,2,none⟩=some (.slice none 0 0)/\w'.cell? ⟨bz,oz+k,none⟩=some (.int .i64 (z:Int))/\w'.cell? ⟨w.heap.size,1,none⟩=some (.int .i64 0))) Zk ?_ (fun hHeld=>?_)
        ·exact⟨x12,cz1,x11⟩
        refine tkH 0 ?_
        refine tkH 2 ?_
        refine tkH 3 ?_
        refine tkH 4 ?_
        refine tkH 5 ?_
        refine tkH 6 ?_
        refine tkH 7 ?_
        refine tkH 8 ?_
        refine tkH 9 ?_
        refine tkH 10 ?_
        refine tkH 11 ?_
        refine tkH 12 ?_
        refine tkH 13 ?_
        refine tkH 14 ?_
        refine tkH 15 ?_
        refine tkH 16 ?_
        refine tkH 17 ?_
        refine tkH 18 ?_
        refine tkH 19 ?_
        refine rnH 1 fun K hK=>?_
        go_simp;refine koH hK Za fun hHeld=>?_
        clear hK K;refine rnH 20 fun K hK=>?_
        refine step_append_rd (by rfl) _ _ _ (by rfl) (w2.heap.size+1) 5 i0 Tryz.underlying36 hi hz0 hz1 hz2 v 0 _ (by rfl) hown (.slice none 0 0) [] (by simp[Act.eval]) hsub Zs hsz ?_
        exact z4_1
       ·go_wp2
        go_quiet (fail)
        go_wp2_with fail
        refine wp_region_held_drew (S:=(fun w'=>w'.cell? ⟨w.heap.size,2,none⟩=some (.slice (some x9) 0 c9)/\w'.cell? ⟨bz,oz+k,none⟩=some (.int .i64 (z:Int))/\w'.cell? ⟨w.heap.size,1,none⟩=some (.int .i64 0))) Zk ?_ (fun hHeld=>?_)
        ·exact⟨x12,cz1,x11⟩
        refine tkH 0 ?_
        refine tkH 2 ?_
        refine tkH 3 ?_
        refine tkH 4 ?_
        refine tkH 5 ?_
        refine tkH 6 ?_
        refine tkH 7 ?_
        refine tkH 8 ?_
        refine tkH 9 ?_
        refine tkH 10 ?_
        refine tkH 11 ?_
        refine tkH 12 ?_
        refine tkH 13 ?_
        refine tkH 14 ?_
        refine tkH 15 ?_
        refine tkH 16 ?_
        refine tkH 17 ?_
        refine tkH 18 ?_
        refine tkH 19 ?_
        refine rnH 1 fun K hK=>?_
        go_simp;refine koH hK Za fun hHeld=>?_
        clear hK K;refine rnH 20 fun K hK=>?_
        refine step_append_rd (by rfl) _ _ _ (by rfl) (w2.heap.size+1) 5 i0 Tryz.underlying36 hi hz0 hz1 hz2 v 0 _ (by rfl) hown (.slice (some x9) 0 c9) [] (by simp[Act.eval]) hsub Zs hsz ?_
        exact z4_1
      ·subst e2;go_wp2
       go_quiet (fail)
       go_wp2_with fail
       have hc0:0<c:=by
        rcases Nat.eq_zero_or_pos c with e|e
        ·exact absurd (List.length_eq_zero_iff.1 (by rw[HAl.out,e,Nat.mul_zero])) ha0
        ·exact e
       ·have hpc2:p2-p1=c:=by have:=HP2.out;omega
        have hsub:Rd wr (.slice (some ⟨ba,oa+p1,none⟩) (p2-p1) (ca-p1)) (upto (fun j=>co A (p1+j)) c):=by
         rw[hpc2];exact Rd.sub (Or.inr ⟨ba,oa,ca,ha0,rfl,ha1,ha2,ha3,hac⟩:Rd wr (.slice (some ⟨ba,oa,none⟩) A.length ca) A) p1 c hc0 hp1A
        have hlc:(upto (fun j=>co A (p1+j)) c).length=c:=upto_length _ _;clear hpc2;have hp0:(0:Int)<=(p1:Int):=Zo
        have hp2c:(p2:Int)<=(ca:Int):=Zo
        have hnz:v.ownBlock≠some bz:=fun h=>by have:=hown.lt _ h;have:=hz9 bz oz _ _ rfl;omega
        clear hac;have hx1:w2.heap.size≠w.heap.size:=Zo
        have hx2:w2.heap.size≠bz:=by have:=hz9 bz oz _ _ rfl;omega
        refine wp_region_held_drew (S:=(fun w'=>w'.cell? ⟨w.heap.size,2,none⟩=some (.slice (some ⟨ba,oa,none⟩) A.length ca)/\w'.cell? ⟨bz,oz+k,none⟩=some (.int .i64 (z:Int))/\w'.cell? ⟨w.heap.size,1,none⟩=some (.int .i64 (c:Int)))) Zk ?_ (fun hHeld=>?_)
        ·exact⟨x12,cz1,x11⟩
        refine tkH 0 ?_
        refine tkH 2 ?_
        refine tkH 3 ?_
        refine tkH 4 ?_
        refine tkH 5 ?_
        refine tkH 6 ?_
        refine tkH 7 ?_
        refine tkH 8 ?_
        refine tkH 9 ?_
        refine tkH 10 ?_
        refine tkH 11 ?_
        refine tkH 12 ?_
        refine tkH 13 ?_
        refine tkH 14 ?_
        refine tkH 15 ?_
        refine tkH 16 ?_
        refine tkH 17 ?_
        refine tkH 18 ?_
        refine tkH 19 ?_
        refine rnH 1 fun K hK=>?_
        go_simp;refine koH hK Za fun hHeld=>?_
        clear hK K;refine rnH 20 fun K hK=>?_
        refine step_append_rd (by rfl) _ _ _ (by rfl) (w2.heap.size+1) 5 i0 Tryz.underlying36 hi hz0 hz1 hz2 v (k*c) _ (by rfl) hown _ _ (by simp[Act.eval];omega) hsub (by rw[hlc];omega) hsz ?_
        intro v' w5 hown5 hgrow5;obtain⟨a5,c5,rfl⟩:=owns_form hown5;have ym5:=(hgrow5.cell_far ⟨w2.heap.size,2,none⟩ l2 (Ne.symm hnm)).trans ym2;have gm5:=(hgrow5.frozen_far ⟨w2.heap.size,2,none⟩ l2 (Ne.symm hnm)).trans gm2;refine koH hK ⟨(hgrow5.cell_far ⟨w.heap.size,2,none⟩ l1 (Ne.symm hnb)).trans x12,(hgrow5.cell_far ⟨bz,oz+k,none⟩ hz3 (Ne.symm hnz)).trans cz1,(hgrow5.cell_far ⟨w.heap.size,1,none⟩ l1 (Ne.symm hnb)).trans x11⟩ fun hHeld=>?_
        clear hK K;refine tkH 21 ?_
        refine rnH 22 fun K hK=>?_
        go_simp;refine koH hK ⟨(World.cell?_setCell_far _ _ _ _ hx1).trans hHeld.1,(World.cell?_setCell_far _ _ _ _ hx2).trans hHeld.2.1,(World.cell?_setCell_far _ _ _ _ hx1).trans hHeld.2.2⟩ fun hHeld=>?_
        clear hK K;refine wpAnyH_done Zk ?_ _
        rw[hlc]at hown5;have l5:wr.heap.size<=w5.heap.size:=((Below.refl 0 _).grown hgrow5 Zz (fun k h=>Zz)).size;have O6:Only w2.heap.size w5 (w5.setCell ⟨w2.heap.size,2,none⟩ (.slice a5 (k*c+c) c5)):=(Only.refl _ _).setCell 2 _;have N1:Hid _:=((Y1.drewN _).grown hgrow5 l1 (Ne.symm hnb)).only (fun h=>hx1 h.symm) O6;have N3:Hid _:=((Y3.drewN _).grown hgrow5 (show w.heap.size+1<wr.heap.size by omega) (Ne.symm hnr)).only (show w.heap.size+1≠w2.heap.size by omega) O6;have M3:Hid _:=((G3.drewN _).grown hgrow5 (show w.heap.size+1<wr.heap.size by omega) (Ne.symm hnr)).only (show w.heap.size+1≠w2.heap.size by omega) O6;have NM:Hid _:=((YM.drewN _).grown hgrow5 l2 (Ne.symm hnm)).set2 (.slice a5 (k*c+c) c5);have MM:Hid _:=((GM.drewN _).grown hgrow5 l2 (Ne.symm hnm)).setCell ⟨w2.heap.size,2,none⟩ (.slice a5 (k*c+c) c5);have NO:Hid _:=ownsRow_setCell_below hown5 (a:=⟨w2.heap.size,2,none⟩) (show w2.heap.size<w2.heap.size+1 by omega) (.slice a5 (k*c+c) c5);have NB:Hid _:=((BB.drewN _).grown hgrow5 (show w.heap.size<=wr.heap.size by omega) (fun g hg=>by have:=hown.lt g hg;omega)).trans (O6.below (show w.heap.size<=w2.heap.size by omega));have NS:Hid (w2.heap.size+1<=(w5.setCell ⟨w2.heap.size,2,none⟩ (.slice a5 (k*c+c) c5)).heap.size):=by show _<=_;rw[O6.size];omega
        have EL:Hid (flat (k+1) c F=flat k c F++upto (fun j=>co A (p1+j)) c):=by show _=_;rw[flat_succ,HFk.out]
        have EN:Hid ((k+1)*c=k*c+c):=by show _=_;rw[Nat.add_mul,Nat.one_mul]
        clear hHeld hown5 hgrow5 hown Y1 Y3 G3 YM GM BB ym5 gm5 hsub O6;go_wp2;go_roundw
        case rel=>exact⟨k+1,_,Zo,Zg,hall2.out,N1.out,N3.out,M3.out,NM.out,MM.out,by rw[EL.out,EN.out,List.map_append];exact NO.out,NS.out,NB.out⟩
        case measure=>simp[intOf];omega
  ·have e:k=zs.length:=by omega
   subst e;have hRd:Rd wr v (flat zs.length c F):=Rd.owned (base:=w2.heap.size+1) (e:=5) (by rw[flat_length];exact hown);have hlt9:∀b off n cc,v= .slice (some ⟨b,off,none⟩) n cc->b≠w.heap.size+1:=fun b off n cc e=>by
    have h:=hown.lt b (by rw[e];rfl);omega
   obtain⟨a8,c8,rfl⟩:=hRd.form;have x30:=Y3.c0;have x31:=Y3.c1;have x32:=Y3.c2;have f30:=G3.f0;have f31:=G3.f1;have f32:=G3.f2;have ym0:=YM.c0;have ym1:=YM.c1;have ym2:=YM.c2;have HA:Hid (AllIn r zs):=hall;clear hall hown;go_wp2;have O1:Only (w.heap.size+1) wr (((wr.setCell ⟨w.heap.size+1,0,none⟩ (.int .i64 (zs.length:Int))).setCell ⟨w.heap.size+1,1,none⟩ (.int .i64 (c:Int))).setCell ⟨w.heap.size+1,2,none⟩ (.slice a8 (flat zs.length c F).length c8)):=
    (((Only.refl _ _).setCell 0 _).setCell 1 _).setCell 2 _
   have hAp:Apart (w.heap.size+1) (.slice a8 (flat zs.length c F).length c8):=fun x n cc e=>by
    by_cases h0:n=0
    ·exact Or.inl h0
    ·obtain⟨b,off,spot⟩:=x
     rcases hRd with⟨_,_,_,e2,_⟩|⟨b',off',c',_,e2,_⟩
     ·rw[e]at e2;simp at e2;exact Or.inl e2.2.1
     ·rw[e]at e2;simp at e2;obtain⟨⟨rfl,rfl,rfl⟩,_⟩:=e2;exact Or.inr (hlt9 _ _ _ _ e)
   refine bodyPost_ret (v:=.tuple #[.agg #[.int .i64 (zs.length:Int),.int .i64 (c:Int),.slice a8 (flat zs.length c F).length c8],.int .i64 0]) (by simp[results,Tryz.results235,go_sem,x30,x31,x32,f30,f31,f32]) rfl (Or.inl ⟨HA.out,_,rfl,?_,BB.trans (O1.below Zo)⟩);rw[<-hFF.out];exact hRd.only hAp O1
def wideF(n:Nat)(A:List UInt8):Mx:=fun i j=>if j<n then en n A i j else one i (j-n)
def rt(n:Nat)(W:Mx):Mx:=fun i j=>W i (n+j)
theorem gj_wide(n:Nat)(A:List UInt8):GJ n (en n A) (wideF n A) (rt n (wideF n A)) 0:=
 (GJ.start n (en n A)).congr Zz (fun _ _ _ _=>rfl) (fun i j _ hj=>(if_pos hj).symm) (fun i j _ _=>by
  show one i j=if n+j<n then en n A i (n+j)else one i (n+j-n)
  rw[if_neg Zo,Nat.add_sub_cancel_left])
theorem rmu3_at{w:World}(a b:UInt8){x y:Int}(hx:x=((a.toNat:Nat):Int))(hy:y=((b.toNat:Nat):Int)):
  Calls Tryz.prog 146 #[.int .u8 x,.int .u8 y] w fun e w'=>e= .returned (.int .u8 ((mu a b).toNat:Nat))/\w'=w:=by
 rw[mu_toNat];exact rmul_at a.toNat b.toNat hx hy (u8_lt a) (u8_lt b)
theorem nought_facts{w w1:World}{m u t:Nat}(hown:w1.ownsRow w.heap.size u 1 (.slice (some ⟨(w.alloc (Obj.cells #[.int .i64 0,.int .i64 0,.slice none 0 0] t)).heap.size,0,none⟩) m m) m (madeCells (Value.cells (.int .u8 0)) (m*1)).toList)
  (hgrow:(w.alloc (Obj.cells #[.int .i64 0,.int .i64 0,.slice none 0 0] t)).grownBy w1 none):
  RowF w1 w.heap.size u (w.heap.size+1) m m (fun _=>0)/\Below w.heap.size w w1/\w1.cell? ⟨w.heap.size,0,none⟩=some (.int .i64 0)/\w1.cell? ⟨w.heap.size,1,none⟩=some (.int .i64 0)/\w1.cell? ⟨w.heap.size,2,none⟩=some (.slice none 0 0)/\
  w1.frozen? ⟨w.heap.size,0,none⟩=false/\w1.frozen? ⟨w.heap.size,1,none⟩=false/\w1.frozen? ⟨w.heap.size,2,none⟩=false:=by
 simp only[World.size_alloc]at hown;have R1:=RowF.made hown;have B1:Below (w.heap.size+1) (w.alloc (Obj.cells #[.int .i64 0,.int .i64 0,.slice none 0 0] t)) w1:=Zf.grown hgrow Zs (fun k h=>by cases h);have B0:Below w.heap.size w w1:=(below_lit Zf _).trans (B1.mono Zo);have X0:Box w1 w.heap.size 0 0 (.slice none 0 0):=Box.below (B:=w.heap.size+1) ⟨Zs,Zs,Zs⟩ Zo B1;have F0:Free w1 w.heap.size:=Free.below (B:=w.heap.size+1) ⟨Zs,Zs,Zs⟩ Zo B1;exact⟨R1,B0,X0.c0,X0.c1,X0.c2,F0.f0,F0.f1,F0.f2⟩
end Go.Proofs.YtddnfhfangfgeaaGreat.Gf
