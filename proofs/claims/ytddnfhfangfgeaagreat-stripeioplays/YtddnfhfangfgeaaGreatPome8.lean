/- TEXTS JOINED: SsOwn. -/
import Derived.Test.YtddnfhfangfgeaaGreatPome5
namespace Go.Proofs.YtddnfhfangfgeaaGreat.Gf
set_option linter.unusedVariables false
set_option linter.unusedSimpArgs false
open Go.RowKit
theorem run_append_rd2{P:Program}(w:World)(t ty:TypeId)(base:Nat)(e:TypeId)(i:TypeInfo)(ht:P.underlying t=some (.slice e))(hi:P.info? e=some i)(hz:i.zero=some (.int .u8 0))(hsize:i.size=1)(hby:i.bytes=1)
  (v:Value) (n:Nat) (xs:List Value) (hown:w.ownsRow base e 1 v n xs) (va:Value) (p:List UInt8) (hr:Rd w va p) (hl:n+p.length<=1000000) (hbase:base<=w.heap.size):
  ∃v' w',(Builtin.append_ #[t,t] ty #[v,va]).run P w= .ok v' w'/\w'.ownsRow base e 1 v' (n+p.length) (xs++p.map vb)/\w.grownBy w' v.ownBlock/\(v'.ownBlock=v.ownBlock∨v'.ownBlock=some w.heap.size):=by
 rcases hr with⟨ao,cap,rfl,rfl,hc,hn⟩|⟨b,off,cap,hp0,rfl,h1,h2,h3,hpc⟩
 ·rcases ao with _|ad
  ·have:=hn rfl;subst this;exact⟨v,w,run_append_owned_none (P:=P) (w:=w) base t ty e i 1 ht hi v n xs hown,by simpa using hown,World.grownBy.refl _ _,Or.inl rfl⟩
  ·obtain⟨v',w',hr,h2,h3,_,h5⟩:=run_append_own_at (P:=P) w base t ty e i (.int .u8 0) 1 1 ht hi hz hsize hby rfl (by decide) v n xs hown ad 0 cap [] rfl (by intro j u hj;simp at hj) (by intro u hu;simp at hu) (by unfold maxLen;omega) (by omega) hbase;exact⟨v',w',hr,by simpa using h2,h3,h5⟩
 ·obtain⟨v',w',hr,h2,h3,_,h5⟩:=run_append_own_at (P:=P) w base t ty e i (.int .u8 0) 1 1 ht hi hz hsize hby rfl (by decide) v n xs hown ⟨b,off,none⟩ p.length cap ((p.take p.length).map vb) (by simp) (news_of hpc) (vb_one _) (by unfold maxLen;omega) (by omega) hbase;exact⟨v',w',hr,by simpa using h2,h3,h5⟩
theorem wpList_append_rd2{P:Program}(w:World){ops:Array Oper}{rest:List Oper}{o:Oper}{a:Act}{Q:Exit->Act->World->Prop}(hgd:o.guard=none)(s x:Operand)(t:TypeId)
  (ho:o.op= .call {callee:=.builtin .append,args:=#[s,x],argTypes:=#[t,t]})
  (base:Nat) (e:TypeId) (i:TypeInfo) (ht:P.underlying t=some (.slice e)) (hi:P.info? e=some i) (hz:i.zero=some (.int .u8 0)) (hsize:i.size=1) (hby:i.bytes=1)
  (v:Value) (n:Nat) (xs:List Value) (hs:a.eval s=v) (hown:w.ownsRow base e 1 v n xs) (va:Value) (p:List UInt8) (hx:a.eval x=va) (hr:Rd w va p) (hl:n+p.length<=1000000) (hbase:base<=w.heap.size)
  (h:∀v' w',w'.ownsRow base e 1 v' (n+p.length) (xs++p.map vb)->w.grownBy w' v.ownBlock->(v'.ownBlock=v.ownBlock∨v'.ownBlock=some w.heap.size)->wpList P ops Q rest (a.put o.dst v') w'):wpList P ops Q (o::rest) a w:=by
 refine wpList_plain hgd fun K hK=>?_
 obtain⟨v',w',hrun,h2,h3,h4⟩:=run_append_rd2 w t o.type base e i ht hi hz hsize hby v n xs hown va p hr hl hbase;unfold Oper.wp execOp;simp only[ho,resolve,invoke,builtin,Sem.run_bind,Sem.run_pure,Result.andThen_ok,List.map_toArray,List.map_cons,List.map_nil,hs,hx,hrun];exact hK _ _ (h v' w' h2 h3 h4)
theorem wpList_append_one{P:Program}(w:World){ops:Array Oper}{rest:List Oper}{o:Oper}{a:Act}{Q:Exit->Act->World->Prop}(hgd:o.guard=none)(s x:Operand)(t:TypeId)
  (ho:o.op= .call {callee:=.builtin .append,args:=#[s,x],argTypes:=#[t,t]})
  (base:Nat) (e:TypeId) (i:TypeInfo) (ht:P.underlying t=some (.slice e)) (hi:P.info? e=some i) (hz:i.zero=some (.slice none 0 0)) (hsize:i.size=1) (hby:i.bytes=24)
  (v:Value) (n:Nat) (xs:List Value) (hs:a.eval s=v) (hown:w.ownsRow base e 1 v n xs) (b c:Nat) (u:Value) (hx:a.eval x= .slice (some ⟨b,0,none⟩) 1 c) (hr:w.cell? ⟨b,0,none⟩=some u) (hu:u.oneCell'=true) (hl:n<=100000) (hbase:base<=w.heap.size)
  (h:∀v' w',w'.ownsRow base e 1 v' (n+1) (xs++[u])->w.grownBy w' v.ownBlock->(v'.ownBlock=v.ownBlock∨v'.ownBlock=some w.heap.size)->wpList P ops Q rest (a.put o.dst v') w'):wpList P ops Q (o::rest) a w:=by
 refine wpList_plain hgd fun K hK=>?_
 obtain⟨v',w',hrun,h2,h3,_,h5⟩:=run_append_own_at (P:=P) w base t o.type e i (.slice none 0 0) 1 24 ht hi hz hsize hby rfl (by decide) v n xs hown ⟨b,0,none⟩ 1 c [u] rfl (by intro j y hj;rw[add_at,Nat.zero_add];rcases j with _|j<;>simp at hj;subst hj;exact hr) (by intro y hy;simp at hy;rw[hy];exact hu) (by unfold maxLen;omega) (by omega) hbase;unfold Oper.wp execOp;simp only[ho,resolve,invoke,builtin,Sem.run_bind,Sem.run_pure,Result.andThen_ok,List.map_toArray,List.map_cons,List.map_nil,hs,hx,hrun];exact hK _ _ (h v' w' h2 h3 h5)
def OwnP(w:World)(base u:Nat)(x:Value)(p:List UInt8):Prop:=w.ownsRow base u 1 x p.length (p.map vb)
theorem OwnP.kept{w w':World}{base u:Nat}{x:Value}{p:List UInt8}(h:OwnP w base u x p){r:Option Nat}(hg:w.grownBy w' r)(hne:x.ownBlock=none∨x.ownBlock≠r):OwnP w' base u x p:=World.ownsRow.kept h hg hne
theorem OwnP.alloc{w:World}{base u:Nat}{x:Value}{p:List UInt8}(h:OwnP w base u x p)(o:Obj):OwnP (w.alloc o) base u x p:=World.ownsRow.alloc h o
theorem OwnP.one{w:World}{base u:Nat}{x:Value}{p:List UInt8}(h:OwnP w base u x p):x.oneCell'=true:=by
 obtain⟨a,c,rfl⟩:=owns_form h;rfl
theorem OwnP.lt{w:World}{base u:Nat}{x:Value}{p:List UInt8}(h:OwnP w base u x p){k:Nat}(hk:x.ownBlock=some k):base<=k/\k<w.heap.size:=World.ownsRow.lt h k hk
structure RowsO(w:World)(base u:Nat)(v:Value)(vals:List Value)(row:Nat->List UInt8):Prop where
 own:∀(i:Nat) (x:Value),vals[i]? =some x->OwnP w base u x (row i)
 diff:∀(i j:Nat) (x y:Value),vals[i]? =some x->vals[j]? =some y->i≠j->x.ownBlock=none∨x.ownBlock≠y.ownBlock
 out:∀(i:Nat) (x:Value),vals[i]? =some x->x.ownBlock=none∨x.ownBlock≠v.ownBlock
theorem RowsO.nil(w:World)(base u:Nat)(v:Value)(row:Nat->List UInt8):RowsO w base u v [] row:=
 ⟨fun i x h=>by simp at h,fun i j x y h=>by simp at h,fun i x h=>by simp at h⟩
theorem block_apart{x:Value}{s:Nat}{r:Option Nat}(h:∀k,x.ownBlock=some k->k<s)(hr:∀k,r=some k->s<=k):x.ownBlock=none∨x.ownBlock≠r:=by
 cases hx:x.ownBlock with
 |none=>exact Or.inl rfl
 |some k=>
  refine Or.inr fun e=>?_
  have h1:=h k hx;have h2:=hr k e.symm;omega
theorem block_apart'{x:Value}{s:Nat}{r:Option Nat}(h:∀k,x.ownBlock=some k->s<=k)(hr:∀k,r=some k->k<s):x.ownBlock=none∨x.ownBlock≠r:=by
 cases hx:x.ownBlock with
 |none=>exact Or.inl rfl
 |some k=>
  refine Or.inr fun e=>?_
  have h1:=h k hx;have h2:=hr k e.symm;omega
theorem RowsO.push{wr w1 w2:World}{base u bt:Nat}{v v' x:Value}{vals:List Value}{row:Nat->List UInt8}{o o':Obj}(h:RowsO wr base u v vals row)(hv:wr.ownsRow base bt 1 v vals.length vals)
  (g1:(wr.alloc o).grownBy w1 (some wr.heap.size)) (hx:OwnP w1 base u x (row vals.length)) (hb1:∀k,x.ownBlock=some k->wr.heap.size<=k)
  (g2:(w1.alloc o').grownBy w2 v.ownBlock) (hb2:v'.ownBlock=v.ownBlock∨v'.ownBlock=some (w1.alloc o').heap.size):RowsO w2 base u v' (vals++[x]) row:=by
 have s1:wr.heap.size+1<=w1.heap.size:=by have:=g1.size;simpa using this
 have old:∀(i:Nat) (y:Value),vals[i]? =some y->∀k,y.ownBlock=some k->k<wr.heap.size:=fun i y hy k hk=>((h.own i y hy).lt hk).2
 have vlt:∀k,v.ownBlock=some k->k<wr.heap.size:=fun k hk=>(World.ownsRow.lt hv k hk).2
 have xlt:∀k,x.ownBlock=some k->k<w1.heap.size:=fun k hk=>(hx.lt hk).2
 have keep:∀i y,vals[i]? =some y->OwnP w2 base u y (row i):=fun i y hy=>
  ((((h.own i y hy).alloc o).kept g1 (block_apart (old i y hy) (fun k e=>by cases e;exact Nat.le_refl _))).alloc o').kept g2 (h.out i y hy)
 have xkeep:OwnP w2 base u x (row vals.length):=(hx.alloc o').kept g2 (block_apart' hb1 vlt);have at_end:∀i y,(vals++[x])[i]? =some y->(vals[i]? =some y/\i<vals.length)∨(i=vals.length/\y=x):=fun i y hy=>by
  by_cases hi:i<vals.length
  ·rw[List.getElem?_append_left hi]at hy;exact Or.inl ⟨hy,hi⟩
  ·rw[List.getElem?_append_right (by omega)]at hy
   have:i-vals.length=0:=by
    rcases Nat.eq_zero_or_pos (i-vals.length)with e|e
    ·exact e
    ·rw[List.getElem?_eq_none (by simp;omega)]at hy;cases hy
   rw[this]at hy;simp at hy;exact Or.inr ⟨by omega,hy.symm⟩
 have vout:∀y:Value,(∀k,y.ownBlock=some k->k<w1.heap.size)->(y.ownBlock=none∨y.ownBlock≠v.ownBlock)->(y.ownBlock=none∨y.ownBlock≠v'.ownBlock):=fun y hy ho=>by
  rcases hb2 with e|e
  ·rw[e];exact ho
  ·refine block_apart hy (fun k hk=>?_);rw[e]at hk;simp at hk;omega
 refine⟨fun i y hy=>?_,fun i j y z hy hz hij=>?_,fun i y hy=>?_⟩
 ·rcases at_end i y hy with⟨e,_⟩|⟨rfl,rfl⟩
  ·exact keep i y e
  ·exact xkeep
 ·rcases at_end i y hy with⟨e,_⟩|⟨rfl,rfl⟩
  ·rcases at_end j z hz with⟨e',_⟩|⟨rfl,rfl⟩
   ·exact h.diff i j y z e e' hij
   ·exact block_apart (old i y e) hb1
  ·rcases at_end j z hz with⟨e',_⟩|⟨rfl,rfl⟩
   ·exact block_apart' hb1 (old j z e')
   ·exact absurd rfl hij
 ·rcases at_end i y hy with⟨e,_⟩|⟨rfl,rfl⟩
  ·exact vout y (fun k hk=>by have:=old i y e k hk;omega) (h.out i y e)
  ·exact vout y xlt (block_apart' hb1 vlt)
theorem RowsO.put{wr w6 w7:World}{base u bt G n C k:Nat}{x x':Value}{vals:List Value}{row row':Nat->List UInt8}(h:RowsO wr base u (.slice (some ⟨G,0,none⟩) n C) vals row)(hv:wr.ownsRow base bt 1 (.slice (some ⟨G,0,none⟩) n C) n vals)
  (hk:vals[k]? =some x) (hB:Below wr.heap.size wr w6) (hg:w6.grownBy w7 x.ownBlock) (hx:OwnP w7 base u x' (row' k)) (hb:x'.ownBlock=x.ownBlock∨x'.ownBlock=some w6.heap.size) (hrow:∀i,i≠k->row' i=row i):
  (w7.setCell ⟨G,k,none⟩ x').ownsRow base bt 1 (.slice (some ⟨G,0,none⟩) n C) n (vals.set k x')/\RowsO (w7.setCell ⟨G,k,none⟩ x') base u (.slice (some ⟨G,0,none⟩) n C) (vals.set k x') row':=by
 have hG:G<wr.heap.size:=(World.ownsRow.lt hv G rfl).2;have xo:=h.out k x hk;have v6:=owns_later hv hB;have v7:w7.ownsRow base bt 1 (.slice (some ⟨G,0,none⟩) n C) n vals:=World.ownsRow.kept v6 hg (by
  rcases xo with e|e
  ·right;rw[e];simp[Value.ownBlock]
  ·right;exact fun h=>e h.symm)
 obtain⟨v8,g8⟩:=World.ownsRow.stored v7 k x';have x'o:x'.ownBlock=none∨x'.ownBlock≠some G:=by
  rcases hb with e|e
  ·rw[e];exact xo
  ·right;rw[e];intro h;cases h;have:=hB.size;omega
 have old:∀(i:Nat) (y:Value),vals[i]? =some y->∀k,y.ownBlock=some k->k<wr.heap.size:=fun i y hy k hk=>((h.own i y hy).lt hk).2
 have sets:∀(i:Nat) (y:Value),(vals.set k x')[i]? =some y->(i=k/\y=x')∨(i≠k/\vals[i]? =some y):=fun i y hy=>by
  by_cases e:i=k
  ·subst e;have hlt:i<vals.length:=by
    rcases Nat.lt_or_ge i vals.length with h|h
    ·exact h
    ·rw[List.getElem?_eq_none h]at hk;cases hk
   rw[List.getElem?_set_self hlt]at hy;exact Or.inl ⟨rfl,by cases hy;rfl⟩
  ·rw[List.getElem?_set_ne (fun h=>e h.symm)]at hy;exact Or.inr ⟨e,hy⟩
 have x'd:∀(j:Nat) (z:Value),vals[j]? =some z->j≠k->x'.ownBlock=none∨x'.ownBlock≠z.ownBlock:=fun j z hz hj=>by
  rcases hb with e|e
  ·rw[e];exact h.diff k j x z hk hz (fun h=>hj h.symm)
  ·refine block_apart' (s:=wr.heap.size) (fun q hq=>?_) (old j z hz);rw[e]at hq;cases hq;exact hB.size
 refine⟨v8,⟨fun i y hy=>?_,fun i j y z hy hz hij=>?_,fun i y hy=>?_⟩⟩
 ·rcases sets i y hy with⟨rfl,rfl⟩|⟨e,hy⟩
  ·exact hx.kept g8 x'o
  ·rw[hrow i e];exact(World.ownsRow.kept (World.ownsRow.kept (owns_later (h.own i y hy) hB) hg (h.diff i k y x hy hk e)) g8 (h.out i y hy))
 ·rcases sets i y hy with⟨ei,ey⟩|⟨ei,hy'⟩
  ·rcases sets j z hz with⟨ej,ez⟩|⟨ej,hz'⟩
   ·exact absurd (ei.trans ej.symm) hij
   ·rw[ey];exact x'd j z hz' ej
  ·rcases sets j z hz with⟨ej,ez⟩|⟨ej,hz'⟩
   ·rw[ez];have h1:=x'd i y hy' ei;cases hyo:y.ownBlock with
    |none=>exact Or.inl rfl
    |some q=>
     right
     rcases h1 with h1|h1
     ·rw[h1];simp
     ·rw[hyo]at h1;exact fun h=>h1 h.symm
   ·exact h.diff i j y z hy' hz' hij
 ·rcases sets i y hy with⟨rfl,rfl⟩|⟨e,hy⟩
  ·exact x'o
  ·exact h.out i y hy
theorem RowsO.outer{wr w6 w7:World}{base u bt G n C k:Nat}{x:Value}{vals:List Value}{row:Nat->List UInt8}(h:RowsO wr base u (.slice (some ⟨G,0,none⟩) n C) vals row)(hv:wr.ownsRow base bt 1 (.slice (some ⟨G,0,none⟩) n C) n vals)
  (hk:vals[k]? =some x) (hkn:k<n) (hB:Below wr.heap.size wr w6) (hg:w6.grownBy w7 x.ownBlock):w7.cell? ⟨G,k,none⟩=some x/\w7.frozen? ⟨G,k,none⟩=false:=by
 have v7:w7.ownsRow base bt 1 (.slice (some ⟨G,0,none⟩) n C) n vals:=World.ownsRow.kept (owns_later hv hB) hg (by
  rcases h.out k x hk with e|e
  ·right;rw[e];simp[Value.ownBlock]
  ·right;exact fun h=>e h.symm)
 exact⟨by rw[World.ownsRow.cellAt v7 k (by omega),hk],World.ownsRow.frozenAt v7 k⟩
def Grid(w:World)(base bt G n C M:Nat)(W:Mx):Prop:=
 ∃vals:List Value,w.ownsRow base bt 1 (.slice (some ⟨G,0,none⟩) n C) n vals/\∀i,i<n->∃x,vals[i]? =some x/\Rd w x (upto (W i) M)/\Apart G x
theorem Rd.grown{w w':World}{v:Value}{p:List UInt8}{G:Nat}(h:Rd w v p)(hg:w.grownBy w' (some G))(ha:Apart G v):Rd w' v p:=by
 rcases h with h|⟨b,off,cap,h1,h2,h3,h4,h5,h6⟩
 ·exact Or.inl h
 ·have hb:b≠G:=by
   rcases ha _ _ _ h2 with e|e
   ·exact absurd (List.length_eq_zero_iff.1 e) h1
   ·exact e
  exact Or.inr ⟨b,off,cap,h1,h2,h3,h4,Nat.lt_of_lt_of_le h5 hg.size,fun i hi=>(hg.cell_far ⟨b,off+i,none⟩ h5 (fun e=>hb (by cases e;rfl))).trans (h6 i hi)⟩
theorem Grid.later{w w':World}{base bt G n C M:Nat}{W:Mx}(h:Grid w base bt G n C M W)(hb:Below w.heap.size w w'):Grid w' base bt G n C M W:=by
 obtain⟨vals,hv,hr⟩:=h;exact⟨vals,owns_later hv hb,fun i hi=>by obtain⟨x,h1,h2,h3⟩:=hr i hi;exact⟨x,h1,h2.below hb,h3⟩⟩
theorem Grid.cell{w:World}{base bt G n C M:Nat}{W:Mx}(h:Grid w base bt G n C M W){i:Nat}(hi:i<n):∃x,w.cell? ⟨G,i,none⟩=some x/\w.frozen? ⟨G,i,none⟩=false/\Rd w x (upto (W i) M)/\Apart G x:=by
 obtain⟨vals,hv,hr⟩:=h;obtain⟨x,h1,h2,h3⟩:=hr i hi;exact⟨x,by rw[World.ownsRow.cellAt hv i (by omega),h1],World.ownsRow.frozenAt hv i,h2,h3⟩
theorem Grid.lt{w:World}{base bt G n C M:Nat}{W:Mx}(h:Grid w base bt G n C M W):base<=G/\G<w.heap.size:=by
 obtain⟨vals,hv,hr⟩:=h;exact World.ownsRow.lt hv G rfl
theorem Grid.at{w:World}{base bt G n C M:Nat}{W:Mx}(h:Grid w base bt G n C M W){i:Nat}(hi:i<n)(hM:0<M):∃b o cap,w.cell? ⟨G,i,none⟩=some (.slice (some ⟨b,o,none⟩) M cap)/\w.frozen? ⟨G,i,none⟩=false/\Rd w (.slice (some ⟨b,o,none⟩) M cap) (upto (W i) M)/\b≠G/\∀j,j<M->w.cell? ⟨b,o+j,none⟩=some (.int .u8 ((W i j).toNat:Nat)):=by
 obtain⟨x,h1,h2,h3,h4⟩:=h.cell hi;have h3':=h3
 rcases h3 with⟨ao,cap,e,_⟩|⟨b,o,cap,e,rfl,k1,k2,k3,k4⟩
 ·have:=upto_length (W i) M;rw[e]at this;simp at this;omega
 ·rw[upto_length]at h1 h3' h4 k4;refine⟨b,o,cap,h1,h2,h3',?_,fun j hj=>?_⟩
  ·rcases h4 _ _ _ rfl with e2|e2
   ·omega
   ·exact e2
  ·rw[k4 j hj,co_upto_lt hj]
theorem Grid.set{w:World}{base bt G n C M:Nat}{W W':Mx}(h:Grid w base bt G n C M W){k:Nat}(hk:k<n){x:Value}(hx:Rd w x (upto (W' k) M))(ha:Apart G x)(he:∀i j,i<n->i≠k->j<M->W i j=W' i j):Grid (w.setCell ⟨G,k,none⟩ x) base bt G n C M W':=by
 obtain⟨vals,hv,hr⟩:=h;have hlen:vals.length=n:=by have:=hv.1;omega
 obtain⟨v8,g8⟩:=World.ownsRow.stored hv k x;refine⟨_,v8,fun i hi=>?_⟩
 by_cases e:i=k
 ·subst e;exact⟨x,List.getElem?_set_self (by omega),hx.grown g8 ha,ha⟩
 ·obtain⟨y,h1,h2,h3⟩:=hr i hi;refine⟨y,by rw[List.getElem?_set_ne (fun h=>e h.symm)];exact h1,?_,h3⟩;rw[<-upto_congr (fun j hj=>he i j hi e hj)];exact h2.grown g8 h3
end Go.Proofs.YtddnfhfangfgeaaGreat.Gf
