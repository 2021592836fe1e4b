/- JOINED: SsOwn, MxRInvA, MxRInvB. -/
import Derived.Test.YtddnfhfangfgeaaGreatPome5
set_option maxHeartbeats 4000000
set_option maxRecDepth 100000
namespace Go.Proofs.YtddnfhfangfgeaaGreat.Gf
set_option linter.unusedVariables false
set_option linter.unusedSimpArgs false
open Go.RowKit
theorem run_append_rd2{P:Program}(w:World)(t ty:TypeId)(base:Nat)(e:TypeId)(i:TypeInfo)(ht:P.underlying t=some (.slice e))(hi:P.info? e=some i)(hz:i.zero=some (.int .u8 0))(hsize:i.size=1)(hby:i.bytes=1)
  (v:Value) (n:Nat) (xs:List Value) (hown:w.ownsRow base e 1 v n xs) (va:Value) (p:List UInt8) (hr:Rd w va p) (hl:n+p.length<=1000000) (hbase:base<=w.heap.size):
  ∃v' w',(Builtin.append_ #[t,t] ty #[v,va]).run P w= .ok v' w'/\w'.ownsRow base e 1 v' (n+p.length) (xs++p.map vb)/\w.grownBy w' v.ownBlock/\(v'.ownBlock=v.ownBlock∨v'.ownBlock=some w.heap.size):=by
 rcases hr with⟨ao,cap,rfl,rfl,hc,hn⟩|⟨b,off,cap,hp0,rfl,h1,h2,h3,hpc⟩
 ·rcases ao with _|ad
  ·have:=hn rfl;subst this;exact⟨v,w,run_append_owned_none (P:=P) (w:=w) base t ty e i 1 ht hi v n xs hown,by simpa using hown,World.grownBy.refl _ _,Or.inl rfl⟩
  ·obtain⟨v',w',hr,h2,h3,_,h5⟩:=run_append_own_at (P:=P) w base t ty e i (.int .u8 0) 1 1 ht hi hz hsize hby rfl Zd v n xs hown ad 0 cap [] rfl (by intro j u hj;simp at hj) (by intro u hu;simp at hu) Zl Zo hbase;exact⟨v',w',hr,by simpa using h2,h3,h5⟩
 ·obtain⟨v',w',hr,h2,h3,_,h5⟩:=run_append_own_at (P:=P) w base t ty e i (.int .u8 0) 1 1 ht hi hz hsize hby rfl Zd v n xs hown ⟨b,off,none⟩ p.length cap ((p.take p.length).map vb) Zs (news_of hpc) (vb_one _) Zl Zo hbase;exact⟨v',w',hr,by simpa using h2,h3,h5⟩
theorem wpList_append_rd2{P:Program}(w:World){ops:Array Oper}{rest:List Oper}{o:Oper}{a:Act}{Q:Exit->Act->World->Prop}(hgd:o.guard=none)(s x:Operand)(t:TypeId)
  (ho:o.op= .call {callee:=.builtin .append,args:=#[s,x],argTypes:=#[t,t]})
  (base:Nat) (e:TypeId) (i:TypeInfo) (ht:P.underlying t=some (.slice e)) (hi:P.info? e=some i) (hz:i.zero=some (.int .u8 0)) (hsize:i.size=1) (hby:i.bytes=1)
  (v:Value) (n:Nat) (xs:List Value) (hs:a.eval s=v) (hown:w.ownsRow base e 1 v n xs) (va:Value) (p:List UInt8) (hx:a.eval x=va) (hr:Rd w va p) (hl:n+p.length<=1000000) (hbase:base<=w.heap.size)
  (h:∀v' w',w'.ownsRow base e 1 v' (n+p.length) (xs++p.map vb)->w.grownBy w' v.ownBlock->(v'.ownBlock=v.ownBlock∨v'.ownBlock=some w.heap.size)->wpList P ops Q rest (a.put o.dst v') w'):wpList P ops Q (o::rest) a w:=by
 refine wpList_plain hgd fun K hK=>?_
 obtain⟨v',w',hrun,h2,h3,h4⟩:=run_append_rd2 w t o.type base e i ht hi hz hsize hby v n xs hown va p hr hl hbase;unfold Oper.wp execOp;simp only[ho,resolve,invoke,builtin,Sem.run_bind,Sem.run_pure,Result.andThen_ok,List.map_toArray,List.map_cons,List.map_nil,hs,hx,hrun];exact hK _ _ (h v' w' h2 h3 h4)
theorem wpList_append_one{P:Program}(w:World){ops:Array Oper}{rest:List Oper}{o:Oper}{a:Act}{Q:Exit->Act->World->Prop}(hgd:o.guard=none)(s x:Operand)(t:TypeId)
  (ho:o.op= .call {callee:=.builtin .append,args:=#[s,x],argTypes:=#[t,t]})
  (base:Nat) (e:TypeId) (i:TypeInfo) (ht:P.underlying t=some (.slice e)) (hi:P.info? e=some i) (hz:i.zero=some (.slice none 0 0)) (hsize:i.size=1) (hby:i.bytes=24)
  (v:Value) (n:Nat) (xs:List Value) (hs:a.eval s=v) (hown:w.ownsRow base e 1 v n xs) (b c:Nat) (u:Value) (hx:a.eval x= .slice (some ⟨b,0,none⟩) 1 c) (hr:w.cell? ⟨b,0,none⟩=some u) (hu:u.oneCell'=true) (hl:n<=100000) (hbase:base<=w.heap.size)
  (h:∀v' w',w'.ownsRow base e 1 v' (n+1) (xs++[u])->w.grownBy w' v.ownBlock->(v'.ownBlock=v.ownBlock∨v'.ownBlock=some w.heap.size)->wpList P ops Q rest (a.put o.dst v') w'):wpList P ops Q (o::rest) a w:=by
 refine wpList_plain hgd fun K hK=>?_
 obtain⟨v',w',hrun,h2,h3,_,h5⟩:=run_append_own_at (P:=P) w base t o.type e i (.slice none 0 0) 1 24 ht hi hz hsize hby rfl Zd v n xs hown ⟨b,0,none⟩ 1 c [u] rfl (by intro j y hj;rw[add_at,Nat.zero_add];rcases j with _|j<;>simp at hj;subst hj;exact hr) (by intro y hy;simp at hy;rw[hy];exact hu) Zl Zo hbase;unfold Oper.wp execOp;simp only[ho,resolve,invoke,builtin,Sem.run_bind,Sem.run_pure,Result.andThen_ok,List.map_toArray,List.map_cons,List.map_nil,hs,hx,hrun];exact hK _ _ (h v' w' h2 h3 h5)
def OwnP(w:World)(base u:Nat)(x:Value)(p:List UInt8):Prop:=w.ownsRow base u 1 x p.length (p.map vb)
theorem OwnP.kept{w w':World}{base u:Nat}{x:Value}{p:List UInt8}(h:OwnP w base u x p){r:Option Nat}(hg:w.grownBy w' r)(hne:x.ownBlock=none∨x.ownBlock≠r):OwnP w' base u x p:=World.ownsRow.kept h hg hne
theorem OwnP.alloc{w:World}{base u:Nat}{x:Value}{p:List UInt8}(h:OwnP w base u x p)(o:Obj):OwnP (w.alloc o) base u x p:=World.ownsRow.alloc h o
theorem OwnP.one{w:World}{base u:Nat}{x:Value}{p:List UInt8}(h:OwnP w base u x p):x.oneCell'=true:=by
 obtain⟨a,c,rfl⟩:=owns_form h;rfl
theorem OwnP.lt{w:World}{base u:Nat}{x:Value}{p:List UInt8}(h:OwnP w base u x p){k:Nat}(hk:x.ownBlock=some k):base<=k/\k<w.heap.size:=World.ownsRow.lt h k hk
structure RowsO(w:World)(base u:Nat)(v:Value)(vals:List Value)(row:Nat->List UInt8):Prop where
 own:∀(i:Nat) (x:Value),vals[i]? =some x->OwnP w base u x (row i)
 diff:∀(i j:Nat) (x y:Value),vals[i]? =some x->vals[j]? =some y->i≠j->x.ownBlock=none∨x.ownBlock≠y.ownBlock
 out:∀(i:Nat) (x:Value),vals[i]? =some x->x.ownBlock=none∨x.ownBlock≠v.ownBlock
theorem RowsO.nil(w:World)(base u:Nat)(v:Value)(row:Nat->List UInt8):RowsO w base u v [] row:=
 ⟨fun i x h=>by simp at h,fun i j x y h=>by simp at h,fun i x h=>by simp at h⟩
theorem z7_1{p:Prop} (h:p:=by
 cases hx:x.ownBlock with
 |none=>exact Or.inl rfl
 |some k=>
  refine Or.inr fun e=>?_
  have h1:=h k hx;have h2:=hr k e.symm;omega
 ):p:=h
theorem block_apart{x:Value}{s:Nat}{r:Option Nat}(h:∀k,x.ownBlock=some k->k<s)(hr:∀k,r=some k->s<=k):x.ownBlock=none∨x.ownBlock≠r:=by
 exact z7_1
theorem block_apart'{x:Value}{s:Nat}{r:Option Nat}(h:∀k,x.ownBlock=some k->s<=k)(hr:∀k,r=some k->k<s):x.ownBlock=none∨x.ownBlock≠r:=by
 exact z7_1
theorem RowsO.push{wr w1 w2:World}{base u bt:Nat}{v v' x:Value}{vals:List Value}{row:Nat->List UInt8}{o o':Obj}(h:RowsO wr base u v vals row)(hv:wr.ownsRow base bt 1 v vals.length vals)
  (g1:(wr.alloc o).grownBy w1 (some wr.heap.size)) (hx:OwnP w1 base u x (row vals.length)) (hb1:∀k,x.ownBlock=some k->wr.heap.size<=k)
  (g2:(w1.alloc o').grownBy w2 v.ownBlock) (hb2:v'.ownBlock=v.ownBlock∨v'.ownBlock=some (w1.alloc o').heap.size):RowsO w2 base u v' (vals++[x]) row:=by
 have s1:wr.heap.size+1<=w1.heap.size:=by have:=g1.size;simpa using this
 have old:∀(i:Nat) (y:Value),vals[i]? =some y->∀k,y.ownBlock=some k->k<wr.heap.size:=fun i y hy k hk=>((h.own i y hy).lt hk).2
 have vlt:∀k,v.ownBlock=some k->k<wr.heap.size:=fun k hk=>(World.ownsRow.lt hv k hk).2
 have xlt:∀k,x.ownBlock=some k->k<w1.heap.size:=fun k hk=>(hx.lt hk).2
 have keep:∀i y,vals[i]? =some y->OwnP w2 base u y (row i):=fun i y hy=>
  ((((h.own i y hy).alloc o).kept g1 (block_apart (old i y hy) (fun k e=>by cases e;exact Nat.le_refl _))).alloc o').kept g2 (h.out i y hy)
 have xkeep:OwnP w2 base u x (row vals.length):=(hx.alloc o').kept g2 (block_apart' hb1 vlt);have at_end:∀i y,(vals++[x])[i]? =some y->(vals[i]? =some y/\i<vals.length)∨(i=vals.length/\y=x):=fun i y hy=>by
  by_cases hi:i<vals.length
  ·rw[List.getElem?_append_left hi]at hy;exact Or.inl ⟨hy,hi⟩
  ·rw[List.getElem?_append_right Zo]at hy
   have:i-vals.length=0:=by
    rcases Nat.eq_zero_or_pos (i-vals.length)with e|e
    ·exact e
    ·rw[List.getElem?_eq_none Zm]at hy;cases hy
   rw[this]at hy;simp at hy;exact Or.inr ⟨Zo,hy.symm⟩
 have vout:∀y:Value,(∀k,y.ownBlock=some k->k<w1.heap.size)->(y.ownBlock=none∨y.ownBlock≠v.ownBlock)->(y.ownBlock=none∨y.ownBlock≠v'.ownBlock):=fun y hy ho=>by
  rcases hb2 with e|e
  ·rw[e];exact ho
  ·refine block_apart hy (fun k hk=>?_);rw[e]at hk;simp at hk;omega
 refine⟨fun i y hy=>?_,fun i j y z hy hz hij=>?_,fun i y hy=>?_⟩
 ·rcases at_end i y hy with⟨e,_⟩|⟨rfl,rfl⟩
  ·exact keep i y e
  ·exact xkeep
 ·rcases at_end i y hy with⟨e,_⟩|⟨rfl,rfl⟩
  ·rcases at_end j z hz with⟨e',_⟩|⟨rfl,rfl⟩
   ·exact h.diff i j y z e e' hij
   ·exact block_apart (old i y e) hb1
  ·rcases at_end j z hz with⟨e',_⟩|⟨rfl,rfl⟩
   ·exact block_apart' hb1 (old j z e')
   ·exact absurd rfl hij
 ·rcases at_end i y hy with⟨e,_⟩|⟨rfl,rfl⟩
  ·exact vout y (fun k hk=>by have:=old i y e k hk;omega) (h.out i y e)
  ·exact vout y xlt (block_apart' hb1 vlt)
theorem RowsO.put{wr w6 w7:World}{base u bt G n C k:Nat}{x x':Value}{vals:List Value}{row row':Nat->List UInt8}(h:RowsO wr base u (.slice (some ⟨G,0,none⟩) n C) vals row)(hv:wr.ownsRow base bt 1 (.slice (some ⟨G,0,none⟩) n C) n vals)
  (hk:vals[k]? =some x) (hB:Below wr.heap.size wr w6) (hg:w6.grownBy w7 x.ownBlock) (hx:OwnP w7 base u x' (row' k)) (hb:x'.ownBlock=x.ownBlock∨x'.ownBlock=some w6.heap.size) (hrow:∀i,i≠k->row' i=row i):
  (w7.setCell ⟨G,k,none⟩ x').ownsRow base bt 1 (.slice (some ⟨G,0,none⟩) n C) n (vals.set k x')/\RowsO (w7.setCell ⟨G,k,none⟩ x') base u (.slice (some ⟨G,0,none⟩) n C) (vals.set k x') row':=by
 have hG:G<wr.heap.size:=(World.ownsRow.lt hv G rfl).2;have xo:=h.out k x hk;have v6:=owns_later hv hB;have v7:w7.ownsRow base bt 1 (.slice (some ⟨G,0,none⟩) n C) n vals:=World.ownsRow.kept v6 hg (by
  rcases xo with e|e
  ·right;rw[e];simp[Value.ownBlock]
  ·right;exact fun h=>e h.symm)
 obtain⟨v8,g8⟩:=World.ownsRow.stored v7 k x';have x'o:x'.ownBlock=none∨x'.ownBlock≠some G:=by
  rcases hb with e|e
  ·rw[e];exact xo
  ·right;rw[e];intro h;cases h;have:=hB.size;omega
 have old:∀(i:Nat) (y:Value),vals[i]? =some y->∀k,y.ownBlock=some k->k<wr.heap.size:=fun i y hy k hk=>((h.own i y hy).lt hk).2
 have sets:∀(i:Nat) (y:Value),(vals.set k x')[i]? =some y->(i=k/\y=x')∨(i≠k/\vals[i]? =some y):=fun i y hy=>by
  by_cases e:i=k
  ·subst e;have hlt:i<vals.length:=by
    rcases Nat.lt_or_ge i vals.length with h|h
    ·exact h
    ·rw[List.getElem?_eq_none h]at hk;cases hk
   rw[List.getElem?_set_self hlt]at hy;exact Or.inl ⟨rfl,by cases hy;rfl⟩
  ·rw[List.getElem?_set_ne (fun h=>e h.symm)]at hy;exact Or.inr ⟨e,hy⟩
 have x'd:∀(j:Nat) (z:Value),vals[j]? =some z->j≠k->x'.ownBlock=none∨x'.ownBlock≠z.ownBlock:=fun j z hz hj=>by
  rcases hb with e|e
  ·rw[e];exact h.diff k j x z hk hz (fun h=>hj h.symm)
  ·refine block_apart' (s:=wr.heap.size) (fun q hq=>?_) (old j z hz);rw[e]at hq;cases hq;exact hB.size
 refine⟨v8,⟨fun i y hy=>?_,fun i j y z hy hz hij=>?_,fun i y hy=>?_⟩⟩
 ·rcases sets i y hy with⟨rfl,rfl⟩|⟨e,hy⟩
  ·exact hx.kept g8 x'o
  ·rw[hrow i e];exact(World.ownsRow.kept (World.ownsRow.kept (owns_later (h.own i y hy) hB) hg (h.diff i k y x hy hk e)) g8 (h.out i y hy))
 ·rcases sets i y hy with⟨ei,ey⟩|⟨ei,hy'⟩
  ·rcases sets j z hz with⟨ej,ez⟩|⟨ej,hz'⟩
   ·exact absurd (ei.trans ej.symm) hij
   ·rw[ey];exact x'd j z hz' ej
  ·rcases sets j z hz with⟨ej,ez⟩|⟨ej,hz'⟩
   ·rw[ez];have h1:=x'd i y hy' ei;cases hyo:y.ownBlock with
    |none=>exact Or.inl rfl
    |some q=>
     right
     rcases h1 with h1|h1
     ·rw[h1];simp
     ·rw[hyo]at h1;exact fun h=>h1 h.symm
   ·exact h.diff i j y z hy' hz' hij
 ·rcases sets i y hy with⟨rfl,rfl⟩|⟨e,hy⟩
  ·exact x'o
  ·exact h.out i y hy
theorem RowsO.outer{wr w6 w7:World}{base u bt G n C k:Nat}{x:Value}{vals:List Value}{row:Nat->List UInt8}(h:RowsO wr base u (.slice (some ⟨G,0,none⟩) n C) vals row)(hv:wr.ownsRow base bt 1 (.slice (some ⟨G,0,none⟩) n C) n vals)
  (hk:vals[k]? =some x) (hkn:k<n) (hB:Below wr.heap.size wr w6) (hg:w6.grownBy w7 x.ownBlock):w7.cell? ⟨G,k,none⟩=some x/\w7.frozen? ⟨G,k,none⟩=false:=by
 have v7:w7.ownsRow base bt 1 (.slice (some ⟨G,0,none⟩) n C) n vals:=World.ownsRow.kept (owns_later hv hB) hg (by
  rcases h.out k x hk with e|e
  ·right;rw[e];simp[Value.ownBlock]
  ·right;exact fun h=>e h.symm)
 exact⟨by rw[World.ownsRow.cellAt v7 k Zo,hk],World.ownsRow.frozenAt v7 k⟩
def Grid(w:World)(base bt G n C M:Nat)(W:Mx):Prop:=
 ∃vals:List Value,w.ownsRow base bt 1 (.slice (some ⟨G,0,none⟩) n C) n vals/\∀i,i<n->∃x,vals[i]? =some x/\Rd w x (upto (W i) M)/\Apart G x
theorem Rd.grown{w w':World}{v:Value}{p:List UInt8}{G:Nat}(h:Rd w v p)(hg:w.grownBy w' (some G))(ha:Apart G v):Rd w' v p:=by
 rcases h with h|⟨b,off,cap,h1,h2,h3,h4,h5,h6⟩
 ·exact Or.inl h
 ·have hb:b≠G:=by
   rcases ha _ _ _ h2 with e|e
   ·exact absurd (List.length_eq_zero_iff.1 e) h1
   ·exact e
  exact Or.inr ⟨b,off,cap,h1,h2,h3,h4,Nat.lt_of_lt_of_le h5 hg.size,fun i hi=>(hg.cell_far ⟨b,off+i,none⟩ h5 (fun e=>hb (by cases e;rfl))).trans (h6 i hi)⟩
theorem Grid.later{w w':World}{base bt G n C M:Nat}{W:Mx}(h:Grid w base bt G n C M W)(hb:Below w.heap.size w w'):Grid w' base bt G n C M W:=by
 obtain⟨vals,hv,hr⟩:=h;exact⟨vals,owns_later hv hb,fun i hi=>by obtain⟨x,h1,h2,h3⟩:=hr i hi;exact⟨x,h1,h2.below hb,h3⟩⟩
theorem Grid.cell{w:World}{base bt G n C M:Nat}{W:Mx}(h:Grid w base bt G n C M W){i:Nat}(hi:i<n):∃x,w.cell? ⟨G,i,none⟩=some x/\w.frozen? ⟨G,i,none⟩=false/\Rd w x (upto (W i) M)/\Apart G x:=by
 obtain⟨vals,hv,hr⟩:=h;obtain⟨x,h1,h2,h3⟩:=hr i hi;exact⟨x,by rw[World.ownsRow.cellAt hv i Zo,h1],World.ownsRow.frozenAt hv i,h2,h3⟩
theorem Grid.lt{w:World}{base bt G n C M:Nat}{W:Mx}(h:Grid w base bt G n C M W):base<=G/\G<w.heap.size:=by
 obtain⟨vals,hv,hr⟩:=h;exact World.ownsRow.lt hv G rfl
theorem Grid.at{w:World}{base bt G n C M:Nat}{W:Mx}(h:Grid w base bt G n C M W){i:Nat}(hi:i<n)(hM:0<M):∃b o cap,w.cell? ⟨G,i,none⟩=some (.slice (some ⟨b,o,none⟩) M cap)/\w.frozen? ⟨G,i,none⟩=false/\Rd w (.slice (some ⟨b,o,none⟩) M cap) (upto (W i) M)/\b≠G/\∀j,j<M->w.cell? ⟨b,o+j,none⟩=some (.int .u8 ((W i j).toNat:Nat)):=by
 obtain⟨x,h1,h2,h3,h4⟩:=h.cell hi;have h3':=h3
 rcases h3 with⟨ao,cap,e,_⟩|⟨b,o,cap,e,rfl,k1,k2,k3,k4⟩
 ·have:=upto_length (W i) M;rw[e]at this;simp at this;omega
 ·rw[upto_length]at h1 h3' h4 k4;refine⟨b,o,cap,h1,h2,h3',?_,fun j hj=>?_⟩
  ·rcases h4 _ _ _ rfl with e2|e2
   ·omega
   ·exact e2
  ·rw[k4 j hj,co_upto_lt hj]
theorem Grid.set{w:World}{base bt G n C M:Nat}{W W':Mx}(h:Grid w base bt G n C M W){k:Nat}(hk:k<n){x:Value}(hx:Rd w x (upto (W' k) M))(ha:Apart G x)(he:∀i j,i<n->i≠k->j<M->W i j=W' i j):Grid (w.setCell ⟨G,k,none⟩ x) base bt G n C M W':=by
 obtain⟨vals,hv,hr⟩:=h;have hlen:vals.length=n:=by have:=hv.1;omega
 obtain⟨v8,g8⟩:=World.ownsRow.stored hv k x;refine⟨_,v8,fun i hi=>?_⟩
 by_cases e:i=k
 ·subst e;exact⟨x,List.getElem?_set_self Zo,hx.grown g8 ha,ha⟩
 ·obtain⟨y,h1,h2,h3⟩:=hr i hi;refine⟨y,by rw[List.getElem?_set_ne (fun h=>e h.symm)];exact h1,?_,h3⟩;rw[<-upto_congr (fun j hj=>he i j hi e hj)];exact h2.grown g8 h3
theorem info_bytes:(Tryz.prog.info? 36).map (fun i=>(i.zero,i.size,i.bytes))=some (some (.slice none 0 0),1,24):=Zk
theorem ownBlock_some(b n c:Nat):(Value.slice (some ⟨b,0,none⟩) n c).ownBlock=some b:=rfl
theorem rwide_any{w:World}{n:Nat}{vs:Value}{A:List UInt8}(h:Rd w vs A)(hok:OkM n n A):
  Calls Tryz.prog 246 #[.agg #[.int .i64 (n:Int),.int .i64 (n:Int),vs]] w fun e w'=>∃v vals,e= .returned v/\vals.length=n/\w'.ownsRow w.heap.size 36 1 v n vals/\RowsO w' w.heap.size 5 v vals (fun i=>upto (fun j=>en n A i j) n)/\Below w.heap.size w w':=by
 obtain⟨i0,hi,hz0,hz1,hz2⟩:=info_parts info_u8;obtain⟨i1,hj,hy0,hy1,hy2⟩:=info_parts info_bytes;have hn:n<=256:=by have:=hok.2.1;omega
 have hl:A.length=n*n:=by exact_mod_cast hok.2.2.2.2
 go_enter Tryz.func246,Tryz.ntmps246
 have B0:Below w.heap.size w (w.alloc (.cells #[.int .i64 (n:Int),.int .i64 (n:Int),vs] 148)):=(Below.refl _ _).alloc (Nat.le_refl _) _;have X0:=Box.new w (n:Int) (n:Int) vs 148;go_wp2
 go_loopw [3,4] (fun o i wr=>∃(k:Nat) (vals:List Value),k<=n/\i= .int .i64 k/\vals.length=k/\wr.ownsRow (w.heap.size+1) 36 1 o k vals/\RowsO wr (w.heap.size+1) 5 o vals (fun i=>upto (fun j=>en n A i j) n)/\Below (w.heap.size+1) (w.alloc (.cells #[.int .i64 (n:Int),.int .i64 (n:Int),vs] 148)) wr) (fun _ i _=>n-(intOf i).toNat)
 case atStart=>exact⟨0,[],Zo,rfl,rfl,World.ownsRow_nil _ _ _ _,RowsO.nil _ _ _ _ _,Below.refl _ _⟩
 case round=>
  obtain⟨k,vals,hk,rfl,hvl,hown,hrows,hB⟩:=hrel;have X1:=X0.below (show w.heap.size<w.heap.size+1 by omega) hB;have x0:=X1.c0;have x1:=X1.c1;have x2:=X1.c2;have hsz:w.heap.size+1<=wr.heap.size:=by have:=hB.size;simpa using this
  have l0:w.heap.size<wr.heap.size:=Zo
  by_cases hlt:k<n
  ·have hlt':(k:Int)<(n:Int):=by omega
   obtain⟨lo,hlo⟩:∃lo,Hid (lo=k*n):=⟨_,rfl⟩;obtain⟨hh,hhi⟩:∃hh,Hid (hh=lo+n):=⟨_,rfl⟩;have p1:lo+n<=A.length:=by rw[hlo.out,hl,<-Nat.succ_mul];exact Nat.mul_le_mul_right n hlt
   have p2:lo<=256*256:=by rw[hlo.out];exact Nat.mul_le_mul Zo hn
   have g1:(k:Int)*(n:Int)=(lo:Int):=by rw[hlo.out];exact_mod_cast rfl
   have g2:((k:Int)+1)*(n:Int)=(hh:Int):=by rw[Int.add_mul,Int.one_mul,g1,hhi.out];exact_mod_cast rfl
   have g3:hh-lo=n:=by rw[hhi.out];omega
   have w1:IntKind.i64.wrap (lo:Int)=(lo:Int):=Zw
   have w2:IntKind.i64.wrap (hh:Int)=(hh:Int):=by rw[IntKind.wrap_i64];have:=hhi.out;omega
   have hR:=(h.below B0).below (hB.mono Zs)
   rcases h with⟨ao,cap,hA,_⟩|⟨b,off,cap,hA0,rfl,h6,h7,h8,h9⟩
   ·subst hA;simp at p1;omega
   ·have hR2:=hR.sub lo n Zo p1;have hRL:upto (fun j=>co A (lo+j)) n=upto (fun j=>en n A k j) n:=upto_congr fun j hj=>by rw[hlo.out];rfl
    rw[hRL]at hR2;have hlc:lo<cap:=Zo
    have hhc:hh<=cap:=by have:=hhi.out;omega
    have hne:¬cap=lo:=Zo
    have hlh:lo<=hh:=by have:=hhi.out;omega
    have hlh':(lo:Int)<=(hh:Int):=Zo
    have hhc':(hh:Int)<=(cap:Int):=Zo
    have HU:Hid ((upto (fun j=>en n A k j) n).length=n):=upto_length _ _;have hA1:Below wr.heap.size wr (wr.alloc (.cells #[] 5)):=(Below.refl _ _).alloc (Nat.le_refl _) _;have hE:(wr.alloc (.cells #[] 5)).ownsRow (w.heap.size+1) 5 1 (.slice (some ⟨wr.heap.size,0,none⟩) 0 0) 0 []:=World.ownsRow_made wr #[] 0 hsz (Nat.zero_le _) rfl;unfold maxLen at h7;clear h9 h6 hR hRL;have HR2:Hid _:=hR2.below hA1;clear hR2;have hl':Hid _:=hl;clear hl;have e0:0+(upto (fun j=>en n A k j) n).length=n:=by rw[upto_length,Nat.zero_add]
    have E0:Hid _:=e0;clear e0
    go_wp2_with (first
     |(at_builtin;refine wpList_append_rd2 _ rfl (.tmp 12) (.tmp 24) 36 rfl (w.heap.size+1) 5 i0 Tryz.underlying36 hi hz0 hz1 hz2 (.slice (some ⟨wr.heap.size,0,none⟩) 0 0) 0 [] rfl hE _ _ rfl HR2.out (by rw[HU.out];omega) Zm ?_;intro x w5 hx5 hg5 hb5;rw[ownBlock_some]at hg5 hb5;obtain⟨ax,cx,ex⟩:=owns_form hx5;rw[E0.out]at ex;subst ex;have ho5:=World.ownsRow.kept (World.ownsRow.alloc hown (.cells #[] 5)) hg5 (block_apart (fun q hq=>(World.ownsRow.lt hown q hq).2) (fun q e=>by cases e;exact Nat.le_refl _));have s5:wr.heap.size+1<=w5.heap.size:=(by have:=hg5.size;simpa using this))
     |(at_builtin;refine wpList_append_one _ rfl (.tmp 11) (.tmp 26) 106 rfl (w.heap.size+1) 36 i1 Tryz.underlying106 hj hy0 hy1 hy2 u3 k vals rfl (World.ownsRow.alloc ho5 _) w5.heap.size 1 (.slice ax n cx) rfl Zs rfl Zo Zm ?_;intro v' w6 hv6 hg6 hb6))
    have HP:Hid (RowsO w6 (w.heap.size+1) 5 v' (vals++[.slice ax n cx]) (fun i=>upto (fun j=>en n A i j) n)):=by
     refine RowsO.push hrows (by rw[hvl];exact hown) hg5 ?_ ?_ hg6 hb6
     ·rw[hvl];unfold OwnP;rw[List.nil_append,Nat.zero_add]at hx5;exact hx5
     ·intro q hq
      rcases hb5 with e|e
      ·rw[e]at hq;cases hq;exact Nat.le_refl _
      ·rw[e]at hq;cases hq;simp
    have HB:Hid (Below (w.heap.size+1) (w.alloc (.cells #[.int .i64 (n:Int),.int .i64 (n:Int),.slice (some ⟨b,off,none⟩) A.length cap] 148)) w6):=
     ((((hB.alloc hsz _).grown hg5 Zm (fun q hq=>by cases hq;exact hsz)).alloc Zo _).grown hg6 Zm (fun q hq=>(World.ownsRow.lt hown q hq).1))
    clear hB hrows hg5 hg6 hb5 hb6 hx5 ho5 hE HR2 x0 x1 x2 X1;go_roundw
    case rel=>exact⟨k+1,vals++[.slice ax n cx],Zo,Zg,by simp[hvl],hv6,HP.out,HB.out⟩
    case measure=>simp[intOf];omega
  ·have e:k=n:=by omega
   subst e;clear hl;go_wp2;go_ret;refine⟨_,vals,rfl,hvl,ownsRow_base hown Zo,⟨fun i x hx=>ownsRow_base (hrows.own i x hx) Zo,hrows.diff,hrows.out⟩,B0.trans (hB.mono Zo)⟩
theorem rdiv3_at{w:World}(a b:UInt8){x y:Int}(hx:x=((a.toNat:Nat):Int))(hy:y=((b.toNat:Nat):Int)):
  Calls Tryz.prog 248 #[.int .u8 x,.int .u8 y] w fun e w'=>e= .returned (.tuple #[.int .u8 ((mu a (iv b)).toNat:Nat),.int .i64 (zE b.toNat:Nat)])/\w'=w:=by
 rw[mu_toNat,iv_toNat];exact rdiv_at a.toNat b.toNat hx hy (u8_lt a) (u8_lt b)
theorem cell_alloc{W:World}{a:Addr}{v:Value}(h:W.cell? a=some v)(o:Obj):(W.alloc o).cell? a=some v:=
 (((Below.refl W.heap.size W).alloc (Nat.le_refl _) o).cell (World.block_lt_of_cell? W _ h)).trans h
theorem cell_grown{W W':World}{a:Addr}{v:Value}{r:Option Nat}{B:Nat}(hg:W.grownBy W' r)(h:W.cell? a=some v)(ha:a.block<B)(hr:∀k,r=some k->B<=k):W'.cell? a=some v:=by
 rw[hg.cell_far a (World.block_lt_of_cell? W _ h) (fun e=>by have:=hr _ e.symm;omega)];exact h
def clearL(p q:Nat->UInt8)(c j:Nat):UInt8:=p j^^^mu (mu (p c) (iv (q c))) (q j)
theorem rcleared_any{w:World}{vp vq:Value}{p q:List UInt8}{c:Nat}{x:Int}(hx:x=(c:Int))(hp:Rd w vp p)(hq:Rd w vq q)(hpq:p.length=q.length)(hl:p.length<=1000)(hc:c<p.length):
  Calls Tryz.prog 247 #[vp,vq,.int .i64 x] w fun e w'=>∃v,e= .returned v/\OwnP w' w.heap.size 5 v (upto (clearL (co p) (co q) c) p.length)/\Below w.heap.size w w':=by
 subst hx;obtain⟨i0,hi,hz0,hz1,hz2⟩:=info_parts info_u8
 rcases hp with⟨a1,c1,rfl,_⟩|⟨b1,o1,c1,hp0,rfl,h1,h2,h3,hpc⟩
 ·simp at hc
 rcases hq with⟨a2,c2,rfl,_⟩|⟨b2,o2,c2,hq0,rfl,h4,h5,h6,hqc⟩
 ·simp at hpq;subst hpq;simp at hc
 have hpl:=hpq;rw[<-hpq]at hqc h4 ⊢;clear hpq hq0 hp0;obtain⟨L,hL⟩:∃L,Hid (L=p.length):=⟨_,rfl⟩;rw[<-hL.out]at hpc hqc hl hc h1 h4 ⊢;have d1:=hpc c hc;have d2:=hqc c hc;have hc':(c:Int)<(L:Int):=Zo
 obtain⟨y,hy⟩:∃y,Hid (y=mu (co p c) (iv (co q c))):=⟨_,rfl⟩;clear hpl h1 h2 h4 h5
 go_enter Tryz.func247,Tryz.ntmps247
 go_wp2
 go_quiet ((go_at_call 248;go_loud (exact Calls.quiet_of_same (rdiv3_at (co p c) (co q c) rfl rfl))))
 rw[<-hy.out];clear d1 d2;have hpc':∀i,i<L->(w.drewN nq).cell? ⟨b1,o1+i,none⟩=some (.int .u8 ((co p i).toNat:Nat)):=hpc;have hqc':∀i,i<L->(w.drewN nq).cell? ⟨b2,o2+i,none⟩=some (.int .u8 ((co q i).toNat:Nat)):=hqc;have B0:Below w.heap.size w (w.drewN nq):=below_draws _ _;go_wp2
 go_loopw [9,10] (fun o i wr=>∃k:Nat,k<=L/\i= .int .i64 k/\wr.ownsRow w.heap.size 5 1 o k ((upto (clearL (co p) (co q) c) k).map vb)/\Below w.heap.size w wr) (fun _ i _=>L-(intOf i).toNat)
 case atStart=>exact⟨0,Zo,rfl,World.ownsRow_nil _ _ _ _,B0⟩
 case round=>
  obtain⟨k,hk,rfl,hown,hB⟩:=hrel;clear hpc' hqc' B0
  by_cases hlt:k<L
  ·have hlt':(k:Int)<(L:Int):=by omega
   have k1:=(hB.cell (p:=⟨b1,o1+k,none⟩) h3).trans (hpc k hlt);have k2:=(hB.cell (p:=⟨b2,o2+k,none⟩) h6).trans (hqc k hlt);have E:=xor_u8 (co p k) (mu y (co q k));have hsz:=hB.size;have HS:Hid (∀(v':Value) (w1:World),w1.ownsRow w.heap.size 5 1 v' (k+1) ((upto (clearL (co p) (co q) c) k).map vb++[co p k^^^mu y (co q k)].map vb)->w1.ownsRow w.heap.size 5 1 v' (k+1) ((upto (clearL (co p) (co q) c) (k+1)).map vb)):=fun v' w1 h=>by
    rw[hy.out]at h;rw[upto_vb_succ];exact h
   clear hpc hqc;go_wp2
   go_region_held3 (fun wx=>wx.cell? ⟨b1,o1+k,none⟩=some (.int .u8 ((co p k).toNat:Nat))/\wx.cell? ⟨b2,o2+k,none⟩=some (.int .u8 ((co q k).toNat:Nat))) (first|exact⟨k1,k2⟩|exact⟨cell_alloc k1 _,cell_alloc k2 _⟩|exact⟨cell_grown hg5 (cell_alloc k1 _) h3 (fun q hq=>(World.ownsRow.lt hown q hq).1),cell_grown hg5 (cell_alloc k2 _) h6 (fun q hq=>(World.ownsRow.lt hown q hq).1)⟩) (first|(go_at_call 146;refine(rmu3_at y (co q k) rfl rfl).mono ?_;rintro e w' ⟨rfl,rfl⟩)|(refine step_append_rd rfl (.tmp 29) (.tmp 41) 36 rfl w.heap.size 5 i0 Tryz.underlying36 hi hz0 hz1 hz2 u9 k _ rfl (World.ownsRow.alloc (World.ownsRow.drew hown) _) (.slice (some ⟨wr.heap.size,0,none⟩) 1 1) [co p k^^^mu y (co q k)] rfl (rd_lit _ rfl (by simp[vb,UInt8.toNat_xor]) Zd) Zm Zm ?_;intro v' w5 hv5 hg5))
   have HN:Hid _:=HS.out _ _ hv5;have HB:Hid (Below w.heap.size w w5):=((hB.alloc hsz _).drew).grown hg5 (by show w.heap.size<=(wr.alloc _).heap.size;simp;omega) (fun q hq=>(World.ownsRow.lt hown q hq).1);clear hv5 hg5 hB hown k1 k2 E HS;go_wp2;go_roundw
   case rel=>exact⟨k+1,Zo,Zg,HN.out,HB.out⟩
   case measure=>simp[intOf];omega
  ·have e:k=L:=by omega
   subst e;clear hpc hqc;go_wp2;go_ret;refine⟨_,rfl,?_,hB⟩;unfold OwnP;rw[upto_length];exact hown
def clr2(F:Mx)(c k:Nat):Mx:=fun i j=>if i=c then F c j else if i<k then clearL (F i) (F c) c j else F i j
theorem clr2_zero(F:Mx)(c:Nat):clr2 F c 0=F:=by
 funext i j;unfold clr2
 by_cases e:i=c
 ·rw[if_pos e,e]
 ·rw[if_neg e,if_neg (Nat.not_lt_zero _)]
theorem clr2_skip(F:Mx)(c:Nat):clr2 F c (c+1)=clr2 F c c:=by
 funext i j;unfold clr2
 by_cases e:i=c
 ·rw[if_pos e,if_pos e]
 ·rw[if_neg e,if_neg e]
  by_cases h:i<c
  ·rw[if_pos h,if_pos Zo]
  ·rw[if_neg h,if_neg Zo]
theorem clr2_other{F:Mx}{c k i:Nat}(hi:i≠k)(j:Nat):clr2 F c k i j=clr2 F c (k+1) i j:=by
 unfold clr2
 by_cases e:i=c
 ·rw[if_pos e,if_pos e]
 ·rw[if_neg e,if_neg e]
  by_cases h:i<k
  ·rw[if_pos h,if_pos Zo]
  ·rw[if_neg h,if_neg Zo]
theorem clr2_row{F:Mx}{c k:Nat}(hk:k≠c):clr2 F c k k=F k:=by
 funext j;unfold clr2;rw[if_neg hk,if_neg Zo]
theorem clr2_piv(F:Mx)(c k:Nat):clr2 F c k c=F c:=by
 funext j;unfold clr2;rw[if_pos rfl]
theorem clr2_new{F:Mx}{c k:Nat}(hk:k≠c)(j:Nat):clr2 F c (k+1) k j=clearL (F k) (F c) c j:=by
 unfold clr2;rw[if_neg hk,if_pos Zo]
theorem gj2_clear{n k:Nat}{A F:Mx}(h:GJ n A F (rt n F) k)(hk:k<n)(j:Nat)(hj:j<=n):GJ n A (clr2 F k j) (rt n (clr2 F k j)) k:=by
 induction j with
 |zero=>rw[clr2_zero];exact h
 |succ j ih=>
  have g:=ih Zo
  by_cases e:j=k
  ·subst e;rw[clr2_skip];exact g
  ·have key:∀i x,(if i=j then clr2 F k j i x^^^mu (mu (F j k) (iv (F k k))) (clr2 F k j k x)else clr2 F k j i x)=clr2 F k (j+1) i x:=by
    intro i x
    by_cases e2:i=j
    ·subst e2;rw[if_pos rfl,clr2_row e,clr2_piv,clr2_new e];rfl
    ·rw[if_neg e2,clr2_other e2]
   exact(g.clear (r:=j) (x:=mu (F j k) (iv (F k k))) Zo hk e).congr Zo (fun _ _ _ _=>rfl) (fun i x _ _=>key i x) (fun i x _ _=>key i (n+x))
theorem sw_self{l k:Nat}:sw l k k=l:=by
 unfold sw
 by_cases e:k=l
 ·rw[if_pos e];exact e
 ·rw[if_neg e,if_pos rfl]
theorem gj2_round{n k l:Nat}{A W:Mx}(h:GJ n A W (rt n W) k)(hkl:k<=l)(hl:l<n)(hp:W l k≠0):
  GJ n A (clr2 (fun i j=>W (sw l k i) j) k n) (rt n (clr2 (fun i j=>W (sw l k i) j) k n)) (k+1):=by
 have g1:GJ n A (fun i j=>W (sw l k i) j) (rt n (fun i j=>W (sw l k i) j)) k:=h.swap hkl hl;obtain⟨F,hF⟩:∃F:Mx,F=fun i j=>W (sw l k i) j:=⟨_,rfl⟩
 rw[<-hF]at g1 ⊢;have hpF:F k k≠0:=by rw[hF];show W (sw l k k) k≠0;rw[sw_self];exact hp
 refine(gj2_clear g1 Zo n (Nat.le_refl _)).next (fun i hi hik=>?_) (by rw[clr2_piv];exact hpF);unfold clr2 clearL;rw[if_neg hik,if_pos hi,mu_assoc,mu_comm (iv (F k k)) (F k k),mu_iv hpF,mu_one,x_self]
def wrow(n:Nat)(A:List UInt8)(k i:Nat):List UInt8:=if i<k then upto (wideF n A i) (n+n)else upto (fun j=>en n A i j) n
theorem wrow_step{n:Nat}{A:List UInt8}{k i:Nat}(h:i≠k):wrow n A (k+1) i=wrow n A k i:=by
 unfold wrow
 by_cases h2:i<k
 ·rw[if_pos h2,if_pos Zo]
 ·rw[if_neg h2,if_neg Zo]
theorem wrow_new(n:Nat)(A:List UInt8)(k:Nat):wrow n A (k+1) k=upto (fun j=>en n A k j) n++upto (fun j=>one k j) n:=by
 unfold wrow;rw[if_pos Zo,upto_add];congr 1
 ·exact upto_congr fun j hj=>if_pos hj
 ·refine upto_congr fun j hj=>?_
  show(if n+j<n then en n A k (n+j)else one k (n+j-n))=one k j
  rw[if_neg Zo,Nat.add_sub_cancel_left]
theorem wrow_old(n:Nat)(A:List UInt8)(k:Nat):wrow n A k k=upto (fun j=>en n A k j) n:=by unfold wrow;rw[if_neg Zo]
theorem wrow_zero(n:Nat)(A:List UInt8):wrow n A 0=fun i=>upto (fun j=>en n A i j) n:=by funext i;unfold wrow;rw[if_neg (Nat.not_lt_zero _)]
theorem RowsO.grid{w:World}{base u bt G n C:Nat}{vals:List Value}{A:List UInt8}(h:RowsO w base u (.slice (some ⟨G,0,none⟩) n C) vals (wrow n A n))(hv:w.ownsRow base bt 1 (.slice (some ⟨G,0,none⟩) n C) n vals):Grid w base bt G n C (n+n) (wideF n A):=by
 have hlen:vals.length=n:=by have:=hv.1;omega
 refine⟨vals,hv,fun i hi=>?_⟩;have hx:vals[i]? =some (vals[i]'Zo):=List.getElem?_eq_getElem Zo
 refine⟨_,hx,?_,fun a m c e=>?_⟩
 ·have:=Rd.owned (h.own i _ hx);unfold wrow at this;rw[if_pos hi]at this;exact this
 ·right
  rcases h.out i _ hx with h1|h1
  ·rw[e]at h1;cases h1
  ·rw[e]at h1;intro e2;exact h1 (by show some a.block=some G;rw[e2])
end Go.Proofs.YtddnfhfangfgeaaGreat.Gf
