/- JOINED: BkRd, FarL, BkEvM, BkMath, BkX, BkPut, BkLin, BkInf, BkRefA, BkCop, BkRefE, BkBeq, BkCA, BkCB, BkOne, BkCC, BkEn. -/
import Derived.Test.YtddnfhfangfgeaaGreatPome7
import Derived.Laws.BytesArg
set_option maxHeartbeats 4000000
set_option maxRecDepth 100000
namespace Go.Proofs.YtddnfhfangfgeaaGreat.Gf
set_option linter.unusedVariables false
set_option linter.unusedSimpArgs false
open Go.RowKit
def ro(L:List (List UInt8))(i:Nat):List UInt8:=L.getD i []
theorem ro_lt{L:List (List UInt8)}{i:Nat}(h:i<L.length):ro L i=L[i]:=by simp[ro,List.getD,h]
theorem ro_ge{L:List (List UInt8)}{i:Nat}(h:L.length<=i):ro L i=[]:=by simp[ro,List.getD,h]
theorem ro_some{L:List (List UInt8)}{i:Nat}(h:i<L.length):L[i]? =some (ro L i):=by rw[ro_lt h];exact List.getElem?_eq_getElem h
theorem ro_ext{L M:List (List UInt8)}(h:L.length=M.length)(h2:∀i,i<L.length->ro L i=ro M i):L=M:=by
 refine List.ext_getElem h fun i h1 h3=>?_
 have:=h2 i h1;rwa[ro_lt h1,ro_lt h3]at this
def mkL(n:Nat)(f:Nat->List UInt8):List (List UInt8):=(List.range n).map f
theorem mkL_length(n:Nat)(f:Nat->List UInt8):(mkL n f).length=n:=by simp[mkL]
theorem ro_mkL{n:Nat}{f:Nat->List UInt8}{i:Nat}(h:i<n):ro (mkL n f) i=f i:=by
 rw[ro_lt (by rw[mkL_length];exact h)];simp[mkL]
theorem mkL_ro(L:List (List UInt8)):mkL L.length (ro L)=L:=ro_ext (mkL_length _ _) fun i hi=>ro_mkL (by rwa[mkL_length]at hi)
theorem mkL_succ(n:Nat)(f:Nat->List UInt8):mkL (n+1) f=mkL n f++[f n]:=by simp[mkL,List.range_succ]
theorem mkL_congr{n:Nat}{f g:Nat->List UInt8}(h:∀i,i<n->f i=g i):mkL n f=mkL n g:=List.map_congr_left fun i hi=>h i (List.mem_range.1 hi)
theorem ro_append_left{L M:List (List UInt8)}{i:Nat}(h:i<L.length):ro (L++M) i=ro L i:=by simp[ro,List.getD,List.getElem?_append_left h]
theorem ro_append_right{L M:List (List UInt8)}{i:Nat}(h:L.length<=i):ro (L++M) i=ro M (i-L.length):=by simp[ro,List.getD,List.getElem?_append_right h]
theorem ro_take{L:List (List UInt8)}{k i:Nat}(h:i<k):ro (L.take k) i=ro L i:=by simp[ro,List.getD,List.getElem?_take_of_lt h]
theorem ro_set{L:List (List UInt8)}{k i:Nat}{x:List UInt8}(hk:k<L.length):ro (L.set k x) i=if i=k then x else ro L i:=by
 by_cases e:i=k
 ·subst e;rw[if_pos rfl];simp[ro,List.getD,List.getElem?_set_self hk]
 ·rw[if_neg e];simp[ro,List.getD,List.getElem?_set_ne (fun h=>e h.symm)]
def Rs(w:World)(v:Value)(L:List (List UInt8)):Prop:=
 ∃(a:Option Addr) (cap:Nat),v= .slice a L.length cap/\L.length<=cap/\cap<=maxLen/\(a=none->cap=0)/\
  ∀i,i<L.length->∃(b off:Nat) (x:Value),a=some ⟨b,off,none⟩/\b<w.heap.size/\w.cell? ⟨b,off+i,none⟩=some x/\Rd w x (ro L i)
theorem Rs.below{w w':World}{v:Value}{L:List (List UInt8)}(h:Rs w v L)(hb:Below w.heap.size w w'):Rs w' v L:=by
 obtain⟨a,cap,h1,h2,h3,h4,h5⟩:=h;refine⟨a,cap,h1,h2,h3,h4,fun i hi=>?_⟩;obtain⟨b,off,x,k1,k2,k3,k4⟩:=h5 i hi;exact⟨b,off,x,k1,Zu k2 hb.size,(hb.cell (p:=⟨b,off+i,none⟩) k2).trans k3,k4.below hb⟩
theorem Rs.form{w:World}{v:Value}{L:List (List UInt8)}(h:Rs w v L):∃a c,v= .slice a L.length c:=by
 obtain⟨a,c,e,_⟩:=h;exact⟨a,c,e⟩
theorem Rs.len{w:World}{v:Value}{L:List (List UInt8)}(h:Rs w v L):L.length<=maxLen:=by
 obtain⟨a,c,e,h1,h2,_⟩:=h;omega
theorem Rs.at{w:World}{a:Option Addr}{n c:Nat}{L:List (List UInt8)}(h:Rs w (.slice a n c) L){i:Nat}(hi:i<L.length):
  ∃(b off:Nat) (xa:Option Addr) (xc:Nat),a=some ⟨b,off,none⟩/\b<w.heap.size/\w.cell? ⟨b,off+i,none⟩=some (.slice xa (ro L i).length xc)/\Rd w (.slice xa (ro L i).length xc) (ro L i):=by
 obtain⟨a',c',e,h1,h2,h3,h4⟩:=h;simp at e;obtain⟨rfl,rfl,rfl⟩:=e;obtain⟨b,off,x,k1,k2,k3,k4⟩:=h4 i hi;obtain⟨xa,xc,rfl⟩:=k4.form;exact⟨b,off,xa,xc,k1,k2,k3,k4⟩
theorem Rs.get{w:World}{b off n c:Nat}{L:List (List UInt8)}(h:Rs w (.slice (some ⟨b,off,none⟩) n c) L){i:Nat}(hi:i<L.length):
  ∃(xa:Option Addr) (xc:Nat),w.cell? ⟨b,off+i,none⟩=some (.slice xa (ro L i).length xc)/\Rd w (.slice xa (ro L i).length xc) (ro L i):=by
 obtain⟨b',off',xa,xc,e,h1,h2,h3⟩:=h.at hi;simp at e;obtain⟨rfl,rfl⟩:=e;exact⟨xa,xc,h2,h3⟩
theorem Rs.somewhere{w:World}{v:Value}{L:List (List UInt8)}(h:Rs w v L)(hL:0<L.length):∃b off cap,v= .slice (some ⟨b,off,none⟩) L.length cap/\b<w.heap.size/\L.length<=cap/\cap<=maxLen:=by
 obtain⟨a,c,e,h1,h2,h3,h4⟩:=h;obtain⟨b,off,x,k1,k2,_⟩:=h4 0 hL;subst k1;exact⟨b,off,c,e,k2,h1,h2⟩
theorem Rd.byte{w:World}{a:Option Addr}{n c:Nat}{p:List UInt8}(h:Rd w (.slice a n c) p){i:Nat}(hi:i<p.length):∃b off,a=some ⟨b,off,none⟩/\b<w.heap.size/\w.cell? ⟨b,off+i,none⟩=some (.int .u8 ((co p i).toNat:Nat)):=by
 rcases h with⟨a',c',e,_⟩|⟨b,off,cap,_,e,_,_,k,hc⟩
 ·subst e;simp at hi
 ·simp at e;obtain⟨rfl,_⟩:=e;exact⟨b,off,rfl,k,hc i hi⟩
theorem rs_none{w:World}:Rs w (.slice none 0 0) []:=⟨none,0,rfl,Zr,Zz,fun _=>rfl,fun i hi=>by simp at hi⟩
theorem Rs.first{w:World}{b off n c k:Nat}{L:List (List UInt8)}(h:Rs w (.slice (some ⟨b,off,none⟩) n c) L)(hk:k<=L.length):Rs w (.slice (some ⟨b,off,none⟩) k c) (L.take k):=by
 obtain⟨a',c',e,h1,h2,h3,h4⟩:=h;simp at e;obtain⟨e1,e2,e3⟩:=e;subst e1 e3;have hl:(L.take k).length=k:=by rw[List.length_take];omega
 refine⟨some ⟨b,off,none⟩,c,by rw[hl],by rw[hl];omega,h2,nofun,fun i hi=>?_⟩;rw[hl]at hi;obtain⟨b',off',x,k1,k2,k3,k4⟩:=h4 i Zo;exact⟨b',off',x,k1,k2,k3,by rw[ro_take hi];exact k4⟩
def Os(w:World)(base T u:Nat)(v:Value)(L:List (List UInt8)):Prop:=∃vals,w.ownsRow base T 1 v L.length vals/\RowsO w base u v vals (ro L)
theorem Os.rs{w:World}{base T u:Nat}{v:Value}{L:List (List UInt8)}(h:Os w base T u v L):Rs w v L:=by
 obtain⟨vals,hv,hr⟩:=h;have hlen:vals.length=L.length:=by have:=hv.1;omega
 have hv':=hv;obtain⟨_,⟨e,hn⟩|⟨g,cap,cur,e,hg,hh,hc,hm,hs,ht⟩⟩:=hv
 ·subst e
  have:L=[]:=List.length_eq_zero_iff.1 hn
  subst this;exact rs_none
 ·subst e;refine⟨some ⟨g,0,none⟩,cap,rfl,hc,hm,nofun,fun i hi=>?_⟩;have hx:vals[i]? =some vals[i]:=List.getElem?_eq_getElem Zo
  refine⟨g,0,vals[i],rfl,(Array.getElem?_eq_some_iff.1 hh).1,?_,Rd.owned (hr.own i _ hx)⟩;rw[Nat.zero_add,World.ownsRow.cellAt hv' i Zo,hx]
theorem Os.nil(w:World)(base T u:Nat):Os w base T u (.slice none 0 0) []:=⟨[],World.ownsRow_nil _ _ _ _,RowsO.nil _ _ _ _ _⟩
theorem Os.later{w w':World}{base T u:Nat}{v:Value}{L:List (List UInt8)}(h:Os w base T u v L)(hb:Below w.heap.size w w'):Os w' base T u v L:=by
 obtain⟨vals,hv,hr⟩:=h;exact⟨vals,owns_later hv hb,⟨fun i x hx=>owns_later (hr.own i x hx) hb,hr.diff,hr.out⟩⟩
theorem Os.base{w:World}{base base' T u:Nat}{v:Value}{L:List (List UInt8)}(h:Os w base T u v L)(hb:base'<=base):Os w base' T u v L:=by
 obtain⟨vals,hv,hr⟩:=h;exact⟨vals,ownsRow_base hv hb,⟨fun i x hx=>ownsRow_base (hr.own i x hx) hb,hr.diff,hr.out⟩⟩
theorem co_at{p:List UInt8}{n j:Nat}{y:UInt8}(hn:n<p.length):co (p.set n y) j=if j=n then y else co p j:=by
 by_cases e:j=n
 ·subst e;rw[if_pos rfl];simp[co,List.getD,hn]
 ·rw[if_neg e];simp[co,List.getD,List.getElem?_set_ne (fun h=>e h.symm)]
theorem Os.push{wr w1 w2:World}{base T u:Nat}{v v' x:Value}{L:List (List UInt8)}{p:List UInt8}{o':Obj}{vals:List Value}(hv:wr.ownsRow base T 1 v L.length vals)(hr:RowsO wr base u v vals (ro L))(b1:Below wr.heap.size wr w1)(hx:OwnP w1 base u x p)(hb1:∀k,x.ownBlock=some k->wr.heap.size<=k)
  (g2:(w1.alloc o').grownBy w2 v.ownBlock) (hb2:v'.ownBlock=v.ownBlock∨v'.ownBlock=some (w1.alloc o').heap.size) (hv':w2.ownsRow base T 1 v' (L.length+1) (vals++[x])):Os w2 base T u v' (L++[p]):=by
 have hlen:vals.length=L.length:=by have:=hv.1;omega
 have vlt:∀k,v.ownBlock=some k->k<wr.heap.size:=fun k hk=>(Zv hv k hk).2
 have old:∀(i:Nat) (y:Value),vals[i]? =some y->∀k,y.ownBlock=some k->k<wr.heap.size:=fun i y hy k hk=>((hr.own i y hy).lt hk).2
 have xlt:∀k,x.ownBlock=some k->k<w1.heap.size:=fun k hk=>(hx.lt hk).2
 have s1:=b1.size;refine⟨vals++[x],by rw[List.length_append];exact hv',?_⟩;have at_end:∀i y,(vals++[x])[i]? =some y->(vals[i]? =some y/\i<vals.length)∨(i=vals.length/\y=x):=fun i y hy=>by
  by_cases hi:i<vals.length
  ·rw[List.getElem?_append_left hi]at hy;exact Or.inl ⟨hy,hi⟩
  ·rw[List.getElem?_append_right Zo]at hy
   have:i-vals.length=0:=by
    rcases Nat.eq_zero_or_pos (i-vals.length)with e|e
    ·exact e
    ·rw[List.getElem?_eq_none Zm]at hy;cases hy
   rw[this]at hy;simp at hy;exact Or.inr ⟨Zo,hy.symm⟩
 have keep:∀i y,vals[i]? =some y->OwnP w2 base u y (ro L i):=fun i y hy=>
  ((owns_later (hr.own i y hy) b1:OwnP w1 base u y (ro L i)).alloc o').kept g2 (hr.out i y hy)
 have xkeep:OwnP w2 base u x p:=(hx.alloc o').kept g2 (block_apart' hb1 vlt);have vout:∀y:Value,(∀k,y.ownBlock=some k->k<w1.heap.size)->(y.ownBlock=none∨y.ownBlock≠v.ownBlock)->(y.ownBlock=none∨y.ownBlock≠v'.ownBlock):=fun y hy ho=>by
  rcases hb2 with e|e
  ·rw[e];exact ho
  ·refine block_apart hy (fun k hk=>?_);rw[e]at hk;simp at hk;omega
 refine⟨fun i y hy=>?_,fun i j y z hy hz hij=>?_,fun i y hy=>?_⟩
 ·rcases at_end i y hy with⟨e,hi⟩|⟨rfl,rfl⟩
  ·rw[ro_append_left Zo];exact keep i y e
  ·rw[ro_append_right Zo,hlen,Nat.sub_self];exact xkeep
 ·rcases at_end i y hy with⟨e,_⟩|⟨rfl,rfl⟩
  ·rcases at_end j z hz with⟨e',_⟩|⟨rfl,rfl⟩
   ·exact hr.diff i j y z e e' hij
   ·exact block_apart (old i y e) hb1
  ·rcases at_end j z hz with⟨e',_⟩|⟨rfl,rfl⟩
   ·exact block_apart' hb1 (old j z e')
   ·exact absurd rfl hij
 ·rcases at_end i y hy with⟨e,_⟩|⟨rfl,rfl⟩
  ·exact vout y (fun k hk=>by have:=old i y e k hk;omega) (hr.out i y e)
  ·exact vout y xlt (block_apart' hb1 vlt)
theorem Os.form{w:World}{base T u:Nat}{v:Value}{L:List (List UInt8)}(h:Os w base T u v L):∃a c,v= .slice a L.length c:=h.rs.form
theorem wpList_append_os{P:Program}{wr w1:World}{ops:Array Oper}{rest:List Oper}{o:Oper}{a:Act}{Q:Exit->Act->World->Prop}(hgd:o.guard=none)(s xo:Operand)(t:TypeId)
  (ho:o.op= .call {callee:=.builtin .append,args:=#[s,xo],argTypes:=#[t,t]})
  (base e:Nat) (i:TypeInfo) (ht:P.underlying t=some (.slice e)) (hi:P.info? e=some i) (hz:i.zero=some (.slice none 0 0)) (hsize:i.size=1) (hby:i.bytes=24)
  (u:Nat) (v:Value) (L:List (List UInt8)) (hs:a.eval s=v) (hO:Os wr base e u v L) (b1:Below wr.heap.size wr w1) (x:Value) (p:List UInt8) (hx:OwnP w1 base u x p) (hb1:∀k,x.ownBlock=some k->wr.heap.size<=k)
  (et c:Nat) (hxo:a.eval xo= .slice (some ⟨w1.heap.size,0,none⟩) 1 c) (hl:L.length<=100000) (hbase:base<=wr.heap.size)
  (h:∀v' w2,Os w2 base e u v' (L++[p])->Below base wr w2->(∀q,q<w1.heap.size->v.ownBlock≠some q->w2.heap[q]? =w1.heap[q]?)->(∀q,q<w1.heap.size->v.ownBlock≠some q->v'.ownBlock≠some q)->wpList P ops Q rest (a.put o.dst v') w2):wpList P ops Q (o::rest) a (w1.alloc (.cells #[x] et)):=by
 obtain⟨vals,hv,hr⟩:=hO;have s1:=b1.size;refine wpList_append_one _ hgd s xo t ho base e i ht hi hz hsize hby v L.length vals hs (World.ownsRow.alloc (owns_later hv b1) _) w1.heap.size c x hxo Zs hx.one hl Zm ?_
 intro v' w2 hv2 hg2 hb2;refine h v' w2 (Os.push hv hr b1 hx hb1 hg2 hb2 hv2) ?_ (fun q hq hne=>?_) (fun q hq hne=>?_)
 rotate_left
 ·rw[hg2.block q Zm (fun e=>hne e.symm)];exact((Below.refl w1.heap.size w1).alloc Zr _).block q hq
 ·rcases hb2 with e|e
  ·rw[e];exact hne
  ·rw[e];intro h;cases h;simp at hq;omega
 exact(((b1.mono hbase).alloc Zo _).grown hg2 Zm (fun q hq=>(Zv hv q hq).1))
def MakesRs(w:World)(x:Int)(L:List (List UInt8))(e:Ending)(w':World):Prop:=∃v,e= .returned (.tuple #[v,.int .i64 x])/\Rs w' v L/\Below w.heap.size w w'
def Small(L:List (List UInt8)):Prop:=L.length<=300/\∀i,(ro L i).length<=300
def FarL(w:World)(base:Nat)(v:Value)(L:List (List UInt8)):Prop:=∃T u,Os w base T u v L
section
variable {w w':World} {base base':Nat} {v:Value} {L:List (List UInt8)}
theorem FarL.rs(h:FarL w base v L):Rs w v L:=by
 obtain⟨T,u,h⟩:=h;exact h.rs
theorem FarL.form(h:FarL w base v L):∃a c,v= .slice a L.length c:=h.rs.form
theorem FarL.later(h:FarL w base v L)(hb:Below w.heap.size w w'):FarL w' base v L:=by
 obtain⟨T,u,h⟩:=h;exact⟨T,u,h.later hb⟩
theorem FarL.rebase(h:FarL w base v L)(hb:base'<=base):FarL w base' v L:=by
 obtain⟨T,u,h⟩:=h;exact⟨T,u,h.base hb⟩
theorem FarL.nil(w:World)(base:Nat):FarL w base (.slice none 0 0) []:=⟨0,0,Os.nil _ _ _ _⟩
end
def MakesFar(w:World)(x:Int)(L:List (List UInt8))(e:Ending)(w':World):Prop:=∃v,e= .returned (.tuple #[v,.int .i64 x])/\FarL w' w.heap.size v L/\Below w.heap.size w w'
theorem MakesFar.rs{w w':World}{x:Int}{L:List (List UInt8)}{e:Ending}(h:MakesFar w x L e w'):MakesRs w x L e w':=by
 obtain⟨v,h1,h2,h3⟩:=h;exact⟨v,h1,h2.rs,h3⟩
def Even(L:List (List UInt8)):Prop:=∀i,i<L.length->(ro L i).length=(ro L 0).length
instance (L:List (List UInt8)):Decidable (Even L):=inferInstanceAs (Decidable (∀i,i<L.length->(ro L i).length=(ro L 0).length))
def alikeB(L:List (List UInt8))(n:Int):Bool:=decide ((L.length:Int)=n/\Even L)
theorem alikeB_true{L:List (List UInt8)}{n:Int}(h1:(L.length:Int)=n)(h2:Even L):alikeB L n=true:=Zy ⟨h1,h2⟩
theorem alikeB_false1{L:List (List UInt8)}{n:Int}(h1:¬(L.length:Int)=n):alikeB L n=false:=Zx fun h=>h1 h.1
theorem alikeB_false2{L:List (List UInt8)}{n:Int}(h1:¬Even L):alikeB L n=false:=Zx fun h=>h1 h.2
def wd(F:Mx)(L:List (List UInt8))(i j n:Nat):UInt8:=S j (fun l=>mu (F i l) (co (ro L l) n))
theorem wd_succ(F:Mx)(L:List (List UInt8))(i j n:Nat):wd F L i (j+1) n=wd F L i j n^^^mu (F i j) (co (ro L j) n):=rfl
def parR(k:Nat)(F:Mx)(L:List (List UInt8))(i:Nat):List UInt8:=upto (wd F L i k) (ro L 0).length
theorem parR_length(k:Nat)(F:Mx)(L:List (List UInt8))(i:Nat):(parR k F L i).length=(ro L 0).length:=upto_length _ _
def encL(m k:Nat)(F:Mx)(L:List (List UInt8)):List (List UInt8):=L++mkL m (parR k F L)
theorem encL_length(m k:Nat)(F:Mx)(L:List (List UInt8)):(encL m k F L).length=L.length+m:=by unfold encL;rw[List.length_append,mkL_length]
theorem upto_co(p:List UInt8):upto (co p) p.length=p:=co_ext (upto_length _ _) fun i hi=>by rw[upto_length]at hi;exact co_map_range _ hi
theorem co_upto_in{f:Nat->UInt8}{k i:Nat}(h:i<k):co (upto f k) i=f i:=co_map_range f h
instance (k m:Int):Decidable (OkC k m):=inferInstanceAs (Decidable (1<=k/\0<=m/\k+m<=256))
def encX(k m:Int)(L:List (List UInt8)):Int:=if OkC k m then (if (L.length:Int)=k/\Even L then 0 else 60)else 50
def encR(k m:Int)(L:List (List UInt8)):List (List UInt8):=if OkC k m/\(L.length:Int)=k/\Even L then encL m.toNat k.toNat (parF k.toNat) L else []
theorem encX_ok{k m:Nat}{L:List (List UInt8)}(h:OkC k m)(h2:(L.length:Int)=k)(h3:Even L):encX k m L=0/\encR k m L=encL m k (parF k) L:=⟨by unfold encX;rw[if_pos h,if_pos ⟨h2,h3⟩],if_pos ⟨h,h2,h3⟩⟩
theorem Only.grown{g:Nat}{w w':World}(O:Only g w w'):w.grownBy w' (some g):=
 ⟨O.os,O.tape,O.output,by rw[O.size];exact Zr,fun q _ hq=>O.block q (fun e=>hq (by rw[e]))⟩
theorem Os.blank{w:World}{base T u G n:Nat}{cs:List Value}(hv:w.ownsRow base T 1 (.slice (some ⟨G,0,none⟩) n n) n cs)(hc:∀y∈cs,y= .slice none 0 0):Os w base T u (.slice (some ⟨G,0,none⟩) n n) (mkL n (fun _=>[])):=by
 have hl:cs.length=n:=by have:=hv.1;omega
 refine⟨cs,by rw[mkL_length];exact hv,⟨fun i x hx=>?_,fun i j x y hx _ _=>?_,fun i x hx=>?_⟩⟩
 ·have hi:i<n:=by
   rcases Nat.lt_or_ge i cs.length with h|h
   ·omega
   ·rw[List.getElem?_eq_none h]at hx;cases hx
  rw[ro_mkL hi,hc x (List.mem_of_getElem? hx)];exact World.ownsRow_nil _ _ _ _
 ·left;rw[hc x (List.mem_of_getElem? hx)];rfl
 ·left;rw[hc x (List.mem_of_getElem? hx)];rfl
theorem L_ext{L M:List (List UInt8)}(h:L.length=M.length)(h1:∀i,i<L.length->(ro L i).length=(ro M i).length)(h2:∀i n,i<L.length->n<(ro L i).length->co (ro L i) n=co (ro M i) n):L=M:=
 ro_ext h fun i hi=>co_ext (h1 i hi) fun n hn=>h2 i n hi hn
theorem enc_row_lt{m k:Nat}{F:Mx}{L:List (List UInt8)}{i:Nat}(h:i<L.length):ro (encL m k F L) i=ro L i:=ro_append_left h
theorem enc_row_ge{m k:Nat}{F:Mx}{L:List (List UInt8)}{i:Nat}(h:i<m):ro (encL m k F L) (L.length+i)=parR k F L i:=by
 unfold encL;rw[ro_append_right Zo,show L.length+i-L.length=i by omega,ro_mkL h]
theorem enc_row_ge'{m k:Nat}{F:Mx}{L:List (List UInt8)}{i:Nat}(h:L.length<=i)(h2:i<L.length+m):ro (encL m k F L) i=parR k F L (i-L.length):=by
 have:=enc_row_ge (m:=m) (k:=k) (F:=F) (L:=L) (i:=i-L.length) Zo;rwa[show L.length+(i-L.length)=i by omega]at this
theorem enc_len{m k:Nat}{F:Mx}{L:List (List UInt8)}(hE:Even L){i:Nat}(h:i<L.length+m):(ro (encL m k F L) i).length=(ro L 0).length:=by
 by_cases e:i<L.length
 ·rw[enc_row_lt e];exact hE i e
 ·rw[enc_row_ge' Zo h,parR_length]
theorem info_shard:(Tryz.prog.info? 36).map (fun i=>(i.zero,i.size,i.bytes))=some (some (.slice none 0 0),1,24):=Zk
theorem take_next{M:List (List UInt8)}{k:Nat}(h:k<M.length):M.take (k+1)=M.take k++[ro M k]:=by
 rw[List.take_add_one,ro_some h];rfl
theorem alike_any{v:Value}{L:List (List UInt8)}{w:World}(h:Rs w v L){x:Int}:Calls Tryz.prog 100 #[v,.int .i64 x] w fun e w'=>e= .returned (.bool (alikeB L x))/\∃n,w'=w.drewN n:=by
 obtain⟨a,c,rfl⟩:=h.form;have hl:=h.len;unfold maxLen at hl
 by_cases hx:(L.length:Int)=x
 ·have hb:((L.length:Int)!=x)=false:=by simp[hx]
  go_enter Tryz.func100,Tryz.ntmps100
  go_wp2;clear hb
  go_loopw [5] (fun i wr=>∃k:Nat,1<=k/\k<=L.length+1/\i= .int .i64 k/\Hid (∀j,j<k->j<L.length->(ro L j).length=(ro L 0).length)/\∃n,wr=w.drewN n) (fun i _=>L.length+1-(intOf i).toNat)
  case atStart=>exact⟨1,Zo,Zo,rfl,fun j hj hj2=>by rw[show j=0 by omega],0,rfl⟩
  case round=>
   obtain⟨k,hk1,hk,rfl,hs,nd,rfl⟩:=hrel
   by_cases hlt:k<L.length
   ·obtain⟨b,off,xa,xc,rfl,hb,c1,r1⟩:=h.at hlt;obtain⟨ya,yc,c0,r0⟩:=h.get (i:=0) Zo;rw[Nat.add_zero]at c0;have hlt':(k:Int)<(L.length:Int):=by omega
    have h0':(0:Int)<(L.length:Int):=Zo
    by_cases e:(ro L k).length=(ro L 0).length
    ·have hn:(((ro L k).length:Int)!=((ro L 0).length:Int))=false:=by simp[e]
     have HS:Hid (∀j,j<k+1->j<L.length->(ro L j).length=(ro L 0).length):=fun j hj hj2=>by
      by_cases e2:j=k
      ·rw[e2];exact e
      ·exact hs.out j Zo hj2
     clear e hs h r1 r0;go_wp2
     go_quiet (fail)
     go_wp2;go_roundw
     case rel=>exact⟨k+1,Zo,Zo,Zg,HS,_,rfl⟩
     case measure=>simp[intOf];omega
    ·have hn:(((ro L k).length:Int)!=((ro L 0).length:Int))=true:=by simp;omega
     have E:Hid (alikeB L x=false):=alikeB_false2 fun h=>e (h k hlt)
     clear e hs h r1 r0;go_wp2
     go_quiet (fail)
     go_wp2;go_ret;exact⟨by rw[E.out];rfl,_,World.drewN_drewN _ _ _⟩
   ·have E:Hid (alikeB L x=true):=alikeB_true hx fun i hi=>hs.out i Zo hi
    have hge:¬(k:Int)<(L.length:Int):=Zo
    clear hs h;go_wp2;go_ret;exact⟨by rw[E.out];rfl,_,rfl⟩
 ·have hb:((L.length:Int)!=x)=true:=by simp[hx]
  have E:Hid (alikeB L x=false):=alikeB_false1 hx;clear h hx
  go_enter Tryz.func100,Tryz.ntmps100
  go_wp2;go_ret;exact⟨by rw[E.out];rfl,0,rfl⟩
theorem rcop_any{v:Value}{L:List (List UInt8)}{w:World}(h:Rs w v L)(hS:Small L):Calls Tryz.prog 101 #[v] w fun e w'=>∃v',e= .returned v'/\Os w' w.heap.size 36 5 v' L/\Below w.heap.size w w':=by
 obtain⟨i0,hi,hz0,hz1,hz2⟩:=info_parts info_u8;obtain⟨i1,hj,hy0,hy1,hy2⟩:=info_parts info_shard;obtain⟨a,c,rfl⟩:=h.form;have hl:=hS.1
 go_enter Tryz.func101,Tryz.ntmps101
 go_wp2
 go_loopw [3,4] (fun o i wr=>∃k:Nat,k<=L.length/\i= .int .i64 k/\Os wr w.heap.size 36 5 o (L.take k)/\Below w.heap.size w wr) (fun _ i _=>L.length-(intOf i).toNat)
 case atStart=>exact⟨0,Zo,rfl,Os.nil _ _ _ _,Zf⟩
 case round=>
  obtain⟨k,hk,rfl,hO,hB⟩:=hrel;have hsz:=hB.size
  by_cases hlt:k<L.length
  ·obtain⟨b,off,xa,xc,rfl,hb,c1,r1⟩:=(h.below hB).at hlt;have hlt':(k:Int)<(L.length:Int):=by omega
   have hln:=hS.2 k;obtain⟨p,hp⟩:∃p,Hid (p=ro L k):=⟨_,rfl⟩;have HT:Hid (L.take (k+1)=L.take k++[p]):=by show _=_;rw[hp.out];exact take_next hlt
   have HL:Hid ((L.take k).length=k):=by show _=_;rw[List.length_take];omega
   rw[<-hp.out]at c1 r1 hln;obtain⟨av,cv,ev⟩:=hO.form;rw[HL.out]at ev;subst ev;have hE:(wr.alloc (.cells #[] 5)).ownsRow w.heap.size 5 1 (.slice (some ⟨wr.heap.size,0,none⟩) 0 0) 0 []:=World.ownsRow_made wr #[] 0 hsz Zz rfl;have hA1:Below wr.heap.size wr (wr.alloc (.cells #[] 5)):=Zf.alloc Zr _;have HR2:Hid _:=r1.below hA1;clear h hS r1 hp
   go_wp2_with (first
    |(at_builtin;refine wpList_append_rd2 _ rfl (.tmp 12) (.tmp 16) 36 rfl w.heap.size 5 i0 Tryz.underlying36 hi hz0 hz1 hz2 (.slice (some ⟨wr.heap.size,0,none⟩) 0 0) 0 [] rfl hE _ _ rfl HR2.out Zo Zm ?_;intro x w5 hx5 hg5 hb5;rw[List.nil_append,Nat.zero_add]at hx5;obtain⟨ax,cx,ex⟩:=owns_form hx5;subst ex)
    |(at_builtin;go_loud (refine wpList_append_os rfl (.tmp 11) (.tmp 18) 106 rfl w.heap.size 36 i1 Tryz.underlying106 hj hy0 hy1 hy2 5 (.slice av k cv) (L.take k) rfl hO (hA1.trans (by exact Zf.grown hg5 Zs (fun q hq=>by cases hq;exact Zr))) (.slice ax p.length cx) p hx5 (by intro q hq;rcases hb5 with e|e<;>(rw[e]at hq;cases hq;simp)) _ 1 rfl (by rw[HL.out];omega) hsz ?_);intro v' w6 hv6 hb6 _ _))
   rw[<-HT.out]at hv6;have HB:Hid (Below w.heap.size w w6):=hB.trans hb6;have HO:Hid (Os w6 w.heap.size 36 5 v' (L.take (k+1))):=hv6;clear hB hb6 hv6 hO hx5 hg5 hb5 hE HR2 hA1 c1;go_roundw
   case rel=>exact⟨k+1,Zo,Zg,HO.out,HB.out⟩
   case measure=>simp[intOf];omega
  ·have e:k=L.length:=by omega
   have hge:¬(k:Int)<(L.length:Int):=Zo
   rw[e,List.take_length]at hO;clear h hS e;go_wp2;go_ret;exact⟨_,rfl,hO,hB⟩
theorem rmu6_at{w:World}(a b:UInt8){x y:Int}(hx:x=((a.toNat:Nat):Int))(hy:y=((b.toNat:Nat):Int)):
  Calls Tryz.prog 146 #[.int .u8 x,.int .u8 y] w fun e w'=>e= .returned (.int .u8 ((mu a b).toNat:Nat))/\w'=w:=by
 rw[mu_toNat];exact rmul_at a.toNat b.toNat hx hy (u8_lt a) (u8_lt b)
theorem word_any{w:World}{vs v:Value}{L:List (List UInt8)}(m k i n:Nat)(F:Mx)(hA:Rd w vs (flat m k F))(hm:m<=256)(hk:k<=256)(hi:i<m)(h:Rs w v L)(hL:L.length=k)(hn:∀j,j<k->n<(ro L j).length)(hn2:n<=300){x y z t:Int}(hx:x=(m:Int))(hy:y=(k:Int))(hz:z=(i:Int))(ht:t=(n:Int)):
  Calls Tryz.prog 102 #[.agg #[.int .i64 x,.int .i64 y,vs],.int .i64 z,v,.int .i64 t] w fun e w'=>e= .returned (.int .u8 ((wd F L i k n).toNat:Nat))/\Below w.heap.size w w':=by
 subst hx hy hz ht;obtain⟨da,dc,rfl⟩:=h.form;have hLh:Hid (L.length=k):=hL;rw[hL]at h ⊢;clear hL;obtain⟨N,hN⟩:∃N,Hid (N=(flat m k F).length):=⟨_,rfl⟩;obtain⟨va,vc,rfl⟩:=hA.form;rw[<-hN.out]at hA ⊢;have hNm:Hid (N=m*k):=by show _=_;rw[hN.out,flat_length]
 have B0:Below w.heap.size w (w.alloc (.cells #[.int .i64 (m:Int),.int .i64 (k:Int),.slice va N vc] 148)):=Zf.alloc Zr _;have X0:=Box.new w (m:Int) (k:Int) (.slice va N vc) 148;have h0:=h.below B0;have hA0:=hA.below B0;have hn':Hid _:=hn;clear h hA hn hN
 go_enter Tryz.func102,Tryz.ntmps102
 go_wp2;generalize w.alloc (.cells #[.int .i64 (m:Int),.int .i64 (k:Int),.slice va N vc] 148)=w1 at*;have x1:=X0.c1;have x2:=X0.c2
 go_loopw [9,10] (fun o c wr=>∃j:Nat,j<=k/\c= .int .i64 j/\o= .int .u8 ((wd F L i j n).toNat:Nat)/\∃nd,wr=w1.drewN nd) (fun _ c _=>k-(intOf c).toNat)
 case atStart=>exact⟨0,Zo,rfl,rfl,0,rfl⟩
 case round=>
  obtain⟨j,hj,rfl,rfl,nd,hd0⟩:=hrel
  by_cases hlt:j<k
  ·have hlt':(j:Int)<(k:Int):=by omega
   obtain⟨db,doff,xa,xc,eda,hdb,cj,rj⟩:=h0.at (i:=j) (by rw[hLh.out];exact hlt);subst eda;have hnj:=hn'.out j hlt;have hnj':(n:Int)<((ro L j).length:Int):=Zo
   obtain⟨xb,xo,exa,hxb,dj⟩:=rj.byte hnj;subst exa;obtain⟨T,hT⟩:∃T,Hid (T=i*k+j):=⟨_,rfl⟩;have hTN:T<N:=by rw[hT.out,hNm.out];exact place_lt hi hlt
   have hNs:N<=65536:=by rw[hNm.out];exact mul_small hm hk
   obtain⟨o',ho'⟩:∃o',Hid (o'=i*k):=⟨_,rfl⟩;have hoT:o'+j=T:=by rw[ho'.out,hT.out]
   have v0:(i:Int)*(k:Int)=(o':Int):=by rw[ho'.out];exact_mod_cast rfl
   have v3:(o':Int)+(j:Int)=(T:Int):=Zo
   have v1:IntKind.i64.wrap (o':Int)=(o':Int):=Zw
   have v2:IntKind.i64.wrap (T:Int)=(T:Int):=Zw
   obtain⟨ab,ao,eva,hab,ca⟩:=hA0.byte (i:=T) (by rw[flat_length,<-hNm.out];exact hTN);have eT:co (flat m k F) T=F i j:=by rw[hT.out];exact en_flat F hi hlt
   rw[eT]at ca;subst eva;have hTN':(T:Int)<(N:Int):=Zo
   have E:=xor_u8 (wd F L i j n) (mu (F i j) (co (ro L j) n));have HE:Hid (((wd F L i j n).toNat^^^(mu (F i j) (co (ro L j) n)).toNat:Nat)=(wd F L i (j+1) n).toNat):=by show _=_;rw[wd_succ,UInt8.toNat_xor]
   have hd:Hid (wr=w1.drewN nd):=hd0;have y1:wr.cell? ⟨w.heap.size,1,none⟩=some (.int .i64 (k:Int)):=by rw[hd0];exact x1
   have y2:wr.cell? ⟨w.heap.size,2,none⟩=some (.slice (some ⟨ab,ao,none⟩) N vc):=by rw[hd0];exact x2
   have cj2:wr.cell? ⟨db,doff+j,none⟩=some (.slice (some ⟨xb,xo,none⟩) (ro L j).length xc):=by rw[hd0];exact cj
   have dj2:wr.cell? ⟨xb,xo+n,none⟩=some (.int .u8 ((co (ro L j) n).toNat:Nat)):=by rw[hd0];exact dj
   have ca2:wr.cell? ⟨ab,ao+T,none⟩=some (.int .u8 ((F i j).toNat:Nat)):=by rw[hd0];exact ca
   clear hd0 hoT eT cj dj ca rj x1 x2 h0 hA0 X0 hn';go_wp2
   go_quiet ((go_at_call 146;go_loud (exact Calls.quiet_of_same (rmu6_at (F i j) (co (ro L j) n) rfl rfl))))
   go_wp2;go_roundw
   case rel=>exact⟨j+1,Zo,Zg,by rw[HE.out],_,by show _=_;rw[hd.out,World.drewN_drewN]⟩
   case measure=>simp[intOf];omega
  ·have hge:¬(j:Int)<(k:Int):=by omega
   have ej:j=k:=Zo
   subst ej;have HB:Hid (Below w.heap.size w wr):=by rw[hd0];exact B0.drewN nd
   clear hd0 h0 hA0 X0 x1 x2 hn';go_wp2;go_ret;exact⟨rfl,HB.out⟩
theorem renc_far{k m:Nat}{v:Value}{L:List (List UInt8)}{w:World}(h1:1<=k)(h2:k+m<=256)(h:Rs w v L)(hL:L.length=k)(hE:Even L)(hS:Small L){x y:Int}(hx:x=(k:Int))(hy:y=(m:Int)):
  Calls Tryz.prog 66 #[.int .i64 x,.int .i64 y,v] w (MakesFar w 0 (encL m k (parF k) L)):=by
 subst hx hy;obtain⟨i0,hi,hz0,hz1,hz2⟩:=info_parts info_u8;obtain⟨i1,hj,hy0,hy1,hy2⟩:=info_parts info_shard;have hAl:Hid (alikeB L (k:Int)=true):=alikeB_true Zo hE;obtain⟨db,doff,dc,rfl,hdb,hdc,hdm⟩:=h.somewhere Zo;have hLh:Hid (L.length=k):=hL;rw[hL]at h ⊢;clear hL;obtain⟨F,hFF⟩:∃F,Hid (F=parF k):=⟨_,rfl⟩;rw[<-hFF.out]
 go_enter Tryz.func66,Tryz.ntmps66
 go_wp2_with fail
 refine(rpar_ok _ h1 h2 rfl rfl).mono ?_
 rintro e w2 ⟨vs,rfl,hR,b2⟩;rw[<-hFF.out]at hR;obtain⟨N,hN⟩:∃N,Hid (N=(flat m k F).length):=⟨_,rfl⟩;obtain⟨va,vc,rfl⟩:=hR.form;rw[<-hN.out]at hR ⊢;have A2:Below w2.heap.size w2 (w2.alloc (.cells #[.int .i64 (m:Int),.int .i64 (k:Int),.slice va N vc] 148)):=Zf.alloc Zr _;have B2:Below w.heap.size w (w2.alloc (.cells #[.int .i64 (m:Int),.int .i64 (k:Int),.slice va N vc] 148)):=below_lit b2 _;have X2:=Box.new w2 (m:Int) (k:Int) (.slice va N vc) 148;have hl2:w2.heap.size<(w2.alloc (.cells #[.int .i64 (m:Int),.int .i64 (k:Int),.slice va N vc] 148)).heap.size:=Zs
 have hR2:=hR.below A2;have hD2:=h.below B2;clear hR b2 A2 h
 go_wp2_with fail
 refine(alike_any hD2).mono ?_
 rintro e w3 ⟨rfl,nd,hd⟩;rw[hAl.out];have b3:Below (w2.alloc (.cells #[.int .i64 (m:Int),.int .i64 (k:Int),.slice va N vc] 148)).heap.size (w2.alloc (.cells #[.int .i64 (m:Int),.int .i64 (k:Int),.slice va N vc] 148)) w3:=by rw[hd];exact Zf.drewN nd
 clear hd hAl;generalize w2.alloc (.cells #[.int .i64 (m:Int),.int .i64 (k:Int),.slice va N vc] 148)=w1 at*;replace X2:=X2.below hl2 b3;replace hl2:=Zu hl2 b3.size;replace hR2:=hR2.below b3;replace hD2:=hD2.below b3;replace B2:=Below.next B2 b3;clear b3
 go_wp2_with fail
 refine(rcop_any hD2 hS).mono ?_
 rintro e w4 ⟨vo,rfl,hO4,b4⟩;obtain⟨B,hBB⟩:∃B,Hid (B=w3.heap.size):=⟨_,rfl⟩;rw[<-hBB.out]at hO4 b4 hl2;have HX:Hid (∀wr,Below B w3 wr->Box wr w2.heap.size (m:Int) (k:Int) (.slice va N vc)):=fun wr hb=>X2.below hl2 hb
 have HD:Hid (∀wr,Below B w3 wr->Rs wr (.slice (some ⟨db,doff,none⟩) k dc) L):=fun wr hb=>hD2.below (by rw[<-hBB.out];exact hb)
 have HA:Hid (∀wr,Below B w3 wr->Rd wr (.slice va N vc) (flat m k F)):=fun wr hb=>hR2.below (by rw[<-hBB.out];exact hb)
 have hdB:db<B:=by
  obtain⟨b',off',xa,xc,e,h,_⟩:=hD2.at (i:=0) (by rw[hLh.out];omega);simp at e;rw[hBB.out,e.1];exact h
 have hsB:Hid (w.heap.size<=B):=by rw[hBB.out];exact B2.size
 have HB2:Hid _:=B2;have hSk:Hid (∀i,(ro L i).length<=300):=hS.2;have hEv:Hid (Even L):=hE;have HO4:Hid (Os w4 B 36 5 vo L):=hO4;have HB4:Hid (Below B w3 w4):=b4;clear X2 hD2 hR2 hS hE hO4 b4 B2 hN;go_wp2
 go_loopw [11,12] (fun o i wr=>∃r:Nat,r<=m/\i= .int .i64 r/\Os wr B 36 5 o (L++mkL r (parR k F L))/\Below B w3 wr) (fun _ i _=>m-(intOf i).toNat)
 case atStart=>exact⟨0,Zo,rfl,by simpa[mkL]using HO4.out,HB4.out⟩
 case round=>
  obtain⟨r,hr,rfl,hO,hB⟩:=hrel;clear HO4 HB4;obtain⟨wo,hwo⟩:∃wo,wo=wr:=⟨_,rfl⟩;subst hwo;have hszr:B<=wo.heap.size:=by rw[hBB.out];exact hB.size
  by_cases hlt:r<m
  ·have hlt':(r:Int)<(m:Int):=by omega
   have HLen:Hid ((L++mkL r (parR k F L)).length=k+r):=by show _=_;rw[List.length_append,mkL_length,hLh.out]
   obtain⟨av,cv,ev⟩:=hO.form;rw[HLen.out]at ev;subst ev;have hO':Hid _:=hO;have hB':Hid _:=hB;obtain⟨n0,hn0⟩:∃n0,Hid (n0=(ro L 0).length):=⟨_,rfl⟩;have hn03:n0<=300:=by rw[hn0.out];exact hSk.out 0
   clear hO hB;go_wp2
   go_loopw [13,14] (fun s i w8=>∃t:Nat,t<=n0/\i= .int .i64 t/\w8.ownsRow wo.heap.size 5 1 s t ((upto (wd F L r k) t).map vb)/\Below wo.heap.size wo w8) (fun _ i _=>n0-(intOf i).toNat)
   case atStart=>exact⟨0,Zo,rfl,World.ownsRow_nil _ _ _ _,Zf⟩
   case round=>
    obtain⟨t,ht,rfl,hs,b8⟩:=hrel;obtain⟨w8,hw8⟩:∃w8,w8=wr:=⟨_,rfl⟩;subst hw8;have hB8:Below B w3 w8:=hB'.out.trans (b8.mono hszr);have hs8:wo.heap.size<=w8.heap.size:=b8.size;obtain⟨ya,yc,c0,r0⟩:=(HD.out _ hB8).get (i:=0) (by rw[hLh.out];omega);rw[Nat.add_zero,<-hn0.out]at c0;have h0k:(0:Int)<(k:Int):=Zo
    obtain⟨sa,sc,es⟩:=owns_form hs;subst es;clear r0
    by_cases hlt3:t<n0
    ·have hlt3':(t:Int)<(n0:Int):=by omega
     have X8:=HX.out _ hB8;have x0:=X8.c0;have x1:=X8.c1;have x2:=X8.c2;have HW:=word_any (n:=t) m k r F (HA.out _ hB8) Zo Zo hlt (HD.out _ hB8) hLh.out (fun j hj=>by rw[hEv.out j (by rw[hLh.out];exact hj),<-hn0.out];exact hlt3) Zo rfl rfl rfl rfl;have hs':Hid _:=hs;have b8':Hid _:=b8;clear hs b8 X8 hB8
     go_wp2_with fail
     refine HW.mono ?_
     rintro e w9 ⟨rfl,b9⟩;have hs9:=owns_later hs'.out b9;have B9:Hid (Below wo.heap.size wo w9):=Below.next b8'.out b9;have hs9':wo.heap.size<=w9.heap.size:=B9.out.size;clear HW hs' b8' b9 x0 x1 x2 c0
     go_wp2_with (at_builtin;go_loud (refine wpList_append_rd2 _ rfl (.tmp 44) (.tmp 50) 36 rfl wo.heap.size 5 i0 Tryz.underlying36 hi hz0 hz1 hz2 (.slice sa t sc) t _ rfl (World.ownsRow.alloc hs9 _) _ [wd F L r k t] rfl (rd_lit (n:=1) [wd F L r k t] rfl rfl Zd) Zm Zm ?_);intro x' w10 hx10 hg10 hb10)
     have HN:Hid (w10.ownsRow wo.heap.size 5 1 x' (t+1) ((upto (wd F L r k) (t+1)).map vb)):=(by rw[upto_vb_succ];exact hx10:w10.ownsRow wo.heap.size 5 1 x' (t+1) ((upto (wd F L r k) (t+1)).map vb));have HB10:Hid (Below wo.heap.size wo w10):=(B9.out.alloc hs9' _).grown hg10 Zm (fun q hq=>(Zv hs9 q hq).1);clear hx10 hg10 hb10 hs9 B9;go_roundw
     case rel=>exact⟨t+1,Zo,Zg,HN.out,HB10.out⟩
     case measure=>simp[intOf];omega
    ·have hge3:¬(t:Int)<(n0:Int):=by omega
     have et:t=n0:=Zo
     have hx8:OwnP w8 B 5 (.slice sa t sc) (parR k F L r):=by
      unfold OwnP parR;rw[upto_length,<-hn0.out,<-et];exact ownsRow_base hs hszr
     have hb1:∀q,(Value.slice sa t sc).ownBlock=some q->wo.heap.size<=q:=fun q hq=>(Zv hs q hq).1
     clear hs et
     go_wp2_with (at_builtin;go_loud (refine wpList_append_os rfl (.tmp 52) (.tmp 54) 106 rfl B 36 i1 Tryz.underlying106 hj hy0 hy1 hy2 5 (.slice av (k+r) cv) (L++mkL r (parR k F L)) rfl hO'.out b8 (.slice sa t sc) (parR k F L r) hx8 hb1 _ 1 rfl (by rw[HLen.out];omega) hszr ?_);intro v' w9 hv9 hb9 _ _)
     have HOn:Hid (Os w9 B 36 5 v' (L++mkL (r+1) (parR k F L))):=by
      show Os _ _ _ _ _ _
      rw[mkL_succ,<-List.append_assoc];exact hv9
     have HBn:Hid (Below B w3 w9):=hB'.out.trans hb9;clear hv9 hb9 hx8 hb1 hB8 b8 hO' hB' c0;go_wp2;go_roundw
     case rel=>exact⟨r+1,Zo,Zg,HOn.out,HBn.out⟩
     case measure=>simp[intOf];omega
  ·have hge:¬(r:Int)<(m:Int):=by omega
   have er:r=m:=Zo
   rw[er]at hO;have HR:Hid (FarL wo w.heap.size u11 (encL m k F L)):=⟨_,_,hO.base hsB.out⟩;have HBn:Hid (Below w.heap.size w wo):=Below.trans HB2.out (hB.mono hsB.out);obtain⟨ra,rc,ev⟩:=hO.form;subst ev;clear hO hB er;go_wp2;exact bodyPost_ret (v:=.tuple #[.slice ra (L++mkL m (parR k F L)).length rc,.int .i64 0]) (by simp[results,Tryz.results66,go_sem]) rfl ⟨_,rfl,HR.out,HBn.out⟩
theorem renc_ok{k m:Nat}{v:Value}{L:List (List UInt8)}{w:World}(h1:1<=k)(h2:k+m<=256)(h:Rs w v L)(hL:L.length=k)(hE:Even L)(hS:Small L){x y:Int}(hx:x=(k:Int))(hy:y=(m:Int)):
  Calls Tryz.prog 66 #[.int .i64 x,.int .i64 y,v] w (MakesRs w 0 (encL m k (parF k) L)):=
 (renc_far h1 h2 h hL hE hS hx hy).mono fun _ _ h=>h.rs
theorem conv_str{w:World}{v:Value}{p:List UInt8}(h:Rd w v p):Sem.run Tryz.prog (convert 36 9 v) w= .ok (.string ⟨p.toArray⟩) w:=by
 rcases h with⟨a,c,rfl,rfl,_⟩|⟨b,off,cap,hp0,rfl,h1,h2,h3,hpc⟩
 ·rcases a with _|a
  ·kernel_rfl
  ·kernel_rfl
 ·rw[run_convert_bytes_arg (P:=Tryz.prog) w 36 5 Tryz.underlying36 Tryz.underlying5 b off p.length cap (p.map fun x=>((x.toNat:Nat):Int)) Zs (fun i hi=>by rw[hpc i hi,co_lt hi];simp[List.getD,hi]) 9 Tryz.underlying9];unfold strOfNums;congr 4;rw[List.map_map]
  conv=>rhs;rw[<-List.map_id p]
  apply List.map_congr_left;intro b _;simp
theorem beq_any{va vb:Value}{p q:List UInt8}{w:World}(hp:Rd w va p)(hq:Rd w vb q):Calls Tryz.prog 190 #[va,vb] w fun e w'=>e= .returned (.bool (sameB p q))/\w'=w:=by
 have h1:=conv_str hp;have h2:=conv_str hq;obtain⟨a,c,rfl⟩:=hp.form;obtain⟨a',c',rfl⟩:=hq.form;clear hp hq
 go_enter Tryz.func190,Tryz.ntmps190
 go_wp2;go_ret;have e:(p==q)=sameB p q:=by unfold sameB;rw[Bool.eq_iff_iff];simp
 exact⟨congrArg (fun b=>Ending.returned (.bool b)) e,rfl⟩
def addR(f:Nat->UInt8)(a:UInt8)(q:List UInt8)(k:Nat)(t:Nat):UInt8:=if t<k then f t^^^mu a (co q t)else f t
theorem addR_zero(f:Nat->UInt8)(a:UInt8)(q:List UInt8):addR f a q 0=f:=by funext t;exact if_neg Zo
theorem addR_step(f:Nat->UInt8)(a:UInt8)(q:List UInt8)(k t:Nat):addR f a q (k+1) t=if t=k then f k^^^mu a (co q k)else addR f a q k t:=by
 unfold addR
 by_cases e:t=k
 ·subst e;rw[if_pos Zo,if_pos rfl]
 ·rw[if_neg e]
  by_cases h:t<k
  ·rw[if_pos h,if_pos Zo]
  ·rw[if_neg h,if_neg Zo]
theorem add1_any{w:World}{base u g n c b fb:Nat}{f:Nat->UInt8}{vq:Value}{q:List UInt8}(a:UInt8)(hF:FieldAt w b)(hbg:b≠g)(cf:w.cell? ⟨fb,0,none⟩=some (.pointer (some ⟨b,0,none⟩)))(hfg:fb≠g)(hfl:fb<w.heap.size)
  (hR:RowF w base u g n c f) (hq:Rd w vq q) (hap:Apart g vq) (hn:q.length=n) (hL:n<=1000000) {y:Int} (hy:y=((a.toNat:Nat):Int)):
  Calls Tryz.prog 187 #[.slice (some ⟨g,0,none⟩) n c,.int .u8 y,vq,.pointer (some ⟨fb,0,none⟩)] w fun e w'=>e= .returned (.tuple #[])/\Only g w w'/\RowF w' base u g n c (addR f a q n):=by
 subst hy;obtain⟨qa,qc,rfl⟩:=hq.form;rw[hn]
 go_enter Tryz.func187,Tryz.ntmps187
 go_wp2
 go_loopw [11] (fun i wr=>∃k:Nat,k<=n/\i= .int .i64 k/\Only g w wr/\RowF wr base u g n c (addR f a q k)) (fun i _=>n-(intOf i).toNat)
 case atStart=>exact⟨0,Zo,rfl,Only.refl _ _,by rw[addR_zero];exact hR⟩
 case round=>
  obtain⟨k,hk,rfl,hO,hRk⟩:=hrel
  by_cases hlt:k<n
  ·have hq2:=hq.only hap hO;rw[hn]at hq2;obtain⟨qb,qo,rfl,_,ct⟩:=hq2.byte (i:=k) Zo;have c1:=hRk.cell hlt;have f1:=hRk.unfrozen k;have cf2:=(hO.cell (p:=⟨fb,0,none⟩) hfg).trans cf;have e1:addR f a q k k=f k:=if_neg Zo;rw[e1]at c1;have E:=xor_u8 (f k) (mu a (co q k));have HN:Hid (RowF (wr.setCell ⟨g,k,none⟩ (.int .u8 (((f k).toNat^^^(mu a (co q k)).toNat:Nat):Int))) base u g n c (addR f a q (k+1))):=by
    rw[<-UInt8.toNat_xor];exact hRk.store hlt _ fun s=>addR_step _ _ _ _ _
   have HO:Hid (Only g w (wr.setCell ⟨g,k,none⟩ (.int .u8 (((f k).toNat^^^(mu a (co q k)).toNat:Nat):Int)))):=hO.setCell k _;have hFr:=hF.only hbg hO;have hlt':(k:Int)<(n:Int):=Zo
   clear hRk hO hR e1 hq hap hn hq2 hF cf;go_wp2
   go_region_with ((go_at_call 188;refine(fmu_quiet (hFr.drewN _) a (co q k) rfl rfl).mono ?_;rintro e w' ⟨rfl,d,rfl⟩))
   all_goals go_wp2
   all_goals
    go_roundw
    case rel=>exact⟨k+1,Zo,Zg,HO.out.drewN _,HN.out.drewN _⟩
    case measure=>simp[intOf];omega
  ·have e:k=n:=by omega
   subst e;have hge:¬(k:Int)<(k:Int):=Zo
   clear hq;go_wp2
   go_end0
   exact⟨rfl,hO,hRk⟩
theorem add0_any{b:Nat}(w:World):Calls Tryz.prog 162 #[.pointer (some ⟨b,0,none⟩)] w fun e w'=>∃fb,e= .returned (.func (.func 187) #[] #[.pointer (some ⟨fb,0,none⟩)])/\w'.cell? ⟨fb,0,none⟩=some (.pointer (some ⟨b,0,none⟩))/\w.heap.size<=fb/\fb<w'.heap.size/\Below w.heap.size w w':=by
 go_enter Tryz.func162,Tryz.ntmps162
 go_wp2;go_ret;exact⟨_,rfl,Zs,Zo,Zs,Zf.alloc Zr _⟩
theorem run_copy_rd{P:Program}{w:World}(dT sT ty:TypeId)(elem:TypeId)(hu:P.underlying dT=some (.slice elem))(hsz:(P.info? elem).map (·.size)=some 1)
  {g off n dl dCap:Nat} {va:Value} {p:List UInt8} {base e L:Nat} {f:Nat->UInt8} (hr:Rd w va p) (hn:p.length=n) (hdl:n<=dl) (hR:RowF w base e g L L f) (hl:off+n<=L):
  ∃w',Sem.run P (Builtin.copy_ #[dT,sT] ty #[.slice (some ⟨g,off,none⟩) dl dCap,va]) w= .ok (goInt n) w'/\Only g w w'/\RowF w' base e g L L (putAt f off n (co p)):=by
 subst hn;obtain⟨hg,hm⟩:=hR.heap rfl;have hlt:=hR.lt
 rcases hr with⟨ao,cap,rfl,rfl,_⟩|⟨b,so,cap,hp0,rfl,h1,h2,h3,hpc⟩
 ·have hrun:=run_copy_none (P:=P) w dT sT ty elem (some ⟨g,off,none⟩) ao dl dCap 0 cap hu hsz (Nat.zero_min _);exact⟨w,hrun,Only.refl _ _,by rw[List.length_nil,putAt_zero];exact hR⟩
 ·have hrun:=run_copy_row (P:=P) w dT sT ty elem g off dl dCap ⟨b,so,none⟩ p.length cap ((upto f L).map vb).toArray e (p.map vb) hu hsz hg (by rw[List.length_map];exact(Nat.min_eq_left hdl).symm) (by have:=news_of (k:=p.length) hpc;rwa[List.take_length]at this) (by simp[upto_length];exact hl) (vb_one p);refine⟨_,by simpa using hrun,only_setRow _ _ _,RowF.of_heap hlt.1 hm ?_⟩;rw[<-splice_upto hl];simpa[splice]using setRow_heap w g _ _ e _ hg
theorem cop_any{v:Value}{p:List UInt8}{w:World}(hp:Rd w v p)(hl:p.length<=100000):Calls Tryz.prog 161 #[v] w fun e w'=>∃g,e= .returned (.slice (some ⟨g,0,none⟩) p.length p.length)/\w.heap.size<=g/\RowF w' w.heap.size 5 g p.length p.length (co p)/\Below w.heap.size w w':=by
 obtain⟨i0,hi,hz0,hz1,hz2⟩:=info_parts info_u8;obtain⟨qa,qc,rfl⟩:=hp.form;obtain⟨n,hn⟩:∃n,Hid (n=p.length):=⟨_,rfl⟩;rw[<-hn.out]at hl hp ⊢
 go_enter Tryz.func161,Tryz.ntmps161
 go_wp2_with (at_make;go_loud (refine wpList_make_full _ rfl (.tmp 5) (.tmp 5) 36 rfl w.heap.size 5 i0 (.int .u8 0) 1 Tryz.underlying36 hi hz0 hz1 _ _ _ _ n rfl rfl Zo Zo (by rw[hz2];omega) Zl Zs ?_);intro w1 hown1 hgrow1;have R1:=RowF.made hown1;clear hown1)
 have b1:Below w.heap.size w w1:=Zf.grown hgrow1 Zr (fun k hk=>by cases hk);clear hgrow1;have hg1:=R1.lt;generalize hgg:w.heap.size=g at*;obtain⟨w2,hrun,hO,hR⟩:=run_copy_rd (P:=Tryz.prog) 36 36 3 5 Tryz.underlying36 (by rw[hi];simp[hz1]) (hp.below (by rw[hgg];exact b1)) hn.out.symm (Nat.le_refl n) R1 (off:=0) (dCap:=n) Zo;rw[hrun];have HR:Hid (RowF w2 g 5 g n n (co p)):=hR.congr fun t ht=>by unfold putAt;rw[if_pos Zo,Nat.sub_zero]
 have HO:Hid (Only g w1 w2):=hO;clear hR hO R1 hp hrun;go_wp2;go_ret;subst hgg;exact⟨_,rfl,Zr,HR.out,b1.trans (HO.out.below Zr)⟩
theorem OwnP.row{w:World}{base base' u g:Nat}{p:List UInt8}(h:RowF w base u g p.length p.length (co p))(hb:base'<=base):OwnP w base' u (.slice (some ⟨g,0,none⟩) p.length p.length) p:=by
 have:=h.base hb;unfold RowF at this;rw[upto_co]at this;exact this
theorem OwnP.rowF{w:World}{base u g n:Nat}{f:Nat->UInt8}(h:RowF w base u g n n f):OwnP w base u (.slice (some ⟨g,0,none⟩) n n) (upto f n):=by
 unfold OwnP;rw[upto_length];exact h
theorem encd_far{w:World}{b:Nat}{vs v:Value}{L:List (List UInt8)}(m k:Nat)(F:Mx)(hF:FieldAt w b)(hA:Rd w vs (flat m k F))(h1:1<=k)(h2:k+m<=256)(h:Rs w v L)(hL:L.length=k)(hE:Even L)(hS:Small L){x y:Int}(hx:x=(m:Int))(hy:y=(k:Int)):
  Calls Tryz.prog 130 #[.pointer (some ⟨b,0,none⟩),.agg #[.int .i64 x,.int .i64 y,vs],v] w fun e w'=>∃v',e= .returned v'/\FarL w' w.heap.size v' (encL m k F L)/\Below w.heap.size w w':=by
 subst hx hy;obtain⟨i0,hi,hz0,hz1,hz2⟩:=info_parts info_u8;obtain⟨i1,hj,hy0,hy1,hy2⟩:=info_parts info_shard;obtain⟨db,doff,dc,rfl,hdb,hdc,hdm⟩:=h.somewhere Zo;have hLh:Hid (L.length=k):=hL;rw[hL]at h ⊢;clear hL;obtain⟨N,hN⟩:∃N,Hid (N=(flat m k F).length):=⟨_,rfl⟩;obtain⟨va,vc,rfl⟩:=hA.form;rw[<-hN.out]at hA ⊢;have hNm:Hid (N=m*k):=by show _=_;rw[hN.out,flat_length]
 have B0:Below w.heap.size w (w.alloc (.cells #[.int .i64 (m:Int),.int .i64 (k:Int),.slice va N vc] 148)):=Zf.alloc Zr _;have X0:=Box.new w (m:Int) (k:Int) (.slice va N vc) 148;have s0:(w.alloc (.cells #[.int .i64 (m:Int),.int .i64 (k:Int),.slice va N vc] 148)).heap.size=w.heap.size+1:=Zs
 have gk:(k:Int)+(m:Int)=((k+m:Nat):Int):=Zo
 have gw:IntKind.i64.wrap ((k+m:Nat):Int)=((k+m:Nat):Int):=Zw
 obtain⟨K,hK⟩:∃K,Hid (K=k+m):=⟨_,rfl⟩;have hK2:K<=256:=by have:=hK.out;omega
 rw[<-hK.out]at gk gw
 go_enter Tryz.func130,Tryz.ntmps130
 go_wp2_with (at_make;go_loud (refine wpList_make_own _ rfl _ (.tmp 19) 106 rfl (w.alloc (.cells #[.int .i64 (m:Int),.int .i64 (k:Int),.slice va N vc] 148)).heap.size 36 i1 (.slice none 0 0) 1 Tryz.underlying106 hj hy0 hy1 _ _ _ K rfl rfl rfl (by rw[hy2];omega) Zl Zr ?_);intro w1 hown1 hgrow1)
 generalize w.alloc (.cells #[.int .i64 (m:Int),.int .i64 (k:Int),.slice va N vc] 148)=w0 at*;have HO1:Hid (Os w1 w0.heap.size 36 5 (.slice (some ⟨w0.heap.size,0,none⟩) 0 K) []):=⟨[],hown1,RowsO.nil _ _ _ _ _⟩;have HB1:Hid (Below w0.heap.size w0 w1):=Zf.grown hgrow1 Zr (fun q hq=>by cases hq);clear hown1 hgrow1;obtain⟨B,hBB⟩:∃B,Hid (B=w0.heap.size):=⟨_,rfl⟩;have hsB:w.heap.size<B:=by rw[hBB.out];omega
 rw[<-hBB.out]at HO1;rw[<-s0,<-hBB.out];have h0:=h.below B0;have hA0:=hA.below B0;have hF0:=hF.below B0;rw[<-hBB.out]at HB1;have X1:∀wr,Below B w0 wr->Box wr w.heap.size (m:Int) (k:Int) (.slice va N vc):=fun wr hb=>X0.below hsB hb
 have D1:∀wr,Below B w0 wr->Rs wr (.slice (some ⟨db,doff,none⟩) k dc) L:=fun wr hb=>h0.below (by rw[<-hBB.out];exact hb)
 have A1:∀wr,Below B w0 wr->Rd wr (.slice va N vc) (flat m k F):=fun wr hb=>hA0.below (by rw[<-hBB.out];exact hb)
 have F1:∀wr,Below B w0 wr->FieldAt wr b:=fun wr hb=>hF0.below (by rw[<-hBB.out];exact hb)
 have HX:Hid _:=X1;have HD:Hid _:=D1;have HA:Hid _:=A1;have HF:Hid _:=F1;have HB0:Hid (Below w.heap.size w w0):=B0;have hbB:b<B:=by have:=hF.lt;omega
 have hdB:db<B:=Zo
 have hsz:B<=w1.heap.size:=by rw[hBB.out];exact HB1.out.size
 clear X1 D1 A1 F1 h0 hA0 hF0 h hA hF X0 B0 s0;have hS1:=hS.1;have hSk:Hid (∀i,(ro L i).length<=300):=hS.2;have hEv:Hid (Even L):=hE;clear hS hE hN;go_wp2
 go_loopw [7,23] (fun o i wr=>∃c:Nat,c<=k/\i= .int .i64 c/\Os wr B 36 5 o (L.take c)/\Below B w0 wr) (fun _ i _=>k-(intOf i).toNat)
 case atStart=>exact⟨0,Zo,rfl,HO1.out,HB1.out⟩
 case round=>
  obtain⟨c,hc,rfl,hO,hB⟩:=hrel;clear HO1 HB1;have hszr:B<=wr.heap.size:=by rw[hBB.out];exact hB.size
  by_cases hlt:c<k
  ·have hlL:c<L.length:=by rw[hLh.out];exact hlt
   obtain⟨xa,xc,c1,r1⟩:=(HD.out _ hB).get hlL;have hlt':(c:Int)<(k:Int):=Zo
   have hln:=hSk.out c;obtain⟨p,hp⟩:∃p,Hid (p=ro L c):=⟨_,rfl⟩;have HT:Hid (L.take (c+1)=L.take c++[p]):=by show _=_;rw[hp.out];exact take_next hlL
   have HL:Hid ((L.take c).length=c):=by show _=_;rw[List.length_take];omega
   rw[<-hp.out]at c1 r1 hln;obtain⟨av,cv,ev⟩:=hO.form;rw[HL.out]at ev;subst ev;have hdw:db<wr.heap.size:=Zo
   clear hp
   go_wp2_with fail
   refine(cop_any r1 Zo).mono ?_
   rintro e w5 ⟨g,rfl,hg,hR,b5⟩
   go_wp2_with (at_builtin;go_loud (refine wpList_append_os rfl (.tmp 27) (.tmp 30) 106 rfl B 36 i1 Tryz.underlying106 hj hy0 hy1 hy2 5 (.slice av c cv) (L.take c) rfl hO b5 (.slice (some ⟨g,0,none⟩) p.length p.length) p (OwnP.row hR hszr) (by intro q hq;cases hq;exact hg) _ 1 rfl (by rw[HL.out];omega) hszr ?_);intro v' w6 hv6 hb6 _ _)
   rw[<-HT.out]at hv6;have HBn:Hid (Below B w0 w6):=hB.trans hb6;have HOn:Hid (Os w6 B 36 5 v' (L.take (c+1))):=hv6;clear hB hb6 hv6 hO hR b5 c1 r1;go_roundw
   case rel=>exact⟨c+1,Zo,Zg,HOn.out,HBn.out⟩
   case measure=>simp[intOf];omega
  ·have hge:¬(c:Int)<(k:Int):=by omega
   have e:L.take c=L:=by rw[show c=L.length by rw[hLh.out];omega,List.take_length]
   rw[e]at hO;clear e
   go_wp2_with fail
   refine(add0_any _).mono ?_
   rintro e w6 ⟨fb,rfl,cf,hfb,hfl,b6⟩;have hO6:=hO.later b6;have hB6:Below B w0 w6:=hB.trans (b6.mono hszr);have ho6:Hid (u7.ownBlock≠some fb):=by
    obtain⟨vals,hv,_⟩:=hO;intro e;have:=(Zv hv _ e).2;omega
   clear hO hB b6;have x0:=(HX.out _ hB6).c0;go_wp2;clear x0
   go_loopw [7,37] (fun o i wr=>∃r:Nat,r<=m/\i= .int .i64 r/\Os wr B 36 5 o (L++mkL r (parR k F L))/\Below B w0 wr/\wr.cell? ⟨fb,0,none⟩=some (.pointer (some ⟨b,0,none⟩))/\fb<wr.heap.size/\o.ownBlock≠some fb) (fun _ i _=>m-(intOf i).toNat)
   case atStart=>exact⟨0,Zo,rfl,by simpa[mkL]using hO6,hB6,cf,hfl,ho6.out⟩
   case round=>
    clear hO6 hB6 cf hfl ho6 hszr hfb;obtain⟨r,hr,rfl,hO,hB,cf,hfl,hof⟩:=hrel;obtain⟨wo,hwo⟩:∃wo,wo=wr:=⟨_,rfl⟩;subst hwo;have hszr:B<=wo.heap.size:=by rw[hBB.out];exact hB.size
    by_cases hlt2:r<m
    ·have hlt2':(r:Int)<(m:Int):=by omega
     have h0L:0<L.length:=by rw[hLh.out];omega
     obtain⟨ya,yc,c0,r0⟩:=(HD.out _ hB).get h0L;rw[Nat.add_zero]at c0;obtain⟨n,hn⟩:∃n,Hid (n=(ro L 0).length):=⟨_,rfl⟩;have hn3:n<=300:=by rw[hn.out];exact hSk.out 0
     rw[<-hn.out]at c0 r0;have h0k:(0:Int)<(k:Int):=Zo
     have hdw:db<wo.heap.size:=Zo
     have hbw:b<wo.heap.size:=Zo
     have hBg:B<=wo.heap.size:=hszr;have HLen:Hid ((L++mkL r (parR k F L)).length=k+r):=by show _=_;rw[List.length_append,mkL_length,hLh.out]
     obtain⟨av,cv,ev⟩:=hO.form;rw[HLen.out]at ev;subst ev;clear r0
     go_wp2_with (at_make;go_loud (refine wpList_make_full _ rfl (.tmp 43) (.tmp 43) 36 rfl B 5 i0 (.int .u8 0) 1 Tryz.underlying36 hi hz0 hz1 _ _ _ _ n rfl rfl Zo Zo (by rw[hz2];omega) Zl hszr ?_);intro w7 hown7 hgrow7)
     have R7:=RowF.made hown7;have b7:Below wo.heap.size wo w7:=Zf.grown hgrow7 Zr (fun q hq=>by cases hq);clear hown7 hgrow7 c0;obtain⟨g,hg⟩:∃g,Hid (g=wo.heap.size):=⟨_,rfl⟩;rw[<-hg.out]at R7;rw[<-hg.out];have hgB:B<=g:=by rw[hg.out];exact hszr
     have hgr:wo.heap.size<=g:=by rw[hg.out];exact Zr
     have hbg:b≠g:=Zo
     have hfg:fb≠g:=by have:=hg.out;omega
     have cf7:=(b7.cell (p:=⟨fb,0,none⟩) hfl).trans cf;have hfl7:fb<w7.heap.size:=Zu hfl b7.size;have hB7:Below B w0 w7:=hB.trans (b7.mono hszr);have HW:Hid (∀j,j<k->∃xa xc,wo.cell? ⟨db,doff+j,none⟩=some (.slice xa (ro L j).length xc)/\Rd wo (.slice xa (ro L j).length xc) (ro L j)):=fun j hj=>(HD.out _ hB).get (by rw[hLh.out];exact hj)
     have hO':Hid _:=hO;clear hO
     go_loopw [47] (fun i w8=>∃j:Nat,j<=k/\i= .int .i64 j/\Only g w7 w8/\RowF w8 B 5 g n n (wd F L r j)) (fun i _=>k-(intOf i).toNat)
     case atStart=>exact⟨0,Zo,rfl,Only.refl _ _,R7⟩
     case round=>
      obtain⟨w8,hw8⟩:∃w8,w8=wr:=⟨_,rfl⟩;subst hw8;clear R7;obtain⟨j,hj2,rfl,hO8,R8⟩:=hrel;have hB8:Below B w0 w8:=hB7.trans (hO8.below hgB);have b8:Below wo.heap.size wo w8:=b7.trans (hO8.below hgr)
      by_cases hlt3:j<k
      ·have hlt3':(j:Int)<(k:Int):=by omega
       obtain⟨xa,xc,cj,rj⟩:=HW.out j hlt3;have hap:Apart g (.slice xa (ro L j).length xc):=rj.apart hgr;have cj8:=(b8.cell (p:=⟨db,doff+j,none⟩) hdw).trans cj;have rj8:=rj.below b8;have X8:=HX.out _ hB8;have x1:=X8.c1;have x2:=X8.c2;obtain⟨T,hT⟩:∃T,Hid (T=r*k+j):=⟨_,rfl⟩;have hTN:T<N:=by rw[hT.out,hNm.out];exact place_lt hlt2 hlt3
       have hNs:N<=65536:=by rw[hNm.out];exact mul_small Zo Zo
       obtain⟨o',ho'⟩:∃o',Hid (o'=r*k):=⟨_,rfl⟩;have hoT:o'+j=T:=by rw[ho'.out,hT.out]
       have g1:(r:Int)*(k:Int)=(o':Int):=by rw[ho'.out];exact_mod_cast rfl
       have g2:(o':Int)+(j:Int)=(T:Int):=Zo
       have v1:IntKind.i64.wrap (o':Int)=(o':Int):=Zw
       have v2:IntKind.i64.wrap (T:Int)=(T:Int):=Zw
       obtain⟨ab,ao,eva,hab,ca⟩:=(HA.out _ hB8).byte (i:=T) (by rw[flat_length,<-hNm.out];exact hTN);have eT:co (flat m k F) T=F r j:=by rw[hT.out];exact en_flat F hlt2 hlt3
       rw[eT]at ca;subst eva;have hTN':(T:Int)<(N:Int):=Zo
       have hlen:(ro L j).length=n:=by rw[hn.out];exact hEv.out j (by rw[hLh.out];exact hlt3)
       rw[hlen]at cj8 rj8 hap;have hF8:=HF.out _ hB8;have cf8:=(hO8.cell (p:=⟨fb,0,none⟩) hfg).trans cf7;have hfl8:fb<w8.heap.size:=by rw[hO8.size];exact hfl7
       have hlen':Hid _:=hlen;have hO8':Hid _:=hO8;have R8':Hid _:=R8;clear hlen cj rj X8 hB8 b8 eT hoT cf7 cf hO8 R8
       go_wp2_with fail
       refine(add1_any (F r j) hF8 hbg cf8 hfg hfl8 R8'.out rj8 hap hlen'.out Zo rfl).mono ?_
       rintro e w9 ⟨rfl,hO9,hR9⟩;have HN1:Hid (RowF w9 B 5 g n n (wd F L r (j+1))):=hR9.congr fun t ht=>by rw[wd_succ];exact if_pos ht
       have HN2:Hid (Only g w7 w9):=hO8'.out.trans hO9;clear hO9 hR9 hF8 rj8 hap cj8 ca x1 x2 cf8 hfl8 hO8' R8';go_wp2;go_roundw
       case rel=>exact⟨j+1,Zo,Zg,HN2.out,HN1.out⟩
       case measure=>simp[intOf];omega
      ·have hge3:¬(j:Int)<(k:Int):=by omega
       have ej:j=k:=Zo
       rw[ej]at R8;clear ej;have hx8:=OwnP.rowF R8;have eP:upto (wd F L r k) n=parR k F L r:=by rw[hn.out];rfl
       rw[eP]at hx8;have cf8:=(hO8.cell (p:=⟨fb,0,none⟩) hfg).trans cf7;have hfl8:fb<w8.heap.size:=by rw[hO8.size];exact hfl7
       have hS8:wo.heap.size<w8.heap.size:=by have:=R8.lt.2;omega
       clear R8 cf7 cf eP
       go_wp2_with (at_builtin;go_loud (refine wpList_append_os rfl (.tmp 67) (.tmp 69) 106 rfl B 36 i1 Tryz.underlying106 hj hy0 hy1 hy2 5 (.slice av (k+r) cv) (L++mkL r (parR k F L)) rfl hO'.out b8 (.slice (some ⟨g,0,none⟩) n n) (parR k F L r) hx8 (by intro q hq;cases hq;exact hgr) _ 1 rfl (by rw[HLen.out];omega) hszr ?_);intro v' w9 hv9 hb9 hq9 hf9)
       have HOn:Hid (Os w9 B 36 5 v' (L++mkL (r+1) (parR k F L))):=by
        show Os _ _ _ _ _ _
        rw[mkL_succ,<-List.append_assoc];exact hv9
       have HBn:Hid (Below B w0 w9):=hB.trans hb9;have HCn:Hid (w9.cell? ⟨fb,0,none⟩=some (.pointer (some ⟨b,0,none⟩))):=(Zc (w:=w8) (a:=⟨fb,0,none⟩) (hq9 fb hfl8 hof)).trans cf8;have HFn:Hid (v'.ownBlock≠some fb):=hf9 fb hfl8 hof;have HLn:Hid (fb<w9.heap.size):=Zu hfl hb9.size;clear hv9 hb9 hq9 hf9 hx8 cf8 hfl8 hB8 b8 hO8 hB hB7 b7 hO' hof;go_wp2;go_roundw
       case rel=>exact⟨r+1,Zo,Zg,HOn.out,HBn.out,HCn.out,HLn.out,HFn.out⟩
       case measure=>simp[intOf];omega
    ·have hge2:¬(r:Int)<(m:Int):=by omega
     have er:r=m:=Zo
     rw[er]at hO;have HR:Hid (FarL wo w.heap.size u7 (encL m k F L)):=⟨_,_,hO.base Zo⟩;have HBn:Hid (Below w.heap.size w wo):=HB0.out.trans (hB.mono Zo);clear hO hB cf hof er;go_wp2;go_ret;exact⟨_,rfl,HR.out,HBn.out⟩
def fl(L:List (List UInt8)):Int:=if L.length=0 then-1 else (((ro L 0).length:Nat):Int)
theorem fl_pos{L:List (List UInt8)}(h:0<L.length):fl L=(((ro L 0).length:Nat):Int):=if_neg Zo
theorem even_nil:Even []:=fun i hi=>by simp at hi
theorem Even.push{L:List (List UInt8)}{p:List UInt8}(h:Even L)(hp:0<L.length->p.length=(ro L 0).length):Even (L++[p]):=by
 intro i hi;rw[List.length_append]at hi;simp at hi
 by_cases h0:L.length=0
 ·have:L=[]:=List.length_eq_zero_iff.1 h0
  subst this;rw[show i=0 by simp at hi;omega]
 ·rw[ro_append_left (i:=0) Zo]
  by_cases e:i<L.length
  ·rw[ro_append_left e];exact h i e
  ·rw[ro_append_right Zo,show i-L.length=0 by omega];exact hp Zo
theorem fl_push{L:List (List UInt8)}{p:List UInt8}:fl (L++[p])=if L.length=0 then ((p.length:Nat):Int)else fl L:=by
 rw[fl_pos Zs]
 by_cases h0:L.length=0
 ·rw[if_pos h0]
  have:L=[]:=List.length_eq_zero_iff.1 h0
  subst this;rfl
 ·rw[if_neg h0,ro_append_left Zo,fl_pos Zo]
theorem Even.left{L M:List (List UInt8)}(h:Even (L++M)):Even L:=fun i hi=>by
 have:=h i (by rw[List.length_append];omega);rwa[ro_append_left hi,ro_append_left Zo]at this
theorem take_push{M:List (List UInt8)}{k:Nat}(h:k<M.length):M.take (k+1)=M.take k++[ro M k]:=by
 rw[List.take_add_one,ro_some h];rfl
theorem not_even{L M:List (List UInt8)}{k:Nat}(hk:k<M.length)(h0:0<(L++M.take k).length)(hne:(ro M k).length≠(ro (L++M.take k) 0).length):¬Even (L++M):=by
 intro h;have h1:=h (L.length+k) (by rw[List.length_append];omega);rw[ro_append_right Zo,show L.length+k-L.length=k by omega]at h1;apply hne;rw[h1]
 have:L++M=(L++M.take k)++M.drop k:=by rw[List.append_assoc,List.take_append_drop]
 rw[this,ro_append_left h0]
def ahead(A B:List (List UInt8))(c:Nat):List (List UInt8):=if c=0 then []else if c=1 then A else A++B
def nth(A B:List (List UInt8))(c:Nat):List (List UInt8):=if c=0 then A else B
theorem ahead_step{A B:List (List UInt8)}{c:Nat}(h:c<2):ahead A B c++nth A B c=ahead A B (c+1):=by
 rcases c with _|_|c
 ·rfl
 ·rfl
 ·omega
theorem ahead_all{A B:List (List UInt8)}{c:Nat}(h:c<2)(hE:Even (A++B)):Even (ahead A B c++nth A B c):=by
 rw[ahead_step h]
 rcases c with _|_|c
 ·exact hE.left
 ·exact hE
 ·omega
theorem z8_1{p:Prop} (h:p:=by
 go_wp2
 go_round
 case rel=>exact⟨k+1,Zo,Zg,rfl,by rw[e2.out],e3⟩
 case measure=>simp[intOf];omega
 ):p:=h
theorem one_any{v0 v1:Value}{A B:List (List UInt8)}{w:World}{g:Nat}(hA:Rs w v0 A)(hB:Rs w v1 B)(k0:w.cell? ⟨g,0,none⟩=some v0)(k1:w.cell? ⟨g,1,none⟩=some v1):
  Calls Tryz.prog 160 #[.slice (some ⟨g,0,none⟩) 2 2] w fun e w'=>e= .returned (.bool (decide (Even (A++B))))/\w'=w:=by
 have hN:Hid (∀c,c<2->∃a n,n=(nth A B c).length/\∃cap,w.cell? ⟨g,c,none⟩=some (.slice a n cap)/\Rs w (.slice a n cap) (nth A B c)):=by
  intro c hc
  rcases c with _|_|c
  ·obtain⟨a,cap,rfl⟩:=hA.form;exact⟨a,_,rfl,cap,k0,hA⟩
  ·obtain⟨a,cap,rfl⟩:=hB.form;exact⟨a,_,rfl,cap,k1,hB⟩
  ·omega
 clear hA hB k0 k1
 go_enter Tryz.func160,Tryz.ntmps160
 go_wp2;go_step3;go_wp2;go_step3;go_wp2
 go_loop [3,4,11] (fun x s i=>∃c:Nat,c<=2/\i= .int .i64 c/\s= .bool true/\x= .int .i64 (fl (ahead A B c))/\Hid (Even (ahead A B c))) (fun _ _ i=>2-(intOf i).toNat)
 case atStart=>exact⟨0,Zo,rfl,rfl,rfl,even_nil⟩
 case round=>
  obtain⟨c,hc,rfl,rfl,rfl,hE⟩:=hrel
  by_cases hlt:c<2
  ·obtain⟨a,n,hn,cap,kc,hM⟩:=hN.out c hlt;obtain⟨M,hMM⟩:∃M,Hid (M=nth A B c):=⟨_,rfl⟩;obtain⟨J,hJ⟩:∃J,Hid (J=ahead A B c):=⟨_,rfl⟩;rw[<-hMM.out]at hM hn;rw[<-hJ.out]at hE ⊢;subst hn;have hml:=hM.len;unfold maxLen at hml;have hlt':(c:Int)<2:=by omega
   go_wp2
   go_loop [3,4,17] (fun x s i=>∃k:Nat,k<=M.length/\i= .int .i64 k/\s= .bool true/\x= .int .i64 (fl (J++M.take k))/\Hid (Even (J++M.take k))) (fun _ _ i=>M.length-(intOf i).toNat)
   case atStart=>exact⟨0,Zo,rfl,rfl,Zs,by simpa using hE⟩
   case round=>
    obtain⟨k,hk,rfl,rfl,rfl,hE2⟩:=hrel;clear hE
    by_cases hkm:k<M.length
    ·obtain⟨b,off,xa,xc,rfl,hb,c1,r1⟩:=hM.at hkm;have hkm':(k:Int)<(M.length:Int):=by omega
     by_cases h0:(J++M.take k).length=0
     ·have e1:fl (J++M.take k)= -1:=if_pos h0;have e2:Hid (fl (J++M.take (k+1))=(((ro M k).length:Nat):Int)):=by
       show _=_
       rw[take_push hkm,<-List.append_assoc,fl_push,if_pos h0]
      have e3:Hid (Even (J++M.take (k+1))):=by
       show Even _
       rw[take_push hkm,<-List.append_assoc];exact hE2.out.push fun h=>Zo
      rw[e1];clear e1 h0 hE2 hM r1;exact z8_1
     ·have e1:fl (J++M.take k)=(((ro (J++M.take k) 0).length:Nat):Int):=fl_pos Zo;have hneg:¬(((ro (J++M.take k) 0).length:Nat):Int)<0:=by omega
      by_cases e:(ro M k).length=(ro (J++M.take k) 0).length
      ·have e2:Hid (fl (J++M.take (k+1))=(((ro (J++M.take k) 0).length:Nat):Int)):=by
        show _=_
        rw[take_push hkm,<-List.append_assoc,fl_push,if_neg h0,e1]
       have e3:Hid (Even (J++M.take (k+1))):=by
        show Even _
        rw[take_push hkm,<-List.append_assoc];exact hE2.out.push fun h=>e
       rw[e1];generalize (ro (J++M.take k) 0).length=f0 at*;have hb:(((ro M k).length:Int)!=(f0:Int))=false:=by simp[e]
       clear e1 h0 hE2 hM r1 e;exact z8_1
      ·have E:Hid (decide (Even (A++B))=false):=by
        refine Zx fun h=>?_
        have:=ahead_all hlt h;rw[<-hJ.out,<-hMM.out]at this;exact not_even hkm Zo e this
       rw[e1];generalize (ro (J++M.take k) 0).length=f0 at*;have hb:(((ro M k).length:Int)!=(f0:Int))=true:=Zm
       clear e1 h0 hE2 hM r1 e;go_wp2;go_ret;exact⟨by rw[E.out];rfl,rfl⟩
    ·have hge:¬(k:Int)<(M.length:Int):=by omega
     have hkk:k=M.length:=Zo
     have e2:Hid (J++M.take k=ahead A B (c+1)):=by
      show _=_
      rw[hkk,List.take_length,hJ.out,hMM.out];exact ahead_step hlt
     rw[e2.out]at hE2 ⊢;clear hM hkk;go_wp2
     go_round
     case rel=>exact⟨c+1,Zo,Zg,rfl,rfl,hE2⟩
     case measure=>simp[intOf];omega
  ·have hge:¬(c:Int)<2:=by omega
   have E:Hid (decide (Even (A++B))=true):=by
    rw[show c=2 by omega]at hE;exact Zy hE.out
   clear hN hE;go_wp2;go_ret;exact⟨by rw[E.out];rfl,rfl⟩
def OkS(A B:List (List UInt8))(many:Int):Prop:=(A.length:Int)=many/\Even (A++B)
theorem chkd_ok{b:Nat}{k m:Nat}{many:Int}{v vo:Value}{A B:List (List UInt8)}{w:World}(hF:FieldAt w b)(h1:1<=k)(h2:k+m<=256)(hA:Rs w v A)(hB:Rs w vo B)(h:OkS A B many){x y:Int}(hx:x=(k:Int))(hy:y=(m:Int)):
  Calls Tryz.prog 129 #[.pointer (some ⟨b,0,none⟩),.int .i64 x,.int .i64 y,.int .i64 many,v,vo] w (MakesM w m k (parF k)):=by
 subst hx hy;obtain⟨a1,c1,rfl⟩:=hA.form;obtain⟨a2,c2,rfl⟩:=hB.form
 go_enter Tryz.func129,Tryz.ntmps129
 have A0:Below w.heap.size w (w.alloc (.cells #[.int .i64 0,.int .i64 0,.slice none 0 0] 148)):=Zf.alloc Zr _
 go_wp2_with fail
 refine(cpar_at k m (hF.below A0) h1 h2 rfl rfl).mono ?_
 rintro e w2 ⟨g,M,rfl,hg,hR,b2⟩;simp at hg;have X3:Box w2 w.heap.size 0 0 (.slice none 0 0):=Below.box b2 Zn (Box.new w 0 0 (.slice none 0 0) 148);have F3:Free w2 w.heap.size:=Below.free b2 Zn (Free.new w #[.int .i64 0,.int .i64 0,.slice none 0 0] 148);have hs2:w.heap.size<w2.heap.size:=by have:=b2.size;simp at this;omega
 have B2:Below w.heap.size w w2:=Below.next A0 b2;have hA2:=hA.below B2;have hB2:=hB.below B2;clear hF A0 b2 hA hB;have x30:=X3.c0;have x31:=X3.c1;have x32:=X3.c2;have f30:=F3.f0;have f31:=F3.f1;have f32:=F3.f2;have hE:Hid (decide (Even (A++B))=true):=Zy h.2;have hb:((A.length:Int)!=many)=false:=by simp[h.1]
 clear h
 go_wp2_with fail
 refine(one_any (A:=A) (B:=B) (hA2.below (by repeat (first|exact Zf|apply below_lit))) (hB2.below (by repeat (first|exact Zf|apply below_lit))) Zs Zs).mono ?_
 rintro e w3 ⟨rfl,rfl⟩;rw[hE.out];clear hA2 hB2;go_wp2;have O1:Only w.heap.size w2 (((w2.setCell ⟨w.heap.size,0,none⟩ (.int .i64 (m:Int))).setCell ⟨w.heap.size,1,none⟩ (.int .i64 (k:Int))).setCell ⟨w.heap.size,2,none⟩ (.slice (some ⟨g,0,none⟩) M M)):=
  (((Only.refl _ _).setCell 0 _).setCell 1 _).setCell 2 _
 have R2:=hR.only (apart_block (g:=w.heap.size) Zo) O1;have B3:=B2.trans (O1.below Zr);have s3:=O1.size;refine bodyPost_ret (v:=.tuple #[.agg #[.int .i64 (m:Int),.int .i64 (k:Int),.slice (some ⟨g,0,none⟩) M M],.int .i64 0]) (by simp[results,Tryz.results129,go_sem,x30,x31,x32,f30,f31,f32,hs2]) rfl ⟨_,rfl,R2.below (by repeat (first|exact Zf|apply below_lit)),by repeat (first|exact B3|apply below_lit)⟩
theorem enc_far{b:Nat}{k m:Nat}{v:Value}{L:List (List UInt8)}{w:World}(hF:FieldAt w b)(h1:1<=k)(h2:k+m<=256)(h:Rs w v L)(hL:L.length=k)(hE:Even L)(hS:Small L){x y:Int}(hx:x=(k:Int))(hy:y=(m:Int)):
  Calls Tryz.prog 89 #[.pointer (some ⟨b,0,none⟩),.int .i64 x,.int .i64 y,v] w (MakesFar w 0 (encL m k (parF k) L)):=by
 subst hx hy
 go_enter Tryz.func89,Tryz.ntmps89
 go_wp2_with fail
 refine(chkd_ok hF h1 h2 h rs_none (B:=[]) ⟨by rw[hL],by rw[List.append_nil];exact hE⟩ rfl rfl).mono ?_
 rintro e w2 ⟨vs,rfl,hR,b2⟩;have A2:Below w2.heap.size w2 (w2.alloc (.cells #[.int .i64 (m:Int),.int .i64 (k:Int),vs] 148)):=Zf.alloc Zr _;have B2:Below w.heap.size w (w2.alloc (.cells #[.int .i64 (m:Int),.int .i64 (k:Int),vs] 148)):=below_lit b2 _;have HD:=encd_far m k (parF k) (hF.below B2) (hR.below A2) h1 h2 (h.below B2) hL hE hS rfl rfl;obtain⟨va,vc,rfl⟩:=hR.form;obtain⟨da,dc,rfl⟩:=h.form;clear hF h hR hE hS b2 A2 hL
 go_wp2_with fail
 refine HD.mono ?_
 rintro e w3 ⟨v',rfl,hR3,b3⟩;replace hR3:=hR3.rebase B2.size;have HB:Hid _:=Below.next B2 b3;clear HD b3 B2;obtain⟨xa,xc,rfl⟩:=hR3.form;go_wp2;exact bodyPost_ret (v:=.tuple #[.slice xa (encL m k (parF k) L).length xc,.int .i64 0]) (by simp[results,Tryz.results89,go_sem]) rfl ⟨_,rfl,hR3,HB.out⟩
end Go.Proofs.YtddnfhfangfgeaaGreat.Gf
