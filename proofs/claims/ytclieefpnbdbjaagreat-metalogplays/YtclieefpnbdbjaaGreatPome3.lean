/- JOINED: SsRow, BkBeq, BkRd, ErHb, ErRd, WdCnt, WdInts, SeMath. -/
import Derived.Laws.BytesArg
import Derived.Test.YtclieefpnbdbjaaGreatPome2
set_option maxHeartbeats 1000000
set_option maxRecDepth 100000
namespace Go.Proofs.YtclieefpnbdbjaaGreat.Gf
set_option linter.unusedVariables false
set_option linter.unusedSimpArgs false
open Go.RowKit
theorem run_append_rd2{P:Program}(w:World)(t ty:TypeId)(base:Nat)(e:TypeId)(i:TypeInfo)(ht:P.underlying t=some (.slice e))(hi:P.info? e=some i)(hz:i.zero=some (.int .u8 0))(hsize:i.size=1)(hby:i.bytes=1)
  (v:Value) (n:Nat) (xs:List Value) (hown:w.ownsRow base e 1 v n xs) (va:Value) (p:List UInt8) (hr:Rd w va p) (hl:n+p.length<=1000000) (hbase:base<=w.heap.size):
  ∃v' w',(Builtin.append_ #[t,t] ty #[v,va]).run P w= .ok v' w'/\w'.ownsRow base e 1 v' (n+p.length) (xs++p.map vb)/\w.grownBy w' v.ownBlock/\(v'.ownBlock=v.ownBlock∨v'.ownBlock=some w.heap.size):=by
 rcases hr with⟨ao,cap,rfl,rfl,hc,hn⟩|⟨b,off,cap,hp0,rfl,h1,h2,h3,hpc⟩
 ·rcases ao with _|ad
  ·have:=hn rfl;subst this;exact⟨v,w,run_append_owned_none (P:=P) (w:=w) base t ty e i 1 ht hi v n xs hown,by simpa using hown,World.grownBy.refl _ _,Or.inl rfl⟩
  ·obtain⟨v',w',hr,h2,h3,_,h5⟩:=run_append_own_at (P:=P) w base t ty e i (.int .u8 0) 1 1 ht hi hz hsize hby rfl Zd v n xs hown ad 0 cap [] rfl (by intro j u hj;simp at hj) (by intro u hu;simp at hu) Zl Zo hbase;exact⟨v',w',hr,by simpa using h2,h3,h5⟩
 ·obtain⟨v',w',hr,h2,h3,_,h5⟩:=run_append_own_at (P:=P) w base t ty e i (.int .u8 0) 1 1 ht hi hz hsize hby rfl Zd v n xs hown ⟨b,off,none⟩ p.length cap ((p.take p.length).map vb) Zs (news_of hpc) (vb_one _) Zl Zo hbase;exact⟨v',w',hr,by simpa using h2,h3,h5⟩
theorem wpList_append_rd2{P:Program}(w:World){ops:Array Oper}{rest:List Oper}{o:Oper}{a:Act}{Q:Exit->Act->World->Prop}(hgd:o.guard=none)(s x:Operand)(t:TypeId)
  (ho:o.op= .call {callee:=.builtin .append,args:=#[s,x],argTypes:=#[t,t]})
  (base:Nat) (e:TypeId) (i:TypeInfo) (ht:P.underlying t=some (.slice e)) (hi:P.info? e=some i) (hz:i.zero=some (.int .u8 0)) (hsize:i.size=1) (hby:i.bytes=1)
  (v:Value) (n:Nat) (xs:List Value) (hs:a.eval s=v) (hown:w.ownsRow base e 1 v n xs) (va:Value) (p:List UInt8) (hx:a.eval x=va) (hr:Rd w va p) (hl:n+p.length<=1000000) (hbase:base<=w.heap.size)
  (h:∀v' w',w'.ownsRow base e 1 v' (n+p.length) (xs++p.map vb)->w.grownBy w' v.ownBlock->(v'.ownBlock=v.ownBlock∨v'.ownBlock=some w.heap.size)->wpList P ops Q rest (a.put o.dst v') w'):wpList P ops Q (o::rest) a w:=by
 refine wpList_plain hgd fun K hK=>?_
 obtain⟨v',w',hrun,h2,h3,h4⟩:=run_append_rd2 w t o.type base e i ht hi hz hsize hby v n xs hown va p hr hl hbase;unfold Oper.wp execOp;simp only[ho,resolve,invoke,builtin,Sem.run_bind,Sem.run_pure,Result.andThen_ok,List.map_toArray,List.map_cons,List.map_nil,hs,hx,hrun];exact hK _ _ (h v' w' h2 h3 h4)
theorem wpList_append_one{P:Program}(w:World){ops:Array Oper}{rest:List Oper}{o:Oper}{a:Act}{Q:Exit->Act->World->Prop}(hgd:o.guard=none)(s x:Operand)(t:TypeId)
  (ho:o.op= .call {callee:=.builtin .append,args:=#[s,x],argTypes:=#[t,t]})
  (base:Nat) (e:TypeId) (i:TypeInfo) (ht:P.underlying t=some (.slice e)) (hi:P.info? e=some i) (hz:i.zero=some (.slice none 0 0)) (hsize:i.size=1) (hby:i.bytes=24)
  (v:Value) (n:Nat) (xs:List Value) (hs:a.eval s=v) (hown:w.ownsRow base e 1 v n xs) (b c:Nat) (u:Value) (hx:a.eval x= .slice (some ⟨b,0,none⟩) 1 c) (hr:w.cell? ⟨b,0,none⟩=some u) (hu:u.oneCell'=true) (hl:n<=100000) (hbase:base<=w.heap.size)
  (h:∀v' w',w'.ownsRow base e 1 v' (n+1) (xs++[u])->w.grownBy w' v.ownBlock->(v'.ownBlock=v.ownBlock∨v'.ownBlock=some w.heap.size)->wpList P ops Q rest (a.put o.dst v') w'):wpList P ops Q (o::rest) a w:=by
 refine wpList_plain hgd fun K hK=>?_
 obtain⟨v',w',hrun,h2,h3,_,h5⟩:=run_append_own_at (P:=P) w base t o.type e i (.slice none 0 0) 1 24 ht hi hz hsize hby rfl Zd v n xs hown ⟨b,0,none⟩ 1 c [u] rfl (by intro j y hj;rw[add_at,Nat.zero_add];rcases j with _|j<;>simp at hj;subst hj;exact hr) (by intro y hy;simp at hy;rw[hy];exact hu) Zl Zo hbase;unfold Oper.wp execOp;simp only[ho,resolve,invoke,builtin,Sem.run_bind,Sem.run_pure,Result.andThen_ok,List.map_toArray,List.map_cons,List.map_nil,hs,hx,hrun];exact hK _ _ (h v' w' h2 h3 h5)
def OwnP(w:World)(base u:Nat)(x:Value)(p:List UInt8):Prop:=w.ownsRow base u 1 x p.length (p.map vb)
theorem OwnP.alloc{w:World}{base u:Nat}{x:Value}{p:List UInt8}(h:OwnP w base u x p)(o:Obj):OwnP (w.alloc o) base u x p:=World.ownsRow.alloc h o
theorem Rd.grown{w w':World}{v:Value}{p:List UInt8}{G:Nat}(h:Rd w v p)(hg:w.grownBy w' (some G))(ha:Apart G v):Rd w' v p:=by
 rcases h with h|⟨b,off,cap,h1,h2,h3,h4,h5,h6⟩
 ·exact Or.inl h
 ·have hb:b≠G:=by
   rcases ha _ _ _ h2 with e|e
   ·exact absurd (List.length_eq_zero_iff.1 e) h1
   ·exact e
  exact Or.inr ⟨b,off,cap,h1,h2,h3,h4,Zu h5 hg.size,fun i hi=>(hg.cell_far ⟨b,off+i,none⟩ h5 (fun e=>hb (by cases e;rfl))).trans (h6 i hi)⟩
theorem conv_str{w:World}{v:Value}{p:List UInt8}(h:Rd w v p):Sem.run Tryz.prog (convert 42 9 v) w= .ok (.string ⟨p.toArray⟩) w:=by
 rcases h with⟨a,c,rfl,rfl,_⟩|⟨b,off,cap,hp0,rfl,h1,h2,h3,hpc⟩
 ·rcases a with _|a
  ·kernel_rfl
  ·kernel_rfl
 ·rw[run_convert_bytes_arg (P:=Tryz.prog) w 42 5 Tryz.underlying42 Tryz.underlying5 b off p.length cap (p.map fun x=>((x.toNat:Nat):Int)) Zs (fun i hi=>by rw[hpc i hi,co_lt hi];simp[List.getD,hi]) 9 Tryz.underlying9];unfold strOfNums;congr 4;rw[List.map_map]
  conv=>rhs;rw[<-List.map_id p]
  apply List.map_congr_left;intro b _;simp
theorem beq_any{va vb:Value}{p q:List UInt8}{w:World}(hp:Rd w va p)(hq:Rd w vb q):Calls Tryz.prog 60 #[va,vb] w fun e w'=>e= .returned (.bool (sameB p q))/\w'=w:=by
 have h1:=conv_str hp;have h2:=conv_str hq;obtain⟨a,c,rfl⟩:=hp.form;obtain⟨a',c',rfl⟩:=hq.form;clear hp hq
 go_enter Tryz.func60,Tryz.ntmps60
 go_wp2;go_ret;have e:(p==q)=sameB p q:=by unfold sameB;rw[Bool.eq_iff_iff];simp
 exact⟨congrArg (fun b=>Ending.returned (.bool b)) e,rfl⟩
def ro(L:List (List UInt8))(i:Nat):List UInt8:=L.getD i []
theorem ro_lt{L:List (List UInt8)}{i:Nat}(h:i<L.length):ro L i=L[i]:=by simp[ro,List.getD,h]
theorem ro_some{L:List (List UInt8)}{i:Nat}(h:i<L.length):L[i]? =some (ro L i):=by rw[ro_lt h];exact List.getElem?_eq_getElem h
theorem ro_append_left{L M:List (List UInt8)}{i:Nat}(h:i<L.length):ro (L++M) i=ro L i:=by simp[ro,List.getD,List.getElem?_append_left h]
theorem ro_append_right{L M:List (List UInt8)}{i:Nat}(h:L.length<=i):ro (L++M) i=ro M (i-L.length):=by simp[ro,List.getD,List.getElem?_append_right h]
def Rs(w:World)(v:Value)(L:List (List UInt8)):Prop:=
 ∃(a:Option Addr) (cap:Nat),v= .slice a L.length cap/\L.length<=cap/\cap<=maxLen/\(a=none->cap=0)/\
  ∀i,i<L.length->∃(b off:Nat) (x:Value),a=some ⟨b,off,none⟩/\b<w.heap.size/\w.cell? ⟨b,off+i,none⟩=some x/\Rd w x (ro L i)
theorem Rs.below{w w':World}{v:Value}{L:List (List UInt8)}(h:Rs w v L)(hb:Below w.heap.size w w'):Rs w' v L:=by
 obtain⟨a,cap,h1,h2,h3,h4,h5⟩:=h;refine⟨a,cap,h1,h2,h3,h4,fun i hi=>?_⟩;obtain⟨b,off,x,k1,k2,k3,k4⟩:=h5 i hi;exact⟨b,off,x,k1,Zu k2 hb.size,(hb.cell (p:=⟨b,off+i,none⟩) k2).trans k3,k4.below hb⟩
theorem Rs.form{w:World}{v:Value}{L:List (List UInt8)}(h:Rs w v L):∃a c,v= .slice a L.length c:=by
 obtain⟨a,c,e,_⟩:=h;exact⟨a,c,e⟩
theorem Rs.at{w:World}{a:Option Addr}{n c:Nat}{L:List (List UInt8)}(h:Rs w (.slice a n c) L){i:Nat}(hi:i<L.length):
  ∃(b off:Nat) (xa:Option Addr) (xc:Nat),a=some ⟨b,off,none⟩/\b<w.heap.size/\w.cell? ⟨b,off+i,none⟩=some (.slice xa (ro L i).length xc)/\Rd w (.slice xa (ro L i).length xc) (ro L i):=by
 obtain⟨a',c',e,h1,h2,h3,h4⟩:=h;simp at e;obtain⟨rfl,rfl,rfl⟩:=e;obtain⟨b,off,x,k1,k2,k3,k4⟩:=h4 i hi;obtain⟨xa,xc,rfl⟩:=k4.form;exact⟨b,off,xa,xc,k1,k2,k3,k4⟩
theorem Rd.byte{w:World}{a:Option Addr}{n c:Nat}{p:List UInt8}(h:Rd w (.slice a n c) p){i:Nat}(hi:i<p.length):∃b off,a=some ⟨b,off,none⟩/\b<w.heap.size/\w.cell? ⟨b,off+i,none⟩=some (.int .u8 ((co p i).toNat:Nat)):=by
 rcases h with⟨a',c',e,_⟩|⟨b,off,cap,_,e,_,_,k,hc⟩
 ·subst e;simp at hi
 ·simp at e;obtain⟨rfl,_⟩:=e;exact⟨b,off,rfl,k,hc i hi⟩
theorem rs_none{w:World}:Rs w (.slice none 0 0) []:=⟨none,0,rfl,Zr,Zz,fun _=>rfl,fun i hi=>by simp at hi⟩
def hb(h:List Bool)(i:Nat):Bool:=h.getD i false
theorem hb_ge{h:List Bool}{i:Nat}(hi:h.length<=i):hb h i=false:=by simp[hb,List.getD,hi]
def RdB(w:World)(v:Value)(h:List Bool):Prop:=
 ∃(a:Option Addr) (cap:Nat),v= .slice a h.length cap/\h.length<=cap/\cap<=maxLen/\(a=none->cap=0)/\∀i,i<h.length->∃b off,a=some ⟨b,off,none⟩/\b<w.heap.size/\w.cell? ⟨b,off+i,none⟩=some (.bool (hb h i))
theorem RdB.below{w w':World}{v:Value}{h:List Bool}(r:RdB w v h)(hb:Below w.heap.size w w'):RdB w' v h:=by
 obtain⟨a,cap,h1,h2,h3,h4,h5⟩:=r;refine⟨a,cap,h1,h2,h3,h4,fun i hi=>?_⟩;obtain⟨b,off,k1,k2,k3⟩:=h5 i hi;exact⟨b,off,k1,Zu k2 hb.size,(hb.cell (p:=⟨b,off+i,none⟩) k2).trans k3⟩
theorem RdB.form{w:World}{v:Value}{h:List Bool}(r:RdB w v h):∃a c,v= .slice a h.length c:=by
 obtain⟨a,c,e,_⟩:=r;exact⟨a,c,e⟩
theorem RdB.at{w:World}{a:Option Addr}{n c:Nat}{h:List Bool}(r:RdB w (.slice a n c) h){i:Nat}(hi:i<h.length):∃b off,a=some ⟨b,off,none⟩/\b<w.heap.size/\w.cell? ⟨b,off+i,none⟩=some (.bool (hb h i)):=by
 obtain⟨a',c',e,h1,h2,h3,h4⟩:=r;simp at e;obtain⟨rfl,rfl,rfl⟩:=e;exact h4 i hi
theorem rdB_none{w:World}:RdB w (.slice none 0 0) []:=⟨none,0,rfl,Zr,Zz,fun _=>rfl,fun i hi=>by simp at hi⟩
theorem rdB_row{w:World}{a:Addr}{len cap:Nat}{B:Nat->Bool}(hl:len<=cap)(hm:cap<=maxLen)(h:∀i,i<cap->w.cell? (a.add i)=some (.bool (B i))):∃p,RdB w (.slice (some a) len cap) p:=by
 have hll:((List.range len).map B).length=len:=Zs
 refine⟨(List.range len).map B,some a,cap,by rw[hll],by rw[hll];exact hl,hm,nofun,fun i hi=>?_⟩;rw[hll]at hi;have h1:=h i Zo;obtain⟨b,off,spot⟩:=a;have hspot:spot=none:=by
  have h0:=World.cell?_spot (h 0 Zo);simpa[Addr.add]using h0
 subst hspot;rw[add_at]at h1;refine⟨b,off,rfl,World.block_lt_of_cell? w _ h1,?_⟩;rw[h1];simp[hb,List.getD,hi]
def cnt(p:Nat->Bool):Nat->Nat
 |0=>0
 |n+1=>cnt p n+(if p n then 1 else 0)
theorem cnt_le(p:Nat->Bool)(n:Nat):cnt p n<=n:=by
 induction n with
 |zero=>exact Zr
 |succ n ih=>rw[cnt];split<;>omega
theorem cnt_full{p:Nat->Bool}:∀{n:Nat},(∀i,i<n->p i=true)->cnt p n=n
 |0,_=>rfl
 |n+1,h=>by
  show cnt p n+(if p n then 1 else 0)=n+1
  rw[cnt_full fun i hi=>h i Zo,h n Zo];rfl
theorem cnt_yes{p:Nat->Bool}{n:Nat}(h:p n=true):cnt p (n+1)=cnt p n+1:=by rw[cnt,if_pos h]
theorem cnt_not{p:Nat->Bool}{n:Nat}(h:p n=false):cnt p (n+1)=cnt p n:=by rw[cnt,if_neg (by rw[h];decide)];rfl
theorem ints_ext{xs ys:List Int}(hl:xs.length=ys.length)(h:∀i,i<xs.length->xs.getD i 0=ys.getD i 0):xs=ys:=by
 refine List.ext_getElem hl fun i h1 h2=>?_
 have:=h i h1;simpa[List.getD,h1,h2]using this
theorem rints_any{va vb:Value}{xs ys:List Int}{w:World}(ha:RdI w va xs)(hb:RdI w vb ys)(hl:xs.length<=1000000)(hl2:ys.length<=1000000):
  Calls Tryz.prog 48 #[va,vb] w fun e w'=>e= .returned (.bool (decide (xs=ys)))/\Below w.heap.size w w':=by
 obtain⟨a1,c1,rfl⟩:=ha.form;obtain⟨a2,c2,rfl⟩:=hb.form
 by_cases hlen:xs.length=ys.length
 ·have hn:(((xs.length:Nat):Int)!=((ys.length:Nat):Int))=false:=by simp[hlen]
  have hlen':Hid _:=hlen;clear hlen
  go_enter Tryz.func48,Tryz.ntmps48
  go_wp2
  go_loopw [5] (fun i wr=>∃k:Nat,k<=xs.length/\i= .int .i64 k/\Hid (∀j,j<k->xs.getD j 0=ys.getD j 0)/\Below w.heap.size w wr) (fun i _=>xs.length-(intOf i).toNat)
  case atStart=>exact⟨0,Zo,rfl,fun j hj=>Zo,Zf⟩
  case round=>
   obtain⟨k,hk,rfl,hs,hB⟩:=hrel
   by_cases hlt:k<xs.length
   ·obtain⟨b1,o1,rfl,_,k1⟩:=(ha.below hB).at hlt;obtain⟨b2,o2,rfl,_,k2⟩:=(hb.below hB).at (show k<ys.length by have:=hlen'.out;omega);have hlt1:(k:Int)<(xs.length:Int):=by omega
    have hlt2:(k:Int)<(ys.length:Int):=by have:=hlen'.out;omega
    by_cases e:xs.getD k 0=ys.getD k 0
    ·have HS:Hid (∀j,j<k+1->xs.getD j 0=ys.getD j 0):=fun j hj=>by
      by_cases e2:j=k
      ·rw[e2];exact e
      ·exact hs.out j Zo
     rw[e]at k1;generalize ys.getD k 0=y at k1 k2;clear e hs ha hb
     go_wp2_with fail
     try go_quiet (fail)
     try go_wp2
     go_roundw
     case rel=>exact⟨k+1,Zo,Zg,HS,by first|exact hB|exact hB.drewN _⟩
     case measure=>simp[intOf];omega
    ·have hne:(xs.getD k 0 !=ys.getD k 0)=true:=bne_iff_ne.2 e;have E:Hid (decide (xs=ys)=false):=Zx fun q=>e (by rw[q])
     generalize ys.getD k 0=y at k2 hne;generalize xs.getD k 0=x at k1 hne;clear e hs ha hb
     go_wp2_with fail
     try go_quiet (fail)
     try go_wp2
     go_ret;exact⟨by rw[E.out];rfl,by first|exact hB|exact hB.drewN _⟩
   ·have hge:¬(k:Int)<(xs.length:Int):=by omega
    have E:Hid (decide (xs=ys)=true):=Zy (ints_ext hlen'.out fun i hi=>hs.out i Zo);clear hs ha hb;go_wp2;go_ret;exact⟨by rw[E.out];rfl,hB⟩
 ·have hn:(((xs.length:Nat):Int)!=((ys.length:Nat):Int))=true:=by simp;omega
  have E:Hid (decide (xs=ys)=false):=Zx fun q=>hlen (by rw[q])
  clear ha hb hlen
  go_enter Tryz.func48,Tryz.ntmps48
  go_wp2;go_ret;exact⟨by rw[E.out];rfl,Zf⟩
def fo(n:Nat):List UInt8:=[UInt8.ofNat (n/16777216),UInt8.ofNat (n/65536),UInt8.ofNat (n/256),UInt8.ofNat n]
def nu(p:List UInt8):Nat:=(co p 0).toNat*16777216+(co p 1).toNat*65536+(co p 2).toNat*256+(co p 3).toNat
theorem fo_length(n:Nat):(fo n).length=4:=rfl
theorem nu_lt(p:List UInt8):nu p<4294967296:=by
 have h0:=(co p 0).toNat_lt;have h1:=(co p 1).toNat_lt;have h2:=(co p 2).toNat_lt;have h3:=(co p 3).toNat_lt;unfold nu;omega
theorem nu_fo{n:Nat}(h:n<4294967296):nu (fo n)=n:=by
 show(UInt8.ofNat (n/16777216)).toNat*16777216+(UInt8.ofNat (n/65536)).toNat*65536+(UInt8.ofNat (n/256)).toNat*256+(UInt8.ofNat n).toNat=n
 simp only[UInt8.toNat_ofNat'];omega
theorem four_of{p:List UInt8}(h:p.length=4):p=[co p 0,co p 1,co p 2,co p 3]:=by
 match p,h with
 |[a,b,c,d],_=>rfl
theorem z3_1{p:Prop} (h:p:=by
 apply UInt8.toNat_inj.1;rw[UInt8.toNat_ofNat'];unfold nu;omega
 ):p:=h
theorem fo_nu{p:List UInt8}(h:p.length=4):fo (nu p)=p:=by
 conv=>rhs;rw[four_of h]
 have h0:=(co p 0).toNat_lt;have h1:=(co p 1).toNat_lt;have h2:=(co p 2).toNat_lt;have h3:=(co p 3).toNat_lt;unfold fo;congr 1
 ·exact z3_1
 congr 1
 ·exact z3_1
 congr 1
 ·exact z3_1
 congr 1
 ·exact z3_1
def hdS(a e:Nat)(d:List UInt8):List UInt8:=fo a++(fo e++d)
def pkS(a e:Nat)(d:List UInt8):List UInt8:=hdS a e d++fo (more 0 (hdS a e d))
theorem hdS_length(a e:Nat)(d:List UInt8):(hdS a e d).length=d.length+8:=by
 unfold hdS;rw[List.length_append,List.length_append,fo_length,fo_length];omega
theorem pk_length(a e:Nat)(d:List UInt8):(pkS a e d).length=d.length+12:=by
 unfold pkS;rw[List.length_append,hdS_length,fo_length]
def epS(b:List UInt8):Nat:=nu ((b.drop 4).take 4)
def daS(b:List UInt8):List UInt8:=(b.drop 8).take (b.length-12)
theorem daS_length(b:List UInt8):(daS b).length=b.length-12:=by unfold daS;rw[List.length_take,List.length_drop];omega
theorem epS_lt(b:List UInt8):epS b<4294967296:=nu_lt _
theorem epS_pk{a e:Nat}(d:List UInt8)(he:e<4294967296):epS (pkS a e d)=e:=by
 unfold epS
 have:((pkS a e d).drop 4).take 4=fo e:=rfl
 rw[this,nu_fo he]
theorem daS_pk(a e:Nat)(d:List UInt8):daS (pkS a e d)=d:=by
 unfold daS;rw[pk_length,Nat.add_sub_cancel]
 have:(pkS a e d).drop 8=d++fo (more 0 (hdS a e d)):=rfl
 rw[this];exact List.take_left' rfl
theorem z3_2{p:Prop} (h:p:=by
 have e2:b.length-4=4+(4+(b.length-12)):=Zo
 rw[e2,List.take_add,List.take_add,List.drop_drop];rfl
 ):p:=h
theorem partsS{b:List UInt8}(h:12<=b.length):b=(b.take 4++((b.drop 4).take 4++daS b))++b.drop (b.length-4):=by
 have e1:b.take (b.length-4)=b.take 4++((b.drop 4).take 4++daS b):=by
  exact z3_2
 rw[<-e1,List.take_append_drop]
theorem aheadS{b:List UInt8}(h:12<=b.length):b.take (b.length-4)=b.take 4++((b.drop 4).take 4++daS b):=by
 exact z3_2
theorem pk_iff{b:List UInt8}{a:Nat}(h:12<=b.length)(ha:a<4294967296):pkS a (epS b) (daS b)=b↔(nu (b.take 4)=a/\nu (b.drop (b.length-4))=more 0 (b.take (b.length-4))):=by
 have l1:(b.take 4).length=4:=by rw[List.length_take];omega
 have l2:((b.drop 4).take 4).length=4:=by rw[List.length_take,List.length_drop];omega
 have l3:(b.drop (b.length-4)).length=4:=by rw[List.length_drop];omega
 have hp:=partsS h;have hh:=aheadS h;constructor
 ·intro e;have e1:pkS a (epS b) (daS b)=(b.take 4++((b.drop 4).take 4++daS b))++b.drop (b.length-4):=e.trans hp;unfold pkS at e1;have e2:=List.append_inj e1 (by rw[<-hh,hdS_length,daS_length,List.length_take];omega);have e3:fo a=b.take 4:=(List.append_inj e2.1 (by rw[fo_length,l1])).1;refine⟨by rw[<-e3,nu_fo ha],?_⟩;rw[<-e2.2,nu_fo (more_lt _ _),e2.1,hh]
 ·rintro⟨h1,h2⟩;have e1:hdS a (epS b) (daS b)=b.take (b.length-4):=by
   rw[hh];unfold hdS epS;rw[fo_nu l2,<-h1,fo_nu l1]
  unfold pkS;rw[e1,<-h2,fo_nu l3,List.take_append_drop]
def OkSe(a e:Int)(n:Nat):Prop:=(0<=a/\a<=2147483647)/\(0<=e/\e<=2147483647)/\n<=4096
instance (a e:Int)(n:Nat):Decidable (OkSe a e n):=inferInstanceAs (Decidable (_/\_/\_))
def paX(a e:Int)(d:List UInt8):Int:=if OkSe a e d.length then 0 else 1
def paR(a e:Int)(d:List UInt8):List UInt8:=if OkSe a e d.length then pkS a.toNat e.toNat d else []
theorem pa_ok{a e:Int}{d:List UInt8}(h:OkSe a e d.length):paX a e d=0/\paR a e d=pkS a.toNat e.toNat d:=⟨if_pos h,if_pos h⟩
theorem pa_not{a e:Int}{d:List UInt8}(h:¬OkSe a e d.length):paX a e d=1/\paR a e d=[]:=⟨if_neg h,if_neg h⟩
def OkUe(a:Int)(b:List UInt8):Prop:=12<=b.length/\OkSe a (epS b:Int) (daS b).length/\pkS a.toNat (epS b) (daS b)=b
instance (a:Int)(b:List UInt8):Decidable (OkUe a b):=inferInstanceAs (Decidable (_/\_/\_))
def upX(a:Int)(b:List UInt8):Int:=if OkUe a b then 0 else 110
def upN(a:Int)(b:List UInt8):Nat:=if OkUe a b then epS b else 0
def upD(a:Int)(b:List UInt8):List UInt8:=if OkUe a b then daS b else []
theorem up_ok{a:Int}{b:List UInt8}(h:OkUe a b):upX a b=0/\upN a b=epS b/\upD a b=daS b:=⟨if_pos h,if_pos h,if_pos h⟩
theorem up_not{a:Int}{b:List UInt8}(h:¬OkUe a b):upX a b=110/\upN a b=0/\upD a b=[]:=⟨if_neg h,if_neg h,if_neg h⟩
theorem okU_iff{a:Int}{b:List UInt8}:OkUe a b↔(12<=b.length/\b.length<=4108/\0<=a/\a<=2147483647/\nu (b.drop (b.length-4))=more 0 (b.take (b.length-4))/\nu (b.take 4)=a.toNat/\epS b<=2147483647):=by
 unfold OkUe OkSe;rw[daS_length];constructor
 ·rintro⟨h1,⟨h2,h3,h4⟩,h5⟩;have h6:=(pk_iff h1 Zo).1 h5;exact⟨h1,Zo,h2.1,h2.2,h6.2,h6.1,Zo⟩
 ·rintro⟨h1,h2,h3,h4,h5,h6,h7⟩;exact⟨h1,⟨⟨h3,h4⟩,⟨Zo,Zo⟩,Zo⟩,(pk_iff h1 Zo).2 ⟨h6,h5⟩⟩
theorem ok_pk{a e:Int}{d:List UInt8}(h:OkSe a e d.length):OkUe a (pkS a.toNat e.toNat d)/\epS (pkS a.toNat e.toNat d)=e.toNat/\daS (pkS a.toNat e.toNat d)=d:=by
 have h1:epS (pkS a.toNat e.toNat d)=e.toNat:=epS_pk d (by have:=h.2.1;omega);have h2:=daS_pk a.toNat e.toNat d;refine⟨⟨by rw[pk_length];omega,?_,by rw[h1,h2]⟩,h1,h2⟩;rw[h1,h2,show((e.toNat:Nat):Int)=e by have:=h.2.1;omega];exact h
theorem ok_back{a:Int}{b:List UInt8}(h:OkUe a b):OkSe a (epS b:Int) (daS b).length/\pkS a.toNat ((epS b:Nat):Int).toNat (daS b)=b:=by
 refine⟨h.2.1,?_⟩;rw[Int.toNat_natCast];exact h.2.2
theorem co_drop0(p:List UInt8)(n i:Nat):co (p.drop n) i=co p (n+i):=by unfold co;rw[List.getElem?_drop]
end Go.Proofs.YtclieefpnbdbjaaGreat.Gf
