/- TEXTS JOINED: ErMath, ErRd, ErOwn, ErLawM, ErPl, ErRefA, ErGn, ErRefD. -/
import Derived.Test.YtddnfhfangfgeaaGreatPome13
set_option maxHeartbeats 2000000
set_option maxRecDepth 100000
namespace Go.Proofs.YtddnfhfangfgeaaGreat.Gf
set_option linter.unusedVariables false
set_option linter.unusedSimpArgs false
open Go.RowKit
def hb(h:List Bool)(i:Nat):Bool:=h.getD i false
theorem hb_ge{h:List Bool}{i:Nat}(hi:h.length<=i):hb h i=false:=by simp[hb,List.getD,hi]
def thr(h:List Bool):Nat->List Nat
 |0=>[]
 |n+1=>if hb h n=true then thr h n++[n]else thr h n
theorem thr_yes{h:List Bool}{n:Nat}(e:hb h n=true):thr h (n+1)=thr h n++[n]:=by rw[thr,if_pos e]
theorem thr_no{h:List Bool}{n:Nat}(e:hb h n=false):thr h (n+1)=thr h n:=by rw[thr,if_neg (by rw[e];decide)]
theorem thr_mem{h:List Bool}{n x:Nat}(hx:x∈thr h n):x<n/\hb h x=true:=by
 induction n with
 |zero=>simp[thr]at hx
 |succ n ih=>
  cases e:hb h n with
  |true=>
   rw[thr_yes e]at hx
   rcases List.mem_append.1 hx with h1|h1
   ·have:=ih h1;exact⟨by omega,this.2⟩
   ·rw[List.mem_singleton]at h1;subst h1;exact⟨by omega,e⟩
  |false=>rw[thr_no e]at hx;have:=ih hx;exact⟨by omega,this.2⟩
theorem thr_len(h:List Bool)(n:Nat):(thr h n).length<=n:=by
 induction n with
 |zero=>simp[thr]
 |succ n ih=>
  cases e:hb h n with
  |true=>rw[thr_yes e,List.length_append];simp;omega
  |false=>rw[thr_no e];omega
theorem thr_pre(h:List Bool){i n:Nat}(hin:i<=n):∃t,thr h n=thr h i++t:=by
 induction n with
 |zero=>rw[Nat.le_zero.1 hin];exact⟨[],by simp⟩
 |succ n ih=>
  by_cases e:i=n+1
  ·subst e;exact⟨[],by simp⟩
  ·obtain⟨t,ht⟩:=ih (by omega);cases e:hb h n with
   |true=>exact⟨t++[n],by rw[thr_yes e,ht,List.append_assoc]⟩
   |false=>exact⟨t,by rw[thr_no e,ht]⟩
def pl7(h:List Bool)(i:Nat):Nat:=(thr h h.length).getD i 0
theorem getD_append_left{l t:List Nat}{i:Nat}(hi:i<l.length):(l++t).getD i 0=l.getD i 0:=by simp[List.getD,List.getElem?_append_left hi]
theorem pl7_in{h:List Bool}{i:Nat}(hi:i<(thr h h.length).length):pl7 h i<h.length/\hb h (pl7 h i)=true:=by
 have e:pl7 h i=(thr h h.length)[i]:=by simp[pl7,List.getD,hi]
 rw[e];exact thr_mem (List.getElem_mem hi)
theorem pl7_at{h:List Bool}{i:Nat}(e:hb h i=true):i<h.length/\(thr h i).length<(thr h h.length).length/\pl7 h (thr h i).length=i:=by
 have hi:i<h.length:=by
  rcases Nat.lt_or_ge i h.length with k|k
  ·exact k
  ·rw[hb_ge k]at e;cases e
 obtain⟨t,ht⟩:=thr_pre h (show i+1<=h.length from hi);rw[thr_yes e]at ht;refine⟨hi,by rw[ht];simp,?_⟩;unfold pl7;rw[ht];simp[List.getD]
theorem thr_mono{h:List Bool}{i j:Nat}(hij:i<=j):(thr h i).length<=(thr h j).length:=by
 obtain⟨t,ht⟩:=thr_pre h hij;rw[ht,List.length_append];omega
theorem pl7_rank{h:List Bool}{i:Nat}(hi:i<(thr h h.length).length):(thr h (pl7 h i)).length=i:=by
 --by the places ahead of n
 have key:∀n i,i<(thr h n).length->(thr h ((thr h n).getD i 0)).length=i:=by
  intro n
  induction n with
  |zero=>intro i hi;simp[thr]at hi
  |succ n ih=>
   intro i hi;cases e:hb h n with
   |true=>
    rw[thr_yes e]at hi ⊢
    by_cases hk:i<(thr h n).length
    ·rw[getD_append_left hk];exact ih i hk
    ·simp at hi;have hi2:i=(thr h n).length:=by omega
     subst hi2
     have:(thr h n++[n]).getD (thr h n).length 0=n:=by simp[List.getD]
     rw[this]
   |false=>rw[thr_no e]at hi ⊢;exact ih i hi
 exact key _ i hi
theorem pl7_inj{h:List Bool}{i j:Nat}(hi:i<(thr h h.length).length)(hj:j<(thr h h.length).length)(e:pl7 h i=pl7 h j):i=j:=by
 rw[<-pl7_rank hi,e,pl7_rank hj]
def EvenH(h:List Bool)(L:List (List UInt8)):Prop:=∀i j,hb h i=true->hb h j=true->(ro L i).length=(ro L j).length
def SmallH(h:List Bool)(L:List (List UInt8)):Prop:=L.length<=300/\∀i,hb h i=true->(ro L i).length<=300
theorem Small.h{L:List (List UInt8)}(hS:Small L)(h:List Bool):SmallH h L:=⟨hS.1,fun i _=>hS.2 i⟩
def rowsF(k:Nat)(p:Nat->Nat):Mx:=fun i j=>genF k (p i) j
noncomputable def invF(k:Nat)(p:Nat->Nat):Mx:=by
 classical
 exact if h:∃V,IsInv k (rowsF k p) V then h.choose else one
theorem invF_is{k:Nat}{p:Nat->Nat}(h:∃V,IsInv k (rowsF k p) V):IsInv k (rowsF k p) (invF k p):=by
 unfold invF;rw[dif_pos h];exact h.choose_spec
theorem invF_flat{k:Nat}{p:Nat->Nat}{V:Mx}(h:IsInv k (rowsF k p) V):flat k k V=flat k k (invF k p):=flat_congr fun i j hi hj=>(invF_is ⟨V,h⟩).unique h i j hi hj
def dwd(V:Mx)(p:Nat->Nat)(L:List (List UInt8))(j c n:Nat):UInt8:=S c (fun i=>mu (V j i) (co (ro L (p i)) n))
theorem dwd_succ(V:Mx)(p:Nat->Nat)(L:List (List UInt8))(j c n:Nat):dwd V p L j (c+1) n=dwd V p L j c n^^^mu (V j c) (co (ro L (p c)) n):=rfl
def dsh(k:Nat)(V:Mx)(p:Nat->Nat)(L:List (List UInt8))(j:Nat):List UInt8:=upto (dwd V p L j k) (ro L (p 0)).length
def decD(k:Nat)(V:Mx)(p:Nat->Nat)(L:List (List UInt8)):List (List UInt8):=mkL k (dsh k V p L)
theorem decD_length(k:Nat)(V:Mx)(p:Nat->Nat)(L:List (List UInt8)):(decD k V p L).length=k:=mkL_length _ _
theorem decD_row{k:Nat}{V:Mx}{p:Nat->Nat}{L:List (List UInt8)}{j:Nat}(hj:j<k):(ro (decD k V p L) j).length=(ro L (p 0)).length:=by unfold decD dsh;rw[ro_mkL hj,upto_length]
theorem decD_co{k:Nat}{V:Mx}{p:Nat->Nat}{L:List (List UInt8)}{j n:Nat}(hj:j<k)(hn:n<(ro L (p 0)).length):co (ro (decD k V p L) j) n=dwd V p L j k n:=by unfold decD dsh;rw[ro_mkL hj,co_upto_in hn]
theorem decD_even{k:Nat}{V:Mx}{p:Nat->Nat}{L:List (List UInt8)}(hk:1<=k):Even (decD k V p L):=fun i hi=>by
 rw[decD_length]at hi;rw[decD_row hi,decD_row (by omega)]
theorem decD_small{k:Nat}{V:Mx}{p:Nat->Nat}{L:List (List UInt8)}(hk:k<=256)(hp:(ro L (p 0)).length<=300):Small (decD k V p L):=⟨by rw[decD_length];omega,fun i=>by
 by_cases e:i<k
 ·rw[decD_row e];exact hp
 ·rw[ro_ge (by rw[decD_length];omega)];simp⟩
theorem enc_gen{m k i n:Nat}{D:List (List UInt8)}(hD:D.length=k)(hE:Even D)(hi:i<k+m)(hn:n<(ro D 0).length):co (ro (encL m k (parF k) D) i) n=S k (fun l=>mu (genF k i l) (co (ro D l) n)):=by
 by_cases e:i<k
 ·rw[enc_row_lt (by omega),S_one (k:=i) e (fun l hl hne=>by unfold genF;rw[if_pos e,one_ne (fun h=>hne h.symm),zero_mu])];unfold genF;rw[if_pos e,one_self,one_mu]
 ·rw[enc_row_ge' (by omega) (by omega),hD];unfold parR;rw[co_upto_in hn];unfold wd;exact S_congr fun l hl=>by unfold genF;rw[if_neg e]
theorem dec_back{m k:Nat}{V:Mx}{p:Nat->Nat}{L D:List (List UInt8)}(hk:1<=k)(hV:IsInv k (rowsF k p) V)(hp:∀i,i<k->p i<k+m)(hD:D.length=k)(hE:Even D)(h:∀i,i<k->ro L (p i)=ro (encL m k (parF k) D) (p i)):decD k V p L=D:=by
 have hl0:(ro L (p 0)).length=(ro D 0).length:=by rw[h 0 (by omega),enc_len hE (by rw[hD];exact hp 0 (by omega))]
 refine L_ext (by rw[decD_length,hD]) (fun j hj=>?_) fun j n hj hn=>?_
 ·rw[decD_length]at hj;rw[decD_row hj,hl0,hE j (by omega)]
 ·rw[decD_length]at hj;rw[decD_row hj]at hn;rw[decD_co hj hn];rw[hl0]at hn;have e1:dwd V p L j k n=mv k V (mv k (rowsF k p) (fun l=>co (ro D l) n)) j:=S_congr fun i hi=>by
   rw[h i hi,enc_gen hD hE (hp i hi) hn];rfl
  rw[e1,<-mv_assoc,mv_congr (A':=one) (x':=fun l=>co (ro D l) n) (fun l hl=>hV.left j l hj hl) (fun _ _=>rfl),one_mv _ hj]
def OkH(k m:Int)(h:List Bool)(L:List (List UInt8)):Prop:=(h.length:Int)=k+m/\(L.length:Int)=k+m/\EvenH h L
noncomputable def decX(k m:Int)(h:List Bool)(L:List (List UInt8)):Int:=by
 classical
 exact if OkC k m then (if OkH k m h L then (if ((thr h h.length).length:Int)<k then 70 else 0)else 60)else 50
noncomputable def decR(k m:Int)(h:List Bool)(L:List (List UInt8)):List (List UInt8):=by
 classical
 exact if OkC k m/\OkH k m h L/\¬((thr h h.length).length:Int)<k then encL m.toNat k.toNat (parF k.toNat) (decD k.toNat (invF k.toNat (pl7 h)) (pl7 h) L)else []
theorem decX_bad{k m:Int}{h:List Bool}{L:List (List UInt8)}(c:¬OkC k m):decX k m h L=50/\decR k m h L=[]:=⟨by unfold decX;rw[if_neg c],by unfold decR;rw[if_neg fun e=>c e.1]⟩
theorem decX_shard{k m:Int}{h:List Bool}{L:List (List UInt8)}(c:OkC k m)(d:¬OkH k m h L):decX k m h L=60/\decR k m h L=[]:=⟨by unfold decX;rw[if_pos c,if_neg d],by unfold decR;rw[if_neg fun e=>d e.2.1]⟩
theorem decX_few{k m:Int}{h:List Bool}{L:List (List UInt8)}(c:OkC k m)(d:OkH k m h L)(f:((thr h h.length).length:Int)<k):decX k m h L=70/\decR k m h L=[]:=⟨by unfold decX;rw[if_pos c,if_pos d,if_pos f],by unfold decR;rw[if_neg fun e=>e.2.2 f]⟩
theorem decX_ok{k m:Nat}{h:List Bool}{L:List (List UInt8)}(c:OkC k m)(d:OkH k m h L)(f:k<=(thr h h.length).length):decX k m h L=0/\decR k m h L=encL m k (parF k) (decD k (invF k (pl7 h)) (pl7 h) L):=⟨by unfold decX;rw[if_pos c,if_pos d,if_neg (by omega)],by unfold decR;rw[if_pos ⟨c,d,by omega⟩];rfl⟩
theorem dec_cases(k m:Int)(h:List Bool)(L:List (List UInt8)):(¬OkC k m)∨(OkC k m/\¬OkH k m h L)∨(OkC k m/\OkH k m h L/\((thr h h.length).length:Int)<k)∨(OkC k m/\OkH k m h L/\k<=((thr h h.length).length:Int)):=by
 by_cases c:OkC k m
 ·by_cases d:OkH k m h L
  ·by_cases f:((thr h h.length).length:Int)<k
   ·exact Or.inr (Or.inr (Or.inl ⟨c,d,f⟩))
   ·exact Or.inr (Or.inr (Or.inr ⟨c,d,by omega⟩))
  ·exact Or.inr (Or.inl ⟨c,d⟩)
 ·exact Or.inl c
def RdB(w:World)(v:Value)(h:List Bool):Prop:=
 ∃(a:Option Addr) (cap:Nat),v= .slice a h.length cap/\h.length<=cap/\cap<=maxLen/\(a=none->cap=0)/\∀i,i<h.length->∃b off,a=some ⟨b,off,none⟩/\b<w.heap.size/\w.cell? ⟨b,off+i,none⟩=some (.bool (hb h i))
theorem RdB.below{w w':World}{v:Value}{h:List Bool}(r:RdB w v h)(hb:Below w.heap.size w w'):RdB w' v h:=by
 obtain⟨a,cap,h1,h2,h3,h4,h5⟩:=r;refine⟨a,cap,h1,h2,h3,h4,fun i hi=>?_⟩;obtain⟨b,off,k1,k2,k3⟩:=h5 i hi;exact⟨b,off,k1,Nat.lt_of_lt_of_le k2 hb.size,(hb.cell (p:=⟨b,off+i,none⟩) k2).trans k3⟩
theorem RdB.form{w:World}{v:Value}{h:List Bool}(r:RdB w v h):∃a c,v= .slice a h.length c:=by
 obtain⟨a,c,e,_⟩:=r;exact⟨a,c,e⟩
theorem RdB.len{w:World}{v:Value}{h:List Bool}(r:RdB w v h):h.length<=maxLen:=by
 obtain⟨a,c,e,h1,h2,_⟩:=r;omega
theorem RdB.at{w:World}{a:Option Addr}{n c:Nat}{h:List Bool}(r:RdB w (.slice a n c) h){i:Nat}(hi:i<h.length):∃b off,a=some ⟨b,off,none⟩/\b<w.heap.size/\w.cell? ⟨b,off+i,none⟩=some (.bool (hb h i)):=by
 obtain⟨a',c',e,h1,h2,h3,h4⟩:=r;simp at e;obtain⟨rfl,rfl,rfl⟩:=e;exact h4 i hi
theorem RdB.get{w:World}{b off n c:Nat}{h:List Bool}(r:RdB w (.slice (some ⟨b,off,none⟩) n c) h){i:Nat}(hi:i<h.length):w.cell? ⟨b,off+i,none⟩=some (.bool (hb h i)):=by
 obtain⟨b',off',e,_,h1⟩:=r.at hi;simp at e;obtain⟨rfl,rfl⟩:=e;exact h1
theorem rdB_none{w:World}:RdB w (.slice none 0 0) []:=⟨none,0,rfl,Nat.le_refl _,Nat.zero_le _,fun _=>rfl,fun i hi=>by simp at hi⟩
theorem rdB_lit{w:World}{n b:Nat}{cs:Array Value}{e:Nat}(h:List Bool)(hb0:b=w.heap.size)(hn:h.length=n)(hs:cs.toList=h.map Value.bool)(hl:n<=1000000):RdB (w.alloc (.cells cs e)) (.slice (some ⟨b,0,none⟩) n n) h:=by
 subst hb0 hn;refine⟨some ⟨w.heap.size,0,none⟩,h.length,rfl,Nat.le_refl _,by unfold maxLen;omega,nofun,fun i hi=>⟨w.heap.size,0,rfl,by simp,?_⟩⟩;rw[Nat.zero_add,World.cell?_alloc_new,<-Array.getElem?_toList,hs,List.getElem?_map,List.getElem?_eq_getElem hi];simp[hb,List.getD,hi]
def vi(z:Nat):Value:=.int .i64 (z:Int)
def toI(zs:List Nat):List Int:=zs.map fun (z:Nat)=>(z:Int)
theorem toI_length(zs:List Nat):(toI zs).length=zs.length:=by simp[toI]
theorem toI_getD(zs:List Nat)(i:Nat):(toI zs).getD i 0=((zs.getD i 0:Nat):Int):=by
 unfold toI
 by_cases h:i<zs.length
 ·simp[List.getD,h]
 ·simp[List.getD,Nat.le_of_not_lt h]
def OwnI(w:World)(base e:Nat)(v:Value)(zs:List Nat):Prop:=w.ownsRow base e 1 v zs.length (zs.map vi)
theorem OwnI.form{w:World}{base e:Nat}{v:Value}{zs:List Nat}(h:OwnI w base e v zs):∃a c,v= .slice a zs.length c:=owns_form h
theorem OwnI.cell{w:World}{base e:Nat}{a:Option Addr}{n c:Nat}{zs:List Nat}(h:OwnI w base e (.slice a n c) zs){i:Nat}(hi:i<zs.length):∃g,a=some ⟨g,0,none⟩/\g<w.heap.size/\base<=g/\w.cell? ⟨g,i,none⟩=some (.int .i64 ((zs.getD i 0:Nat):Int)):=by
 have h':=h;obtain⟨_,⟨e,hn⟩|⟨g,cap,cur,e,hg,hh,hc,hm,hs,ht⟩⟩:=h
 ·omega
 ·simp at e;obtain⟨rfl,rfl,rfl⟩:=e;have hlt:=World.ownsRow.lt h' g rfl;refine⟨g,rfl,hlt.2,hlt.1,?_⟩;rw[World.ownsRow.cellAt h' i (by omega),List.getElem?_map,List.getElem?_eq_getElem hi];simp[vi,List.getD,hi]
theorem OwnI.rd{w:World}{base e:Nat}{v:Value}{zs:List Nat}(h:OwnI w base e v zs)(hl:zs.length<=1000000):RdI w v (toI zs):=by
 obtain⟨a,c,rfl⟩:=h.form
 by_cases h0:zs=[]
 ·subst h0;exact Or.inl ⟨a,c,rfl,rfl⟩
 ·have hpos:0<zs.length:=List.length_pos_iff.2 h0;obtain⟨g,rfl,hg,_,_⟩:=h.cell hpos;refine Or.inr ⟨g,0,c,fun e=>h0 (by unfold toI at e;simpa using e),by rw[toI_length],by rw[toI_length];unfold maxLen;omega,hg,fun i hi=>?_⟩;rw[toI_length]at hi;obtain⟨g',e,_,_,hc⟩:=h.cell hi;simp at e;subst e;rw[Nat.zero_add,hc,toI_getD]
theorem OwnI.nil(w:World)(base e:Nat):OwnI w base e (.slice none 0 0) []:=World.ownsRow_nil _ _ _ _
theorem RdI.at{w:World}{a:Option Addr}{n c:Nat}{zs:List Int}(h:RdI w (.slice a n c) zs){i:Nat}(hi:i<zs.length):∃b off,a=some ⟨b,off,none⟩/\b<w.heap.size/\w.cell? ⟨b,off+i,none⟩=some (.int .i64 (zs.getD i 0)):=by
 rcases h with⟨_,_,e,_⟩|⟨b,off,cap,_,e,_,hb,hc⟩
 ·subst e;simp at hi
 ·simp at e;obtain⟨rfl,rfl,rfl⟩:=e;exact⟨b,off,rfl,hb,hc i hi⟩
theorem RdI.get{w:World}{b off n c:Nat}{zs:List Int}(h:RdI w (.slice (some ⟨b,off,none⟩) n c) zs){i:Nat}(hi:i<zs.length):w.cell? ⟨b,off+i,none⟩=some (.int .i64 (zs.getD i 0)):=by
 obtain⟨b',off',e,_,h1⟩:=h.at hi;simp at e;obtain⟨rfl,rfl⟩:=e;exact h1
theorem wpList_append_int{P:Program}{wr:World}{ops:Array Oper}{rest:List Oper}{o:Oper}{a:Act}{Q:Exit->Act->World->Prop}(hgd:o.guard=none)(s xo:Operand)(t:TypeId)
  (ho:o.op= .call {callee:=.builtin .append,args:=#[s,xo],argTypes:=#[t,t]})
  (base e:Nat) (i:TypeInfo) (ht:P.underlying t=some (.slice e)) (hi:P.info? e=some i) (hz:i.zero=some (.int .i64 0)) (hsize:i.size=1) (hby:i.bytes=8)
  (v:Value) (zs:List Nat) (hs:a.eval s=v) (hO:OwnI wr base e v zs) (z:Nat) (et c:Nat) (hxo:a.eval xo= .slice (some ⟨wr.heap.size,0,none⟩) 1 c) (hl:zs.length<=100000) (hbase:base<=wr.heap.size)
  (h:∀v' w2,OwnI w2 base e v' (zs++[z])->Below base wr w2->wpList P ops Q rest (a.put o.dst v') w2):wpList P ops Q (o::rest) a (wr.alloc (.cells #[.int .i64 (z:Int)] et)):=by
 refine wpList_plain hgd fun K hK=>?_
 obtain⟨v',w',hrun,h2,h3,_,h5⟩:=run_append_own_at (P:=P) (wr.alloc (.cells #[.int .i64 (z:Int)] et)) base t o.type e i (.int .i64 0) 1 8 ht hi hz hsize hby rfl (by decide) v zs.length (zs.map vi) (World.ownsRow.alloc hO _) ⟨wr.heap.size,0,none⟩ 1 c [vi z] rfl (by intro j y hj;rw[add_at,Nat.zero_add];rcases j with _|j<;>simp at hj;subst hj;simp[vi]) (by intro y hy;simp at hy;rw[hy];rfl) (by unfold maxLen;omega) (by omega) (by simp;omega);unfold Oper.wp execOp;simp only[ho,resolve,invoke,builtin,Sem.run_bind,Sem.run_pure,Result.andThen_ok,List.map_toArray,List.map_cons,List.map_nil,hs,hxo,hrun];refine hK _ _ (h v' w' ?_ ?_)
 ·unfold OwnI;rw[List.length_append,List.map_append];exact h2
 ·exact((Below.refl base wr).alloc hbase _).grown h3 (by simp;omega) (fun q hq=>(World.ownsRow.lt hO q hq).1)
theorem hb_lt{h:List Bool}{i:Nat}(e:hb h i=true):i<h.length:=(pl7_at e).1
theorem info_int:(Tryz.prog.info? 3).map (fun i=>(i.zero,i.size,i.bytes))=some (some (.int .i64 0),1,8):=by kernel_rfl
def pls7(h:List Bool)(k:Nat):List Nat:=(thr h h.length).take k
theorem pls7_getD{h:List Bool}{k i:Nat}(hi:i<k):(pls7 h k).getD i 0=pl7 h i:=by
 unfold pls7 pl7;simp[List.getD,List.getElem?_take_of_lt hi]
theorem OwnI.drewN{w:World}{base e:Nat}{v:Value}{zs:List Nat}(h:OwnI w base e v zs)(n:Nat):OwnI (w.drewN n) base e v zs:=h
def EvenR(h:List Bool)(L:List (List UInt8))(r:Nat):Prop:=∀i j,i<r->j<r->hb h i=true->hb h j=true->(ro L i).length=(ro L j).length
theorem EvenR.all{h:List Bool}{L:List (List UInt8)}(e:EvenR h L h.length):EvenH h L:=fun i j hi hj=>e i j (pl7_at hi).1 (pl7_at hj).1 hi hj
theorem EvenR.no{h:List Bool}{L:List (List UInt8)}{r:Nat}(e:EvenR h L r)(hr:hb h r=false):EvenR h L (r+1):=fun i j hi hj h1 h2=>by
 refine e i j ?_ ?_ h1 h2
 ·rcases Nat.lt_or_ge i r with q|q
  ·exact q
  ·rw[show i=r by omega,hr]at h1;cases h1
 ·rcases Nat.lt_or_ge j r with q|q
  ·exact q
  ·rw[show j=r by omega,hr]at h2;cases h2
theorem thr_first{h:List Bool}{r:Nat}(h0:0<(thr h r).length):(thr h r).getD 0 0<r/\hb h ((thr h r).getD 0 0)=true:=by
 have:(thr h r).getD 0 0=(thr h r)[0]:=by simp[List.getD,h0]
 rw[this];exact thr_mem (List.getElem_mem _)
theorem EvenR.yes{h:List Bool}{L:List (List UInt8)}{r:Nat}(e:EvenR h L r)(h0:0<(thr h r).length)(hl:(ro L ((thr h r).getD 0 0)).length=(ro L r).length):EvenR h L (r+1):=by
 have key:∀i,i<r+1->hb h i=true->(ro L i).length=(ro L r).length:=fun i hi h1=>by
  rcases Nat.lt_or_ge i r with q|q
  ·rw[<-hl];exact e i _ q (thr_first h0).1 h1 (thr_first h0).2
  ·rw[show i=r by omega]
 exact fun i j hi hj h1 h2=>(key i hi h1).trans (key j hj h2).symm
theorem EvenR.one{h:List Bool}{L:List (List UInt8)}{r:Nat}(h0:(thr h r).length=0):EvenR h L (r+1):=by
 have key:∀i,i<r+1->hb h i=true->i=r:=fun i hi h1=>by
  rcases Nat.lt_or_ge i r with q|q
  ·have h2:=thr_mono (h:=h) (show i+1<=r by omega);rw[thr_yes h1,List.length_append]at h2;simp at h2;omega
  ·omega
 exact fun i j hi hj h1 h2=>by rw[key i hi h1,key j hj h2]
theorem rthere_any{va vb:Value}{h:List Bool}{L:List (List UInt8)}{w:World}(hH:RdB w va h)(hL:Rs w vb L)(hlen:h.length=L.length)(hl3:h.length<=300):
  Calls Tryz.prog 234 #[va,vb] w fun e w'=>(EvenH h L/\∃v,e= .returned (.tuple #[v,.bool true])/\OwnI w' w.heap.size 3 v (thr h h.length)/\Below w.heap.size w w')∨(¬EvenH h L/\e= .returned (.tuple #[.slice none 0 0,.bool false])/\Below w.heap.size w w'):=by
 obtain⟨i0,hi,hz0,hz1,hz2⟩:=info_parts info_int;obtain⟨a,c,rfl⟩:=hH.form;obtain⟨a',c',rfl⟩:=hL.form;have hlen':Hid (h.length=L.length):=hlen;clear hlen
 go_enter Tryz.func234,Tryz.ntmps234
 go_wp2
 go_loopw [6,7] (fun o i wr=>∃r:Nat,r<=h.length/\i= .int .i64 (r:Int)/\OwnI wr w.heap.size 3 o (thr h r)/\Hid (EvenR h L r)/\Below w.heap.size w wr) (fun _ i _=>h.length-(intOf i).toNat)
 case atStart=>exact⟨0,by omega,rfl,OwnI.nil _ _ _,fun i j hi=>by omega,Below.refl _ _⟩
 case round=>
  obtain⟨r,hr,rfl,hO,hE,hB⟩:=hrel;have hsz:=hB.size;have hq:=thr_len h r
  by_cases hlt:r<h.length
  ·have hltL:r<L.length:=by have:=hlen'.out;omega
   obtain⟨b,off,rfl,_,c1⟩:=(hH.below hB).at hlt;obtain⟨b',off',xa,xc,rfl,_,c2,_⟩:=(hL.below hB).at hltL;have hlt':(r:Int)<(h.length:Int):=by omega
   have hltL':(r:Int)<(L.length:Int):=by omega
   obtain⟨av,cv,rfl⟩:=hO.form;cases e:hb h r with
   |false=>
    rw[e]at c1;have E:Hid (thr h (r+1)=thr h r):=thr_no e;have E2:Hid (EvenR h L (r+1)):=hE.out.no e;clear hH hL e hE;go_wp2;go_roundw
    case rel=>exact⟨r+1,by omega,by go_num,by rw[E.out];exact hO,E2,hB⟩
    case measure=>simp[intOf];omega
   |true=>
    rw[e]at c1;have E:Hid (thr h (r+1)=thr h r++[r]):=thr_yes e
    by_cases h0:(thr h r).length=0
    ·have E2:Hid (EvenR h L (r+1)):=EvenR.one h0;have hz:Hid (thr h r=[]):=List.length_eq_zero_iff.1 h0;rw[hz.out]at hO ⊢;clear hH hL e hE h0 hq
     go_wp2_with fail
     go_quiet (fail)
     go_wp2_with (at_builtin;go_loud (refine wpList_append_int rfl (.tmp 36) (.tmp 38) 45 rfl w.heap.size 3 i0 Tryz.underlying45 hi hz0 hz1 hz2 (.slice av 0 cv) [] rfl (hO.drewN _) r _ 1 rfl (by simp) hsz ?_);intro v' w2 hv2 hb2)
     have HO:Hid (OwnI w2 w.heap.size 3 v' (thr h (r+1))):=by show OwnI _ _ _ _ _;rw[E.out,hz.out];exact hv2
     have HB:Hid (Below w.heap.size w w2):=(hB.drewN _).trans hb2;clear hO hv2 hb2 hB c1;go_wp2;go_roundw
     case rel=>exact⟨r+1,by omega,by go_num,HO.out,E2,HB.out⟩
     case measure=>simp[intOf];omega
    ·have hpos:0<(thr h r).length:=by omega
     have hpos':(((thr h r).length:Nat):Int)>0:=by omega
     have hpos2:(0:Int)<(((thr h r).length:Nat):Int):=by omega
     obtain⟨g,rfl,hg,_,cg⟩:=hO.cell hpos;have ht:=thr_first hpos;obtain⟨t0,ht0⟩:∃t0,Hid (t0=(thr h r).getD 0 0):=⟨_,rfl⟩;have hY:=hE.out.yes hpos;rw[<-ht0.out]at cg ht hY;have htL:t0<L.length:=by omega
     have htL':(t0:Int)<(L.length:Int):=by omega
     obtain⟨ya,yc,c3,_⟩:=(hL.below hB).get htL
     by_cases hl:(ro L t0).length=(ro L r).length
     ·have hn:(((ro L t0).length:Int)!=((ro L r).length:Int))=false:=by simp[hl]
      have E2:Hid (EvenR h L (r+1)):=hY hl;clear hH hL e hE h0 hl hY
      go_wp2_with fail
      go_quiet (fail)
      go_wp2_with (at_builtin;go_loud (refine wpList_append_int rfl (.tmp 36) (.tmp 38) 45 rfl w.heap.size 3 i0 Tryz.underlying45 hi hz0 hz1 hz2 (.slice (some ⟨g,0,none⟩) (thr h r).length cv) (thr h r) rfl (hO.drewN _) r _ 1 rfl (by omega) hsz ?_);intro v' w2 hv2 hb2)
      have HO:Hid (OwnI w2 w.heap.size 3 v' (thr h (r+1))):=by show OwnI _ _ _ _ _;rw[E.out];exact hv2
      have HB:Hid (Below w.heap.size w w2):=(hB.drewN _).trans hb2;clear hO hv2 hb2 hB c1 c2 c3 cg hn;go_wp2;go_roundw
      case rel=>exact⟨r+1,by omega,by go_num,HO.out,E2,HB.out⟩
      case measure=>simp[intOf];omega
     ·have hn:(((ro L t0).length:Int)!=((ro L r).length:Int))=true:=by simp;omega
      have E2:Hid (¬EvenH h L):=fun q=>hl (q t0 r ht.2 e)
      clear hH hL e hE h0 hl hY
      go_wp2_with fail
      go_quiet (fail)
      go_wp2;exact bodyPost_ret (v:=.tuple #[.slice none 0 0,.bool false]) (by simp[results,Tryz.results234,go_sem]) rfl (Or.inr ⟨E2.out,rfl,hB.drewN _⟩)
  ·have e:r=h.length:=by omega
   subst e;have hge:¬(h.length:Int)<(h.length:Int):=by omega
   have E2:Hid (EvenH h L):=hE.out.all;obtain⟨av,cv,rfl⟩:=hO.form;clear hH hL hE;go_wp2;exact bodyPost_ret (v:=.tuple #[.slice av (thr h h.length).length cv,.bool true]) (by simp[results,Tryz.results234,go_sem]) rfl (Or.inl ⟨E2.out,_,rfl,hO,hB⟩)
theorem pick_gen{k m:Nat}{h:List Bool}{i j:Nat}(hi:i<k)(hj:j<k)(hin:pl7 h i<k+m):pickF k (flat (k+m) k (genF k)) (toI (pls7 h k)) i j=rowsF k (pl7 h) i j:=by
 unfold pickF rowsF;rw[toI_getD,pls7_getD hi,Int.toNat_natCast];exact en_flat (genF k) hin hj
theorem pls7_length{h:List Bool}{k:Nat}(hk:k<=(thr h h.length).length):(pls7 h k).length=k:=by unfold pls7;rw[List.length_take];omega
theorem gen_inv{k m:Nat}{h:List Bool}(h2:k+m<=256)(hl:h.length=k+m)(hk:k<=(thr h h.length).length):¬IsSing k (rowsF k (pl7 h)):=
 gen_rows (N:=k+m) h2 (by omega) (pl7 h) (fun i hi=>by have:=(pl7_in (h:=h) (i:=i) (by omega)).1;omega) (fun i j hi hj hij e=>hij (pl7_inj (by omega) (by omega) e))
theorem OwnI.cap{w:World}{base e:Nat}{a:Option Addr}{n c:Nat}{zs:List Nat}(h:OwnI w base e (.slice a n c) zs):zs.length<=c/\c<=maxLen:=by
 obtain⟨_,⟨e,hn⟩|⟨g,cap,cur,e,hg,hh,hc,hm,hs,ht⟩⟩:=h
 ·simp at e;omega
 ·simp at e;obtain⟨_,_,rfl⟩:=e;exact⟨hc,hm⟩
theorem RdI.first{w:World}{b off n c k:Nat}{zs:List Nat}(h:RdI w (.slice (some ⟨b,off,none⟩) n c) (toI zs))(hk:k<=zs.length)(h0:0<k):RdI w (.slice (some ⟨b,off,none⟩) k c) (toI (zs.take k)):=by
 have hl:(toI (zs.take k)).length=k:=by rw[toI_length,List.length_take];omega
 rcases h with⟨_,_,e,_⟩|⟨b',off',cap,h1,e,h2,h3,h4⟩
 ·have:=congrArg List.length e;rw[toI_length,List.length_nil]at this;omega
 ·simp at e;obtain⟨⟨rfl,rfl⟩,rfl,rfl⟩:=e;refine Or.inr ⟨b,off,c,fun q=>by rw[q]at hl;simp at hl;omega,by rw[hl],by rw[hl];rw[toI_length]at h2;omega,h3,fun i hi=>?_⟩;rw[hl]at hi;rw[h4 i (by rw[toI_length];omega),toI_getD,toI_getD];simp[List.getD,List.getElem?_take_of_lt hi]
theorem rdec_bad{k m:Int}{va vl:Value}{w:World}(h:¬OkC k m):Calls Tryz.prog 210 #[.int .i64 k,.int .i64 m,va,vl] w (MakesRs w 50 []):=by
 go_enter Tryz.func210,Tryz.ntmps210
 go_wp2_with fail
 refine(rgen_bad _ h).mono ?_
 rintro e w2 ⟨vs,rfl,hR,b2⟩;obtain⟨sa,sc,rfl⟩:=hR.form;clear h hR;go_wp2;exact bodyPost_ret (v:=.tuple #[.slice none 0 0,.int .i64 50]) (by simp[results,Tryz.results210,go_sem]) rfl ⟨_,rfl,rs_none,below_lit b2 _⟩
theorem rdec_shard{k m:Nat}{va vl:Value}{h:List Bool}{L:List (List UInt8)}{w:World}(h1:1<=k)(h2:k+m<=256)(hH:RdB w va h)(hL:Rs w vl L)(hno:¬OkH k m h L){x y:Int}(hx:x=(k:Int))(hy:y=(m:Int)):
  Calls Tryz.prog 210 #[.int .i64 x,.int .i64 y,va,vl] w (MakesRs w 60 []):=by
 subst hx hy;obtain⟨a1,c1,rfl⟩:=hH.form;obtain⟨a2,c2,rfl⟩:=hL.form;obtain⟨s,hs⟩:∃s,Hid (s=k+m):=⟨_,rfl⟩;have g1:(k:Int)+(m:Int)=(s:Int):=by have:=hs.out;omega
 have gw:IntKind.i64.wrap (s:Int)=(s:Int):=by have:=hs.out;rw[IntKind.wrap_i64];omega
 have hno':Hid (¬(h.length=s/\L.length=s/\EvenH h L)):=fun ⟨p1,p2,p3⟩=>hno ⟨by rw[p1];omega,by rw[p2];omega,p3⟩
 clear hno
 go_enter Tryz.func210,Tryz.ntmps210
 go_wp2_with fail
 refine(rgen_ok (k:=k) (m:=m) _ h1 h2 rfl rfl).mono ?_
 rintro e w2 ⟨vs,rfl,hR,b2⟩;obtain⟨sa,sc,rfl⟩:=hR.form;generalize (flat (k+m) k (genF k)).length=N at*;rw[show((k+m:Nat):Int)=(s:Int) by rw[hs.out]];have B2:Below w.heap.size w (w2.alloc (.cells #[.int .i64 (s:Int),.int .i64 (k:Int),.slice sa N sc] 148)):=below_lit b2 _
 by_cases p1:h.length=s
 ·have q1:((h.length:Int)!=(s:Int))=false:=by simp[p1]
  have p1':Hid _:=p1;have hl3:h.length<=300:=by have:=hs.out;omega
  clear p1
  by_cases p2:L.length=s
  ·have q2:((L.length:Int)!=(s:Int))=false:=by simp[p2]
   have E:Hid (¬EvenH h L):=fun e=>hno'.out ⟨p1'.out,p2,e⟩
   have p2':Hid _:=p2;have hH2:=hH.below B2;have hL2:=hL.below B2;clear p2 hR b2 hH hL
   go_wp2_with fail
   refine(rthere_any hH2 hL2 (by rw[p1'.out,p2'.out]) hl3).mono ?_
   rintro e w3 (⟨he,_⟩|⟨_,rfl,b3⟩)
   ·exact absurd he E.out
   ·have B3:=Below.next B2 b3;clear hH2 hL2 b3 B2;go_wp2;exact bodyPost_ret (v:=.tuple #[.slice none 0 0,.int .i64 60]) (by simp[results,Tryz.results210,go_sem]) rfl ⟨_,rfl,rs_none,B3⟩
  ·have q2:((L.length:Int)!=(s:Int))=true:=by simp;omega
   clear p2 hR b2 hH hL;go_wp2;exact bodyPost_ret (v:=.tuple #[.slice none 0 0,.int .i64 60]) (by simp[results,Tryz.results210,go_sem]) rfl ⟨_,rfl,rs_none,B2⟩
 ·have q1:((h.length:Int)!=(s:Int))=true:=by simp;omega
  clear p1 hR b2 hH hL;go_wp2;exact bodyPost_ret (v:=.tuple #[.slice none 0 0,.int .i64 60]) (by simp[results,Tryz.results210,go_sem]) rfl ⟨_,rfl,rs_none,B2⟩
theorem rdec_few{k m:Nat}{va vl:Value}{h:List Bool}{L:List (List UInt8)}{w:World}(h1:1<=k)(h2:k+m<=256)(hH:RdB w va h)(hL:Rs w vl L)(hok:OkH k m h L)(hf:(thr h h.length).length<k){x y:Int}(hx:x=(k:Int))(hy:y=(m:Int)):
  Calls Tryz.prog 210 #[.int .i64 x,.int .i64 y,va,vl] w (MakesRs w 70 []):=by
 subst hx hy;obtain⟨a1,c1,rfl⟩:=hH.form;obtain⟨a2,c2,rfl⟩:=hL.form;obtain⟨s,hs⟩:∃s,Hid (s=k+m):=⟨_,rfl⟩;have g1:(k:Int)+(m:Int)=(s:Int):=by have:=hs.out;omega
 have gw:IntKind.i64.wrap (s:Int)=(s:Int):=by have:=hs.out;rw[IntKind.wrap_i64];omega
 have p1:Hid (h.length=s):=by show _=_;have:=hok.1;omega
 have p2:Hid (L.length=s):=by show _=_;have:=hok.2.1;omega
 have E:Hid (EvenH h L):=hok.2.2;have q0:((s:Int)!=(s:Int))=false:=by simp
 have hs3:Hid (s<=256):=by rw[hs.out];exact h2
 clear hok;rw[p1.out]at hH ⊢;rw[p2.out]at hL ⊢
 go_enter Tryz.func210,Tryz.ntmps210
 go_wp2_with fail
 refine(rgen_ok (k:=k) (m:=m) _ h1 h2 rfl rfl).mono ?_
 rintro e w2 ⟨vs,rfl,hR,b2⟩;obtain⟨sa,sc,rfl⟩:=hR.form;generalize (flat (k+m) k (genF k)).length=N at*;rw[show((k+m:Nat):Int)=(s:Int) by rw[hs.out]];have B2:Below w.heap.size w (w2.alloc (.cells #[.int .i64 (s:Int),.int .i64 (k:Int),.slice sa N sc] 148)):=below_lit b2 _;have hH2:=hH.below B2;have hL2:=hL.below B2;clear hR b2 hH hL
 go_wp2_with fail
 refine(rthere_any hH2 hL2 (by rw[p1.out,p2.out]) (by rw[p1.out];have:=hs3.out;omega)).mono ?_
 rintro e w3 (⟨_,v4,rfl,hO4,b3⟩|⟨he,_⟩)
 ·have B3:=Below.next B2 b3;obtain⟨pa,pc,rfl⟩:=hO4.form;have hf':(((thr h h.length).length:Nat):Int)<(k:Int):=by omega
  generalize (thr h h.length).length=n7 at*;clear hH2 hL2 b3 B2 hO4;go_wp2;exact bodyPost_ret (v:=.tuple #[.slice none 0 0,.int .i64 70]) (by simp[results,Tryz.results210,go_sem]) rfl ⟨_,rfl,rs_none,B3⟩
 ·exact absurd E.out he
end Go.Proofs.YtddnfhfangfgeaaGreat.Gf
