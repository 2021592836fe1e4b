/- JOINED: ErMath, ErRd, ErOwn, ErLawM, ErPl, ErRefA, ErGn, ErRefD, ErRefE, ErOut. -/
import Derived.Test.YtddnfhfangfgeaaGreatPome8
import Derived.Test.YtddnfhfangfgeaaGreatPome6
set_option maxHeartbeats 8000000
set_option maxRecDepth 100000
namespace Go.Proofs.YtddnfhfangfgeaaGreat.Gf
set_option linter.unusedVariables false
set_option linter.unusedSimpArgs false
open Go.RowKit
def hb(h:List Bool)(i:Nat):Bool:=h.getD i false
theorem hb_ge{h:List Bool}{i:Nat}(hi:h.length<=i):hb h i=false:=by simp[hb,List.getD,hi]
def thr(h:List Bool):Nat->List Nat
 |0=>[]
 |n+1=>if hb h n=true then thr h n++[n]else thr h n
theorem thr_yes{h:List Bool}{n:Nat}(e:hb h n=true):thr h (n+1)=thr h n++[n]:=by rw[thr,if_pos e]
theorem thr_no{h:List Bool}{n:Nat}(e:hb h n=false):thr h (n+1)=thr h n:=by rw[thr,if_neg (by rw[e];decide)]
theorem thr_mem{h:List Bool}{n x:Nat}(hx:x∈thr h n):x<n/\hb h x=true:=by
 induction n with
 |zero=>simp[thr]at hx
 |succ n ih=>
  cases e:hb h n with
  |true=>
   rw[thr_yes e]at hx
   rcases List.mem_append.1 hx with h1|h1
   ·have:=ih h1;exact⟨Zo,this.2⟩
   ·rw[List.mem_singleton]at h1;subst h1;exact⟨Zo,e⟩
  |false=>rw[thr_no e]at hx;have:=ih hx;exact⟨Zo,this.2⟩
theorem thr_len(h:List Bool)(n:Nat):(thr h n).length<=n:=by
 induction n with
 |zero=>simp[thr]
 |succ n ih=>
  cases e:hb h n with
  |true=>rw[thr_yes e,List.length_append];simp;omega
  |false=>rw[thr_no e];omega
theorem thr_pre(h:List Bool){i n:Nat}(hin:i<=n):∃t,thr h n=thr h i++t:=by
 induction n with
 |zero=>rw[Nat.le_zero.1 hin];exact⟨[],Zs⟩
 |succ n ih=>
  by_cases e:i=n+1
  ·subst e;exact⟨[],Zs⟩
  ·obtain⟨t,ht⟩:=ih Zo;cases e:hb h n with
   |true=>exact⟨t++[n],by rw[thr_yes e,ht,List.append_assoc]⟩
   |false=>exact⟨t,by rw[thr_no e,ht]⟩
def pl7(h:List Bool)(i:Nat):Nat:=(thr h h.length).getD i 0
theorem getD_append_left{l t:List Nat}{i:Nat}(hi:i<l.length):(l++t).getD i 0=l.getD i 0:=by simp[List.getD,List.getElem?_append_left hi]
theorem pl7_in{h:List Bool}{i:Nat}(hi:i<(thr h h.length).length):pl7 h i<h.length/\hb h (pl7 h i)=true:=by
 have e:pl7 h i=(thr h h.length)[i]:=by simp[pl7,List.getD,hi]
 rw[e];exact thr_mem (List.getElem_mem hi)
theorem pl7_at{h:List Bool}{i:Nat}(e:hb h i=true):i<h.length/\(thr h i).length<(thr h h.length).length/\pl7 h (thr h i).length=i:=by
 have hi:i<h.length:=by
  rcases Nat.lt_or_ge i h.length with k|k
  ·exact k
  ·rw[hb_ge k]at e;cases e
 obtain⟨t,ht⟩:=thr_pre h (show i+1<=h.length from hi);rw[thr_yes e]at ht;refine⟨hi,by rw[ht];simp,?_⟩;unfold pl7;rw[ht];simp[List.getD]
theorem thr_mono{h:List Bool}{i j:Nat}(hij:i<=j):(thr h i).length<=(thr h j).length:=by
 obtain⟨t,ht⟩:=thr_pre h hij;rw[ht,List.length_append];omega
theorem pl7_rank{h:List Bool}{i:Nat}(hi:i<(thr h h.length).length):(thr h (pl7 h i)).length=i:=by
 --by the places ahead of n
 have key:∀n i,i<(thr h n).length->(thr h ((thr h n).getD i 0)).length=i:=by
  intro n
  induction n with
  |zero=>intro i hi;simp[thr]at hi
  |succ n ih=>
   intro i hi;cases e:hb h n with
   |true=>
    rw[thr_yes e]at hi ⊢
    by_cases hk:i<(thr h n).length
    ·rw[getD_append_left hk];exact ih i hk
    ·simp at hi;have hi2:i=(thr h n).length:=by omega
     subst hi2
     have:(thr h n++[n]).getD (thr h n).length 0=n:=by simp[List.getD]
     rw[this]
   |false=>rw[thr_no e]at hi ⊢;exact ih i hi
 exact key _ i hi
theorem pl7_inj{h:List Bool}{i j:Nat}(hi:i<(thr h h.length).length)(hj:j<(thr h h.length).length)(e:pl7 h i=pl7 h j):i=j:=by
 rw[<-pl7_rank hi,e,pl7_rank hj]
def EvenH(h:List Bool)(L:List (List UInt8)):Prop:=∀i j,hb h i=true->hb h j=true->(ro L i).length=(ro L j).length
def SmallH(h:List Bool)(L:List (List UInt8)):Prop:=L.length<=300/\∀i,hb h i=true->(ro L i).length<=300
theorem Small.h{L:List (List UInt8)}(hS:Small L)(h:List Bool):SmallH h L:=⟨hS.1,fun i _=>hS.2 i⟩
def rowsF(k:Nat)(p:Nat->Nat):Mx:=fun i j=>genF k (p i) j
noncomputable def invF(k:Nat)(p:Nat->Nat):Mx:=by
 classical
 exact if h:∃V,IsInv k (rowsF k p) V then h.choose else one
theorem invF_is{k:Nat}{p:Nat->Nat}(h:∃V,IsInv k (rowsF k p) V):IsInv k (rowsF k p) (invF k p):=by
 unfold invF;rw[dif_pos h];exact h.choose_spec
theorem invF_flat{k:Nat}{p:Nat->Nat}{V:Mx}(h:IsInv k (rowsF k p) V):flat k k V=flat k k (invF k p):=flat_congr fun i j hi hj=>(invF_is ⟨V,h⟩).unique h i j hi hj
def dwd(V:Mx)(p:Nat->Nat)(L:List (List UInt8))(j c n:Nat):UInt8:=S c (fun i=>mu (V j i) (co (ro L (p i)) n))
theorem dwd_succ(V:Mx)(p:Nat->Nat)(L:List (List UInt8))(j c n:Nat):dwd V p L j (c+1) n=dwd V p L j c n^^^mu (V j c) (co (ro L (p c)) n):=rfl
def dsh(k:Nat)(V:Mx)(p:Nat->Nat)(L:List (List UInt8))(j:Nat):List UInt8:=upto (dwd V p L j k) (ro L (p 0)).length
def decD(k:Nat)(V:Mx)(p:Nat->Nat)(L:List (List UInt8)):List (List UInt8):=mkL k (dsh k V p L)
theorem decD_length(k:Nat)(V:Mx)(p:Nat->Nat)(L:List (List UInt8)):(decD k V p L).length=k:=mkL_length _ _
theorem decD_row{k:Nat}{V:Mx}{p:Nat->Nat}{L:List (List UInt8)}{j:Nat}(hj:j<k):(ro (decD k V p L) j).length=(ro L (p 0)).length:=by unfold decD dsh;rw[ro_mkL hj,upto_length]
theorem decD_co{k:Nat}{V:Mx}{p:Nat->Nat}{L:List (List UInt8)}{j n:Nat}(hj:j<k)(hn:n<(ro L (p 0)).length):co (ro (decD k V p L) j) n=dwd V p L j k n:=by unfold decD dsh;rw[ro_mkL hj,co_upto_in hn]
theorem decD_even{k:Nat}{V:Mx}{p:Nat->Nat}{L:List (List UInt8)}(hk:1<=k):Even (decD k V p L):=fun i hi=>by
 rw[decD_length]at hi;rw[decD_row hi,decD_row Zo]
theorem decD_small{k:Nat}{V:Mx}{p:Nat->Nat}{L:List (List UInt8)}(hk:k<=256)(hp:(ro L (p 0)).length<=300):Small (decD k V p L):=⟨by rw[decD_length];omega,fun i=>by
 by_cases e:i<k
 ·rw[decD_row e];exact hp
 ·rw[ro_ge (by rw[decD_length];omega)];simp⟩
theorem enc_gen{m k i n:Nat}{D:List (List UInt8)}(hD:D.length=k)(hE:Even D)(hi:i<k+m)(hn:n<(ro D 0).length):co (ro (encL m k (parF k) D) i) n=S k (fun l=>mu (genF k i l) (co (ro D l) n)):=by
 by_cases e:i<k
 ·rw[enc_row_lt Zo,S_one (k:=i) e (fun l hl hne=>by unfold genF;rw[if_pos e,one_ne (fun h=>hne h.symm),zero_mu])];unfold genF;rw[if_pos e,one_self,one_mu]
 ·rw[enc_row_ge' Zo Zo,hD];unfold parR;rw[co_upto_in hn];unfold wd;exact S_congr fun l hl=>by unfold genF;rw[if_neg e]
theorem dec_back{m k:Nat}{V:Mx}{p:Nat->Nat}{L D:List (List UInt8)}(hk:1<=k)(hV:IsInv k (rowsF k p) V)(hp:∀i,i<k->p i<k+m)(hD:D.length=k)(hE:Even D)(h:∀i,i<k->ro L (p i)=ro (encL m k (parF k) D) (p i)):decD k V p L=D:=by
 have hl0:(ro L (p 0)).length=(ro D 0).length:=by rw[h 0 Zo,enc_len hE (by rw[hD];exact hp 0 Zo)]
 refine L_ext (by rw[decD_length,hD]) (fun j hj=>?_) fun j n hj hn=>?_
 ·rw[decD_length]at hj;rw[decD_row hj,hl0,hE j Zo]
 ·rw[decD_length]at hj;rw[decD_row hj]at hn;rw[decD_co hj hn];rw[hl0]at hn;have e1:dwd V p L j k n=mv k V (mv k (rowsF k p) (fun l=>co (ro D l) n)) j:=S_congr fun i hi=>by
   rw[h i hi,enc_gen hD hE (hp i hi) hn];rfl
  rw[e1,<-mv_assoc,mv_congr (A':=one) (x':=fun l=>co (ro D l) n) (fun l hl=>hV.left j l hj hl) (fun _ _=>rfl),one_mv _ hj]
def OkH(k m:Int)(h:List Bool)(L:List (List UInt8)):Prop:=(h.length:Int)=k+m/\(L.length:Int)=k+m/\EvenH h L
noncomputable def decX(k m:Int)(h:List Bool)(L:List (List UInt8)):Int:=by
 classical
 exact if OkC k m then (if OkH k m h L then (if ((thr h h.length).length:Int)<k then 70 else 0)else 60)else 50
noncomputable def decR(k m:Int)(h:List Bool)(L:List (List UInt8)):List (List UInt8):=by
 classical
 exact if OkC k m/\OkH k m h L/\¬((thr h h.length).length:Int)<k then encL m.toNat k.toNat (parF k.toNat) (decD k.toNat (invF k.toNat (pl7 h)) (pl7 h) L)else []
theorem decX_bad{k m:Int}{h:List Bool}{L:List (List UInt8)}(c:¬OkC k m):decX k m h L=50/\decR k m h L=[]:=⟨by unfold decX;rw[if_neg c],by unfold decR;rw[if_neg fun e=>c e.1]⟩
theorem decX_shard{k m:Int}{h:List Bool}{L:List (List UInt8)}(c:OkC k m)(d:¬OkH k m h L):decX k m h L=60/\decR k m h L=[]:=⟨by unfold decX;rw[if_pos c,if_neg d],by unfold decR;rw[if_neg fun e=>d e.2.1]⟩
theorem decX_few{k m:Int}{h:List Bool}{L:List (List UInt8)}(c:OkC k m)(d:OkH k m h L)(f:((thr h h.length).length:Int)<k):decX k m h L=70/\decR k m h L=[]:=⟨by unfold decX;rw[if_pos c,if_pos d,if_pos f],by unfold decR;rw[if_neg fun e=>e.2.2 f]⟩
theorem decX_ok{k m:Nat}{h:List Bool}{L:List (List UInt8)}(c:OkC k m)(d:OkH k m h L)(f:k<=(thr h h.length).length):decX k m h L=0/\decR k m h L=encL m k (parF k) (decD k (invF k (pl7 h)) (pl7 h) L):=⟨by unfold decX;rw[if_pos c,if_pos d,if_neg Zo],by unfold decR;rw[if_pos ⟨c,d,Zo⟩];rfl⟩
theorem dec_cases(k m:Int)(h:List Bool)(L:List (List UInt8)):(¬OkC k m)∨(OkC k m/\¬OkH k m h L)∨(OkC k m/\OkH k m h L/\((thr h h.length).length:Int)<k)∨(OkC k m/\OkH k m h L/\k<=((thr h h.length).length:Int)):=by
 by_cases c:OkC k m
 ·by_cases d:OkH k m h L
  ·by_cases f:((thr h h.length).length:Int)<k
   ·exact Or.inr (Or.inr (Or.inl ⟨c,d,f⟩))
   ·exact Or.inr (Or.inr (Or.inr ⟨c,d,Zo⟩))
  ·exact Or.inr (Or.inl ⟨c,d⟩)
 ·exact Or.inl c
def RdB(w:World)(v:Value)(h:List Bool):Prop:=
 ∃(a:Option Addr) (cap:Nat),v= .slice a h.length cap/\h.length<=cap/\cap<=maxLen/\(a=none->cap=0)/\∀i,i<h.length->∃b off,a=some ⟨b,off,none⟩/\b<w.heap.size/\w.cell? ⟨b,off+i,none⟩=some (.bool (hb h i))
theorem RdB.below{w w':World}{v:Value}{h:List Bool}(r:RdB w v h)(hb:Below w.heap.size w w'):RdB w' v h:=by
 obtain⟨a,cap,h1,h2,h3,h4,h5⟩:=r;refine⟨a,cap,h1,h2,h3,h4,fun i hi=>?_⟩;obtain⟨b,off,k1,k2,k3⟩:=h5 i hi;exact⟨b,off,k1,Zu k2 hb.size,(hb.cell (p:=⟨b,off+i,none⟩) k2).trans k3⟩
theorem RdB.form{w:World}{v:Value}{h:List Bool}(r:RdB w v h):∃a c,v= .slice a h.length c:=by
 obtain⟨a,c,e,_⟩:=r;exact⟨a,c,e⟩
theorem RdB.len{w:World}{v:Value}{h:List Bool}(r:RdB w v h):h.length<=maxLen:=by
 obtain⟨a,c,e,h1,h2,_⟩:=r;omega
theorem RdB.at{w:World}{a:Option Addr}{n c:Nat}{h:List Bool}(r:RdB w (.slice a n c) h){i:Nat}(hi:i<h.length):∃b off,a=some ⟨b,off,none⟩/\b<w.heap.size/\w.cell? ⟨b,off+i,none⟩=some (.bool (hb h i)):=by
 obtain⟨a',c',e,h1,h2,h3,h4⟩:=r;simp at e;obtain⟨rfl,rfl,rfl⟩:=e;exact h4 i hi
theorem RdB.get{w:World}{b off n c:Nat}{h:List Bool}(r:RdB w (.slice (some ⟨b,off,none⟩) n c) h){i:Nat}(hi:i<h.length):w.cell? ⟨b,off+i,none⟩=some (.bool (hb h i)):=by
 obtain⟨b',off',e,_,h1⟩:=r.at hi;simp at e;obtain⟨rfl,rfl⟩:=e;exact h1
theorem rdB_none{w:World}:RdB w (.slice none 0 0) []:=⟨none,0,rfl,Zr,Zz,fun _=>rfl,fun i hi=>by simp at hi⟩
theorem rdB_lit{w:World}{n b:Nat}{cs:Array Value}{e:Nat}(h:List Bool)(hb0:b=w.heap.size)(hn:h.length=n)(hs:cs.toList=h.map Value.bool)(hl:n<=1000000):RdB (w.alloc (.cells cs e)) (.slice (some ⟨b,0,none⟩) n n) h:=by
 subst hb0 hn;refine⟨some ⟨w.heap.size,0,none⟩,h.length,rfl,Zr,Zl,nofun,fun i hi=>⟨w.heap.size,0,rfl,Zs,?_⟩⟩;rw[Nat.zero_add,World.cell?_alloc_new,<-Array.getElem?_toList,hs,List.getElem?_map,List.getElem?_eq_getElem hi];simp[hb,List.getD,hi]
def vi(z:Nat):Value:=.int .i64 (z:Int)
def toI(zs:List Nat):List Int:=zs.map fun (z:Nat)=>(z:Int)
theorem toI_length(zs:List Nat):(toI zs).length=zs.length:=by simp[toI]
theorem toI_getD(zs:List Nat)(i:Nat):(toI zs).getD i 0=((zs.getD i 0:Nat):Int):=by
 unfold toI
 by_cases h:i<zs.length
 ·simp[List.getD,h]
 ·simp[List.getD,Nat.le_of_not_lt h]
def OwnI(w:World)(base e:Nat)(v:Value)(zs:List Nat):Prop:=w.ownsRow base e 1 v zs.length (zs.map vi)
theorem OwnI.form{w:World}{base e:Nat}{v:Value}{zs:List Nat}(h:OwnI w base e v zs):∃a c,v= .slice a zs.length c:=owns_form h
theorem OwnI.cell{w:World}{base e:Nat}{a:Option Addr}{n c:Nat}{zs:List Nat}(h:OwnI w base e (.slice a n c) zs){i:Nat}(hi:i<zs.length):∃g,a=some ⟨g,0,none⟩/\g<w.heap.size/\base<=g/\w.cell? ⟨g,i,none⟩=some (.int .i64 ((zs.getD i 0:Nat):Int)):=by
 have h':=h;obtain⟨_,⟨e,hn⟩|⟨g,cap,cur,e,hg,hh,hc,hm,hs,ht⟩⟩:=h
 ·omega
 ·simp at e;obtain⟨rfl,rfl,rfl⟩:=e;have hlt:=Zv h' g rfl;refine⟨g,rfl,hlt.2,hlt.1,?_⟩;rw[World.ownsRow.cellAt h' i Zo,List.getElem?_map,List.getElem?_eq_getElem hi];simp[vi,List.getD,hi]
theorem OwnI.rd{w:World}{base e:Nat}{v:Value}{zs:List Nat}(h:OwnI w base e v zs)(hl:zs.length<=1000000):RdI w v (toI zs):=by
 obtain⟨a,c,rfl⟩:=h.form
 by_cases h0:zs=[]
 ·subst h0;exact Or.inl ⟨a,c,rfl,rfl⟩
 ·have hpos:0<zs.length:=List.length_pos_iff.2 h0;obtain⟨g,rfl,hg,_,_⟩:=h.cell hpos;refine Or.inr ⟨g,0,c,fun e=>h0 (by unfold toI at e;simpa using e),by rw[toI_length],by rw[toI_length];unfold maxLen;omega,hg,fun i hi=>?_⟩;rw[toI_length]at hi;obtain⟨g',e,_,_,hc⟩:=h.cell hi;simp at e;subst e;rw[Nat.zero_add,hc,toI_getD]
theorem OwnI.nil(w:World)(base e:Nat):OwnI w base e (.slice none 0 0) []:=World.ownsRow_nil _ _ _ _
theorem RdI.at{w:World}{a:Option Addr}{n c:Nat}{zs:List Int}(h:RdI w (.slice a n c) zs){i:Nat}(hi:i<zs.length):∃b off,a=some ⟨b,off,none⟩/\b<w.heap.size/\w.cell? ⟨b,off+i,none⟩=some (.int .i64 (zs.getD i 0)):=by
 rcases h with⟨_,_,e,_⟩|⟨b,off,cap,_,e,_,hb,hc⟩
 ·subst e;simp at hi
 ·simp at e;obtain⟨rfl,rfl,rfl⟩:=e;exact⟨b,off,rfl,hb,hc i hi⟩
theorem RdI.get{w:World}{b off n c:Nat}{zs:List Int}(h:RdI w (.slice (some ⟨b,off,none⟩) n c) zs){i:Nat}(hi:i<zs.length):w.cell? ⟨b,off+i,none⟩=some (.int .i64 (zs.getD i 0)):=by
 obtain⟨b',off',e,_,h1⟩:=h.at hi;simp at e;obtain⟨rfl,rfl⟩:=e;exact h1
theorem wpList_append_int{P:Program}{wr:World}{ops:Array Oper}{rest:List Oper}{o:Oper}{a:Act}{Q:Exit->Act->World->Prop}(hgd:o.guard=none)(s xo:Operand)(t:TypeId)
  (ho:o.op= .call {callee:=.builtin .append,args:=#[s,xo],argTypes:=#[t,t]})
  (base e:Nat) (i:TypeInfo) (ht:P.underlying t=some (.slice e)) (hi:P.info? e=some i) (hz:i.zero=some (.int .i64 0)) (hsize:i.size=1) (hby:i.bytes=8)
  (v:Value) (zs:List Nat) (hs:a.eval s=v) (hO:OwnI wr base e v zs) (z:Nat) (et c:Nat) (hxo:a.eval xo= .slice (some ⟨wr.heap.size,0,none⟩) 1 c) (hl:zs.length<=100000) (hbase:base<=wr.heap.size)
  (h:∀v' w2,OwnI w2 base e v' (zs++[z])->Below base wr w2->wpList P ops Q rest (a.put o.dst v') w2):wpList P ops Q (o::rest) a (wr.alloc (.cells #[.int .i64 (z:Int)] et)):=by
 refine wpList_plain hgd fun K hK=>?_
 obtain⟨v',w',hrun,h2,h3,_,h5⟩:=run_append_own_at (P:=P) (wr.alloc (.cells #[.int .i64 (z:Int)] et)) base t o.type e i (.int .i64 0) 1 8 ht hi hz hsize hby rfl Zd v zs.length (zs.map vi) (World.ownsRow.alloc hO _) ⟨wr.heap.size,0,none⟩ 1 c [vi z] rfl (by intro j y hj;rw[add_at,Nat.zero_add];rcases j with _|j<;>simp at hj;subst hj;simp[vi]) (by intro y hy;simp at hy;rw[hy];rfl) Zl Zo Zm;unfold Oper.wp execOp;simp only[ho,resolve,invoke,builtin,Sem.run_bind,Sem.run_pure,Result.andThen_ok,List.map_toArray,List.map_cons,List.map_nil,hs,hxo,hrun];refine hK _ _ (h v' w' ?_ ?_)
 ·unfold OwnI;rw[List.length_append,List.map_append];exact h2
 ·exact((Below.refl base wr).alloc hbase _).grown h3 Zm (fun q hq=>(Zv hO q hq).1)
theorem hb_lt{h:List Bool}{i:Nat}(e:hb h i=true):i<h.length:=(pl7_at e).1
theorem info_int:(Tryz.prog.info? 3).map (fun i=>(i.zero,i.size,i.bytes))=some (some (.int .i64 0),1,8):=Zk
def pls7(h:List Bool)(k:Nat):List Nat:=(thr h h.length).take k
theorem pls7_getD{h:List Bool}{k i:Nat}(hi:i<k):(pls7 h k).getD i 0=pl7 h i:=by
 unfold pls7 pl7;simp[List.getD,List.getElem?_take_of_lt hi]
theorem OwnI.drewN{w:World}{base e:Nat}{v:Value}{zs:List Nat}(h:OwnI w base e v zs)(n:Nat):OwnI (w.drewN n) base e v zs:=h
def EvenR(h:List Bool)(L:List (List UInt8))(r:Nat):Prop:=∀i j,i<r->j<r->hb h i=true->hb h j=true->(ro L i).length=(ro L j).length
theorem EvenR.all{h:List Bool}{L:List (List UInt8)}(e:EvenR h L h.length):EvenH h L:=fun i j hi hj=>e i j (pl7_at hi).1 (pl7_at hj).1 hi hj
theorem EvenR.no{h:List Bool}{L:List (List UInt8)}{r:Nat}(e:EvenR h L r)(hr:hb h r=false):EvenR h L (r+1):=fun i j hi hj h1 h2=>by
 refine e i j ?_ ?_ h1 h2
 ·rcases Nat.lt_or_ge i r with q|q
  ·exact q
  ·rw[show i=r by omega,hr]at h1;cases h1
 ·rcases Nat.lt_or_ge j r with q|q
  ·exact q
  ·rw[show j=r by omega,hr]at h2;cases h2
theorem thr_first{h:List Bool}{r:Nat}(h0:0<(thr h r).length):(thr h r).getD 0 0<r/\hb h ((thr h r).getD 0 0)=true:=by
 have:(thr h r).getD 0 0=(thr h r)[0]:=by simp[List.getD,h0]
 rw[this];exact thr_mem (List.getElem_mem _)
theorem EvenR.yes{h:List Bool}{L:List (List UInt8)}{r:Nat}(e:EvenR h L r)(h0:0<(thr h r).length)(hl:(ro L ((thr h r).getD 0 0)).length=(ro L r).length):EvenR h L (r+1):=by
 have key:∀i,i<r+1->hb h i=true->(ro L i).length=(ro L r).length:=fun i hi h1=>by
  rcases Nat.lt_or_ge i r with q|q
  ·rw[<-hl];exact e i _ q (thr_first h0).1 h1 (thr_first h0).2
  ·rw[show i=r by omega]
 exact fun i j hi hj h1 h2=>(key i hi h1).trans (key j hj h2).symm
theorem EvenR.one{h:List Bool}{L:List (List UInt8)}{r:Nat}(h0:(thr h r).length=0):EvenR h L (r+1):=by
 have key:∀i,i<r+1->hb h i=true->i=r:=fun i hi h1=>by
  rcases Nat.lt_or_ge i r with q|q
  ·have h2:=thr_mono (h:=h) (show i+1<=r by omega);rw[thr_yes h1,List.length_append]at h2;simp at h2;omega
  ·omega
 exact fun i j hi hj h1 h2=>by rw[key i hi h1,key j hj h2]
theorem z9_2{p:Prop} (h:p:=by
 go_wp2;go_roundw
 case rel=>exact⟨r+1,Zo,Zg,HO.out,E2,HB.out⟩
 case measure=>simp[intOf];omega
 ):p:=h
theorem rthere_any{va vb:Value}{h:List Bool}{L:List (List UInt8)}{w:World}(hH:RdB w va h)(hL:Rs w vb L)(hlen:h.length=L.length)(hl3:h.length<=300):
  Calls Tryz.prog 234 #[va,vb] w fun e w'=>(EvenH h L/\∃v,e= .returned (.tuple #[v,.bool true])/\OwnI w' w.heap.size 3 v (thr h h.length)/\Below w.heap.size w w')∨(¬EvenH h L/\e= .returned (.tuple #[.slice none 0 0,.bool false])/\Below w.heap.size w w'):=by
 obtain⟨i0,hi,hz0,hz1,hz2⟩:=info_parts info_int;obtain⟨a,c,rfl⟩:=hH.form;obtain⟨a',c',rfl⟩:=hL.form;have hlen':Hid (h.length=L.length):=hlen;clear hlen
 go_enter Tryz.func234,Tryz.ntmps234
 go_wp2
 go_loopw [6,7] (fun o i wr=>∃r:Nat,r<=h.length/\i= .int .i64 (r:Int)/\OwnI wr w.heap.size 3 o (thr h r)/\Hid (EvenR h L r)/\Below w.heap.size w wr) (fun _ i _=>h.length-(intOf i).toNat)
 case atStart=>exact⟨0,Zo,rfl,OwnI.nil _ _ _,fun i j hi=>Zo,Zf⟩
 case round=>
  obtain⟨r,hr,rfl,hO,hE,hB⟩:=hrel;have hsz:=hB.size;have hq:=thr_len h r
  by_cases hlt:r<h.length
  ·have hltL:r<L.length:=by have:=hlen'.out;omega
   obtain⟨b,off,rfl,_,c1⟩:=(hH.below hB).at hlt;obtain⟨b',off',xa,xc,rfl,_,c2,_⟩:=(hL.below hB).at hltL;have hlt':(r:Int)<(h.length:Int):=Zo
   have hltL':(r:Int)<(L.length:Int):=Zo
   obtain⟨av,cv,rfl⟩:=hO.form;cases e:hb h r with
   |false=>
    rw[e]at c1;have E:Hid (thr h (r+1)=thr h r):=thr_no e;have E2:Hid (EvenR h L (r+1)):=hE.out.no e;clear hH hL e hE;go_wp2;go_roundw
    case rel=>exact⟨r+1,Zo,Zg,by rw[E.out];exact hO,E2,hB⟩
    case measure=>simp[intOf];omega
   |true=>
    rw[e]at c1;have E:Hid (thr h (r+1)=thr h r++[r]):=thr_yes e
    by_cases h0:(thr h r).length=0
    ·have E2:Hid (EvenR h L (r+1)):=EvenR.one h0;have hz:Hid (thr h r=[]):=List.length_eq_zero_iff.1 h0;rw[hz.out]at hO ⊢;clear hH hL e hE h0 hq
     go_wp2_with fail
     go_quiet (fail)
     go_wp2_with (at_builtin;go_loud (refine wpList_append_int rfl (.tmp 36) (.tmp 38) 45 rfl w.heap.size 3 i0 Tryz.underlying45 hi hz0 hz1 hz2 (.slice av 0 cv) [] rfl (hO.drewN _) r _ 1 rfl Zs hsz ?_);intro v' w2 hv2 hb2)
     have HO:Hid (OwnI w2 w.heap.size 3 v' (thr h (r+1))):=by show OwnI _ _ _ _ _;rw[E.out,hz.out];exact hv2
     have HB:Hid (Below w.heap.size w w2):=(hB.drewN _).trans hb2;clear hO hv2 hb2 hB c1;exact z9_2
    ·have hpos:0<(thr h r).length:=by omega
     have hpos':(((thr h r).length:Nat):Int)>0:=Zo
     have hpos2:(0:Int)<(((thr h r).length:Nat):Int):=Zo
     obtain⟨g,rfl,hg,_,cg⟩:=hO.cell hpos;have ht:=thr_first hpos;obtain⟨t0,ht0⟩:∃t0,Hid (t0=(thr h r).getD 0 0):=⟨_,rfl⟩;have hY:=hE.out.yes hpos;rw[<-ht0.out]at cg ht hY;have htL:t0<L.length:=Zo
     have htL':(t0:Int)<(L.length:Int):=Zo
     obtain⟨ya,yc,c3,_⟩:=(hL.below hB).get htL
     by_cases hl:(ro L t0).length=(ro L r).length
     ·have hn:(((ro L t0).length:Int)!=((ro L r).length:Int))=false:=by simp[hl]
      have E2:Hid (EvenR h L (r+1)):=hY hl;clear hH hL e hE h0 hl hY
      go_wp2_with fail
      go_quiet (fail)
      go_wp2_with (at_builtin;go_loud (refine wpList_append_int rfl (.tmp 36) (.tmp 38) 45 rfl w.heap.size 3 i0 Tryz.underlying45 hi hz0 hz1 hz2 (.slice (some ⟨g,0,none⟩) (thr h r).length cv) (thr h r) rfl (hO.drewN _) r _ 1 rfl Zo hsz ?_);intro v' w2 hv2 hb2)
      have HO:Hid (OwnI w2 w.heap.size 3 v' (thr h (r+1))):=by show OwnI _ _ _ _ _;rw[E.out];exact hv2
      have HB:Hid (Below w.heap.size w w2):=(hB.drewN _).trans hb2;clear hO hv2 hb2 hB c1 c2 c3 cg hn;exact z9_2
     ·have hn:(((ro L t0).length:Int)!=((ro L r).length:Int))=true:=by simp;omega
      have E2:Hid (¬EvenH h L):=fun q=>hl (q t0 r ht.2 e)
      clear hH hL e hE h0 hl hY
      go_wp2_with fail
      go_quiet (fail)
      go_wp2;exact bodyPost_ret (v:=.tuple #[.slice none 0 0,.bool false]) (by simp[results,Tryz.results234,go_sem]) rfl (Or.inr ⟨E2.out,rfl,hB.drewN _⟩)
  ·have e:r=h.length:=by omega
   subst e;have hge:¬(h.length:Int)<(h.length:Int):=Zo
   have E2:Hid (EvenH h L):=hE.out.all;obtain⟨av,cv,rfl⟩:=hO.form;clear hH hL hE;go_wp2;exact bodyPost_ret (v:=.tuple #[.slice av (thr h h.length).length cv,.bool true]) (by simp[results,Tryz.results234,go_sem]) rfl (Or.inl ⟨E2.out,_,rfl,hO,hB⟩)
theorem pick_gen{k m:Nat}{h:List Bool}{i j:Nat}(hi:i<k)(hj:j<k)(hin:pl7 h i<k+m):pickF k (flat (k+m) k (genF k)) (toI (pls7 h k)) i j=rowsF k (pl7 h) i j:=by
 unfold pickF rowsF;rw[toI_getD,pls7_getD hi,Int.toNat_natCast];exact en_flat (genF k) hin hj
theorem pls7_length{h:List Bool}{k:Nat}(hk:k<=(thr h h.length).length):(pls7 h k).length=k:=by unfold pls7;rw[List.length_take];omega
theorem gen_inv{k m:Nat}{h:List Bool}(h2:k+m<=256)(hl:h.length=k+m)(hk:k<=(thr h h.length).length):¬IsSing k (rowsF k (pl7 h)):=
 gen_rows (N:=k+m) h2 Zo (pl7 h) (fun i hi=>by have:=(pl7_in (h:=h) (i:=i) Zo).1;omega) (fun i j hi hj hij e=>hij (pl7_inj Zo Zo e))
theorem OwnI.cap{w:World}{base e:Nat}{a:Option Addr}{n c:Nat}{zs:List Nat}(h:OwnI w base e (.slice a n c) zs):zs.length<=c/\c<=maxLen:=by
 obtain⟨_,⟨e,hn⟩|⟨g,cap,cur,e,hg,hh,hc,hm,hs,ht⟩⟩:=h
 ·simp at e;omega
 ·simp at e;obtain⟨_,_,rfl⟩:=e;exact⟨hc,hm⟩
theorem RdI.first{w:World}{b off n c k:Nat}{zs:List Nat}(h:RdI w (.slice (some ⟨b,off,none⟩) n c) (toI zs))(hk:k<=zs.length)(h0:0<k):RdI w (.slice (some ⟨b,off,none⟩) k c) (toI (zs.take k)):=by
 have hl:(toI (zs.take k)).length=k:=by rw[toI_length,List.length_take];omega
 rcases h with⟨_,_,e,_⟩|⟨b',off',cap,h1,e,h2,h3,h4⟩
 ·have:=congrArg List.length e;rw[toI_length,List.length_nil]at this;omega
 ·simp at e;obtain⟨⟨rfl,rfl⟩,rfl,rfl⟩:=e;refine Or.inr ⟨b,off,c,fun q=>by rw[q]at hl;simp at hl;omega,by rw[hl],by rw[hl];rw[toI_length]at h2;omega,h3,fun i hi=>?_⟩;rw[hl]at hi;rw[h4 i (by rw[toI_length];omega),toI_getD,toI_getD];simp[List.getD,List.getElem?_take_of_lt hi]
theorem rdec_bad{k m:Int}{va vl:Value}{w:World}(h:¬OkC k m):Calls Tryz.prog 210 #[.int .i64 k,.int .i64 m,va,vl] w (MakesRs w 50 []):=by
 go_enter Tryz.func210,Tryz.ntmps210
 go_wp2_with fail
 refine(rgen_bad _ h).mono ?_
 rintro e w2 ⟨vs,rfl,hR,b2⟩;obtain⟨sa,sc,rfl⟩:=hR.form;clear h hR;go_wp2;exact bodyPost_ret (v:=.tuple #[.slice none 0 0,.int .i64 50]) (by simp[results,Tryz.results210,go_sem]) rfl ⟨_,rfl,rs_none,below_lit b2 _⟩
theorem z9_1{p:Prop} (h:p:=by
 go_wp2;exact bodyPost_ret (v:=.tuple #[.slice none 0 0,.int .i64 60]) (by simp[results,Tryz.results210,go_sem]) rfl ⟨_,rfl,rs_none,B2⟩
 ):p:=h
theorem rdec_shard{k m:Nat}{va vl:Value}{h:List Bool}{L:List (List UInt8)}{w:World}(h1:1<=k)(h2:k+m<=256)(hH:RdB w va h)(hL:Rs w vl L)(hno:¬OkH k m h L){x y:Int}(hx:x=(k:Int))(hy:y=(m:Int)):
  Calls Tryz.prog 210 #[.int .i64 x,.int .i64 y,va,vl] w (MakesRs w 60 []):=by
 subst hx hy;obtain⟨a1,c1,rfl⟩:=hH.form;obtain⟨a2,c2,rfl⟩:=hL.form;obtain⟨s,hs⟩:∃s,Hid (s=k+m):=⟨_,rfl⟩;have g1:(k:Int)+(m:Int)=(s:Int):=by have:=hs.out;omega
 have gw:IntKind.i64.wrap (s:Int)=(s:Int):=by have:=hs.out;rw[IntKind.wrap_i64];omega
 have hno':Hid (¬(h.length=s/\L.length=s/\EvenH h L)):=fun ⟨p1,p2,p3⟩=>hno ⟨by rw[p1];omega,by rw[p2];omega,p3⟩
 clear hno
 go_enter Tryz.func210,Tryz.ntmps210
 go_wp2_with fail
 refine(rgen_ok (k:=k) (m:=m) _ h1 h2 rfl rfl).mono ?_
 rintro e w2 ⟨vs,rfl,hR,b2⟩;obtain⟨sa,sc,rfl⟩:=hR.form;generalize (flat (k+m) k (genF k)).length=N at*;rw[show((k+m:Nat):Int)=(s:Int) by rw[hs.out]];have B2:Below w.heap.size w (w2.alloc (.cells #[.int .i64 (s:Int),.int .i64 (k:Int),.slice sa N sc] 148)):=below_lit b2 _
 by_cases p1:h.length=s
 ·have q1:((h.length:Int)!=(s:Int))=false:=by simp[p1]
  have p1':Hid _:=p1;have hl3:h.length<=300:=by have:=hs.out;omega
  clear p1
  by_cases p2:L.length=s
  ·have q2:((L.length:Int)!=(s:Int))=false:=by simp[p2]
   have E:Hid (¬EvenH h L):=fun e=>hno'.out ⟨p1'.out,p2,e⟩
   have p2':Hid _:=p2;have hH2:=hH.below B2;have hL2:=hL.below B2;clear p2 hR b2 hH hL
   go_wp2_with fail
   refine(rthere_any hH2 hL2 (by rw[p1'.out,p2'.out]) hl3).mono ?_
   rintro e w3 (⟨he,_⟩|⟨_,rfl,b3⟩)
   ·exact absurd he E.out
   ·have B3:=Below.next B2 b3;clear hH2 hL2 b3 B2;go_wp2;exact bodyPost_ret (v:=.tuple #[.slice none 0 0,.int .i64 60]) (by simp[results,Tryz.results210,go_sem]) rfl ⟨_,rfl,rs_none,B3⟩
  ·have q2:((L.length:Int)!=(s:Int))=true:=by simp;omega
   clear p2 hR b2 hH hL;exact z9_1
 ·have q1:((h.length:Int)!=(s:Int))=true:=by simp;omega
  clear p1 hR b2 hH hL;exact z9_1
theorem rdec_few{k m:Nat}{va vl:Value}{h:List Bool}{L:List (List UInt8)}{w:World}(h1:1<=k)(h2:k+m<=256)(hH:RdB w va h)(hL:Rs w vl L)(hok:OkH k m h L)(hf:(thr h h.length).length<k){x y:Int}(hx:x=(k:Int))(hy:y=(m:Int)):
  Calls Tryz.prog 210 #[.int .i64 x,.int .i64 y,va,vl] w (MakesRs w 70 []):=by
 subst hx hy;obtain⟨a1,c1,rfl⟩:=hH.form;obtain⟨a2,c2,rfl⟩:=hL.form;obtain⟨s,hs⟩:∃s,Hid (s=k+m):=⟨_,rfl⟩;have g1:(k:Int)+(m:Int)=(s:Int):=by have:=hs.out;omega
 have gw:IntKind.i64.wrap (s:Int)=(s:Int):=by have:=hs.out;rw[IntKind.wrap_i64];omega
 have p1:Hid (h.length=s):=by show _=_;have:=hok.1;omega
 have p2:Hid (L.length=s):=by show _=_;have:=hok.2.1;omega
 have E:Hid (EvenH h L):=hok.2.2;have q0:((s:Int)!=(s:Int))=false:=Zs
 have hs3:Hid (s<=256):=by rw[hs.out];exact h2
 clear hok;rw[p1.out]at hH ⊢;rw[p2.out]at hL ⊢
 go_enter Tryz.func210,Tryz.ntmps210
 go_wp2_with fail
 refine(rgen_ok (k:=k) (m:=m) _ h1 h2 rfl rfl).mono ?_
 rintro e w2 ⟨vs,rfl,hR,b2⟩;obtain⟨sa,sc,rfl⟩:=hR.form;generalize (flat (k+m) k (genF k)).length=N at*;rw[show((k+m:Nat):Int)=(s:Int) by rw[hs.out]];have B2:Below w.heap.size w (w2.alloc (.cells #[.int .i64 (s:Int),.int .i64 (k:Int),.slice sa N sc] 148)):=below_lit b2 _;have hH2:=hH.below B2;have hL2:=hL.below B2;clear hR b2 hH hL
 go_wp2_with fail
 refine(rthere_any hH2 hL2 (by rw[p1.out,p2.out]) (by rw[p1.out];have:=hs3.out;omega)).mono ?_
 rintro e w3 (⟨_,v4,rfl,hO4,b3⟩|⟨he,_⟩)
 ·have B3:=Below.next B2 b3;obtain⟨pa,pc,rfl⟩:=hO4.form;have hf':(((thr h h.length).length:Nat):Int)<(k:Int):=by omega
  generalize (thr h h.length).length=n7 at*;clear hH2 hL2 b3 B2 hO4;go_wp2;exact bodyPost_ret (v:=.tuple #[.slice none 0 0,.int .i64 70]) (by simp[results,Tryz.results210,go_sem]) rfl ⟨_,rfl,rs_none,B3⟩
 ·exact absurd E.out he
theorem rdec_ok{k m:Nat}{va vl:Value}{h:List Bool}{L:List (List UInt8)}{w:World}(h1:1<=k)(h2:k+m<=256)(hH:RdB w va h)(hL:Rs w vl L)(hok:OkH k m h L)(hS:SmallH h L)(hf:k<=(thr h h.length).length){x y:Int}(hx:x=(k:Int))(hy:y=(m:Int)):
  Calls Tryz.prog 210 #[.int .i64 x,.int .i64 y,va,vl] w (MakesRs w 0 (encL m k (parF k) (decD k (invF k (pl7 h)) (pl7 h) L))):=by
 subst hx hy;obtain⟨i0,hi,hz0,hz1,hz2⟩:=info_parts info_u8;obtain⟨i1,hj,hy0,hy1,hy2⟩:=info_parts info_shard;obtain⟨a1,c1,rfl⟩:=hH.form;obtain⟨a2,c2,rfl⟩:=hL.form;obtain⟨s,hs⟩:∃s,Hid (s=k+m):=⟨_,rfl⟩;have g1:(k:Int)+(m:Int)=(s:Int):=by have:=hs.out;omega
 have gw:IntKind.i64.wrap (s:Int)=(s:Int):=by have:=hs.out;rw[IntKind.wrap_i64];omega
 have gk:IntKind.i64.wrap (k:Int)=(k:Int):=Zw
 have p1:Hid (h.length=s):=by show _=_;have:=hok.1;omega
 have p2:Hid (L.length=s):=by show _=_;have:=hok.2.1;omega
 have E:Hid (EvenH h L):=hok.2.2;have q0:((s:Int)!=(s:Int))=false:=Zs
 have hs3:Hid (s<=256):=by rw[hs.out];exact h2
 have hf':Hid _:=hf;have hin:Hid (∀i,i<k->pl7 h i<s):=fun i hi=>by have:=(pl7_in (h:=h) (i:=i) Zo).1;rw[p1.out]at this;exact this
 have hth:Hid (∀i,i<k->hb h (pl7 h i)=true):=fun i hi=>(pl7_in Zo).2
 have hns:Hid (¬IsSing k (rowsF k (pl7 h))):=gen_inv h2 (by rw[p1.out,hs.out]) hf;have hZ:Hid ((toI (pls7 h k)).length=k):=by show _=_;rw[toI_length];exact pls7_length hf
 have hall:Hid (AllIn s (toI (pls7 h k))):=fun i hi=>by
  rw[hZ.out]at hi;have:=hin.out i hi;rw[toI_getD,pls7_getD hi];omega
 obtain⟨n0,hn0⟩:∃n0,Hid (n0=(ro L (pl7 h 0)).length):=⟨_,rfl⟩;have hn3:n0<=300:=by rw[hn0.out];exact hS.2 _ (hth.out 0 Zo)
 have hlen:Hid (∀i,i<k->(ro L (pl7 h i)).length=n0):=fun i hi=>by rw[hn0.out];exact E.out _ _ (hth.out i hi) (hth.out 0 Zo)
 clear hok hS hf;rw[p1.out]at hH ⊢;rw[p2.out]at hL ⊢
 go_enter Tryz.func210,Tryz.ntmps210
 go_wp2_with fail
 refine(rgen_ok (k:=k) (m:=m) _ h1 h2 rfl rfl).mono ?_
 rintro e w2 ⟨vs,rfl,hR,b2⟩;obtain⟨sa,sc,rfl⟩:=hR.form;obtain⟨N,hN⟩:∃N,Hid (N=(flat (k+m) k (genF k)).length):=⟨_,rfl⟩;rw[<-hN.out]at hR ⊢;rw[show((k+m:Nat):Int)=(s:Int) by rw[hs.out]];have A2:Below w2.heap.size w2 (w2.alloc (.cells #[.int .i64 (s:Int),.int .i64 (k:Int),.slice sa N sc] 148)):=Zf.alloc Zr _;have B2:Below w.heap.size w (w2.alloc (.cells #[.int .i64 (s:Int),.int .i64 (k:Int),.slice sa N sc] 148)):=below_lit b2 _;have X2:=Box.new w2 (s:Int) (k:Int) (.slice sa N sc) 148;have l2:w2.heap.size<(w2.alloc (.cells #[.int .i64 (s:Int),.int .i64 (k:Int),.slice sa N sc] 148)).heap.size:=Zs
 have hH2:=hH.below B2;have hL2:=hL.below B2;have hR2:=hR.below A2;clear hR b2 hH hL A2
 go_wp2_with fail
 refine(rthere_any hH2 hL2 (by rw[p1.out,p2.out]) (by rw[p1.out];have:=hs3.out;omega)).mono ?_
 rintro e w4 (⟨_,v4,rfl,hO4,b4⟩|⟨he,_⟩);rotate_left
 ·exact absurd E.out he
 generalize w2.alloc (.cells #[.int .i64 (s:Int),.int .i64 (k:Int),.slice sa N sc] 148)=w3 at*;have B4:=Below.next B2 b4;have hL4:=hL2.below b4;have hR4:=hR2.below b4;have X4:=X2.below l2 b4;have l4:w2.heap.size<w4.heap.size:=Zu l2 b4.size;obtain⟨pa,pc,rfl⟩:=hO4.form;have hcap:=hO4.cap;obtain⟨g,rfl,hg,_,_⟩:=hO4.cell (i:=0) (by have:=hf'.out;omega);have hP4:=(hO4.rd (by have:=thr_len h h.length;rw[p1.out]at this;have:=hs3.out;rw[p1.out];omega)).first (k:=k) hf'.out Zo
 rw[show(thr h h.length).take k=pls7 h k from rfl]at hP4;have hge:¬(((thr h h.length).length:Nat):Int)<(k:Int):=by have:=hf'.out;omega
 have hkc:(k:Int)<=(pc:Int):=by have:=hf'.out;omega
 have hkc':k<=pc:=Zo
 have hpm:=hcap.2;unfold maxLen at hpm;generalize (thr h h.length).length=n7 at*;have x40:=X4.c0;have x41:=X4.c1;have x42:=X4.c2;have k1:OkM (s:Int) (k:Int) (flat (k+m) k (genF k)):=okM_mk hs3.out Zo (by rw[flat_length,hs.out]);clear hO4 hH2 hL2 hR2 B2 b4 X2 l2 hcap
 go_wp2_with fail
 refine(rpick_ok (r:=s) (c:=k) (zs:=toI (pls7 h k)) ⟨_,rfl,hR4⟩ hP4 k1 (by rw[hZ.out];omega)).mono ?_
 rintro e w5 (⟨_,vp,rfl,hP,b5⟩|⟨hno,_⟩);rotate_left
 ·exact absurd hall.out hno
 rw[hZ.out]at hP ⊢;have B5:=Below.next B4 b5;have hL5:=hL4.below b5;have hP5:=hP4.below b5;obtain⟨qa,qc,rfl⟩:=hP.form;obtain⟨M,hM⟩:∃M,Hid (M=(flat k k (pickF k (flat (k+m) k (genF k)) (toI (pls7 h k)))).length):=⟨_,rfl⟩;rw[<-hM.out]at hP ⊢;have A5:Below w5.heap.size w5 (w5.alloc (.cells #[.int .i64 (k:Int),.int .i64 (k:Int),.slice qa M qc] 148)):=Zf.alloc Zr _;have B6:Below w.heap.size w (w5.alloc (.cells #[.int .i64 (k:Int),.int .i64 (k:Int),.slice qa M qc] 148)):=below_lit B5 _;have hL6:=hL5.below A5;have hP6:=hP5.below A5;have hQ6:=hP.below A5;have kk:OkM (k:Int) (k:Int) (flat k k (pickF k (flat (k+m) k (genF k)) (toI (pls7 h k)))):=okM_mk Zo Zo (by rw[flat_length]);clear hL4 hP4 hR4 B4 b5 hL5 hP5 hP A5 B5 X4 l4 x40 x41 x42 k1
 go_wp2_with fail
 refine(rinvm_ok (n:=k) ⟨_,rfl,hQ6⟩ kk).mono ?_
 have cong:Hid (∀i j,i<k->j<k->en k (flat k k (pickF k (flat (k+m) k (genF k)) (toI (pls7 h k)))) i j=rowsF k (pl7 h) i j):=fun i j hi hj=>by
  rw[en_flat _ hi hj];exact pick_gen hi hj (by rw[<-hs.out];exact hin.out i hi)
 rintro e w7 (⟨V,hV,vi7,rfl,hR7,b7⟩|⟨hsg,_⟩);rotate_left
 ·exact absurd (hsg.congr cong.out) hns.out
 have hV':Hid (IsInv k (rowsF k (pl7 h)) V):=hV.congr cong.out (fun _ _ _ _=>rfl);rw[invF_flat hV'.out]at hR7;clear hV hV' cong kk hQ6 hns hall;obtain⟨W,hW⟩:∃W,Hid (W=invF k (pl7 h)):=⟨_,rfl⟩;rw[<-hW.out]at hR7 ⊢;generalize w5.alloc (.cells #[.int .i64 (k:Int),.int .i64 (k:Int),.slice qa M qc] 148)=w6 at*;have B7:=Below.next B6 b7;have hL7:=hL6.below b7;have hP7:=hP6.below b7;obtain⟨ia,ic,rfl⟩:=hR7.form;obtain⟨I,hI⟩:∃I,Hid (I=(flat k k W).length):=⟨_,rfl⟩;have hIk:Hid (I=k*k):=by show _=_;rw[hI.out,flat_length]
 rw[<-hI.out]at hR7 ⊢;have A7:Below w7.heap.size w7 (w7.alloc (.cells #[.int .i64 (k:Int),.int .i64 (k:Int),.slice ia I ic] 148)):=Zf.alloc Zr _;have B8:Below w.heap.size w (w7.alloc (.cells #[.int .i64 (k:Int),.int .i64 (k:Int),.slice ia I ic] 148)):=below_lit B7 _;have X8:=Box.new w7 (k:Int) (k:Int) (.slice ia I ic) 148;have l8:w7.heap.size<(w7.alloc (.cells #[.int .i64 (k:Int),.int .i64 (k:Int),.slice ia I ic] 148)).heap.size:=Zs
 have hL8:=hL7.below A7;have hP8:=hP7.below A7;have hR8:=hR7.below A7;clear hL6 hP6 B6 b7 hL7 hP7 hR7 A7 B7;go_wp2;generalize w7.alloc (.cells #[.int .i64 (k:Int),.int .i64 (k:Int),.slice ia I ic] 148)=w8 at*;obtain⟨B,hBB⟩:∃B,Hid (B=w8.heap.size):=⟨_,rfl⟩;have hto:∀{W':World},Below B w8 W'->Below w8.heap.size w8 W':=fun q=>by rw[<-hBB.out];exact q
 have HX:Hid (∀wr,Below B w8 wr->wr.cell? ⟨w7.heap.size,2,none⟩=some (.slice ia I ic)):=fun wr hb=>(X8.below l8 (hto hb)).c2
 have HP:Hid (∀wr,Below B w8 wr->∀i,i<k->wr.cell? ⟨g,i,none⟩=some (.int .i64 ((pl7 h i:Nat):Int))):=fun wr hb i hi=>by
  have:=(hP8.below (hto hb)).get (i:=i) (by rw[hZ.out];exact hi);rwa[toI_getD,pls7_getD hi,Nat.zero_add]at this
 have HA:Hid (∀wr,Below B w8 wr->Rd wr (.slice ia I ic) (flat k k W)):=fun wr hb=>hR8.below (hto hb)
 obtain⟨db,doff,dc,eL,hdb,hdc,hdm⟩:=hL8.somewhere (by rw[p2.out];omega);simp at eL;obtain⟨eL,_,_⟩:=eL;subst eL;have HD:Hid (∀wr,Below B w8 wr->∀i,i<k->∃xa xc,wr.cell? ⟨db,doff+pl7 h i,none⟩=some (.slice xa n0 xc)/\Rd wr (.slice xa n0 xc) (ro L (pl7 h i))):=fun wr hb i hi=>by
  obtain⟨xa,xc,q1,q2⟩:=(hL8.below (hto hb)).get (i:=pl7 h i) (by rw[p2.out];exact hin.out i hi);rw[hlen.out i hi]at q1 q2;exact⟨xa,xc,q1,q2⟩
 have hsB:Hid (w.heap.size<=B):=by rw[hBB.out];exact B8.size
 have HB8:Hid _:=B8;clear X8 hL8 hP8 hR8 B8 hto
 go_loopw [18,19] (fun o i wr=>∃r:Nat,r<=k/\i= .int .i64 (r:Int)/\Os wr B 36 5 o (mkL r (dsh k W (pl7 h) L))/\Below B w8 wr) (fun _ i _=>k-(intOf i).toNat)
 case atStart=>exact⟨0,Zo,rfl,Os.nil _ _ _ _,Zf⟩
 case round=>
  obtain⟨r,hr,rfl,hO,hB⟩:=hrel;obtain⟨wo,hwo⟩:∃wo,wo=wr:=⟨_,rfl⟩;subst hwo;have hszr:B<=wo.heap.size:=by rw[hBB.out];exact hB.size
  by_cases hlt:r<k
  ·have hlt':(r:Int)<(k:Int):=by omega
   obtain⟨av,cv,ev⟩:=hO.form;rw[mkL_length]at ev;subst ev;have hO':Hid _:=hO;have hB':Hid _:=hB;clear hO hB;go_wp2
   go_loopw [20,21] (fun q i w9=>∃t:Nat,t<=n0/\i= .int .i64 (t:Int)/\w9.ownsRow wo.heap.size 5 1 q t ((upto (dwd W (pl7 h) L r k) t).map vb)/\Below wo.heap.size wo w9) (fun _ i _=>n0-(intOf i).toNat)
   case atStart=>exact⟨0,Zo,rfl,World.ownsRow_nil _ _ _ _,Zf⟩
   case round=>
    obtain⟨t,ht,rfl,hsO,b9⟩:=hrel;obtain⟨w9,hw9⟩:∃w9,w9=wr:=⟨_,rfl⟩;subst hw9;have hB9:Below B w8 w9:=hB'.out.trans (b9.mono hszr);have hs9:wo.heap.size<=w9.heap.size:=b9.size;obtain⟨ya,yc,c0,_⟩:=HD.out _ hB9 0 Zo;have cp0:=HP.out _ hB9 0 Zo;have hi0:=hin.out 0 Zo;obtain⟨t0,ht0⟩:∃t0,Hid (t0=pl7 h 0):=⟨_,rfl⟩;rw[<-ht0.out]at c0 cp0 hi0;have hi0':(t0:Int)<(s:Int):=Zo
    have h0k:(0:Int)<(k:Int):=Zo
    obtain⟨ra,rc,es⟩:=owns_form hsO;subst es
    by_cases hlt3:t<n0
    ·have hlt3':(t:Int)<(n0:Int):=by omega
     have hs':Hid _:=hsO;have b9':Hid _:=b9;have hB9':Hid _:=hB9;clear hsO b9 hB9;go_wp2
     go_loopw [22,23] (fun xx i wr=>∃c:Nat,c<=k/\i= .int .i64 (c:Int)/\xx= .int .u8 ((dwd W (pl7 h) L r c t).toNat:Nat)/\∃nd,wr=w9.drewN nd) (fun _ i _=>k-(intOf i).toNat)
     case atStart=>exact⟨0,Zo,rfl,rfl,0,rfl⟩
     case round=>
      obtain⟨c,hc,rfl,rfl,nd,hd0⟩:=hrel
      by_cases hlt4:c<k
      ·have hlt4':(c:Int)<(k:Int):=by omega
       have hBw:Below B w8 wr:=by rw[hd0];exact hB9'.out.drewN nd
       have hd:Hid (wr=w9.drewN nd):=hd0;have x2:=HX.out _ hBw;have cpc:=HP.out _ hBw c hlt4;obtain⟨za,zc,cz,rz⟩:=HD.out _ hBw c hlt4;have hic:=hin.out c hlt4;obtain⟨zb,zo,ez,_,dz⟩:=rz.byte (i:=t) (by rw[hlen.out c hlt4];exact hlt3);subst ez;obtain⟨T,hT⟩:∃T,Hid (T=r*k+c):=⟨_,rfl⟩;have hTN:T<I:=by rw[hT.out,hIk.out];exact place_lt hlt hlt4
       have hNs:I<=65536:=by rw[hIk.out];exact mul_small Zo Zo
       obtain⟨o',ho'⟩:∃o',Hid (o'=r*k):=⟨_,rfl⟩;have hoT:o'+c=T:=by rw[ho'.out,hT.out]
       have v0:(r:Int)*(k:Int)=(o':Int):=by rw[ho'.out];exact_mod_cast rfl
       have v3:(o':Int)+(c:Int)=(T:Int):=Zo
       have v1:IntKind.i64.wrap (o':Int)=(o':Int):=Zw
       have v2:IntKind.i64.wrap (T:Int)=(T:Int):=Zw
       obtain⟨ab,ao,eva,hab,ca⟩:=(HA.out _ hBw).byte (i:=T) (by rw[flat_length,<-hIk.out];exact hTN);have eT:co (flat k k W) T=W r c:=by rw[hT.out];exact en_flat W hlt hlt4
       rw[eT]at ca;subst eva;have hTN':(T:Int)<(I:Int):=Zo
       have E1:=xor_u8 (dwd W (pl7 h) L r c t) (mu (W r c) (co (ro L (pl7 h c)) t));have HE:Hid (((dwd W (pl7 h) L r c t).toNat^^^(mu (W r c) (co (ro L (pl7 h c)) t)).toNat:Nat)=(dwd W (pl7 h) L r (c+1) t).toNat):=by show _=_;rw[dwd_succ,UInt8.toNat_xor]
       obtain⟨tc,htc⟩:∃tc,Hid (tc=pl7 h c):=⟨_,rfl⟩;rw[<-htc.out]at cpc cz hic;have hic':(tc:Int)<(s:Int):=Zo
       clear hd0 hoT eT rz hBw c0 cp0;go_wp2
       go_quiet ((go_at_call 146;go_loud (exact Calls.quiet_of_same (rmu6_at (W r c) (co (ro L (pl7 h c)) t) rfl rfl))))
       go_wp2;go_roundw
       case rel=>exact⟨c+1,Zo,Zg,by rw[HE.out],_,by show _=_;rw[hd.out,World.drewN_drewN]⟩
       case measure=>simp[intOf];omega
      ·have hge4:¬(c:Int)<(k:Int):=by omega
       have ec:c=k:=Zo
       subst ec;have hs10:wr.ownsRow wo.heap.size 5 1 (.slice ra t rc) t ((upto (dwd W (pl7 h) L r c) t).map vb):=by rw[hd0];exact hs'.out
       have B10:Hid (Below wo.heap.size wo wr):=by show Below _ _ _;rw[hd0];exact b9'.out.drewN nd
       have hs10':wo.heap.size<=wr.heap.size:=B10.out.size;clear hd0 hs' b9' hB9' c0 cp0
       go_wp2_with (at_builtin;go_loud (refine wpList_append_rd2 _ rfl (.tmp 119) (.tmp 121) 36 rfl wo.heap.size 5 i0 Tryz.underlying36 hi hz0 hz1 hz2 (.slice ra t rc) t _ rfl (World.ownsRow.alloc hs10 _) _ [dwd W (pl7 h) L r c t] rfl (rd_lit (n:=1) [dwd W (pl7 h) L r c t] rfl rfl Zd) Zm Zm ?_);intro x' w10 hx10 hg10 hb10)
       have HN:Hid (w10.ownsRow wo.heap.size 5 1 x' (t+1) ((upto (dwd W (pl7 h) L r c) (t+1)).map vb)):=(by rw[upto_vb_succ];exact hx10:w10.ownsRow wo.heap.size 5 1 x' (t+1) ((upto (dwd W (pl7 h) L r c) (t+1)).map vb));have HB10:Hid (Below wo.heap.size wo w10):=(B10.out.alloc hs10' _).grown hg10 Zm (fun q hq=>(Zv hs10 q hq).1);clear hx10 hg10 hb10 hs10 B10;go_wp2;go_roundw
       case rel=>exact⟨t+1,Zo,Zg,HN.out,HB10.out⟩
       case measure=>simp[intOf];omega
    ·have hge3:¬(t:Int)<(n0:Int):=by omega
     have et:t=n0:=Zo
     have hx9:OwnP w9 B 5 (.slice ra t rc) (dsh k W (pl7 h) L r):=by
      unfold OwnP dsh;rw[upto_length,<-hn0.out,<-et];exact ownsRow_base hsO hszr
     have hb1:∀q,(Value.slice ra t rc).ownBlock=some q->wo.heap.size<=q:=fun q hq=>(Zv hsO q hq).1
     clear hsO et
     go_wp2_with (at_builtin;go_loud (refine wpList_append_os rfl (.tmp 123) (.tmp 125) 106 rfl B 36 i1 Tryz.underlying106 hj hy0 hy1 hy2 5 (.slice av r cv) (mkL r (dsh k W (pl7 h) L)) rfl hO'.out b9 (.slice ra t rc) (dsh k W (pl7 h) L r) hx9 hb1 _ 1 rfl (by rw[mkL_length];omega) hszr ?_);intro v' w11 hv11 hb11 _ _)
     have HOn:Hid (Os w11 B 36 5 v' (mkL (r+1) (dsh k W (pl7 h) L))):=by
      show Os _ _ _ _ _ _
      rw[mkL_succ];exact hv11
     have HBn:Hid (Below B w8 w11):=hB'.out.trans hb11;clear hv11 hb11 hx9 hb1 hB9 b9 hO' hB' c0 cp0;go_wp2;go_roundw
     case rel=>exact⟨r+1,Zo,Zg,HOn.out,HBn.out⟩
     case measure=>simp[intOf];omega
  ·have hge5:¬(r:Int)<(k:Int):=by omega
   have er:r=k:=Zo
   subst er;have HR:Rs wo u18 (decD r W (pl7 h) L):=hO.rs;have BB:Below w.heap.size w wo:=Below.trans HB8.out (hB.mono hsB.out);obtain⟨oa,oc,ev⟩:=HR.form;rw[decD_length]at ev;subst ev;clear hO hB HX HP HA HD
   go_wp2_with fail
   refine(renc_ok h1 h2 HR (decD_length _ _ _ _) (decD_even h1) (decD_small Zo (by rw[<-hn0.out];exact hn3)) rfl rfl).mono ?_
   rintro e w12 ⟨v12,rfl,hR12,b12⟩;obtain⟨fa,fc,rfl⟩:=hR12.form;have HBn:Hid (Below w.heap.size w w12):=Below.next BB b12;generalize (encL m r (parF r) (decD r W (pl7 h) L)).length=oL at*;clear b12 BB HR;go_wp2;exact bodyPost_ret (v:=.tuple #[.slice fa oL fc,.int .i64 0]) (by simp[results,Tryz.results210,go_sem]) rfl ⟨_,rfl,by rw[<-hW.out];exact hR12,HBn.out⟩
theorem rdec_any{k m:Int}{va vl:Value}{h:List Bool}{L:List (List UInt8)}{w:World}(hH:RdB w va h)(hL:Rs w vl L)(hS:SmallH h L):
  Calls Tryz.prog 210 #[.int .i64 k,.int .i64 m,va,vl] w (MakesRs w (decX k m h L) (decR k m h L)):=by
 rcases dec_cases k m h L with c|⟨c,d⟩|⟨c,d,f⟩|⟨c,d,f⟩
 ·rw[(decX_bad c).1,(decX_bad c).2];exact rdec_bad c
 ·rw[(decX_shard c d).1,(decX_shard c d).2];obtain⟨k,m,rfl,rfl,h1,h2⟩:=c.nat;exact rdec_shard h1 h2 hH hL d rfl rfl
 ·rw[(decX_few c d f).1,(decX_few c d f).2];obtain⟨k,m,rfl,rfl,h1,h2⟩:=c.nat;exact rdec_few h1 h2 hH hL d Zo rfl rfl
 ·obtain⟨k,m,rfl,rfl,h1,h2⟩:=c.nat;rw[(decX_ok c d Zo).1,(decX_ok c d Zo).2];exact rdec_ok h1 h2 hH hL d hS Zo rfl rfl
def BoolF(w:World)(base e g n:Nat)(f:Nat->Bool):Prop:=w.ownsRow base e 1 (.slice (some ⟨g,0,none⟩) n n) n ((List.range n).map fun i=>Value.bool (f i))
theorem BoolF.made{w:World}{base e g n:Nat}(h:w.ownsRow base e 1 (.slice (some ⟨g,0,none⟩) n n) n (madeCells (Value.cells (.bool false)) (n*1)).toList):BoolF w base e g n (fun _=>false):=by
 unfold BoolF;have e1:(madeCells (Value.cells (.bool false)) (n*1)).toList=List.replicate n (.bool false):=by
  rw[Nat.mul_one];exact toList_madeCells_one _ _
 rw[e1]at h;have e2:(List.range n).map (fun _=>Value.bool false)=List.replicate n (.bool false):=by
  rw[List.map_const'];simp
 rw[e2];exact h
theorem BoolF.cell{w:World}{base e g n:Nat}{f:Nat->Bool}(h:BoolF w base e g n f){j:Nat}(hj:j<n):w.cell? ⟨g,j,none⟩=some (.bool (f j)):=by
 rw[World.ownsRow.cellAt h j Zo,List.getElem?_map,List.getElem?_range hj];rfl
theorem BoolF.free{w:World}{base e g n:Nat}{f:Nat->Bool}(h:BoolF w base e g n f)(j:Nat):w.frozen? ⟨g,j,none⟩=false:=World.ownsRow.frozenAt h j
theorem BoolF.lt{w:World}{base e g n:Nat}{f:Nat->Bool}(h:BoolF w base e g n f):base<=g/\g<w.heap.size:=Zv h g rfl
theorem BoolF.store{w:World}{base e g n:Nat}{f f':Nat->Bool}(h:BoolF w base e g n f){j:Nat}(hj:j<n)(x:Bool)(hf:∀t,t<n->f' t=if t=j then x else f t):BoolF (w.setCell ⟨g,j,none⟩ (.bool x)) base e g n f':=by
 have e1:=(World.ownsRow.stored h j (.bool x)).1;unfold BoolF;have e2:((List.range n).map fun i=>Value.bool (f i)).set j (.bool x)=(List.range n).map fun i=>Value.bool (f' i):=by
  refine List.ext_getElem Zs fun t h1 h2=>?_
  simp at h2;rw[List.getElem_set]
  by_cases e:t=j
  ·subst e;simp[hf t h2]
  ·rw[if_neg fun h:j=t=>e h.symm];simp[hf t h2,e]
 rw[<-e2];exact e1
theorem BoolF.rdB{w:World}{base e g n:Nat}{f:Nat->Bool}(h:BoolF w base e g n f)(hn:n<=1000000):RdB w (.slice (some ⟨g,0,none⟩) n n) ((List.range n).map f):=by
 have hl:((List.range n).map f).length=n:=Zs
 refine⟨some ⟨g,0,none⟩,n,by rw[hl],by rw[hl];exact Zr,Zl,nofun,fun i hi=>?_⟩;rw[hl]at hi;refine⟨g,0,rfl,h.lt.2,?_⟩;rw[Nat.zero_add,h.cell hi];simp[hb,List.getD,hi]
end Go.Proofs.YtddnfhfangfgeaaGreat.Gf
