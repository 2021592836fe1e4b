/- JOINED: RdIn, TuLm, MxTurn, MxStep, CrMath, CrAwM, CrLawM, CrNt, CrCode, CrRef. -/
import Derived.Laws.CopyOwn
import Derived.Deep.AppendLies
import Derived.Test.YtclieefpnbdbjaaGreatPome1
import Derived.WalkMore
set_option maxHeartbeats 1000000
set_option maxRecDepth 100000
namespace Go.Proofs.YtclieefpnbdbjaaGreat.Gf
set_option linter.unusedVariables false
set_option linter.unusedSimpArgs false
open Go.RowKit
def RdI(w:World)(v:Value)(zs:List Int):Prop:=
 (∃ao cap,zs=[]/\v= .slice ao 0 cap)∨(∃b off cap,zs≠[]/\v= .slice (some ⟨b,off,none⟩) zs.length cap/\zs.length<=maxLen/\b<w.heap.size/\∀i,i<zs.length->w.cell? ⟨b,off+i,none⟩=some (.int .i64 (zs.getD i 0)))
theorem RdI.below{w w':World}{v:Value}{zs:List Int}(h:RdI w v zs)(hb:Below w.heap.size w w'):RdI w' v zs:=by
 rcases h with h|⟨b,off,cap,h1,h2,h3,h5,h6⟩
 ·exact Or.inl h
 ·exact Or.inr ⟨b,off,cap,h1,h2,h3,Zu h5 hb.size,fun i hi=>(hb.cell (p:=⟨b,off+i,none⟩) h5).trans (h6 i hi)⟩
theorem RdI.form{w:World}{v:Value}{zs:List Int}(h:RdI w v zs):∃a c,v= .slice a zs.length c:=by
 rcases h with⟨a,c,rfl,rfl⟩|⟨b,off,c,_,rfl,_⟩
 ·exact⟨a,c,rfl⟩
 ·exact⟨_,c,rfl⟩
theorem _root_.Go.RowKit.Below.drewN{B:Nat}{a w:World}(h:Below B a w)(n:Nat):Below B a (w.drewN n):=⟨h.os,h.tape,h.output,h.size,h.block⟩
theorem rdI_lit2{w:World}{n b:Nat}{cs:Array Value}{e:Nat}(zs:List Int)(hb:b=w.heap.size)(hn:zs.length=n)(hs:cs.toList=zs.map (fun z=>Value.int .i64 z))(hl:n<=1000000):RdI (w.alloc (.cells cs e)) (.slice (some ⟨b,0,none⟩) n n) zs:=by
 subst hb hn
 by_cases h0:zs=[]
 ·subst h0;exact Or.inl ⟨_,_,rfl,rfl⟩
 ·refine Or.inr ⟨w.heap.size,0,_,h0,rfl,Zl,Zs,fun i hi=>?_⟩;rw[Nat.zero_add,World.cell?_alloc_new,<-Array.getElem?_toList,hs,List.getElem?_map,List.getElem?_eq_getElem hi];simp[List.getD,hi]
theorem RdI.at{w:World}{a:Option Addr}{n c:Nat}{zs:List Int}(h:RdI w (.slice a n c) zs){i:Nat}(hi:i<zs.length):∃b off,a=some ⟨b,off,none⟩/\b<w.heap.size/\w.cell? ⟨b,off+i,none⟩=some (.int .i64 (zs.getD i 0)):=by
 rcases h with⟨_,_,e,_⟩|⟨b,off,cap,_,e,_,hb,hc⟩
 ·subst e;simp at hi
 ·simp at e;obtain⟨rfl,rfl,rfl⟩:=e;exact⟨b,off,rfl,hb,hc i hi⟩
structure TurnL(G:List Nat)(w w':World):Prop where
 os:w'.os=w.os
 tape:w'.tape=w.tape
 output:w'.output=w.output
 size:w.heap.size<=w'.heap.size
 block:∀k,k<w.heap.size->k ∉ G->w'.heap[k]? =w.heap[k]?
theorem TurnL.refl(G:List Nat)(w:World):TurnL G w w:=⟨rfl,rfl,rfl,Zr,fun _ _ _=>rfl⟩
theorem TurnL.trans{G:List Nat}{a b c:World}(h:TurnL G a b)(k:TurnL G b c):TurnL G a c:=
 ⟨k.os.trans h.os,k.tape.trans h.tape,k.output.trans h.output,Nat.le_trans h.size k.size,fun i hi hg=>(k.block i (Zu hi h.size) hg).trans (h.block i hi hg)⟩
theorem Below.turnL{w w':World}(h:Below w.heap.size w w')(G:List Nat):TurnL G w w':=⟨h.os,h.tape,h.output,h.size,fun k hk _=>h.block k hk⟩
theorem Only.turnL{g:Nat}{G:List Nat}{w w':World}(h:Only g w w')(hg:g∈G):TurnL G w w':=
 ⟨h.os,h.tape,h.output,by rw[h.size];exact Zr,fun k _ hk=>h.block k (fun e=>hk (by rw[e];exact hg))⟩
theorem TurnL.put{G:List Nat}{a w:World}(h:TurnL G a w){g:Nat}(hg:g∈G)(j:Nat)(u:Value):TurnL G a (w.setCell ⟨g,j,none⟩ u):=h.trans (((Only.refl g w).setCell j u).turnL hg)
theorem TurnL.drew{G:List Nat}{a w:World}(h:TurnL G a w):TurnL G a w.drew:=⟨h.os,h.tape,h.output,h.size,h.block⟩
theorem TurnL.below{G:List Nat}{B:Nat}{w w':World}(h:TurnL G w w')(hg:∀g,g∈G->B<=g)(hB:B<=w.heap.size):Below B w w':=
 ⟨h.os,h.tape,h.output,h.size,fun k hk=>h.block k Zo (fun e=>by have:=hg k e;omega)⟩
theorem TurnL.cell{G:List Nat}{w w':World}(h:TurnL G w w'){p:Addr}(hs:p.block<w.heap.size)(hp:p.block ∉ G):w'.cell? p=w.cell? p:=Zc (w:=w) (h.block p.block hs hp)
theorem TurnL.frozen{G:List Nat}{w w':World}(h:TurnL G w w'){p:Addr}(hs:p.block<w.heap.size)(hp:p.block ∉ G):w'.frozen? p=w.frozen? p:=World.frozen?_of_block (w:=w) (h.block p.block hs hp)
def ApartL(G:List Nat)(v:Value):Prop:=∀x n c,v= .slice (some x) n c->n=0∨x.block ∉ G
theorem Rd.turnL{G:List Nat}{w w':World}{v:Value}{p:List UInt8}(h:Rd w v p)(ha:ApartL G v)(ho:TurnL G w w'):Rd w' v p:=by
 rcases h with h|⟨b,off,cap,h1,h2,h3,h4,h5,h6⟩
 ·exact Or.inl h
 ·have hb:b ∉ G:=by
   rcases ha _ _ _ h2 with e|e
   ·exact absurd (List.length_eq_zero_iff.1 e) h1
   ·exact e
  exact Or.inr ⟨b,off,cap,h1,h2,h3,h4,Zu h5 ho.size,fun i hi=>(ho.cell (p:=⟨b,off+i,none⟩) h5 hb).trans (h6 i hi)⟩
theorem Rd.apartL{w:World}{v:Value}{p:List UInt8}{G:List Nat}(h:Rd w v p)(hg:∀g,g∈G->w.heap.size<=g):ApartL G v:=by
 intro x n c e
 rcases h with⟨a,c',_,e2,_⟩|⟨b,off,cap,h1,h2,h3,h4,h5,h6⟩
 ·subst e2;simp at e;exact Or.inl e.2.1.symm
 ·subst h2;simp at e;obtain⟨rfl,rfl,rfl⟩:=e;exact Or.inr (fun h=>by have:=hg b h;omega)
structure Turn(g:Nat)(w w':World):Prop where
 os:w'.os=w.os
 tape:w'.tape=w.tape
 output:w'.output=w.output
 size:w.heap.size<=w'.heap.size
 block:∀k,k<w.heap.size->k≠g->w'.heap[k]? =w.heap[k]?
theorem Turn.refl(g:Nat)(w:World):Turn g w w:=⟨rfl,rfl,rfl,Zr,fun _ _ _=>rfl⟩
theorem Turn.trans{g:Nat}{a b c:World}(h:Turn g a b)(k:Turn g b c):Turn g a c:=
 ⟨k.os.trans h.os,k.tape.trans h.tape,k.output.trans h.output,Nat.le_trans h.size k.size,fun i hi hg=>(k.block i (Zu hi h.size) hg).trans (h.block i hi hg)⟩
theorem Below.turn{w w':World}(h:Below w.heap.size w w')(g:Nat):Turn g w w':=⟨h.os,h.tape,h.output,h.size,fun k hk _=>h.block k hk⟩
theorem Only.turn{g:Nat}{w w':World}(h:Only g w w'):Turn g w w':=⟨h.os,h.tape,h.output,by rw[h.size];exact Zr,fun k _ hk=>h.block k hk⟩
theorem Turn.below{g B:Nat}{w w':World}(h:Turn g w w')(hg:B<=g)(hB:B<=w.heap.size):Below B w w':=
 ⟨h.os,h.tape,h.output,h.size,fun k hk=>h.block k Zo Zo⟩
theorem Turn.cell{g:Nat}{w w':World}(h:Turn g w w'){p:Addr}(hs:p.block<w.heap.size)(hp:p.block≠g):w'.cell? p=w.cell? p:=Zc (w:=w) (h.block p.block hs hp)
theorem Turn.frozen{g:Nat}{w w':World}(h:Turn g w w'){p:Addr}(hs:p.block<w.heap.size)(hp:p.block≠g):w'.frozen? p=w.frozen? p:=World.frozen?_of_block (w:=w) (h.block p.block hs hp)
def putAt(f:Nat->UInt8)(o n:Nat)(q:Nat->UInt8)(t:Nat):UInt8:=if o<=t/\t<o+n then q (t-o)else f t
theorem putAt_zero(f:Nat->UInt8)(o:Nat)(q:Nat->UInt8):putAt f o 0 q=f:=by funext t;exact if_neg Zo
theorem putAt_out{f:Nat->UInt8}{o n:Nat}{q:Nat->UInt8}{t:Nat}(h:t<o∨o+n<=t):putAt f o n q t=f t:=if_neg Zo
theorem putAt_in{f:Nat->UInt8}{o n:Nat}{q:Nat->UInt8}{k:Nat}(h:k<n):putAt f o n q (o+k)=q k:=by
 unfold putAt;rw[if_pos Zo,show o+k-o=k by omega]
theorem RowF.heap{w:World}{base e g L C:Nat}{f:Nat->UInt8}(h:RowF w base e g L C f)(hLC:L=C):w.heap[g]? =some (.cells ((upto f L).map vb).toArray e (0,0))/\C<=maxLen:=by
 obtain⟨h0,⟨hv,_⟩|⟨g2,cap,cur,hv,hgg,hh,h1,h2,h3,h4⟩⟩:=h
 ·simp at hv
 ·have e1:g2=g:=by simp at hv;exact hv.1.symm
  have e2:cap=C:=by simp at hv;exact(by first|exact hv.symm|exact hv.2.symm)
  clear hv;subst e1 e2 hLC;refine⟨?_,h2⟩;rw[hh,<-h4,Nat.mul_one];congr 2;apply Array.ext'
  have:cur.toList.length=L:=by rw[Array.length_toList,h3,Nat.mul_one]
  rw[List.toList_toArray,<-this,List.take_length]
theorem RowF.of_heap{w:World}{base e g L:Nat}{f:Nat->UInt8}(hg:base<=g)(hm:L<=maxLen)(h:w.heap[g]? =some (.cells ((upto f L).map vb).toArray e (0,0))):RowF w base e g L L f:=by
 have hl:((upto f L).map vb).length=L:=by rw[List.length_map,upto_length]
 refine⟨by rw[hl,Nat.mul_one],Or.inr ⟨g,L,_,rfl,hg,h,Zr,hm,by rw[List.size_toArray,hl,Nat.mul_one],?_⟩⟩;rw[Nat.mul_one,List.toList_toArray];exact List.take_of_length_le (by rw[hl];exact Zr)
theorem co_drop(p:List UInt8)(n i:Nat):co (p.drop n) i=co p (n+i):=by unfold co;rw[List.getElem?_drop]
theorem co_upto_lt{f:Nat->UInt8}{n i:Nat}(h:i<n):co (upto f n) i=f i:=co_map_range f h
theorem splice_upto{f:Nat->UInt8}{L o:Nat}{p:List UInt8}(h:o+p.length<=L):splice ((upto f L).map vb) o (p.map vb)=(upto (putAt f o p.length (co p)) L).map vb:=by
 unfold splice;rw[<-List.map_take,<-List.map_drop,<-List.map_append,<-List.map_append];congr 1;refine co_ext ?_ ?_
 ·simp[upto];omega
 ·intro i hi;rw[List.length_append,List.length_append,List.length_take,List.length_drop,upto_length,List.length_map]at hi;rw[co_upto_lt (f:=putAt f o p.length (co p)) (show i<L by omega)]
  by_cases h1:i<o
  ·rw[putAt_out (Or.inl h1),co_append_lt (by rw[List.length_take,upto_length];omega),co_take h1,co_upto_lt Zo]
  ·by_cases h2:i<o+p.length
   ·obtain⟨k,rfl⟩:=Nat.exists_eq_add_of_le (show o<=i by omega);rw[putAt_in (show k<p.length by omega),co_append_ge (by rw[List.length_take,upto_length];omega),List.length_take,upto_length];rw[co_append_lt Zo,show o+k-min o L=k by omega]
   ·rw[putAt_out (Or.inr Zo),co_append_ge (by rw[List.length_take,upto_length];omega),List.length_take,upto_length,co_append_ge Zo,co_drop,List.length_map];rw[show o+p.length+(i-min o L-p.length)=i by omega,co_upto_lt Zo]
theorem only_setRow(w:World)(g:Nat)(cs:Array Value):Only g w (w.setRow g cs):=⟨rfl,rfl,rfl,by simp[World.setRow],fun k hk=>setRow_other w g k cs hk⟩
theorem step_copy_rd{P:Program}{ops:Array Oper}{o:Oper}{a:Act}{w:World}{K:Act->World->Prop}{Q:Exit->Act->World->Prop}{E:Prop}(hgd:o.guard=none)(d s:Operand)(dT sT:TypeId)
  (ho:o.op= .call {callee:=.builtin .copy,args:=#[d,s],argTypes:=#[dT,sT]}) (elem:TypeId) (hu:P.underlying dT=some (.slice elem)) (hsz:(P.info? elem).map (·.size)=some 1)
  {g off n dl dCap:Nat} {va:Value} {p:List UInt8} {base e L:Nat} {f:Nat->UInt8} (hd:a.eval d= .slice (some ⟨g,off,none⟩) dl dCap) (hs:a.eval s=va) (hr:Rd w va p) (hn:p.length=n) (hdl:n<=dl) (hR:RowF w base e g L L f) (hl:off+n<=L)
  (h:∀w',Only g w w'->RowF w' base e g L L (putAt f off n (co p))->K (a.put o.dst (goInt n)) w'):
  if Region.wanted o (yielded ops a.tmps)=true then Oper.wp P o a w K Q else E:=by
 have hw:Region.wanted o (yielded ops a.tmps)=true:=by simp[Region.wanted,hgd]
 rw[if_pos hw];subst hn;obtain⟨hg,hm⟩:=hR.heap rfl;have hlt:=hR.lt
 rcases hr with⟨ao,cap,rfl,rfl,_⟩|⟨b,so,cap,hp0,rfl,h1,h2,h3,hpc⟩
 ·have hrun:=run_copy_none (P:=P) w dT sT o.type elem (some ⟨g,off,none⟩) ao dl dCap 0 cap hu hsz (Nat.zero_min _);unfold Oper.wp;simp[execOp,ho,resolve,invoke,builtin,hd,hs,hrun,Result.andThen];exact h w (Only.refl _ _) (by rw[List.length_nil,putAt_zero];exact hR)
 ·have hrun:=run_copy_row (P:=P) w dT sT o.type elem g off dl dCap ⟨b,so,none⟩ p.length cap ((upto f L).map vb).toArray e (p.map vb) hu hsz hg (by rw[List.length_map];exact(Nat.min_eq_left hdl).symm) (by have:=news_of (k:=p.length) hpc;rwa[List.take_length]at this) (by simp[upto_length];exact hl) (vb_one p);unfold Oper.wp;simp[execOp,ho,resolve,invoke,builtin,hd,hs,hrun,Result.andThen];refine h _ (only_setRow _ _ _) (RowF.of_heap hlt.1 hm ?_);rw[<-splice_upto hl];simpa[splice]using setRow_heap w g _ _ e _ hg
theorem owns_form{w:World}{base e n:Nat}{v:Value}{xs:List Value}(h:w.ownsRow base e 1 v n xs):∃a c,v= .slice a n c:=by
 obtain⟨_,⟨hv,hn⟩|⟨g,cap,cur,hv,_⟩⟩:=h
 ·subst hn;exact⟨_,_,hv⟩
 ·exact⟨_,_,hv⟩
def st(x:Nat):Nat:=if x%2=1 then x/2^^^2197175160 else x/2
def stK:Nat->Nat->Nat
 |0,x=>x
 |k+1,x=>st (stK k x)
def sb(x b:Nat):Nat:=stK 8 (x^^^b)
def run:Nat->List UInt8->Nat
 |x,[]=>x
 |x,b::p=>run (sb x b.toNat) p
def nt(x:Nat):Nat:=4294967295-x
def more(s:Nat)(p:List UInt8):Nat:=nt (run (nt s) p)
theorem xor32{a b:Nat}(ha:a<4294967296)(hb:b<4294967296):a^^^b<4294967296:=Nat.xor_lt_two_pow (n:=32) ha hb
theorem nt_lt(x:Nat):nt x<4294967296:=by unfold nt;omega
theorem nt_xor{x:Nat}(h:x<4294967296):nt x=x^^^4294967295:=by
 have e:=congrArg BitVec.toNat (BitVec.xor_allOnes (x:=BitVec.ofNat 32 x));rw[BitVec.toNat_xor,BitVec.toNat_not,BitVec.toNat_allOnes,BitVec.toNat_ofNat,Nat.mod_eq_of_lt (by simpa using h)]at e;unfold nt;rw[show(4294967295:Nat)=2^32-1 from rfl,e]
theorem st_lt{x:Nat}(h:x<4294967296):st x<4294967296:=by
 unfold st
 split
 ·exact xor32 Zo Zd
 ·omega
theorem stK_lt{x:Nat}(h:x<4294967296):∀k,stK k x<4294967296
 |0=>h
 |k+1=>st_lt (stK_lt h k)
theorem byte32(b:UInt8):b.toNat<4294967296:=by have:=b.toNat_lt;omega
theorem sb_lt{x:Nat}(hx:x<4294967296)(b:UInt8):sb x b.toNat<4294967296:=stK_lt (xor32 hx (byte32 b)) 8
theorem run_lt{x:Nat}(hx:x<4294967296)(p:List UInt8):run x p<4294967296:=by
 induction p generalizing x with
 |nil=>exact hx
 |cons b p ih=>exact ih (sb_lt hx b)
theorem run_append(x:Nat)(p q:List UInt8):run x (p++q)=run (run x p) q:=by
 induction p generalizing x with
 |nil=>rfl
 |cons b p ih=>exact ih _
theorem run_take(x:Nat)(p:List UInt8){k:Nat}(h:k<p.length):run x (p.take (k+1))=sb (run x (p.take k)) p[k].toNat:=by
 rw[List.take_succ_eq_append_getElem h,run_append];rfl
theorem more_lt(s:Nat)(p:List UInt8):more s p<4294967296:=nt_lt _
theorem Below.step{w w1 w2:World}(h:Below w.heap.size w w1)(k:Below w1.heap.size w1 w2):Below w.heap.size w w2:=h.trans (k.mono h.size)
theorem rd_nil0{w:World}:Rd w (.slice none 0 0) []:=Or.inl ⟨none,0,rfl,rfl,Zz,fun _=>rfl⟩
theorem own_new(w:World)(e:TypeId):(w.alloc (.cells #[] e)).ownsRow w.heap.size e 1 (.slice (some ⟨w.heap.size,0,none⟩) 0 0) 0 []:=World.ownsRow_made w #[] 0 Zr Zz rfl
theorem rd_one{w:World}{N e:Nat}{v:Value}{p:List UInt8}(h:w.ownsRow N e 1 v (0+p.length) ([]++p.map vb)):Rd w v p:=by
 refine Rd.owned (base:=N) (e:=e) ?_
 rw[Nat.zero_add,List.nil_append]at h;exact h
theorem below_own{w0 w w':World}{N e n:Nat}{v:Value}{xs:List Value}(hB:Below N w0 w)(hN:N<=w.heap.size)(h:w.ownsRow N e 1 v n xs)(hg:w.grownBy w' v.ownBlock):Below N w0 w':=
 hB.grown hg hN (fun k hk=>(Zv h k hk).1)
theorem not_u32{s:Nat}(hs:s<4294967296):bits .xor .u32 IntKind.u32.max (s:Int)=((nt s:Nat):Int):=by
 rw[show IntKind.u32.max=((4294967295:Nat):Int)from rfl,u32_xor_nat _ _ Zd hs,nt_xor hs,Nat.xor_comm]
theorem val_int32{k:IntKind}{a b:Int}(h:a=b):Value.int k a= .int k b:=by rw[h]
theorem z2_1{p:Prop} (h:p:=by
 rw[show(1:Int)=((1:Nat):Int)from rfl,u32_and_nat s 1 hs Zd,Bool.eq_iff_iff,beq_iff_eq,decide_eq_true_eq,Nat.and_one_is_mod];omega
 ):p:=h
theorem bit0_u32{s:Nat}(hs:s<4294967296):(bits .and .u32 (s:Int) 1==1)=decide (s%2=1):=by
 exact z2_1
theorem st_odd{s:Nat}(hs:s<4294967296)(h:s%2=1):bits .xor .u32 ((s:Int)/2) 2197175160=((st s:Nat):Int):=by
 rw[show(s:Int)/2=((s/2:Nat):Int) by omega,show(2197175160:Int)=((2197175160:Nat):Int)from rfl,u32_xor_nat _ _ Zo Zd];unfold st;rw[if_pos h]
theorem st_even{s:Nat}(h:¬s%2=1):(s:Int)/2=((st s:Nat):Int):=by
 unfold st;rw[if_neg h];omega
theorem stK_add(a b x:Nat):stK (a+b) x=stK a (stK b x):=by
 induction a with
 |zero=>rw[Nat.zero_add];rfl
 |succ a ih=>rw[show a+1+b=(a+b)+1 by omega];show st (stK (a+b) x)=st (stK a (stK b x));rw[ih]
theorem stK_even{t:Nat}:∀m,t%2^m=0->stK m t=t/2^m
 |0,_=>by simp[stK]
 |m+1,h=>by
  have h1:t%2^m=0:=by
   have e:t%2^(m+1)%2^m=t%2^m:=Nat.mod_mod_of_dvd t ⟨2,by rw[Nat.pow_succ]⟩;rw[h]at e;simpa using e.symm
  show st (stK m t)=_
  rw[stK_even m h1];have h2:t/2^m%2=0:=by
   rw[Nat.pow_succ,Nat.mod_mul]at h;have:=Nat.two_pow_pos m
   rcases Nat.eq_zero_or_pos (t/2^m%2)with h3|h3
   ·exact h3
   ·have:=Nat.mul_pos this h3;omega
  unfold st;rw[if_neg Zo,Nat.div_div_eq_div_mul,Nat.pow_succ]
theorem stK_early{q j t:Nat}(hj:j<8)(ht:t=stK j q)(h:t%256*2^j%256=0):t/2^(8-j)=stK 8 q:=by
 have e:stK 8 q=stK (8-j) t:=by rw[ht,<-stK_add];congr 1;omega
 rw[e,stK_even];have h1:t*2^j%256=0:=by rw[Nat.mod_mul_mod]at h;exact h
 have h2:(256:Nat)=2^(8-j)*2^j:=by rw[<-Nat.pow_add,show 8-j+j=8 by omega]
 rw[h2,Nat.mul_mod_mul_right]at h1
 rcases Nat.mul_eq_zero.1 h1 with h3|h3
 ·exact h3
 ·exact absurd h3 (Nat.pos_iff_ne_zero.1 (Nat.two_pow_pos j))
theorem bit0_even{s:Nat}(hs:s<4294967296):(bits .and .u32 (s:Int) 1==0)=decide (¬s%2=1):=by
 exact z2_1
theorem cshifted_any{s:Nat}{w:World}{u:Int}(hu:u=(s:Int))(hs:s<4294967296):
  Calls Tryz.prog 198 #[.int .u32 u] w fun e w'=>e= .returned (.int .u32 ((st s:Nat):Int))/\w'=w:=by
 subst hu;have d:=bit0_even hs
 by_cases h2:s%2=1
 ·rw[Zx Zo]at d;have X:Hid (bits .xor .u32 ((s:Int)/2) 2197175160=((st s:Nat):Int)):=st_odd hs h2
  go_enter Tryz.func198,Tryz.ntmps198
  go_wp2;go_ret;exact⟨by rw[X.out];rfl,rfl⟩
 ·rw[Zy h2]at d;have X:Hid ((s:Int)/2=((st s:Nat):Int)):=st_even h2
  go_enter Tryz.func198,Tryz.ntmps198
  go_wp2;go_ret;exact⟨by rw[X.out];rfl,rfl⟩
theorem z2_3{p:Prop} (h:p:=by
 go_wp2
 go_round
 case rel=>exact⟨k+1,Zo,Zg,by rw[HS.out]⟩
 case measure=>simp[intOf];omega
 ):p:=h
theorem cmore_any{s:Nat}{v:Value}{p:List UInt8}{w:World}{u:Int}(hu:u=(s:Int))(hs:s<4294967296)(hp:Rd w v p)(hl:p.length<=1000000):
  Calls Tryz.prog 181 #[.int .u32 u,v] w fun e w'=>e= .returned (.int .u32 ((more s p:Nat):Int))/\Below w.heap.size w w':=by
 subst hu;have N0:=not_u32 hs;have hn:=nt_lt s;have HM:Hid (more s p=nt (run (nt s) p)):=rfl;have N1:=not_u32 (run_lt hn p);rw[<-HM.out]at N1;obtain⟨y,ey⟩:∃y,Hid (y=nt s):=⟨_,rfl⟩;rw[<-ey.out]at N0 hn N1;obtain⟨a,c,rfl⟩:=hp.form
 go_enter Tryz.func181,Tryz.ntmps181
 go_wp2;go_step3;go_wp2;go_step3;go_wp2
 go_loop [5,13] (fun x i=>∃k:Nat,k<=p.length/\i= .int .i64 k/\x= .int .u32 ((run y (p.take k):Nat):Int)) (fun _ i=>p.length-(intOf i).toNat)
 case atStart=>exact⟨0,Zo,rfl,rfl⟩
 case round=>
  obtain⟨k,hk,rfl,rfl⟩:=hrel;have hr:=run_lt hn (p.take k)
  by_cases hlt:k<p.length
  ·have hlt':(k:Int)<(p.length:Int):=by omega
   rcases hp with⟨a,c,rfl,_⟩|⟨b,o,c,hp0,e0,h1,h2,h3,hpc⟩
   ·simp at hlt
   ·simp at e0;obtain⟨rfl,rfl⟩:=e0;have c1:=hpc k hlt;have HS:Hid (run y (p.take (k+1))=stK 8 (run y (p.take k)^^^(co p k).toNat)):=by show _=_;rw[run_take y p hlt,co_lt hlt];rfl
    clear hpc;obtain⟨z,ez⟩:∃z,Hid (z=run y (p.take k)):=⟨_,rfl⟩;rw[<-ez.out]at hr HS ⊢;have X0:=u32_xor_nat z (co p k).toNat hr (byte32 _);have hq:=xor32 hr (byte32 (co p k));have m0:(((co p k).toNat:Nat):Int)%4294967296=(((co p k).toNat:Nat):Int):=by have:=(co p k).toNat_lt;omega
    obtain⟨q,eq⟩:∃q,Hid (q=z^^^(co p k).toNat):=⟨_,rfl⟩;rw[<-eq.out]at X0 hq HS;go_wp2
    go_loop [5,8,21] (fun x l i=>∃j:Nat,j<=8/\i= .int .i64 j/\x= .int .u32 ((stK j q:Nat):Int)) (fun _ _ i=>8-(intOf i).toNat)
    case atStart=>exact⟨0,Zo,rfl,rfl⟩
    case round=>
     obtain⟨j,hj,rfl,rfl⟩:=hrel;have ht:=stK_lt hq j;have HT:Hid (stK (j+1) q=st (stK j q)):=rfl;obtain⟨t,et⟩:∃t,Hid (t=stK j q):=⟨_,rfl⟩
     by_cases hj8:j<8
     ·rw[<-et.out]at ht HT ⊢
      by_cases hz:t%256*2^j%256=0
      ·have D:((t:Int)%256*2^j%256==0)=true:=by rw[beq_iff_eq];exact_mod_cast hz
       have HE:Hid (t/2^(8-j)=stK 8 q):=stK_early hj8 et.out hz;go_wp2;exact⟨⟨k+1,Zo,Zg,val_int32 (by rw[HS.out,<-HE.out];norm_cast)⟩,by simp[intOf];omega⟩
      ·have D:((t:Int)%256*2^j%256==0)=false:=by rw[Zq];exact_mod_cast hz
       go_wp2_with fail
       refine(cshifted_any rfl ht).mono ?_
       rintro e w' ⟨rfl,rfl⟩;go_wp2
       go_round
       case rel=>exact⟨j+1,Zo,Zg,by rw[HT.out]⟩
       case measure=>simp[intOf];omega
     ·have e:j=8:=by omega
      subst e;exact z2_3
  ·have e:k=p.length:=by omega
   have ht:p.take k=p:=List.take_of_length_le Zo;have hge:¬(k:Int)<(p.length:Int):=Zo
   rw[ht];clear ht e;go_wp2
   try rw[Exit.noGoto_ret]
   go_ret;exact⟨rfl,Zf⟩
theorem csum_any{v:Value}{p:List UInt8}{w:World}(hp:Rd w v p)(hl:p.length<=1000000):
  Calls Tryz.prog 154 #[v] w fun e w'=>e= .returned (.int .u32 ((more 0 p:Nat):Int))/\Below w.heap.size w w':=by
 go_enter Tryz.func154,Tryz.ntmps154
 go_wp2_with fail
 refine(cmore_any (s:=0) rfl Zd hp hl).mono ?_
 rintro e w' ⟨rfl,b⟩;go_wp2;go_ret;exact⟨rfl,b⟩
theorem z2_2{p:Prop} (h:p:=by
 go_wp2
 go_round
 case rel=>exact⟨k+1,Zo,Zg,val_int32 X.out⟩
 case measure=>simp[intOf];omega
 ):p:=h
theorem rstep_any(x b:Nat)(w:World)(hx:x<4294967296)(hb:b<256):
  Calls Tryz.prog 200 #[.int .u32 (x:Int),.int .u8 (b:Int)] w fun e w'=>e= .returned (.int .u32 ((sb x b:Nat):Int))/\w'=w:=by
 have E0:=u32_xor_nat x b hx Zo;have hy:=xor32 hx (show b<4294967296 by omega);have H8:Hid (sb x b=stK 8 (x^^^b)):=rfl;obtain⟨y,ey⟩:∃y,Hid (y=x^^^b):=⟨_,rfl⟩;rw[<-ey.out]at hy E0 H8
 go_enter Tryz.func200,Tryz.ntmps200
 go_wp2
 go_loop [0,5] (fun o i=>∃k:Nat,k<=8/\i= .int .i64 k/\o= .int .u32 ((stK k y:Nat):Int)) (fun _ i=>8-(intOf i).toNat)
 case atStart=>exact⟨0,Zo,rfl,rfl⟩
 case round=>
  obtain⟨k,hk,rfl,rfl⟩:=hrel;have hs:=stK_lt hy k;have HS:Hid (stK (k+1) y=st (stK k y)):=rfl;obtain⟨s,es⟩:∃s,Hid (s=stK k y):=⟨_,rfl⟩
  by_cases hlt:k<8
  ·rw[<-es.out]at hs HS ⊢
   by_cases h2:s%2=1
   ·have d:=bit0_u32 hs;rw[Zy h2]at d;have X:Hid (bits .xor .u32 ((s:Int)/2) 2197175160=((stK (k+1) y:Nat):Int)):=by show _=_;rw[HS.out];exact st_odd hs h2
    exact z2_2
   ·have d:=bit0_u32 hs;rw[Zx h2]at d;have X:Hid ((s:Int)/2=((stK (k+1) y:Nat):Int)):=by show _=_;rw[HS.out];exact st_even h2
    exact z2_2
  ·have e:k=8:=by omega
   subst e;go_wp2;go_ret;exact⟨by rw[H8.out];rfl,rfl⟩
theorem rstep_at{w:World}(x:Nat)(b:UInt8){u v:Int}(hu:u=(x:Int))(hv:v=((b.toNat:Nat):Int))(hx:x<4294967296):
  Calls Tryz.prog 200 #[.int .u32 u,.int .u8 v] w fun e w'=>e= .returned (.int .u32 ((sb x b.toNat:Nat):Int))/\w'=w:=by
 subst hu hv;exact rstep_any x b.toNat w hx b.toNat_lt
theorem rmore_any{s:Nat}{v:Value}{p:List UInt8}{w:World}{u:Int}(hu:u=(s:Int))(hs:s<4294967296)(hp:Rd w v p)(hl:p.length<=1000000):
  Calls Tryz.prog 194 #[.int .u32 u,v] w fun e w'=>e= .returned (.int .u32 ((more s p:Nat):Int))/\w'=w:=by
 subst hu;have N0:=not_u32 hs;have hn:=nt_lt s;have HM:Hid (more s p=nt (run (nt s) p)):=rfl;have N1:=not_u32 (run_lt hn p);rw[<-HM.out]at N1;obtain⟨y,ey⟩:∃y,Hid (y=nt s):=⟨_,rfl⟩;rw[<-ey.out]at N0 hn N1
 rcases hp with⟨a,c,rfl,rfl,_⟩|⟨b,o,c,hp0,rfl,h1,h2,h3,hpc⟩
 ·go_enter Tryz.func194,Tryz.ntmps194
  go_wp2
  go_loop [5,6] (fun o i=>i= .int .i64 0/\o= .int .u32 (y:Int)) (fun _ _=>0)
  case atStart=>exact⟨rfl,rfl⟩
  case round=>
   obtain⟨rfl,rfl⟩:=hrel;have N2:bits .xor .u32 IntKind.u32.max (y:Int)=((more s []:Nat):Int):=N1;clear N1;go_wp2;go_ret;exact⟨rfl,rfl⟩
 ·go_enter Tryz.func194,Tryz.ntmps194
  go_wp2
  go_loop [5,6] (fun x i=>∃k:Nat,k<=p.length/\i= .int .i64 k/\x= .int .u32 ((run y (p.take k):Nat):Int)) (fun _ i=>p.length-(intOf i).toNat)
  case atStart=>exact⟨0,Zo,rfl,rfl⟩
  case round=>
   obtain⟨k,hk,rfl,rfl⟩:=hrel;have hr:=run_lt hn (p.take k)
   by_cases hlt:k<p.length
   ·have hlt':(k:Int)<(p.length:Int):=by omega
    have c1:=hpc k hlt;have HS:Hid (run y (p.take (k+1))=sb (run y (p.take k)) (co p k).toNat):=by show _=_;rw[run_take y p hlt,co_lt hlt]
    clear hpc;obtain⟨z,ez⟩:∃z,Hid (z=run y (p.take k)):=⟨_,rfl⟩;rw[<-ez.out]at hr HS ⊢
    go_wp2_with fail
    refine(rstep_at z (co p k) rfl rfl hr).mono ?_
    rintro e w' ⟨rfl,rfl⟩;exact z2_3
   ·have e:k=p.length:=by omega
    have ht:p.take k=p:=List.take_of_length_le Zo;have hge:¬(k:Int)<(p.length:Int):=Zo
    rw[ht];clear hpc ht e;go_wp2;go_ret;exact⟨rfl,rfl⟩
theorem rsum_any{v:Value}{p:List UInt8}{w:World}(hp:Rd w v p)(hl:p.length<=1000000):
  Calls Tryz.prog 172 #[v] w fun e w'=>e= .returned (.int .u32 ((more 0 p:Nat):Int))/\w'=w:=by
 go_enter Tryz.func172,Tryz.ntmps172
 go_wp2_with fail
 refine(rmore_any (s:=0) rfl Zd hp hl).mono ?_
 rintro e w' ⟨rfl,rfl⟩;go_wp2;go_ret;exact⟨rfl,rfl⟩
end Go.Proofs.YtclieefpnbdbjaaGreat.Gf
