/- JOINED: SyMath, SyCol, SyLawC, SyCA, SyCB. -/
import Derived.Test.YtddnfhfangfgeaaGreatPome8
set_option maxHeartbeats 2000000
set_option maxRecDepth 100000
namespace Go.Proofs.YtddnfhfangfgeaaGreat.Gf
set_option linter.unusedVariables false
set_option linter.unusedSimpArgs false
def wpd(k i:Nat):Nat->UInt8
 |0=>1
 |n+1=>if k+n=i then wpd k i n else mu (wpd k i n) (pt i^^^pt (k+n))
theorem wpd_self{k i n:Nat}(h:k+n=i):wpd k i (n+1)=wpd k i n:=by rw[wpd,if_pos h]
theorem wpd_next{k i n:Nat}(h:k+n≠i):wpd k i (n+1)=mu (wpd k i n) (pt i^^^pt (k+n)):=by rw[wpd,if_neg h]
theorem wpd_ne{k i n:Nat}(hk:k+n<=256)(hi:i<256):wpd k i n≠0:=by
 induction n with
 |zero=>exact(by decide:(1:UInt8)≠0)
 |succ n ih=>
  have h:=ih Zo
  by_cases e:k+n=i
  ·rw[wpd_self e];exact h
  ·rw[wpd_next e];exact mu_ne h (pt_ne hi Zo (fun x=>e x.symm))
def wtF(k m i:Nat):UInt8:=iv (wpd k i m)
theorem wiv_ne{a:UInt8}(h:a≠0):iv a≠0:=fun e=>by
 have:=mu_iv h;rw[e,mu_zero]at this;cases this
theorem wtF_ne{k m i:Nat}(h:k+m<=256)(hi:i<256):wtF k m i≠0:=wiv_ne (wpd_ne h hi)
def nmF(a p:UInt8):Nat->UInt8
 |0=>a
 |n+1=>mu (nmF a p n) p
theorem nmF_pwr(a p:UInt8)(n:Nat):nmF a p n=mu a (nmF 1 p n):=by
 induction n with
 |zero=>exact(mu_one a).symm
 |succ n ih=>rw[nmF,ih,nmF,mu_assoc]
def synF(k m:Nat)(z:Nat->UInt8)(l:Nat):UInt8:=S (k+m) (fun i=>mu (mu (z i) (wtF k m i)) (nmF 1 (pt i) l))
theorem synF_congr{k m l:Nat}{z y:Nat->UInt8}(h:∀i,i<k+m->z i=y i):synF k m z l=synF k m y l:=S_congr fun i hi=>by rw[h i hi]
theorem synF_add{k m l:Nat}{z y x:Nat->UInt8}(h:∀i,i<k+m->x i=z i^^^y i):synF k m x l=synF k m z l^^^synF k m y l:=by
 unfold synF;rw[<-S_xor];exact S_congr fun i hi=>by rw[h i hi,xor_mu,xor_mu]
theorem PF.mono'{k n:Nat}{f:UInt8->UInt8}(h:PF k f)(hn:k<=n):PF n f:=by
 induction n with
 |zero=>rw[Nat.le_zero.1 hn]at h;exact h
 |succ n ih=>
  by_cases e:k=n+1
  ·rw[<-e];exact h
  ·exact(ih Zo).mono
theorem nm_PF(l:Nat):PF (l+1) (fun z=>nmF 1 z l):=by
 induction l with
 |zero=>exact PF.const 1
 |succ l ih=>exact⟨0,_,ih,fun z=>by rw[zero_x];exact mu_comm _ _⟩
theorem PF.coef{k:Nat}{f:UInt8->UInt8}(h:PF k f):∃c:Nat->UInt8,∀z,f z=S k (fun l=>mu (c l) (nmF 1 z l)):=by
 induction k generalizing f with
 |zero=>exact⟨fun _=>0,h⟩
 |succ k ih=>
  obtain⟨a,g,hg,hz⟩:=h;obtain⟨c,hc⟩:=ih hg;refine⟨fun l=>if l=0 then a else c (l-1),fun z=>?_⟩;rw[S_head,hz z,hc z,mu_S];congr 1
  ·show a=mu (if (0:Nat)=0 then a else _) (nmF 1 z 0)
   rw[if_pos rfl];exact(mu_one a).symm
  ·refine S_congr fun l hl=>?_
   show mu z (mu (c l) (nmF 1 z l))=mu (if l+1=0 then a else c (l+1-1)) (nmF 1 z (l+1))
   rw[if_neg Zo,Nat.add_sub_cancel,nmF,mu_left,mu_comm z]
theorem syn_poly{k m:Nat}{z:Nat->UInt8}(h:∀l,l<m->synF k m z l=0){g:UInt8->UInt8}(hg:PF m g):S (k+m) (fun i=>mu (mu (z i) (wtF k m i)) (g (pt i)))=0:=by
 obtain⟨c,hc⟩:=hg.coef;have e1:S (k+m) (fun i=>mu (mu (z i) (wtF k m i)) (g (pt i)))=S (k+m) (fun i=>S m (fun l=>mu (c l) (mu (mu (z i) (wtF k m i)) (nmF 1 (pt i) l)))):=
  S_congr fun i hi=>by rw[hc,mu_S];exact S_congr fun l hl=>mu_left _ _ _
 rw[e1,S_swap];refine S_zero fun l hl=>?_
 rw[<-mu_S];have:=h l hl;unfold synF at this;rw[this,mu_zero]
def qp(k n:Nat):UInt8:=pt (k+n)
theorem wpd_data{k j n:Nat}(hj:j<k):wpd k j n=PD (qp k) n (pt j):=by
 induction n with
 |zero=>rfl
 |succ n ih=>rw[wpd_next Zo,ih,PD,mu_comm];rfl
theorem wpd_par{k i n:Nat}:wpd k (k+i) n=PE (qp k) i n (pt (k+i)):=by
 induction n with
 |zero=>rfl
 |succ n ih=>
  by_cases e:n=i
  ·rw[wpd_self Zo,ih,PE,if_pos e]
  ·rw[wpd_next Zo,ih,PE,if_neg e,mu_comm];rfl
theorem PD_ne{k j n:Nat}(hj:j<k)(h:k+n<=256):PD (qp k) n (pt j)≠0:=by rw[<-wpd_data hj];exact wpd_ne h Zo
theorem wt_data{k m j i:Nat}(hj:j<k)(hi:i<m)(h:k+m<=256):mu (wtF k m j) (PE (qp k) i m (pt j))=parF k i j:=by
 unfold wtF parF;have hne:pt j^^^pt (k+i)≠0:=pt_ne Zo Zo Zo;have e1:PD (qp k) m (pt j)=mu (pt j^^^pt (k+i)) (PE (qp k) i m (pt j)):=(PE_mul (qp k) hi (pt j)).symm;have hD:=PD_ne (n:=m) hj h;have hE:PE (qp k) i m (pt j)≠0:=fun e=>hD (by rw[e1,e,mu_zero])
 rw[wpd_data hj,x_comm (pt (k+i))];have h1:=mu_iv hD;have h2:=mu_iv hne
 --both are the number whose product with the sum is 1
 have h3:mu (pt j^^^pt (k+i)) (mu (iv (PD (qp k) m (pt j))) (PE (qp k) i m (pt j)))=1:=by
  rw[mu_left,<-e1,mu_comm];exact h1
 have h4:=congrArg (mu (iv (pt j^^^pt (k+i)))) h3;rw[<-mu_assoc,mu_comm (iv _) (pt j^^^_),h2,one_mu,mu_one]at h4;exact h4
theorem wt_par{k m i:Nat}(hi:i<m)(h:k+m<=256):mu (wtF k m (k+i)) (PE (qp k) i m (pt (k+i)))=1:=by
 unfold wtF;rw[wpd_par,mu_comm];exact mu_iv (by rw[<-wpd_par];exact wpd_ne h Zo)
theorem syn_par{k m:Nat}{z:Nat->UInt8}(h:k+m<=256)(hz:∀l,l<m->synF k m z l=0){i:Nat}(hi:i<m):z (k+i)=S k (fun j=>mu (parF k i j) (z j)):=by
 have h0:=syn_poly hz ((PE_deg (qp k) i m).1 hi);rw[S_split]at h0;have e1:S k (fun j=>mu (mu (z j) (wtF k m j)) (PE (qp k) i m (pt j)))=S k (fun j=>mu (parF k i j) (z j)):=S_congr fun j hj=>by
  rw[mu_assoc,wt_data hj hi h,mu_comm]
 have e2:S m (fun n=>mu (mu (z (k+n)) (wtF k m (k+n))) (PE (qp k) i m (pt (k+n))))=z (k+i):=by
  rw[S_one hi (fun n hn hne=>?_)]
  ·rw[mu_assoc,wt_par hi h,mu_one]
  ·have:PE (qp k) i m (qp k n)=0:=PE_other (qp k) hn hne
   show mu _ (PE (qp k) i m (qp k n))=0
   rw[this,mu_zero]
 rw[e1,e2]at h0;exact(x_eq_zero.1 h0).symm
theorem lagrange{k m:Nat}(h:k+m<=256){g:UInt8->UInt8}(hg:PF m g)(z:UInt8):g z=S m (fun i=>mu (mu (g (qp k i)) (wtF k m (k+i))) (PE (qp k) i m z)):=by
 have hf:PF m (fun z=>g z^^^S m (fun i=>mu (mu (g (qp k i)) (wtF k m (k+i))) (PE (qp k) i m z))):=
  hg.add (PF.sum fun i hi=>((PE_deg (qp k) i m).1 hi).smul _)
 have:=hf.roots (qp k) (fun i j hi hj hij e=>hij (by have:=pt_inj Zo Zo e;omega)) (fun n hn=>?_)
 ·exact x_eq_zero.1 (this z)
 ·show g (qp k n)^^^S m (fun i=>mu (mu (g (qp k i)) (wtF k m (k+i))) (PE (qp k) i m (qp k n)))=0
  rw[S_one hn (fun i hi hne=>by rw[PE_other (qp k) hn (fun e=>hne e.symm),mu_zero])];have e:=wt_par (k:=k) hn h
  show g (qp k n)^^^mu (mu (g (qp k n)) (wtF k m (k+n))) (PE (qp k) n m (pt (k+n)))=0
  rw[mu_assoc,e,mu_one,x_self]
theorem par_syn{k m:Nat}{z:Nat->UInt8}(h:k+m<=256)(hz:∀i,i<m->z (k+i)=S k (fun j=>mu (parF k i j) (z j))){l:Nat}(hl:l<m):synF k m z l=0:=by
 unfold synF;rw[S_split];have hg:PF m (fun z=>nmF 1 z l):=(nm_PF l).mono' Zo;have e1:S k (fun j=>mu (mu (z j) (wtF k m j)) (nmF 1 (pt j) l))=S m (fun i=>mu (mu (z (k+i)) (wtF k m (k+i))) (nmF 1 (pt (k+i)) l)):=by
  have a1:S k (fun j=>mu (mu (z j) (wtF k m j)) (nmF 1 (pt j) l))=S k (fun j=>S m (fun i=>mu (mu (nmF 1 (pt (k+i)) l) (wtF k m (k+i))) (mu (parF k i j) (z j)))):=S_congr fun j hj=>by
   have:=lagrange h hg (pt j);rw[this,mu_S];refine S_congr fun i hi=>?_
   rw[<-wt_data hj hi h]
   show mu (mu (z j) (wtF k m j)) (mu (mu (nmF 1 (pt (k+i)) l) (wtF k m (k+i))) (PE (qp k) i m (pt j)))=_
   rw[mu_left,mu_assoc (z j),mu_comm (z j)]
  rw[a1,S_swap];refine S_congr fun i hi=>?_
  rw[<-mu_S,<-hz i hi];simp only[mu_assoc,mu_comm,mu_left]
 rw[e1,x_self]
open Go.RowKit
def noughtB(p:List UInt8):Bool:=decide (∀i,i<p.length->co p i=0)
def colL(p:List UInt8):List (List UInt8):=mkL p.length (fun i=>[co p i])
theorem col_any{v:Value}{p:List UInt8}{w:World}(hp:Rd w v p)(hl:p.length<=300):Calls Tryz.prog 212 #[v] w fun e w'=>∃v',e= .returned v'/\Rs w' v' (colL p)/\Below w.heap.size w w':=by
 obtain⟨i0,hi,hz0,hz1,hz2⟩:=info_parts info_u8;obtain⟨i1,hj,hy0,hy1,hy2⟩:=info_parts info_shard;obtain⟨a,c,rfl⟩:=hp.form
 go_enter Tryz.func212,Tryz.ntmps212
 go_wp2
 go_loopw [3,4] (fun o i wr=>∃k:Nat,k<=p.length/\i= .int .i64 k/\Os wr w.heap.size 36 5 o (mkL k (fun i=>[co p i]))/\Below w.heap.size w wr) (fun _ i _=>p.length-(intOf i).toNat)
 case atStart=>exact⟨0,Zo,rfl,Os.nil _ _ _ _,Zf⟩
 case round=>
  obtain⟨k,hk,rfl,hO,hB⟩:=hrel;have hsz:=hB.size;have HL:Hid ((mkL k (fun i=>[co p i])).length=k):=mkL_length _ _;obtain⟨av,cv,ev⟩:=hO.form;rw[HL.out]at ev;subst ev
  by_cases hlt:k<p.length
  ·obtain⟨b,off,rfl,hb,c1⟩:=(hp.below hB).byte hlt;have hlt':(k:Int)<(p.length:Int):=by omega
   obtain⟨x,hx⟩:∃x,Hid (x=co p k):=⟨_,rfl⟩;have HT:Hid (mkL (k+1) (fun i=>[co p i])=mkL k (fun i=>[co p i])++[[x]]):=by show _=_;rw[hx.out];exact mkL_succ _ _
   rw[<-hx.out]at c1;have hA1:Below wr.heap.size wr (wr.alloc (.cells #[.int .u8 (x.toNat:Nat)] 5)):=Zf.alloc Zr _;have hx5:OwnP (wr.alloc (.cells #[.int .u8 (x.toNat:Nat)] 5)) w.heap.size 5 (.slice (some ⟨wr.heap.size,0,none⟩) 1 1) [x]:=
    ownsRow_base (World.ownsRow_lit wr #[.int .u8 (x.toNat:Nat)] 1 Zr Zl rfl) hsz
   clear hp
   go_wp2_with (at_builtin;go_loud (refine wpList_append_os rfl (.tmp 11) (.tmp 17) 106 rfl w.heap.size 36 i1 Tryz.underlying106 hj hy0 hy1 hy2 5 (.slice av k cv) (mkL k (fun i=>[co p i])) rfl hO hA1 (.slice (some ⟨wr.heap.size,0,none⟩) 1 1) [x] hx5 (by intro q hq;cases hq;exact Zr) _ 1 (show Value.slice (some ⟨wr.heap.size+1,0,none⟩) 1 1=_ by simp) (by rw[HL.out];omega) hsz ?_);intro v' w6 hv6 hb6 _ _)
   rw[<-HT.out]at hv6;have HB:Hid (Below w.heap.size w w6):=hB.trans hb6;have HO:Hid (Os w6 w.heap.size 36 5 v' (mkL (k+1) (fun i=>[co p i]))):=hv6;clear hB hb6 hv6 hO hx5 hA1 c1;go_roundw
   case rel=>exact⟨k+1,Zo,Zg,HO.out,HB.out⟩
   case measure=>simp[intOf];omega
  ·have e:k=p.length:=by omega
   have hge:¬(k:Int)<(p.length:Int):=Zo
   have HR:Hid (Rs wr (.slice av k cv) (colL p)):=by
    show Rs _ _ _
    unfold colL;rw[<-e];exact hO.rs
   clear hp e hO;go_wp2;go_ret;exact⟨_,rfl,HR.out,hB⟩
def lineL(L:List (List UInt8)):List UInt8:=upto (fun i=>co (ro L i) 0) L.length
theorem line_far{v:Value}{L:List (List UInt8)}{w:World}(hL:Rs w v L)(hl:L.length<=300)(h1:∀i,i<L.length->(ro L i).length=1):Calls Tryz.prog 213 #[v] w fun e w'=>∃v',e= .returned v'/\Rd w' v' (lineL L)/\Below w.heap.size w w'/\Far w.heap.size v':=by
 obtain⟨i0,hi,hz0,hz1,hz2⟩:=info_parts info_u8;obtain⟨a,c,rfl⟩:=hL.form;have h1':Hid _:=h1;clear h1
 go_enter Tryz.func213,Tryz.ntmps213
 go_wp2
 go_loopw [3,4] (fun o i wr=>∃k:Nat,k<=L.length/\i= .int .i64 k/\wr.ownsRow w.heap.size 5 1 o k ((upto (fun i=>co (ro L i) 0) k).map vb)/\Below w.heap.size w wr) (fun _ i _=>L.length-(intOf i).toNat)
 case atStart=>exact⟨0,Zo,rfl,World.ownsRow_nil _ _ _ _,Zf⟩
 case round=>
  obtain⟨k,hk,rfl,hown,hB⟩:=hrel;have hsz:=hB.size;obtain⟨av,cv,rfl⟩:=owns_form hown
  by_cases hlt:k<L.length
  ·obtain⟨b,off,xa,xc,rfl,hb,c1,r1⟩:=(hL.below hB).at hlt;have hlt':(k:Int)<(L.length:Int):=by omega
   have e1:=h1'.out k hlt;obtain⟨x,hx⟩:∃x,Hid (x=co (ro L k) 0):=⟨_,rfl⟩;have e2:ro L k=[x]:=by
    refine co_ext (by rw[e1];rfl) fun i hi=>?_
    rw[show i=0 by omega,hx.out];rfl
   rw[e2]at c1 r1;have HR:Hid (Rd wr (.slice xa 1 xc) [x]):=r1;have c1':wr.cell? ⟨b,off+k,none⟩=some (.slice xa 1 xc):=c1;clear e1 e2 c1 r1 hL
   go_wp2_with (at_builtin;go_loud (refine wpList_append_rd2 _ rfl (.tmp 11) (.tmp 15) 36 rfl w.heap.size 5 i0 Tryz.underlying36 hi hz0 hz1 hz2 (.slice av k cv) k _ rfl hown _ [x] rfl HR.out Zm hsz ?_);intro x' w4 hx4 hg4 _)
   have HN:Hid (w4.ownsRow w.heap.size 5 1 x' (k+1) ((upto (fun i=>co (ro L i) 0) (k+1)).map vb)):=(by rw[upto_vb_succ,<-hx.out];exact hx4:w4.ownsRow w.heap.size 5 1 x' (k+1) ((upto (fun i=>co (ro L i) 0) (k+1)).map vb));have HB:Hid (Below w.heap.size w w4):=hB.grown hg4 hsz (fun q hq=>(Zv hown q hq).1);clear hx4 hg4 hown hB c1' HR;go_roundw
   case rel=>exact⟨k+1,Zo,Zg,HN.out,HB.out⟩
   case measure=>simp[intOf];omega
  ·have e:k=L.length:=by omega
   have hge:¬(k:Int)<(L.length:Int):=Zo
   have HR:Hid (Rd wr (.slice av k cv) (lineL L)):=by
    show Rd _ _ _
    unfold lineL;rw[<-e];exact Rd.owned (base:=w.heap.size) (e:=5) (by rw[upto_length];exact hown)
   have HF:Hid (Far w.heap.size (.slice av k cv)):=fun x n9 c9 e9=>by
    obtain⟨_,⟨q1,_⟩|⟨gq,capq,curq,q1,q2,_⟩⟩:=hown
    ·rw[q1]at e9;simp at e9
    ·rw[q1]at e9;simp at e9;rw[<-e9.1];exact q2
   clear e hown hL;go_wp2;go_ret;exact⟨_,rfl,HR.out,hB,HF.out⟩
theorem colL_length(p:List UInt8):(colL p).length=p.length:=mkL_length _ _
theorem colL_row{p:List UInt8}{i:Nat}(h:i<p.length):ro (colL p) i=[co p i]:=ro_mkL h
theorem colL_even(p:List UInt8):Even (colL p):=fun i hi=>by
 rw[colL_length]at hi;rw[colL_row hi,colL_row Zo];rfl
theorem colL_small{p:List UInt8}(h:p.length<=300):Small (colL p):=⟨by rw[colL_length];exact h,fun i=>by
 by_cases e:i<p.length
 ·rw[colL_row e];simp
 ·rw[ro_ge (by rw[colL_length];omega)];simp⟩
theorem encC_len{p:List UInt8}{k m i:Nat}(hk:p.length=k)(h1:1<=k)(hi:i<k+m):(ro (encL m k (parF k) (colL p)) i).length=1:=by
 rw[enc_len (colL_even p) (by rw[colL_length];omega),colL_row Zo];rfl
theorem encC_data{p:List UInt8}{k m i:Nat}(hk:p.length=k)(hi:i<k):co (ro (encL m k (parF k) (colL p)) i) 0=co p i:=by
 rw[enc_row_lt (by rw[colL_length];omega),colL_row Zo];rfl
theorem encC_par{p:List UInt8}{k m i:Nat}(hk:p.length=k)(h1:1<=k)(hi:i<m):co (ro (encL m k (parF k) (colL p)) (k+i)) 0=S k (fun j=>mu (parF k i j) (co p j)):=by
 rw[enc_row_ge' (by rw[colL_length];omega) (by rw[colL_length];omega),colL_length,hk,show k+i-k=i by omega];unfold parR;rw[colL_row Zo,co_upto_in Zs];exact S_congr fun l hl=>by rw[colL_row Zo];rfl
theorem line_len{p:List UInt8}{k m:Nat}(hk:p.length=k):(lineL (encL m k (parF k) (colL p))).length=k+m:=by
 unfold lineL;rw[upto_length,encL_length,colL_length,hk]
theorem line_nought{p:List UInt8}{k m:Nat}(h1:1<=k)(h2:k+m<=256)(hk:p.length=k):noughtB (upto (synF k m (co (lineL (encL m k (parF k) (colL p))))) m)=true:=by
 refine Zy fun l hl=>?_
 rw[upto_length]at hl;rw[co_upto_in hl];have hc:∀i,i<k+m->co (lineL (encL m k (parF k) (colL p))) i=co (ro (encL m k (parF k) (colL p)) i) 0:=fun i hi=>by
  unfold lineL;rw[co_upto_in (by rw[encL_length,colL_length];omega)]
 refine par_syn h2 (fun i hi=>?_) hl;rw[hc _ Zo,encC_par hk h1 hi];exact S_congr fun j hj=>by rw[hc _ Zo,encC_data hk hj]
structure Wg8(w:World)(b fb kb mb:Nat)(k m:Int):Prop where
 cf:w.cell? ⟨fb,0,none⟩=some (.pointer (some ⟨b,0,none⟩))
 ck:w.cell? ⟨kb,0,none⟩=some (.int .i64 k)
 cm:w.cell? ⟨mb,0,none⟩=some (.int .i64 m)
 lf:fb<w.heap.size
 lk:kb<w.heap.size
 lm:mb<w.heap.size
theorem Wg8.below{w w':World}{b fb kb mb:Nat}{k m:Int}(h:Wg8 w b fb kb mb k m)(hb:Below w.heap.size w w'):Wg8 w' b fb kb mb k m:=
 ⟨(hb.cell (p:=⟨fb,0,none⟩) h.lf).trans h.cf,(hb.cell (p:=⟨kb,0,none⟩) h.lk).trans h.ck,(hb.cell (p:=⟨mb,0,none⟩) h.lm).trans h.cm,Zu h.lf hb.size,Zu h.lk hb.size,Zu h.lm hb.size⟩
theorem wg_any{b:Nat}{k m:Int}(w:World):Calls Tryz.prog 164 #[.pointer (some ⟨b,0,none⟩),.int .i64 k,.int .i64 m] w fun e w'=>
  ∃fb kb mb,e= .returned (.func (.func 191) #[] #[.pointer (some ⟨kb,0,none⟩),.pointer (some ⟨mb,0,none⟩),.pointer (some ⟨fb,0,none⟩)])/\Wg8 w' b fb kb mb k m/\Below w.heap.size w w':=by
 go_enter Tryz.func164,Tryz.ntmps164
 go_wp2;go_ret;refine⟨w.heap.size,w.heap.size+1,w.heap.size+1+1,rfl,⟨by go_simp,by go_simp,by go_simp,Zn,Zn,Zn⟩,by repeat (first|exact Zf|apply below_lit)⟩
theorem wg1_any{w:World}{b fb kb mb k m i:Nat}(hF:FieldAt w b)(hW:Wg8 w b fb kb mb (k:Int) (m:Int))(hkm:k+m<=256)(hi:i<256){x:Int}(hx:x=(i:Int)):
  Calls Tryz.prog 191 #[.int .i64 x,.pointer (some ⟨kb,0,none⟩),.pointer (some ⟨mb,0,none⟩),.pointer (some ⟨fb,0,none⟩)] w fun e w'=>e= .returned (.int .u8 ((wtF k m i).toNat:Nat))/\∃n,w'=w.drewN n:=by
 subst hx;obtain⟨cf,ck,cm,_,_,_⟩:=hW;obtain⟨s,hs⟩:∃s,Hid (s=k+m):=⟨_,rfl⟩;have g0:(k:Int)+(m:Int)=(s:Int):=by have:=hs.out;omega
 have hs2:s<=256:=by have:=hs.out;omega
 have gw:IntKind.i64.wrap (s:Int)=(s:Int):=Zw
 have hks:k<=s:=by have:=hs.out;omega
 clear hkm
 go_enter Tryz.func191,Tryz.ntmps191
 go_wp2
 go_loopw [6,7] (fun p v wr=>∃t:Nat,k<=t/\t<=s/\v= .int .i64 t/\p= .int .u8 ((wpd k i (t-k)).toNat:Nat)/\∃nd,wr=w.drewN nd) (fun _ v _=>s-(intOf v).toNat)
 case atStart=>exact⟨k,Zo,Zo,rfl,by rw[Nat.sub_self];rfl,0,rfl⟩
 case round=>
  obtain⟨t,h1,h2,rfl,rfl,nd,hd0⟩:=hrel;have hd:Hid (wr=w.drewN nd):=hd0;have hFr:FieldAt wr b:=by rw[hd0];exact hF.drewN nd
  have cfr:wr.cell? ⟨fb,0,none⟩=some (.pointer (some ⟨b,0,none⟩)):=by rw[hd0];exact cf
  have ckr:wr.cell? ⟨kb,0,none⟩=some (.int .i64 (k:Int)):=by rw[hd0];exact ck
  have cmr:wr.cell? ⟨mb,0,none⟩=some (.int .i64 (m:Int)):=by rw[hd0];exact cm
  clear hd0 hF cf ck cm
  by_cases hlt:t<s
  ·have hlt':(t:Int)<(s:Int):=by omega
   by_cases e:t=i
   ·have hn:((t:Int)!=(i:Int))=false:=by simp[e]
    have HP:Hid (wpd k i (t+1-k)=wpd k i (t-k)):=by
     show _=_
     rw[show t+1-k=(t-k)+1 by omega,wpd_self Zo]
    clear e;go_wp2;go_roundw
    case rel=>exact⟨t+1,Zo,Zo,Zg,by rw[HP.out],nd,by first|exact hd.out|rfl⟩
    case measure=>simp[intOf];omega
   ·have hn:((t:Int)!=(i:Int))=true:=by simp;omega
    have ht2:t<256:=Zo
    have m1:(t:Int)%256=(t:Int):=Zo
    have m2:(i:Int)%256=(i:Int):=Zo
    have X:=pt_xor hi ht2;have HP:Hid (wpd k i (t+1-k)=mu (wpd k i (t-k)) (pt i^^^pt t)):=by
     show _=_
     rw[show t+1-k=(t-k)+1 by omega,wpd_next Zo,show k+(t-k)=t by omega]
    obtain⟨u,hu⟩:∃u,Hid (u=pt i^^^pt t):=⟨_,rfl⟩;rw[<-hu.out]at X HP;obtain⟨q,hq⟩:∃q,Hid (q=wpd k i (t-k)):=⟨_,rfl⟩;rw[<-hq.out]at HP ⊢;clear e
    go_wp2_with fail
    refine(fmu_quiet hFr q u rfl rfl).mono ?_
    rintro e w2 ⟨rfl,n2,hw2⟩;have hw:Hid _:=hw2;clear hw2;go_wp2;go_roundw
    case rel=>exact⟨t+1,Zo,Zo,Zg,by rw[HP.out],nd+n2,by rw[hw.out,hd.out,World.drewN_drewN]⟩
    case measure=>simp[intOf];omega
  ·have e:t=s:=by omega
   subst e;have hge:¬(t:Int)<(t:Int):=Zo
   have HW:Hid (((wtF k m i).toNat:Nat)=invS (wpd k i (t-k)).toNat):=by
    show _=_
    unfold wtF;rw[iv_toNat,show t-k=m by have:=hs.out;omega]
   obtain⟨q,hq⟩:∃q,Hid (q=wpd k i (t-k)):=⟨_,rfl⟩;rw[<-hq.out]at HW ⊢
   go_wp2_with fail
   refine(inv_all hFr q.toNat rfl (u8_lt q)).mono ?_
   rintro e w2 ⟨rfl,n2,hw2⟩;have hw:Hid _:=hw2;clear hw2;go_wp2;go_ret;exact⟨by rw[HW.out];rfl,nd+n2,by rw[hw.out,hd.out,World.drewN_drewN]⟩
def apR(f:Nat->UInt8)(a p:UInt8)(n t:Nat):UInt8:=if t<n then f t^^^nmF a p t else f t
theorem apR_zero(f:Nat->UInt8)(a p:UInt8):apR f a p 0=f:=by funext t;exact if_neg (Nat.not_lt_zero _)
theorem z10_1{p:Prop} (h:p:=by
 by_cases e:t=n
 ·subst e;rw[if_pos Zo,if_pos rfl]
 ·rw[if_neg e]
  by_cases h:t<n
  ·rw[if_pos h,if_pos Zo]
  ·rw[if_neg h,if_neg Zo]
 ):p:=h
theorem apR_step(f:Nat->UInt8)(a p:UInt8)(n t:Nat):apR f a p (n+1) t=if t=n then f n^^^nmF a p n else apR f a p n t:=by
 unfold apR;exact z10_1
theorem apw_any{w:World}{base u g n c b:Nat}{f:Nat->UInt8}(a p:UInt8)(hF:FieldAt w b)(hbg:b≠g)(hR:RowF w base u g n c f)(hL:n<=1000000){x y:Int}(hx:x=((a.toNat:Nat):Int))(hy:y=((p.toNat:Nat):Int)):
  Calls Tryz.prog 193 #[.pointer (some ⟨b,0,none⟩),.slice (some ⟨g,0,none⟩) n c,.int .u8 x,.int .u8 y] w fun e w'=>e= .returned (.tuple #[])/\Only g w w'/\RowF w' base u g n c (apR f a p n):=by
 subst hx hy
 go_enter Tryz.func193,Tryz.ntmps193
 go_wp2
 go_loopw [2,11] (fun v i wr=>∃l:Nat,l<=n/\i= .int .i64 l/\v= .int .u8 ((nmF a p l).toNat:Nat)/\Only g w wr/\RowF wr base u g n c (apR f a p l)) (fun _ i _=>n-(intOf i).toNat)
 case atStart=>exact⟨0,Zo,rfl,rfl,Only.refl _ _,by rw[apR_zero];exact hR⟩
 case round=>
  obtain⟨l,hl,rfl,rfl,hO,hRl⟩:=hrel
  by_cases hlt:l<n
  ·have hlt':(l:Int)<(n:Int):=by omega
   have c1:=hRl.cell hlt;have f1:=hRl.unfrozen l;have e1:apR f a p l l=f l:=if_neg Zo;rw[e1]at c1;obtain⟨q,hq⟩:∃q,Hid (q=nmF a p l):=⟨_,rfl⟩;have HQ:Hid (nmF a p (l+1)=mu q p):=by show _=_;rw[hq.out];rfl
   have E:=xor_u8 (f l) q;have HN:Hid (RowF (wr.setCell ⟨g,l,none⟩ (.int .u8 (((f l).toNat^^^q.toNat:Nat):Int))) base u g n c (apR f a p (l+1))):=by
    rw[<-UInt8.toNat_xor];exact hRl.store hlt _ fun s=>by rw[hq.out];exact apR_step _ _ _ _ _
   have HO:Hid (Only g w (wr.setCell ⟨g,l,none⟩ (.int .u8 (((f l).toNat^^^q.toNat:Nat):Int)))):=hO.setCell l _;have hFr:=hF.only hbg HO.out;rw[<-hq.out];clear hRl hO hR e1 hF
   go_wp2_with fail
   refine(fmu_quiet hFr q p rfl rfl).mono ?_
   rintro e w2 ⟨rfl,n2,hw2⟩;have HN2:Hid (RowF w2 base u g n c (apR f a p (l+1))):=by rw[hw2];exact HN.out.drewN _
   have HO2:Hid (Only g w w2):=by rw[hw2];exact HO.out.drewN _
   clear hw2 HN HO hFr c1 f1;go_wp2;go_roundw
   case rel=>exact⟨l+1,Zo,Zg,by rw[HQ.out],HO2.out,HN2.out⟩
   case measure=>simp[intOf];omega
  ·have e:l=n:=by omega
   subst e;have hge:¬(l:Int)<(l:Int):=Zo
   go_wp2
   go_end0
   exact⟨rfl,hO,hRl⟩
def MakesP(w:World)(x:Int)(p:List UInt8)(e:Ending)(w':World):Prop:=∃v,e= .returned (.tuple #[v,.int .i64 x])/\Rd w' v p/\Below w.heap.size w w'
theorem rd_nil(w:World):Rd w (.slice none 0 0) []:=Or.inl ⟨none,0,rfl,rfl,Zz,fun _=>rfl⟩
theorem wts_bad{b:Nat}{k m:Int}(w:World)(h:¬OkC k m):Calls Tryz.prog 133 #[.pointer (some ⟨b,0,none⟩),.int .i64 k,.int .i64 m] w (MakesP w 50 []):=by
 go_enter Tryz.func133,Tryz.ntmps133
 go_wp2_with fail
 refine(ccheck_same_bad _ h).mono ?_
 rintro e w2 ⟨rfl,rfl⟩;clear h;go_wp2;exact bodyPost_ret (v:=.tuple #[.slice none 0 0,.int .i64 50]) (by simp[results,Tryz.results133,go_sem]) rfl ⟨_,rfl,rd_nil _,Zf⟩
def upF(f:Nat->UInt8)(n t:Nat):UInt8:=if t<n then f t else 0
theorem upF_zero(f:Nat->UInt8)(t:Nat):upF f 0 t=0:=if_neg (Nat.not_lt_zero _)
theorem upF_step(f:Nat->UInt8)(n t:Nat):upF f (n+1) t=if t=n then f n else upF f n t:=by
 unfold upF;exact z10_1
theorem wts_ok{b k m:Nat}{w:World}(hF:FieldAt w b)(h1:1<=k)(h2:k+m<=256){x y:Int}(hx:x=(k:Int))(hy:y=(m:Int)):Calls Tryz.prog 133 #[.pointer (some ⟨b,0,none⟩),.int .i64 x,.int .i64 y] w (MakesP w 0 (upto (wtF k m) (k+m))):=by
 subst hx hy;obtain⟨i0,hi,hz0,hz1,hz2⟩:=info_parts info_u8;obtain⟨s,hs⟩:∃s,Hid (s=k+m):=⟨_,rfl⟩;have g0:(k:Int)+(m:Int)=(s:Int):=by have:=hs.out;omega
 have hs2:s<=256:=by have:=hs.out;omega
 have gw:IntKind.i64.wrap (s:Int)=(s:Int):=Zw
 rw[<-hs.out];have hok:=okC_mk h1 h2;have h2':Hid _:=h2;clear h2
 go_enter Tryz.func133,Tryz.ntmps133
 go_wp2_with fail
 refine(ccheck_same_ok _ hok).mono ?_
 rintro e w2 ⟨rfl,rfl⟩;clear hok
 go_wp2_with fail
 refine(wg_any _).mono ?_
 rintro e w3 ⟨fb,kb,mb,rfl,hW,b3⟩;have hF3:=hF.below b3;clear hF
 go_wp2_with (at_make;go_loud (refine wpList_make_full _ rfl (.tmp 26) (.tmp 26) 36 rfl w3.heap.size 5 i0 (.int .u8 0) 1 Tryz.underlying36 hi hz0 hz1 _ _ _ _ s rfl rfl Zo Zo (by rw[hz2];omega) Zl Zr ?_);intro w4 hown4 hgrow4)
 have R4:Hid (RowF w4 w3.heap.size 5 w3.heap.size s s (fun _=>0)):=RowF.made hown4;have B4:Hid (Below w3.heap.size w3 w4):=Zf.grown hgrow4 Zr (fun q hq=>by cases hq);clear hown4 hgrow4;obtain⟨g,hg⟩:∃g,Hid (g=w3.heap.size):=⟨_,rfl⟩;rw[<-hg.out]at R4 B4 ⊢
 go_loopw [30] (fun v wr=>∃i:Nat,i<=s/\v= .int .i64 i/\Below g w3 wr/\RowF wr g 5 g s s (upF (wtF k m) i)) (fun v _=>s-(intOf v).toNat)
 case atStart=>exact⟨0,Zo,rfl,B4.out,R4.out.congr fun t _=>(upF_zero _ t).symm⟩
 case round=>
  obtain⟨i,hi,rfl,hB,hR⟩:=hrel;clear R4 B4
  by_cases hlt:i<s
  ·have hlt':(i:Int)<(s:Int):=by omega
   have HB:Hid (Below g w3 wr):=hB;rw[hg.out]at hB;have hFr:=hF3.below hB;have hWr:=hW.below hB;have c1:=fun nd:Nat=>hR.cell hlt
   have f1:=hR.unfrozen i;have HR:Hid (RowF wr g 5 g s s (upF (wtF k m) i)):=hR;clear hB hR hF3 hW
   go_wp2_with fail
   refine(wg1_any (i:=i) hFr hWr h2'.out Zo rfl).mono ?_
   rintro e w5 ⟨rfl,nd,hw5⟩;have R5:RowF w5 g 5 g s s (upF (wtF k m) i):=by rw[hw5];exact HR.out.drewN nd
   have B5:Below g w3 w5:=by rw[hw5];exact HB.out.trans ⟨rfl,rfl,rfl,Zr,fun _ _=>rfl⟩
   clear hw5 HB HR c1 f1 hFr hWr;have c1:=R5.cell hlt;have f1:=R5.unfrozen i;have HN:Hid (RowF (w5.setCell ⟨g,i,none⟩ (.int .u8 ((wtF k m i).toNat:Nat))) g 5 g s s (upF (wtF k m) (i+1))):=R5.store hlt _ fun t=>upF_step _ _ _
   have HB:Hid (Below g w3 (w5.setCell ⟨g,i,none⟩ (.int .u8 ((wtF k m i).toNat:Nat)))):=B5.setCell (p:=⟨g,i,none⟩) Zr _;clear R5 B5;go_wp2;go_roundw
   case rel=>exact⟨i+1,Zo,Zg,HB.out,HN.out⟩
   case measure=>simp[intOf];omega
  ·have e:i=s:=by omega
   subst e;have hge:¬(i:Int)<(i:Int):=Zo
   have HP:Rd wr (.slice (some ⟨g,0,none⟩) i i) (upto (wtF k m) i):=(hR.congr (f':=wtF k m) fun t ht=>if_pos ht).rd;rw[hg.out]at hB;have HB:Hid (Below w2.heap.size w2 wr):=Below.next b3 hB;clear hB hR hF3 hW;go_wp2;exact bodyPost_ret (v:=.tuple #[.slice (some ⟨g,0,none⟩) i i,.int .i64 0]) (by simp[results,Tryz.results133,go_sem]) rfl ⟨_,rfl,HP,HB.out⟩
def syK(k m:Nat)(z:Nat->UInt8)(i l:Nat):UInt8:=S i (fun x=>mu (mu (z x) (wtF k m x)) (nmF 1 (pt x) l))
theorem syK_next(k m:Nat)(z:Nat->UInt8)(i l:Nat):syK k m z (i+1) l=syK k m z i l^^^nmF (mu (z i) (wtF k m i)) (pt i) l:=by
 show syK k m z i l^^^mu (mu (z i) (wtF k m i)) (nmF 1 (pt i) l)=_
 rw[<-nmF_pwr]
theorem sof_ok{b k m:Nat}{v:Value}{z:List UInt8}{w:World}(hF:FieldAt w b)(h1:1<=k)(h2:k+m<=256)(hz:Rd w v z)(hl:z.length=k+m){x y:Int}(hx:x=(k:Int))(hy:y=(m:Int)):Calls Tryz.prog 168 #[.pointer (some ⟨b,0,none⟩),.int .i64 x,.int .i64 y,v] w (MakesP w 0 (upto (synF k m (co z)) m)):=by
 subst hx hy;obtain⟨i0,hi,hz0,hz1,hz2⟩:=info_parts info_u8;obtain⟨za,zc,rfl⟩:=hz.form;obtain⟨s,hs⟩:∃s,Hid (s=k+m):=⟨_,rfl⟩;have g0:(k:Int)+(m:Int)=(s:Int):=by have:=hs.out;omega
 have hs2:s<=256:=by have:=hs.out;omega
 have hm2:m<=256:=by have:=hs.out;omega
 have gw:IntKind.i64.wrap (s:Int)=(s:Int):=Zw
 have HL:Hid (z.length=s):=by show _=_;rw[hs.out];exact hl
 rw[hl,<-hs.out]at hz ⊢;have hn:((s:Int)!=(s:Int))=false:=Zs
 have HC:=wts_ok hF h1 h2 rfl rfl;rw[<-hs.out]at HC;have HS:Hid (upto (synF k m (co z)) m=upto (syK k m (co z) s) m):=by show _=_;rw[hs.out];rfl
 rw[HS.out];clear h2 hl
 go_enter Tryz.func168,Tryz.ntmps168
 go_wp2_with fail
 refine HC.mono ?_
 rintro e w2 ⟨v,rfl,hV,b2⟩;obtain⟨va,vc,rfl⟩:=hV.form;rw[upto_length]at hV ⊢;have hF2:=hF.below b2;have hz2':=hz.below b2;clear HC hF hz
 go_wp2_with (at_make;go_loud (refine wpList_make_full _ rfl (.tmp 31) (.tmp 31) 36 rfl w2.heap.size 5 i0 (.int .u8 0) 1 Tryz.underlying36 hi hz0 hz1 _ _ _ _ m rfl rfl Zo Zo (by rw[hz2];omega) Zl Zr ?_);intro w4 hown4 hgrow4)
 have R4:Hid (RowF w4 w2.heap.size 5 w2.heap.size m m (fun _=>0)):=RowF.made hown4;have B4:Hid (Below w2.heap.size w2 w4):=Zf.grown hgrow4 Zr (fun q hq=>by cases hq);clear hown4 hgrow4;have HA:Hid (Apart w2.heap.size (.slice za s zc)):=hz2'.apart Zr;have HAV:Hid (Apart w2.heap.size (.slice va s vc)):=hV.apart Zr;have hF4:=hF2.below B4.out;have hz4:=hz2'.below B4.out;have hV4:=hV.below B4.out;have hbg:b≠w2.heap.size:=by have:=hF2.lt;omega
 have HB4:Hid (Below w.heap.size w w4):=Below.next b2 B4.out;have hsz:Hid (w.heap.size<=w2.heap.size):=b2.size;obtain⟨g,hg⟩:∃g,Hid (g=w2.heap.size):=⟨_,rfl⟩;rw[<-hg.out]at R4 HA HAV hbg ⊢;clear hF2 hz2' hV B4
 go_loopw [35] (fun v wr=>∃i:Nat,i<=s/\v= .int .i64 i/\Only g w4 wr/\RowF wr g 5 g m m (syK k m (co z) i)) (fun v _=>s-(intOf v).toNat)
 case atStart=>exact⟨0,Zo,rfl,Only.refl _ _,R4.out.congr fun t _=>rfl⟩
 case round=>
  obtain⟨i,hi,rfl,hO,hR⟩:=hrel;clear R4
  by_cases hlt:i<s
  ·have hlt':(i:Int)<(s:Int):=by omega
   have hFr:=hF4.only hbg hO;have hzr:=hz4.only HA.out hO;have hVr:=hV4.only HAV.out hO;obtain⟨zb,zo,rfl,_,cz⟩:=hzr.byte (i:=i) (by rw[HL.out];exact hlt);obtain⟨vb',vo,rfl,_,cv⟩:=hVr.byte (i:=i) (by rw[upto_length];exact hlt);rw[co_upto_in hlt]at cv;have m1:(i:Int)%256=(i:Int):=Zo
   have hpt:Hid ((i:Int)=(((pt i).toNat:Nat):Int)):=by show _=_;rw[pt_toNat Zo]
   have HO:Hid (Only g w4 wr):=hO;have HR:Hid (RowF wr g 5 g m m (syK k m (co z) i)):=hR;have HX:Hid (∀t,syK k m (co z) (i+1) t=syK k m (co z) i t^^^nmF (mu (co z i) (wtF k m i)) (pt i) t):=fun t=>syK_next _ _ _ _ _
   clear hO hR hzr hVr hz4 hV4 hF4
   go_wp2_with fail
   refine(fmu_quiet hFr (co z i) (wtF k m i) rfl rfl).mono ?_
   rintro e w5 ⟨rfl,nd,hw5⟩;have R5:RowF w5 g 5 g m m (syK k m (co z) i):=by rw[hw5];exact HR.out.drewN nd
   have O5:Only g w4 w5:=by rw[hw5];exact HO.out.drewN nd
   have F5:FieldAt w5 b:=by rw[hw5];exact hFr.drewN nd
   clear hw5 HO HR hFr cz cv;have HC:=apw_any (mu (co z i) (wtF k m i)) (pt i) F5 hbg R5 Zo rfl hpt.out;clear R5 F5
   go_wp2_with fail
   refine HC.mono ?_
   rintro e w6 ⟨rfl,O6,R6⟩;have HN:Hid (RowF w6 g 5 g m m (syK k m (co z) (i+1))):=R6.congr fun t ht=>by rw[HX.out];exact if_pos ht
   have HO:Hid (Only g w4 w6):=O5.trans O6;clear R6 O6 O5 HC;go_wp2;go_roundw
   case rel=>exact⟨i+1,Zo,Zg,HO.out,HN.out⟩
   case measure=>simp[intOf];omega
  ·have e:i=s:=by omega
   subst e;have hge:¬(i:Int)<(i:Int):=Zo
   have HP:Rd wr (.slice (some ⟨g,0,none⟩) m m) (upto (syK k m (co z) i) m):=hR.rd;have HB:Hid (Below w.heap.size w wr):=HB4.out.trans (hO.below (by rw[hg.out];exact hsz.out));clear hO hR hF4 hz4 hV4;go_wp2;exact bodyPost_ret (v:=.tuple #[.slice (some ⟨g,0,none⟩) m m,.int .i64 0]) (by simp[results,Tryz.results168,go_sem]) rfl ⟨_,rfl,HP,HB.out⟩
end Go.Proofs.YtddnfhfangfgeaaGreat.Gf
