/- JOINED: WdMath, WdSets, WdTry, WdOwn, WdRefA, WdRefB, WdRefC, WdBack, WdKey, WdAns, WdRoots. -/
import Derived.Test.YtddnfhfangfgeaaGreatPome10
import Derived.Test.YtddnfhfangfgeaaGreatPome9
import Derived.Test.YtddnfhfangfgeaaGreatPome11
set_option maxHeartbeats 2000000
set_option maxRecDepth 100000
namespace Go.Proofs.YtddnfhfangfgeaaGreat.Gf
set_option linter.unusedVariables false
set_option linter.unusedSimpArgs false
def cnt(p:Nat->Bool):Nat->Nat
 |0=>0
 |n+1=>cnt p n+(if p n then 1 else 0)
theorem cnt_mono{p q:Nat->Bool}{n:Nat}(h:∀i,i<n->p i=true->q i=true):cnt p n<=cnt q n:=by
 induction n with
 |zero=>exact Zr
 |succ n ih=>
  have h1:=ih fun i hi=>h i Zo
  rw[cnt,cnt]
  by_cases e:p n=true
  ·rw[if_pos e,if_pos (h n Zo e)];omega
  ·rw[if_neg e];omega
theorem cnt_or(p q:Nat->Bool)(n:Nat):cnt (fun i=>p i||q i) n<=cnt p n+cnt q n:=by
 induction n with
 |zero=>exact Zr
 |succ n ih=>
  rw[cnt,cnt,cnt];cases p n<;>cases q n<;>simp<;>omega
theorem cnt_le(p:Nat->Bool)(n:Nat):cnt p n<=n:=by
 induction n with
 |zero=>exact Zr
 |succ n ih=>rw[cnt];split<;>omega
theorem cnt_congr{p q:Nat->Bool}{n:Nat}(h:∀i,i<n->p i=q i):cnt p n=cnt q n:=by
 induction n with
 |zero=>rfl
 |succ n ih=>rw[cnt,cnt,ih fun i hi=>h i Zo,h n Zo]
def plc(p:Nat->Bool)(n:Nat):List Nat:=(List.range n).filter p
theorem plc_succ(p:Nat->Bool)(n:Nat):plc p (n+1)=plc p n++(if p n then [n]else []):=by
 unfold plc;rw[List.range_succ,List.filter_append];congr 1;cases h:p n<;>simp[h]
theorem plc_length(p:Nat->Bool)(n:Nat):(plc p n).length=cnt p n:=by
 induction n with
 |zero=>rfl
 |succ n ih=>rw[plc_succ,cnt,List.length_append,ih];congr 1;split<;>rfl
theorem plc_mem{p:Nat->Bool}{n i:Nat}:i∈plc p n↔i<n/\p i=true:=by unfold plc;rw[List.mem_filter,List.mem_range]
theorem plc_nodup(p:Nat->Bool)(n:Nat):(plc p n).Nodup:=List.Nodup.sublist List.filter_sublist List.nodup_range
def prL(z:UInt8):List Nat->UInt8
 |[]=>1
 |i::I=>mu (z^^^pt i) (prL z I)
theorem prL_PF(I:List Nat):PF (I.length+1) (fun z=>prL z I):=by
 induction I with
 |nil=>exact PF.const 1
 |cons i I ih=>exact(ih.lin (pt i)).congr fun z=>rfl
theorem prL_zero{z:UInt8}{I:List Nat}:prL z I=0↔∃i,i∈I/\z=pt i:=by
 induction I with
 |nil=>exact⟨fun h=>absurd (show(1:UInt8)=0 from h) Zd,fun ⟨i,h,_⟩=>by simp at h⟩
 |cons a I ih=>
  rw[prL,mu_eq_zero,ih];constructor
  ·rintro(h|⟨i,h1,h2⟩)
   ·exact⟨a,Zs,x_eq_zero.1 h⟩
   ·exact⟨i,by simp[h1],h2⟩
  ·rintro⟨i,h1,h2⟩
   rcases List.mem_cons.1 h1 with e|e
   ·subst e;exact Or.inl (x_eq_zero.2 h2)
   ·exact Or.inr ⟨i,e,h2⟩
def CodeW(k m:Nat)(c:Nat->UInt8):Prop:=∀l,l<m->synF k m c l=0
theorem mds{k m:Nat}{c:Nat->UInt8}(h:k+m<=256)(hc:CodeW k m c)(hn:cnt (fun i=>decide (c i≠0)) (k+m)<=m):∀i,i<k+m->c i=0:=by
 intro j hj
 by_cases e:c j=0
 ·exact e
 ·exfalso;have hjI:j∈plc (fun i=>decide (c i≠0)) (k+m):=plc_mem.2 ⟨hj,Zy e⟩;obtain⟨I,hI⟩:∃I,I=(plc (fun i=>decide (c i≠0)) (k+m)).erase j:=⟨_,rfl⟩;have hlen:I.length+1<=m:=by
   rw[hI,List.length_erase_of_mem hjI,plc_length]
   have:0<(plc (fun i=>decide (c i≠0)) (k+m)).length:=List.length_pos_of_mem hjI
   rw[plc_length]at this;omega
  have hs:=syn_poly hc ((prL_PF I).mono' hlen);rw[S_one (k:=j) hj (fun i hi hne=>?_)]at hs
  ·rcases mu_eq_zero.1 hs with h1|h1
   ·rcases mu_eq_zero.1 h1 with h2|h2
    ·exact e h2
    ·exact wtF_ne h Zo h2
   ·obtain⟨i,h2,h3⟩:=prL_zero.1 h1;rw[hI]at h2;have h4:=List.Nodup.mem_erase_iff (plc_nodup (fun i=>decide (c i≠0)) (k+m)) (a:=i) (b:=j);obtain⟨h5,h6⟩:=h4.1 h2;have:=(plc_mem.1 h6).1;exact h5 (pt_inj Zo Zo h3).symm
  ·show mu (mu (c i) (wtF k m i)) (prL (pt i) I)=0
   by_cases ei:c i=0
   ·rw[ei,zero_mu,zero_mu]
   ·rw[prL_zero.2 ⟨i,?_,rfl⟩,mu_zero];rw[hI];exact(List.Nodup.mem_erase_iff (plc_nodup _ _)).2 ⟨hne,plc_mem.2 ⟨hi,Zy ei⟩⟩
theorem CodeW.add{k m:Nat}{c d:Nat->UInt8}(hc:CodeW k m c)(hd:CodeW k m d):CodeW k m (fun i=>c i^^^d i):=fun l hl=>by
 rw[synF_add (fun i _=>rfl),hc l hl,hd l hl];rfl
theorem CodeW.congr{k m:Nat}{c d:Nat->UInt8}(hc:CodeW k m c)(h:∀i,i<k+m->d i=c i):CodeW k m d:=fun l hl=>by
 rw[synF_congr h];exact hc l hl
def wrg(z c:Nat->UInt8)(ms:Nat->Bool)(i:Nat):Bool:= !ms i&&decide (c i≠z i)
structure Near(k m:Nat)(z:Nat->UInt8)(ms:Nat->Bool)(c:Nat->UInt8):Prop where
 code:CodeW k m c
 few:2*cnt (wrg z c ms) (k+m)+cnt ms (k+m)<=m
theorem Near.unique{k m:Nat}{z c d:Nat->UInt8}{ms:Nat->Bool}(h:k+m<=256)(hc:Near k m z ms c)(hd:Near k m z ms d):∀i,i<k+m->c i=d i:=by
 have key:=mds h (hc.code.add hd.code) (by
  have h1:cnt (fun i=>decide (c i^^^d i≠0)) (k+m)<=cnt (fun i=>(ms i||wrg z c ms i)||wrg z d ms i) (k+m):=cnt_mono fun i hi hne=>by
   have hne':c i≠d i:=fun e=>(of_decide_eq_true hne) (x_eq_zero.2 e)
   cases em:ms i
   ·by_cases e1:c i=z i
    ·have e2:d i≠z i:=fun e=>hne' (e1.trans e.symm)
     simp[wrg,em,e2]
    ·simp[wrg,em,e1]
   ·simp
  have h2:=cnt_or (fun i=>ms i||wrg z c ms i) (wrg z d ms) (k+m);have h3:=cnt_or ms (wrg z c ms) (k+m);have h4:=hc.few;have h5:=hd.few;omega)
 intro i hi;exact x_eq_zero.1 (key i hi)
structure Inc(n t:Nat)(g:Nat->Nat):Prop where
 up:∀i j,i<j->j<t->g i<g j
 lt:∀i,i<t->g i<n
theorem Inc.gap{n t:Nat}{g:Nat->Nat}(h:Inc n t g){i:Nat}(d:Nat)(hd:i+d<t):g i+d<=g (i+d):=by
 induction d with
 |zero=>exact Zr
 |succ d ih=>
  have h1:=ih Zo;have h2:=h.up (i+d) (i+(d+1)) Zo hd;omega
theorem Inc.max{n t:Nat}{g:Nat->Nat}(h:Inc n t g){i:Nat}(hi:i<t):g i+t<=n+i:=by
 have h1:=h.gap (i:=i) (t-1-i) Zo;have h2:=h.lt (i+(t-1-i)) Zo;omega
theorem Inc.min{n t:Nat}{g:Nat->Nat}(h:Inc n t g){i:Nat}(hi:i<t):i<=g i:=by
 have h1:=h.gap (i:=0) i Zo;rw[Nat.zero_add]at h1;omega
def Lx(t:Nat)(g h:Nat->Nat):Prop:=∃i,i<t/\(∀j,j<i->g j=h j)/\g i<h i
def Eqs(t:Nat)(g h:Nat->Nat):Prop:=∀j,j<t->g j=h j
theorem lx_total(t:Nat)(g h:Nat->Nat):Lx t g h∨Eqs t g h∨Lx t h g:=by
 induction t with
 |zero=>exact Or.inr (Or.inl fun j hj=>Zo)
 |succ t ih=>
  rcases ih with⟨i,h1,h2,h3⟩|e|⟨i,h1,h2,h3⟩
  ·exact Or.inl ⟨i,Zo,h2,h3⟩
  ·rcases Nat.lt_trichotomy (g t) (h t)with a|a|a
   ·exact Or.inl ⟨t,Zo,fun j hj=>e j hj,a⟩
   ·refine Or.inr (Or.inl fun j hj=>?_)
    by_cases ej:j=t
    ·rw[ej];exact a
    ·exact e j Zo
   ·exact Or.inr (Or.inr ⟨t,Zo,fun j hj=>(e j hj).symm,a⟩)
  ·exact Or.inr (Or.inr ⟨i,Zo,h2,h3⟩)
theorem Lx.asymm{t:Nat}{g h:Nat->Nat}(a:Lx t g h)(b:Lx t h g):False:=by
 obtain⟨i,h1,h2,h3⟩:=a;obtain⟨j,k1,k2,k3⟩:=b
 rcases Nat.lt_trichotomy i j with e|e|e
 ·have:=k2 i e;omega
 ·subst e;omega
 ·have:=h2 j e;omega
theorem Lx.not_eq{t:Nat}{g h:Nat->Nat}(a:Lx t g h)(b:Eqs t g h):False:=by
 obtain⟨i,h1,h2,h3⟩:=a;have:=b i h1;omega
def nxF(g:Nat->Nat)(i j:Nat):Nat:=if j<i then g j else g i+1+(j-i)
theorem nx_inc{n t i:Nat}{g:Nat->Nat}(h:Inc n t g)(hi:i<t)(hl:g i+t<n+i):Inc n t (nxF g i):=by
 refine⟨fun a b hab hb=>?_,fun a ha=>?_⟩
 ·unfold nxF
  by_cases h1:b<i
  ·rw[if_pos h1,if_pos Zo];exact h.up a b hab hb
  ·rw[if_neg h1]
   by_cases h2:a<i
   ·rw[if_pos h2];have:=h.up a i h2 hi;omega
   ·rw[if_neg h2];omega
 ·unfold nxF
  by_cases h1:a<i
  ·rw[if_pos h1];exact h.lt a ha
  ·rw[if_neg h1];omega
theorem nx_lx{t i:Nat}{g:Nat->Nat}(hi:i<t):Lx t g (nxF g i):=
 ⟨i,hi,fun j hj=>by unfold nxF;rw[if_pos hj],by unfold nxF;rw[if_neg Zo];omega⟩
theorem nx_next{n t i:Nat}{g T:Nat->Nat}(hi:i<t)(hm:∀j,i<j->j<t->g j+t=n+j)(hT:Inc n t T)(h:Lx t g T):Eqs t (nxF g i) T∨Lx t (nxF g i) T:=by
 obtain⟨p,h1,h2,h3⟩:=h;have hpi:p<=i:=by
  rcases Nat.lt_or_ge i p with e|e
  ·have:=hm p e h1;have:=hT.max h1;omega
  ·exact e
 rcases Nat.lt_or_ge p i with e|e
 ·exact Or.inr ⟨p,h1,fun j hj=>by unfold nxF;rw[if_pos Zo];exact h2 j hj,by unfold nxF;rw[if_pos e];exact h3⟩
 ·obtain rfl:p=i:=by omega
  have low:∀j,j<p->nxF g p j=T j:=fun j hj=>by unfold nxF;rw[if_pos hj];exact h2 j hj
  rcases lx_total t (nxF g p) T with a|a|⟨q,k1,k2,k3⟩
  ·exact Or.inr a
  ·exact Or.inl a
  ·exfalso
   rcases Nat.lt_or_ge q p with e2|e2
   ·have:=low q e2;omega
   ·have h5:=hT.gap (i:=p) (q-p) Zo;rw[show p+(q-p)=q by omega]at h5;unfold nxF at k3;rw[if_neg Zo]at k3;omega
theorem nx_last{n t:Nat}{g T:Nat->Nat}(hm:∀j,j<t->g j+t=n+j)(hT:Inc n t T):¬Lx t g T:=by
 rintro⟨p,h1,h2,h3⟩;have:=hm p h1;have:=hT.max h1;omega
theorem nx_first{n t:Nat}{T:Nat->Nat}(hT:Inc n t T):¬Lx t T (fun j=>j):=by
 rintro⟨p,h1,h2,h3⟩;have h4:T p<p:=h3;have:=hT.min h1;omega
theorem first_inc{n t:Nat}(h:t<=n):Inc n t (fun j=>j):=⟨fun i j h1 _=>h1,fun i hi=>by show i<n;omega⟩
theorem tried_next{n t i:Nat}{g:Nat->Nat}{Bad:(Nat->Nat)->Prop}(hi:i<t)(hm:∀j,i<j->j<t->g j+t=n+j)(hc:∀a b,Eqs t a b->Bad a->Bad b)(h:∀T,Inc n t T->Lx t T g->Bad T)(hg:Bad g):∀T,Inc n t T->Lx t T (nxF g i)->Bad T:=by
 intro T hT hl
 rcases lx_total t T g with a|a|a
 ·exact h T hT a
 ·exact hc g T (fun j hj=>(a j hj).symm) hg
 ·rcases nx_next hi hm hT a with b|b
  ·exact absurd (fun j hj=>(b j hj).symm) (fun c=>hl.not_eq c)
  ·exact absurd hl (fun c=>c.asymm b)
theorem tried_all{n t:Nat}{g:Nat->Nat}{Bad:(Nat->Nat)->Prop}(hm:∀j,j<t->g j+t=n+j)(hc:∀a b,Eqs t a b->Bad a->Bad b)(h:∀T,Inc n t T->Lx t T g->Bad T)(hg:Bad g):∀T,Inc n t T->Bad T:=by
 intro T hT
 rcases lx_total t T g with a|a|a
 ·exact h T hT a
 ·exact hc g T (fun j hj=>(a j hj).symm) hg
 ·exact absurd a (nx_last hm hT)
def rkF(n:Nat)(g:Nat->Nat):Nat->Nat
 |0=>0
 |t+1=>rkF n g t*(n+1)+g t
theorem rk_lt{n t:Nat}{g:Nat->Nat}(h:∀i,i<t->g i<=n):rkF n g t<(n+1)^t:=by
 induction t with
 |zero=>exact Nat.one_pos
 |succ t ih=>
  have h1:=ih fun i hi=>h i Zo
  have h2:=h t Zo;rw[rkF,Nat.pow_succ];have h3:(rkF n g t+1)*(n+1)<=(n+1)^t*(n+1):=Nat.mul_le_mul_right _ h1;rw[Nat.add_mul,Nat.one_mul]at h3;omega
theorem rk_lx{n t:Nat}{g h:Nat->Nat}(hg:∀i,i<t->g i<=n)(hl:Lx t g h):rkF n g t<rkF n h t:=by
 induction t with
 |zero=>obtain⟨i,h1,_⟩:=hl;omega
 |succ t ih=>
  obtain⟨i,h1,h2,h3⟩:=hl;rw[rkF,rkF]
  by_cases e:i=t
  ·subst e
   have:rkF n g i=rkF n h i:=by
    have key:∀s,s<=i->rkF n g s=rkF n h s:=fun s=>by
     induction s with
     |zero=>intro _;rfl
     |succ s ihs=>intro hs;rw[rkF,rkF,ihs Zo,h2 s Zo]
    exact key i Zr
   rw[this];omega
  ·have h4:=ih (fun j hj=>hg j Zo) ⟨i,Zo,h2,h3⟩;have h5:=hg t Zo;have h6:(rkF n g t+1)*(n+1)<=rkF n h t*(n+1):=Nat.mul_le_mul_right _ h4;rw[Nat.add_mul,Nat.one_mul]at h6;omega
theorem gj_col10{n c:Nat}{A L R:Mx}(h:GJ n A L R c)(hc:c<n)(hp:L c c≠0)(s:Nat)(hs:s<=n):∃L' R',GJ n A L' R' c/\L' c c≠0/\∀i,i<s->i≠c->L' i c=0:=by
 induction s with
 |zero=>exact⟨L,R,h,hp,fun i hi=>Zo⟩
 |succ s ih=>
  obtain⟨L',R',h1,h2,h3⟩:=ih Zo
  by_cases e:s=c
  ·exact⟨L',R',h1,h2,fun i hi hne=>h3 i Zo hne⟩
  ·refine⟨_,_,h1.clear (x:=mu (L' s c) (iv (L' c c))) (r:=s) Zo hc e,?_,fun i hi hne=>?_⟩
   ·show(if c=s then _ else L' c c)≠0
    rw[if_neg (fun q=>e q.symm)];exact h2
   ·show(if i=s then L' i c^^^mu (mu (L' s c) (iv (L' c c))) (L' c c)else L' i c)=0
    by_cases ei:i=s
    ·subst ei;rw[if_pos rfl,mu_assoc,mu_comm (iv _),mu_iv h2,mu_one,x_self]
    ·rw[if_neg ei];exact h3 i Zo hne
theorem inv_or_sing(n:Nat)(A:Mx):(∃V,IsInv n A V)∨IsSing n A:=by
 have key:∀c,c<=n->(∃L R,GJ n A L R c)∨IsSing n A:=by
  intro c
  induction c with
  |zero=>intro _;exact Or.inl ⟨_,_,GJ.start n A⟩
  |succ c ih=>
   intro hc
   rcases ih Zo with⟨L,R,h⟩|h
   ·by_cases hz:∀i,c<=i->i<n->L i c=0
    ·exact Or.inr (h.sing Zo hz)
    ·obtain⟨p,h1,h2,h3⟩:∃p,c<=p/\p<n/\L p c≠0:=by
      refine Classical.byContradiction fun q=>hz fun i hi hn=>Classical.byContradiction fun q2=>q ⟨i,hi,hn,q2⟩
     have e:sw p c c=p:=by unfold sw;split<;>simp_all
     obtain⟨L',R',g1,g2,g3⟩:=gj_col10 (h.swap h1 h2) Zo (by show L (sw p c c) c≠0;rw[e];exact h3) n Zr;exact Or.inl ⟨L',R',g1.next (fun i hi hne=>g3 i hi hne) g2⟩
   ·exact Or.inr h
 rcases key n Zr with⟨L,R,h⟩|h
 ·exact Or.inl ⟨_,h.finish⟩
 ·exact Or.inr h
theorem there_inv{k m:Nat}{h:List Bool}(h2:k+m<=256)(hl:h.length=k+m)(hk:k<=(thr h h.length).length):IsInv k (rowsF k (pl7 h)) (invF k (pl7 h)):=by
 rcases inv_or_sing k (rowsF k (pl7 h))with e|e
 ·exact invF_is e
 ·exact absurd e (gen_rows (N:=k+m) h2 Zo (pl7 h) (fun i hi=>by have:=(pl7_in (h:=h) (i:=i) Zo).1;omega) (fun i j hi hj hij e=>hij (pl7_inj Zo Zo e)))
noncomputable def tryL(k m:Nat)(hs:List Bool)(z:List UInt8):List UInt8:=lineL (encL m k (parF k) (decD k (invF k (pl7 hs)) (pl7 hs) (colL z)))
theorem try_col{k m:Nat}{hs:List Bool}{z:List UInt8}{V:Mx}(h1:1<=k)(hl:hs.length=k+m)(hz:z.length=k+m)(hk:k<=(thr hs hs.length).length):decD k V (pl7 hs) (colL z)=colL (upto (fun j=>dwd V (pl7 hs) (colL z) j k 0) k):=by
 have hp:=(pl7_in (h:=hs) (i:=0) Zo).1;have hr:(ro (colL z) (pl7 hs 0)).length=1:=by rw[colL_row Zo];rfl
 have hu:(upto (fun j=>dwd V (pl7 hs) (colL z) j k 0) k).length=k:=upto_length _ _;refine L_ext (by rw[decD_length,colL_length,hu]) (fun i hi=>?_) fun i n hi hn=>?_
 ·rw[decD_length]at hi;rw[decD_row hi,hr,colL_row Zo];rfl
 ·rw[decD_length]at hi;rw[decD_row hi,hr]at hn;obtain rfl:n=0:=by omega
  rw[decD_co hi Zo,colL_row Zo,co_upto_in hi];rfl
theorem try_len{k m:Nat}{hs:List Bool}{z:List UInt8}(h1:1<=k)(hl:hs.length=k+m)(hz:z.length=k+m)(hk:k<=(thr hs hs.length).length):(tryL k m hs z).length=k+m:=by
 unfold tryL;rw[try_col h1 hl hz hk];exact line_len (upto_length _ _)
theorem try_code{k m:Nat}{hs:List Bool}{z:List UInt8}(h1:1<=k)(h2:k+m<=256)(hl:hs.length=k+m)(hz:z.length=k+m)(hk:k<=(thr hs hs.length).length):CodeW k m (co (tryL k m hs z)):=by
 unfold tryL;rw[try_col h1 hl hz hk];have h:=of_decide_eq_true (line_nought (m:=m) h1 h2 (upto_length (fun j=>dwd (invF k (pl7 hs)) (pl7 hs) (colL z) j k 0) k));intro l hlm;have e:=h l (by rw[upto_length];exact hlm);rwa[co_upto_in hlm]at e
theorem enc_code{k m:Nat}{c:Nat->UInt8}(h1:1<=k)(h2:k+m<=256)(hc:CodeW k m c){i:Nat}(hi:i<k+m):co (ro (encL m k (parF k) (colL (upto c k))) i) 0=c i:=by
 have hu:(upto c k).length=k:=upto_length _ _
 by_cases e:i<k
 ·rw[encC_data hu e,co_upto_in e]
 ·obtain⟨j,rfl⟩:∃j,i=k+j:=⟨i-k,Zo⟩;rw[encC_par hu h1 Zo,syn_par h2 hc Zo];exact S_congr fun l hlk=>by rw[co_upto_in hlk]
theorem try_is{k m:Nat}{hs:List Bool}{z:List UInt8}{c:Nat->UInt8}(h1:1<=k)(h2:k+m<=256)(hl:hs.length=k+m)(hz:z.length=k+m)(hk:k<=(thr hs hs.length).length)(hc:CodeW k m c)(h:∀i,hb hs i=true->c i=co z i){i:Nat}(hi:i<k+m):co (tryL k m hs z) i=c i:=by
 have hu:(upto c k).length=k:=upto_length _ _;have hp:∀i,i<k->pl7 hs i<k+m:=fun i hi=>by have:=(pl7_in (h:=hs) (i:=i) Zo).1;omega
 have e:decD k (invF k (pl7 hs)) (pl7 hs) (colL z)=colL (upto c k):=by
  refine dec_back (m:=m) h1 (there_inv h2 hl hk) hp (by rw[colL_length,hu]) (colL_even _) fun i hi=>?_
  have hb1:=(pl7_in (h:=hs) (i:=i) Zo).2;have hpi:=hp i hi;rw[colL_row Zo];refine co_ext (by rw[encC_len hu h1 hpi];rfl) fun n hn=>?_
  obtain rfl:n=0:=by simp at hn;exact hn
  rw[enc_code h1 h2 hc hpi,h _ hb1];rfl
 unfold tryL lineL;rw[e,co_upto_in (by rw[encL_length,colL_length,hu];exact hi)];exact enc_code h1 h2 hc hi
theorem thr_cnt(h:List Bool)(n:Nat):(thr h n).length=cnt (hb h) n:=by
 induction n with
 |zero=>rfl
 |succ n ih=>
  rw[cnt];cases e:hb h n
  ·rw[thr_no e,ih];simp
  ·rw[thr_yes e,List.length_append,ih];simp
theorem cnt_not(p:Nat->Bool)(n:Nat):cnt (fun i=> !p i) n+cnt p n=n:=by
 induction n with
 |zero=>rfl
 |succ n ih=>rw[cnt,cnt];cases p n<;>simp<;>omega
theorem cnt_one(a n:Nat):cnt (fun i=>decide (i=a)) n<=(if a<n then 1 else 0):=by
 induction n with
 |zero=>exact Zz
 |succ n ih=>
  rw[cnt]
  by_cases e:n=a
  ·subst e;rw[if_neg (Nat.lt_irrefl _)]at ih;rw[if_pos (Nat.lt_succ_self _),if_pos (Zy rfl)];omega
  ·rw[if_neg (by simp[e])]
   by_cases h:a<n
   ·rw[if_pos h]at ih;rw[if_pos Zo];exact ih
   ·rw[if_neg h]at ih;omega
theorem cnt_in(T:List Nat)(n:Nat):cnt (fun i=>decide (i∈T)) n<=T.length:=by
 induction T with
 |nil=>
  have h:=cnt_mono (p:=fun i=>decide (i∈([]:List Nat))) (q:=fun i=>decide (i=n)) (n:=n) (fun i hi h=>by simp at h);have h2:=cnt_one n n;rw[if_neg Zo]at h2;simp at h ⊢;omega
 |cons a T ih=>
  have h1:=cnt_mono (p:=fun i=>decide (i∈a::T)) (q:=fun i=>decide (i=a)||decide (i∈T)) (n:=n) (fun i hi h=>by simpa using h);have h2:=cnt_or (fun i=>decide (i=a)) (fun i=>decide (i∈T)) n;have h3:=cnt_one a n;have h4:(if a<n then 1 else 0)<=1:=by split<;>omega
  rw[List.length_cons];omega
def wth(ms:List Bool)(T:List Nat):List Bool:=(List.range ms.length).map (fun i=> !hb ms i&& !decide (i∈T))
theorem wth_length(ms:List Bool)(T:List Nat):(wth ms T).length=ms.length:=by simp[wth]
theorem wth_hb{ms:List Bool}{T:List Nat}{i:Nat}(hi:i<ms.length):hb (wth ms T) i=(!hb ms i&& !decide (i∈T)):=by
 unfold wth;rw[hb,List.getD];simp[hi]
theorem wth_there{ms:List Bool}{T:List Nat}{k m:Nat}(hl:ms.length=k+m)(h:T.length+cnt (hb ms) (k+m)<=m):k<=(thr (wth ms T) (wth ms T).length).length:=by
 rw[thr_cnt,wth_length,hl,cnt_congr (q:=fun i=> !(hb ms i||decide (i∈T))) (fun i hi=>by rw[wth_hb Zo];simp)];have h1:=cnt_not (fun i=>hb ms i||decide (i∈T)) (k+m);have h2:=cnt_or (hb ms) (fun i=>decide (i∈T)) (k+m);have h3:=cnt_in T (k+m);omega
theorem try_near{k m:Nat}{ms:List Bool}{z:List UInt8}{T:List Nat}(h1:1<=k)(h2:k+m<=256)(hl:ms.length=k+m)(hz:z.length=k+m)(ht:2*T.length+cnt (hb ms) (k+m)<=m)
  (hd:cnt (wrg (co z) (co (tryL k m (wth ms T) z)) (hb ms)) (k+m)<=T.length):Near k m (co z) (hb ms) (co (tryL k m (wth ms T) z)):=
 ⟨try_code h1 h2 (by rw[wth_length];exact hl) hz (wth_there hl Zo),Zo⟩
theorem try_finds{k m:Nat}{ms:List Bool}{z:List UInt8}{T:List Nat}{c:Nat->UInt8}(h1:1<=k)(h2:k+m<=256)(hl:ms.length=k+m)(hz:z.length=k+m)(ht:T.length+cnt (hb ms) (k+m)<=m)
  (hc:CodeW k m c) (hT:∀i,i<k+m->wrg (co z) c (hb ms) i=true->i∈T) {i:Nat} (hi:i<k+m):co (tryL k m (wth ms T) z) i=c i:=by
 refine try_is h1 h2 (by rw[wth_length];exact hl) hz (wth_there hl ht) hc (fun j hj=>?_) hi;have hjl:=hb_lt hj;rw[wth_length]at hjl;rw[wth_hb hjl]at hj;simp at hj;refine Classical.byContradiction fun q=>hj.2 (hT j Zo ?_)
 simp[wrg,hj.1,q]
theorem plc_inc(p:Nat->Bool)(n:Nat):Inc n (cnt p n) (fun i=>(plc p n).getD i 0):=by
 have hs:(plc p n).Pairwise (·<·):=List.Pairwise.filter _ List.pairwise_lt_range;refine⟨fun i j hij hj=>?_,fun i hi=>?_⟩
 ·rw[<-plc_length]at hj;have:=List.pairwise_iff_getElem.1 hs i j Zo hj hij;simpa[List.getD,hj,show i<(plc p n).length by omega]using this
 ·rw[<-plc_length]at hi;have:=plc_mem.1 (List.getElem_mem hi);simpa[List.getD,hi]using this.1
def stL(g:Nat->Nat)(t:Nat):List Nat:=(List.range t).map g
theorem stL_length(g:Nat->Nat)(t:Nat):(stL g t).length=t:=by simp[stL]
theorem stL_eqs{g h:Nat->Nat}{t:Nat}(e:Eqs t g h):stL g t=stL h t:=List.map_congr_left fun i hi=>e i (List.mem_range.1 hi)
theorem stL_plc(p:Nat->Bool)(n:Nat):stL (fun i=>(plc p n).getD i 0) (cnt p n)=plc p n:=by
 refine List.ext_getElem (by rw[stL_length,plc_length]) fun i h1 h2=>?_
 simp[stL,List.getD,h2]
def Vain(k m:Nat)(z:List UInt8)(ms:List Bool)(t:Nat)(g:Nat->Nat):Prop:=t<cnt (wrg (co z) (co (tryL k m (wth ms (stL g t)) z)) (hb ms)) (k+m)
theorem Vain.congr{k m:Nat}{z:List UInt8}{ms:List Bool}{t:Nat}{a b:Nat->Nat}(e:Eqs t a b)(h:Vain k m z ms t a):Vain k m z ms t b:=by
 unfold Vain at h ⊢;rwa[<-stL_eqs e]
theorem vain_none{k m:Nat}{z:List UInt8}{ms:List Bool}(h1:1<=k)(h2:k+m<=256)(hl:ms.length=k+m)(hz:z.length=k+m)
  (h:∀t g,2*t+cnt (hb ms) (k+m)<=m->Inc (k+m) t g->Vain k m z ms t g):¬∃c,Near k m (co z) (hb ms) c:=by
 rintro⟨c,hc⟩;have hf:=hc.few;have v:=h (cnt (wrg (co z) c (hb ms)) (k+m)) _ hf (plc_inc _ _);unfold Vain at v;rw[stL_plc]at v;have e:∀i,i<k+m->co (tryL k m (wth ms (plc (wrg (co z) c (hb ms)) (k+m))) z) i=c i:=fun i hi=>
  try_finds h1 h2 hl hz (by rw[plc_length];omega) hc.code (fun j hj hw=>plc_mem.2 ⟨hj,hw⟩) hi
 have e2:cnt (wrg (co z) (co (tryL k m (wth ms (plc (wrg (co z) c (hb ms)) (k+m))) z)) (hb ms)) (k+m)=cnt (wrg (co z) c (hb ms)) (k+m):=cnt_congr fun i hi=>by
  show(!hb ms i&&decide (_≠co z i))=(!hb ms i&&decide (c i≠co z i))
  rw[e i hi]
 rw[e2]at v;exact Nat.lt_irrefl _ v
open Go.RowKit
def OwnB(w:World)(base e:Nat)(v:Value)(bs:List Bool):Prop:=w.ownsRow base e 1 v bs.length (bs.map Value.bool)
theorem OwnB.form{w:World}{base e:Nat}{v:Value}{bs:List Bool}(h:OwnB w base e v bs):∃a c,v= .slice a bs.length c:=owns_form h
theorem OwnB.nil(w:World)(base e:Nat):OwnB w base e (.slice none 0 0) []:=World.ownsRow_nil _ _ _ _
theorem OwnB.somewhere{w:World}{base e:Nat}{v:Value}{bs:List Bool}(h:OwnB w base e v bs)(h0:bs≠[]):∃g c,v= .slice (some ⟨g,0,none⟩) bs.length c/\bs.length<=c/\c<=maxLen/\base<=g/\g<w.heap.size:=by
 have h':=h;obtain⟨_,⟨e,hn⟩|⟨g,cap,cur,e,hg,hh,hc,hm,hs,ht⟩⟩:=h
 ·exact absurd (List.length_eq_zero_iff.1 hn) h0
 ·subst e;have:=Zv h' g rfl;exact⟨g,cap,rfl,hc,hm,this.1,this.2⟩
theorem OwnB.get{w:World}{base e g n c:Nat}{bs:List Bool}(h:OwnB w base e (.slice (some ⟨g,0,none⟩) n c) bs){i:Nat}(hi:i<bs.length):w.cell? ⟨g,i,none⟩=some (.bool (hb bs i)):=by
 obtain⟨a,c',e⟩:=h.form;simp at e;obtain⟨_,rfl,_⟩:=e;rw[World.ownsRow.cellAt h i Zo,List.getElem?_map,List.getElem?_eq_getElem hi];simp[hb,List.getD,hi]
theorem z13_4{p:Prop} (h:p:=by
 obtain⟨a,c',e⟩:=h.form;simp at e;obtain⟨_,rfl,_⟩:=e;exact World.ownsRow.frozenAt h i
 ):p:=h
theorem OwnB.free{w:World}{base e g n c:Nat}{bs:List Bool}(h:OwnB w base e (.slice (some ⟨g,0,none⟩) n c) bs)(i:Nat):w.frozen? ⟨g,i,none⟩=false:=by
 exact z13_4
theorem OwnB.store{w:World}{base e g n c:Nat}{bs:List Bool}(h:OwnB w base e (.slice (some ⟨g,0,none⟩) n c) bs)(i:Nat)(x:Bool):OwnB (w.setCell ⟨g,i,none⟩ (.bool x)) base e (.slice (some ⟨g,0,none⟩) n c) (bs.set i x):=by
 obtain⟨a,c',e⟩:=h.form;simp at e;obtain⟨_,rfl,_⟩:=e;have:=(World.ownsRow.stored h i (.bool x)).1;unfold OwnB;rw[List.length_set,List.map_set];exact this
theorem OwnB.rdB{w:World}{base e:Nat}{v:Value}{bs:List Bool}(h:OwnB w base e v bs):RdB w v bs:=by
 by_cases h0:bs=[]
 ·subst h0;obtain⟨_,⟨e,hn⟩|⟨g,cap,cur,e,hg,hh,hc,hm,hs,ht⟩⟩:=h
  ·subst e;exact rdB_none
  ·subst e;exact⟨_,cap,rfl,hc,hm,nofun,fun i hi=>by simp at hi⟩
 ·obtain⟨g,c,rfl,h1,h2,h3,h4⟩:=h.somewhere h0;exact⟨_,c,rfl,h1,h2,nofun,fun i hi=>⟨g,0,rfl,h4,by rw[Nat.zero_add];exact h.get hi⟩⟩
theorem wpList_append_bool{P:Program}{wr:World}{ops:Array Oper}{rest:List Oper}{o:Oper}{a:Act}{Q:Exit->Act->World->Prop}(hgd:o.guard=none)(s xo:Operand)(t:TypeId)
  (ho:o.op= .call {callee:=.builtin .append,args:=#[s,xo],argTypes:=#[t,t]})
  (base e:Nat) (i:TypeInfo) (ht:P.underlying t=some (.slice e)) (hi:P.info? e=some i) (hz:i.zero=some (.bool false)) (hsize:i.size=1) (hby:i.bytes=1)
  (v:Value) (bs:List Bool) (hs:a.eval s=v) (hO:OwnB wr base e v bs) (z:Bool) (et c:Nat) (hxo:a.eval xo= .slice (some ⟨wr.heap.size,0,none⟩) 1 c) (hl:bs.length<=100000) (hbase:base<=wr.heap.size)
  (h:∀v' w2,OwnB w2 base e v' (bs++[z])->Below base wr w2->wpList P ops Q rest (a.put o.dst v') w2):wpList P ops Q (o::rest) a (wr.alloc (.cells #[.bool z] et)):=by
 refine wpList_plain hgd fun K hK=>?_
 obtain⟨v',w',hrun,h2,h3,_,h5⟩:=run_append_own_at (P:=P) (wr.alloc (.cells #[.bool z] et)) base t o.type e i (.bool false) 1 1 ht hi hz hsize hby rfl Zd v bs.length (bs.map Value.bool) (World.ownsRow.alloc hO _) ⟨wr.heap.size,0,none⟩ 1 c [.bool z] rfl (by intro j y hj;rw[add_at,Nat.zero_add];rcases j with _|j<;>simp at hj;subst hj;simp) (by intro y hy;simp at hy;rw[hy];rfl) Zl Zo Zm;unfold Oper.wp execOp;simp only[ho,resolve,invoke,builtin,Sem.run_bind,Sem.run_pure,Result.andThen_ok,List.map_toArray,List.map_cons,List.map_nil,hs,hxo,hrun];refine hK _ _ (h v' w' ?_ ?_)
 ·unfold OwnB;rw[List.length_append,List.map_append];exact h2
 ·exact((Below.refl base wr).alloc hbase _).grown h3 Zm (fun q hq=>(Zv hO q hq).1)
theorem OwnI.free{w:World}{base e g n c:Nat}{zs:List Nat}(h:OwnI w base e (.slice (some ⟨g,0,none⟩) n c) zs)(i:Nat):w.frozen? ⟨g,i,none⟩=false:=by
 exact z13_4
theorem OwnI.store{w:World}{base e g n c:Nat}{zs:List Nat}(h:OwnI w base e (.slice (some ⟨g,0,none⟩) n c) zs)(i x:Nat):OwnI (w.setCell ⟨g,i,none⟩ (.int .i64 (x:Int))) base e (.slice (some ⟨g,0,none⟩) n c) (zs.set i x):=by
 obtain⟨a,c',e⟩:=h.form;simp at e;obtain⟨_,rfl,_⟩:=e;have:=(World.ownsRow.stored h i (.int .i64 (x:Int))).1;unfold OwnI;rw[List.length_set,List.map_set];exact this
theorem OwnI.later{w w':World}{base e:Nat}{v:Value}{zs:List Nat}(h:OwnI w base e v zs)(hb:Below w.heap.size w w'):OwnI w' base e v zs:=owns_later h hb
theorem OwnB.later{w w':World}{base e:Nat}{v:Value}{bs:List Bool}(h:OwnB w base e v bs)(hb:Below w.heap.size w w'):OwnB w' base e v bs:=owns_later h hb
theorem stL_getD{g:Nat->Nat}{t i:Nat}(hi:i<t):(stL g t).getD i 0=g i:=by simp[stL,List.getD,hi]
theorem stL_succ(g:Nat->Nat)(t:Nat):stL g (t+1)=stL g t++[g t]:=by simp[stL,List.range_succ]
theorem stL_set{g g':Nat->Nat}{t j x:Nat}(hj:j<t)(h:∀i,i<t->g' i=if i=j then x else g i):(stL g t).set j x=stL g' t:=by
 refine List.ext_getElem (by simp[stL]) fun i h1 h2=>?_
 rw[stL_length]at h2;rw[List.getElem_set];simp only[stL,List.getElem_map,List.getElem_range];rw[h i h2]
 by_cases e:j=i
 ·rw[if_pos e,if_pos e.symm]
 ·rw[if_neg e,if_neg fun q=>e q.symm]
theorem rcnt_any{va:Value}{h:List Bool}{w:World}(hH:RdB w va h):Calls Tryz.prog 180 #[va] w fun e w'=>e= .returned (.int .i64 ((cnt (hb h) h.length:Nat):Int))/\w'=w:=by
 obtain⟨a,c,rfl⟩:=hH.form;have hl:=hH.len;unfold maxLen at hl
 go_enter Tryz.func180,Tryz.ntmps180
 go_wp2
 go_loop [3,4] (fun x i=>∃k:Nat,k<=h.length/\i= .int .i64 k/\x= .int .i64 ((cnt (hb h) k:Nat):Int)) (fun _ i=>h.length-(intOf i).toNat)
 case atStart=>exact⟨0,Zo,rfl,rfl⟩
 case round=>
  obtain⟨k,hk,rfl,rfl⟩:=hrel;have hq:=cnt_le (hb h) k
  by_cases hlt:k<h.length
  ·obtain⟨b,off,rfl,_,c1⟩:=hH.at hlt;have hlt':(k:Int)<(h.length:Int):=by omega
   cases e:hb h k with
   |false=>
    rw[e]at c1;have E:Hid (cnt (hb h) (k+1)=cnt (hb h) k):=by show _=_;rw[cnt,e];rfl
    clear hH e;go_wp2
    go_round
    case rel=>exact⟨k+1,Zo,Zg,by rw[E.out]⟩
    case measure=>simp[intOf];omega
   |true=>
    rw[e]at c1;have E:Hid (cnt (hb h) (k+1)=cnt (hb h) k+1):=by show _=_;rw[cnt,e];rfl
    have gw:IntKind.i64.wrap (((cnt (hb h) k:Nat):Int)+1)=((cnt (hb h) k:Nat):Int)+1:=Zw
    clear hH e;go_wp2
    go_round
    case rel=>exact⟨k+1,Zo,Zg,by rw[E.out];go_num⟩
    case measure=>simp[intOf];omega
  ·have e:k=h.length:=by omega
   subst e;have hge:¬(h.length:Int)<(h.length:Int):=Zo
   clear hH;go_wp2;go_ret;exact⟨rfl,rfl⟩
theorem z13_2{p:Prop} (h:p:=by
 go_wp2_with fail
 go_quiet (fail)
 go_wp2;go_roundw
 case rel=>exact⟨r+1,Zo,Zg,by rw[E'.out];exact hO.drewN _,hB.drewN _⟩
 case measure=>simp[intOf];omega
 ):p:=h
theorem rdif_any{va vb vm:Value}{p q:List UInt8}{ms:List Bool}{w:World}(hp:Rd w va p)(hq:Rd w vb q)(hm:RdB w vm ms)(hl:q.length=p.length)(hl2:ms.length=p.length)(hl3:p.length<=300):
  Calls Tryz.prog 214 #[va,vb,vm] w fun e w'=>∃v,e= .returned v/\OwnI w' w.heap.size 3 v (plc (wrg (co q) (co p) (hb ms)) p.length)/\Below w.heap.size w w':=by
 obtain⟨i0,hi,hz0,hz1,hz2⟩:=info_parts info_int;obtain⟨a1,c1,rfl⟩:=hp.form;obtain⟨a2,c2,rfl⟩:=hq.form;obtain⟨a3,c3,rfl⟩:=hm.form;have hl':Hid _:=hl;have hl2':Hid _:=hl2;clear hl hl2
 go_enter Tryz.func214,Tryz.ntmps214
 go_wp2
 go_loopw [7,8] (fun o i wr=>∃r:Nat,r<=p.length/\i= .int .i64 (r:Int)/\OwnI wr w.heap.size 3 o (plc (wrg (co q) (co p) (hb ms)) r)/\Below w.heap.size w wr) (fun _ i _=>p.length-(intOf i).toNat)
 case atStart=>exact⟨0,Zo,rfl,OwnI.nil _ _ _,Zf⟩
 case round=>
  obtain⟨r,hr,rfl,hO,hB⟩:=hrel;have hsz:=hB.size;have hn:=cnt_le (wrg (co q) (co p) (hb ms)) r;rw[<-plc_length]at hn;obtain⟨av,cv,rfl⟩:=hO.form
  by_cases hlt:r<p.length
  ·obtain⟨b1,o1,rfl,_,k1⟩:=(hp.below hB).byte hlt;obtain⟨b2,o2,rfl,_,k2⟩:=(hq.below hB).byte (show r<q.length by have:=hl'.out;omega);obtain⟨b3,o3,rfl,_,k3⟩:=(hm.below hB).at (show r<ms.length by have:=hl2'.out;omega);have hlt':(r:Int)<(p.length:Int):=by omega
   have hlt2:(r:Int)<(q.length:Int):=by have:=hl'.out;omega
   have hlt3:(r:Int)<(ms.length:Int):=by have:=hl2'.out;omega
   have E:=plc_succ (wrg (co q) (co p) (hb ms)) r;cases e:wrg (co q) (co p) (hb ms) r with
   |false=>
    rw[e]at E;have E':Hid (plc (wrg (co q) (co p) (hb ms)) (r+1)=plc (wrg (co q) (co p) (hb ms)) r):=by show _=_;rw[E];simp
    have hw:hb ms r=true∨(hb ms r=false/\co p r=co q r):=by
     unfold wrg at e;cases hm2:hb ms r
     ·rw[hm2]at e;simp at e;exact Or.inr ⟨rfl,e⟩
     ·exact Or.inl rfl
    clear hp hq hm E e
    rcases hw with hw|⟨hw,hw2⟩
    ·rw[hw]at k3;clear hw;exact z13_2
    ·rw[hw]at k3;rw[hw2]at k1;clear hw hw2;exact z13_2
   |true=>
    rw[e]at E;have E':Hid (plc (wrg (co q) (co p) (hb ms)) (r+1)=plc (wrg (co q) (co p) (hb ms)) r++[r]):=E;have hw:hb ms r=false/\co p r≠co q r:=by
     unfold wrg at e;simpa using e
    have hne:((((co p r).toNat:Nat):Int)!=(((co q r).toNat:Nat):Int))=true:=by rw[ne_u8];simp[hw.2]
    rw[hw.1]at k3;clear hp hq hm E e hw
    go_wp2_with fail
    go_quiet (fail)
    go_wp2_with (at_builtin;go_loud (refine wpList_append_int rfl (.tmp 31) (.tmp 33) 45 rfl w.heap.size 3 i0 Tryz.underlying45 hi hz0 hz1 hz2 (.slice av (plc (wrg (co q) (co p) (hb ms)) r).length cv) (plc (wrg (co q) (co p) (hb ms)) r) rfl (hO.drewN _) r _ 1 rfl Zo hsz ?_);intro v' w2 hv2 hb2)
    have HO:Hid (OwnI w2 w.heap.size 3 v' (plc (wrg (co q) (co p) (hb ms)) (r+1))):=by show OwnI _ _ _ _ _;rw[E'.out];exact hv2
    have HB:Hid (Below w.heap.size w w2):=(hB.drewN _).trans hb2;clear hO hv2 hb2 hB k1 k2 k3 hne;go_wp2;go_roundw
    case rel=>exact⟨r+1,Zo,Zg,HO.out,HB.out⟩
    case measure=>simp[intOf];omega
  ·have e:r=p.length:=by omega
   subst e;have hge:¬(p.length:Int)<(p.length:Int):=Zo
   clear hp hq hm;go_wp2;go_ret;exact⟨_,rfl,hO,hB⟩
theorem info_bool:(Tryz.prog.info? 4).map (fun i=>(i.zero,i.size,i.bytes))=some (some (.bool false),1,1):=Zk
def notL(ms:List Bool)(r:Nat):List Bool:=(List.range r).map (fun i=> !hb ms i)
theorem notL_length(ms:List Bool)(r:Nat):(notL ms r).length=r:=by simp[notL]
theorem notL_succ(ms:List Bool)(r:Nat):notL ms (r+1)=notL ms r++[!hb ms r]:=by simp[notL,List.range_succ]
theorem wth_nil(ms:List Bool):wth ms []=notL ms ms.length:=by simp[wth,notL]
theorem wth_step{ms:List Bool}{T:List Nat}{r:Nat}(hr:r<T.length):(wth ms (T.take r)).set (T.getD r 0) false=wth ms (T.take (r+1)):=by
 refine List.ext_getElem (by simp[wth]) fun i h1 h2=>?_
 rw[List.getElem_set];have e:T.take (r+1)=T.take r++[T.getD r 0]:=by
  rw[List.take_add_one,List.getElem?_eq_getElem hr];simp[List.getD,hr]
 rw[wth_length]at h2;simp only[wth,List.getElem_map,List.getElem_range];rw[e]
 by_cases q:T.getD r 0=i
 ·rw[if_pos q,q];simp
 ·rw[if_neg q];have q2:¬i=T.getD r 0:=fun x=>q x.symm
  simp only[List.mem_append,List.mem_singleton,q2,or_false]
theorem z13_1{p:Prop} (h:p:=by
 rcases hs with⟨a,c,e,e2⟩|⟨b,off,c,_,e2,_⟩
 ·have:T.length=0:=by rw[<-toI_length,e];rfl
  rw[this];exact⟨a,c,e2⟩
 ·rw[toI_length]at e2;exact⟨_,c,e2⟩
 ):p:=h
theorem z13_3{p:Prop} (h:p:=by
 go_wp2;go_roundw
 case rel=>exact⟨r+1,Zo,Zg,HO.out,HB.out⟩
 case measure=>simp[intOf];omega
 ):p:=h
theorem rwth_any{vm vs:Value}{ms:List Bool}{T:List Nat}{w:World}(hm:RdB w vm ms)(hs:RdI w vs (toI T))(hT:∀i,i<T.length->T.getD i 0<ms.length)(hl:ms.length<=300)(hl2:T.length<=300):
  Calls Tryz.prog 211 #[vm,vs] w fun e w'=>∃v,e= .returned v/\OwnB w' w.heap.size 4 v (wth ms T)/\Below w.heap.size w w':=by
 obtain⟨i0,hi,hz0,hz1,hz2⟩:=info_parts info_bool;obtain⟨a1,c1,rfl⟩:=hm.form;have hsf:∃a c,vs= .slice a T.length c:=by
  exact z13_1
 obtain⟨a2,c2,rfl⟩:=hsf;have hT':Hid _:=hT;clear hT
 go_enter Tryz.func211,Tryz.ntmps211
 go_wp2
 go_loopw [5,6] (fun o i wr=>∃r:Nat,r<=ms.length/\i= .int .i64 (r:Int)/\OwnB wr w.heap.size 4 o (notL ms r)/\Below w.heap.size w wr) (fun _ i _=>ms.length-(intOf i).toNat)
 case atStart=>exact⟨0,Zo,rfl,OwnB.nil _ _ _,Zf⟩
 case round=>
  obtain⟨r,hr,rfl,hO,hB⟩:=hrel;have hsz:=hB.size;have hn:Hid _:=notL_length ms r;obtain⟨av,cv,ev⟩:=hO.form;rw[hn.out]at ev;subst ev
  by_cases hlt:r<ms.length
  ·obtain⟨b1,o1,rfl,_,k1⟩:=(hm.below hB).at hlt;have hlt':(r:Int)<(ms.length:Int):=by omega
   have E':Hid _:=notL_succ ms r;clear hm hs
   go_wp2_with (at_builtin;go_loud (refine wpList_append_bool rfl (.tmp 14) (.tmp 20) 96 rfl w.heap.size 4 i0 Tryz.underlying96 hi hz0 hz1 hz2 (.slice av r cv) (notL ms r) rfl hO (!hb ms r) _ 1 rfl (by rw[hn.out];omega) hsz ?_);intro v' w2 hv2 hb2)
   have HO:Hid (OwnB w2 w.heap.size 4 v' (notL ms (r+1))):=by show OwnB _ _ _ _ _;rw[E'.out];exact hv2
   have HB:Hid (Below w.heap.size w w2):=hB.trans hb2;clear hO hv2 hb2 hB k1;exact z13_3
  ·have e:r=ms.length:=by omega
   subst e;have hge:¬(ms.length:Int)<(ms.length:Int):=Zo
   rw[<-wth_nil]at hO;go_wp2
   go_loopw [7] (fun i wq=>∃r:Nat,r<=T.length/\i= .int .i64 (r:Int)/\OwnB wq w.heap.size 4 (.slice av ms.length cv) (wth ms (T.take r))/\Below w.heap.size w wq) (fun i _=>T.length-(intOf i).toNat)
   case atStart=>exact⟨0,Zo,rfl,hO,hB⟩
   case round=>
    obtain⟨r,hr2,rfl,hO2,hB2⟩:=hrel;clear hO hB
    by_cases hlt:r<T.length
    ·obtain⟨b2,o2,rfl,_,k2⟩:=(hs.below hB2).at (show r<(toI T).length by rw[toI_length];exact hlt);rw[toI_getD]at k2;have hlt':(r:Int)<(T.length:Int):=by omega
     have hx:=hT'.out r hlt;have E':Hid _:=wth_step (ms:=ms) hlt;obtain⟨x,hxx⟩:∃x,Hid (x=T.getD r 0):=⟨_,rfl⟩;rw[<-hxx.out]at k2 hx E';have hx':(x:Int)<(ms.length:Int):=Zo
     obtain⟨g,c,eg,g1,g2,g3,g4⟩:=hO2.somewhere (fun q=>by have:=congrArg List.length q;rw[wth_length,List.length_nil]at this;omega);rw[wth_length]at eg;simp at eg;obtain⟨rfl,rfl⟩:=eg;have k3:=hO2.get (i:=x) (by rw[wth_length];exact hx);have k4:=hO2.free x;have HO:Hid _:=hO2.store x false;rw[E'.out]at HO;have HB:Hid _:=hB2.setCell (p:=⟨g,x,none⟩) g3 (.bool false);clear hO2 hB2 hm hs;exact z13_3
    ·have e:r=T.length:=by omega
     subst e;have hge:¬(T.length:Int)<(T.length:Int):=Zo
     rw[List.take_length]at hO2;clear hm hs;go_wp2;go_ret;exact⟨_,rfl,hO2,hB2⟩
noncomputable def tryW(k m:Nat)(z:List UInt8)(ms:List Bool)(T:List Nat):Nat->Bool:=wrg (co z) (co (tryL k m (wth ms T) z)) (hb ms)
theorem try_dec{k m:Nat}{z:List UInt8}{hs:List Bool}(h1:1<=k)(h2:k+m<=256)(hl:hs.length=k+m)(hz:z.length=k+m)(hk:k<=(thr hs hs.length).length):
  decX k m hs (colL z)=0/\lineL (decR k m hs (colL z))=tryL k m hs z/\(decR k m hs (colL z)).length=k+m/\∀i,i<(decR k m hs (colL z)).length->(ro (decR k m hs (colL z)) i).length=1:=by
 have ok:OkC k m:=⟨Zo,Zo,Zo⟩;have oh:OkH k m hs (colL z):=⟨Zo,by rw[colL_length];omega,fun i j hi hj=>by
  have h3:=hb_lt hi;have h4:=hb_lt hj;rw[colL_row Zo,colL_row Zo];rfl⟩
 obtain⟨e1,e2⟩:=decX_ok ok oh hk;have hu:∀f:Nat->UInt8,(upto f k).length=k:=fun f=>upto_length _ _
 refine⟨e1,by rw[e2];rfl,?_,?_⟩
 ·rw[e2,encL_length,decD_length]
 ·rw[e2,encL_length,decD_length,try_col h1 hl hz hk];intro i hi;exact encC_len (hu _) h1 hi
theorem rtried_any{vw vm vs:Value}{k m:Nat}{z:List UInt8}{ms:List Bool}{T:List Nat}{w:World}(h1:1<=k)(h2:k+m<=256)(hz:z.length=k+m)(hms:ms.length=k+m)(hw:Rd w vw z)(hm:RdB w vm ms)(hs:RdI w vs (toI T))
  (hT:∀i,i<T.length->T.getD i 0<k+m) (ht:T.length+cnt (hb ms) (k+m)<=m) {x y:Int} (hx:x=(k:Int)) (hy:y=(m:Int)):
  Calls Tryz.prog 181 #[.int .i64 x,.int .i64 y,vw,vm,vs] w fun e w'=>∃va vd,e= .returned (.tuple #[va,vd,.bool (decide (cnt (tryW k m z ms T) (k+m)<=T.length))])/\Rd w' va (tryL k m (wth ms T) z)/\OwnI w' w.heap.size 3 vd (plc (tryW k m z ms T) (k+m))/\Below w.heap.size w w'/\Far w.heap.size va:=by
 subst hx hy;have hth:=wth_there hms ht;have hwl:(wth ms T).length=k+m:=by rw[wth_length];exact hms
 have HD:Hid _:=try_dec h1 h2 hwl hz hth;have hS:SmallH (wth ms T) (colL z):=(colL_small Zo).h _;have HLen:=try_len h1 hwl hz hth;have hTl:T.length<=300:=Zo
 have W1:=rwth_any hm hs (by rw[hms];exact hT) Zo hTl;obtain⟨a1,c1,e1⟩:=hw.form;obtain⟨a2,c2,e2⟩:=hm.form;have hsf:∃a c,vs= .slice a T.length c:=by
  exact z13_1
 obtain⟨a3,c3,e3⟩:=hsf;subst e1 e2 e3
 go_enter Tryz.func181,Tryz.ntmps181
 have hzz:Hid _:=hz;have hmm:Hid _:=hms;have HL:Hid _:=HLen;clear hz hms HLen hth hwl
 go_wp2_with fail
 refine W1.mono ?_
 rintro e u1 ⟨v1,rfl,O1,b1⟩;clear W1;have R1:=O1.rdB;have hw1:=hw.below b1;obtain⟨g1,d1,ef⟩:=R1.form;subst ef;clear O1
 go_wp2_with fail
 refine(col_any hw1 (by have:=hzz.out;omega)).mono ?_
 rintro e u2 ⟨v2,rfl,R2,b2⟩;obtain⟨g2,d2,ef⟩:=R2.form;subst ef;have R1':=R1.below b2;have B2:=Below.next b1 b2;clear R1 hw1 b1 b2
 go_wp2_with fail
 refine(rdec_any R1' R2 hS).mono ?_
 rintro e u3 ⟨v3,rfl,R3,b3⟩;have B3:=Below.next B2 b3;obtain⟨g3,d3,ef⟩:=R3.form;subst ef;rw[HD.out.1];clear R1' R2 b3 B2
 go_wp2_with fail
 refine(line_far R3 (by rw[HD.out.2.2.1];omega) HD.out.2.2.2).mono ?_
 rintro e u4 ⟨v4,rfl,R4,b4,f4⟩;have HF4:Hid (Far w.heap.size v4):=f4.mono B3.size;clear f4;rw[HD.out.2.1]at R4;have B4:=Below.next B3 b4;obtain⟨g4,d4,ef⟩:=R4.form;subst ef;have hw4:=hw.below B4;have hm4:=hm.below B4;clear R3 b4 B3
 go_wp2_with fail
 refine(rdif_any R4 hw4 hm4 (by rw[HL.out];exact hzz.out) (by rw[HL.out];exact hmm.out) (by rw[HL.out];omega)).mono ?_
 rintro e u5 ⟨v5,rfl,O5,b5⟩;rw[HL.out]at O5;have B5:=Below.next B4 b5;have R5:=R4.below b5;have HI:Hid (OwnI u5 w.heap.size 3 v5 (plc (tryW k m z ms T) (k+m))):=ownsRow_base O5 B4.size;obtain⟨g5,d5,ef⟩:=O5.form;subst ef;have HP:Hid _:=plc_length (tryW k m z ms T) (k+m);have hpc:(plc (wrg (co z) (co (tryL k m (wth ms T) z)) (hb ms)) (k+m)).length=cnt (tryW k m z ms T) (k+m):=HP.out;obtain⟨C,hC⟩:∃C,Hid (C=cnt (tryW k m z ms T) (k+m)):=⟨_,rfl⟩;rw[<-hC.out]at hpc;rw[hpc]at HI ⊢;simp only[<-hC.out];have hdec:Hid (decide ((C:Int)<=(T.length:Int))=decide (C<=T.length)):=by show _=_;rw[Bool.eq_iff_iff,decide_eq_true_eq,decide_eq_true_eq];omega
 clear O5 R4 hw4 hm4 b5 B4 hpc;go_wp2;exact bodyPost_ret (v:=.tuple #[.slice g4 (tryL k m (wth ms T) z).length d4,.slice g5 C d5,.bool (decide ((C:Int)<=(T.length:Int)))]) (by simp[results,Tryz.results181,go_sem]) rfl ⟨_,_,by rw[hdec.out,hC.out],R5,HI.out,B5,HF4.out⟩
theorem conv_zero_top{f g:Nat->UInt8}{n m:Nat}(hf:Fin0 f (n+1))(h1:f n=1)(hg:Fin0 g m)(h:∀j,n<=j->conv f g j=0):∀i,g i=0:=by
 induction m with
 |zero=>exact fun i=>hg i Zz
 |succ m ih=>
  have e:=conv_top hf hg;rw[h _ Zo,h1,one_mu]at e;refine ih fun i hi=>?_
  by_cases q:i=m
  ·rw[q];exact e.symm
  ·exact hg i Zo
theorem tuF_fin(a bv:Nat->UInt8)(N m:Nat):Fin0 (tuF a bv N m) m:=fun i hi=>S_zero fun k _=>by unfold geoF;rw[if_neg Zo,mu_zero]
theorem loc_back{a bv T:Nat->UInt8}{N m:Nat}(hN:N<=m)(hd:∀i j,i<N->j<N->i≠j->a i≠a j)(hT:Fin0 T m)(h:∀j,N<=j->j<m->conv (locF a N) T j=0)
  (hb:∀j,j<N->mu (bv j) (PE a j N (a j))=ev N (higF m (conv (locF a N) T)) (a j)):T=tuF a bv N m:=by
 have hH:Fin0 (higF m (conv (locF a N) T)) N:=fun i hi=>((locF_fin a N).conv hT) (m+i) Zo
 have hz:=roots_all (hH.add (om_fin a bv N)) a hd fun i hi=>by rw[ev_add,om_at hi,hb i hi,x_self]
 have tl:=tu_loc (a:=a) (bv:=bv) (t:=0) (e:=N) (m:=m) Zo;have tO:=tu_om (a:=a) (bv:=bv) (t:=0) (e:=N) (m:=m) Zo;rw[Nat.zero_add]at tl tO;have z:=conv_zero_top (locF_fin a N) (locF_top a N) (hT.add (tuF_fin a bv N m)) fun j hj=>by
  rw[conv_add,addF_at]
  by_cases hlt:j<m
  ·rw[h j hj hlt,tl j hj hlt,x_self]
  ·obtain⟨i,rfl⟩:∃i,j=m+i:=⟨j-m,Zo⟩;have e1:conv (locF a N) (tuF a bv N m) (m+i)=omF a bv N i:=congrFun tO i;rw[e1];exact hz i
 funext i;exact x_eq_zero.1 (z i)
theorem find_made{s pts ks bs zs:List UInt8}(hm:pts.length+ks.length<=s.length)
  (hd:∀i j,i<pts.length+ks.length->j<pts.length+ks.length->i≠j->co (pts++ks) i≠co (pts++ks) j)
  (hl:∀j,pts.length+ks.length<=j->j<s.length->conv (locF (co pts) pts.length) (keP s (locL ks)) j=0)
  (hv:∀j,j<pts.length+ks.length->mu (co (bs++zs) j) (PE (co (pts++ks)) j (pts.length+ks.length) (co (pts++ks) j))=evP (evaL s (locL ks) pts.length (locF (co pts) pts.length)) (co (pts++ks) j)):SyOf s pts ks bs zs:=by
 have hT:Fin0 (co s.reverse) s.length:=fun i hi=>co_ge (by rw[List.length_reverse];exact hi)
 have e0:locF (co (pts++ks)) (pts.length+ks.length)=conv (locF (co pts) pts.length) (co (locL ks)):=by
  rw[locF_append];unfold locL;rw[co_locN];congr 1
  ·exact locF_congr fun i hi=>co_append_lt hi
  ·exact locF_congr fun i hi=>by rw[co_append_ge Zo,Nat.add_sub_cancel_left]
 have e1:conv (locF (co (pts++ks)) (pts.length+ks.length)) (co s.reverse)=conv (locF (co pts) pts.length) (keP s (locL ks)):=by
  unfold keP;rw[e0,conv_assoc]
 have hH:Fin0 (higF s.length (conv (locF (co (pts++ks)) (pts.length+ks.length)) (co s.reverse))) (pts.length+ks.length):=fun i hi=>((locF_fin _ _).conv hT) (s.length+i) Zo
 have e2:co (evaL s (locL ks) pts.length (locF (co pts) pts.length))=higF s.length (conv (locF (co (pts++ks)) (pts.length+ks.length)) (co s.reverse)):=by
  unfold evaL;rw[co_mk (eva_fin (locF_fin _ _)),e1];rfl
 have key:=loc_back (a:=co (pts++ks)) (bv:=co (bs++zs)) hm hd hT (fun j h1 h2=>by rw[e1];exact hl j h1 h2) (fun j hj=>by
  rw[hv j hj];unfold evP;rw[e2];exact ev_eq _ (by rw[<-e2];exact co_fin _) hH)
 intro l hll;have e3:co s l=co s.reverse (s.length-1-l):=by rw[co_rev Zo];congr 1;omega
 rw[e3,key];unfold tuF syP;refine S_congr fun k _=>?_
 unfold geoF;rw[if_pos Zo,show s.length-1-(s.length-1-l)=l by omega]
theorem nmF_one_pwr(x:UInt8)(l:Nat):nmF 1 x l=pwr x l:=by
 induction l with
 |zero=>rfl
 |succ l ih=>rw[nmF,pwr,ih]
theorem S_plc(p:Nat->Bool)(f:Nat->UInt8)(n:Nat):S (cnt p n) (fun j=>f ((plc p n).getD j 0))=S n (fun i=>if p i then f i else 0):=by
 induction n with
 |zero=>rfl
 |succ n ih=>
  have hc:S (cnt p n) (fun j=>f ((plc p (n+1)).getD j 0))=S (cnt p n) (fun j=>f ((plc p n).getD j 0)):=S_congr fun j hj=>by
   rw[plc_succ,<-plc_length]at*;rw[show(plc p n++if p n then [n]else []).getD j 0=(plc p n).getD j 0 by simp[List.getD,List.getElem?_append_left hj]]
  show _=S n (fun i=>if p i then f i else 0)^^^(if p n then f n else 0)
  rw[<-ih,<-hc];cases e:p n
  ·have:cnt p (n+1)=cnt p n:=by rw[cnt,e];rfl
   rw[this];simp
  ·have h1:cnt p (n+1)=cnt p n+1:=by rw[cnt,e];rfl
   rw[h1]
   show S (cnt p n) (fun j=>f ((plc p (n+1)).getD j 0))^^^f ((plc p (n+1)).getD (cnt p n) 0)=_
   have h2:(plc p (n+1)).getD (cnt p n) 0=n:=by
    rw[plc_succ,e,<-plc_length];simp[List.getD]
   rw[h2];rfl
theorem co_map{L:List Nat}{f:Nat->UInt8}{j:Nat}(hj:j<L.length):co (L.map f) j=f (L.getD j 0):=by
 rw[co_lt (by rw[List.length_map];exact hj)];simp[List.getD,hj]
theorem syP_plc{p q:Nat->Bool}(hd:∀i,p i=true->q i=false)(v:Nat->UInt8)(n l:Nat):
  syP (co ((plc p n).map pt++(plc q n).map pt)) (co ((plc p n).map v++(plc q n).map v)) (((plc p n).map pt).length+((plc q n).map pt).length) l=S n (fun i=>if p i||q i then mu (v i) (pwr (pt i) l)else 0):=by
 unfold syP;rw[S_split,List.length_map,List.length_map];have e1:S (plc p n).length (fun i=>mu (co ((plc p n).map v++(plc q n).map v) i) (pwr (co ((plc p n).map pt++(plc q n).map pt) i) l))=S n (fun i=>if p i then mu (v i) (pwr (pt i) l)else 0):=by
  rw[<-S_plc p (fun i=>mu (v i) (pwr (pt i) l)),plc_length];exact S_congr fun i hi=>by
   rw[<-plc_length]at hi;rw[co_append_lt (by rw[List.length_map];exact hi),co_append_lt (by rw[List.length_map];exact hi),co_map hi,co_map hi]
 have e2:S (plc q n).length (fun i=>mu (co ((plc p n).map v++(plc q n).map v) ((plc p n).length+i)) (pwr (co ((plc p n).map pt++(plc q n).map pt) ((plc p n).length+i)) l))=S n (fun i=>if q i then mu (v i) (pwr (pt i) l)else 0):=by
  rw[<-S_plc q (fun i=>mu (v i) (pwr (pt i) l)),plc_length q];exact S_congr fun i hi=>by
   rw[<-plc_length]at hi;rw[co_append_ge (by rw[List.length_map];omega),co_append_ge (by rw[List.length_map];omega),List.length_map,List.length_map,Nat.add_sub_cancel_left,co_map hi,co_map hi]
 rw[e1,e2,<-S_xor];refine S_congr fun i hi=>?_
 cases a:p i
 ·cases b:q i<;>simp
 ·rw[hd i a];simp
theorem pts_apart{p q:Nat->Bool}{n:Nat}(hn:n<=256)(hd:∀i,p i=true->q i=false):∀i j,i<((plc p n).map pt).length+((plc q n).map pt).length->j<((plc p n).map pt).length+((plc q n).map pt).length->i≠j->
  co ((plc p n).map pt++(plc q n).map pt) i≠co ((plc p n).map pt++(plc q n).map pt) j:=by
 intro i j hi hj hne e;rw[<-List.map_append]at e;rw[<-List.length_append,<-List.map_append,List.length_map]at hi hj;rw[co_map hi,co_map hj]at e;have hnd:(plc p n++plc q n).Nodup:=by
  rw[List.nodup_append];exact⟨plc_nodup p n,plc_nodup q n,fun a ha b hb hab=>by
   subst hab;have:=hd a (plc_mem.1 ha).2;rw[(plc_mem.1 hb).2]at this;cases this⟩
 have hlt:∀i,i<(plc p n++plc q n).length->(plc p n++plc q n).getD i 0<256:=fun i hi=>by
  have hm:=List.getElem_mem hi
  have:(plc p n++plc q n)[i]<n:=by
   rcases List.mem_append.1 hm with h|h
   ·exact(plc_mem.1 h).1
   ·exact(plc_mem.1 h).1
  simp only[List.getD,List.getElem?_eq_getElem hi,Option.getD_some];omega
 have e2:=pt_inj (hlt i hi) (hlt j hj) e;simp only[List.getD,List.getElem?_eq_getElem hi,List.getElem?_eq_getElem hj,Option.getD_some]at e2;have hpw:=List.pairwise_iff_getElem.1 hnd
 rcases Nat.lt_or_gt_of_ne hne with h|h
 ·exact hpw i j hi hj h e2
 ·exact hpw j i hj hi h e2.symm
def byF(k m:Nat)(z c:Nat->UInt8)(i:Nat):UInt8:=mu (z i^^^c i) (wtF k m i)
theorem near_sy{k m:Nat}{z c:Nat->UInt8}{ms:Nat->Bool}(hc:CodeW k m c):SyOf (upto (synF k m z) m) ((plc (wrg z c ms) (k+m)).map pt) ((plc ms (k+m)).map pt) ((plc (wrg z c ms) (k+m)).map (byF k m z c)) ((plc ms (k+m)).map (byF k m z c)):=by
 intro l hl;rw[upto_length]at hl;rw[co_upto_in hl,syP_plc (fun i h=>by unfold wrg at h;simp at h;exact h.1)];have e:synF k m z l=synF k m (fun i=>z i^^^c i) l:=by
  have:=synF_add (k:=k) (m:=m) (l:=l) (z:=z) (y:=c) (x:=fun i=>z i^^^c i) (fun i _=>rfl);rw[this,hc l hl,x_zero]
 rw[e];unfold synF;refine S_congr fun i hi=>?_
 rw[nmF_one_pwr]
 by_cases h:wrg z c ms i||ms i
 ·rw[if_pos h];rfl
 ·rw[if_neg h];have h0:c i=z i:=by
   refine Classical.byContradiction fun q=>h ?_
   cases em:ms i<;>simp[wrg,em,q]
  show mu (mu (z i^^^c i) (wtF k m i)) (pwr (pt i) l)=0
  rw[h0,x_self,zero_mu,zero_mu]
theorem near_key{k m:Nat}{z c:Nat->UInt8}{ms:Nat->Bool}(h2:k+m<=256)(hc:Near k m z ms c):
  KeyAns (upto (synF k m z) m) (locL ((plc ms (k+m)).map pt)) 0 (locL ((plc (wrg z c ms) (k+m)).map pt))
   (evaL (upto (synF k m z) m) (locL ((plc ms (k+m)).map pt)) ((plc (wrg z c ms) (k+m)).map pt).length (locF (co ((plc (wrg z c ms) (k+m)).map pt++(plc ms (k+m)).map pt)) ((plc (wrg z c ms) (k+m)).map pt).length)):=by
 have hf:=hc.few;refine find_ok (near_sy hc.code) (by rw[upto_length,List.length_map,List.length_map,plc_length,plc_length];exact hf) (by rw[List.length_map,List.length_map]) (pts_apart h2 (fun i h=>by unfold wrg at h;simp at h;exact h.1)) fun i hi=>?_
 rw[List.length_map]at hi;rw[co_map hi];have hm:(plc (wrg z c ms) (k+m)).getD i 0∈plc (wrg z c ms) (k+m):=by
  simp only[List.getD,List.getElem?_eq_getElem hi,Option.getD_some];exact List.getElem_mem hi
 obtain⟨g1,g2⟩:=plc_mem.1 hm;generalize (plc (wrg z c ms) (k+m)).getD i 0=r at*;unfold wrg at g2;simp at g2;unfold byF;exact mu_ne (fun q=>g2.2 (x_eq_zero.1 q).symm) (wtF_ne h2 Zo)
theorem sy_code{k m:Nat}{z v:Nat->UInt8}{p q:Nat->Bool}(h2:k+m<=256)(hd:∀i,p i=true->q i=false)
  (hs:SyOf (upto (synF k m z) m) ((plc p (k+m)).map pt) ((plc q (k+m)).map pt) ((plc p (k+m)).map v) ((plc q (k+m)).map v)):
  CodeW k m (fun i=>z i^^^(if p i||q i then mu (v i) (iv (wtF k m i))else 0)):=by
 intro l hl;have e:=hs l (by rw[upto_length];exact hl);rw[co_upto_in hl,syP_plc hd]at e;rw[synF_add (z:=z) (y:=fun i=>if p i||q i then mu (v i) (iv (wtF k m i))else 0) (fun i _=>rfl),e];unfold synF;rw[<-S_xor];refine S_zero fun i hi=>?_
 show(if p i||q i then mu (v i) (pwr (pt i) l)else 0)^^^mu (mu (if p i||q i then mu (v i) (iv (wtF k m i))else 0) (wtF k m i)) (nmF 1 (pt i) l)=0
 by_cases h:(p i||q i)=true
 ·rw[if_pos h,if_pos h,mu_assoc (v i),mu_comm (iv _),mu_iv (wtF_ne h2 Zo),mu_one,nmF_one_pwr,x_self]
 ·rw[if_neg h,if_neg h,zero_mu,zero_mu,x_self]
def IsNear(k m:Nat)(z:List UInt8)(ms:List Bool):Prop:=∃c,Near k m (co z) (hb ms) c
def OkW(k m:Int)(z:List UInt8)(ms:List Bool):Prop:=(z.length:Int)=k+m/\(ms.length:Int)=k+m
noncomputable def nearF(k m:Nat)(z:List UInt8)(ms:List Bool):Nat->UInt8:=by
 classical
 exact if h:IsNear k m z ms then h.choose else fun _=>0
theorem nearF_is{k m:Nat}{z:List UInt8}{ms:List Bool}(h:IsNear k m z ms):Near k m (co z) (hb ms) (nearF k m z ms):=by
 unfold nearF;rw[dif_pos h];exact h.choose_spec
open Classical in
noncomputable def wdX(k m:Int)(z:List UInt8)(ms:List Bool):Int:=if OkC k m then (if OkW k m z ms then (if IsNear k.toNat m.toNat z ms then 0 else 100)else 60)else 50
open Classical in
noncomputable def wdR(k m:Int)(z:List UInt8)(ms:List Bool):List UInt8:=if OkC k m/\OkW k m z ms/\IsNear k.toNat m.toNat z ms then upto (nearF k.toNat m.toNat z ms) (k.toNat+m.toNat)else []
open Classical in
noncomputable def wdP(k m:Int)(z:List UInt8)(ms:List Bool):List Nat:=if OkC k m/\OkW k m z ms/\IsNear k.toNat m.toNat z ms then plc (wrg (co z) (nearF k.toNat m.toNat z ms) (hb ms)) (k.toNat+m.toNat)else []
theorem wd_bad{k m:Int}{z:List UInt8}{ms:List Bool}(c:¬OkC k m):wdX k m z ms=50/\wdR k m z ms=[]/\wdP k m z ms=[]:=
 ⟨by unfold wdX;rw[if_neg c],by unfold wdR;rw[if_neg fun e=>c e.1],by unfold wdP;rw[if_neg fun e=>c e.1]⟩
theorem wd_shard{k m:Int}{z:List UInt8}{ms:List Bool}(c:OkC k m)(d:¬OkW k m z ms):wdX k m z ms=60/\wdR k m z ms=[]/\wdP k m z ms=[]:=
 ⟨by unfold wdX;rw[if_pos c,if_neg d],by unfold wdR;rw[if_neg fun e=>d e.2.1],by unfold wdP;rw[if_neg fun e=>d e.2.1]⟩
theorem wd_many{k m:Nat}{z:List UInt8}{ms:List Bool}(c:OkC k m)(d:OkW k m z ms)(e:¬IsNear k m z ms):wdX k m z ms=100/\wdR k m z ms=[]/\wdP k m z ms=[]:=
 ⟨by unfold wdX;rw[if_pos c,if_pos d];exact if_neg e,by unfold wdR;rw[if_neg fun q=>e q.2.2],by unfold wdP;rw[if_neg fun q=>e q.2.2]⟩
theorem wd_ok{k m:Nat}{z:List UInt8}{ms:List Bool}{c:Nat->UInt8}(o:OkC k m)(d:OkW k m z ms)(h:Near k m (co z) (hb ms) c):wdX k m z ms=0/\wdR k m z ms=upto c (k+m)/\wdP k m z ms=plc (wrg (co z) c (hb ms)) (k+m):=by
 have hI:IsNear k m z ms:=⟨c,h⟩;have h2:k+m<=256:=by have:=o.2.2;omega
 have hu:=(nearF_is hI).unique h2 h;refine⟨by unfold wdX;rw[if_pos o,if_pos d];exact if_pos hI,?_,?_⟩
 ·unfold wdR;rw[if_pos ⟨o,d,hI⟩];exact upto_congr fun i hi=>hu i hi
 ·unfold wdP;rw[if_pos ⟨o,d,hI⟩]
  show plc (wrg (co z) (nearF k m z ms) (hb ms)) (k+m)=_
  unfold plc;refine List.filter_congr fun i hi=>?_
  unfold wrg;rw[hu i (List.mem_range.1 hi)]
theorem iv_mu10{a b:UInt8}(ha:a≠0)(hb:b≠0):iv (mu a b)=mu (iv a) (iv b):=by
 have h1:mu (mu a b) (iv (mu a b))=1:=mu_iv (mu_ne ha hb);have h2:mu (mu a b) (mu (iv a) (iv b))=1:=by
  rw[mu_assoc,mu_comm (iv a),<-mu_assoc b,mu_iv hb,one_mu,mu_iv ha]
 have h3:mu (iv (mu a b)) (mu (mu a b) (mu (iv a) (iv b)))=mu (iv a) (iv b):=by
  rw[<-mu_assoc,mu_comm (iv (mu a b)),h1,one_mu]
 rw[h2,mu_one]at h3;exact h3
def rtF(A:List UInt8)(ms:Nat->Bool)(i:Nat):Bool:= !ms i&&decide (evP A (pt i)=0)
theorem rtF_not{A:List UInt8}{ms:Nat->Bool}{i:Nat}(h:rtF A ms i=true):ms i=false:=by unfold rtF at h;simp at h;exact h.1
theorem rtF_root{A:List UInt8}{ms:Nat->Bool}{i:Nat}(h:rtF A ms i=true):evP A (pt i)=0:=by unfold rtF at h;simp at h;exact h.2
theorem getD_mem{L:List Nat}{j:Nat}(hj:j<L.length):L.getD j 0∈L:=by
 simp only[List.getD,List.getElem?_eq_getElem hj,Option.getD_some];exact List.getElem_mem hj
theorem root_of{p:Nat->Bool}{n i:Nat}(hn:n<=256)(hi:i<n):evP (locL ((plc p n).map pt)) (pt i)=0↔p i=true:=by
 rw[evP_loc,PD_zero];constructor
 ·rintro⟨j,hj,e⟩;rw[List.length_map]at hj;rw[co_map hj]at e;obtain⟨g1,g2⟩:=plc_mem.1 (getD_mem hj);rw[pt_inj Zo Zo e]at g2;exact g2
 ·intro h;obtain⟨j,hj,e⟩:=List.getElem_of_mem (plc_mem.2 ⟨hi,h⟩);refine⟨j,by rw[List.length_map];exact hj,?_⟩;rw[co_map hj];simp[List.getD,hj,e]
theorem near_roots{k m:Nat}{z c:Nat->UInt8}{ms:Nat->Bool}{X:Int}{A O:List UInt8}(h2:k+m<=256)(hc:Near k m z ms c)(hK:KeyAns (upto (synF k m z) m) (locL ((plc ms (k+m)).map pt)) X A O):
  X=0/\plc (rtF A ms) (k+m)=plc (wrg z c ms) (k+m)/\A.length=cnt (rtF A ms) (k+m)+1:=by
 obtain⟨e1,e2,e3⟩:=(near_key h2 hc).unique hK;have e4:plc (rtF A ms) (k+m)=plc (wrg z c ms) (k+m):=by
  unfold plc;refine List.filter_congr fun i hi=>?_
  have hi':=List.mem_range.1 hi;have:=root_of (p:=wrg z c ms) h2 hi';rw[<-e2]at this;unfold rtF;cases em:ms i
  ·rw[Bool.not_false,Bool.true_and,Bool.eq_iff_iff,decide_eq_true_eq];exact this
  ·unfold wrg;rw[em];rfl
 refine⟨e1,e4,?_⟩;rw[<-plc_length,e4,e2];unfold locL;rw[locN_length,List.length_map]
def dfF(k m:Nat)(O D:List UInt8)(i:Nat):UInt8:=mu (evP O (pt i)) (iv (mu (evP D (pt i)) (wtF k m i)))
def rtW(k m:Nat)(z:Nat->UInt8)(A O D:List UInt8)(ms:Nat->Bool)(i:Nat):UInt8:=z i^^^(if rtF A ms i||ms i then dfF k m O D i else 0)
theorem roots_near{k m:Nat}{z:Nat->UInt8}{ms:Nat->Bool}{A O:List UInt8}(h2:k+m<=256)(hK:KeyAns (upto (synF k m z) m) (locL ((plc ms (k+m)).map pt)) 0 A O)(hr:A.length<=cnt (rtF A ms) (k+m)+1):
  Near k m z ms (rtW k m z A O (derP (mulP A (locL ((plc ms (k+m)).map pt)))) ms)/\∀i,i<k+m->(rtF A ms i||ms i)=true->mu (evP (derP (mulP A (locL ((plc ms (k+m)).map pt)))) (pt i)) (wtF k m i)≠0:=by
 rcases hK with⟨_,h,_⟩|⟨b,t,L,hl,_,eA,eO⟩|⟨_,_,h,_⟩
 ·cases h
 ·have hnd:∀i,rtF A ms i=true->ms i=false:=fun i=>rtF_not
  have hap:=pts_apart (n:=k+m) h2 hnd;have hpl:((plc (rtF A ms) (k+m)).map pt).length=cnt (rtF A ms) (k+m):=by rw[List.length_map,plc_length]
  have hkl:((plc ms (k+m)).map pt).length=cnt ms (k+m):=by rw[List.length_map,plc_length]
  have hco:co A=L:=by rw[eA];exact funext fun i=>co_upto hl.loc.fin i
  have hAl:A.length=t+1:=by rw[eA,upto_length]
  have hroot:∀j,j<cnt (rtF A ms) (k+m)->ev (t+1) L (co ((plc (rtF A ms) (k+m)).map pt) j)=0:=fun j hj=>by
   rw[<-plc_length]at hj;rw[co_map hj];have:=rtF_root (plc_mem.1 (getD_mem hj)).2;unfold evP at this;rw[hAl,hco]at this;exact this
  have hdist:∀i j,i<cnt (rtF A ms) (k+m)->j<cnt (rtF A ms) (k+m)->i≠j->co ((plc (rtF A ms) (k+m)).map pt) i≠co ((plc (rtF A ms) (k+m)).map pt) j:=fun i j hi hj hne=>by
   have:=hap i j Zo Zo hne;rw[co_append_lt Zo,co_append_lt Zo]at this;exact this
  have hT:cnt (rtF A ms) (k+m)=t:=by
   refine Nat.le_antisymm (Nat.le_of_not_lt fun hlt=>?_) Zo;have:=roots_all hl.loc.fin (co ((plc (rtF A ms) (k+m)).map pt)) (fun i j hi hj=>hdist i j Zo Zo) (fun i hi=>hroot i Zo) t;rw[hl.loc.top]at this;cases this
  have hLl:L=locF (co ((plc (rtF A ms) (k+m)).map pt)) t:=by
   have hD:Fin0 (addF L (locF (co ((plc (rtF A ms) (k+m)).map pt)) t)) t:=fun i hi=>by
    rw[addF_at]
    by_cases e0:i=t
    ·rw[e0,hl.loc.top,locF_top,x_self]
    ·rw[hl.loc.fin i Zo,locF_fin _ t i Zo,x_self]
   have:=roots_all hD (co ((plc (rtF A ms) (k+m)).map pt)) (fun i j hi hj=>hdist i j Zo Zo) (fun i hi=>by
    rw[<-ev_more _ hD (show t<=t+1 by omega),ev_add,hroot i Zo,ev_loc,PD_zero.2 ⟨i,hi,rfl⟩];rfl)
   funext i;exact x_eq_zero.1 (this i)
  have hAL:A=locL ((plc (rtF A ms) (k+m)).map pt):=by
   rw[eA];unfold locL locN;rw[<-eA,hpl,hT,<-hLl];exact eA
  have hf:=hl.few;rw[upto_length,find_norm,Nat.add_sub_cancel,hkl]at hf;obtain⟨D,hD⟩:∃D,D=derP (mulP A (locL ((plc ms (k+m)).map pt))):=⟨_,rfl⟩;have hDD:D=derP (mulP (locL ((plc (rtF A ms) (k+m)).map pt)) (locL ((plc ms (k+m)).map pt))):=by rw[hD];congr 2
  have spot:∀j,j<((plc (rtF A ms) (k+m)).map pt).length+((plc ms (k+m)).map pt).length->co ((plc (rtF A ms) (k+m)).map pt++(plc ms (k+m)).map pt) j=pt ((plc (rtF A ms) (k+m)++plc ms (k+m)).getD j 0):=fun j hj=>by
   rw[<-List.map_append,co_map (by rw[List.length_map,List.length_map]at hj;rw[List.length_append];exact hj)]
  have hDne:∀i,i<k+m->(rtF A ms i||ms i)=true->evP D (pt i)≠0:=fun i hi hp=>by
   have hmem:i∈plc (rtF A ms) (k+m)++plc ms (k+m):=by
    rw[Bool.or_eq_true]at hp
    rcases hp with h|h
    ·exact List.mem_append_left _ (plc_mem.2 ⟨hi,h⟩)
    ·exact List.mem_append_right _ (plc_mem.2 ⟨hi,h⟩)
   obtain⟨j,hj,ej⟩:=List.getElem_of_mem hmem;have hj':j<((plc (rtF A ms) (k+m)).map pt).length+((plc ms (k+m)).map pt).length:=by rw[List.length_map,List.length_map,<-List.length_append];exact hj
   have h5:=find_der ((plc (rtF A ms) (k+m)).map pt) ((plc ms (k+m)).map pt) hj';have h6:=find_ne hap hj';rw[spot j hj',<-hDD]at h5;rw[spot j hj']at h6;have h7:(plc (rtF A ms) (k+m)++plc ms (k+m)).getD j 0=i:=by
    simp only[List.getD,List.getElem?_eq_getElem hj,Option.getD_some];exact ej
   rw[h7]at h5 h6;rw[h5];exact h6
  have hw:∀i,i<k+m->(rtF A ms i||ms i)=true->mu (evP D (pt i)) (wtF k m i)≠0:=fun i hi hp=>mu_ne (hDne i hi hp) (wtF_ne h2 Zo)
  have hs:=find_made (s:=upto (synF k m z) m) (pts:=(plc (rtF A ms) (k+m)).map pt) (ks:=(plc ms (k+m)).map pt) (bs:=(plc (rtF A ms) (k+m)).map (fun i=>mu (evP O (pt i)) (iv (evP D (pt i))))) (zs:=(plc ms (k+m)).map (fun i=>mu (evP O (pt i)) (iv (evP D (pt i)))))
   (by rw[hpl,hkl,upto_length];omega) hap (fun j h1 h3=>by
    have:=hl.loc.zero j (by rw[find_norm,hkl];omega) h3;rw[hpl,hT,<-hLl];exact this) (fun j hj=>by
    have h5:=find_der ((plc (rtF A ms) (k+m)).map pt) ((plc ms (k+m)).map pt) hj;have h6:=find_ne hap hj;rw[<-hDD]at h5;rw[<-List.map_append (f:=fun i=>mu (evP O (pt i)) (iv (evP D (pt i)))),co_map (by rw[List.length_map,List.length_map]at hj;rw[List.length_append];exact hj)];rw[<-h5]at h6 ⊢;rw[spot j hj]at h6 ⊢
    show mu (mu (evP O _) (iv (evP D _))) (evP D _)=_
    rw[mu_assoc,mu_comm (iv _),mu_iv h6,mu_one,eO,hpl,hT,<-hLl])
  have hcode:=sy_code h2 hnd hs;rw[<-hD];refine⟨⟨hcode.congr fun i hi=>?_,?_⟩,hw⟩
  ·unfold rtW dfF;congr 1
   by_cases hp:(rtF A ms i||ms i)=true
   ·rw[if_pos hp,if_pos hp,iv_mu10 (hDne i hi hp) (wtF_ne h2 Zo),mu_assoc]
   ·rw[if_neg hp,if_neg hp]
  ·have:cnt (wrg z (rtW k m z A O D ms) ms) (k+m)<=cnt (rtF A ms) (k+m):=cnt_mono fun i hi hwr=>by
    unfold wrg at hwr;simp only[Bool.and_eq_true,Bool.not_eq_true',decide_eq_true_eq]at hwr;refine Classical.byContradiction fun q=>hwr.2 ?_
    unfold rtW;rw[if_neg (by simp[q,hwr.1]),x_zero]
   omega
 ·cases h
theorem roots_told{k m:Nat}{z:Nat->UInt8}{ms:Nat->Bool}{A O:List UInt8}(h2:k+m<=256)(hK:KeyAns (upto (synF k m z) m) (locL ((plc ms (k+m)).map pt)) 0 A O)(hr:A.length<=cnt (rtF A ms) (k+m)+1):
  plc (rtF A ms) (k+m)=plc (wrg z (rtW k m z A O (derP (mulP A (locL ((plc ms (k+m)).map pt)))) ms) ms) (k+m):=(near_roots h2 (roots_near h2 hK hr).1 hK).2.1
end Go.Proofs.YtddnfhfangfgeaaGreat.Gf
