/- JOINED: KeMath, KeAns, KeLoc, KeFind, KeMakes, KeEuc, KeCA. -/
import Derived.Test.YtddnfhfangfgeaaGreatPome8
import Derived.Test.YtddnfhfangfgeaaGreatPome3
set_option maxHeartbeats 2000000
set_option maxRecDepth 100000
namespace Go.Proofs.YtddnfhfangfgeaaGreat.Gf
set_option linter.unusedVariables false
set_option linter.unusedSimpArgs false
theorem conv_low{L A B:Nat->UInt8}{m j:Nat}(h:∀i,i<m->A i=B i)(hj:j<m):conv L A j=conv L B j:=
 S_congr fun i hi=>by rw[h (j-i) Zo]
theorem conv_left(a b c:Nat->UInt8):conv a (conv b c)=conv b (conv a c):=by rw[<-conv_assoc,conv_comm a b,conv_assoc]
theorem addF_at(a b:Nat->UInt8)(j:Nat):addF a b j=a j^^^b j:=rfl
theorem smul_conv(c:UInt8)(a b:Nat->UInt8):conv (fun i=>mu c (a i)) b=fun j=>mu c (conv a b j):=by
 funext j;unfold conv;rw[mu_S];exact S_congr fun i _=>mu_assoc _ _ _
theorem conv_smul(c:UInt8)(a b:Nat->UInt8):conv a (fun i=>mu c (b i))=fun j=>mu c (conv a b j):=by rw[conv_comm,smul_conv,conv_comm]
def shF(m:Nat)(f:Nat->UInt8)(j:Nat):UInt8:=if m<=j then f (j-m)else 0
theorem shF_low{m:Nat}{f:Nat->UInt8}{j:Nat}(h:j<m):shF m f j=0:=if_neg Zo
theorem shF_ge{m:Nat}{f:Nat->UInt8}{j:Nat}(h:m<=j):shF m f j=f (j-m):=if_pos h
theorem shF_high(m:Nat)(f:Nat->UInt8)(j:Nat):shF m f (j+m)=f j:=by unfold shF;rw[if_pos Zo,Nat.add_sub_cancel]
theorem conv_shF(m:Nat)(f g:Nat->UInt8):conv f (shF m g)=shF m (conv f g):=by
 funext j
 by_cases h:m<=j
 ·rw[shF_ge h];unfold conv;rw[S_more (n:=j-m+1) (m:=j+1) Zo (fun i h1 h2=>by rw[shF_low Zo,mu_zero])];exact S_congr fun i hi=>by rw[shF_ge Zo,show j-i-m=j-m-i by omega]
 ·unfold conv;rw[shF_low Zo];exact S_zero fun i hi=>by rw[shF_low Zo,mu_zero]
theorem shF_inj{m:Nat}{f g:Nat->UInt8}(h:shF m f=shF m g):f=g:=by
 funext j;have:=congrFun h (j+m);rwa[shF_high,shF_high]at this
theorem shF_of{m:Nat}{f:Nat->UInt8}(h:∀j,j<m->f j=0):f=shF m (fun j=>f (j+m)):=by
 funext j
 by_cases e:m<=j
 ·rw[shF_ge e];show f j=f (j-m+m);rw[Nat.sub_add_cancel e]
 ·rw[shF_low Zo];exact h j Zo
structure IsLoc(P:Nat->UInt8)(m e t:Nat)(L:Nat->UInt8):Prop where
 fin:Fin0 L (t+1)
 top:L t=1
 zero:∀j,e+t<=j->j<m->conv L P j=0
structure LeastLoc(P:Nat->UInt8)(m e t:Nat)(L:Nat->UInt8):Prop where
 loc:IsLoc P m e t L
 few:2*t+e<=m
 least:∀t' L',2*t'+e<=m->IsLoc P m e t' L'->t<=t'
 one:∀L',IsLoc P m e t L'->L'=L
theorem LeastLoc.unique{P:Nat->UInt8}{m e t t':Nat}{L L':Nat->UInt8}(h:LeastLoc P m e t L)(h':LeastLoc P m e t' L'):t'=t/\L'=L:=by
 have e1:=h.least _ _ h'.few h'.loc;have e2:=h'.least _ _ h.few h.loc;obtain rfl:t=t':=Zo
 exact⟨rfl,h.one _ h'.loc⟩
def cst(c:UInt8)(i:Nat):UInt8:=if i=0 then c else 0
theorem cst_zero(c:UInt8):cst c 0=c:=if_pos rfl
theorem cst_ne{c:UInt8}{i:Nat}(h:i≠0):cst c i=0:=if_neg h
structure Eu(P:Nat->UInt8)(m:Nat)(r0 r1 v0 v1:Nat->UInt8)(a b:Nat):Prop where
 c0:∀j,j<m->conv v0 P j=r0 j
 c1:∀j,j<m->conv v1 P j=r1 j
 det:∃c:UInt8,c≠0/\addF (conv v1 r0) (conv v0 r1)=shF m (cst c)
 sum:a+b=m
 f1:Fin0 v1 (a+1)
 t1:v1 a≠0
 g0:Fin0 r0 (b+1)
 s0:r0 b≠0
 f0:Fin0 v0 a
 g1:Fin0 r1 b
theorem one_conv(f:Nat->UInt8)(c:UInt8):conv (cst c) f=fun j=>mu c (f j):=by
 funext j;unfold conv;rw[S_one (k:=0) Zo (fun i _ hi=>by rw[cst_ne hi,zero_mu]),cst_zero,Nat.sub_zero]
theorem Eu.start{P r1:Nat->UInt8}{m:Nat}(h:∀j,j<m->P j=r1 j)(hr:Fin0 r1 m):Eu P m (fun i=>if i=m then 1 else 0) r1 (fun _=>0) (cst 1) 0 m:=by
 have z:∀f:Nat->UInt8,conv (fun _=>0) f=fun _=>0:=fun f=>by
  funext j;rw[conv_comm];exact conv_zero (fun _=>rfl) j
 refine⟨fun j hj=>?_,fun j hj=>?_,⟨1,Zd,?_⟩,Zo,fun i hi=>cst_ne Zo,?_,fun i hi=>if_neg Zo,?_,fun i _=>rfl,hr⟩
 ·rw[z];exact(if_neg Zo).symm
 ·rw[one_conv];show mu 1 (P j)=_;rw[one_mu];exact h j hj
 ·rw[one_conv,z];funext j
  show mu 1 (if j=m then 1 else 0)^^^0=shF m (cst 1) j
  rw[one_mu,x_zero]
  by_cases e:m<=j
  ·rw[shF_ge e]
   by_cases e2:j=m
   ·rw[if_pos e2,e2,Nat.sub_self,cst_zero]
   ·rw[if_neg e2,cst_ne Zo]
  ·rw[shF_low Zo,if_neg Zo]
 ·rw[cst_zero];decide
 ·rw[if_pos rfl];decide
theorem Eu.step{P r0 r1 v0 v1 q r2:Nat->UInt8}{m a b d:Nat}(h:Eu P m r0 r1 v0 v1 a b)(hd:Fin0 r1 (d+1))(hn:r1 d≠0)(hq:∀i,r0 i=conv q r1 i^^^r2 i)(hf:Fin0 q (b-d+1))(hr:Fin0 r2 d):
  Eu P m r1 r2 v1 (addF v0 (conv q v1)) (a+(b-d)) d:=by
 have hdb:d<b:=by
  rcases Nat.lt_or_ge d b with e|e
  ·exact e
  ·exact absurd (h.g1 d e) hn
 have er:r0=addF (conv q r1) r2:=funext hq;have hqt:q (b-d)≠0:=fun e=>h.s0 (by
  have:=conv_top hf hd;rw[show b-d+d=b by omega,e,zero_mu]at this;rw[er,addF_at,this,hr b Zo];rfl)
 obtain⟨c,hc,hdet⟩:=h.det;refine⟨h.c1,fun j hj=>?_,⟨c,hc,?_⟩,by have:=h.sum;omega,?_,?_,hd,hn,h.f1.mono Zo,hr⟩
 ·rw[add_conv,addF_at,h.c0 j hj,conv_assoc,conv_low h.c1 hj,er,addF_at,x_comm (conv q r1 j),x_assoc,x_self,x_zero]
 ·rw[<-hdet,er,add_conv,conv_add];funext j
  show(conv v0 r1 j^^^conv (conv q v1) r1 j)^^^conv v1 r2 j=(conv v1 (conv q r1) j^^^conv v1 r2 j)^^^conv v0 r1 j
  rw[conv_assoc,conv_left q v1,x_comm _ (conv v0 r1 j),x_assoc]
 ·have e:=(hf.conv h.f1).mono (show b-d+1+(a+1)-1<=a+(b-d)+1 by omega);exact(h.f0.mono Zo).add e
 ·rw[addF_at,h.f0 _ Zo,zero_x,show a+(b-d)=(b-d)+a by omega,conv_top hf h.f1];exact mu_ne hqt h.t1
theorem Eu.all{P r0 r1 v0 v1:Nat->UInt8}{m a b n1 e t:Nat}{L:Nat->UInt8}(h:Eu P m r0 r1 v0 v1 a b)(hb:m+e<=2*b)(hn:Fin0 r1 n1)(h1:2*n1<=m+e+1)(ht:2*t+e<=m)(hL:IsLoc P m e t L):
  a<=t/\Fin0 r1 (e+a)/\(t=a->L=fun j=>mu (iv (v1 a)) (v1 j)):=by
 have hs:=h.sum;have ha:2*a+e<=m:=Zo
 obtain⟨c,hc,hdet⟩:=h.det;obtain⟨R,hR⟩:∃R:Nat->UInt8,R=fun j=>if j<e+t then conv L P j else 0:=⟨_,rfl⟩
 have hRf:Fin0 R (e+t):=fun i hi=>by rw[hR];exact if_neg Zo
 have hRl:∀j,j<m->conv L P j=R j:=fun j hj=>by
  rw[hR]
  by_cases e1:j<e+t
  ·exact(if_pos e1).symm
  ·show _=if j<e+t then _ else _
   rw[if_neg e1];exact hL.zero j Zo hj
 have hA:conv L r1=conv R v1:=by
  funext j
  by_cases hj:j<m
  ·rw[<-conv_low h.c1 hj,conv_left,conv_low hRl hj,conv_comm]
  ·rw[(hL.fin.conv hn) j Zo,(hRf.conv h.f1) j Zo]
 obtain⟨B,hB⟩:∃B,B=addF (conv L r0) (conv R v0):=⟨_,rfl⟩;have hB0:∀j,j<m->B j=0:=fun j hj=>by
  rw[hB,addF_at,<-conv_low h.c0 hj,conv_left,conv_low hRl hj,conv_comm v0,x_self]
 obtain⟨y,hy⟩:∃y:Nat->UInt8,y=fun j=>B (j+m):=⟨_,rfl⟩
 have hBy:B=shF m y:=by rw[hy];exact shF_of hB0
 have k1:conv v1 y=fun j=>mu c (L j):=by
  refine shF_inj (m:=m) ?_
  rw[<-conv_shF,<-hBy,hB,conv_add,conv_left v1 L,conv_left v1 R];have e1:conv v1 r0=addF (shF m (cst c)) (conv v0 r1):=by
   rw[<-hdet];funext j;rw[addF_at,addF_at,x_assoc,x_self,x_zero]
  rw[e1,conv_add,conv_shF,conv_comm L (cst c),one_conv];funext j
  show(shF m (fun j=>mu c (L j)) j^^^conv L (conv v0 r1) j)^^^conv R (conv v1 v0) j=_
  rw[conv_left L v0,hA,conv_comm v1 v0,conv_left R v0,conv_comm R v1,x_assoc,x_self,x_zero]
 have k2:conv r1 y=fun j=>mu c (R j):=by
  refine shF_inj (m:=m) ?_
  rw[<-conv_shF,<-hBy,hB,conv_add,conv_left r1 L,conv_comm r1 r0,conv_left L r0,hA,conv_left r1 R,conv_comm r1 v0];have e1:conv v0 r1=addF (shF m (cst c)) (conv v1 r0):=by
   rw[<-hdet];funext j;rw[addF_at,addF_at,x_comm (conv v1 r0 j),x_assoc,x_self,x_zero]
  rw[e1,conv_add,conv_shF,conv_comm R (cst c),one_conv];funext j
  show conv r0 (conv R v1) j^^^(shF m (fun j=>mu c (R j)) j^^^conv R (conv v1 r0) j)=_
  rw[conv_comm v1 r0,conv_left R r0,x_left,x_self,x_zero]
 --the degrees
 obtain⟨N,hN⟩:∃N,Fin0 y N:=⟨(t+1+(b+1)-1)+(e+t+a-1),fun i hi=>by
  rw[hy]
  show B (i+m)=0
  rw[hB,addF_at,(hL.fin.conv h.g0) _ Zo,(hRf.conv h.f0) _ Zo];rfl⟩
 have hcL:Fin0 (fun j=>mu c (L j)) (t+1):=fun i hi=>by show mu c (L i)=0;rw[hL.fin i hi,mu_zero]
 have dL:deg (fun j=>mu c (L j)) (t+1)=t+1:=deg_unique hcL hcL (fun _=>by show mu c (L (t+1-1))≠0;rw[Nat.add_sub_cancel,hL.top,mu_one];exact hc);have dv:deg v1 (a+1)=a+1:=deg_unique h.f1 h.f1 (fun _=>by rw[Nat.add_sub_cancel];exact h.t1);have dc:=deg_conv h.f1 hN (k:=t+1) (by rw[k1];exact hcL);rw[k1,dL,dv]at dc;have hy0:deg y N≠0:=fun e=>by rw[if_pos (Or.inr e)]at dc;omega
 rw[if_neg Zo]at dc;refine⟨Zo,?_,fun et=>?_⟩
 ·have hcR:Fin0 (fun j=>mu c (R j)) (e+t):=fun i hi=>by show mu c (R i)=0;rw[hRf i hi,mu_zero]
  have dr:=deg_conv hn hN (k:=e+t) (by rw[k2];exact hcR);rw[k2]at dr;have hle:=deg_le (fun j=>mu c (R j)) (e+t)
  by_cases e0:deg r1 n1=0
  ·exact(deg_fin hn).mono Zo
  ·rw[if_neg Zo]at dr;exact(deg_fin hn).mono Zo
 ·subst et;have hy1:Fin0 y 1:=(deg_fin hN).mono Zo;have ey:y=cst (y 0):=by
   funext i
   by_cases e0:i=0
   ·rw[e0,cst_zero]
   ·rw[cst_ne e0];exact hy1 i Zo
  rw[conv_comm,ey,one_conv]at k1;have key:∀j,L j=mu (iv c) (mu (y 0) (v1 j)):=fun j=>by
   have:=congrFun k1 j
   show L j=_
   have e2:mu (y 0) (v1 j)=mu c (L j):=this;rw[e2,<-mu_assoc,mu_comm (iv c),mu_iv hc,one_mu]
  have k0:=key t;rw[hL.top]at k0;funext j;rw[key j]
  --iv c · y0 is the inverse of v1's top
  have e3:mu (mu (iv c) (y 0)) (v1 t)=1:=by rw[mu_assoc];exact k0.symm
  have e4:mu (iv c) (y 0)=iv (v1 t):=by
   have:mu (mu (mu (iv c) (y 0)) (v1 t)) (iv (v1 t))=mu 1 (iv (v1 t)):=by rw[e3]
   rw[mu_assoc,mu_iv h.t1,mu_one,one_mu]at this;exact this
  rw[<-mu_assoc,e4]
theorem Eu.least{P r0 r1 v0 v1:Nat->UInt8}{m a b n1 e:Nat}(h:Eu P m r0 r1 v0 v1 a b)(hb:m+e<=2*b)(hn:Fin0 r1 n1)(h1:2*n1<=m+e+1)(hr:Fin0 r1 (e+a)):LeastLoc P m e a (fun j=>mu (iv (v1 a)) (v1 j)):=by
 have hs:=h.sum;refine⟨⟨fun i hi=>?_,?_,fun j h2 h3=>?_⟩,Zo,fun t' L' h2 h3=>(h.all hb hn h1 h2 h3).1,fun L' h3=>(h.all hb hn h1 Zo h3).2.2 rfl⟩
 ·show mu _ (v1 i)=0;rw[h.f1 i hi,mu_zero]
 ·show mu _ (v1 a)=1;rw[mu_comm,mu_iv h.t1]
 ·rw[smul_conv];show mu _ (conv v1 P j)=0;rw[h.c1 j h3,hr j h2,mu_zero]
theorem Eu.none{P r0 r1 v0 v1:Nat->UInt8}{m a b n1 e:Nat}(h:Eu P m r0 r1 v0 v1 a b)(hb:m+e<=2*b)(hn:Fin0 r1 n1)(h1:2*n1<=m+e+1)(hr:¬Fin0 r1 (e+a)):∀t L,2*t+e<=m->¬IsLoc P m e t L:=
 fun t L h2 h3=>hr (h.all hb hn h1 h2 h3).2.1
theorem co_rev{s:List UInt8}{i:Nat}(h:i<s.length):co s.reverse i=co s (s.length-1-i):=by
 rw[co_lt (by simpa using h),co_lt Zo,List.getElem_reverse]
def keP(s known:List UInt8):Nat->UInt8:=conv (co known) (co s.reverse)
theorem keP_fin(s known:List UInt8):Fin0 (keP s known) (known.length+s.length):=by
 have:=(co_fin known).conv (co_fin s.reverse);rw[List.length_reverse]at this;exact this.mono Zo
def BadK(s known:List UInt8):Prop:=(norm known).length=0∨s.length+1<(norm known).length
def evaL(s known:List UInt8)(t:Nat)(L:Nat->UInt8):List UInt8:=mk (fun i=>conv L (keP s known) (s.length+i)) (t+1+(known.length+s.length))
theorem eva_fin{s known:List UInt8}{t:Nat}{L:Nat->UInt8}(h:Fin0 L (t+1)):Fin0 (fun i=>conv L (keP s known) (s.length+i)) (t+1+(known.length+s.length)):=fun i hi=>
 (h.conv (keP_fin s known)) _ Zo
def KeyAns(s known:List UInt8)(X:Int)(A O:List UInt8):Prop:=
 (BadK s known/\X=1/\A=[]/\O=[])∨
 (¬BadK s known/\∃t L,LeastLoc (keP s known) s.length ((norm known).length-1) t L/\X=0/\A=upto L (t+1)/\O=evaL s known t L)∨
 (¬BadK s known/\(∀t L,2*t+((norm known).length-1)<=s.length->¬IsLoc (keP s known) s.length ((norm known).length-1) t L)/\X=100/\A=[]/\O=[])
theorem KeyAns.unique{s known:List UInt8}{X X':Int}{A A' O O':List UInt8}(h:KeyAns s known X A O)(h':KeyAns s known X' A' O'):X'=X/\A'=A/\O'=O:=by
 rcases h with⟨b,rfl,rfl,rfl⟩|⟨b,t,L,hl,rfl,rfl,rfl⟩|⟨b,hn,rfl,rfl,rfl⟩
 ·rcases h' with⟨b',rfl,rfl,rfl⟩|⟨b',_⟩|⟨b',_⟩
  ·exact⟨rfl,rfl,rfl⟩
  ·exact absurd b b'
  ·exact absurd b b'
 ·rcases h' with⟨b',_⟩|⟨b',t',L',hl',rfl,rfl,rfl⟩|⟨b',hn',_⟩
  ·exact absurd b' b
  ·obtain⟨rfl,rfl⟩:=hl.unique hl';exact⟨rfl,rfl,rfl⟩
  ·exact absurd hl.loc (hn' t L hl.few)
 ·rcases h' with⟨b',_⟩|⟨b',t',L',hl',_⟩|⟨b',_,rfl,rfl,rfl⟩
  ·exact absurd b' b
  ·exact absurd hl'.loc (hn t' L' hl'.few)
  ·exact⟨rfl,rfl,rfl⟩
theorem KeyAns.of_loc{s known:List UInt8}{t:Nat}{L:Nat->UInt8}(b:¬BadK s known)(h:LeastLoc (keP s known) s.length ((norm known).length-1) t L):KeyAns s known 0 (upto L (t+1)) (evaL s known t L):=Or.inr (Or.inl ⟨b,t,L,h,rfl,rfl,rfl⟩)
theorem drop_mk{f:Nat->UInt8}{n n' m:Nat}(hf:Fin0 f n)(hn:Fin0 (fun i=>f (m+i)) n'):(mk f n).drop m=mk (fun i=>f (m+i)) n':=by
 have hd:deg (fun i=>f (m+i)) n'=deg f n-m:=by
  refine deg_unique hn (fun i hi=>deg_fin hf _ Zo) (fun h=>?_)
  show f (m+(deg f n-m-1))≠0
  rw[show m+(deg f n-m-1)=deg f n-1 by omega];exact deg_top f n Zo
 refine co_ext (by rw[List.length_drop,mk_length,mk_length,hd]) fun i hi=>?_
 rw[List.length_drop,mk_length]at hi;have e1:co ((mk f n).drop m) i=co (mk f n) (m+i):=by unfold co;rw[List.getElem?_drop]
 rw[e1,co_mk hf,co_mk hn]
def linF(x:UInt8)(i:Nat):UInt8:=if i=0 then x else if i=1 then 1 else 0
theorem co_lin(x:UInt8):co [x,1]=linF x:=by
 funext i
 rcases i with _|_|i
 ·rfl
 ·rfl
 ·rw[co_ge Zs];unfold linF;rw[if_neg Zo,if_neg Zo]
theorem linF_fin(x:UInt8):Fin0 (linF x) 2:=fun i hi=>by unfold linF;rw[if_neg Zo,if_neg Zo]
theorem lin_conv_zero(x:UInt8)(g:Nat->UInt8):conv (linF x) g 0=mu x (g 0):=by
 show S 1 _=_
 rw[S,S,zero_x];rfl
theorem lin_conv_succ(x:UInt8)(g:Nat->UInt8)(j:Nat):conv (linF x) g (j+1)=mu x (g (j+1))^^^g j:=by
 unfold conv;rw[S_head];congr 1;rw[S_one (k:=0) Zo (fun i _ hi=>by unfold linF;rw[if_neg Zo,if_neg Zo,zero_mu])]
 show mu 1 (g (j+1-(0+1)))=g j
 rw[one_mu];rfl
theorem ev_lin(y x:UInt8):ev 2 (linF y) x=x^^^y:=by
 unfold ev;rw[S,S,S,zero_x]
 show mu y (pwr x 0)^^^mu 1 (pwr x 1)=_
 show mu y 1^^^mu 1 (mu 1 x)=_
 rw[mu_one,one_mu,one_mu,x_comm]
theorem ev_one(x:UInt8):ev 1 (cst 1) x=1:=by
 unfold ev;rw[S,S,zero_x]
 show mu 1 1=1
 rw[one_mu]
def locF(a:Nat->UInt8):Nat->Nat->UInt8
 |0=>cst 1
 |n+1=>conv (locF a n) (linF (a n))
theorem locF_fin(a:Nat->UInt8)(n:Nat):Fin0 (locF a n) (n+1):=by
 induction n with
 |zero=>exact fun i hi=>cst_ne Zo
 |succ n ih=>exact(ih.conv (linF_fin (a n))).mono Zo
theorem locF_top(a:Nat->UInt8)(n:Nat):locF a n n=1:=by
 induction n with
 |zero=>rfl
 |succ n ih=>rw[locF,conv_top (locF_fin a n) (linF_fin (a n)),ih,one_mu];rfl
theorem locF_congr{a b:Nat->UInt8}{n:Nat}(h:∀i,i<n->a i=b i):locF a n=locF b n:=by
 induction n with
 |zero=>rfl
 |succ n ih=>rw[locF,locF,ih (fun i hi=>h i Zo),h n Zo]
theorem locF_append(a:Nat->UInt8)(t n:Nat):locF a (t+n)=conv (locF a t) (locF (fun i=>a (t+i)) n):=by
 induction n with
 |zero=>rw[Nat.add_zero,locF,conv_comm,one_conv];funext j;rw[one_mu]
 |succ n ih=>rw[<-Nat.add_assoc,locF,ih,locF,conv_assoc]
theorem ev_loc(a:Nat->UInt8)(n:Nat)(x:UInt8):ev (n+1) (locF a n) x=PD a n x:=by
 induction n with
 |zero=>exact ev_one x
 |succ n ih=>
  have:=ev_conv x (locF_fin a n) (linF_fin (a n));rw[ev_more x (f:=conv (locF a n) (linF (a n))) (n:=n+1+1) (m:=n+1+2) ((locF_fin a n).conv (linF_fin (a n))|>.mono Zo) Zo]at this;rw[locF,this,ih,ev_lin,mu_comm,PD]
theorem PD_zero{a:Nat->UInt8}{n:Nat}{x:UInt8}:PD a n x=0↔∃i,i<n/\a i=x:=by
 induction n with
 |zero=>exact⟨fun h=>absurd (show(1:UInt8)=0 from h) Zd,fun ⟨i,h,_⟩=>Zo⟩
 |succ n ih=>
  rw[PD,mu_eq_zero,ih];constructor
  ·rintro(h|⟨i,h1,h2⟩)
   ·exact⟨n,Zo,(x_eq_zero.1 h).symm⟩
   ·exact⟨i,Zo,h2⟩
  ·rintro⟨i,h1,h2⟩
   by_cases e:i=n
   ·subst e;exact Or.inl (x_eq_zero.2 h2.symm)
   ·exact Or.inr ⟨i,Zo,h2⟩
def locN(a:Nat->UInt8)(n:Nat):List UInt8:=upto (locF a n) (n+1)
def locL(ps:List UInt8):List UInt8:=locN (co ps) ps.length
theorem co_locN(a:Nat->UInt8)(n:Nat):co (locN a n)=locF a n:=funext fun i=>co_upto (locF_fin a n) i
theorem locN_length(a:Nat->UInt8)(n:Nat):(locN a n).length=n+1:=upto_length _ _
theorem locN_succ(a:Nat->UInt8)(n:Nat):mulP (locN a n) [a n,1]=locN a (n+1):=by
 have e:conv (co (locN a n)) (co [a n,1])=locF a (n+1):=by rw[co_locN,co_lin];rfl
 have hl:(mulP (locN a n) [a n,1]).length=n+2:=by
  unfold mulP;rw[mk_length,e];exact deg_unique ((locF_fin a (n+1)).mono (by rw[locN_length];simp)) (locF_fin a (n+1)) (fun _=>by show locF a (n+1) (n+1)≠0;rw[locF_top];decide)
 refine co_ext (by rw[hl,locN_length]) fun i _=>?_
 rw[co_mulP,e,co_locN]
theorem norm_locN(a:Nat->UInt8)(n:Nat):norm (locN a n)=locN a n:=by
 have hd:deg (co (locN a n)) (locN a n).length=n+1:=by
  rw[co_locN];exact deg_unique ((locF_fin a n).mono (by rw[locN_length];omega)) (locF_fin a n) (fun _=>by show locF a n n≠0;rw[locF_top];decide)
 refine co_ext (by unfold norm;rw[mk_length,hd,locN_length]) fun i _=>?_
 rw[co_norm]
theorem evP_loc(ps:List UInt8)(x:UInt8):evP (locL ps) x=PD (co ps) ps.length x:=by
 unfold evP locL;rw[locN_length,co_locN,ev_loc]
theorem root_div{f:Nat->UInt8}{n:Nat}(h:Fin0 f (n+1))(r:UInt8)(hr:ev (n+1) f r=0):∃g,Fin0 g n/\f=conv (linF r) g:=by
 refine⟨fun i=>S (n+1) (fun k=>if i<k then mu (f k) (pwr r (k-1-i))else 0),fun i hi=>S_zero fun k hk=>if_neg Zo,?_⟩;funext i;cases i with
 |zero=>
  rw[lin_conv_zero,mu_S];have e:S (n+1) (fun k=>mu r (if 0<k then mu (f k) (pwr r (k-1-0))else 0))=S (n+1) (fun k=>mu (f k) (pwr r k)^^^(if k=0 then f 0 else 0)):=S_congr fun k hk=>by
   cases k with
   |zero=>rw[if_neg Zo,if_pos rfl,mu_zero];show 0=mu (f 0) 1^^^f 0;rw[mu_one,x_self]
   |succ k=>rw[if_pos Zo,if_neg Zo,x_zero,Nat.add_sub_cancel,Nat.sub_zero,pwr,mu_left,mu_comm r]
  rw[e,S_xor,S_one (k:=0) Zo (fun k _ hk=>if_neg hk),if_pos rfl]
  have:S (n+1) (fun k=>mu (f k) (pwr r k))=0:=hr
  rw[this,zero_x]
 |succ i=>
  rw[lin_conv_succ,mu_S,<-S_xor];have e:S (n+1) (fun k=>mu r (if i+1<k then mu (f k) (pwr r (k-1-(i+1)))else 0)^^^(if i<k then mu (f k) (pwr r (k-1-i))else 0))=S (n+1) (fun k=>if k=i+1 then f (i+1)else 0):=S_congr fun k hk=>by
   by_cases h1:i+1<k
   ·rw[if_pos h1,if_pos Zo,if_neg Zo,show k-1-i=(k-1-(i+1))+1 by omega,pwr,mu_left,mu_comm r,x_self]
   ·rw[if_neg h1,mu_zero,zero_x]
    by_cases h2:k=i+1
    ·subst h2;rw[if_pos Zo,if_pos rfl,show i+1-1-i=0 by omega];exact mu_one _
    ·rw[if_neg Zo,if_neg h2]
  rw[e]
  by_cases hi:i+1<n+1
  ·rw[S_one (k:=i+1) hi (fun k _ hk=>if_neg hk),if_pos rfl]
  ·rw[h (i+1) Zo];exact(S_zero fun k hk=>if_neg Zo).symm
theorem roots_all{n:Nat}{f:Nat->UInt8}(h:Fin0 f n)(rs:Nat->UInt8)(hd:∀i j,i<n->j<n->i≠j->rs i≠rs j)(hr:∀i,i<n->ev n f (rs i)=0):∀i,f i=0:=by
 induction n generalizing f with
 |zero=>exact fun i=>h i Zz
 |succ n ih=>
  obtain⟨g,hg,e⟩:=root_div h (rs n) (hr n Zo);have h0:=ih hg (fun i j hi hj=>hd i j Zo Zo) (fun i hi=>by
   have h1:=hr i Zo;have h2:=ev_conv (rs i) (linF_fin (rs n)) hg;rw[<-e,ev_more (rs i) h (show n+1<=2+n by omega),h1,ev_lin]at h2
   rcases mu_eq_zero.1 h2.symm with h3|h3
   ·exact absurd (x_eq_zero.1 h3) (hd i n Zo Zo Zo)
   ·exact h3)
  intro i;rw[e];exact conv_zero h0 i
def peF(a:Nat->UInt8)(j:Nat):Nat->Nat->UInt8
 |0=>cst 1
 |n+1=>if n=j then peF a j n else conv (peF a j n) (linF (a n))
theorem peF_fin(a:Nat->UInt8)(j n:Nat):(n<=j->Fin0 (peF a j n) (n+1))/\(j<n->Fin0 (peF a j n) n):=by
 induction n with
 |zero=>exact⟨fun _ i hi=>cst_ne Zo,fun h=>Zo⟩
 |succ n ih=>
  refine⟨fun h=>?_,fun h=>?_⟩
  ·rw[peF,if_neg Zo];exact((ih.1 Zo).conv (linF_fin (a n))).mono Zo
  ·rw[peF]
   by_cases e:n=j
   ·rw[if_pos e];exact ih.1 Zo
   ·rw[if_neg e];exact((ih.2 Zo).conv (linF_fin (a n))).mono Zo
theorem peF_far(a:Nat->UInt8)(j n:Nat)(h:n<=j):peF a j n=locF a n:=by
 induction n with
 |zero=>rfl
 |succ n ih=>rw[peF,if_neg Zo,ih Zo,locF]
theorem peF_mul(a:Nat->UInt8){j n:Nat}(h:j<n):locF a n=conv (peF a j n) (linF (a j)):=by
 induction n with
 |zero=>omega
 |succ n ih=>
  by_cases e:n=j
  ·subst e;rw[peF,if_pos rfl,peF_far a n n Zr,locF]
  ·rw[peF,if_neg e,locF,ih Zo,conv_assoc,conv_assoc,conv_comm (linF (a j))]
theorem ev_pe(a:Nat->UInt8)(j n:Nat)(x:UInt8):ev (n+1) (peF a j n) x=PE a j n x:=by
 induction n with
 |zero=>exact ev_one x
 |succ n ih=>
  have hf:Fin0 (peF a j n) (n+1):=by
   rcases Nat.lt_or_ge j n with h|h
   ·exact((peF_fin a j n).2 h).mono Zo
   ·exact(peF_fin a j n).1 h
  rw[peF,PE]
  by_cases e:n=j
  ·rw[if_pos e,if_pos e,ev_more x hf Zo,ih]
  ·rw[if_neg e,if_neg e];have:=ev_conv x hf (linF_fin (a n));rw[ev_more x (f:=conv (peF a j n) (linF (a n))) (n:=n+1+1) (m:=n+1+2) ((hf.conv (linF_fin (a n))).mono Zo) Zo]at this;rw[this,ih,ev_lin,mu_comm]
theorem ev_pe'{a:Nat->UInt8}{j n:Nat}(h:j<n)(x:UInt8):ev n (peF a j n) x=PE a j n x:=by
 rw[<-ev_pe];exact(ev_more x ((peF_fin a j n).2 h) Zo).symm
theorem der_lin(x:UInt8):der (linF x)=cst 1:=by
 funext i;cases i with
 |zero=>rfl
 |succ i=>
  unfold der;rw[linF_fin x (i+1+1) Zo,cst_ne Zo];unfold od;split<;>rfl
theorem ev_der{a:Nat->UInt8}{j n:Nat}(h:j<n):ev (n+2) (der (locF a n)) (a j)=PE a j n (a j):=by
 have hf:=(peF_fin a j n).2 h;rw[peF_mul a h,der_conv,der_lin,conv_comm (peF a j n) (cst 1),one_conv,ev_add];have e1:ev (n+2) (conv (der (peF a j n)) (linF (a j))) (a j)=0:=by
  rw[ev_conv (a j) (hf.der.mono Zo) (linF_fin (a j)),ev_lin,x_self,mu_zero]
 have e2:ev (n+2) (fun i=>mu 1 (peF a j n i)) (a j)=ev (n+2) (peF a j n) (a j):=S_congr fun i _=>by show mu (mu 1 _) _=_;rw[one_mu]
 rw[e1,e2,zero_x,ev_more (a j) hf Zo,ev_pe' h]
def syP(a bv:Nat->UInt8)(N l:Nat):UInt8:=S N (fun i=>mu (bv i) (pwr (a i) l))
def geoF(x:UInt8)(m j:Nat):UInt8:=if j<m then pwr x (m-1-j)else 0
theorem lin_geo(x:UInt8)(m j:Nat):conv (linF x) (geoF x m) j=(if j=m then 1 else 0)^^^(if j=0 then pwr x m else 0):=by
 cases j with
 |zero=>
  rw[lin_conv_zero,if_pos rfl];unfold geoF;cases m with
  |zero=>rw[if_neg Zo,if_pos rfl,mu_zero];exact(x_self 1).symm
  |succ m=>rw[if_pos Zo,if_neg Zo,zero_x,Nat.add_sub_cancel,Nat.sub_zero,pwr,mu_comm]
 |succ j=>
  rw[lin_conv_succ,if_neg (show ¬j+1=0 by omega),x_zero];unfold geoF
  by_cases h1:j+1<m
  ·rw[if_pos h1,if_pos Zo,if_neg Zo,show m-1-j=(m-1-(j+1))+1 by omega,pwr,mu_comm,x_self]
  ·rw[if_neg h1,mu_zero,zero_x]
   by_cases h2:j+1=m
   ·rw[if_pos Zo,if_pos h2,show m-1-j=0 by omega];rfl
   ·rw[if_neg Zo,if_neg h2]
theorem conv_Sum(f:Nat->UInt8)(n:Nat)(G:Nat->Nat->UInt8)(j:Nat):conv f (fun i=>S n (fun k=>G k i)) j=S n (fun k=>conv f (G k) j):=by
 unfold conv;rw[<-S_swap];exact S_congr fun i _=>mu_S _ _ _
theorem loc_turn{a bv:Nat->UInt8}{N m:Nat}(j:Nat):conv (locF a N) (fun i=>S N (fun k=>mu (bv k) (geoF (a k) m i))) j=S N (fun k=>mu (bv k) (shF m (peF a k N) j^^^mu (pwr (a k) m) (peF a k N j))):=by
 rw[conv_Sum];refine S_congr fun k hk=>?_
 rw[conv_smul]
 show mu (bv k) (conv (locF a N) (geoF (a k) m) j)=_
 congr 1;have e:conv (linF (a k)) (geoF (a k) m)=addF (shF m (cst 1)) (cst (pwr (a k) m)):=by
  funext i;rw[lin_geo,addF_at];congr 1
  by_cases h:m<=i
  ·rw[shF_ge h]
   by_cases h2:i=m
   ·rw[if_pos h2,h2,Nat.sub_self,cst_zero]
   ·rw[if_neg h2,cst_ne Zo]
  ·rw[shF_low Zo,if_neg Zo]
 rw[peF_mul a hk,conv_assoc,e,conv_add,addF_at,conv_shF,conv_comm _ (cst 1),one_conv,conv_comm _ (cst (pwr (a k) m)),one_conv];congr 1;unfold shF
 split
 ·exact one_mu _
 ·rfl
theorem ev_eq{f:Nat->UInt8}{n m:Nat}(x:UInt8)(h:Fin0 f n)(k:Fin0 f m):ev n f x=ev m f x:=by
 rw[<-ev_more x h (show n<=n+m by omega),<-ev_more x k (show m<=n+m by omega)]
def lowF(m:Nat)(f:Nat->UInt8)(j:Nat):UInt8:=if j<m then f j else 0
def higF(m:Nat)(f:Nat->UInt8)(j:Nat):UInt8:=f (m+j)
theorem low_hig(m:Nat)(f:Nat->UInt8):f=addF (lowF m f) (shF m (higF m f)):=by
 funext j;rw[addF_at]
 by_cases h:j<m
 ·rw[shF_low h,x_zero];exact(if_pos h).symm
 ·rw[shF_ge Zo];unfold lowF higF;rw[if_neg h,zero_x,show m+(j-m)=j by omega]
theorem IsLoc.low{P:Nat->UInt8}{m e t:Nat}{L:Nat->UInt8}(h:IsLoc P m e t L):Fin0 (lowF m (conv L P)) (e+t):=fun j hj=>by
 unfold lowF
 by_cases h1:j<m
 ·rw[if_pos h1];exact h.zero j hj h1
 ·exact if_neg h1
theorem loc_cross{P:Nat->UInt8}{m e t t':Nat}{L L':Nat->UInt8}(h:IsLoc P m e t L)(h':IsLoc P m e t' L')(hm:t+t'+e<=m):conv L (higF m (conv L' P))=conv L' (higF m (conv L P)):=by
 have e0:conv L (conv L' P)=conv L' (conv L P):=conv_left _ _ _;rw[low_hig m (conv L' P),low_hig m (conv L P),conv_add,conv_add,conv_shF,conv_shF]at e0;funext p;have:=congrFun e0 (p+m);rw[addF_at,addF_at,shF_high,shF_high,(h.fin.conv h'.low) _ Zo,(h'.fin.conv h.low) _ Zo,zero_x,zero_x]at this;rw[low_hig m (conv L' P),low_hig m (conv L P)];have e1:∀f:Nat->UInt8,higF m (addF (lowF m f) (shF m (higF m f)))=higF m f:=fun f=>by rw[<-low_hig]
 rw[e1,e1];exact this
section
variable {a bv:Nat->UInt8} {t e m:Nat}
def tuF(a bv:Nat->UInt8)(N m:Nat)(i:Nat):UInt8:=S N (fun k=>mu (bv k) (geoF (a k) m i))
def omF(a bv:Nat->UInt8)(N:Nat)(p:Nat):UInt8:=S N (fun k=>mu (bv k) (peF a k N p))
theorem om_fin(a bv:Nat->UInt8)(N:Nat):Fin0 (omF a bv N) N:=fun p hp=>S_zero fun k hk=>by rw[(peF_fin a k N).2 hk p hp,mu_zero]
theorem om_at{N j:Nat}(hj:j<N):ev N (omF a bv N) (a j)=mu (bv j) (PE a j N (a j)):=by
 have e1:ev N (omF a bv N) (a j)=S N (fun k=>mu (bv k) (ev N (peF a k N) (a j))):=by
  unfold ev omF;rw[S_congr (fun i _=>S_mu _ _ _),S_swap];refine S_congr fun k _=>?_
  rw[mu_S];exact S_congr fun i _=>mu_assoc _ _ _
 rw[e1,S_one hj (fun k hk hne=>by rw[ev_pe' hk,PE_other a hj (fun h=>hne h.symm),mu_zero]),ev_pe' hj]
theorem tu_loc(hm:2*t+e<=m)(j:Nat)(h1:t+e<=j)(h2:j<m):conv (locF a (t+e)) (tuF a bv (t+e) m) j=0:=by
 have:=loc_turn (a:=a) (bv:=bv) (N:=t+e) (m:=m) j;unfold tuF;rw[this];exact S_zero fun k hk=>by rw[shF_low h2,(peF_fin a k (t+e)).2 hk j h1,mu_zero,zero_x,mu_zero]
theorem tu_om(hm:2*t+e<=m):higF m (conv (locF a (t+e)) (tuF a bv (t+e) m))=omF a bv (t+e):=by
 funext p;have:=loc_turn (a:=a) (bv:=bv) (N:=t+e) (m:=m) (m+p);unfold higF tuF;rw[this];exact S_congr fun k hk=>by rw[shF_ge Zo,Nat.add_sub_cancel_left,(peF_fin a k (t+e)).2 hk (m+p) Zo,mu_zero,x_zero]
theorem find_least(hm:2*t+e<=m)(hd:∀i j,i<t+e->j<t+e->i≠j->a i≠a j)(hb:∀i,i<t->bv i≠0):
  LeastLoc (conv (locF (fun i=>a (t+i)) e) (tuF a bv (t+e) m)) m e t (locF a t):=by
 have hW:conv (locF a t) (conv (locF (fun i=>a (t+i)) e) (tuF a bv (t+e) m))=conv (locF a (t+e)) (tuF a bv (t+e) m):=by rw[<-conv_assoc,<-locF_append]
 have hL:IsLoc (conv (locF (fun i=>a (t+i)) e) (tuF a bv (t+e) m)) m e t (locF a t):=
  ⟨locF_fin a t,locF_top a t,fun j h1 h2=>by rw[hW];exact tu_loc hm j Zo h2⟩
 --each locator has the points as roots
 have root:∀t' L',t'<=t->IsLoc (conv (locF (fun i=>a (t+i)) e) (tuF a bv (t+e) m)) m e t' L'->∀j,j<t->ev (t'+1) L' (a j)=0:=fun t' L' htt h' j hj=>by
  have c:=loc_cross hL h' Zo;rw[hW,tu_om hm]at c;obtain⟨n,hn⟩:∃n,Fin0 (higF m (conv L' (conv (locF (fun i=>a (t+i)) e) (tuF a bv (t+e) m)))) n:=by
   have hT:Fin0 (tuF a bv (t+e) m) m:=fun i hi=>S_zero fun k _=>by unfold geoF;rw[if_neg Zo,mu_zero]
   exact⟨t'+1+(e+1+m),fun i hi=>(h'.fin.conv ((locF_fin (fun i=>a (t+i)) e).conv hT)) (m+i) Zo⟩
  have e1:=ev_conv (a j) (locF_fin a t) hn;have e2:=ev_conv (a j) h'.fin (om_fin a bv (t+e));rw[ev_loc,PD_zero.2 ⟨j,hj,rfl⟩,zero_mu]at e1;rw[om_at Zo]at e2;have e3:ev (t+1+n) (conv (locF a t) (higF m (conv L' (conv (locF (fun i=>a (t+i)) e) (tuF a bv (t+e) m))))) (a j)=ev (t'+1+(t+e)) (conv L' (omF a bv (t+e))) (a j):=by
   rw[<-c];exact ev_eq (a j) (((locF_fin a t).conv hn).mono Zo) (by rw[c];exact(h'.fin.conv (om_fin a bv (t+e))).mono Zo)
  rw[e1,e2]at e3
  rcases mu_eq_zero.1 e3.symm with h0|h0
  ·exact h0
  ·rcases mu_eq_zero.1 h0 with h0|h0
   ·exact absurd h0 (hb j hj)
   ·exact absurd h0 (PE_own a j (t+e) fun l hl hne h=>hd j l Zo hl (fun x=>hne x.symm) (x_eq_zero.1 h))
 refine⟨hL,hm,fun t' L' h1 h2=>?_,fun L' h2=>?_⟩
 ·rcases Nat.lt_or_ge t' t with h|h
  ·have:=roots_all h2.fin a (fun i j hi hj=>hd i j Zo Zo) (fun i hi=>root t' L' Zo h2 i Zo) t';rw[h2.top]at this;cases this
  ·exact h
 ·have hD:Fin0 (addF L' (locF a t)) t:=fun i hi=>by
   rw[addF_at]
   by_cases e0:i=t
   ·rw[e0,h2.top,locF_top,x_self]
   ·rw[h2.fin i Zo,locF_fin a t i Zo,x_self]
  have:=roots_all hD a (fun i j hi hj=>hd i j Zo Zo) (fun i hi=>by
   rw[<-ev_more (a i) hD (show t<=t+1 by omega),ev_add,root t L' Zr h2 i hi,ev_loc,PD_zero.2 ⟨i,hi,rfl⟩];rfl)
  funext i;exact x_eq_zero.1 (this i)
end
section
variable {s pts ks bs zs:List UInt8}
def SyOf(s pts ks bs zs:List UInt8):Prop:=∀l,l<s.length->co s l=syP (co (pts++ks)) (co (bs++zs)) (pts.length+ks.length) l
theorem find_keP(hs:SyOf s pts ks bs zs):keP s (locL ks)=conv (locF (fun i=>co (pts++ks) (pts.length+i)) ks.length) (tuF (co (pts++ks)) (co (bs++zs)) (pts.length+ks.length) s.length):=by
 unfold keP;have e1:co (locL ks)=locF (fun i=>co (pts++ks) (pts.length+i)) ks.length:=by
  unfold locL;rw[co_locN];exact locF_congr fun i hi=>by rw[co_append_ge Zo,Nat.add_sub_cancel_left]
 have e2:co s.reverse=tuF (co (pts++ks)) (co (bs++zs)) (pts.length+ks.length) s.length:=by
  funext i;unfold tuF
  by_cases h:i<s.length
  ·rw[co_rev h,hs _ Zo];exact S_congr fun k _=>by unfold geoF;rw[if_pos h]
  ·rw[co_ge (by rw[List.length_reverse];omega)];exact(S_zero fun k _=>by unfold geoF;rw[if_neg h,mu_zero]).symm
 rw[e1,e2]
theorem find_norm(ks:List UInt8):(norm (locL ks)).length=ks.length+1:=by unfold locL;rw[norm_locN,locN_length]
theorem find_loc(pts ks:List UInt8):upto (locF (co (pts++ks)) pts.length) (pts.length+1)=locL pts:=by
 unfold locL locN;rw[locF_congr fun i hi=>co_append_lt hi]
theorem find_ok(hs:SyOf s pts ks bs zs)(hm:2*pts.length+ks.length<=s.length)(hb:bs.length=pts.length)
  (hd:∀i j,i<pts.length+ks.length->j<pts.length+ks.length->i≠j->co (pts++ks) i≠co (pts++ks) j) (h0:∀i,i<pts.length->co bs i≠0):
  KeyAns s (locL ks) 0 (locL pts) (evaL s (locL ks) pts.length (locF (co (pts++ks)) pts.length)):=by
 have hl:=find_least (bv:=co (bs++zs)) hm hd (fun i hi=>by rw[co_append_lt Zo];exact h0 i hi);have nb:¬BadK s (locL ks):=by unfold BadK;rw[find_norm];omega
 have:=KeyAns.of_loc (t:=pts.length) (L:=locF (co (pts++ks)) pts.length) nb (by rw[find_norm,Nat.add_sub_cancel,find_keP hs];exact hl);rw[find_loc]at this;exact this
theorem find_der(pts ks:List UInt8){j:Nat}(hj:j<pts.length+ks.length):
  evP (derP (mulP (locL pts) (locL ks))) (co (pts++ks) j)=PE (co (pts++ks)) j (pts.length+ks.length) (co (pts++ks) j):=by
 have e1:co (mulP (locL pts) (locL ks))=locF (co (pts++ks)) (pts.length+ks.length):=by
  rw[co_mulP];unfold locL;rw[co_locN,co_locN,locF_append];congr 1
  ·exact locF_congr fun i hi=>(co_append_lt hi).symm
  ·exact locF_congr fun i hi=>by rw[co_append_ge Zo,Nat.add_sub_cancel_left]
 rw[<-ev_der hj];unfold evP;have e2:=co_derP (mulP (locL pts) (locL ks));rw[e1]at e2;rw[e2];exact ev_eq _ (by rw[<-e2];exact co_fin _) ((locF_fin _ _).der.mono Zo)
theorem find_ne(hd:∀i j,i<pts.length+ks.length->j<pts.length+ks.length->i≠j->co (pts++ks) i≠co (pts++ks) j){j:Nat}(hj:j<pts.length+ks.length):
  PE (co (pts++ks)) j (pts.length+ks.length) (co (pts++ks) j)≠0:=
 PE_own _ j _ fun l hl hne h=>hd j l hj hl (fun x=>hne x.symm) (x_eq_zero.1 h)
end
open Go.RowKit
def MakesK(w:World)(s known:List UInt8)(e:Ending)(w':World):Prop:=
 ∃X A O va vo,KeyAns s known X A O/\e= .returned (.tuple #[va,vo,.int .i64 X])/\Rd w' va A/\Rd w' vo O/\Below w.heap.size w w'
theorem MakesK.mk{w w':World}{s known A O:List UInt8}{X:Int}{va vo:Value}(h:KeyAns s known X A O)(h1:Rd w' va A)(h2:Rd w' vo O)(h3:Below w.heap.size w w'):MakesK w s known (.returned (.tuple #[va,vo,.int .i64 X])) w':=⟨X,A,O,va,vo,h,rfl,h1,h2,h3⟩
theorem rd9_nil(w:World):Rd w (.slice none 0 0) []:=Or.inl ⟨none,0,rfl,rfl,Zz,fun _=>rfl⟩
def MakesV(w:World)(p:List UInt8)(e:Ending)(w':World):Prop:=∃v,e= .returned v/\Rd w' v p/\Below w.heap.size w w'
def revF(s:List UInt8)(i:Nat):UInt8:=co s (s.length-1-i)
theorem rev_upto(s:List UInt8):upto (revF s) s.length=s.reverse:=by
 refine co_ext (by rw[upto_length,List.length_reverse]) fun i hi=>?_
 rw[upto_length]at hi;rw[upto,co_map_range _ hi,co_rev hi];rfl
def tnF(s:List UInt8)(i j:Nat):UInt8:=if s.length-i<=j then revF s j else 0
theorem tnF_zero(s:List UInt8){j:Nat}(h:j<s.length):tnF s 0 j=0:=if_neg Zo
theorem tnF_step(s:List UInt8){i:Nat}(h:i<s.length)(j:Nat):tnF s (i+1) j=if j=s.length-1-i then co s i else tnF s i j:=by
 unfold tnF
 by_cases e:j=s.length-1-i
 ·rw[if_pos e,if_pos Zo];unfold revF;rw[e,show s.length-1-(s.length-1-i)=i by omega]
 ·rw[if_neg e]
  by_cases h2:s.length-i<=j
  ·rw[if_pos h2,if_pos Zo]
  ·rw[if_neg h2,if_neg Zo]
theorem tnF_all(s:List UInt8):upto (tnF s s.length) s.length=s.reverse:=by
 rw[<-rev_upto];exact upto_congr fun j hj=>if_pos Zo
theorem Rd.behind{w:World}{b off n c m k:Nat}{p:List UInt8}(h:Rd w (.slice (some ⟨b,off,none⟩) n c) p)(hm:m<p.length)(hk:k=p.length-m):Rd w (.slice (some ⟨b,off+m,none⟩) k (c-m)) (p.drop m):=by
 rcases h with⟨a,c',e,_⟩|⟨b',off',c',h1,h2,h3,h4,h5,h6⟩
 ·subst e;simp at hm
 ·simp at h2;obtain⟨⟨rfl,rfl⟩,rfl,rfl⟩:=h2;subst hk;have hl:(p.drop m).length=p.length-m:=List.length_drop;refine Or.inr ⟨b,off+m,c-m,fun e=>by rw[e]at hl;simp at hl;omega,by rw[hl],by rw[hl];omega,Zo,h5,fun i hi=>?_⟩;rw[hl]at hi;have e1:co (p.drop m) i=co p (m+i):=by unfold co;rw[List.getElem?_drop]
  rw[e1,Nat.add_assoc];exact h6 (m+i) Zo
theorem Rd.spot9{w:World}{v:Value}{p:List UInt8}(h:Rd w v p)(h0:0<p.length):∃b off c,v= .slice (some ⟨b,off,none⟩) p.length c/\p.length<=c/\c<=maxLen:=by
 rcases h with⟨a,c',e,_⟩|⟨b',off',c',h1,h2,h3,h4,h5,h6⟩
 ·subst e;simp at h0
 ·exact⟨b',off',c',h2,h3,h4⟩
structure EuL(s known:List UInt8)(e:Nat)(r0 r1 v0 v1:List UInt8):Prop where
 eu:∃a b,Eu (keP s known) s.length (co r0) (co r1) (co v0) (co v1) a b/\s.length+e<=2*b/\v1.length=a+1/\r0.length=b+1
 n1:norm r1=r1
 m1:norm v1=v1
theorem norm_tops{p:List UInt8}(h:norm p=p)(h0:p.length≠0):co p (p.length-1)≠0:=by
 have hl:p.length=deg (co p) p.length:=by
  have:=congrArg List.length h;unfold norm at this;rw[mk_length]at this;exact this.symm
 have:=deg_top (co p) p.length (by rw[<-hl];exact h0);rwa[<-hl]at this
theorem EuL.start{s known r1 x:List UInt8}{e:Nat}(he:e<=s.length)(hx:∀i,co x i=if i=s.length then 1 else 0)(hxl:x.length=s.length+1)(hr:∀j,j<s.length->co r1 j=keP s known j)(hrl:r1.length<=s.length)(hn:norm r1=r1):EuL s known e x r1 [] [1]:=by
 refine⟨⟨0,s.length,?_,Zo,rfl,hxl⟩,hn,by decide+kernel⟩;have h:=Eu.start (P:=keP s known) (r1:=co r1) (m:=s.length) (fun j hj=>(hr j hj).symm) ((co_fin r1).mono hrl);have e1:co x=fun i=>if i=s.length then 1 else 0:=funext hx
 have e2:co []=fun _=>(0:UInt8):=funext co_nil
 have e3:co [1]=cst 1:=by
  funext j;cases j with
  |zero=>rfl
  |succ j=>rw[cst_ne Zo];rfl
 rw[e1,e2,e3];exact h
theorem EuL.step{s known r0 r1 v0 v1 q r:List UInt8}{e:Nat}(h:EuL s known e r0 r1 v0 v1)(hb:s.length+e+2<=2*r1.length)(hd:IsDiv r0 r1 q r):EuL s known e r1 r v1 (addP v0 (mulP q v1)):=by
 obtain⟨a,b,eu,h2,ha,hb0⟩:=h.eu;have hne:r1.length≠0:=Zo
 have ht:=norm_tops h.n1 hne;have hf:Fin0 (co r1) (r1.length-1+1):=by rw[show r1.length-1+1=r1.length by omega];exact co_fin r1
 have hdb:r1.length-1<b:=by
  rcases Nat.lt_or_ge (r1.length-1) b with h|h
  ·exact h
  ·exact absurd (eu.g1 _ h) ht
 have hless:=hd.less;rw[h.n1]at hless
 --the quotient's length
 have hqf:Fin0 (co q) (b-(r1.length-1)+1):=by
  have hq:=co_fin q
  by_cases hq0:q.length=0
  ·exact hq.mono Zo
  ·have hqt:=norm_tops hd.ns hq0;have htop:=conv_top (f:=co q) (g:=co r1) (n:=q.length-1) (m:=r1.length-1) (by rw[show q.length-1+1=q.length by omega];exact hq) hf
   rcases Nat.lt_or_ge b (q.length-1+(r1.length-1))with hlt|hge
   ·have e1:=hd.eqn (q.length-1+(r1.length-1));rw[eu.g0 _ Zo,htop,co_ge (p:=r) Zo,x_zero]at e1;exact absurd e1.symm (mu_ne hqt ht)
   ·exact hq.mono Zo
 have st:=eu.step hf ht hd.eqn hqf ((co_fin r).mono Zo);have e1:co (addP v0 (mulP q v1))=addF (co v0) (conv (co q) (co v1)):=by rw[co_addP,co_mulP]
 have hl:(addP v0 (mulP q v1)).length=a+(b-(r1.length-1))+1:=by
  unfold addP;rw[mk_length];refine deg_unique (fin_add _ _) ?_ (fun _=>?_)
  ·rw[co_mulP];exact st.f1
  ·rw[co_mulP];exact st.t1
 refine⟨⟨a+(b-(r1.length-1)),r1.length-1,?_,Zo,hl,Zo⟩,hd.nr,norm_mk (fin_add _ _)⟩;rw[e1];exact st
theorem EuL.least{s known r0 r1 v0 v1:List UInt8}{e:Nat}(h:EuL s known e r0 r1 v0 v1)(h1:2*r1.length<=s.length+e+1)(hr:r1.length<=e+(v1.length-1)):
  v1.length≠0/\co v1 (v1.length-1)≠0/\LeastLoc (keP s known) s.length e (v1.length-1) (fun j=>mu (iv (co v1 (v1.length-1))) (co v1 j)):=by
 obtain⟨a,b,eu,h2,ha,hb0⟩:=h.eu;have ea:v1.length-1=a:=Zo
 rw[ea]at hr ⊢;exact⟨Zo,eu.t1,eu.least h2 (co_fin r1) h1 ((co_fin r1).mono hr)⟩
theorem EuL.none{s known r0 r1 v0 v1:List UInt8}{e:Nat}(h:EuL s known e r0 r1 v0 v1)(h1:2*r1.length<=s.length+e+1)(hr:e+(v1.length-1)<r1.length):∀t L,2*t+e<=s.length->¬IsLoc (keP s known) s.length e t L:=by
 obtain⟨a,b,eu,h2,ha,hb0⟩:=h.eu;refine eu.none h2 (co_fin r1) h1 fun hf=>?_
 have ea:v1.length-1=a:=Zo
 rw[ea]at hr;exact norm_tops h.n1 Zo (hf _ Zo)
theorem EuL.fac{s known r0 r1 v0 v1:List UInt8}{e:Nat}(h:EuL s known e r0 r1 v0 v1):1<=v1.length/\v1.length<=s.length+1/\r0.length<=s.length+1/\r1.length<r0.length/\2*v1.length+e<=s.length+2:=by
 obtain⟨a,b,eu,h2,ha,hb0⟩:=h.eu;have:=eu.sum;refine⟨Zo,Zo,Zo,?_,Zo⟩
 rcases Nat.lt_or_ge r1.length r0.length with h9|h9
 ·exact h9
 ·exact absurd (eu.g1 _ Zo) (norm_tops h.n1 Zo)
theorem mul_top{v:List UInt8}(h:v.length≠0)(ht:co v (v.length-1)≠0):mulP v [iv (co v (v.length-1))]=upto (fun j=>mu (iv (co v (v.length-1))) (co v j)) (v.length-1+1):=by
 obtain⟨c,hc⟩:∃c,c=iv (co v (v.length-1)):=⟨_,rfl⟩;have hc0:c≠0:=fun e=>by
  have:=mu_iv ht;rw[<-hc,e,mu_zero]at this;cases this
 rw[<-hc];have e3:co [c]=cst c:=by
  funext j;cases j with
  |zero=>rfl
  |succ j=>rw[cst_ne Zo];rfl
 have e4:conv (co v) (co [c])=fun j=>mu c (co v j):=by rw[e3,conv_comm,one_conv]
 have hf:Fin0 (fun j=>mu c (co v j)) v.length:=fun i hi=>by show mu c (co v i)=0;rw[co_ge hi,mu_zero]
 have hl:(mulP v [c]).length=v.length:=by
  unfold mulP;rw[mk_length,e4];exact deg_unique (hf.mono Zo) hf (fun _=>mu_ne hc0 ht)
 refine co_ext (by rw[hl,upto_length];omega) fun i hi=>?_
 rw[hl]at hi;rw[co_mulP,e4,upto,co_map_range _ Zo]
def xpF(n i:Nat):UInt8:=if i=n then 1 else 0
def xpL(n:Nat):List UInt8:=upto (xpF n) (n+1)
theorem xpL_length(n:Nat):(xpL n).length=n+1:=upto_length _ _
theorem co_xpL(n i:Nat):co (xpL n) i=if i=n then 1 else 0:=co_upto (fun i hi=>if_neg Zo) i
theorem kpow_any{w:World}{n:Nat}(hn:n<=1000){x:Int}(hx:x=(n:Int)):Calls Tryz.prog 218 #[.int .i64 x] w (MakesF w (xpL n)):=by
 subst hx;obtain⟨i0,hi,hz0,hz1,hz2⟩:=info_parts info_u8
 go_enter Tryz.func218,Tryz.ntmps218
 obtain⟨m,hm⟩:∃m,Hid (m=n+1):=⟨_,rfl⟩;have g0:(n:Int)+1=(m:Int):=by have:=hm.out;omega
 have hnm:n<m:=by have:=hm.out;omega
 have hm1:m<=1001:=by have:=hm.out;omega
 have gw:IntKind.i64.wrap (m:Int)=(m:Int):=Zw
 go_wp2_with (at_make;go_loud (refine wpList_make_full _ rfl (.tmp 5) (.tmp 5) 36 rfl w.heap.size 5 i0 (.int .u8 0) 1 Tryz.underlying36 hi hz0 hz1 _ _ _ _ m rfl rfl Zo Zo (by rw[hz2];omega) Zl Zr ?_);intro w1 hown1 hgrow1;have R1:=RowF.made hown1;have c1:=R1.cell hnm;have f1:=R1.unfrozen n)
 have B1:Below w.heap.size w w1:=Zf.grown hgrow1 Zr (fun k h=>by cases h);clear hown1 hgrow1;have HN:Hid (RowF (w1.setCell ⟨w.heap.size,n,none⟩ (.int .u8 1)) w.heap.size 5 w.heap.size m m (xpF n)):=R1.store hnm 1 (fun s=>rfl);have HB:Hid (Below w.heap.size w (w1.setCell ⟨w.heap.size,n,none⟩ (.int .u8 1))):=B1.setCell (p:=⟨w.heap.size,n,none⟩) Zr _;clear R1 B1;go_ret;exact⟨_,rfl,by have:=HN.out.rd;rw[hm.out]at this;rw[hm.out];exact this,HB.out,far_some Zr⟩
theorem kturn_any{w:World}{v:Value}{s:List UInt8}(hs:Rd w v s)(hl:s.length<=1000):Calls Tryz.prog 195 #[v] w (MakesF w s.reverse):=by
 obtain⟨i0,hi,hz0,hz1,hz2⟩:=info_parts info_u8;obtain⟨a,c,rfl⟩:=hs.form;obtain⟨m,hm⟩:∃m,Hid (m=s.length):=⟨_,rfl⟩;rw[<-hm.out]at hs hl ⊢
 go_enter Tryz.func195,Tryz.ntmps195
 go_wp2_with (at_make;go_loud (refine wpList_make_full _ rfl (.tmp 7) (.tmp 7) 36 rfl w.heap.size 5 i0 (.int .u8 0) 1 Tryz.underlying36 hi hz0 hz1 _ _ _ _ m rfl rfl Zo Zo (by rw[hz2];omega) Zl Zr ?_);intro w1 hown1 hgrow1)
 have R1:Hid (RowF w1 w.heap.size 5 w.heap.size m m (fun _=>0)):=RowF.made hown1;have B1:Hid (Below w.heap.size w w1):=Zf.grown hgrow1 Zr (fun k h=>by cases h);clear hown1 hgrow1;go_wp2
 go_loopw [11] (fun v wr=>∃i:Nat,i<=m/\v= .int .i64 i/\RowF wr w.heap.size 5 w.heap.size m m (tnF s i)/\Below w.heap.size w wr) (fun v _=>m-(intOf v).toNat)
 case atStart=>exact⟨0,Zo,rfl,R1.out.congr fun j hj=>(tnF_zero s (by rw[<-hm.out];exact hj)).symm,B1.out⟩
 case round=>
  obtain⟨i,hi9,rfl,hR,hB⟩:=hrel;clear R1 B1
  by_cases hlt:i<m
  ·have hlt':(i:Int)<(m:Int):=by omega
   obtain⟨d,hd⟩:∃d,Hid (d=m-1-i):=⟨_,rfl⟩;have gd:(m:Int)-1-(i:Int)=(d:Int):=by have:=hd.out;omega
   have hdm:d<m:=by have:=hd.out;omega
   have hdm':(d:Int)<(m:Int):=Zo
   have gw1:IntKind.i64.wrap ((m:Int)-1)=(m:Int)-1:=Zw
   have gw2:IntKind.i64.wrap (d:Int)=(d:Int):=Zw
   obtain⟨sb,so,es,_,cs⟩:=(hs.below hB).byte (i:=i) (by rw[<-hm.out];exact hlt);subst es;have c1:=hR.cell hdm;have f1:=hR.unfrozen d;have HN:Hid (RowF (World.setCell wr ⟨w.heap.size,d,none⟩ (.int .u8 ((co s i).toNat:Nat))) w.heap.size 5 w.heap.size m m (tnF s (i+1))):=hR.store hdm _ (fun j=>by rw[tnF_step s (by rw[<-hm.out];exact hlt),<-hm.out,<-hd.out]);have HB:Hid (Below w.heap.size w (World.setCell wr ⟨w.heap.size,d,none⟩ (.int .u8 ((co s i).toNat:Nat)))):=hB.setCell (p:=⟨w.heap.size,d,none⟩) Zr _;clear hR hB hs;go_wp2;go_roundw
   case rel=>exact⟨i+1,Zo,Zg,HN.out,HB.out⟩
   case measure=>simp[intOf];omega
  ·have hge:¬(i:Int)<(m:Int):=by omega
   have ei:i=m:=Zo
   have Rt:Hid (Rd wr (.slice (some ⟨w.heap.size,0,none⟩) m m) s.reverse):=by
    show Rd _ _ _
    rw[<-tnF_all,<-hm.out,<-ei];have:=hR.rd;rw[ei]at this ⊢;exact this
   clear ei hR hs;go_wp2;go_ret;exact⟨_,rfl,Rt.out,hB,far_some Zr⟩
theorem ktop_any{w:World}{b:Nat}{v:Value}{p:List UInt8}(hF:FieldAt w b)(hp:Rd w v p)(hl:p.length<=1000)(h0:p.length≠0)(ht:co p (p.length-1)≠0):
  Calls Tryz.prog 197 #[.pointer (some ⟨b,0,none⟩),v] w (MakesF w (upto (fun j=>mu (iv (co p (p.length-1))) (co p j)) (p.length-1+1))):=by
 rw[<-mul_top h0 ht,mulP_comm];obtain⟨pa,pcap,rfl⟩:=hp.form;obtain⟨bb,off,rfl,hbb,c1⟩:=hp.byte (i:=p.length-1) Zo;obtain⟨d,hd⟩:∃d,Hid (d=p.length-1):=⟨_,rfl⟩;rw[<-hd.out]at c1 ht ⊢;have gd:(p.length:Int)-1=(d:Int):=by have:=hd.out;omega
 have hdl:d<p.length:=by have:=hd.out;omega
 have hdl':(d:Int)<(p.length:Int):=Zo
 have gw:IntKind.i64.wrap (d:Int)=(d:Int):=Zw
 obtain⟨y,hy⟩:∃y,Hid (y=co p d):=⟨_,rfl⟩;rw[<-hy.out]at c1 ht ⊢;obtain⟨z,hz⟩:∃z,Hid (z=iv y):=⟨_,rfl⟩;rw[<-hz.out]
 go_enter Tryz.func197,Tryz.ntmps197
 go_wp2_with fail
 refine(finv_at hF y ht rfl).mono ?_
 rintro e w1 ⟨rfl,n1,hw1⟩;have B1:Below w.heap.size w w1:=by rw[hw1];exact below_draws _ _
 clear hw1;rw[<-hz.out];have HL:Hid (Rd (w1.alloc (.cells #[.int .u8 (z.toNat:Nat)] 5)) (.slice (some ⟨w1.heap.size,0,none⟩) 1 1) [z]):=rd_lit (n:=1) [z] rfl rfl Zd
 go_wp2_with fail
 refine(pmul_far (hF.below (below_lit B1 _)) HL.out (hp.below (below_lit B1 _)) Zs Zo).mono ?_
 rintro e w2 ⟨v2,rfl,hr2,hb2,hf2⟩;have HB:Hid (Below w.heap.size w w2):=Below.next (below_lit B1 _) hb2;have hf3:Far w.heap.size v2:=hf2.mono (by have:=(below_lit B1 (.cells #[.int .u8 (z.toNat:Nat)] 5)).size;exact this);clear hb2 B1 hf2;go_wp2;go_ret;exact⟨_,rfl,hr2,HB.out,hf3⟩
theorem kloc_any{b:Nat}{v:Value}{s:List UInt8}{w:World}(hF:FieldAt w b)(hs:Rd w v s)(hl:s.length<=300):Calls Tryz.prog 165 #[.pointer (some ⟨b,0,none⟩),v] w (MakesV w (locL s)):=by
 obtain⟨a,c,rfl⟩:=hs.form
 go_enter Tryz.func165,Tryz.ntmps165
 go_wp2;have B0:Below w.heap.size w (w.alloc (.cells #[.int .u8 1] 5)):=Zf.alloc Zr _;have R0:Rd (w.alloc (.cells #[.int .u8 1] 5)) (.slice (some ⟨w.heap.size,0,none⟩) 1 1) [1]:=rd_lit (n:=1) [1] rfl rfl Zd
 go_loopw [5,13] (fun o i wr=>∃k:Nat,k<=s.length/\i= .int .i64 k/\Rd wr o (locN (co s) k)/\Below w.heap.size w wr) (fun _ i _=>s.length-(intOf i).toNat)
 case atStart=>exact⟨0,Zo,rfl,R0,B0⟩
 case round=>
  obtain⟨k,hk,rfl,hR,hB⟩:=hrel;clear R0 B0;obtain⟨av,cv,ev⟩:=hR.form;rw[locN_length]at ev;subst ev
  by_cases hlt:k<s.length
  ·have hlt':(k:Int)<(s.length:Int):=by omega
   obtain⟨bb,off,rfl,_,c1⟩:=(hs.below hB).byte hlt;obtain⟨x,hx⟩:∃x,Hid (x=co s k):=⟨_,rfl⟩;rw[<-hx.out]at c1;have HM:Hid (mulP [x,1] (locN (co s) k)=locN (co s) (k+1)):=by show _=_;rw[hx.out,mulP_comm];exact locN_succ _ _
   have HR:Hid _:=hR.below (w':=wr.alloc (.cells #[.int .u8 (x.toNat:Nat),.int .u8 1] 5)) (Zf.alloc Zr _);have HL:Hid (Rd (wr.alloc (.cells #[.int .u8 (x.toNat:Nat),.int .u8 1] 5)) (.slice (some ⟨wr.heap.size,0,none⟩) 2 2) [x,1]):=rd_lit (n:=2) [x,1] rfl rfl Zd;clear hs hR
   go_wp2_with fail
   refine(pmul_any (hF.below (below_lit hB _)) HL.out HR.out Zs (by rw[locN_length];omega)).mono ?_
   rintro e w2 ⟨v2,rfl,hown2,hb2⟩;have HR2:Hid (Rd w2 v2 (locN (co s) (k+1))):=by
    rw[HM.out]at hown2;exact hown2
   have HB2:Hid (Below w.heap.size w w2):=Below.next (below_lit hB _) hb2;clear hown2 hb2 HR HL c1 hB;go_wp2;go_roundw
   case rel=>exact⟨k+1,Zo,Zg,HR2.out,HB2.out⟩
   case measure=>simp[intOf];omega
  ·have e:k=s.length:=by omega
   have hge:¬(k:Int)<(s.length:Int):=Zo
   have HR:Hid (Rd wr (.slice av (k+1) cv) (locL s)):=by
    show Rd _ _ _
    unfold locL;rw[<-e];exact hR
   clear hs hR e;go_wp2;go_ret;exact⟨_,rfl,HR.out,hB⟩
end Go.Proofs.YtddnfhfangfgeaaGreat.Gf
