/- JOINED: PoSum, GfQuiet, PoConv, PoMk, PoRd, PoMulMath, PoOnl, PoInfo, PoDivMath, PoApi, PoOnly, PoSame, PoAppend, PoLaws, PoTop, PoShort1, PoCodeB, PoSumInto. -/
import Derived.Test.YtddnfhfangfgeaaGreatPome1
import Derived.OpenShut
import Derived.Laws.AppendOwnNone
import Derived.Deep.RegionWith
set_option maxHeartbeats 2000000
set_option maxRecDepth 100000
namespace Go.Proofs.YtddnfhfangfgeaaGreat.Gf
set_option linter.unusedVariables false
set_option linter.unusedSimpArgs false
def mu(a b:UInt8):UInt8:=UInt8.ofNat (mulS a.toNat b.toNat)
def iv(a:UInt8):UInt8:=UInt8.ofNat (invS a.toNat)
theorem u8_lt(a:UInt8):a.toNat<256:=a.toNat_lt
theorem mu_toNat(a b:UInt8):(mu a b).toNat=mulS a.toNat b.toNat:=by
 unfold mu;rw[UInt8.toNat_ofNat'];exact Nat.mod_eq_of_lt (mulS_lt _ _)
theorem iv_toNat(a:UInt8):(iv a).toNat=invS a.toNat:=by
 unfold iv;rw[UInt8.toNat_ofNat'];exact Nat.mod_eq_of_lt (invS_lt _)
theorem u8_ext{a b:UInt8}(h:a.toNat=b.toNat):a=b:=UInt8.toNat_inj.1 h
theorem u8_ne{a:UInt8}(h:a≠0):a.toNat≠0:=fun e=>h (u8_ext e)
theorem mu_comm(a b:UInt8):mu a b=mu b a:=u8_ext (by rw[mu_toNat,mu_toNat,mulS_comm])
theorem mu_assoc(a b c:UInt8):mu (mu a b) c=mu a (mu b c):=u8_ext (by simp only[mu_toNat];rw[mulS_assoc])
theorem mu_left(a b c:UInt8):mu a (mu b c)=mu b (mu a c):=by rw[<-mu_assoc,mu_comm a b,mu_assoc]
theorem mu_xor(a b c:UInt8):mu a (b^^^c)=mu a b^^^mu a c:=u8_ext (by
 rw[UInt8.toNat_xor,mu_toNat,mu_toNat,mu_toNat,UInt8.toNat_xor,mulS_xor (u8_lt a) (u8_lt b) (u8_lt c)])
theorem xor_mu(a b c:UInt8):mu (a^^^b) c=mu a c^^^mu b c:=by rw[mu_comm,mu_xor,mu_comm c a,mu_comm c b]
theorem mu_one(a:UInt8):mu a 1=a:=u8_ext (by rw[mu_toNat];exact mulS_one (u8_lt a))
theorem one_mu(a:UInt8):mu 1 a=a:=by rw[mu_comm,mu_one]
theorem mu_zero(a:UInt8):mu a 0=0:=u8_ext (by rw[mu_toNat];exact mulS_zero _)
theorem zero_mu(a:UInt8):mu 0 a=0:=by rw[mu_comm,mu_zero]
theorem mu_eq_zero{a b:UInt8}:mu a b=0↔a=0∨b=0:=by
 constructor
 ·intro h
  have:mulS a.toNat b.toNat=0:=by rw[<-mu_toNat,h];rfl
  rcases mulS_eq_zero.1 this with e|e
  ·exact Or.inl (u8_ext e)
  ·exact Or.inr (u8_ext e)
 ·rintro(rfl|rfl)
  ·exact zero_mu _
  ·exact mu_zero _
theorem mu_iv{a:UInt8}(h:a≠0):mu a (iv a)=1:=u8_ext (by rw[mu_toNat,iv_toNat,mulS_invS (u8_ne h)];rfl)
theorem mu_ne{a b:UInt8}(ha:a≠0)(hb:b≠0):mu a b≠0:=fun h=>by rcases mu_eq_zero.1 h with e|e<;>contradiction
theorem x_assoc(a b c:UInt8):(a^^^b)^^^c=a^^^(b^^^c):=UInt8.xor_assoc a b c
theorem x_comm(a b:UInt8):a^^^b=b^^^a:=UInt8.xor_comm a b
theorem x_left(a b c:UInt8):a^^^(b^^^c)=b^^^(a^^^c):=by rw[<-x_assoc,x_comm a b,x_assoc]
theorem x_self(a:UInt8):a^^^a=0:=UInt8.xor_self
theorem x_zero(a:UInt8):a^^^0=a:=UInt8.xor_zero
theorem zero_x(a:UInt8):0^^^a=a:=UInt8.zero_xor
theorem x_cancel(a b:UInt8):a^^^(a^^^b)=b:=by rw[<-x_assoc,x_self,zero_x]
theorem x_eq_zero{a b:UInt8}:a^^^b=0↔a=b:=by
 constructor
 ·intro h
  have:a^^^(a^^^b)=a^^^0:=by rw[h]
  rw[x_cancel,x_zero]at this;exact this.symm
 ·rintro rfl;exact x_self a
theorem x4(a b c d:UInt8):(a^^^b)^^^(c^^^d)=(a^^^c)^^^(b^^^d):=by
 rw[x_assoc,x_assoc,x_left b c d]
def S:Nat->(Nat->UInt8)->UInt8
 |0,_=>0
 |n+1,f=>S n f^^^f n
theorem S_congr{n:Nat}{f g:Nat->UInt8}(h:∀i,i<n->f i=g i):S n f=S n g:=by
 induction n with
 |zero=>rfl
 |succ n ih=>rw[S,S,ih (fun i hi=>h i Zo),h n Zo]
theorem S_zero{n:Nat}{f:Nat->UInt8}(h:∀i,i<n->f i=0):S n f=0:=by
 induction n with
 |zero=>rfl
 |succ n ih=>rw[S,ih (fun i hi=>h i Zo),h n Zo];rfl
theorem S_xor(n:Nat)(f g:Nat->UInt8):S n (fun i=>f i^^^g i)=S n f^^^S n g:=by
 induction n with
 |zero=>exact(x_self 0).symm
 |succ n ih=>rw[S,S,S,ih,x4]
theorem mu_S(a:UInt8)(n:Nat)(f:Nat->UInt8):mu a (S n f)=S n (fun i=>mu a (f i)):=by
 induction n with
 |zero=>exact mu_zero a
 |succ n ih=>rw[S,S,mu_xor,ih]
theorem S_mu(a:UInt8)(n:Nat)(f:Nat->UInt8):mu (S n f) a=S n (fun i=>mu (f i) a):=by
 rw[mu_comm,mu_S];exact S_congr fun i _=>mu_comm _ _
theorem S_head(n:Nat)(f:Nat->UInt8):S (n+1) f=f 0^^^S n (fun i=>f (i+1)):=by
 induction n with
 |zero=>rw[S,S,S,zero_x,x_zero]
 |succ n ih=>rw[S,ih,S,x_assoc]
theorem S_rev(n:Nat)(f:Nat->UInt8):S (n+1) (fun i=>f (n-i))=S (n+1) f:=by
 induction n with
 |zero=>rfl
 |succ n ih=>
  rw[S_head]
  have:S (n+1) (fun i=>f (n+1-(i+1)))=S (n+1) (fun i=>f (n-i)):=S_congr fun i _=>by rw[Nat.add_sub_add_right]
  rw[this,ih,x_comm];rfl
theorem S_more{n m:Nat}{f:Nat->UInt8}(hnm:n<=m)(h:∀i,n<=i->i<m->f i=0):S m f=S n f:=by
 induction m with
 |zero=>rw[Nat.le_zero.1 hnm]
 |succ m ih=>
  by_cases e:n=m+1
  ·rw[e]
  ·rw[S,ih Zo (fun i h1 h2=>h i h1 Zo),h m Zo Zo,x_zero]
theorem S_one{n k:Nat}{f:Nat->UInt8}(hk:k<n)(h:∀i,i<n->i≠k->f i=0):S n f=f k:=by
 induction n with
 |zero=>omega
 |succ n ih=>
  by_cases e:k=n
  ·subst e;rw[S,S_zero (fun i hi=>h i Zo Zo),zero_x]
  ·rw[S,ih Zo (fun i h1 h2=>h i Zo h2),h n Zo Zo,x_zero]
theorem S_tri(n:Nat)(F:Nat->Nat->UInt8):S n (fun i=>S (i+1) (fun j=>F i j))=S n (fun j=>S (n-j) (fun l=>F (j+l) j)):=by
 induction n with
 |zero=>rfl
 |succ n ih=>
  rw[S,ih,S,S,<-x_assoc,<-S_xor];have e1:S (n+1-n) (fun l=>F (n+l) n)=F n n:=by
   rw[show n+1-n=1 by omega,S,S,zero_x];rfl
  rw[e1];congr 1;refine S_congr fun j hj=>?_
  rw[show n+1-j=(n-j)+1 by omega,S,show j+(n-j)=n by omega]
open Go.RowKit
theorem fmu_quiet{b:Nat}{w:World}(hF:FieldAt w b)(a c:UInt8){x y:Int}(hx:x=((a.toNat:Nat):Int))(hy:y=((c.toNat:Nat):Int)):
  Calls Tryz.prog 188 #[.pointer (some ⟨b,0,none⟩),.int .u8 x,.int .u8 y] w fun e w'=>e= .returned (.int .u8 ((mu a c).toNat:Nat))/\∃n,w'=w.drewN n:=by
 rw[mu_toNat];exact mul_at hF a.toNat c.toNat hx hy (u8_lt a) (u8_lt c)
def conv(p q:Nat->UInt8)(k:Nat):UInt8:=S (k+1) (fun i=>mu (p i) (q (k-i)))
def addF(p q:Nat->UInt8)(k:Nat):UInt8:=p k^^^q k
theorem conv_comm(p q:Nat->UInt8):conv p q=conv q p:=by
 funext k;unfold conv;rw[<-S_rev k (fun i=>mu (q i) (p (k-i)))];refine S_congr fun i hi=>?_
 rw[mu_comm,show k-(k-i)=i by omega]
theorem conv_add(p q r:Nat->UInt8):conv p (addF q r)=addF (conv p q) (conv p r):=by
 funext k;unfold conv addF;rw[<-S_xor];exact S_congr fun i _=>mu_xor _ _ _
theorem add_conv(p q r:Nat->UInt8):conv (addF p q) r=addF (conv p r) (conv q r):=by
 rw[conv_comm,conv_add,conv_comm r p,conv_comm r q]
theorem conv_assoc(p q r:Nat->UInt8):conv (conv p q) r=conv p (conv q r):=by
 funext k;have e1:conv (conv p q) r k=S (k+1) (fun i=>S (i+1) (fun j=>mu (mu (p j) (q (i-j))) (r (k-i)))):=by
  unfold conv;exact S_congr fun i _=>S_mu _ _ _
 have e2:conv p (conv q r) k=S (k+1) (fun j=>S (k+1-j) (fun l=>mu (mu (p j) (q (j+l-j))) (r (k-(j+l))))):=by
  unfold conv;refine S_congr fun j hj=>?_
  rw[mu_S,show k+1-j=k-j+1 by omega];refine S_congr fun l hl=>?_
  rw[mu_assoc,show j+l-j=l by omega,show k-(j+l)=k-j-l by omega]
 rw[e1,e2,S_tri (k+1) (fun i j=>mu (mu (p j) (q (i-j))) (r (k-i)))]
def Fin0(f:Nat->UInt8)(n:Nat):Prop:=∀i,n<=i->f i=0
theorem Fin0.mono{f:Nat->UInt8}{n m:Nat}(h:Fin0 f n)(hm:n<=m):Fin0 f m:=fun i hi=>h i Zo
theorem Fin0.add{f g:Nat->UInt8}{n:Nat}(h:Fin0 f n)(k:Fin0 g n):Fin0 (addF f g) n:=fun i hi=>by
 unfold addF;rw[h i hi,k i hi];exact x_self 0
theorem Fin0.conv{f g:Nat->UInt8}{n m:Nat}(h:Fin0 f n)(k:Fin0 g m):Fin0 (conv f g) (n+m-1):=fun i hi=>by
 unfold Gf.conv;refine S_zero fun j hj=>?_
 by_cases e:n<=j
 ·rw[h j e,zero_mu]
 ·rw[k (i-j) Zo,mu_zero]
theorem conv_top{f g:Nat->UInt8}{n m:Nat}(h:Fin0 f (n+1))(k:Fin0 g (m+1)):conv f g (n+m)=mu (f n) (g m):=by
 unfold conv;have e:=S_one (n:=n+m+1) (k:=n) (f:=fun i=>mu (f i) (g (n+m-i))) Zo (fun i h1 h2=>by
  by_cases e:n<i
  ·show mu (f i) _=0
   rw[h i Zo,zero_mu]
  ·show mu _ (g (n+m-i))=0
   rw[k (n+m-i) Zo,mu_zero])
 rw[e]
 show mu (f n) (g (n+m-n))=_
 rw[show n+m-n=m by omega]
theorem conv_zero{f:Nat->UInt8}{g:Nat->UInt8}(h:∀i,g i=0)(k:Nat):conv f g k=0:=by
 unfold conv;exact S_zero fun i _=>by rw[h,mu_zero]
def pwr(x:UInt8):Nat->UInt8
 |0=>1
 |i+1=>mu (pwr x i) x
theorem pwr_add(x:UInt8)(i j:Nat):pwr x (i+j)=mu (pwr x i) (pwr x j):=by
 induction j with
 |zero=>rw[Nat.add_zero,pwr,mu_one]
 |succ j ih=>rw[<-Nat.add_assoc,pwr,ih,pwr,mu_assoc]
def ev(n:Nat)(f:Nat->UInt8)(x:UInt8):UInt8:=S n (fun i=>mu (f i) (pwr x i))
theorem ev_more{f:Nat->UInt8}{n m:Nat}(x:UInt8)(h:Fin0 f n)(hm:n<=m):ev m f x=ev n f x:=by
 unfold ev;exact S_more hm fun i h1 _=>by rw[h i h1,zero_mu]
theorem ev_add(n:Nat)(f g:Nat->UInt8)(x:UInt8):ev n (addF f g) x=ev n f x^^^ev n g x:=by
 unfold ev addF;rw[<-S_xor];exact S_congr fun i _=>xor_mu _ _ _
theorem ev_conv{f g:Nat->UInt8}{n m:Nat}(x:UInt8)(h:Fin0 f n)(k:Fin0 g m):ev (n+m) (conv f g) x=mu (ev n f x) (ev m g x):=by
 have e1:ev (n+m) (conv f g) x=S (n+m) (fun i=>S (i+1) (fun j=>mu (mu (f j) (pwr x j)) (mu (g (i-j)) (pwr x (i-j))))):=by
  unfold ev conv;refine S_congr fun i _=>?_
  rw[S_mu];refine S_congr fun j hj=>?_
  have:pwr x i=mu (pwr x j) (pwr x (i-j)):=by rw[<-pwr_add,show j+(i-j)=i by omega]
  rw[this,mu_assoc,mu_assoc,mu_left (g (i-j))]
 rw[e1,S_tri (n+m) (fun i j=>mu (mu (f j) (pwr x j)) (mu (g (i-j)) (pwr x (i-j))))];have e2:∀j,j<n+m->S (n+m-j) (fun l=>mu (mu (f j) (pwr x j)) (mu (g (j+l-j)) (pwr x (j+l-j))))=mu (mu (f j) (pwr x j)) (ev m g x):=by
  intro j hj;rw[<-mu_S (mu (f j) (pwr x j)) (n+m-j) (fun l=>mu (g (j+l-j)) (pwr x (j+l-j)))]
  by_cases e:n<=j
  ·rw[h j e,zero_mu,zero_mu,zero_mu]
  ·have:S (n+m-j) (fun l=>mu (g (j+l-j)) (pwr x (j+l-j)))=ev (n+m-j) g x:=by
    unfold ev;exact S_congr fun l _=>by rw[show j+l-j=l by omega]
   rw[this,ev_more x k Zo]
 rw[S_congr e2];unfold ev;rw[<-S_mu];congr 1;exact S_more Zo fun i h1 _=>by rw[h i h1,zero_mu]
def od(n:Nat)(a:UInt8):UInt8:=if n%2=1 then a else 0
def der(f:Nat->UInt8)(i:Nat):UInt8:=od (i+1) (f (i+1))
theorem od_mu(n:Nat)(a b:UInt8):mu (od n a) b=od n (mu a b):=by
 unfold od;split
 ·rfl
 ·exact zero_mu b
theorem mu_od(n:Nat)(a b:UInt8):mu a (od n b)=od n (mu a b):=by rw[mu_comm,od_mu,mu_comm]
theorem od_add(n m:Nat)(a:UInt8):od (n+m) a=od n a^^^od m a:=by
 unfold od
 by_cases h1:n%2=1
 ·by_cases h2:m%2=1
  ·rw[if_pos h1,if_pos h2,if_neg Zo,x_self]
  ·rw[if_pos h1,if_neg h2,if_pos Zo,x_zero]
 ·by_cases h2:m%2=1
  ·rw[if_neg h1,if_pos h2,if_pos Zo,zero_x]
  ·rw[if_neg h1,if_neg h2,if_neg Zo,x_self]
theorem od_xor(n:Nat)(a b:UInt8):od n (a^^^b)=od n a^^^od n b:=by
 unfold od;split
 ·rfl
 ·exact(x_self 0).symm
theorem od_S(m n:Nat)(f:Nat->UInt8):od m (S n f)=S n (fun i=>od m (f i)):=by
 induction n with
 |zero=>unfold od;split<;>rfl
 |succ n ih=>rw[S,S,od_xor,ih]
theorem od_zero(a:UInt8):od 0 a=0:=rfl
theorem der_conv(f g:Nat->UInt8):der (conv f g)=addF (conv (der f) g) (conv f (der g)):=by
 funext k;have e:der (conv f g) k=S (k+2) (fun i=>od i (mu (f i) (g (k+1-i))))^^^S (k+2) (fun i=>od (k+1-i) (mu (f i) (g (k+1-i)))):=by
  unfold der conv;rw[od_S,<-S_xor];refine S_congr fun i hi=>?_
  rw[<-od_add,show i+(k+1-i)=k+1 by omega]
 rw[e];unfold addF;congr 1
 ·rw[S_head,od_zero,zero_x];unfold conv der;refine S_congr fun i hi=>?_
  rw[od_mu,show k+1-(i+1)=k-i by omega]
 ·rw[S,show k+1-(k+1)=0 by omega,od_zero,x_zero];unfold conv der;refine S_congr fun i hi=>?_
  rw[mu_od,show k+1-i=k-i+1 by omega]
theorem Fin0.der{f:Nat->UInt8}{n:Nat}(h:Fin0 f n):Fin0 (der f) (n-1):=fun i hi=>by
 unfold Gf.der;rw[h (i+1) Zo];unfold od;split<;>rfl
def co(p:List UInt8)(i:Nat):UInt8:=p[i]?.getD 0
theorem co_lt{p:List UInt8}{i:Nat}(h:i<p.length):co p i=p[i]:=by unfold co;rw[List.getElem?_eq_getElem h];rfl
theorem co_ge{p:List UInt8}{i:Nat}(h:p.length<=i):co p i=0:=by unfold co;rw[List.getElem?_eq_none h];rfl
theorem co_fin(p:List UInt8):Fin0 (co p) p.length:=fun i hi=>co_ge hi
theorem co_nil(i:Nat):co [] i=0:=co_ge Zs
theorem co_ext{p q:List UInt8}(hl:p.length=q.length)(h:∀i,i<p.length->co p i=co q i):p=q:=by
 refine List.ext_getElem hl fun i h1 h2=>?_
 have:=h i h1;rwa[co_lt h1,co_lt h2]at this
theorem co_append_lt{p q:List UInt8}{i:Nat}(h:i<p.length):co (p++q) i=co p i:=by
 unfold co;rw[List.getElem?_append_left h]
theorem co_append_ge{p q:List UInt8}{i:Nat}(h:p.length<=i):co (p++q) i=co q (i-p.length):=by
 unfold co;rw[List.getElem?_append_right h]
theorem co_take{p:List UInt8}{n i:Nat}(h:i<n):co (p.take n) i=co p i:=by
 unfold co;rw[List.getElem?_take_of_lt h]
theorem co_set{p:List UInt8}{j:Nat}(x:UInt8)(hj:j<p.length)(i:Nat):co (p.set j x) i=if i=j then x else co p i:=by
 unfold co
 by_cases e:i=j
 ·subst e;rw[if_pos rfl,List.getElem?_set_self hj];rfl
 ·rw[if_neg e,List.getElem?_set_ne (fun h=>e h.symm)]
theorem co_map_range(f:Nat->UInt8){n i:Nat}(h:i<n):co ((List.range n).map f) i=f i:=by
 rw[co_lt (by simpa using h)];simp
def deg(f:Nat->UInt8):Nat->Nat
 |0=>0
 |n+1=>if f n=0 then deg f n else n+1
theorem deg_le(f:Nat->UInt8)(n:Nat):deg f n<=n:=by
 induction n with
 |zero=>exact Zr
 |succ n ih=>rw[deg];split<;>omega
theorem deg_top(f:Nat->UInt8)(n:Nat):deg f n≠0->f (deg f n-1)≠0:=by
 induction n with
 |zero=>intro h;exact absurd rfl h
 |succ n ih=>
  rw[deg];split
  ·exact ih
  ·intro _;rwa[Nat.add_sub_cancel]
theorem deg_over(f:Nat->UInt8)(n:Nat):∀i,deg f n<=i->i<n->f i=0:=by
 induction n with
 |zero=>intro i _ h;omega
 |succ n ih=>
  rw[deg];split
  ·intro i h1 h2
   by_cases e:i=n
   ·rw[e];assumption
   ·exact ih i h1 Zo
  ·intro i h1 h2;omega
theorem deg_fin{f:Nat->UInt8}{n:Nat}(h:Fin0 f n):Fin0 f (deg f n):=fun i hi=>by
 by_cases e:i<n
 ·exact deg_over f n i hi e
 ·exact h i Zo
theorem deg_unique{f:Nat->UInt8}{n d:Nat}(hn:Fin0 f n)(h:Fin0 f d)(ht:d≠0->f (d-1)≠0):deg f n=d:=by
 have hf:=deg_fin hn
 by_cases e:deg f n<d
 ·exact absurd (hf (d-1) Zo) (ht Zo)
 ·by_cases e2:d<deg f n
  ·exact absurd (h (deg f n-1) Zo) (deg_top f n Zo)
  ·omega
theorem deg_same{f g:Nat->UInt8}{n m:Nat}(hf:Fin0 f n)(hg:Fin0 g m)(h:∀i,f i=g i):deg f n=deg g m:=by
 have e:f=g:=funext h;subst e;exact deg_unique hf (deg_fin hg) (deg_top f m)
def mk(f:Nat->UInt8)(n:Nat):List UInt8:=(List.range (deg f n)).map f
theorem mk_length(f:Nat->UInt8)(n:Nat):(mk f n).length=deg f n:=by simp[mk]
theorem co_mk{f:Nat->UInt8}{n:Nat}(h:Fin0 f n):co (mk f n)=f:=by
 funext i
 by_cases e:i<deg f n
 ·exact co_map_range f e
 ·rw[co_ge (by rw[mk_length];omega),deg_fin h i Zo]
theorem mk_same{f g:Nat->UInt8}{n m:Nat}(hf:Fin0 f n)(hg:Fin0 g m)(h:∀i,f i=g i):mk f n=mk g m:=by
 have e:f=g:=funext h;subst e;unfold mk;rw[deg_same hf hg (fun _=>rfl)]
def norm(p:List UInt8):List UInt8:=mk (co p) p.length
theorem co_norm(p:List UInt8):co (norm p)=co p:=co_mk (co_fin p)
theorem norm_mk{f:Nat->UInt8}{n:Nat}(h:Fin0 f n):norm (mk f n)=mk f n:=
 mk_same (co_fin _) h fun i=>by rw[co_mk h]
theorem norm_of{p:List UInt8}{f:Nat->UInt8}{n:Nat}(hf:Fin0 f n)(h:∀i,co p i=f i):norm p=mk f n:=mk_same (co_fin p) hf h
def addP(p q:List UInt8):List UInt8:=mk (addF (co p) (co q)) (p.length+q.length)
def mulP(p q:List UInt8):List UInt8:=mk (conv (co p) (co q)) (p.length+q.length)
def derP(p:List UInt8):List UInt8:=mk (der (co p)) p.length
def evP(p:List UInt8)(x:UInt8):UInt8:=ev p.length (co p) x
theorem fin_add(p q:List UInt8):Fin0 (addF (co p) (co q)) (p.length+q.length):=((co_fin p).mono Zo).add ((co_fin q).mono Zo)
theorem fin_conv(p q:List UInt8):Fin0 (conv (co p) (co q)) (p.length+q.length):=((co_fin p).conv (co_fin q)).mono Zo
theorem fin_der(p:List UInt8):Fin0 (der (co p)) p.length:=(co_fin p).der.mono Zo
theorem co_addP(p q:List UInt8):co (addP p q)=addF (co p) (co q):=co_mk (fin_add p q)
theorem co_mulP(p q:List UInt8):co (mulP p q)=conv (co p) (co q):=co_mk (fin_conv p q)
theorem co_derP(p:List UInt8):co (derP p)=der (co p):=co_mk (fin_der p)
theorem mk_ext{f g:Nat->UInt8}{n m:Nat}(hf:Fin0 f n)(hg:Fin0 g m)(h:f=g):mk f n=mk g m:=mk_same hf hg fun i=>by rw[h]
theorem deg_conv{f g:Nat->UInt8}{n m k:Nat}(hf:Fin0 f n)(hg:Fin0 g m)(hk:Fin0 (conv f g) k):
  deg (conv f g) k=if deg f n=0∨deg g m=0 then 0 else deg f n+deg g m-1:=by
 have h1:=deg_fin hf;have h2:=deg_fin hg
 by_cases e1:deg f n=0
 ·rw[if_pos (Or.inl e1)];refine deg_unique hk (fun i _=>?_) (fun h=>absurd rfl h);rw[conv_comm];exact conv_zero (fun j=>h1 j Zo) i
 ·by_cases e2:deg g m=0
  ·rw[if_pos (Or.inr e2)];refine deg_unique hk (fun i _=>?_) (fun h=>absurd rfl h);exact conv_zero (fun j=>h2 j Zo) i
  ·rw[if_neg Zo];refine deg_unique hk (h1.conv h2) (fun _=>?_);have ht:=conv_top (f:=f) (g:=g) (n:=deg f n-1) (m:=deg g m-1) (h1.mono Zo) (h2.mono Zo);rw[show deg f n+deg g m-1-1=deg f n-1+(deg g m-1) by omega,ht];exact mu_ne (deg_top f n e1) (deg_top g m e2)
def vb(a:UInt8):Value:=.int .u8 ((a.toNat:Nat):Int)
def Rd(w:World)(v:Value)(p:List UInt8):Prop:=
 (∃ao cap,p=[]/\v= .slice ao 0 cap/\cap<=maxLen/\(ao=none->cap=0))∨
 (∃b off cap,p≠[]/\v= .slice (some ⟨b,off,none⟩) p.length cap/\p.length<=cap/\cap<=maxLen/\b<w.heap.size/\∀i,i<p.length->w.cell? ⟨b,off+i,none⟩=some (.int .u8 ((co p i).toNat:Nat)))
theorem Rd.below{w w':World}{v:Value}{p:List UInt8}(h:Rd w v p)(hb:Below w.heap.size w w'):Rd w' v p:=by
 rcases h with h|⟨b,off,cap,h1,h2,h3,h4,h5,h6⟩
 ·exact Or.inl h
 ·exact Or.inr ⟨b,off,cap,h1,h2,h3,h4,Zu h5 hb.size,fun i hi=>(hb.cell (p:=⟨b,off+i,none⟩) h5).trans (h6 i hi)⟩
theorem Rd.drewN{w:World}{v:Value}{p:List UInt8}(h:Rd w v p)(n:Nat):Rd (w.drewN n) v p:=h
theorem Rd.form{w:World}{v:Value}{p:List UInt8}(h:Rd w v p):∃a c,v= .slice a p.length c:=by
 rcases h with⟨a,c,rfl,rfl,_⟩|⟨b,off,c,_,rfl,_⟩
 ·exact⟨a,c,rfl⟩
 ·exact⟨_,c,rfl⟩
theorem Rd.len{w:World}{v:Value}{p:List UInt8}(h:Rd w v p):p.length<=maxLen:=by
 rcases h with⟨_,_,h,_⟩|⟨_,_,_,_,_,h3,h4,_⟩
 ·subst h;exact Zz
 ·omega
theorem xor_u8(x y:UInt8):bits .xor .u8 ((x.toNat:Nat):Int) ((y.toNat:Nat):Int)=(((x^^^y).toNat:Nat):Int):=by
 rw[u8_xor_nat _ _ (u8_lt x) (u8_lt y),UInt8.toNat_xor]
theorem eq_u8(x y:UInt8):(((x.toNat:Nat):Int)==((y.toNat:Nat):Int))=decide (x=y):=by
 rw[Bool.eq_iff_iff,beq_iff_eq,decide_eq_true_eq];exact⟨fun h=>u8_ext Zo,fun h=>by rw[h]⟩
theorem ne_u8(x y:UInt8):(((x.toNat:Nat):Int)!=((y.toNat:Nat):Int))=decide (x≠y):=by
 rw[bne,eq_u8];by_cases h:x=y<;>simp[h]
theorem eq_u8_zero(x:UInt8):(((x.toNat:Nat):Int)==0)=decide (x=0):=eq_u8 x 0
theorem ofNat_u8{x:Nat}(h:x<256):((UInt8.ofNat x).toNat:Nat)=x:=by rw[UInt8.toNat_ofNat'];exact Nat.mod_eq_of_lt h
theorem add_at(b off j:Nat):(⟨b,off,none⟩:Addr).add j=⟨b,off+j,none⟩:=by
 unfold Addr.add;split
 ·subst j;rfl
 ·rfl
theorem news_of{W:World}{b off k:Nat}{p:List UInt8}(h:∀i,i<p.length->W.cell? ⟨b,off+i,none⟩=some (.int .u8 ((co p i).toNat:Nat))):
  ∀j u,((p.take k).map vb)[j]? =some u->W.cell? ((⟨b,off,none⟩:Addr).add j)=some u:=by
 intro j u hj;rw[add_at];rw[List.getElem?_map]at hj
 by_cases hjk:j<k
 ·rw[List.getElem?_take_of_lt hjk]at hj
  by_cases hjp:j<p.length
  ·rw[List.getElem?_eq_getElem hjp]at hj;rw[h j hjp,co_lt hjp];simpa[vb]using hj
  ·rw[List.getElem?_eq_none Zo]at hj;cases hj
 ·rw[List.getElem?_eq_none (by rw[List.length_take];omega)]at hj;cases hj
theorem vb_one(p:List UInt8):∀u∈p.map vb,u.oneCell'=true:=by
 intro u hu;obtain⟨a,_,rfl⟩:=List.mem_map.1 hu;rfl
theorem Rd.owned{w:World}{base e:Nat}{v:Value}{p:List UInt8}(h:w.ownsRow base e 1 v p.length (p.map vb)):Rd w v p:=by
 obtain⟨_,⟨hv,hn⟩|⟨g,cap,cur,hv,hg,hh,hc,hm,hs,ht⟩⟩:=h
 ·exact Or.inl ⟨none,0,List.length_eq_zero_iff.1 hn,hv,Zz,fun _=>rfl⟩
 ·by_cases hp:p=[]
  ·subst hp;exact Or.inl ⟨_,cap,rfl,hv,hm,fun h=>by cases h⟩
  ·refine Or.inr ⟨g,0,cap,hp,hv,hc,hm,(Array.getElem?_eq_some_iff.1 hh).1,fun i hi=>?_⟩;have e1:(p.map vb)[i]? =some (vb (co p i)):=by rw[List.getElem?_map,List.getElem?_eq_getElem hi,co_lt hi];rfl
   rw[<-ht,Nat.mul_one,List.getElem?_take_of_lt hi]at e1;rw[Nat.zero_add];unfold World.cell?;rw[hh];simpa[vb]using e1
theorem ownsRow_base{w:World}{base base' e n:Nat}{v:Value}{xs:List Value}(h:w.ownsRow base e 1 v n xs)(hb:base'<=base):w.ownsRow base' e 1 v n xs:=by
 obtain⟨h0,h|⟨g,cap,cur,hv,hg,r⟩⟩:=h
 ·exact⟨h0,Or.inl h⟩
 ·exact⟨h0,Or.inr ⟨g,cap,cur,hv,Nat.le_trans hb hg,r⟩⟩
def upto(f:Nat->UInt8)(k:Nat):List UInt8:=(List.range k).map f
theorem upto_length(f:Nat->UInt8)(k:Nat):(upto f k).length=k:=by simp[upto]
theorem upto_succ(f:Nat->UInt8)(k:Nat):upto f (k+1)=upto f k++[f k]:=by simp[upto,List.range_succ]
theorem co_upto{f:Nat->UInt8}{k:Nat}(h:Fin0 f k)(i:Nat):co (upto f k) i=f i:=by
 by_cases hi:i<k
 ·exact co_map_range f hi
 ·rw[co_ge (by rw[upto_length];omega),h i Zo]
theorem norm_upto{f:Nat->UInt8}{k n:Nat}(h:Fin0 f k)(hn:Fin0 f n):norm (upto f k)=mk f n:=norm_of hn (co_upto h)
theorem upto_vb_succ(f:Nat->UInt8)(k:Nat):(upto f (k+1)).map vb=(upto f k).map vb++[.int .u8 (((f k).toNat:Nat):Int)]:=by
 rw[upto_succ,List.map_append];rfl
theorem owns_later{wr w1:World}{e n:Nat}{v:Value}{xs:List Value}{base:Nat}(h:wr.ownsRow base e 1 v n xs)(hb:Below wr.heap.size wr w1):w1.ownsRow base e 1 v n xs:=by
 obtain⟨h0,h|⟨g,cap,cur,hv,hg,hh,r⟩⟩:=h
 ·exact⟨h0,Or.inl h⟩
 ·exact⟨h0,Or.inr ⟨g,cap,cur,hv,hg,by rw[hb.block g (Array.getElem?_eq_some_iff.1 hh).1];exact hh,r⟩⟩
theorem rd_row{w:World}{a:Option Addr}{len cap:Nat}{zs:List Int}
  (h:(a=none/\len=0/\cap=0/\zs=[])∨∃x,a=some x/\len<=cap/\cap<=maxLen/\zs.length=cap/\(∀i,i<zs.length->w.cell? (x.add i)=some (.int .u8 (zs.getD i 0)))/\∀n∈zs,(Lit.int .u8 n).wf=true):
  ∃p:List UInt8,len=p.length/\Rd w (.slice a len cap) p:=by
 rcases h with⟨rfl,rfl,rfl,rfl⟩|⟨x,rfl,hl,hm,hz,hcell,hwz⟩
 ·exact⟨[],rfl,Or.inl ⟨none,0,rfl,rfl,Zz,fun _=>rfl⟩⟩
 ·refine⟨(zs.take len).map (fun n=>UInt8.ofNat n.toNat),by rw[List.length_map,List.length_take];omega,?_⟩
  by_cases h0:len=0
  ·subst h0;exact Or.inl ⟨_,cap,rfl,rfl,hm,fun h=>by cases h⟩
  ·obtain⟨b,off,spot⟩:=x;have hc:=hcell 0 Zo;have hspot:spot=none:=by simpa[Addr.add]using World.cell?_spot hc
   subst hspot;have hlen:((zs.take len).map (fun n=>UInt8.ofNat n.toNat)).length=len:=by rw[List.length_map,List.length_take];omega
   have hbw:b<w.heap.size:=by
    have e:w.cell? ⟨b,off,none⟩=some (.int .u8 (zs.getD 0 0)):=by simpa[Addr.add]using hc
    unfold World.cell? at e
    by_cases hb:b<w.heap.size
    ·exact hb
    ·rw[Array.getElem?_eq_none (by show w.heap.size<=b;omega)]at e;cases e
   refine Or.inr ⟨b,off,cap,fun h=>by rw[h]at hlen;simp at hlen;omega,by rw[hlen],by rw[hlen];exact hl,hm,hbw,fun i hi=>?_⟩;rw[hlen]at hi;have e1:=hcell i Zo;rw[add_at]at e1;rw[e1];have hi2:i<zs.length:=Zo
   have e2:co ((zs.take len).map (fun n=>UInt8.ofNat n.toNat)) i=UInt8.ofNat (zs[i]).toNat:=by
    rw[co_lt (by rw[hlen];exact hi)];simp
   rw[e2];have hw:=hwz zs[i] (List.getElem_mem hi2);have hb:=bounds_u8 hw;rw[ofNat_u8 Zo];have e3:zs.getD i 0=zs[i]:=by simp[List.getD,hi2]
   rw[e3];congr 2;omega
theorem rd_lit{w:World}{n:Nat}{cs:Array Value}{e:Nat}(p:List UInt8)(hn:p.length=n)(hs:cs.toList=p.map vb)(hl:n<=1000000):Rd (w.alloc (.cells cs e)) (.slice (some ⟨w.heap.size,0,none⟩) n n) p:=by
 subst hn;refine Rd.owned (base:=w.heap.size) (e:=e) ?_
 rw[<-hs];exact World.ownsRow_lit w cs p.length Zr Zl (by rw[<-Array.length_toList,hs];simp)
theorem below_lit{w w':World}(h:Below w.heap.size w w')(o:Obj):Below w.heap.size w (w'.alloc o):=h.alloc h.size o
def pc(p q:Nat->UInt8)(i t:Nat):UInt8:=S i (fun j=>if j<=t then mu (p j) (q (t-j))else 0)
theorem pc_whole{p q:Nat->UInt8}{n:Nat}(hp:Fin0 p n):pc p q n=conv p q:=by
 funext t;unfold pc conv;have e1:S (n+(t+1)) (fun j=>if j<=t then mu (p j) (q (t-j))else 0)=S n (fun j=>if j<=t then mu (p j) (q (t-j))else 0):=
  S_more Zo fun i h1 _=>by
   split
   ·rw[hp i h1,zero_mu]
   ·rfl
 have e2:S (n+(t+1)) (fun j=>if j<=t then mu (p j) (q (t-j))else 0)=S (t+1) (fun j=>if j<=t then mu (p j) (q (t-j))else 0):=
  S_more Zo fun i h1 _=>if_neg Zo
 rw[<-e1,e2];exact S_congr fun i hi=>if_pos Zo
theorem upto_set{f g:Nat->UInt8}{L j:Nat}(hj:j<L)(x:UInt8)(h:∀t,g t=if t=j then x else f t):(upto f L).set j x=upto g L:=by
 refine co_ext (by simp[upto]) fun i hi=>?_
 rw[List.length_set,upto_length]at hi;rw[co_set x (by rw[upto_length];exact hj)];rw[upto,co_map_range f hi,upto,co_map_range g hi,h]
theorem upto_congr{f g:Nat->UInt8}{L:Nat}(h:∀t,t<L->f t=g t):upto f L=upto g L:=by
 refine co_ext (by simp[upto]) fun i hi=>?_
 rw[upto_length]at hi;rw[upto,co_map_range f hi,upto,co_map_range g hi,h i hi]
theorem upto_zeros(L:Nat):(upto (fun _=>0) L).map vb=List.replicate L (.int .u8 0):=by
 unfold upto;rw[List.map_map];refine List.ext_getElem Zs fun i h1 h2=>?_
 simp[vb]
def RowF(w:World)(base e g L C:Nat)(f:Nat->UInt8):Prop:=w.ownsRow base e 1 (.slice (some ⟨g,0,none⟩) L C) L ((upto f L).map vb)
theorem RowF.cell{w:World}{base e g L C:Nat}{f:Nat->UInt8}(h:RowF w base e g L C f){j:Nat}(hj:j<L):w.cell? ⟨g,j,none⟩=some (.int .u8 ((f j).toNat:Nat)):=by
 have e1:=World.ownsRow.cellAt h j Zo;rw[e1,List.getElem?_map];unfold upto;rw[List.getElem?_map,List.getElem?_range hj];rfl
theorem RowF.unfrozen{w:World}{base e g L C:Nat}{f:Nat->UInt8}(h:RowF w base e g L C f)(j:Nat):w.frozen? ⟨g,j,none⟩=false:=World.ownsRow.frozenAt h j
theorem RowF.store{w:World}{base e g L C:Nat}{f f':Nat->UInt8}(h:RowF w base e g L C f){j:Nat}(hj:j<L)(x:UInt8)(hf:∀t,f' t=if t=j then x else f t):
  RowF (w.setCell ⟨g,j,none⟩ (.int .u8 ((x.toNat:Nat):Int))) base e g L C f':=by
 have e1:=(World.ownsRow.stored h j (.int .u8 ((x.toNat:Nat):Int))).1;unfold RowF;rw[<-upto_set hj x hf,List.map_set];exact e1
theorem RowF.congr{w:World}{base e g L C:Nat}{f f':Nat->UInt8}(h:RowF w base e g L C f)(hf:∀t,t<L->f t=f' t):RowF w base e g L C f':=by
 unfold RowF;rw[<-upto_congr hf];exact h
theorem RowF.drew{w:World}{base e g L C:Nat}{f:Nat->UInt8}(h:RowF w base e g L C f):RowF w.drew base e g L C f:=World.ownsRow.drew h
theorem RowF.drewN{w:World}{base e g L C:Nat}{f:Nat->UInt8}(h:RowF w base e g L C f)(n:Nat):RowF (w.drewN n) base e g L C f:=h
theorem RowF.rd{w:World}{base e g L C:Nat}{f:Nat->UInt8}(h:RowF w base e g L C f):Rd w (.slice (some ⟨g,0,none⟩) L C) (upto f L):=
 Rd.owned (base:=base) (e:=e) (by rw[upto_length];exact h)
theorem RowF.made{w:World}{base e g L:Nat}(h:w.ownsRow base e 1 (.slice (some ⟨g,0,none⟩) L L) L (madeCells (Value.cells (.int .u8 0)) (L*1)).toList):RowF w base e g L L (fun _=>0):=by
 unfold RowF;rw[upto_zeros];have e1:(madeCells (Value.cells (.int .u8 0)) (L*1)).toList=List.replicate L (.int .u8 0):=by
  rw[Nat.mul_one];exact toList_madeCells_one _ _
 rw[<-e1];exact h
theorem RowF.lt{w:World}{base e g L C:Nat}{f:Nat->UInt8}(h:RowF w base e g L C f):base<=g/\g<w.heap.size:=Zv h g rfl
theorem RowF.other{w:World}{base e g L C:Nat}{f:Nat->UInt8}(h:RowF w base e g L C f){a:Addr}(ha:g≠a.block)(u:Value):RowF (w.setCell a u) base e g L C f:=by
 obtain⟨h0,h|⟨g',cap,cur,hv,hg,hh,r⟩⟩:=h
 ·exact⟨h0,Or.inl h⟩
 ·refine⟨h0,Or.inr ⟨g',cap,cur,hv,hg,?_,r⟩⟩;have eg:g'=g:=by simp at hv;exact hv.1.symm
  rw[Below.heap_setCell _ _ _ _ (by rw[eg];exact ha)];exact hh
theorem RowF.later{w w':World}{base e g L C:Nat}{f:Nat->UInt8}(h:RowF w base e g L C f)(hb:Below w.heap.size w w'):RowF w' base e g L C f:=owns_later h hb
theorem RowF.base{w:World}{base base' e g L C:Nat}{f:Nat->UInt8}(h:RowF w base e g L C f)(hb:base'<=base):RowF w base' e g L C f:=ownsRow_base h hb
theorem RowF.of{w:World}{base e:Nat}{v:Value}{p:List UInt8}(h:w.ownsRow base e 1 v p.length (p.map vb))(hp:0<p.length):∃g C,v= .slice (some ⟨g,0,none⟩) p.length C/\RowF w base e g p.length C (co p):=by
 obtain⟨h0,⟨_,h⟩|⟨g,cap,cur,hv,r⟩⟩:=h
 ·omega
 ·refine⟨g,cap,hv,?_⟩;have e1:upto (co p) p.length=p:=co_ext (upto_length _ _) fun i hi=>by
   rw[upto_length]at hi;exact co_map_range _ hi
  unfold RowF;rw[e1];subst hv;exact⟨h0,Or.inr ⟨g,cap,cur,rfl,r⟩⟩
structure Only(g:Nat)(w w':World):Prop where
 os:w'.os=w.os
 tape:w'.tape=w.tape
 output:w'.output=w.output
 size:w'.heap.size=w.heap.size
 block:∀k,k≠g->w'.heap[k]? =w.heap[k]?
theorem Only.refl(g:Nat)(w:World):Only g w w:=⟨rfl,rfl,rfl,rfl,fun _ _=>rfl⟩
theorem Only.trans{g:Nat}{a b c:World}(h:Only g a b)(k:Only g b c):Only g a c:=
 ⟨k.os.trans h.os,k.tape.trans h.tape,k.output.trans h.output,k.size.trans h.size,fun i hi=>(k.block i hi).trans (h.block i hi)⟩
theorem Only.drew{g:Nat}{a w:World}(h:Only g a w):Only g a w.drew:=⟨h.os,h.tape,h.output,h.size,h.block⟩
theorem Only.setCell{g:Nat}{a w:World}(h:Only g a w)(j:Nat)(u:Value):Only g a (w.setCell ⟨g,j,none⟩ u):=by
 have b:=(Below.refl 0 w).setCell (p:=⟨g,j,none⟩) Zz u;exact⟨b.os.trans h.os,b.tape.trans h.tape,b.output.trans h.output,by rw[<-h.size];simp,fun k hk=>(Below.heap_setCell w ⟨g,j,none⟩ u k hk).trans (h.block k hk)⟩
theorem Only.below{g B:Nat}{w w':World}(h:Only g w w')(hB:B<=g):Below B w w':=
 ⟨h.os,h.tape,h.output,by rw[h.size];exact Zr,fun k hk=>h.block k Zo⟩
theorem Only.cell{g:Nat}{w w':World}(h:Only g w w'){p:Addr}(hp:p.block≠g):w'.cell? p=w.cell? p:=Zc (w:=w) (h.block p.block hp)
def Apart(g:Nat)(v:Value):Prop:=∀x n c,v= .slice (some x) n c->n=0∨x.block≠g
theorem Rd.only{g:Nat}{w w':World}{v:Value}{p:List UInt8}(h:Rd w v p)(ha:Apart g v)(ho:Only g w w'):Rd w' v p:=by
 rcases h with h|⟨b,off,cap,h1,h2,h3,h4,h5,h6⟩
 ·exact Or.inl h
 ·have hb:b≠g:=by
   rcases ha _ _ _ h2 with e|e
   ·exact absurd (List.length_eq_zero_iff.1 e) h1
   ·exact e
  exact Or.inr ⟨b,off,cap,h1,h2,h3,h4,by rw[ho.size];exact h5,fun i hi=>(ho.cell (p:=⟨b,off+i,none⟩) hb).trans (h6 i hi)⟩
theorem Rd.apart{w:World}{v:Value}{p:List UInt8}{g:Nat}(h:Rd w v p)(hg:w.heap.size<=g):Apart g v:=by
 intro x n c e
 rcases h with⟨a,c',_,e2,_⟩|⟨b,off,cap,h1,h2,h3,h4,h5,h6⟩
 ·subst e2;simp at e;exact Or.inl e.2.1.symm
 ·subst h2;simp at e;obtain⟨rfl,rfl,rfl⟩:=e;exact Or.inr (by show b≠g;omega)
theorem RowF.only{g g':Nat}{w w':World}{base e L C:Nat}{f:Nat->UInt8}(h:RowF w base e g L C f)(hg:g≠g')(o:Only g' w w'):RowF w' base e g L C f:=by
 obtain⟨h0,h|⟨g2,cap,cur,hv,hgg,hh,r⟩⟩:=h
 ·exact⟨h0,Or.inl h⟩
 ·refine⟨h0,Or.inr ⟨g2,cap,cur,hv,hgg,?_,r⟩⟩;have eg:g2=g:=by simp at hv;exact hv.1.symm
  rw[o.block g2 (by rw[eg];exact hg)];exact hh
theorem Only.drewN{g:Nat}{a w:World}(h:Only g a w)(n:Nat):Only g a (w.drewN n):=⟨h.os,h.tape,h.output,h.size,h.block⟩
theorem apart_block{g b off n c:Nat}(h:b≠g):Apart g (.slice (some ⟨b,off,none⟩) n c):=by
 intro x n' c' e;simp at e;obtain⟨rfl,_⟩:=e;exact Or.inr h
theorem Only.frozen{g:Nat}{w w':World}(h:Only g w w'){p:Addr}(hp:p.block≠g):w'.frozen? p=w.frozen? p:=World.frozen?_of_block (w:=w) (h.block p.block hp)
theorem info_u8:(Tryz.prog.info? 5).map (fun i=>(i.zero,i.size,i.bytes))=some (some (.int .u8 0),1,1):=Zk
structure IsDiv(p q s r:List UInt8):Prop where
 ns:norm s=s
 nr:norm r=r
 eqn:∀i,co p i=conv (co s) (co q) i^^^co r i
 less:r.length<(norm q).length
 ls:s.length<=p.length
 lr:r.length<=p.length
structure DivInv(p q fs fr:Nat->UInt8)(n m j:Nat):Prop where
 eqn:∀t,p t=conv fs q t^^^fr t
 top:Fin0 fr (j+(m-1))
 low:∀t,t<j->fs t=0
 fin:Fin0 fs n
theorem conv_set{fs fs' q:Nat->UInt8}{i:Nat}{c:UInt8}(h0:fs i=0)(h:∀t,fs' t=if t=i then c else fs t)(t:Nat):
  conv fs' q t=conv fs q t^^^(if i<=t then mu c (q (t-i))else 0):=by
 have e:∀j,fs' j=fs j^^^(if j=i then c else 0):=by
  intro j;rw[h]
  by_cases ej:j=i
  ·subst ej;rw[if_pos rfl,if_pos rfl,h0,zero_x]
  ·rw[if_neg ej,if_neg ej,x_zero]
 have e1:conv fs' q t=conv fs q t^^^S (t+1) (fun j=>mu (if j=i then c else 0) (q (t-j))):=by
  unfold conv;rw[<-S_xor];exact S_congr fun j _=>by rw[e,xor_mu]
 rw[e1];congr 1
 by_cases hit:i<=t
 ·rw[if_pos hit,S_one (k:=i) Zo (fun j _ hj=>by rw[if_neg hj,zero_mu])];rw[if_pos rfl]
 ·rw[if_neg hit];exact S_zero fun j hj=>by rw[if_neg Zo,zero_mu]
def rk(fr q:Nat->UInt8)(c:UInt8)(i k t:Nat):UInt8:=fr t^^^(if i<=t/\t<i+k then mu c (q (t-i))else 0)
theorem DivInv.step{p q fs fs' fr:Nat->UInt8}{n m i:Nat}(h:DivInv p q fs fr n m (i+1))(hm:0<m)(hq:Fin0 q m)(ht:q (m-1)≠0)(hin:i<n)
  (hs:∀t,fs' t=if t=i then mu (fr (i+m-1)) (iv (q (m-1)))else fs t):DivInv p q fs' (rk fr q (mu (fr (i+m-1)) (iv (q (m-1)))) i m) n m i:=by
 have c0:=h.low i Zo;refine⟨fun t=>?_,fun t htt=>?_,fun t htt=>?_,fun t htt=>?_⟩
 ·rw[h.eqn t,conv_set c0 hs t];unfold rk;rw[x_assoc];congr 1
  by_cases hit:i<=t
  ·rw[if_pos hit]
   by_cases h2:t<i+m
   ·rw[if_pos ⟨hit,h2⟩,x_left,x_self,x_zero]
   ·rw[if_neg Zo,hq (t-i) Zo,mu_zero,zero_x,x_zero]
  ·rw[if_neg hit,if_neg Zo,zero_x,x_zero]
 ·unfold rk
  by_cases e:t=i+(m-1)
  ·subst e;rw[if_pos Zo,show i+(m-1)-i=m-1 by omega,show i+m-1=i+(m-1) by omega,mu_assoc,mu_comm (iv (q (m-1))),mu_iv ht,mu_one,x_self]
  ·rw[if_neg Zo,x_zero];exact h.top t Zo
 ·rw[hs,if_neg Zo];exact h.low t Zo
 ·rw[hs,if_neg Zo];exact h.fin t htt
theorem DivInv.start{p q:Nat->UInt8}{n m:Nat}(hp:Fin0 p n)(j:Nat)(hj:n<=j+(m-1)):DivInv p q (fun _=>0) p n m j:=
 ⟨fun t=>by rw[conv_comm,conv_zero (fun _=>rfl),zero_x],hp.mono hj,fun _ _=>rfl,fun _ _=>rfl⟩
theorem div_done{p q:List UInt8}{fs fr:Nat->UInt8}{n m:Nat}(h:DivInv (co p) (co q) fs fr n m 0)(hm:(norm q).length=m)(hm0:0<m)(hn:n<=p.length)(hfr:Fin0 fr n):IsDiv p q (mk fs n) (mk fr n):=by
 refine⟨norm_mk h.fin,norm_mk hfr,fun i=>?_,?_,?_,?_⟩
 ·rw[co_mk h.fin,co_mk hfr];exact h.eqn i
 ·rw[mk_length,hm]
  have:deg fr n<=m-1:=by
   have ht:=h.top;rw[Nat.zero_add]at ht
   by_cases e:deg fr n<=m-1
   ·exact e
   ·exact absurd (ht (deg fr n-1) Zo) (deg_top fr n Zo)
  omega
 ·rw[mk_length];have:=deg_le fs n;omega
 ·rw[mk_length];have:=deg_le fr n;omega
def Makes(w:World)(p:List UInt8)(e:Ending)(w':World):Prop:=∃v,e= .returned v/\Rd w' v p/\Below w.heap.size w w'
def Far(N:Nat)(v:Value):Prop:=∀x n c,v= .slice (some x) n c->N<=x.block
theorem far_none{N n c:Nat}:Far N (.slice none n c):=fun _ _ _ h=>by simp at h
theorem far_some{N:Nat}{x:Addr}{n c:Nat}(h:N<=x.block):Far N (.slice (some x) n c):=fun _ _ _ e=>by simp at e;rw[<-e.1];exact h
theorem Far.mono{N M:Nat}{v:Value}(h:Far N v)(k:M<=N):Far M v:=fun x n c e=>Nat.le_trans k (h x n c e)
def MakesF(w:World)(p:List UInt8)(e:Ending)(w':World):Prop:=∃v,e= .returned v/\Rd w' v p/\Below w.heap.size w w'/\Far w.heap.size v
theorem MakesF.plain{w:World}{p:List UInt8}{e:Ending}{w':World}(h:MakesF w p e w'):Makes w p e w':=by
 obtain⟨v,a,b,c,_⟩:=h;exact⟨v,a,b,c⟩
def MakesDivF(w:World)(p q:List UInt8)(e:Ending)(w':World):Prop:=∃vs vr s r,e= .returned (.tuple #[vs,vr,.int .i64 0])/\IsDiv p q s r/\Rd w' vs s/\Rd w' vr r/\Below w.heap.size w w'/\Far w.heap.size vs/\Far w.heap.size vr
theorem FieldAt.below{w w':World}{b:Nat}(h:FieldAt w b)(o:Below w.heap.size w w'):FieldAt w' b:=
 ⟨fun i hi=>(o.cell (p:=⟨b,i,none⟩) h.lt).trans (h.powers i hi),fun i hi=>(o.cell (p:=⟨b,255+i,none⟩) h.lt).trans (h.places i hi),Zu h.lt o.size⟩
theorem Below.next{w w1 w2:World}(h:Below w.heap.size w w1)(k:Below w1.heap.size w1 w2):Below w.heap.size w w2:=h.trans (k.mono h.size)
theorem below_draws(w:World)(n:Nat):Below w.heap.size w (w.drewN n):=⟨rfl,rfl,rfl,Zr,fun _ _=>rfl⟩
theorem FieldAt.only{g b:Nat}{w w':World}(h:FieldAt w b)(hb:b≠g)(o:Only g w w'):FieldAt w' b:=
 ⟨fun i hi=>(o.cell (p:=⟨b,i,none⟩) hb).trans (h.powers i hi),fun i hi=>(o.cell (p:=⟨b,255+i,none⟩) hb).trans (h.places i hi),by rw[o.size];exact h.lt⟩
def sameB(p q:List UInt8):Bool:=decide (p=q)
theorem sameB_self(p:List UInt8):sameB p p=true:=Zy rfl
theorem sameB_of{p q:List UInt8}(h:p=q):sameB p q=true:=Zy h
theorem same_len(a b:Option Addr)(n m c d:Nat)(w:World)(h:n≠m):
  Calls Tryz.prog 25 #[.slice a n c,.slice b m d] w fun e w'=>e= .returned (.bool false)/\w'=w:=by
 have hb:((n:Int)!=(m:Int))=true:=Zm
 go_enter Tryz.func25,Tryz.ntmps25
 go_wp2;go_ret;exact⟨rfl,rfl⟩
theorem same_nil(a b:Option Addr)(c d:Nat)(w:World):
  Calls Tryz.prog 25 #[.slice a 0 c,.slice b 0 d] w fun e w'=>e= .returned (.bool true)/\w'=w:=by
 go_enter Tryz.func25,Tryz.ntmps25
 go_wp2
 go_loop [5] (fun i=>i= .int .i64 0) (fun _=>0)
 case atStart=>rfl
 case round=>
  subst hrel;go_wp2;go_ret;exact⟨rfl,rfl⟩
theorem same_main(b off b' off' c d:Nat)(p q:List UInt8)(w:World)(hl:q.length=p.length)(hm:p.length<=9223372036854775807)
  (hp:∀i,i<p.length->w.cell? ⟨b,off+i,none⟩=some (.int .u8 ((co p i).toNat:Nat)))
  (hq:∀i,i<p.length->w.cell? ⟨b',off'+i,none⟩=some (.int .u8 ((co q i).toNat:Nat))):
  Calls Tryz.prog 25 #[.slice (some ⟨b,off,none⟩) p.length c,.slice (some ⟨b',off',none⟩) p.length d] w fun e w'=>e= .returned (.bool (sameB p q))/\∃n,w'=w.drewN n:=by
 have hb:((p.length:Int)!=(p.length:Int))=false:=Zs
 go_enter Tryz.func25,Tryz.ntmps25
 go_wp2;clear hb
 go_loopw [5] (fun i wr=>∃k:Nat,k<=p.length/\i= .int .i64 k/\Hid (∀j,j<k->co p j=co q j)/\∃n,wr=w.drewN n) (fun i _=>p.length-(intOf i).toNat)
 case atStart=>exact⟨0,Zo,rfl,fun j hj=>Zo,0,rfl⟩
 case round=>
  obtain⟨k,hk,rfl,hs,nd,rfl⟩:=hrel
  by_cases hlt:k<p.length
  ·have c1:=hp k hlt;have c2:=hq k hlt
   by_cases e:co p k=co q k
   ·have hn:((((co p k).toNat:Nat):Int)!=(((co q k).toNat:Nat):Int))=false:=by rw[ne_u8];simp[e]
    have HS:Hid (∀j,j<k+1->co p j=co q j):=fun j hj=>by
     by_cases e2:j=k
     ·rw[e2];exact e
     ·exact hs.out j Zo
    clear e hp hq hs;go_wp2
    go_quiet (fail)
    go_wp2;go_roundw
    case rel=>exact⟨k+1,Zo,Zg,HS,_,rfl⟩
    case measure=>simp[intOf];omega
   ·have hn:((((co p k).toNat:Nat):Int)!=(((co q k).toNat:Nat):Int))=true:=by rw[ne_u8];simp[e]
    have E:Hid (sameB p q=false):=by
     refine Zx (fun h=>e ?_);rw[h]
    clear e hp hq hs;go_wp2
    go_quiet (fail)
    go_wp2;go_ret;exact⟨by rw[E.out];rfl,_,World.drewN_drewN _ _ _⟩
  ·have E:Hid (sameB p q=true):=sameB_of (co_ext hl.symm (fun i hi=>hs.out i Zo));clear hp hq hs;go_wp2;go_ret;exact⟨by rw[E.out];rfl,_,rfl⟩
theorem same_any{va vb:Value}{p q:List UInt8}{w:World}(hp:Rd w va p)(hq:Rd w vb q):
  Calls Tryz.prog 25 #[va,vb] w fun e w'=>e= .returned (.bool (sameB p q))/\∃n,w'=w.drewN n:=by
 have l1:=hp.len;have l2:=hq.len;unfold maxLen at l1 l2
 by_cases hl:p.length=q.length
 ·rcases hp with⟨a,c,rfl,rfl,_⟩|⟨b,off,c,hp0,rfl,_,_,_,hpc⟩
  ·have:q=[]:=List.length_eq_zero_iff.1 (by simpa using hl.symm)
   subst this
   rcases hq with⟨a',c',_,rfl,_⟩|⟨_,_,_,h,_⟩
   ·exact(same_nil a a' c c' w).mono fun e w' ⟨he,hw⟩=>⟨by rw[he,sameB_self],0,hw⟩
   ·exact absurd rfl h
  ·rcases hq with⟨a',c',rfl,rfl,_⟩|⟨b',off',c',hq0,rfl,_,_,_,hqc⟩
   ·exact absurd (List.length_eq_zero_iff.1 hl) hp0
   ·rw[<-hl];exact same_main b off b' off' c c' p q w hl.symm Zo hpc (fun i hi=>hqc i Zo)
 ·have E:sameB p q=false:=Zx (fun h=>hl (by rw[h]));have key:∃a n c,va= .slice a n c/\n=p.length:=by
   rcases hp with⟨a,c,rfl,rfl,_⟩|⟨b,off,c,hp0,rfl,_⟩
   ·exact⟨_,_,_,rfl,rfl⟩
   ·exact⟨_,_,_,rfl,rfl⟩
  have key2:∃a n c,vb= .slice a n c/\n=q.length:=by
   rcases hq with⟨a,c,rfl,rfl,_⟩|⟨b,off,c,hp0,rfl,_⟩
   ·exact⟨_,_,_,rfl,rfl⟩
   ·exact⟨_,_,_,rfl,rfl⟩
  obtain⟨a,n,c,rfl,rfl⟩:=key;obtain⟨a',n',c',rfl,rfl⟩:=key2;exact(same_len a a' _ _ c c' w hl).mono fun e w' ⟨he,hw⟩=>⟨by rw[he,E],0,hw⟩
theorem wpList_append_rd{P:Program}(w:World){ops:Array Oper}{rest:List Oper}{o:Oper}{a:Act}{Q:Exit->Act->World->Prop}(hgd:o.guard=none)(s x:Operand)(t:TypeId)
  (ho:o.op= .call {callee:=.builtin .append,args:=#[s,x],argTypes:=#[t,t]})
  (base:Nat) (e:TypeId) (i:TypeInfo) (ht:P.underlying t=some (.slice e)) (hi:P.info? e=some i) (hz:i.zero=some (.int .u8 0)) (hsize:i.size=1) (hby:i.bytes=1)
  (v:Value) (n:Nat) (xs:List Value) (hs:a.eval s=v) (hown:w.ownsRow base e 1 v n xs) (va:Value) (p:List UInt8) (hx:a.eval x=va) (hr:Rd w va p) (hl:n+p.length<=1000000) (hbase:base<=w.heap.size)
  (h:∀v' w',w'.ownsRow base e 1 v' (n+p.length) (xs++p.map vb)->w.grownBy w' v.ownBlock->wpList P ops Q rest (a.put o.dst v') w'):wpList P ops Q (o::rest) a w:=by
 rcases hr with⟨ao,cap,rfl,rfl,hc,hn⟩|⟨b,off,cap,hp0,rfl,h1,h2,h3,hpc⟩
 ·rcases ao with _|ad
  ·have:=hn rfl;subst this;refine wpList_append_own_none hgd s x t ho base e i 1 ht hi v n xs hs hown hx ?_
   exact h v w (by simpa using hown) (World.grownBy.refl _ _)
  ·refine wpList_append_own w hgd s x t ho base e i (.int .u8 0) 1 1 ht hi hz hsize hby rfl Zd v n xs hs hown ad 0 cap [] hx rfl (by intro j u hj;simp at hj) (by intro u hu;simp at hu) Zl Zo hbase ?_
   intro v' w' ho' hg' _;exact h v' w' (by simpa using ho') hg'
 ·refine wpList_append_own w hgd s x t ho base e i (.int .u8 0) 1 1 ht hi hz hsize hby rfl Zd v n xs hs hown ⟨b,off,none⟩ p.length cap ((p.take p.length).map vb) hx Zs (news_of hpc) (vb_one _) Zl Zo hbase ?_
  intro v' w' ho' hg' _;exact h v' w' (by simpa using ho') hg'
theorem norm_length(p:List UInt8):(norm p).length=deg (co p) p.length:=mk_length _ _
theorem norm_length_le(p:List UInt8):(norm p).length<=p.length:=by rw[norm_length];exact deg_le _ _
theorem norm_norm(p:List UInt8):norm (norm p)=norm p:=norm_mk (co_fin p)
theorem mulP_length_le(p q:List UInt8):(mulP p q).length<=p.length+q.length:=by rw[mulP,mk_length];exact deg_le _ _
theorem mulP_comm(p q:List UInt8):mulP p q=mulP q p:=mk_ext (fin_conv _ _) (fin_conv _ _) (conv_comm _ _)
theorem mulP_length(p q:List UInt8):(mulP p q).length=if (norm p).length=0∨(norm q).length=0 then 0 else (norm p).length+(norm q).length-1:=by
 rw[mulP,mk_length,norm_length,norm_length];exact deg_conv (co_fin p) (co_fin q) (fin_conv p q)
theorem topg_step{f:Nat->UInt8}{k:Nat}(hk:0<k)(h:f (k-1)=0):deg f k=deg f (k-1):=by
 obtain⟨j,rfl⟩:∃j,k=j+1:=⟨k-1,Zo⟩;rw[Nat.add_sub_cancel]at h ⊢;rw[deg,if_pos h]
theorem topg_stop{f:Nat->UInt8}{k:Nat}(h:k=0∨f (k-1)≠0):deg f k=k:=by
 match k,h with
 |0,_=>rfl
 |j+1,h=>
  rw[Nat.add_sub_cancel]at h;rw[deg,if_neg (by simpa using h)]
def lenV:Value->Nat
 | .slice _ n _=>n
 |_=>0
theorem top_main(b off c:Nat)(p:List UInt8)(w:World)(hl:p.length<=140737488355328)(hm:p.length<=c)(hcm:c<=maxLen)
  (hp:∀i,i<p.length->w.cell? ⟨b,off+i,none⟩=some (.int .u8 ((co p i).toNat:Nat))):
  Calls Tryz.prog 202 #[.slice (some ⟨b,off,none⟩) p.length c] w fun e w'=>e= .returned (.slice (some ⟨b,off,none⟩) (norm p).length c)/\w'=w:=by
 unfold maxLen at hcm
 go_enter Tryz.func202,Tryz.ntmps202
 go_wp2
 go_loop [0] (fun v=>∃k:Nat,k<=p.length/\v= .slice (some ⟨b,off,none⟩) k c/\Hid (deg (co p) p.length=deg (co p) k)) (fun v=>lenV v)
 case atStart=>exact⟨p.length,Zr,rfl,rfl⟩
 case round=>
  obtain⟨k,hk,rfl,hd⟩:=hrel
  by_cases hgo:0<k/\co p (k-1)=0
  ·obtain⟨h0,hz⟩:=hgo;have c1:w.cell? ⟨b,off+(k-1),none⟩=some (.int .u8 0):=by rw[hp (k-1) Zo,hz];rfl
   have HD:Hid (deg (co p) p.length=deg (co p) (k-1)):=by show _=_;rw[hd.out];exact topg_step h0 hz
   clear hz hd;go_wp2
   go_round
   case rel=>exact⟨k-1,Zo,Zg,HD⟩
   case measure=>simp[lenV];omega
  ·have hstop:k=0∨co p (k-1)≠0:=by
    by_cases h0:k=0
    ·exact Or.inl h0
    ·exact Or.inr (fun h=>hgo ⟨Zo,h⟩)
   have HK:Hid ((norm p).length=k):=by show _=_;rw[norm_length,hd.out];exact topg_stop hstop
   clear hd hgo
   by_cases h0:k=0
   ·subst h0;clear hp hstop;go_wp2;go_ret;exact⟨by rw[HK.out];rfl,rfl⟩
   ·have hne:=hstop.resolve_left h0;have c1:=hp (k-1) Zo;have c2:((((co p (k-1)).toNat:Nat):Int)==0)=false:=by rw[eq_u8_zero];simpa using hne
    clear hne hstop hp;go_wp2;go_ret;exact⟨by rw[HK.out];rfl,rfl⟩
theorem top_nil(ao:Option Addr)(c:Nat)(w:World):
  Calls Tryz.prog 202 #[.slice ao 0 c] w fun e w'=>e= .returned (.slice ao 0 c)/\w'=w:=by
 go_enter Tryz.func202,Tryz.ntmps202
 go_wp2
 go_loop [0] (fun v=>v= .slice ao 0 c) (fun v=>0)
 case atStart=>rfl
 case round=>
  subst hrel;go_wp2;go_ret;exact⟨rfl,rfl⟩
theorem Rd.n{w:World}{ao:Option Addr}{n c:Nat}{p:List UInt8}(h:Rd w (.slice ao n c) p):n=p.length:=by
 obtain⟨a,c',e⟩:=h.form;simp at e;exact e.2.1
theorem Rd.part{w:World}{ao:Option Addr}{n c:Nat}{p:List UInt8}(h:Rd w (.slice ao n c) p):Rd w (.slice ao (norm p).length c) (norm p):=by
 by_cases h0:norm p=[]
 ·rw[h0]
  rcases h with⟨a,c',e1,e2,hc,hn⟩|⟨b,off,c',hp0,e2,h1,h2,h3,hpc⟩
  ·simp at e2;obtain⟨rfl,_,rfl⟩:=e2;exact Or.inl ⟨_,_,rfl,rfl,hc,hn⟩
  ·simp at e2;obtain⟨rfl,rfl,rfl⟩:=e2;exact Or.inl ⟨_,_,rfl,rfl,h2,fun h=>by cases h⟩
 ·have hle:=norm_length_le p
  rcases h with⟨a,c',e1,e2,hc,hn⟩|⟨b,off,c',hp0,e2,h1,h2,h3,hpc⟩
  ·subst e1;exact absurd rfl h0
  ·simp at e2;obtain⟨rfl,rfl,rfl⟩:=e2;exact Or.inr ⟨b,off,_,h0,rfl,Nat.le_trans hle h1,h2,h3,fun i hi=>by rw[co_norm];exact hpc i (Zu hi hle)⟩
theorem top_any{ao:Option Addr}{n c:Nat}{p:List UInt8}{w:World}(hp:Rd w (.slice ao n c) p)(hl:p.length<=140737488355328):
  Calls Tryz.prog 202 #[.slice ao n c] w fun e w'=>e= .returned (.slice ao (norm p).length c)/\w'=w:=by
 have hn:=hp.n;subst hn
 rcases hp with⟨a,c',rfl,e2,hc,hn⟩|⟨b,off,c',hp0,e2,h1,h2,h3,hpc⟩
 ·exact top_nil ao c w
 ·simp at e2;obtain⟨rfl,rfl⟩:=e2;exact top_main b off _ p w hl h1 h2 hpc
theorem rd_nil_any{w:World}:Rd w (.slice none 0 0) []:=Or.inl ⟨none,0,rfl,rfl,Zz,fun _=>rfl⟩
theorem fmu_at{b:Nat}{w:World}(hF:FieldAt w b)(a c:UInt8){x y:Int}(hx:x=((a.toNat:Nat):Int))(hy:y=((c.toNat:Nat):Int)):
  Calls Tryz.prog 188 #[.pointer (some ⟨b,0,none⟩),.int .u8 x,.int .u8 y] w fun e w'=>e= .returned (.int .u8 ((mu a c).toNat:Nat))/\Below w.heap.size w w':=by
 rw[mu_toNat];exact(mul_at hF a.toNat c.toNat hx hy (u8_lt a) (u8_lt c)).mono fun e w' ⟨he,n,hw⟩=>⟨he,by rw[hw];exact below_draws w n⟩
theorem pder_even{f:Nat->UInt8}{k:Nat}(h:k%2=0):der f k=f (k+1):=by unfold der od;rw[if_pos Zo]
theorem pder_odd{f:Nat->UInt8}{k:Nat}(h:k%2=1):der f k=0:=by unfold der od;rw[if_neg Zo]
def dk(f:Nat->UInt8)(k t:Nat):UInt8:=if t<k then der f t else 0
theorem dk_zero(f:Nat->UInt8)(t:Nat):dk f 0 t=0:=if_neg Zo
theorem z2_1{p:Prop} (h:p:=by
 by_cases h2:t<k
 ·rw[if_pos h2,if_pos Zo]
 ·rw[if_neg h2,if_neg Zo]
 ):p:=h
theorem dk_even{f:Nat->UInt8}{k:Nat}(h:k%2=0)(t:Nat):dk f (k+1) t=if t=k then f (k+1)else dk f k t:=by
 unfold dk
 by_cases e:t=k
 ·subst e;rw[if_pos Zo,if_pos rfl,pder_even h]
 ·rw[if_neg e];exact z2_1
theorem dk_odd{f:Nat->UInt8}{k:Nat}(h:k%2=1):dk f (k+1)=dk f k:=by
 funext t;unfold dk
 by_cases e:t=k
 ·subst e;rw[if_pos Zo,if_neg Zo,pder_odd h]
 ·exact z2_1
theorem pderiv_nil(a:Option Addr)(c:Nat)(w:World):
  Calls Tryz.prog 172 #[.slice a 0 c] w fun e w'=>e= .returned (.slice none 0 0)/\w'=w:=by
 go_enter Tryz.func172,Tryz.ntmps172
 go_wp2;go_ret;exact⟨rfl,rfl⟩
theorem pderiv_main(b off c:Nat)(p:List UInt8)(w:World)(hp0:p≠[])(hl:p.length<=1000000)(hb:b<w.heap.size)
  (hpc:∀i,i<p.length->w.cell? ⟨b,off+i,none⟩=some (.int .u8 ((co p i).toNat:Nat))):
  Calls Tryz.prog 172 #[.slice (some ⟨b,off,none⟩) p.length c] w (Makes w (derP p)):=by
 obtain⟨i0,hi,hz0,hz1,hz2⟩:=info_parts info_u8;obtain⟨n,hn⟩:∃n,p.length=n+1:=⟨p.length-1,by have:=List.length_pos_iff.2 hp0;omega⟩;have HN:Hid (norm (upto (der (co p)) n)=derP p):=norm_upto (by have:=(co_fin p).der;rw[hn]at this;exact this) (fin_der p);have HU:Hid ((upto (der (co p)) n).length=n):=upto_length _ _;rw[hn]at hpc hl;simp only[hn];clear hp0 hn;have hnz:(((n:Int)+1)==0)=false:=Zm
 go_enter Tryz.func172,Tryz.ntmps172
 go_wp2_with (at_make;go_loud (refine wpList_make_full _ rfl (.tmp 10) (.tmp 10) 36 rfl w.heap.size 5 i0 (.int .u8 0) 1 Tryz.underlying36 hi hz0 hz1 _ _ _ _ n rfl rfl Zo Zo (by rw[hz2];omega) Zl Zr ?_);intro w1 hown1 hgrow1)
 have R1:=RowF.made hown1;have B1:Below w.heap.size w w1:=Zf.grown hgrow1 Zr (fun k h=>by cases h);clear hown1 hgrow1
 go_loopw [14] (fun i wr=>∃k:Nat,k<=n/\i= .int .i64 k/\RowF wr w.heap.size 5 w.heap.size n n (dk (co p) k)/\Below w.heap.size w wr) (fun i _=>n-(intOf i).toNat)
 case atStart=>exact⟨0,Zo,rfl,R1.congr (fun t _=>(dk_zero _ t).symm),B1⟩
 case round=>
  obtain⟨k,hk,rfl,hR,hB⟩:=hrel;clear R1 B1
  by_cases hlt:k<n
  ·by_cases hev:k%2=0
   ·have c1:wr.cell? ⟨b,off+(k+1),none⟩=some (.int .u8 (((co p (k+1)).toNat:Nat):Int)):=(hB.cell (p:=⟨b,off+(k+1),none⟩) hb).trans (hpc (k+1) Zo);have c2:=hR.cell hlt;have f1:=hR.unfrozen k;have N1:Hid _:=hR.store hlt (co p (k+1)) (dk_even hev);have N2:Hid _:=hB.setCell (p:=⟨w.heap.size,k,none⟩) Zr (.int .u8 (((co p (k+1)).toNat:Nat):Int));clear hpc hR hB;go_wp2;go_roundw
    case rel=>exact⟨k+1,Zo,Zg,N1.out,N2.out⟩
    case measure=>simp[intOf];omega
   ·have hev2:k%2=1:=by omega
    have N1:Hid (RowF wr w.heap.size 5 w.heap.size n n (dk (co p) (k+1))):=by rw[dk_odd hev2];exact hR
    clear hpc hR;go_wp2;go_roundw
    case rel=>exact⟨k+1,Zo,Zg,N1.out,hB⟩
    case measure=>simp[intOf];omega
  ·have e:k=n:=by omega
   subst e;have hR2:RowF wr w.heap.size 5 w.heap.size k k (der (co p)):=hR.congr (fun t ht=>if_pos ht);have hRd:=hR2.rd;have hRN:=hRd.part;clear hR hR2 hpc
   go_wp2_with fail
   refine(top_any hRd (by rw[HU.out];omega)).mono ?_
   rintro e w'' ⟨rfl,rfl⟩;go_wp2;go_ret;rw[<-HN.out];exact⟨_,rfl,hRN,hB⟩
theorem pderiv_any{v:Value}{p:List UInt8}{w:World}(hp:Rd w v p)(hl:p.length<=400000):
  Calls Tryz.prog 172 #[v] w (Makes w (derP p)):=by
 rcases hp with⟨a,c,rfl,rfl,hc,hn⟩|⟨b,off,c,hp0,rfl,h1,h2,h3,hpc⟩
 ·refine(pderiv_nil a c w).mono ?_
  rintro e w' ⟨rfl,rfl⟩;exact⟨_,rfl,rd_nil_any,Zf⟩
 ·exact pderiv_main b off c p w hp0 Zo h3 hpc
def hor(p:Nat->UInt8)(x:UInt8)(n k:Nat):UInt8:=ev k (fun i=>p (n-k+i)) x
theorem hor_step(p:Nat->UInt8)(x:UInt8)(n k:Nat)(h:k<n):hor p x n (k+1)=mu (hor p x n k) x^^^p (n-1-k):=by
 unfold hor ev;rw[S_head,S_mu,x_comm];congr 1
 ·refine S_congr fun i hi=>?_
  rw[pwr,mu_assoc]
  show mu (p (n-(k+1)+(i+1))) _=mu (p (n-k+i)) _
  rw[show n-(k+1)+(i+1)=n-k+i by omega]
 ·rw[pwr,mu_one]
  show p (n-(k+1)+0)=_
  rw[show n-(k+1)+0=n-1-k by omega]
theorem hor_all(p:List UInt8)(x:UInt8):hor (co p) x p.length p.length=evP p x:=by
 unfold hor evP ev;refine S_congr fun i _=>?_
 show mu (co p (p.length-p.length+i)) _=_
 rw[Nat.sub_self,Nat.zero_add]
theorem peval_quiet{b:Nat}{v:Value}{p:List UInt8}{w:World}(hF:FieldAt w b)(hp:Rd w v p)(x:UInt8){y:Int}(hy:y=((x.toNat:Nat):Int))(hl:p.length<=400000):
  Calls Tryz.prog 199 #[.pointer (some ⟨b,0,none⟩),v,.int .u8 y] w fun e w'=>e= .returned (.int .u8 ((evP p x).toNat:Nat))/\∃n,w'=w.drewN n:=by
 subst hy
 rcases hp with⟨a,c,rfl,rfl,hc,hn⟩|⟨bb,off,c,hp0,rfl,h1,h2,h3,hpc⟩
 ·have e:evP [] x=0:=rfl;have E:Hid _:=e;clear e
  go_enter Tryz.func199,Tryz.ntmps199
  go_wp2
  go_loop [7,13] (fun o i=>o= .int .u8 0/\i= .int .i64 0) (fun _ _=>0)
  case atStart=>exact⟨rfl,rfl⟩
  case round=>
   obtain⟨rfl,rfl⟩:=hrel;go_wp2;go_ret;exact⟨by rw[E.out];rfl,0,rfl⟩
 ·have HE:Hid _:=hor_all p x;clear hp0
  go_enter Tryz.func199,Tryz.ntmps199
  go_wp2
  go_loopw [7,13] (fun o i wr=>∃k:Nat,k<=p.length/\i= .int .i64 k/\o= .int .u8 ((hor (co p) x p.length k).toNat:Nat)/\∃d,Hid (wr=w.drewN d)) (fun _ i _=>p.length-(intOf i).toNat)
  case atStart=>exact⟨0,Zo,rfl,rfl,0,rfl⟩
  case round=>
   obtain⟨k,hk,rfl,rfl,d,hd⟩:=hrel
   by_cases hlt:k<p.length
   ·have c1:wr.cell? ⟨bb,off+(p.length-1-k),none⟩=some (.int .u8 ((co p (p.length-1-k)).toNat:Nat)):=by rw[hd.out];exact hpc (p.length-1-k) Zo
    obtain⟨t,ht⟩:∃t,t=p.length-1-k:=⟨_,rfl⟩;have hx:bits .xor .u8 (((mu (hor (co p) x p.length k) x).toNat:Nat):Int) (((co p t).toNat:Nat):Int)=(((hor (co p) x p.length (k+1)).toNat:Nat):Int):=by
     rw[hor_step _ _ _ _ hlt,<-ht];exact xor_u8 _ _
    have HX:Hid _:=hx;rw[<-ht]at c1;clear hpc;have g0:(p.length:Int)-1-(k:Int)=(t:Int):=Zo
    have htl:t<p.length:=Zo
    have gw1:IntKind.i64.wrap ((p.length:Int)-1)=(p.length:Int)-1:=Zw
    have gw3:IntKind.i64.wrap (t:Int)=(t:Int):=Zw
    have g1:(t:Int)<(p.length:Int):=Zo
    clear ht;have hFd:FieldAt wr b:=by rw[hd.out];exact hF.drewN d
    go_wp2
    go_quiet ((go_at_call 188;go_loud (exact Calls.quiet_of (fmu_quiet (hFd.drewN _) (hor (co p) x p.length k) x rfl rfl))))
    go_wp2;go_roundw
    case rel=>exact⟨k+1,Zo,Zg,by first|exact congrArg _ HX.out|(rw[<-HX.out,xor_u8]),_,by show _=_;rw[hd.out,World.drewN_drewN]⟩
    case measure=>simp[intOf];omega
   ·have e:k=p.length:=by omega
    subst e;clear hpc;go_wp2;go_ret;exact⟨by rw[<-HE.out];rfl,d,hd.out⟩
def addAt(f:Nat->UInt8)(o:Nat)(q:List UInt8)(t:Nat):UInt8:=f t^^^(if o<=t then co q (t-o)else 0)
def addK(f:Nat->UInt8)(o:Nat)(q:List UInt8)(k t:Nat):UInt8:=f t^^^(if o<=t/\t<o+k then co q (t-o)else 0)
theorem addK_zero(f:Nat->UInt8)(o:Nat)(q:List UInt8):addK f o q 0=f:=by
 funext t;unfold addK;rw[if_neg Zo,x_zero]
theorem addK_whole(f:Nat->UInt8)(o:Nat)(q:List UInt8):addK f o q q.length=addAt f o q:=by
 funext t;unfold addK addAt
 by_cases h:o<=t
 ·rw[if_pos h]
  by_cases h2:t<o+q.length
  ·rw[if_pos ⟨h,h2⟩]
  ·rw[if_neg Zo,co_ge Zo]
 ·rw[if_neg h,if_neg Zo]
theorem addK_step(f:Nat->UInt8)(o:Nat)(q:List UInt8)(k t:Nat):addK f o q (k+1) t=if t=o+k then addK f o q k (o+k)^^^co q k else addK f o q k t:=by
 by_cases e:t=o+k
 ·subst e;rw[if_pos rfl];unfold addK;rw[if_pos Zo,if_neg Zo,x_zero,show o+k-o=k by omega]
 ·rw[if_neg e];unfold addK
  by_cases h:o<=t/\t<o+k
  ·rw[if_pos h,if_pos Zo]
  ·rw[if_neg h,if_neg Zo]
def addAll(f:Nat->UInt8)(o:Nat)(ts:List (Value×List UInt8)):Nat->UInt8:=ts.foldl (fun f x=>addAt f o x.2) f
theorem addAll_step(f:Nat->UInt8)(o:Nat)(ts:List (Value×List UInt8)){j:Nat}{x:Value×List UInt8}(h:ts[j]? =some x):addAll f o (ts.take (j+1))=addAt (addAll f o (ts.take j)) o x.2:=by
 unfold addAll;rw[List.take_add_one,h];simp
theorem sum_into{w:World}{base u g L C o n c tb tc:Nat}{f:Nat->UInt8}(ts:List (Value×List UInt8))(hR:RowF w base u g L C f)(ho:o+n<=L)(hn:n<=140737488355328)(hL:L<=140737488355328)(htb:tb≠g)(htl:ts.length<=1000)
  (hts:∀j x,ts[j]? =some x->w.cell? ⟨tb,j,none⟩=some x.1/\Rd w x.1 x.2/\Apart g x.1/\x.2.length<=n):
  Calls Tryz.prog 203 #[.slice (some ⟨g,o,none⟩) n c,.slice (some ⟨tb,0,none⟩) ts.length tc] w fun e w'=>e= .returned (.tuple #[])/\Only g w w'/\RowF w' base u g L C (addAll f o ts):=by
 go_enter Tryz.func203,Tryz.ntmps203
 go_wp2
 go_loopw [9] (fun i wr=>∃j:Nat,j<=ts.length/\i= .int .i64 j/\Only g w wr/\RowF wr base u g L C (addAll f o (ts.take j))) (fun i _=>ts.length-(intOf i).toNat)
 case atStart=>exact⟨0,Zo,rfl,Only.refl _ _,hR⟩
 case round=>
  obtain⟨j,hj,rfl,hO,hRj⟩:=hrel;clear hR
  by_cases hlt:j<ts.length
  ·obtain⟨x,hx⟩:∃x,ts[j]? =some x:=⟨_,List.getElem?_eq_getElem hlt⟩
   obtain⟨c0,hrd,hap,hxl⟩:=hts j x hx;have HS:=addAll_step f o ts hx;have HS':Hid _:=HS;obtain⟨v,q⟩:=x;clear HS hts hx;have c1:wr.cell? ⟨tb,j,none⟩=some v:=(hO.cell (p:=⟨tb,j,none⟩) htb).trans c0;clear c0;obtain⟨fj,hfj⟩:∃fj,fj=addAll f o (ts.take j):=⟨_,rfl⟩;rw[<-hfj]at hRj HS';clear hfj;have R0:RowF wr base u g L C (addK fj o q 0):=by rw[addK_zero];exact hRj
   clear hRj;simp only at hrd hap hxl HS'
   rcases hrd with⟨a,cc,rfl,rfl,hc,hnn⟩|⟨b,off,cc,hq0,rfl,h1,h2,h3,hqc⟩
   ·go_wp2
    go_loopw [15] (fun i w2=>i= .int .i64 0/\w2=wr) (fun _ _=>0)
    case atStart=>exact⟨rfl,rfl⟩
    case round=>
     obtain⟨rfl,rfl⟩:=hrel;go_wp2;go_roundw
     case rel=>exact⟨j+1,Zo,Zg,hO,by rw[HS'.out,<-addK_whole];exact R0⟩
     case measure=>simp[intOf];omega
   ·have hb:b≠g:=by
     rcases hap _ _ _ rfl with e|e
     ·exact absurd (List.length_eq_zero_iff.1 e) hq0
     ·exact e
    clear hap;go_wp2
    go_loopw [15] (fun i w2=>∃l:Nat,l<=q.length/\i= .int .i64 l/\Only g w w2/\RowF w2 base u g L C (addK fj o q l)) (fun i _=>q.length-(intOf i).toNat)
    case atStart=>exact⟨0,Zo,rfl,hO,R0⟩
    case round=>
     obtain⟨l,hll,rfl,hO2,hR2⟩:=hrel;clear R0 hO c1
     by_cases hl3:l<q.length
     ·obtain⟨t,ht⟩:∃t,Hid (t=o+l):=⟨_,rfl⟩;have ht':=ht.out;have htl2:t<L:=by omega
      have k1:=hR2.cell htl2;have f1:=hR2.unfrozen t;have k3:=(hO2.cell (p:=⟨b,off+l,none⟩) hb).trans (hqc l hl3);have E:=xor_u8 (addK fj o q l t) (co q l);have N1:Hid (RowF (wr.setCell ⟨g,t,none⟩ (.int .u8 (((addK fj o q l t).toNat^^^(co q l).toNat:Nat):Int))) base u g L C (addK fj o q (l+1))):=by
       rw[<-UInt8.toNat_xor];exact hR2.store htl2 _ (by rw[ht'];exact addK_step fj o q l)
      have N2:Hid (Only g w (wr.setCell ⟨g,t,none⟩ (.int .u8 (((addK fj o q l t).toNat^^^(co q l).toNat:Nat):Int)))):=hO2.setCell t _;rw[ht']at k1 f1 E N1 N2;clear hqc hR2 hO2 ht ht' htl2;go_wp2
      go_region
      go_wp2;go_roundw
      case rel=>exact⟨l+1,Zo,Zg,N2.out.drew,N1.out.drew⟩
      case measure=>simp[intOf];omega
     ·have e:l=q.length:=by omega
      subst e;clear hqc;go_wp2;go_roundw
      case rel=>exact⟨j+1,Zo,Zg,hO2,by rw[HS'.out,<-addK_whole];exact hR2⟩
      case measure=>simp[intOf];omega
  ·have e:j=ts.length:=by omega
   subst e;rw[List.take_length]at hRj;clear hts;go_wp2
   go_end0
   exact⟨rfl,hO,hRj⟩
theorem sum_terms{w:World}{base u g L C o n c k kc:Nat}{f:Nat->UInt8}{tt:TypeId}{cs:Array Value}(ts:List (Value×List UInt8))(hR:RowF w base u g L C f)(ho:o+n<=L)(hL:L<=140737488355328)(hcs:cs.toList=ts.map (·.1))(hk:k=ts.length)(htl:ts.length<=1000)
  (hts:∀x∈ts,Rd w x.1 x.2/\Apart g x.1/\x.2.length<=n):
  Calls Tryz.prog 203 #[.slice (some ⟨g,o,none⟩) n c,.slice (some ⟨w.heap.size,0,none⟩) k kc] (w.alloc (.cells cs tt)) fun e w'=>e= .returned (.tuple #[])/\Only g (w.alloc (.cells cs tt)) w'/\RowF w' base u g L C (addAll f o ts):=by
 subst hk;have hB:Below w.heap.size w (w.alloc (.cells cs tt)):=Zf.alloc Zr _;have hg:=hR.lt;refine sum_into ts (hR.later hB) ho Zo hL Zo htl fun j x hx=>?_
 obtain⟨h1,h2,h3⟩:=hts x (List.mem_of_getElem? hx);refine⟨?_,h1.below hB,h2,h3⟩;rw[World.cell?_alloc_new,<-Array.getElem?_toList,hcs,List.getElem?_map,hx];rfl
end Go.Proofs.YtddnfhfangfgeaaGreat.Gf
