/- JOINED: CaMath, CaOk, CaRefC, CaRefA, CaRefP, CaRefG, CaCA, CaCB, CaCP. -/
import Derived.Deep.RegionLaw
import Derived.Test.YtddnfhfangfgeaaGreatPome5
import Derived.Shelf.Abstract
import Derived.Laws.EntriesVeiled
set_option maxHeartbeats 4000000
set_option maxRecDepth 100000
namespace Go.Proofs.YtddnfhfangfgeaaGreat.Gf
set_option linter.unusedVariables false
set_option linter.unusedSimpArgs false
def pt(n:Nat):UInt8:=UInt8.ofNat n
theorem pt_inj{a b:Nat}(ha:a<256)(hb:b<256)(h:pt a=pt b):a=b:=by
 have:=congrArg UInt8.toNat h;unfold pt at this;rw[UInt8.toNat_ofNat',UInt8.toNat_ofNat',Nat.mod_eq_of_lt ha,Nat.mod_eq_of_lt hb]at this;exact this
theorem pt_ne{a b:Nat}(ha:a<256)(hb:b<256)(h:a≠b):pt a^^^pt b≠0:=fun e=>h (pt_inj ha hb (x_eq_zero.1 e))
def parF(k:Nat):Mx:=fun i j=>iv (pt (k+i)^^^pt j)
def genF(k:Nat):Mx:=fun i j=>if i<k then one i j else parF k (i-k) j
theorem S_split(n m:Nat)(f:Nat->UInt8):S (n+m) f=S n f^^^S m (fun i=>f (n+i)):=by
 induction m with
 |zero=>rw[Nat.add_zero];show S n f=S n f^^^0;rw[x_zero]
 |succ m ih=>rw[<-Nat.add_assoc,S,ih,S,x_assoc]
def PF:Nat->(UInt8->UInt8)->Prop
 |0,f=>∀z,f z=0
 |k+1,f=>∃c h,PF k h/\∀z,f z=c^^^mu z (h z)
theorem PF.congr{k:Nat}{f g:UInt8->UInt8}(h:PF k f)(e:∀z,g z=f z):PF k g:=by
 cases k with
 |zero=>intro z;rw[e];exact h z
 |succ k=>obtain⟨c,h1,h2,h3⟩:=h;exact⟨c,h1,h2,fun z=>by rw[e];exact h3 z⟩
theorem PF.zero(k:Nat):PF k (fun _=>0):=by
 induction k with
 |zero=>intro z;rfl
 |succ k ih=>exact⟨0,fun _=>0,ih,fun z=>by rw[mu_zero,x_zero]⟩
theorem PF.mono{k:Nat}{f:UInt8->UInt8}(h:PF k f):PF (k+1) f:=by
 induction k generalizing f with
 |zero=>exact⟨0,fun _=>0,PF.zero 0,fun z=>by rw[h z,mu_zero,x_zero]⟩
 |succ k ih=>obtain⟨c,g,h1,h2⟩:=h;exact⟨c,g,ih h1,h2⟩
theorem PF.add{k:Nat}{f g:UInt8->UInt8}(hf:PF k f)(hg:PF k g):PF k (fun z=>f z^^^g z):=by
 induction k generalizing f g with
 |zero=>intro z;show f z^^^g z=0;rw[hf z,hg z];rfl
 |succ k ih=>
  obtain⟨c,f1,h1,h2⟩:=hf;obtain⟨d,g1,h3,h4⟩:=hg;refine⟨c^^^d,_,ih h1 h3,fun z=>?_⟩
  show f z^^^g z=c^^^d^^^mu z (f1 z^^^g1 z)
  rw[h2,h4,mu_xor,x_assoc,x_assoc,x_left (mu z (f1 z)) d]
theorem PF.smul{k:Nat}{f:UInt8->UInt8}(a:UInt8)(hf:PF k f):PF k (fun z=>mu a (f z)):=by
 induction k generalizing f with
 |zero=>intro z;show mu a (f z)=0;rw[hf z,mu_zero]
 |succ k ih=>
  obtain⟨c,f1,h1,h2⟩:=hf;refine⟨mu a c,_,ih h1,fun z=>?_⟩
  show mu a (f z)=mu a c^^^mu z (mu a (f1 z))
  rw[h2,mu_xor,mu_left a z]
theorem PF.lin{k:Nat}{f:UInt8->UInt8}(q:UInt8)(hf:PF k f):PF (k+1) (fun z=>mu (z^^^q) (f z)):=by
 have h1:PF (k+1) (fun z=>mu z (f z)):=⟨0,f,hf,fun z=>by rw[zero_x]⟩;exact(h1.add (hf.smul q).mono).congr fun z=>xor_mu _ _ _
theorem PF.const(c:UInt8):PF 1 (fun _=>c):=⟨c,fun _=>0,fun _=>rfl,fun z=>by rw[mu_zero,x_zero]⟩
theorem PF.sum{k n:Nat}{f:Nat->UInt8->UInt8}(h:∀j,j<n->PF k (f j)):PF k (fun z=>S n (fun j=>f j z)):=by
 induction n with
 |zero=>exact PF.zero k
 |succ n ih=>exact(ih fun j hj=>h j Zo).add (h n Zo)
theorem PF.div{k:Nat}{f:UInt8->UInt8}(r:UInt8)(hf:PF (k+1) f):∃g,PF k g/\∀z,f z=mu (z^^^r) (g z)^^^f r:=by
 induction k generalizing f with
 |zero=>
  obtain⟨c,f1,h1,h2⟩:=hf;exact⟨fun _=>0,fun _=>rfl,fun z=>by rw[h2 z,h2 r,h1 z,h1 r,mu_zero,mu_zero,mu_zero,zero_x]⟩
 |succ k ih=>
  obtain⟨c,f1,h1,h2⟩:=hf;obtain⟨g,hg,hz⟩:=ih h1;refine⟨fun z=>f1 r^^^mu z (g z),⟨f1 r,g,hg,fun z=>rfl⟩,fun z=>?_⟩
  show f z=mu (z^^^r) (f1 r^^^mu z (g z))^^^f r
  have e1:mu z (mu (z^^^r) (g z))=mu (z^^^r) (mu z (g z)):=mu_left _ _ _;rw[h2 z,h2 r,hz z,mu_xor,mu_xor,e1,xor_mu z r (f1 r)];generalize mu (z^^^r) (mu z (g z))=A;generalize mu z (f1 r)=B;generalize mu r (f1 r)=D;rw[x_assoc (B^^^D),x_left A c D,x_assoc B D,x_left D c,x_left D A,x_self,x_zero,x_left B c,x_comm B A]
theorem PF.roots{k:Nat}{f:UInt8->UInt8}(hf:PF k f)(rs:Nat->UInt8)(hd:∀i j,i<k->j<k->i≠j->rs i≠rs j)(hr:∀i,i<k->f (rs i)=0):∀z,f z=0:=by
 induction k generalizing f with
 |zero=>exact hf
 |succ k ih=>
  obtain⟨g,hg,hz⟩:=hf.div (rs k);rw[hr k Zo]at hz;have h0:=ih hg (fun i j hi hj=>hd i j Zo Zo) (fun i hi=>by
   have h1:=hr i Zo;rw[hz,x_zero]at h1
   rcases mu_eq_zero.1 h1 with h2|h2
   ·exact absurd (x_eq_zero.1 h2) (hd i k Zo Zo Zo)
   ·exact h2)
  intro z;rw[hz,h0 z,mu_zero,x_zero]
def PD(q:Nat->UInt8):Nat->UInt8->UInt8
 |0,_=>1
 |n+1,z=>mu (z^^^q n) (PD q n z)
def PE(q:Nat->UInt8)(j:Nat):Nat->UInt8->UInt8
 |0,_=>1
 |n+1,z=>if n=j then PE q j n z else mu (z^^^q n) (PE q j n z)
theorem PE_deg(q:Nat->UInt8)(j n:Nat):(j<n->PF n (PE q j n))/\(n<=j->PF (n+1) (PE q j n)):=by
 induction n with
 |zero=>exact⟨fun h=>Zo,fun _=>PF.const 1⟩
 |succ n ih=>
  refine⟨fun h=>?_,fun h=>?_⟩
  ·by_cases e:n=j
   ·exact(ih.2 Zo).congr fun z=>by rw[PE,if_pos e]
   ·exact((ih.1 Zo).lin (q n)).congr fun z=>by rw[PE,if_neg e]
  ·exact((ih.2 Zo).lin (q n)).congr fun z=>by rw[PE,if_neg Zo]
theorem PE_far(q:Nat->UInt8)(j n:Nat)(h:n<=j)(z:UInt8):PE q j n z=PD q n z:=by
 induction n with
 |zero=>rfl
 |succ n ih=>rw[PE,if_neg Zo,ih Zo,PD]
theorem PE_mul(q:Nat->UInt8){j n:Nat}(h:j<n)(z:UInt8):mu (z^^^q j) (PE q j n z)=PD q n z:=by
 induction n with
 |zero=>omega
 |succ n ih=>
  by_cases e:n=j
  ·subst e;rw[PE,if_pos rfl,PE_far q n n Zr,PD]
  ·rw[PE,if_neg e,mu_left,ih Zo,PD]
theorem PE_other(q:Nat->UInt8){j l n:Nat}(hl:l<n)(hj:l≠j):PE q j n (q l)=0:=by
 induction n with
 |zero=>omega
 |succ n ih=>
  by_cases e:n=l
  ·subst e;rw[PE,if_neg hj,x_self,zero_mu]
  ·have:=ih Zo;rw[PE,this,mu_zero];split<;>rfl
theorem PE_own(q:Nat->UInt8)(j n:Nat)(hd:∀l,l<n->l≠j->q j^^^q l≠0):PE q j n (q j)≠0:=by
 induction n with
 |zero=>exact(by decide:(1:UInt8)≠0)
 |succ n ih=>
  have h:=ih fun l hl=>hd l Zo
  rw[PE]
  split
  ·exact h
  ·exact mu_ne (hd n Zo Za) h
theorem gen_rows{k N:Nat}(hN:N<=256)(hk:k<=N)(rs:Nat->Nat)(hlt:∀i,i<k->rs i<N)(hd:∀i j,i<k->j<k->i≠j->rs i≠rs j):¬IsSing k (fun i j=>genF k (rs i) j):=by
 rintro⟨x,⟨j0,hj0,hx0⟩,hx⟩;have hf:PF k (fun z=>S k (fun j=>mu (x j) (PE pt j k z))):=PF.sum fun j hj=>((PE_deg pt j k).1 hj).smul (x j)
 have hz:=hf.roots (fun i=>pt (rs i)) (fun i j hi hj hij e=>hd i j hi hj hij (pt_inj (by have:=hlt i hi;omega) (by have:=hlt j hj;omega) e)) (fun i hi=>?_)
 ·have h1:=hz (pt j0);have h2:S k (fun j=>mu (x j) (PE pt j k (pt j0)))=mu (x j0) (PE pt j0 k (pt j0)):=S_one (k:=j0) hj0 fun j hj hne=>by rw[PE_other pt hj0 (fun e=>hne e.symm),mu_zero]
  have h3:mu (x j0) (PE pt j0 k (pt j0))=0:=by rw[<-h2];exact h1
  rcases mu_eq_zero.1 h3 with h4|h4
  ·exact hx0 h4
  ·exact PE_own pt j0 k (fun l hl hne=>pt_ne Zo Zo (fun e=>hne e.symm)) h4
 ·show S k (fun j=>mu (x j) (PE pt j k (pt (rs i))))=0
  have hr:=hlt i hi;have h0:=hx i hi
  by_cases hik:rs i<k
  ·have e1:x (rs i)=0:=by
    rw[<-h0];unfold mv;rw[S_one (k:=rs i) hik (fun j hj hne=>?_)]
    ·show x (rs i)=mu (genF k (rs i) (rs i)) (x (rs i));unfold genF;rw[if_pos hik,one_self,one_mu]
    ·show mu (genF k (rs i) j) (x j)=0;unfold genF;rw[if_pos hik,one_ne (fun h=>hne h.symm),zero_mu]
   rw[S_one (k:=rs i) hik (fun j hj hne=>by rw[PE_other pt hik (fun e=>hne e.symm),mu_zero]),e1,zero_mu]
  ·have e1:S k (fun j=>mu (x j) (PE pt j k (pt (rs i))))=mu (mv k (fun i j=>genF k (rs i) j) x i) (PD pt k (pt (rs i))):=by
    unfold mv;rw[S_mu];refine S_congr fun j hj=>?_
    show mu (x j) (PE pt j k (pt (rs i)))=mu (mu (genF k (rs i) j) (x j)) (PD pt k (pt (rs i)))
    have hne:pt (rs i)^^^pt j≠0:=pt_ne Zo Zo Zo;have e2:genF k (rs i) j=iv (pt (rs i)^^^pt j):=by
     unfold genF parF;rw[if_neg hik,show k+(rs i-k)=rs i by omega]
    rw[e2,<-PE_mul pt hj,mu_comm (iv _) (x j),mu_assoc,<-mu_assoc (iv _),mu_comm (iv _),mu_iv hne,one_mu]
   rw[e1,h0,zero_mu]
open Go.RowKit
def OkC(k m:Int):Prop:=1<=k/\0<=m/\k+m<=256
theorem OkC.nat{k m:Int}(h:OkC k m):∃k' m':Nat,k=(k':Int)/\m=(m':Int)/\1<=k'/\k'+m'<=256:=by
 obtain⟨h1,h2,h3⟩:=h;obtain⟨k',rfl⟩:=Int.eq_ofNat_of_zero_le (show 0<=k by omega);obtain⟨m',rfl⟩:=Int.eq_ofNat_of_zero_le h2;exact⟨k',m',rfl,rfl,Zo,Zo⟩
theorem okC_mk{k m:Nat}(h1:1<=k)(h2:k+m<=256):OkC k m:=⟨Zo,Zo,Zo⟩
theorem pt_toNat{n:Nat}(h:n<256):(pt n).toNat=n:=by unfold pt;rw[UInt8.toNat_ofNat'];exact Nat.mod_eq_of_lt h
theorem pt_xor{a b:Nat}(ha:a<256)(hb:b<256):bits .xor .u8 (a:Int) (b:Int)=(((pt a^^^pt b).toNat:Nat):Int):=by
 rw[u8_xor_nat _ _ ha hb,UInt8.toNat_xor,pt_toNat ha,pt_toNat hb]
theorem z7_6{p:Prop} (h:p:=by
 go_wp2;go_ret;exact⟨rfl,rfl⟩
 ):p:=h
theorem z7_2{p:Prop} (h:p:=by
 go_enter Tryz.func144,Tryz.ntmps144
 exact z7_6
 ):p:=h
theorem rccheck_ok{k m:Int}(w:World)(h:OkC k m):Calls Tryz.prog 144 #[.int .i64 k,.int .i64 m] w fun e w'=>e= .returned (.int .i64 0)/\w'=w:=by
 obtain⟨h1,h2,h3⟩:=h;have k1:decide (k<1)=false:=Zx Zo;have k2:decide (k>256)=false:=Zx Zo;have k3:decide (m<0)=false:=Zx Zo;have k4:decide (m>256)=false:=Zx Zo;have k5:decide (k+m>256)=false:=Zx Zo;have gw:IntKind.i64.wrap (k+m)=k+m:=Zw
 exact z7_2
theorem rccheck_bad{k m:Int}(w:World)(h:¬OkC k m):Calls Tryz.prog 144 #[.int .i64 k,.int .i64 m] w fun e w'=>e= .returned (.int .i64 50)/\w'=w:=by
 by_cases h1:k<1
 ·have k1:decide (k<1)=true:=Zy h1;clear h h1;exact z7_2
 have k1:decide (k<1)=false:=Zx h1
 by_cases h2:k>256
 ·have k2:decide (k>256)=true:=Zy h2;clear h h1 h2;exact z7_2
 have k2:decide (k>256)=false:=Zx h2
 by_cases h3:m<0
 ·have k3:decide (m<0)=true:=Zy h3;clear h h1 h2 h3;exact z7_2
 have k3:decide (m<0)=false:=Zx h3
 by_cases h4:m>256
 ·have k4:decide (m>256)=true:=Zy h4;clear h h1 h2 h3 h4;exact z7_2
 have k4:decide (m>256)=false:=Zx h4;have k5:decide (k+m>256)=true:=Zy (by
  by_cases h5:k+m<=256
  ·exact absurd ⟨Zo,Zo,h5⟩ h
  ·omega)
 have gw:IntKind.i64.wrap (k+m)=k+m:=Zw
 clear h h1 h2 h3 h4;exact z7_2
theorem rpart_any{k i j:Nat}(w:World)(hk:k+i<256)(hj:j<256){x y z:Int}(hx:x=(k:Int))(hy:y=(i:Int))(hz:z=(j:Int)):
  Calls Tryz.prog 145 #[.int .i64 x,.int .i64 y,.int .i64 z] w fun e w'=>e= .returned (.int .u8 ((parF k i j).toNat:Nat))/\w'=w:=by
 subst hx hy hz;obtain⟨t,ht⟩:∃t,Hid (t=k+i):=⟨_,rfl⟩;have g0:(k:Int)+(i:Int)=(t:Int):=by have:=ht.out;omega
 have ht2:t<256:=by have:=ht.out;omega
 have X:=pt_xor ht2 hj;have HP:Hid (parF k i j=iv (pt t^^^pt j)):=by show _=_;rw[ht.out];rfl
 have m1:(t:Int)%256=(t:Int):=Zo
 have m2:(j:Int)%256=(j:Int):=Zo
 obtain⟨u,hu⟩:∃u,Hid (u=pt t^^^pt j):=⟨_,rfl⟩;rw[<-hu.out]at X HP
 go_enter Tryz.func145,Tryz.ntmps145
 go_wp2_with fail
 refine(rinv_at u.toNat rfl (u8_lt u)).mono ?_
 rintro e w' ⟨rfl,rfl⟩;go_wp2;go_ret;exact⟨by rw[HP.out,iv_toNat];rfl,rfl⟩
theorem grown_drew{a b:World}{r:Option Nat}(h:a.drew.grownBy b r):a.grownBy b r:=⟨h.os,h.tape,h.output,h.size,h.block⟩
structure MakeM(w0 w:World)(ms:Nat)(R C:Int)(v:Value)(u T:Nat)(f:Nat->UInt8):Prop where
 box:Box w ms R C v
 free:Free w ms
 own:w.ownsRow (ms+1) u 1 v T ((upto f T).map vb)
 lt:ms<w.heap.size
 below:Below ms w0 w
theorem MakeM.push{w0 w w8:World}{ms u T:Nat}{R C:Int}{v x':Value}{f:Nat->UInt8}{o:Obj}(h:MakeM w0 w ms R C v u T f)(hg:(w.alloc o).grownBy w8 v.ownBlock)(hx:w8.ownsRow (ms+1) u 1 x' (T+1) ((upto f T).map vb++[f T].map vb)):
  MakeM w0 (w8.setCell ⟨ms,2,none⟩ x') ms R C x' u (T+1) f/\w8.cell? ⟨ms,2,none⟩=some v/\w8.frozen? ⟨ms,2,none⟩=false:=by
 have hvn:∀q,v.ownBlock=some q->ms+1<=q:=fun q hq=>(Zv h.own q hq).1
 have hvne:some ms≠v.ownBlock:=fun e=>by have:=hvn _ e.symm;omega
 have hl:=h.lt;have Y:=(h.box.alloc h.lt o).grown hg Zm hvne;have G:=(h.free.alloc h.lt o).grown hg Zm hvne;have hs:ms<w8.heap.size:=by have:=hg.size;simp at this;omega
 refine⟨⟨Y.set2 _,G.setCell _ _,?_,by simpa using hs,((h.below.alloc (Nat.le_of_lt h.lt) o).grown hg Zm (fun q hq=>by have:=hvn q hq;omega)).setCell Zr _⟩,Y.c2,G.f2⟩;have h1:w8.grownBy (w8.setCell ⟨ms,2,none⟩ x') (some ms):=by
  have O:=(Only.refl ms w8).setCell 2 x';exact⟨O.os,O.tape,O.output,by rw[O.size];exact Zr,fun q _ hq=>O.block q (fun e=>hq (by rw[e]))⟩
 refine World.ownsRow.kept (by rw[upto_vb_succ];exact hx) h1 ?_
 rcases hq:x'.ownBlock with _|q
 ·exact Or.inl rfl
 ·right;intro e;cases e;have:=(Zv hx _ hq).1;omega
theorem z7_4{p:Prop} (h:p:=by
 clear HM e;go_wp2;go_roundw
 case rel=>exact⟨r+1,v,Zo,Zg,HN.out⟩
 case measure=>simp[intOf];omega
 ):p:=h
theorem z7_5{p:Prop} (h:p:=by
 rw[<-pl_flat];refine Rd.owned (base:=ms+1) (e:=5) ?_
 rw[upto_length];rw[e]at HM;exact HM.own
 ):p:=h
theorem rpar_ok{k m:Nat}(w:World)(h1:1<=k)(h2:k+m<=256){x y:Int}(hx:x=(k:Int))(hy:y=(m:Int)):Calls Tryz.prog 99 #[.int .i64 x,.int .i64 y] w (MakesM w m k (parF k)):=by
 subst hx hy;obtain⟨i0,hi,hz0,hz1,hz2⟩:=info_parts info_u8;have hR:Hid (m=m):=rfl;have hC:Hid (k=k):=rfl;obtain⟨F,hF⟩:∃F,Hid (F=parF k):=⟨_,rfl⟩;have hR2:m<=256:=by have:=hR.out;omega
 have hC2:k<=256:=by have:=hC.out;omega
 rw[<-hF.out]
 go_enter Tryz.func99,Tryz.ntmps99
 go_wp2_with fail
 refine(rccheck_ok _ (okC_mk h1 h2)).mono ?_
 rintro e w2 ⟨rfl,hw⟩;subst hw;have Y0:MakeM (w.alloc (.cells #[.int .i64 0,.int .i64 0,.slice none 0 0] 148)) ((w.alloc (.cells #[.int .i64 0,.int .i64 0,.slice none 0 0] 148)).alloc (.cells #[.int .i64 (m:Int),.int .i64 (k:Int),.slice none 0 0] 148)) (w.heap.size+1) (m:Int) (k:Int) (.slice none 0 0) 5 0 (pl k F):=
  ⟨Box.new1 _ _ _ _ _ _,by have h:=Free.new (w.alloc (.cells #[.int .i64 0,.int .i64 0,.slice none 0 0] 148)) #[.int .i64 (m:Int),.int .i64 (k:Int),.slice none 0 0] 148;rwa[World.size_alloc]at h,World.ownsRow_nil _ _ _ _,Zs,Zf.alloc Zs _⟩
 have X3:=Box.new w 0 0 (.slice none 0 0) 148;have F3:=Free.new w #[.int .i64 0,.int .i64 0,.slice none 0 0] 148;have B0:Below w.heap.size w (w.alloc (.cells #[.int .i64 0,.int .i64 0,.slice none 0 0] 148)):=Zf.alloc Zr _;have s0:(w.alloc (.cells #[.int .i64 0,.int .i64 0,.slice none 0 0] 148)).heap.size=w.heap.size+1:=Zs
 go_wp2;generalize (w.alloc (.cells #[.int .i64 0,.int .i64 0,.slice none 0 0] 148)).alloc (.cells #[.int .i64 (m:Int),.int .i64 (k:Int),.slice none 0 0] 148)=w2 at*;generalize w.alloc (.cells #[.int .i64 0,.int .i64 0,.slice none 0 0] 148)=w1 at*;obtain⟨ms,hms⟩:∃ms,Hid (ms=w.heap.size+1):=⟨_,rfl⟩;rw[<-hms.out]at Y0 ⊢;have lt0:w.heap.size<ms:=by have:=hms.out;omega
 clear s0
 go_loopw [8] (fun i wr=>∃(r:Nat) (v:Value),r<=m/\i= .int .i64 r/\MakeM w1 wr ms (m:Int) (k:Int) v 5 (r*k) (pl k F)) (fun i _=>m-(intOf i).toNat)
 case atStart=>exact⟨0,.slice none 0 0,Zo,rfl,by rw[Nat.zero_mul];exact Y0⟩
 case round=>
  clear Y0;obtain⟨r,v,hr,rfl,HM⟩:=hrel
  by_cases hrR:r<m
  ·have hrR':(r:Int)<(m:Int):=by omega
   go_wp2
   go_loopw [9] (fun i w6=>∃(l:Nat) (v:Value),l<=k/\i= .int .i64 l/\MakeM w1 w6 ms (m:Int) (k:Int) v 5 (r*k+l) (pl k F)) (fun i _=>k-(intOf i).toNat)
   case atStart=>exact⟨0,v,Zo,rfl,HM⟩
   case round=>
    clear HM;obtain⟨l,v,hl,rfl,HM⟩:=hrel
    by_cases hlC:l<k
    ·have hlC':(l:Int)<(k:Int):=by omega
     obtain⟨T,hT⟩:∃T,Hid (T=r*k+l):=⟨_,rfl⟩;have hT2:T<=70000:=by have:=hT.out;have:=Nat.mul_le_mul (show r<=256 by omega) hC2;omega
     have HV:Hid (pl k F T=F r l):=by show _=_;rw[hT.out];exact pl_at F hlC
     have HT:Hid (T+1=r*k+(l+1)):=by show _=_;rw[hT.out];rfl
     rw[<-hT.out]at HM;obtain⟨av,cv,ev⟩:=owns_form HM.own;subst ev;have m2:=HM.box.c2;have n2:=HM.free.f2;have lt2:=HM.lt;have HE:Hid (F r l=parF k r l):=by show _=_;rw[hF.out]
     go_wp2
     go_region_law (first|(refine step_append_rd rfl (.tmp 31) (.tmp 36) 36 rfl (ms+1) 5 i0 Tryz.underlying36 hi hz0 hz1 hz2 (.slice av T cv) T _ rfl (World.ownsRow.alloc HM.own _) _ [F r l] rfl (rd_lit (n:=1) [F r l] rfl rfl Zd) Zm Zm ?_;intro x' w8 hx8 hg8;rw[show T+[F r l].length=T+1 from rfl,<-HV.out]at hx8;obtain⟨ax,cx,ex⟩:=owns_form hx8;subst ex;obtain⟨HN,m8,n8⟩:=HM.push (grown_drew hg8) hx8)|(go_simp;go_at_call 145;refine(rpart_any _ (by have:=hR.out;omega) (by have:=hC.out;omega) rfl rfl rfl).mono ?_;rintro e w9 ⟨rfl,rfl⟩;rw[<-HE.out]))
     all_goals
      have HN':Hid _:=HN;clear HN hx8 hg8 m8 n8 m2 n2 HM;go_wp2;go_roundw
      case rel=>exact⟨l+1,.slice ax (T+1) cx,Zo,Zg,by rw[<-HT.out];exact HN'.out⟩
      case measure=>simp[intOf];omega
    ·have e:l=k:=by omega
     have hge:¬(l:Int)<(k:Int):=Zo
     have HN:Hid (MakeM w1 wr ms (m:Int) (k:Int) v 5 ((r+1)*k) (pl k F)):=by
      show MakeM _ _ _ _ _ _ _ _ _
      rw[Nat.add_mul,Nat.one_mul];rw[e]at HM;exact HM
     exact z7_4
  ·have e:r=m:=by omega
   have hge:¬(r:Int)<(m:Int):=Zo
   have hRd:Rd wr v (flat m k F):=by
    exact z7_5
   have hvb:∀q,v.ownBlock=some q->ms+1<=q:=fun q hq=>(Zv HM.own q hq).1
   obtain⟨av,cv,ev⟩:=owns_form HM.own;have X4:=X3.below (B:=ms) Zo HM.below;have F4:=F3.below (B:=ms) Zo HM.below;have x30:=X4.c0;have x31:=X4.c1;have x32:=X4.c2;have f30:=F4.f0;have f31:=F4.f1;have f32:=F4.f2;have y0:=HM.box.c0;have y1:=HM.box.c1;have y2:=HM.box.c2;have B4:=B0.trans (HM.below.mono (show w.heap.size<=ms by omega));clear HM e;subst ev;go_wp2;have O1:Only w.heap.size wr (((wr.setCell ⟨w.heap.size,0,none⟩ (.int .i64 (m:Int))).setCell ⟨w.heap.size,1,none⟩ (.int .i64 (k:Int))).setCell ⟨w.heap.size,2,none⟩ (.slice av (r*k) cv)):=
    (((Only.refl _ _).setCell 0 _).setCell 1 _).setCell 2 _
   have hap:Apart w.heap.size (.slice av (r*k) cv):=fun x m' c' ex=>by
    right;intro eb;simp at ex;obtain⟨rfl,_⟩:=ex;have:=hvb x.block rfl;omega
   exact bodyPost_ret (v:=.tuple #[.agg #[.int .i64 (m:Int),.int .i64 (k:Int),.slice av (r*k) cv],.int .i64 0]) (by simp[results,Tryz.results99,go_sem,x30,x31,x32,f30,f31,f32]) rfl ⟨_,rfl,hRd.only hap O1,B4.trans (O1.below Zr)⟩
theorem rsame5_any{i j:Int}(w:World):Calls Tryz.prog 244 #[.int .i64 i,.int .i64 j] w fun e w'=>e= .returned (.int .u8 (if i=j then 1 else 0))/\w'=w:=by
 by_cases h:i=j
 ·rw[if_pos h];have d:(i==j)=true:=by rw[beq_iff_eq];exact h
  clear h
  go_enter Tryz.func244,Tryz.ntmps244
  exact z7_6
 ·rw[if_neg h];have d:(i==j)=false:=by rw[Zq];exact h
  clear h
  go_enter Tryz.func244,Tryz.ntmps244
  exact z7_6
theorem rsame5_nat{i j:Nat}(w:World){x y:Int}(hx:x=(i:Int))(hy:y=(j:Int)):Calls Tryz.prog 244 #[.int .i64 x,.int .i64 y] w fun e w'=>e= .returned (.int .u8 ((one i j).toNat:Nat))/\w'=w:=by
 subst hx hy;refine(rsame5_any w).mono ?_
 rintro e w' ⟨rfl,rfl⟩;refine⟨?_,rfl⟩
 by_cases h:i=j
 ·rw[if_pos Zo,h,one_self];rfl
 ·rw[if_neg Zo,one_ne h];rfl
theorem rgen_bad{k m:Int}(w:World)(h:¬OkC k m):Calls Tryz.prog 233 #[.int .i64 k,.int .i64 m] w (MakesErr w 50):=by
 go_enter Tryz.func233,Tryz.ntmps233
 go_wp2_with fail
 refine(rccheck_bad _ h).mono ?_
 rintro e w2 ⟨rfl,rfl⟩;go_wp2;refine bodyPost_ret (v:=.tuple #[.agg #[.int .i64 0,.int .i64 0,.slice none 0 0],.int .i64 50]) (by simp[results,Tryz.results233,go_sem]) rfl ⟨_,rfl,rd_none,by repeat (first|exact Zf|apply below_lit|refine Below.setCell ?_ Zr _)⟩
theorem z7_1{p:Prop} (h:p:=by
 rintro e w9 ⟨rfl,rfl⟩;rw[<-HE.out]
 go_wp2_with (at_builtin;refine wpList_append_rd2 _ rfl (.tmp 48) (.tmp 50) 36 rfl (ms+1) 5 i0 Tryz.underlying36 hi hz0 hz1 hz2 (.slice av T cv) T _ rfl (World.ownsRow.alloc HM.own _) _ [F r l] rfl (rd_lit (n:=1) [F r l] rfl rfl Zd) Zm Zm ?_;intro x' w8 hx8 hg8 hb8;rw[show T+[F r l].length=T+1 from rfl,<-HV.out]at hx8;obtain⟨ax,cx,ex⟩:=owns_form hx8;subst ex;obtain⟨HN,m8,n8⟩:=HM.push hg8 hx8)
 have HN':Hid _:=HN;clear HN hx8 hg8 hb8 m8 n8 m2 n2 HM;go_roundw
 case rel=>exact⟨l+1,.slice ax (T+1) cx,Zo,Zg,by rw[<-HT.out];exact HN'.out⟩
 case measure=>simp[intOf];omega
 ):p:=h
theorem rgen_ok{k m:Nat}(w:World)(h1:1<=k)(h2:k+m<=256){x y:Int}(hx:x=(k:Int))(hy:y=(m:Int)):Calls Tryz.prog 233 #[.int .i64 x,.int .i64 y] w (MakesM w (k+m) k (genF k)):=by
 subst hx hy;obtain⟨i0,hi,hz0,hz1,hz2⟩:=info_parts info_u8;obtain⟨R,hR⟩:∃R,Hid (R=(k+m)):=⟨_,rfl⟩;have hC:Hid (k=k):=rfl;obtain⟨F,hF⟩:∃F,Hid (F=genF k):=⟨_,rfl⟩;have hR2:R<=256:=by have:=hR.out;omega
 have hC2:k<=256:=by have:=hC.out;omega
 have gR:(k:Int)+(m:Int)=(R:Int):=by have:=hR.out;omega
 rw[<-hR.out];rw[<-hF.out]
 go_enter Tryz.func233,Tryz.ntmps233
 go_wp2_with fail
 refine(rccheck_ok _ (okC_mk h1 h2)).mono ?_
 rintro e w2 ⟨rfl,hw⟩;subst hw;have Y0:MakeM (w.alloc (.cells #[.int .i64 0,.int .i64 0,.slice none 0 0] 148)) ((w.alloc (.cells #[.int .i64 0,.int .i64 0,.slice none 0 0] 148)).alloc (.cells #[.int .i64 (R:Int),.int .i64 (k:Int),.slice none 0 0] 148)) (w.heap.size+1) (R:Int) (k:Int) (.slice none 0 0) 5 0 (pl k F):=
  ⟨Box.new1 _ _ _ _ _ _,by have h:=Free.new (w.alloc (.cells #[.int .i64 0,.int .i64 0,.slice none 0 0] 148)) #[.int .i64 (R:Int),.int .i64 (k:Int),.slice none 0 0] 148;rwa[World.size_alloc]at h,World.ownsRow_nil _ _ _ _,Zs,Zf.alloc Zs _⟩
 have X3:=Box.new w 0 0 (.slice none 0 0) 148;have F3:=Free.new w #[.int .i64 0,.int .i64 0,.slice none 0 0] 148;have B0:Below w.heap.size w (w.alloc (.cells #[.int .i64 0,.int .i64 0,.slice none 0 0] 148)):=Zf.alloc Zr _;have s0:(w.alloc (.cells #[.int .i64 0,.int .i64 0,.slice none 0 0] 148)).heap.size=w.heap.size+1:=Zs
 go_wp2;generalize (w.alloc (.cells #[.int .i64 0,.int .i64 0,.slice none 0 0] 148)).alloc (.cells #[.int .i64 (R:Int),.int .i64 (k:Int),.slice none 0 0] 148)=w2 at*;generalize w.alloc (.cells #[.int .i64 0,.int .i64 0,.slice none 0 0] 148)=w1 at*;obtain⟨ms,hms⟩:∃ms,Hid (ms=w.heap.size+1):=⟨_,rfl⟩;rw[<-hms.out]at Y0 ⊢;have lt0:w.heap.size<ms:=by have:=hms.out;omega
 clear s0
 go_loopw [8] (fun i wr=>∃(r:Nat) (v:Value),r<=R/\i= .int .i64 r/\MakeM w1 wr ms (R:Int) (k:Int) v 5 (r*k) (pl k F)) (fun i _=>R-(intOf i).toNat)
 case atStart=>exact⟨0,.slice none 0 0,Zo,rfl,by rw[Nat.zero_mul];exact Y0⟩
 case round=>
  clear Y0;obtain⟨r,v,hr,rfl,HM⟩:=hrel
  by_cases hrR:r<R
  ·have hrR':(r:Int)<(R:Int):=by omega
   go_wp2
   go_loopw [9] (fun i w6=>∃(l:Nat) (v:Value),l<=k/\i= .int .i64 l/\MakeM w1 w6 ms (R:Int) (k:Int) v 5 (r*k+l) (pl k F)) (fun i _=>k-(intOf i).toNat)
   case atStart=>exact⟨0,v,Zo,rfl,HM⟩
   case round=>
    clear HM;obtain⟨l,v,hl,rfl,HM⟩:=hrel
    by_cases hlC:l<k
    ·have hlC':(l:Int)<(k:Int):=by omega
     obtain⟨T,hT⟩:∃T,Hid (T=r*k+l):=⟨_,rfl⟩;have hT2:T<=70000:=by have:=hT.out;have:=Nat.mul_le_mul (show r<=256 by omega) hC2;omega
     have HV:Hid (pl k F T=F r l):=by show _=_;rw[hT.out];exact pl_at F hlC
     have HT:Hid (T+1=r*k+(l+1)):=by show _=_;rw[hT.out];rfl
     rw[<-hT.out]at HM;obtain⟨av,cv,ev⟩:=owns_form HM.own;subst ev;have m2:=HM.box.c2;have n2:=HM.free.f2;have lt2:=HM.lt
     by_cases hrk:r<k
     ·have hge:¬(r:Int)>=(k:Int):=by omega
      have HE:Hid (F r l=one r l):=by show _=_;rw[hF.out];exact if_pos hrk
      go_wp2_with fail
      refine(rsame5_nat _ rfl rfl).mono ?_
      exact z7_1
     ·have hge:(r:Int)>=(k:Int):=by omega
      obtain⟨q,hq⟩:∃q,Hid (q=r-k):=⟨_,rfl⟩;have gq:(r:Int)-(k:Int)=(q:Int):=by have:=hq.out;omega
      have HE:Hid (F r l=parF k q l):=by show _=_;rw[hF.out,hq.out];exact if_neg hrk
      have gwq:IntKind.i64.wrap (q:Int)=(q:Int):=by rw[IntKind.wrap_i64];have:=hq.out;omega
      go_wp2_with fail
      refine(rsame5_nat _ rfl rfl).mono ?_
      rintro e w9 ⟨rfl,rfl⟩
      go_wp2_with fail
      refine(rpart_any _ (by have:=hq.out;have:=hR.out;omega) (by have:=hC.out;omega) rfl rfl rfl).mono ?_
      exact z7_1
    ·have e:l=k:=by omega
     have hge:¬(l:Int)<(k:Int):=Zo
     have HN:Hid (MakeM w1 wr ms (R:Int) (k:Int) v 5 ((r+1)*k) (pl k F)):=by
      show MakeM _ _ _ _ _ _ _ _ _
      rw[Nat.add_mul,Nat.one_mul];rw[e]at HM;exact HM
     exact z7_4
  ·have e:r=R:=by omega
   have hge:¬(r:Int)<(R:Int):=Zo
   have hRd:Rd wr v (flat R k F):=by
    exact z7_5
   have hvb:∀q,v.ownBlock=some q->ms+1<=q:=fun q hq=>(Zv HM.own q hq).1
   obtain⟨av,cv,ev⟩:=owns_form HM.own;have X4:=X3.below (B:=ms) Zo HM.below;have F4:=F3.below (B:=ms) Zo HM.below;have x30:=X4.c0;have x31:=X4.c1;have x32:=X4.c2;have f30:=F4.f0;have f31:=F4.f1;have f32:=F4.f2;have y0:=HM.box.c0;have y1:=HM.box.c1;have y2:=HM.box.c2;have B4:=B0.trans (HM.below.mono (show w.heap.size<=ms by omega));clear HM e;subst ev;go_wp2;have O1:Only w.heap.size wr (((wr.setCell ⟨w.heap.size,0,none⟩ (.int .i64 (R:Int))).setCell ⟨w.heap.size,1,none⟩ (.int .i64 (k:Int))).setCell ⟨w.heap.size,2,none⟩ (.slice av (r*k) cv)):=
    (((Only.refl _ _).setCell 0 _).setCell 1 _).setCell 2 _
   have hap:Apart w.heap.size (.slice av (r*k) cv):=fun x m' c' ex=>by
    right;intro eb;simp at ex;obtain⟨rfl,_⟩:=ex;have:=hvb x.block rfl;omega
   exact bodyPost_ret (v:=.tuple #[.agg #[.int .i64 (R:Int),.int .i64 (k:Int),.slice av (r*k) cv],.int .i64 0]) (by simp[results,Tryz.results233,go_sem,x30,x31,x32,f30,f31,f32]) rfl ⟨_,rfl,hRd.only hap O1,B4.trans (O1.below Zr)⟩
theorem z7_3{p:Prop} (h:p:=by
 go_enter Tryz.func45,Tryz.ntmps45
 exact z7_6
 ):p:=h
theorem ccheck_same_ok{k m:Int}(w:World)(h:OkC k m):Calls Tryz.prog 45 #[.int .i64 k,.int .i64 m] w fun e w'=>e= .returned (.int .i64 0)/\w'=w:=by
 obtain⟨h1,h2,h3⟩:=h;have k1:decide (k<1)=false:=Zx Zo;have k2:decide (k>256)=false:=Zx Zo;have k3:decide (m<0)=false:=Zx Zo;have k4:decide (m>256)=false:=Zx Zo;have k5:decide (k+m>256)=false:=Zx Zo;have gw:IntKind.i64.wrap (k+m)=k+m:=Zw
 exact z7_3
theorem ccheck_same_bad{k m:Int}(w:World)(h:¬OkC k m):Calls Tryz.prog 45 #[.int .i64 k,.int .i64 m] w fun e w'=>e= .returned (.int .i64 50)/\w'=w:=by
 by_cases h1:k<1
 ·have k1:decide (k<1)=true:=Zy h1;clear h h1;exact z7_3
 have k1:decide (k<1)=false:=Zx h1
 by_cases h2:k>256
 ·have k2:decide (k>256)=true:=Zy h2;clear h h1 h2;exact z7_3
 have k2:decide (k>256)=false:=Zx h2
 by_cases h3:m<0
 ·have k3:decide (m<0)=true:=Zy h3;clear h h1 h2 h3;exact z7_3
 have k3:decide (m<0)=false:=Zx h3
 by_cases h4:m>256
 ·have k4:decide (m>256)=true:=Zy h4;clear h h1 h2 h3 h4;exact z7_3
 have k4:decide (m>256)=false:=Zx h4;have k5:decide (k+m>256)=true:=Zy (by
  by_cases h5:k+m<=256
  ·exact absurd ⟨Zo,Zo,h5⟩ h
  ·omega)
 have gw:IntKind.i64.wrap (k+m)=k+m:=Zw
 clear h h1 h2 h3 h4;exact z7_3
theorem ccf_ok{k m:Int}{b:Nat}(w:World)(h:OkC k m):Calls Tryz.prog 184 #[.pointer (some ⟨b,0,none⟩),.int .i64 k,.int .i64 m] w fun e w'=>e= .returned (.int .i64 0)/\w'=w:=by
 go_enter Tryz.func184,Tryz.ntmps184
 go_wp2_with fail
 refine(ccheck_same_ok _ h).mono ?_
 rintro e w2 ⟨rfl,rfl⟩;clear h;exact z7_6
theorem prow_fill{w:World}{b kb fb k i o n cap g m base:Nat}{f:Nat->UInt8}(hF:FieldAt w b)(hb:b≠g)(ck:w.cell? ⟨kb,0,none⟩=some (.int .i64 (k:Int)))(hk:kb≠g)(cf:w.cell? ⟨fb,0,none⟩=some (.pointer (some ⟨b,0,none⟩)))(hf:fb≠g)
  (hki:k+i<256) (hkn:k<=n) (hn:n<=256) (hom:o+n<=m) (R:RowF w base 5 g m m f) {x:Int} (hx:x=(i:Int)):
  Calls Tryz.prog 215 #[.int .i64 x,.slice (some ⟨g,o,none⟩) n cap,.pointer (some ⟨kb,0,none⟩),.pointer (some ⟨fb,0,none⟩)] w fun e w'=>e= .returned (.tuple #[])/\Only g w w'/\RowF w' base 5 g m m (putAt f o k (fun j=>parF k i j)):=by
 subst hx;obtain⟨t,ht⟩:∃t,Hid (t=k+i):=⟨_,rfl⟩;have g0:(k:Int)+(i:Int)=(t:Int):=by have:=ht.out;omega
 have ht2:t<256:=by have:=ht.out;omega
 have m1:(t:Int)%256=(t:Int):=Zo
 have w1:IntKind.i64.wrap (t:Int)=(t:Int):=Zw
 go_enter Tryz.func215,Tryz.ntmps215
 go_wp2
 go_loopw [8] (fun v wr=>∃j:Nat,j<=k/\v= .int .i64 j/\Only g w wr/\RowF wr base 5 g m m (putAt f o j (fun j=>parF k i j))) (fun v _=>k-(intOf v).toNat)
 case atStart=>exact⟨0,Zo,rfl,by first|exact Only.refl _ _|exact(Only.refl _ _).drew,by rw[putAt_zero];first|exact R|exact R.drew⟩
 case round=>
  obtain⟨j,hj,rfl,hO,hR⟩:=hrel;have ck2:=(hO.cell (p:=⟨kb,0,none⟩) hk).trans ck;have cf2:=(hO.cell (p:=⟨fb,0,none⟩) hf).trans cf;have hF2:=hF.only hb hO;clear hF ck cf R
  by_cases hlt:j<k
  ·have hlt':(j:Int)<(k:Int):=by omega
   have hj2:(j:Int)%256=(j:Int):=Zo
   have X:=pt_xor ht2 (show j<256 by omega);have HP:Hid (parF k i j=iv (pt t^^^pt j)):=by show _=_;rw[ht.out];rfl
   obtain⟨u,hu⟩:∃u,Hid (u=pt t^^^pt j):=⟨_,rfl⟩;rw[<-hu.out]at X HP;have c4:∀nd:Nat,(wr.drewN nd).cell? ⟨g,o+j,none⟩=some (.int .u8 ((putAt f o j (fun j=>parF k i j) (o+j)).toNat:Nat)):=fun nd=>hR.cell (show o+j<m by omega)
   have f4:∀nd:Nat,(wr.drewN nd).frozen? ⟨g,o+j,none⟩=false:=fun nd=>hR.unfrozen (o+j)
   have HN:∀nd:Nat,Hid (RowF ((wr.drewN nd).setCell ⟨g,o+j,none⟩ (.int .u8 (invS u.toNat:Nat))) base 5 g m m (putAt f o (j+1) (fun j=>parF k i j))):=by
    intro nd;have h:=(hR.drewN nd).store (f':=putAt f o (j+1) (fun j=>parF k i j)) (show o+j<m by omega) (iv u) (fun s=>by rw[putAt_step,HP.out]);rw[iv_toNat]at h;exact h
   have HT:∀nd:Nat,Hid (Only g w ((wr.drewN nd).setCell ⟨g,o+j,none⟩ (.int .u8 (invS u.toNat:Nat)))):=fun nd=>(hO.drewN nd).setCell _ _
   clear hO hR
   go_wp2_with fail
   refine(inv_all hF2 u.toNat rfl (u8_lt u)).mono ?_
   rintro e w' ⟨rfl,nd,rfl⟩;replace c4:=c4 nd;replace f4:=f4 nd;replace HN:=HN nd;replace HT:=HT nd;go_wp2;go_roundw
   case rel=>exact⟨j+1,Zo,Zg,by first|exact HT.out|exact HT.out.drew,by first|exact HN.out|exact HN.out.drew⟩
   case measure=>simp[intOf];omega
  ·have e:j=k:=by omega
   subst e;go_wp2
   go_end0
   exact⟨rfl,hO,hR⟩
def upR(G:Mx)(r:Nat):Mx:=fun i j=>if i<r then G i j else 0
theorem upR_zero(G:Mx)(c t:Nat):pl c (upR G 0) t=0:=by
 show upR G 0 (t/c) (t%c)=0
 unfold upR;rw[if_neg (Nat.not_lt_zero _)]
theorem upR_all(G:Mx){r c:Nat}:∀t,t<r*c->pl c (upR G r) t=pl c G t:=pl_congr fun i j hi _=>if_pos hi
theorem made_any{F:Nat}{p q:Value}(r c:Nat)(w:World)(hr:r<=256)(hc:c<=256)(hc0:0<c)(G:Mx)(eg:Hid (∀(args:Array Value) (w:World),Sem.run Tryz.prog (callFunc F args) w= .ok (.enter F args) w))
  (hfill:Hid (∀(g m i o:Nat) (W:World),i<r->Hid (m=r*c)->Hid (o=i*c)->w.heap.size<=g->Below w.heap.size w W->RowF W w.heap.size 5 g m m (pl c (upR G i))->
   Calls Tryz.prog F #[.int .i64 (i:Int),.slice (some ⟨g,o,none⟩) c (m-o),p,q] W fun e w'=>e= .returned (.tuple #[])/\Turn g W w'/\RowF w' w.heap.size 5 g m m (pl c (upR G (i+1)))))
  {x y:Int} (hx:x=(r:Int)) (hy:y=(c:Int)):
  Calls Tryz.prog 185 #[.int .i64 x,.int .i64 y,.func (.func F) #[] #[p,q]] w fun e w'=>∃g m,e= .returned (.agg #[.int .i64 (r:Int),.int .i64 (c:Int),.slice (some ⟨g,0,none⟩) m m])/\w.heap.size<=g/\Rd w' (.slice (some ⟨g,0,none⟩) m m) (flat r c G)/\Below w.heap.size w w':=by
 subst hx hy;obtain⟨i0,hi,hz0,hz1,hz2⟩:=info_parts info_u8;have hmm:r*c<=256*256:=Nat.mul_le_mul hr hc;obtain⟨m,hm⟩:∃m,Hid (m=r*c):=⟨_,rfl⟩;rw[<-hm.out]at hmm;have g0:(r:Int)*(c:Int)=(m:Int):=by rw[hm.out];exact_mod_cast rfl
 go_enter Tryz.func185,Tryz.ntmps185
 go_wp2_with (at_make;go_loud (refine wpList_make_full _ rfl (.tmp 13) (.tmp 13) 36 rfl w.heap.size 5 i0 (.int .u8 0) 1 Tryz.underlying36 hi hz0 hz1 _ _ _ _ m rfl rfl Zo Zo (by rw[hz2];omega) Zl Zs ?_);intro w1 hown1 hgrow1;obtain⟨R1,B0,x0,x1,x2,z0,z1,z2⟩:=nought_facts hown1 hgrow1;clear hown1 hgrow1)
 have hg0:w.heap.size<w.heap.size+1:=Zo
 generalize hgg:w.heap.size+1=g at*;have X3:Box w1 w.heap.size 0 0 (.slice none 0 0):=⟨x0,x1,x2⟩;have F3:Free w1 w.heap.size:=⟨z0,z1,z2⟩;have hA:Below w1.heap.size w1 (w1.alloc (.cells #[.int .i64 (r:Int),.int .i64 (c:Int),.slice (some ⟨g,0,none⟩) m m] 148)):=Zf.alloc Zr _;have P1:=Box.new w1 (r:Int) (c:Int) (.slice (some ⟨g,0,none⟩) m m) 148;have hlt:=R1.lt;replace R1:=R1.later hA;replace X3:=X3.below Zo hA;replace F3:=F3.below Zo hA;replace B0:=Below.next B0 hA;have hms:w1.heap.size<(w1.alloc (.cells #[.int .i64 (r:Int),.int .i64 (c:Int),.slice (some ⟨g,0,none⟩) m m] 148)).heap.size:=Zs
 have hmg:w1.heap.size≠g:=Zo
 clear hA x0 x1 x2 z0 z1 z2;generalize w1.alloc (.cells #[.int .i64 (r:Int),.int .i64 (c:Int),.slice (some ⟨g,0,none⟩) m m] 148)=w2 at*
 go_loopw [17] (fun i wr=>∃k:Nat,k<=r/\i= .int .i64 k/\Turn g w2 wr/\RowF wr w.heap.size 5 g m m (pl c (upR G k))) (fun i _=>r-(intOf i).toNat)
 case atStart=>exact⟨0,Zo,rfl,Turn.refl _ _,R1.congr (fun t _=>(upR_zero _ _ t).symm)⟩
 case round=>
  obtain⟨k,hk,rfl,hT,hRk⟩:=hrel;clear R1;replace P1:=P1.turn hms hmg hT;have hs2:=hT.size
  by_cases hlt2:k<r
  ·have hlt2':(k:Int)<(r:Int):=by omega
   obtain⟨o,ho⟩:∃o,Hid (o=k*c):=⟨_,rfl⟩;have hom:o+c<=m:=by rw[ho.out,hm.out,<-Nat.succ_mul];exact Nat.mul_le_mul_right c hlt2
   have g1:(k:Int)*(c:Int)=(o:Int):=by rw[ho.out];exact_mod_cast rfl
   have g2:((k:Int)+1)*(c:Int)=(o:Int)+(c:Int):=by rw[Int.add_mul,Int.one_mul,g1]
   have v1:IntKind.i64.wrap (o:Int)=(o:Int):=Zw
   have v2:IntKind.i64.wrap ((o:Int)+(c:Int))=(o:Int)+(c:Int):=Zw
   have v3:IntKind.i64.wrap ((k:Int)+1)=(k:Int)+1:=Zw
   have hlt3:o<m:=Zo
   have hne:¬m=o:=Zo
   have hsub:o+c-o=c:=Zo
   have y2:=P1.c2;have HB:Hid (Below w.heap.size w wr):=B0.trans (hT.below Zo Zo);have HC:=hfill.out g m k o wr hlt2 hm ho Zo HB.out hRk;clear hfill hRk
   go_wp2_with fail
   rw[eg.out,Oper.upon_enter];refine HC.mono ?_
   rintro e v4 ⟨rfl,hT4,hR4⟩;have HT:Hid (Turn g w2 v4):=hT.trans hT4;have HN:Hid (RowF v4 w.heap.size 5 g m m (pl c (upR G (k+1)))):=hR4;clear hT hT4 hR4 y2 P1 HC HB;go_wp2;go_roundw
   case rel=>exact⟨k+1,Zo,Zg,HT.out,HN.out⟩
   case measure=>simp[intOf];omega
  ·have e:k=r:=by omega
   subst e;have R4:Rd wr (.slice (some ⟨g,0,none⟩) m m) (flat k c G):=by
    have:=(hRk.congr (f':=pl c G) (by rw[hm.out];exact upR_all G)).rd;rw[<-pl_flat,<-hm.out];exact this
   have X4:=X3.turn Zo Zo hT;have F4:=F3.turn Zo Zo hT;have x30:=X4.c0;have x31:=X4.c1;have x32:=X4.c2;have f30:=F4.f0;have f31:=F4.f1;have f32:=F4.f2;have y0:=P1.c0;have y1:=P1.c1;have y2:=P1.c2;clear hRk hfill;go_wp2;have O1:Only w.heap.size wr (((wr.setCell ⟨w.heap.size,0,none⟩ (.int .i64 (k:Int))).setCell ⟨w.heap.size,1,none⟩ (.int .i64 (c:Int))).setCell ⟨w.heap.size,2,none⟩ (.slice (some ⟨g,0,none⟩) m m)):=
    (((Only.refl _ _).setCell 0 _).setCell 1 _).setCell 2 _
   refine bodyPost_ret (v:=.agg #[.int .i64 (k:Int),.int .i64 (c:Int),.slice (some ⟨g,0,none⟩) m m]) (by simp[results,Tryz.results185,go_sem,x30,x31,x32,f30,f31,f32]) rfl ⟨g,m,rfl,Zo,R4.only (apart_block Zo) O1,(B0.trans (hT.below Zo Zo)).trans (O1.below Zo)⟩
theorem upR_row{G:Mx}{r c i:Nat}{f:Nat->UInt8}(h1:∀t,t<r*c->t/c≠i->f t=pl c (upR G i) t)(h2:∀j,j<c->f (i*c+j)=G i j):∀t,t<r*c->f t=pl c (upR G (i+1)) t:=by
 intro t ht;have hc:0<c:=by
  rcases Nat.eq_zero_or_pos c with e|e
  ·rw[e,Nat.mul_zero]at ht;omega
  ·exact e
 by_cases e:t/c=i
 ·have h3:=Nat.div_add_mod t c;rw[e,Nat.mul_comm]at h3
  show f t=upR G (i+1) (t/c) (t%c)
  unfold upR;rw[if_pos Zo,e,<-h2 _ (Nat.mod_lt _ hc),h3]
 ·rw[h1 t ht e]
  show upR G i (t/c) (t%c)=upR G (i+1) (t/c) (t%c)
  unfold upR
  by_cases h:t/c<i
  ·rw[if_pos h,if_pos Zo]
  ·rw[if_neg h,if_neg Zo]
theorem not_in_row{c i t o:Nat}(ho:o=i*c)(hc:0<c)(h:t/c≠i){n:Nat}(hn:n<=c):t<o∨o+n<=t:=by
 by_cases h1:i*c<=t/\t<i*c+c
 ·exact absurd ((row_iff hc).1 h1) h
 ·omega
structure Fills(w:World)(b k kb fb:Nat):Prop where
 ck:w.cell? ⟨kb,0,none⟩=some (.int .i64 (k:Int))
 cf:w.cell? ⟨fb,0,none⟩=some (.pointer (some ⟨b,0,none⟩))
 lk:kb<w.heap.size
 lf:fb<w.heap.size
theorem Fills.below{w w':World}{b k kb fb:Nat}(h:Fills w b k kb fb)(o:Below w.heap.size w w'):Fills w' b k kb fb:=
 ⟨(o.cell (p:=⟨kb,0,none⟩) h.lk).trans h.ck,(o.cell (p:=⟨fb,0,none⟩) h.lf).trans h.cf,Zu h.lk o.size,Zu h.lf o.size⟩
theorem enters_prow1:Hid (∀(args:Array Value) (w:World),Sem.run Tryz.prog (callFunc 215 args) w= .ok (.enter 215 args) w):=enters_of Tryz.func215 Zk rfl
theorem prow_make{b:Nat}(k:Nat)(w:World){x:Int}(hx:x=(k:Int)):Calls Tryz.prog 186 #[.pointer (some ⟨b,0,none⟩),.int .i64 x] w fun e w'=>∃kb fb,e= .returned (.func (.func 215) #[] #[.pointer (some ⟨kb,0,none⟩),.pointer (some ⟨fb,0,none⟩)])/\Fills w' b k kb fb/\Below w.heap.size w w':=by
 subst hx
 go_enter Tryz.func186,Tryz.ntmps186
 go_wp2;go_ret;refine⟨_,_,rfl,⟨Zs,Zs,Zn,Zn⟩,by repeat (first|exact Zf|apply below_lit)⟩
theorem cpar_at{b:Nat}{w:World}(k m:Nat)(hF:FieldAt w b)(h1:1<=k)(h2:k+m<=256){x y:Int}(hx:x=(k:Int))(hy:y=(m:Int)):
  Calls Tryz.prog 159 #[.pointer (some ⟨b,0,none⟩),.int .i64 x,.int .i64 y] w (fun e w'=>∃g M,e= .returned (.tuple #[.agg #[.int .i64 (m:Int),.int .i64 (k:Int),.slice (some ⟨g,0,none⟩) M M],.int .i64 0])/\w.heap.size<=g/\Rd w' (.slice (some ⟨g,0,none⟩) M M) (flat m k (parF k))/\Below w.heap.size w w'):=by
 subst hx hy
 go_enter Tryz.func159,Tryz.ntmps159
 go_wp2_with fail
 refine(ccf_ok _ (okC_mk h1 h2)).mono ?_
 rintro e w2 ⟨rfl,rfl⟩
 go_wp2_with fail
 refine(prow_make k _ rfl).mono ?_
 rintro e w1 ⟨kb,fb,rfl,hfl,b1⟩;have X3:Box w1 w.heap.size 0 0 (.slice none 0 0):=Below.box b1 Zn (Box.new w 0 0 (.slice none 0 0) 148);have F3:Free w1 w.heap.size:=Below.free b1 Zn (Free.new w #[.int .i64 0,.int .i64 0,.slice none 0 0] 148);have B1:Below w.heap.size w w1:=Below.next (by repeat (first|exact Zf|apply below_lit)) b1;have hF1:=hF.below B1;have hs1:w.heap.size<w1.heap.size:=by have:=b1.size;simp at this;omega
 clear b1
 go_wp2_with fail
 refine(made_any m k w1 Zo Zo h1 (parF k) enters_prow1 ?_ rfl rfl).mono ?_
 ·intro g M i o W hi hM ho hg hB R;have hf2:=hfl.below hB;refine(prow_fill (i:=i) (n:=k) (hF1.below hB) (by have:=hF1.lt;omega) hf2.ck (by have:=hfl.lk;omega) hf2.cf (by have:=hfl.lf;omega) Zo Zr Zo (by rw[ho.out,hM.out,<-Nat.succ_mul];exact Nat.mul_le_mul_right k hi) R rfl).mono ?_
  rintro e w' ⟨rfl,hO,hR⟩;refine⟨rfl,hO.turn,hR.congr ?_⟩;rw[hM.out];refine upR_row (fun t ht hne=>putAt_out (not_in_row ho.out Zo hne Zr)) (fun j hj=>?_);rw[ho.out];exact putAt_in hj
 ·rintro e w4 ⟨g,M,rfl,hg,hR,b4⟩;have X4:=X3.below hs1 b4;have F4:=F3.below hs1 b4;have B4:Below w.heap.size w w4:=Below.next B1 b4;have x30:=X4.c0;have x31:=X4.c1;have x32:=X4.c2;have f30:=F4.f0;have f31:=F4.f1;have f32:=F4.f2;go_wp2;have O1:Only w.heap.size w4 (((w4.setCell ⟨w.heap.size,0,none⟩ (.int .i64 (m:Int))).setCell ⟨w.heap.size,1,none⟩ (.int .i64 (k:Int))).setCell ⟨w.heap.size,2,none⟩ (.slice (some ⟨g,0,none⟩) M M)):=
   (((Only.refl _ _).setCell 0 _).setCell 1 _).setCell 2 _
  refine bodyPost_ret (v:=.tuple #[.agg #[.int .i64 (m:Int),.int .i64 (k:Int),.slice (some ⟨g,0,none⟩) M M],.int .i64 0]) (by simp[results,Tryz.results159,go_sem,x30,x31,x32,f30,f31,f32]) rfl ⟨g,M,rfl,Zo,hR.only (apart_block Zo) O1,B4.trans (O1.below Zo)⟩
end Go.Proofs.YtddnfhfangfgeaaGreat.Gf
