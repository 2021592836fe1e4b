/- JOINED: CrMath, CrAwM, CrLawM, CrRef, CrCode, SsOwn. -/
import Derived.WalkMore
import Derived.Test.YtddnfhfangfgeaaGreatPome4
set_option maxHeartbeats 1000000
set_option maxRecDepth 100000
namespace Go.Proofs.YtddnfhfangfgeaaGreat.Gf
set_option linter.unusedVariables false
def st(x:Nat):Nat:=if x%2=1 then x/2^^^2197175160 else x/2
def stK:Nat->Nat->Nat
 |0,x=>x
 |k+1,x=>st (stK k x)
def sb(x b:Nat):Nat:=stK 8 (x^^^b)
def run:Nat->List UInt8->Nat
 |x,[]=>x
 |x,b::p=>run (sb x b.toNat) p
def nt(x:Nat):Nat:=4294967295-x
def more(s:Nat)(p:List UInt8):Nat:=nt (run (nt s) p)
theorem xor32{a b:Nat}(ha:a<4294967296)(hb:b<4294967296):a^^^b<4294967296:=Nat.xor_lt_two_pow (n:=32) ha hb
theorem nt_lt(x:Nat):nt x<4294967296:=by unfold nt;omega
theorem nt_inj{x y:Nat}(hx:x<4294967296)(hy:y<4294967296)(h:nt x=nt y):x=y:=by unfold nt at h;omega
theorem nt_xor{x:Nat}(h:x<4294967296):nt x=x^^^4294967295:=by
 have e:=congrArg BitVec.toNat (BitVec.xor_allOnes (x:=BitVec.ofNat 32 x));rw[BitVec.toNat_xor,BitVec.toNat_not,BitVec.toNat_allOnes,BitVec.toNat_ofNat,Nat.mod_eq_of_lt (by simpa using h)]at e;unfold nt;rw[show(4294967295:Nat)=2^32-1 from rfl,e]
theorem st_lt{x:Nat}(h:x<4294967296):st x<4294967296:=by
 unfold st
 split
 ·exact xor32 Zo Zd
 ·omega
theorem stK_lt{x:Nat}(h:x<4294967296):∀k,stK k x<4294967296
 |0=>h
 |k+1=>st_lt (stK_lt h k)
theorem half_xor(x y:Nat):(x^^^y)/2=x/2^^^y/2:=by
 have h:=Nat.shiftRight_xor_distrib (a:=x) (b:=y) (i:=1);simpa[Nat.shiftRight_eq_div_pow]using h
theorem odd_xor(x y:Nat):(x^^^y)%2=(x%2+y%2)%2:=by
 have h:=Nat.testBit_xor x y 0;rw[Nat.testBit_zero,Nat.testBit_zero,Nat.testBit_zero]at h
 rcases Nat.mod_two_eq_zero_or_one x with hx|hx<;>rcases Nat.mod_two_eq_zero_or_one y with hy|hy<;>rcases Nat.mod_two_eq_zero_or_one (x^^^y)with hz|hz<;>rw[hx,hy,hz]at h<;>first|(simp at h;done)|(rw[hx,hy,hz])
theorem xo_left(a b c:Nat):a^^^(b^^^c)=b^^^(a^^^c):=by rw[<-Nat.xor_assoc,Nat.xor_comm a b,Nat.xor_assoc]
theorem st_xor(x y:Nat):st (x^^^y)=st x^^^st y:=by
 unfold st;rw[odd_xor,half_xor]
 rcases Nat.mod_two_eq_zero_or_one x with hx|hx<;>rcases Nat.mod_two_eq_zero_or_one y with hy|hy
 ·rw[hx,hy];simp
 ·rw[hx,hy];simp[Nat.xor_assoc]
 ·rw[hx,hy];simp only[Nat.add_zero,Nat.reduceMod,↓reduceIte,Nat.zero_ne_one];rw[Nat.xor_assoc,Nat.xor_assoc,Nat.xor_comm 2197175160]
 ·rw[hx,hy];simp only[Nat.reduceAdd,Nat.reduceMod,↓reduceIte,Nat.zero_ne_one];rw[Nat.xor_assoc,xo_left 2197175160,Nat.xor_self,Nat.xor_zero]
theorem stK_xor(x y:Nat):∀k,stK k (x^^^y)=stK k x^^^stK k y
 |0=>rfl
 |k+1=>by rw[stK,stK_xor x y k,st_xor];rfl
theorem st_zero{x:Nat}(hx:x<4294967296)(h:st x=0):x=0:=by
 unfold st at h
 split at h
 ·have:x/2=2197175160:=by
   have e:=congrArg (·^^^2197175160) h;simp only[Nat.xor_assoc,Nat.xor_self,Nat.xor_zero,Nat.zero_xor]at e;exact e
  omega
 ·omega
theorem stK_zero{x:Nat}(hx:x<4294967296):∀k,stK k x=0->x=0
 |0,h=>h
 |k+1,h=>stK_zero hx k (st_zero (stK_lt hx k) h)
theorem xor_zero_eq{a b:Nat}(h:a^^^b=0):a=b:=by
 have e:=congrArg (·^^^b) h;simp only[Nat.xor_assoc,Nat.xor_self,Nat.xor_zero,Nat.zero_xor]at e;exact e
theorem byte32(b:UInt8):b.toNat<4294967296:=by have:=b.toNat_lt;omega
theorem sb_lt{x:Nat}(hx:x<4294967296)(b:UInt8):sb x b.toNat<4294967296:=stK_lt (xor32 hx (byte32 b)) 8
theorem sb_xor(x y b c:Nat):sb (x^^^y) (b^^^c)=sb x b^^^sb y c:=by
 unfold sb;rw[<-stK_xor];congr 1;rw[Nat.xor_assoc,Nat.xor_assoc,xo_left y]
theorem sb_inj{x y:Nat}(hx:x<4294967296)(hy:y<4294967296)(b:UInt8)(h:sb x b.toNat=sb y b.toNat):x=y:=by
 refine xor_zero_eq (stK_zero (xor32 hx hy) 8 ?_);have e:=sb_xor x y b.toNat b.toNat;rw[h,Nat.xor_self,Nat.xor_self]at e;unfold sb at e;rw[Nat.xor_zero]at e;exact e
theorem sb_byte{x:Nat}(hx:x<4294967296){b c:UInt8}(h:sb x b.toNat=sb x c.toNat):b=c:=by
 have e:=sb_xor x x b.toNat c.toNat;rw[h,Nat.xor_self,Nat.xor_self]at e;unfold sb at e;rw[Nat.zero_xor]at e;have:=xor_zero_eq (stK_zero (xor32 (byte32 b) (byte32 c)) 8 e);exact UInt8.toNat_inj.1 this
theorem run_lt{x:Nat}(hx:x<4294967296)(p:List UInt8):run x p<4294967296:=by
 induction p generalizing x with
 |nil=>exact hx
 |cons b p ih=>exact ih (sb_lt hx b)
theorem run_append(x:Nat)(p q:List UInt8):run x (p++q)=run (run x p) q:=by
 induction p generalizing x with
 |nil=>rfl
 |cons b p ih=>exact ih _
theorem run_inj{x y:Nat}(hx:x<4294967296)(hy:y<4294967296)(p:List UInt8)(h:run x p=run y p):x=y:=by
 induction p generalizing x y with
 |nil=>exact h
 |cons b p ih=>exact sb_inj hx hy b (ih (sb_lt hx b) (sb_lt hy b) h)
theorem run_take(x:Nat)(p:List UInt8){k:Nat}(h:k<p.length):run x (p.take (k+1))=sb (run x (p.take k)) p[k].toNat:=by
 rw[List.take_succ_eq_append_getElem h,run_append];rfl
theorem more_lt(s:Nat)(p:List UInt8):more s p<4294967296:=nt_lt _
theorem more_tells{p q:List UInt8}{b c:UInt8}{s:Nat}(hbc:b≠c):more s (p++b::q)≠more s (p++c::q):=by
 intro h;have h1:=nt_inj (run_lt (nt_lt _) _) (run_lt (nt_lt _) _) h;rw[run_append,run_append]at h1;have hx:run (nt s) p<4294967296:=run_lt (nt_lt _) _;exact hbc (sb_byte hx (run_inj (sb_lt hx b) (sb_lt hx c) q h1))
set_option linter.unusedSimpArgs false
open Go.RowKit
theorem Below.step{w w1 w2:World}(h:Below w.heap.size w w1)(k:Below w1.heap.size w1 w2):Below w.heap.size w w2:=h.trans (k.mono h.size)
theorem rd_nil0{w:World}:Rd w (.slice none 0 0) []:=Or.inl ⟨none,0,rfl,rfl,Zz,fun _=>rfl⟩
theorem own_new(w:World)(e:TypeId):(w.alloc (.cells #[] e)).ownsRow w.heap.size e 1 (.slice (some ⟨w.heap.size,0,none⟩) 0 0) 0 []:=World.ownsRow_made w #[] 0 Zr Zz rfl
theorem rd_one{w:World}{N e:Nat}{v:Value}{p:List UInt8}(h:w.ownsRow N e 1 v (0+p.length) ([]++p.map vb)):Rd w v p:=by
 refine Rd.owned (base:=N) (e:=e) ?_
 rw[Nat.zero_add,List.nil_append]at h;exact h
theorem below_own{w0 w w':World}{N e n:Nat}{v:Value}{xs:List Value}(hB:Below N w0 w)(hN:N<=w.heap.size)(h:w.ownsRow N e 1 v n xs)(hg:w.grownBy w' v.ownBlock):Below N w0 w':=
 hB.grown hg hN (fun k hk=>(Zv h k hk).1)
theorem tells_set{L:List UInt8}{t:Nat}(ht:t<L.length){y:UInt8}(hy:y≠co L t):more 0 (L.set t y)≠more 0 L:=by
 have e1:L.set t y=L.take t++y::L.drop (t+1):=by rw[List.set_eq_take_append_cons_drop,if_pos ht]
 have e2:L=L.take t++co L t::L.drop (t+1):=by
  rw[co_lt ht]
  conv=>lhs;rw[<-List.take_append_drop t L,List.drop_eq_getElem_cons ht]
 rw[e1]
 conv=>rhs;rw[e2]
 exact more_tells hy
theorem val_int32{k:IntKind}{a b:Int}(h:a=b):Value.int k a= .int k b:=by rw[h]
theorem not_u32{s:Nat}(hs:s<4294967296):bits .xor .u32 IntKind.u32.max (s:Int)=((nt s:Nat):Int):=by
 rw[show IntKind.u32.max=((4294967295:Nat):Int)from rfl,u32_xor_nat _ _ Zd hs,nt_xor hs,Nat.xor_comm]
theorem z5_1{p:Prop} (h:p:=by
 rw[show(1:Int)=((1:Nat):Int)from rfl,u32_and_nat s 1 hs Zd,Bool.eq_iff_iff,beq_iff_eq,decide_eq_true_eq,Nat.and_one_is_mod];omega
 ):p:=h
theorem bit0_u32{s:Nat}(hs:s<4294967296):(bits .and .u32 (s:Int) 1==1)=decide (s%2=1):=by
 exact z5_1
theorem st_odd{s:Nat}(hs:s<4294967296)(h:s%2=1):bits .xor .u32 ((s:Int)/2) 2197175160=((st s:Nat):Int):=by
 rw[show(s:Int)/2=((s/2:Nat):Int) by omega,show(2197175160:Int)=((2197175160:Nat):Int)from rfl,u32_xor_nat _ _ Zo Zd];unfold st;rw[if_pos h]
theorem st_even{s:Nat}(h:¬s%2=1):(s:Int)/2=((st s:Nat):Int):=by
 unfold st;rw[if_neg h];omega
theorem z5_3{p:Prop} (h:p:=by
 go_wp2
 go_round
 case rel=>exact⟨k+1,Zo,Zg,val_int32 X.out⟩
 case measure=>simp[intOf];omega
 ):p:=h
theorem rstep_any(x b:Nat)(w:World)(hx:x<4294967296)(hb:b<256):
  Calls Tryz.prog 209 #[.int .u32 (x:Int),.int .u8 (b:Int)] w fun e w'=>e= .returned (.int .u32 ((sb x b:Nat):Int))/\w'=w:=by
 have E0:=u32_xor_nat x b hx Zo;have hy:=xor32 hx (show b<4294967296 by omega);have H8:Hid (sb x b=stK 8 (x^^^b)):=rfl;obtain⟨y,ey⟩:∃y,Hid (y=x^^^b):=⟨_,rfl⟩;rw[<-ey.out]at hy E0 H8
 go_enter Tryz.func209,Tryz.ntmps209
 go_wp2
 go_loop [0,5] (fun o i=>∃k:Nat,k<=8/\i= .int .i64 k/\o= .int .u32 ((stK k y:Nat):Int)) (fun _ i=>8-(intOf i).toNat)
 case atStart=>exact⟨0,Zo,rfl,rfl⟩
 case round=>
  obtain⟨k,hk,rfl,rfl⟩:=hrel;have hs:=stK_lt hy k;have HS:Hid (stK (k+1) y=st (stK k y)):=rfl;obtain⟨s,es⟩:∃s,Hid (s=stK k y):=⟨_,rfl⟩
  by_cases hlt:k<8
  ·rw[<-es.out]at hs HS ⊢
   by_cases h2:s%2=1
   ·have d:=bit0_u32 hs;rw[Zy h2]at d;have X:Hid (bits .xor .u32 ((s:Int)/2) 2197175160=((stK (k+1) y:Nat):Int)):=by show _=_;rw[HS.out];exact st_odd hs h2
    exact z5_3
   ·have d:=bit0_u32 hs;rw[Zx h2]at d;have X:Hid ((s:Int)/2=((stK (k+1) y:Nat):Int)):=by show _=_;rw[HS.out];exact st_even h2
    exact z5_3
  ·have e:k=8:=by omega
   subst e;go_wp2;go_ret;exact⟨by rw[H8.out];rfl,rfl⟩
theorem rstep_at{w:World}(x:Nat)(b:UInt8){u v:Int}(hu:u=(x:Int))(hv:v=((b.toNat:Nat):Int))(hx:x<4294967296):
  Calls Tryz.prog 209 #[.int .u32 u,.int .u8 v] w fun e w'=>e= .returned (.int .u32 ((sb x b.toNat:Nat):Int))/\w'=w:=by
 subst hu hv;exact rstep_any x b.toNat w hx b.toNat_lt
theorem z5_4{p:Prop} (h:p:=by
 go_wp2
 go_round
 case rel=>exact⟨k+1,Zo,Zg,by rw[HS.out]⟩
 case measure=>simp[intOf];omega
 ):p:=h
theorem rmore_any{s:Nat}{v:Value}{p:List UInt8}{w:World}{u:Int}(hu:u=(s:Int))(hs:s<4294967296)(hp:Rd w v p)(hl:p.length<=1000000):
  Calls Tryz.prog 179 #[.int .u32 u,v] w fun e w'=>e= .returned (.int .u32 ((more s p:Nat):Int))/\w'=w:=by
 subst hu;have N0:=not_u32 hs;have hn:=nt_lt s;have HM:Hid (more s p=nt (run (nt s) p)):=rfl;have N1:=not_u32 (run_lt hn p);rw[<-HM.out]at N1;obtain⟨y,ey⟩:∃y,Hid (y=nt s):=⟨_,rfl⟩;rw[<-ey.out]at N0 hn N1
 rcases hp with⟨a,c,rfl,rfl,_⟩|⟨b,o,c,hp0,rfl,h1,h2,h3,hpc⟩
 ·go_enter Tryz.func179,Tryz.ntmps179
  go_wp2
  go_loop [5,6] (fun o i=>i= .int .i64 0/\o= .int .u32 (y:Int)) (fun _ _=>0)
  case atStart=>exact⟨rfl,rfl⟩
  case round=>
   obtain⟨rfl,rfl⟩:=hrel;have N2:bits .xor .u32 IntKind.u32.max (y:Int)=((more s []:Nat):Int):=N1;clear N1;go_wp2;go_ret;exact⟨rfl,rfl⟩
 ·go_enter Tryz.func179,Tryz.ntmps179
  go_wp2
  go_loop [5,6] (fun x i=>∃k:Nat,k<=p.length/\i= .int .i64 k/\x= .int .u32 ((run y (p.take k):Nat):Int)) (fun _ i=>p.length-(intOf i).toNat)
  case atStart=>exact⟨0,Zo,rfl,rfl⟩
  case round=>
   obtain⟨k,hk,rfl,rfl⟩:=hrel;have hr:=run_lt hn (p.take k)
   by_cases hlt:k<p.length
   ·have hlt':(k:Int)<(p.length:Int):=by omega
    have c1:=hpc k hlt;have HS:Hid (run y (p.take (k+1))=sb (run y (p.take k)) (co p k).toNat):=by show _=_;rw[run_take y p hlt,co_lt hlt]
    clear hpc;obtain⟨z,ez⟩:∃z,Hid (z=run y (p.take k)):=⟨_,rfl⟩;rw[<-ez.out]at hr HS ⊢
    go_wp2_with fail
    refine(rstep_at z (co p k) rfl rfl hr).mono ?_
    rintro e w' ⟨rfl,rfl⟩;exact z5_4
   ·have e:k=p.length:=by omega
    have ht:p.take k=p:=List.take_of_length_le Zo;have hge:¬(k:Int)<(p.length:Int):=Zo
    rw[ht];clear hpc ht e;go_wp2;go_ret;exact⟨rfl,rfl⟩
theorem rsum_any{v:Value}{p:List UInt8}{w:World}(hp:Rd w v p)(hl:p.length<=1000000):
  Calls Tryz.prog 149 #[v] w fun e w'=>e= .returned (.int .u32 ((more 0 p:Nat):Int))/\w'=w:=by
 go_enter Tryz.func149,Tryz.ntmps149
 go_wp2_with fail
 refine(rmore_any (s:=0) rfl Zd hp hl).mono ?_
 rintro e w' ⟨rfl,rfl⟩;go_wp2;go_ret;exact⟨rfl,rfl⟩
theorem stK_add(a b x:Nat):stK (a+b) x=stK a (stK b x):=by
 induction a with
 |zero=>rw[Nat.zero_add];rfl
 |succ a ih=>rw[show a+1+b=(a+b)+1 by omega];show st (stK (a+b) x)=st (stK a (stK b x));rw[ih]
theorem stK_even{t:Nat}:∀m,t%2^m=0->stK m t=t/2^m
 |0,_=>by simp[stK]
 |m+1,h=>by
  have h1:t%2^m=0:=by
   have e:t%2^(m+1)%2^m=t%2^m:=Nat.mod_mod_of_dvd t ⟨2,by rw[Nat.pow_succ]⟩;rw[h]at e;simpa using e.symm
  show st (stK m t)=_
  rw[stK_even m h1];have h2:t/2^m%2=0:=by
   rw[Nat.pow_succ,Nat.mod_mul]at h;have:=Nat.two_pow_pos m
   rcases Nat.eq_zero_or_pos (t/2^m%2)with h3|h3
   ·exact h3
   ·have:=Nat.mul_pos this h3;omega
  unfold st;rw[if_neg Zo,Nat.div_div_eq_div_mul,Nat.pow_succ]
theorem stK_early{q j t:Nat}(hj:j<8)(ht:t=stK j q)(h:t%256*2^j%256=0):t/2^(8-j)=stK 8 q:=by
 have e:stK 8 q=stK (8-j) t:=by rw[ht,<-stK_add];congr 1;omega
 rw[e,stK_even];have h1:t*2^j%256=0:=by rw[Nat.mod_mul_mod]at h;exact h
 have h2:(256:Nat)=2^(8-j)*2^j:=by rw[<-Nat.pow_add,show 8-j+j=8 by omega]
 rw[h2,Nat.mul_mod_mul_right]at h1
 rcases Nat.mul_eq_zero.1 h1 with h3|h3
 ·exact h3
 ·exact absurd h3 (Nat.pos_iff_ne_zero.1 (Nat.two_pow_pos j))
theorem bit0_even{s:Nat}(hs:s<4294967296):(bits .and .u32 (s:Int) 1==0)=decide (¬s%2=1):=by
 exact z5_1
theorem cshifted_any{s:Nat}{w:World}{u:Int}(hu:u=(s:Int))(hs:s<4294967296):
  Calls Tryz.prog 183 #[.int .u32 u] w fun e w'=>e= .returned (.int .u32 ((st s:Nat):Int))/\w'=w:=by
 subst hu;have d:=bit0_even hs
 by_cases h2:s%2=1
 ·rw[Zx Zo]at d;have X:Hid (bits .xor .u32 ((s:Int)/2) 2197175160=((st s:Nat):Int)):=st_odd hs h2
  go_enter Tryz.func183,Tryz.ntmps183
  go_wp2;go_ret;exact⟨by rw[X.out];rfl,rfl⟩
 ·rw[Zy h2]at d;have X:Hid ((s:Int)/2=((st s:Nat):Int)):=st_even h2
  go_enter Tryz.func183,Tryz.ntmps183
  go_wp2;go_ret;exact⟨by rw[X.out];rfl,rfl⟩
theorem cmore_any{s:Nat}{v:Value}{p:List UInt8}{w:World}{u:Int}(hu:u=(s:Int))(hs:s<4294967296)(hp:Rd w v p)(hl:p.length<=1000000):
  Calls Tryz.prog 158 #[.int .u32 u,v] w fun e w'=>e= .returned (.int .u32 ((more s p:Nat):Int))/\Below w.heap.size w w':=by
 subst hu;have N0:=not_u32 hs;have hn:=nt_lt s;have HM:Hid (more s p=nt (run (nt s) p)):=rfl;have N1:=not_u32 (run_lt hn p);rw[<-HM.out]at N1;obtain⟨y,ey⟩:∃y,Hid (y=nt s):=⟨_,rfl⟩;rw[<-ey.out]at N0 hn N1;obtain⟨a,c,rfl⟩:=hp.form
 go_enter Tryz.func158,Tryz.ntmps158
 go_wp2;go_step3;go_wp2;go_step3;go_wp2
 go_loop [5,13] (fun x i=>∃k:Nat,k<=p.length/\i= .int .i64 k/\x= .int .u32 ((run y (p.take k):Nat):Int)) (fun _ i=>p.length-(intOf i).toNat)
 case atStart=>exact⟨0,Zo,rfl,rfl⟩
 case round=>
  obtain⟨k,hk,rfl,rfl⟩:=hrel;have hr:=run_lt hn (p.take k)
  by_cases hlt:k<p.length
  ·have hlt':(k:Int)<(p.length:Int):=by omega
   rcases hp with⟨a,c,rfl,_⟩|⟨b,o,c,hp0,e0,h1,h2,h3,hpc⟩
   ·simp at hlt
   ·simp at e0;obtain⟨rfl,rfl⟩:=e0;have c1:=hpc k hlt;have HS:Hid (run y (p.take (k+1))=stK 8 (run y (p.take k)^^^(co p k).toNat)):=by show _=_;rw[run_take y p hlt,co_lt hlt];rfl
    clear hpc;obtain⟨z,ez⟩:∃z,Hid (z=run y (p.take k)):=⟨_,rfl⟩;rw[<-ez.out]at hr HS ⊢;have X0:=u32_xor_nat z (co p k).toNat hr (byte32 _);have hq:=xor32 hr (byte32 (co p k));have m0:(((co p k).toNat:Nat):Int)%4294967296=(((co p k).toNat:Nat):Int):=by have:=(co p k).toNat_lt;omega
    obtain⟨q,eq⟩:∃q,Hid (q=z^^^(co p k).toNat):=⟨_,rfl⟩;rw[<-eq.out]at X0 hq HS;go_wp2
    go_loop [5,8,21] (fun x l i=>∃j:Nat,j<=8/\i= .int .i64 j/\x= .int .u32 ((stK j q:Nat):Int)) (fun _ _ i=>8-(intOf i).toNat)
    case atStart=>exact⟨0,Zo,rfl,rfl⟩
    case round=>
     obtain⟨j,hj,rfl,rfl⟩:=hrel;have ht:=stK_lt hq j;have HT:Hid (stK (j+1) q=st (stK j q)):=rfl;obtain⟨t,et⟩:∃t,Hid (t=stK j q):=⟨_,rfl⟩
     by_cases hj8:j<8
     ·rw[<-et.out]at ht HT ⊢
      by_cases hz:t%256*2^j%256=0
      ·have D:((t:Int)%256*2^j%256==0)=true:=by rw[beq_iff_eq];exact_mod_cast hz
       have HE:Hid (t/2^(8-j)=stK 8 q):=stK_early hj8 et.out hz;go_wp2;exact⟨⟨k+1,Zo,Zg,val_int32 (by rw[HS.out,<-HE.out];norm_cast)⟩,by simp[intOf];omega⟩
      ·have D:((t:Int)%256*2^j%256==0)=false:=by rw[Zq];exact_mod_cast hz
       go_wp2_with fail
       refine(cshifted_any rfl ht).mono ?_
       rintro e w' ⟨rfl,rfl⟩;go_wp2
       go_round
       case rel=>exact⟨j+1,Zo,Zg,by rw[HT.out]⟩
       case measure=>simp[intOf];omega
     ·have e:j=8:=by omega
      subst e;exact z5_4
  ·have e:k=p.length:=by omega
   have ht:p.take k=p:=List.take_of_length_le Zo;have hge:¬(k:Int)<(p.length:Int):=Zo
   rw[ht];clear ht e;go_wp2
   try rw[Exit.noGoto_ret]
   go_ret;exact⟨rfl,Zf⟩
theorem csum_any{v:Value}{p:List UInt8}{w:World}(hp:Rd w v p)(hl:p.length<=1000000):
  Calls Tryz.prog 126 #[v] w fun e w'=>e= .returned (.int .u32 ((more 0 p:Nat):Int))/\Below w.heap.size w w':=by
 go_enter Tryz.func126,Tryz.ntmps126
 go_wp2_with fail
 refine(cmore_any (s:=0) rfl Zd hp hl).mono ?_
 rintro e w' ⟨rfl,b⟩;go_wp2;go_ret;exact⟨rfl,b⟩
theorem run_append_rd2{P:Program}(w:World)(t ty:TypeId)(base:Nat)(e:TypeId)(i:TypeInfo)(ht:P.underlying t=some (.slice e))(hi:P.info? e=some i)(hz:i.zero=some (.int .u8 0))(hsize:i.size=1)(hby:i.bytes=1)
  (v:Value) (n:Nat) (xs:List Value) (hown:w.ownsRow base e 1 v n xs) (va:Value) (p:List UInt8) (hr:Rd w va p) (hl:n+p.length<=1000000) (hbase:base<=w.heap.size):
  ∃v' w',(Builtin.append_ #[t,t] ty #[v,va]).run P w= .ok v' w'/\w'.ownsRow base e 1 v' (n+p.length) (xs++p.map vb)/\w.grownBy w' v.ownBlock/\(v'.ownBlock=v.ownBlock∨v'.ownBlock=some w.heap.size):=by
 rcases hr with⟨ao,cap,rfl,rfl,hc,hn⟩|⟨b,off,cap,hp0,rfl,h1,h2,h3,hpc⟩
 ·rcases ao with _|ad
  ·have:=hn rfl;subst this;exact⟨v,w,run_append_owned_none (P:=P) (w:=w) base t ty e i 1 ht hi v n xs hown,by simpa using hown,World.grownBy.refl _ _,Or.inl rfl⟩
  ·obtain⟨v',w',hr,h2,h3,_,h5⟩:=run_append_own_at (P:=P) w base t ty e i (.int .u8 0) 1 1 ht hi hz hsize hby rfl Zd v n xs hown ad 0 cap [] rfl (by intro j u hj;simp at hj) (by intro u hu;simp at hu) Zl Zo hbase;exact⟨v',w',hr,by simpa using h2,h3,h5⟩
 ·obtain⟨v',w',hr,h2,h3,_,h5⟩:=run_append_own_at (P:=P) w base t ty e i (.int .u8 0) 1 1 ht hi hz hsize hby rfl Zd v n xs hown ⟨b,off,none⟩ p.length cap ((p.take p.length).map vb) Zs (news_of hpc) (vb_one _) Zl Zo hbase;exact⟨v',w',hr,by simpa using h2,h3,h5⟩
theorem wpList_append_rd2{P:Program}(w:World){ops:Array Oper}{rest:List Oper}{o:Oper}{a:Act}{Q:Exit->Act->World->Prop}(hgd:o.guard=none)(s x:Operand)(t:TypeId)
  (ho:o.op= .call {callee:=.builtin .append,args:=#[s,x],argTypes:=#[t,t]})
  (base:Nat) (e:TypeId) (i:TypeInfo) (ht:P.underlying t=some (.slice e)) (hi:P.info? e=some i) (hz:i.zero=some (.int .u8 0)) (hsize:i.size=1) (hby:i.bytes=1)
  (v:Value) (n:Nat) (xs:List Value) (hs:a.eval s=v) (hown:w.ownsRow base e 1 v n xs) (va:Value) (p:List UInt8) (hx:a.eval x=va) (hr:Rd w va p) (hl:n+p.length<=1000000) (hbase:base<=w.heap.size)
  (h:∀v' w',w'.ownsRow base e 1 v' (n+p.length) (xs++p.map vb)->w.grownBy w' v.ownBlock->(v'.ownBlock=v.ownBlock∨v'.ownBlock=some w.heap.size)->wpList P ops Q rest (a.put o.dst v') w'):wpList P ops Q (o::rest) a w:=by
 refine wpList_plain hgd fun K hK=>?_
 obtain⟨v',w',hrun,h2,h3,h4⟩:=run_append_rd2 w t o.type base e i ht hi hz hsize hby v n xs hown va p hr hl hbase;unfold Oper.wp execOp;simp only[ho,resolve,invoke,builtin,Sem.run_bind,Sem.run_pure,Result.andThen_ok,List.map_toArray,List.map_cons,List.map_nil,hs,hx,hrun];exact hK _ _ (h v' w' h2 h3 h4)
theorem wpList_append_one{P:Program}(w:World){ops:Array Oper}{rest:List Oper}{o:Oper}{a:Act}{Q:Exit->Act->World->Prop}(hgd:o.guard=none)(s x:Operand)(t:TypeId)
  (ho:o.op= .call {callee:=.builtin .append,args:=#[s,x],argTypes:=#[t,t]})
  (base:Nat) (e:TypeId) (i:TypeInfo) (ht:P.underlying t=some (.slice e)) (hi:P.info? e=some i) (hz:i.zero=some (.slice none 0 0)) (hsize:i.size=1) (hby:i.bytes=24)
  (v:Value) (n:Nat) (xs:List Value) (hs:a.eval s=v) (hown:w.ownsRow base e 1 v n xs) (b c:Nat) (u:Value) (hx:a.eval x= .slice (some ⟨b,0,none⟩) 1 c) (hr:w.cell? ⟨b,0,none⟩=some u) (hu:u.oneCell'=true) (hl:n<=100000) (hbase:base<=w.heap.size)
  (h:∀v' w',w'.ownsRow base e 1 v' (n+1) (xs++[u])->w.grownBy w' v.ownBlock->(v'.ownBlock=v.ownBlock∨v'.ownBlock=some w.heap.size)->wpList P ops Q rest (a.put o.dst v') w'):wpList P ops Q (o::rest) a w:=by
 refine wpList_plain hgd fun K hK=>?_
 obtain⟨v',w',hrun,h2,h3,_,h5⟩:=run_append_own_at (P:=P) w base t o.type e i (.slice none 0 0) 1 24 ht hi hz hsize hby rfl Zd v n xs hown ⟨b,0,none⟩ 1 c [u] rfl (by intro j y hj;rw[add_at,Nat.zero_add];rcases j with _|j<;>simp at hj;subst hj;exact hr) (by intro y hy;simp at hy;rw[hy];exact hu) Zl Zo hbase;unfold Oper.wp execOp;simp only[ho,resolve,invoke,builtin,Sem.run_bind,Sem.run_pure,Result.andThen_ok,List.map_toArray,List.map_cons,List.map_nil,hs,hx,hrun];exact hK _ _ (h v' w' h2 h3 h5)
def OwnP(w:World)(base u:Nat)(x:Value)(p:List UInt8):Prop:=w.ownsRow base u 1 x p.length (p.map vb)
theorem OwnP.kept{w w':World}{base u:Nat}{x:Value}{p:List UInt8}(h:OwnP w base u x p){r:Option Nat}(hg:w.grownBy w' r)(hne:x.ownBlock=none∨x.ownBlock≠r):OwnP w' base u x p:=World.ownsRow.kept h hg hne
theorem OwnP.alloc{w:World}{base u:Nat}{x:Value}{p:List UInt8}(h:OwnP w base u x p)(o:Obj):OwnP (w.alloc o) base u x p:=World.ownsRow.alloc h o
theorem OwnP.one{w:World}{base u:Nat}{x:Value}{p:List UInt8}(h:OwnP w base u x p):x.oneCell'=true:=by
 obtain⟨a,c,rfl⟩:=owns_form h;rfl
theorem OwnP.lt{w:World}{base u:Nat}{x:Value}{p:List UInt8}(h:OwnP w base u x p){k:Nat}(hk:x.ownBlock=some k):base<=k/\k<w.heap.size:=Zv h k hk
structure RowsO(w:World)(base u:Nat)(v:Value)(vals:List Value)(row:Nat->List UInt8):Prop where
 own:∀(i:Nat) (x:Value),vals[i]? =some x->OwnP w base u x (row i)
 diff:∀(i j:Nat) (x y:Value),vals[i]? =some x->vals[j]? =some y->i≠j->x.ownBlock=none∨x.ownBlock≠y.ownBlock
 out:∀(i:Nat) (x:Value),vals[i]? =some x->x.ownBlock=none∨x.ownBlock≠v.ownBlock
theorem RowsO.nil(w:World)(base u:Nat)(v:Value)(row:Nat->List UInt8):RowsO w base u v [] row:=
 ⟨fun i x h=>by simp at h,fun i j x y h=>by simp at h,fun i x h=>by simp at h⟩
theorem z5_2{p:Prop} (h:p:=by
 cases hx:x.ownBlock with
 |none=>exact Or.inl rfl
 |some k=>
  refine Or.inr fun e=>?_
  have h1:=h k hx;have h2:=hr k e.symm;omega
 ):p:=h
theorem block_apart{x:Value}{s:Nat}{r:Option Nat}(h:∀k,x.ownBlock=some k->k<s)(hr:∀k,r=some k->s<=k):x.ownBlock=none∨x.ownBlock≠r:=by
 exact z5_2
theorem block_apart'{x:Value}{s:Nat}{r:Option Nat}(h:∀k,x.ownBlock=some k->s<=k)(hr:∀k,r=some k->k<s):x.ownBlock=none∨x.ownBlock≠r:=by
 exact z5_2
theorem RowsO.push{wr w1 w2:World}{base u bt:Nat}{v v' x:Value}{vals:List Value}{row:Nat->List UInt8}{o o':Obj}(h:RowsO wr base u v vals row)(hv:wr.ownsRow base bt 1 v vals.length vals)
  (g1:(wr.alloc o).grownBy w1 (some wr.heap.size)) (hx:OwnP w1 base u x (row vals.length)) (hb1:∀k,x.ownBlock=some k->wr.heap.size<=k)
  (g2:(w1.alloc o').grownBy w2 v.ownBlock) (hb2:v'.ownBlock=v.ownBlock∨v'.ownBlock=some (w1.alloc o').heap.size):RowsO w2 base u v' (vals++[x]) row:=by
 have s1:wr.heap.size+1<=w1.heap.size:=by have:=g1.size;simpa using this
 have old:∀(i:Nat) (y:Value),vals[i]? =some y->∀k,y.ownBlock=some k->k<wr.heap.size:=fun i y hy k hk=>((h.own i y hy).lt hk).2
 have vlt:∀k,v.ownBlock=some k->k<wr.heap.size:=fun k hk=>(Zv hv k hk).2
 have xlt:∀k,x.ownBlock=some k->k<w1.heap.size:=fun k hk=>(hx.lt hk).2
 have keep:∀i y,vals[i]? =some y->OwnP w2 base u y (row i):=fun i y hy=>
  ((((h.own i y hy).alloc o).kept g1 (block_apart (old i y hy) (fun k e=>by cases e;exact Zr))).alloc o').kept g2 (h.out i y hy)
 have xkeep:OwnP w2 base u x (row vals.length):=(hx.alloc o').kept g2 (block_apart' hb1 vlt);have at_end:∀i y,(vals++[x])[i]? =some y->(vals[i]? =some y/\i<vals.length)∨(i=vals.length/\y=x):=fun i y hy=>by
  by_cases hi:i<vals.length
  ·rw[List.getElem?_append_left hi]at hy;exact Or.inl ⟨hy,hi⟩
  ·rw[List.getElem?_append_right Zo]at hy
   have:i-vals.length=0:=by
    rcases Nat.eq_zero_or_pos (i-vals.length)with e|e
    ·exact e
    ·rw[List.getElem?_eq_none Zm]at hy;cases hy
   rw[this]at hy;simp at hy;exact Or.inr ⟨Zo,hy.symm⟩
 have vout:∀y:Value,(∀k,y.ownBlock=some k->k<w1.heap.size)->(y.ownBlock=none∨y.ownBlock≠v.ownBlock)->(y.ownBlock=none∨y.ownBlock≠v'.ownBlock):=fun y hy ho=>by
  rcases hb2 with e|e
  ·rw[e];exact ho
  ·refine block_apart hy (fun k hk=>?_);rw[e]at hk;simp at hk;omega
 refine⟨fun i y hy=>?_,fun i j y z hy hz hij=>?_,fun i y hy=>?_⟩
 ·rcases at_end i y hy with⟨e,_⟩|⟨rfl,rfl⟩
  ·exact keep i y e
  ·exact xkeep
 ·rcases at_end i y hy with⟨e,_⟩|⟨rfl,rfl⟩
  ·rcases at_end j z hz with⟨e',_⟩|⟨rfl,rfl⟩
   ·exact h.diff i j y z e e' hij
   ·exact block_apart (old i y e) hb1
  ·rcases at_end j z hz with⟨e',_⟩|⟨rfl,rfl⟩
   ·exact block_apart' hb1 (old j z e')
   ·exact absurd rfl hij
 ·rcases at_end i y hy with⟨e,_⟩|⟨rfl,rfl⟩
  ·exact vout y (fun k hk=>by have:=old i y e k hk;omega) (h.out i y e)
  ·exact vout y xlt (block_apart' hb1 vlt)
theorem RowsO.put{wr w6 w7:World}{base u bt G n C k:Nat}{x x':Value}{vals:List Value}{row row':Nat->List UInt8}(h:RowsO wr base u (.slice (some ⟨G,0,none⟩) n C) vals row)(hv:wr.ownsRow base bt 1 (.slice (some ⟨G,0,none⟩) n C) n vals)
  (hk:vals[k]? =some x) (hB:Below wr.heap.size wr w6) (hg:w6.grownBy w7 x.ownBlock) (hx:OwnP w7 base u x' (row' k)) (hb:x'.ownBlock=x.ownBlock∨x'.ownBlock=some w6.heap.size) (hrow:∀i,i≠k->row' i=row i):
  (w7.setCell ⟨G,k,none⟩ x').ownsRow base bt 1 (.slice (some ⟨G,0,none⟩) n C) n (vals.set k x')/\RowsO (w7.setCell ⟨G,k,none⟩ x') base u (.slice (some ⟨G,0,none⟩) n C) (vals.set k x') row':=by
 have hG:G<wr.heap.size:=(Zv hv G rfl).2;have xo:=h.out k x hk;have v6:=owns_later hv hB;have v7:w7.ownsRow base bt 1 (.slice (some ⟨G,0,none⟩) n C) n vals:=World.ownsRow.kept v6 hg (by
  rcases xo with e|e
  ·right;rw[e];simp[Value.ownBlock]
  ·right;exact fun h=>e h.symm)
 obtain⟨v8,g8⟩:=World.ownsRow.stored v7 k x';have x'o:x'.ownBlock=none∨x'.ownBlock≠some G:=by
  rcases hb with e|e
  ·rw[e];exact xo
  ·right;rw[e];intro h;cases h;have:=hB.size;omega
 have old:∀(i:Nat) (y:Value),vals[i]? =some y->∀k,y.ownBlock=some k->k<wr.heap.size:=fun i y hy k hk=>((h.own i y hy).lt hk).2
 have sets:∀(i:Nat) (y:Value),(vals.set k x')[i]? =some y->(i=k/\y=x')∨(i≠k/\vals[i]? =some y):=fun i y hy=>by
  by_cases e:i=k
  ·subst e;have hlt:i<vals.length:=by
    rcases Nat.lt_or_ge i vals.length with h|h
    ·exact h
    ·rw[List.getElem?_eq_none h]at hk;cases hk
   rw[List.getElem?_set_self hlt]at hy;exact Or.inl ⟨rfl,by cases hy;rfl⟩
  ·rw[List.getElem?_set_ne (fun h=>e h.symm)]at hy;exact Or.inr ⟨e,hy⟩
 have x'd:∀(j:Nat) (z:Value),vals[j]? =some z->j≠k->x'.ownBlock=none∨x'.ownBlock≠z.ownBlock:=fun j z hz hj=>by
  rcases hb with e|e
  ·rw[e];exact h.diff k j x z hk hz (fun h=>hj h.symm)
  ·refine block_apart' (s:=wr.heap.size) (fun q hq=>?_) (old j z hz);rw[e]at hq;cases hq;exact hB.size
 refine⟨v8,⟨fun i y hy=>?_,fun i j y z hy hz hij=>?_,fun i y hy=>?_⟩⟩
 ·rcases sets i y hy with⟨rfl,rfl⟩|⟨e,hy⟩
  ·exact hx.kept g8 x'o
  ·rw[hrow i e];exact(World.ownsRow.kept (World.ownsRow.kept (owns_later (h.own i y hy) hB) hg (h.diff i k y x hy hk e)) g8 (h.out i y hy))
 ·rcases sets i y hy with⟨ei,ey⟩|⟨ei,hy'⟩
  ·rcases sets j z hz with⟨ej,ez⟩|⟨ej,hz'⟩
   ·exact absurd (ei.trans ej.symm) hij
   ·rw[ey];exact x'd j z hz' ej
  ·rcases sets j z hz with⟨ej,ez⟩|⟨ej,hz'⟩
   ·rw[ez];have h1:=x'd i y hy' ei;cases hyo:y.ownBlock with
    |none=>exact Or.inl rfl
    |some q=>
     right
     rcases h1 with h1|h1
     ·rw[h1];simp
     ·rw[hyo]at h1;exact fun h=>h1 h.symm
   ·exact h.diff i j y z hy' hz' hij
 ·rcases sets i y hy with⟨rfl,rfl⟩|⟨e,hy⟩
  ·exact x'o
  ·exact h.out i y hy
theorem RowsO.outer{wr w6 w7:World}{base u bt G n C k:Nat}{x:Value}{vals:List Value}{row:Nat->List UInt8}(h:RowsO wr base u (.slice (some ⟨G,0,none⟩) n C) vals row)(hv:wr.ownsRow base bt 1 (.slice (some ⟨G,0,none⟩) n C) n vals)
  (hk:vals[k]? =some x) (hkn:k<n) (hB:Below wr.heap.size wr w6) (hg:w6.grownBy w7 x.ownBlock):w7.cell? ⟨G,k,none⟩=some x/\w7.frozen? ⟨G,k,none⟩=false:=by
 have v7:w7.ownsRow base bt 1 (.slice (some ⟨G,0,none⟩) n C) n vals:=World.ownsRow.kept (owns_later hv hB) hg (by
  rcases h.out k x hk with e|e
  ·right;rw[e];simp[Value.ownBlock]
  ·right;exact fun h=>e h.symm)
 exact⟨by rw[World.ownsRow.cellAt v7 k Zo,hk],World.ownsRow.frozenAt v7 k⟩
def Grid(w:World)(base bt G n C M:Nat)(W:Mx):Prop:=
 ∃vals:List Value,w.ownsRow base bt 1 (.slice (some ⟨G,0,none⟩) n C) n vals/\∀i,i<n->∃x,vals[i]? =some x/\Rd w x (upto (W i) M)/\Apart G x
theorem Rd.grown{w w':World}{v:Value}{p:List UInt8}{G:Nat}(h:Rd w v p)(hg:w.grownBy w' (some G))(ha:Apart G v):Rd w' v p:=by
 rcases h with h|⟨b,off,cap,h1,h2,h3,h4,h5,h6⟩
 ·exact Or.inl h
 ·have hb:b≠G:=by
   rcases ha _ _ _ h2 with e|e
   ·exact absurd (List.length_eq_zero_iff.1 e) h1
   ·exact e
  exact Or.inr ⟨b,off,cap,h1,h2,h3,h4,Zu h5 hg.size,fun i hi=>(hg.cell_far ⟨b,off+i,none⟩ h5 (fun e=>hb (by cases e;rfl))).trans (h6 i hi)⟩
theorem Grid.later{w w':World}{base bt G n C M:Nat}{W:Mx}(h:Grid w base bt G n C M W)(hb:Below w.heap.size w w'):Grid w' base bt G n C M W:=by
 obtain⟨vals,hv,hr⟩:=h;exact⟨vals,owns_later hv hb,fun i hi=>by obtain⟨x,h1,h2,h3⟩:=hr i hi;exact⟨x,h1,h2.below hb,h3⟩⟩
theorem Grid.cell{w:World}{base bt G n C M:Nat}{W:Mx}(h:Grid w base bt G n C M W){i:Nat}(hi:i<n):∃x,w.cell? ⟨G,i,none⟩=some x/\w.frozen? ⟨G,i,none⟩=false/\Rd w x (upto (W i) M)/\Apart G x:=by
 obtain⟨vals,hv,hr⟩:=h;obtain⟨x,h1,h2,h3⟩:=hr i hi;exact⟨x,by rw[World.ownsRow.cellAt hv i Zo,h1],World.ownsRow.frozenAt hv i,h2,h3⟩
theorem Grid.lt{w:World}{base bt G n C M:Nat}{W:Mx}(h:Grid w base bt G n C M W):base<=G/\G<w.heap.size:=by
 obtain⟨vals,hv,hr⟩:=h;exact Zv hv G rfl
theorem Grid.at{w:World}{base bt G n C M:Nat}{W:Mx}(h:Grid w base bt G n C M W){i:Nat}(hi:i<n)(hM:0<M):∃b o cap,w.cell? ⟨G,i,none⟩=some (.slice (some ⟨b,o,none⟩) M cap)/\w.frozen? ⟨G,i,none⟩=false/\Rd w (.slice (some ⟨b,o,none⟩) M cap) (upto (W i) M)/\b≠G/\∀j,j<M->w.cell? ⟨b,o+j,none⟩=some (.int .u8 ((W i j).toNat:Nat)):=by
 obtain⟨x,h1,h2,h3,h4⟩:=h.cell hi;have h3':=h3
 rcases h3 with⟨ao,cap,e,_⟩|⟨b,o,cap,e,rfl,k1,k2,k3,k4⟩
 ·have:=upto_length (W i) M;rw[e]at this;simp at this;omega
 ·rw[upto_length]at h1 h3' h4 k4;refine⟨b,o,cap,h1,h2,h3',?_,fun j hj=>?_⟩
  ·rcases h4 _ _ _ rfl with e2|e2
   ·omega
   ·exact e2
  ·rw[k4 j hj,co_upto_lt hj]
theorem Grid.set{w:World}{base bt G n C M:Nat}{W W':Mx}(h:Grid w base bt G n C M W){k:Nat}(hk:k<n){x:Value}(hx:Rd w x (upto (W' k) M))(ha:Apart G x)(he:∀i j,i<n->i≠k->j<M->W i j=W' i j):Grid (w.setCell ⟨G,k,none⟩ x) base bt G n C M W':=by
 obtain⟨vals,hv,hr⟩:=h;have hlen:vals.length=n:=by have:=hv.1;omega
 obtain⟨v8,g8⟩:=World.ownsRow.stored hv k x;refine⟨_,v8,fun i hi=>?_⟩
 by_cases e:i=k
 ·subst e;exact⟨x,List.getElem?_set_self Zo,hx.grown g8 ha,ha⟩
 ·obtain⟨y,h1,h2,h3⟩:=hr i hi;refine⟨y,by rw[List.getElem?_set_ne (fun h=>e h.symm)];exact h1,?_,h3⟩;rw[<-upto_congr (fun j hj=>he i j hi e hj)];exact h2.grown g8 h3
end Go.Proofs.YtddnfhfangfgeaaGreat.Gf
