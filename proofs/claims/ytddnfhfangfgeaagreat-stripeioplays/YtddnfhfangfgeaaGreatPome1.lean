/- JOINED: MvK, GfOwn, GfMath, GfAlg, GfPut, GfNew, GfPowMath, GfRefMath, GfRefMul, GfRefInv, GfRefDiv, GfMul, GfPow, GfDiv. -/
import Derived.Test.YtddnfhfangfgeaaGreatZb
import Derived.Deep.RegionHeld3
import Derived.WalkKit
import Derived.Test.YtddnfhfangfgeaaGreatChecked
import GoSem.Claim
import GoSem.ClaimJoined
import GoSem.ClaimMapViews
import Derived.JoinedTies
import Derived.KernelRfl
import Derived.Deep.QuietTactic
import Derived.BigQuiet
import Derived.WalkLawsBesides
import Derived.Test.YtddnfhfangfgeaaGreatRows
import Derived.WalkSpells
set_option maxHeartbeats 1000000
set_option maxRecDepth 100000
namespace Go.Proofs.YtddnfhfangfgeaaGreat.Gf
set_option linter.unusedVariables false
set_option linter.unusedSimpArgs false
section
variable {P:Program} {md:Region.Mode} {ops:Array Oper} {Q:Exit->Act->World->Prop} {S:World->Prop} {fuel:Nat} {l l':Array Bool} {a a':Act} {w:World} {o:Oper} {v:Value}
theorem tkH(i:Nat)(h:wpAnyH P md ops Q S fuel l' a' w)(hi:ops[i]? =some o:=by rfl)(hs:Region.noSelect ops=true:=by kernel_rfl)(hf:Region.free md ops l i=true:=by kernel_rfl)(hr:(Region.ready md ops l).contains i=true:=by kernel_rfl)
  (hy:YieldsIf P ops S o v a:=by
   refine Or.inl ⟨by rfl,?_⟩;intro w hSw
   (try dsimp only at hSw)
   go_simp
   try with_reducible rfl)
  (hQ:∀c a w,Q (.panic c) (a.put o.dst v) w->Q (.panic c) a w:=by exact fun _ _ _ h=>h) (hS:S w:=by assumption)
  (e:a.put o.dst v=a':=by
   try simp only[List.getElem_toArray,List.getElem_cons_succ,List.getElem_cons_zero,Act.put,List.setIfInBounds_toArray,List.set_cons_zero,List.set_cons_succ]
   first|done|rfl)
  (el:l.setIfInBounds i true=l':=by
   try simp only[List.setIfInBounds_toArray,List.set_cons_zero,List.set_cons_succ]
   first|done|rfl):wpAnyH P md ops Q S (fuel+1) l a w:=wpAnyH_take hi hs hf hr hQ hy hS (by rw[e,el];exact h)
theorem rnH(i:Nat)(h:∀K':Act->World->Prop,Shut (∀a w,S w->(S w->wpAnyH P md ops Q S fuel (l.setIfInBounds i true) a w)->K' a w)->if Region.wanted o (yielded ops a.tmps)=true then Oper.wp P o a w K' Q else K' (a.put o.dst undef) w)
  (hr:Region.ready md ops l=[i]:=by kernel_rfl) (ho:ops[i]? =some o:=by rfl):wpAnyH P md ops Q S (fuel+1) l a w:=
 wpAnyH_ready hr (by simp) (AllReadyH.cons ho h AllReadyH.nil)
theorem rmH(i j:Nat){o2:Oper}(h:∀K':Act->World->Prop,Shut (∀a w,S w->(S w->wpAnyH P md ops Q S fuel (l.setIfInBounds i true) a w)->K' a w)->if Region.wanted o (yielded ops a.tmps)=true then Oper.wp P o a w K' Q else K' (a.put o.dst undef) w)
  (h2:∀K':Act->World->Prop,Shut (∀a w,S w->(S w->wpAnyH P md ops Q S fuel (l.setIfInBounds j true) a w)->K' a w)->if Region.wanted o2 (yielded ops a.tmps)=true then Oper.wp P o2 a w K' Q else K' (a.put o2.dst undef) w)
  (hr:Region.ready md ops l=[i,j]:=by kernel_rfl) (ho:ops[i]? =some o:=by rfl) (ho2:ops[j]? =some o2:=by rfl):wpAnyH P md ops Q S (fuel+1) l a w:=
 wpAnyH_ready hr (by simp) (AllReadyH.cons ho h (AllReadyH.cons ho2 h2 AllReadyH.nil))
theorem rtH(i j k:Nat){o2 o3:Oper}(h:∀K':Act->World->Prop,Shut (∀a w,S w->(S w->wpAnyH P md ops Q S fuel (l.setIfInBounds i true) a w)->K' a w)->if Region.wanted o (yielded ops a.tmps)=true then Oper.wp P o a w K' Q else K' (a.put o.dst undef) w)
  (h2:∀K':Act->World->Prop,Shut (∀a w,S w->(S w->wpAnyH P md ops Q S fuel (l.setIfInBounds j true) a w)->K' a w)->if Region.wanted o2 (yielded ops a.tmps)=true then Oper.wp P o2 a w K' Q else K' (a.put o2.dst undef) w)
  (h3:∀K':Act->World->Prop,Shut (∀a w,S w->(S w->wpAnyH P md ops Q S fuel (l.setIfInBounds k true) a w)->K' a w)->if Region.wanted o3 (yielded ops a.tmps)=true then Oper.wp P o3 a w K' Q else K' (a.put o3.dst undef) w)
  (hr:Region.ready md ops l=[i,j,k]:=by kernel_rfl) (ho:ops[i]? =some o:=by rfl) (ho2:ops[j]? =some o2:=by rfl) (ho3:ops[k]? =some o3:=by rfl):wpAnyH P md ops Q S (fuel+1) l a w:=
 wpAnyH_ready hr (by simp) (AllReadyH.cons ho h (AllReadyH.cons ho2 h2 (AllReadyH.cons ho3 h3 AllReadyH.nil)))
theorem skH(i:Nat)(h:wpAnyH P md ops Q S fuel l' a' w)(hi:ops[i]? =some o:=by rfl)(hs:Region.noSelect ops=true:=by kernel_rfl)(hf:Region.free md ops l i=true:=by kernel_rfl)(hr:(Region.ready md ops l).contains i=true:=by kernel_rfl)
  (hy:Region.wanted o (yielded ops a.tmps)=false:=by rfl)
  (hQ:∀c a w,Q (.panic c) (a.put o.dst undef) w->Q (.panic c) a w:=by exact fun _ _ _ h=>h) (hS:S w:=by assumption)
  (e:a.put o.dst undef=a':=by
   try simp only[List.getElem_toArray,List.getElem_cons_succ,List.getElem_cons_zero,Act.put,List.setIfInBounds_toArray,List.set_cons_zero,List.set_cons_succ]
   first|done|rfl)
  (el:l.setIfInBounds i true=l':=by
   try simp only[List.setIfInBounds_toArray,List.set_cons_zero,List.set_cons_succ]
   first|done|rfl):wpAnyH P md ops Q S (fuel+1) l a w:=wpAnyH_take hi hs hf hr hQ (Or.inr ⟨hy,rfl⟩) hS (by rw[e,el];exact h)
theorem koH{K':Act->World->Prop}(hK:Shut (∀a w,S w->(S w->wpAnyH P md ops Q S fuel l a w)->K' a w))(hS:S w)(h:S w->wpAnyH P md ops Q S fuel l' a' w)
  (e:a=a':=by
   try simp only[List.getElem_toArray,List.getElem_cons_succ,List.getElem_cons_zero,Act.put,List.setIfInBounds_toArray,List.set_cons_zero,List.set_cons_succ]
   first|done|rfl)
  (el:l=l':=by
   try simp only[List.setIfInBounds_toArray,List.set_cons_zero,List.set_cons_succ]
   first|done|rfl):K' a w:=hK.out _ _ hS (by rw[e,el];exact h)
end
open Go.RowKit
theorem ret_int{k:IntKind}{a b:Int}(h:a=b):Ending.returned (.int k a)= .returned (.int k b):=by rw[h]
structure Own(w w':World):Prop where
 below:Below w.heap.size w w'
 frozen:∀a,w'.frozen? a=w.frozen? a
theorem Own.refl(w:World):Own w w:=⟨Zf,fun _=>rfl⟩
theorem Own.drew{a b:World}(h:Own a b):Own a b.drew:=⟨h.below.drew,h.frozen⟩
theorem Own.drewN{a b:World}(h:Own a b)(n:Nat):Own a (b.drewN n):=⟨h.below.trans ⟨rfl,rfl,rfl,Zr,fun _ _=>rfl⟩,h.frozen⟩
theorem Own.alloc{a b:World}(h:Own a b)(c:Array Value)(t:TypeId):Own a (b.alloc (.cells c t)):=
 ⟨h.below.alloc h.below.size _,fun x=>((Grown.refl b).alloc c t).2.1 x|>.trans (h.frozen x)⟩
theorem Own.setCell{a b:World}(h:Own a b){p:Addr}(hp:a.heap.size<=p.block)(v:Value):Own a (b.setCell p v):=
 ⟨h.below.setCell hp v,fun x=>by rw[<-h.frozen x];simp⟩
theorem Own.cell{w w':World}(h:Own w w'){p:Addr}(hp:p.block<w.heap.size):w'.cell? p=w.cell? p:=h.below.cell hp
def pwN:Nat:=70160881166704368827218703435136616750530459438269794890424969378298545675077208731798828898087927652446353395360628748027273188182808436399538186061104243134188885576122562338679313492324190829158544377810568631194580132524405266702234305646236648896994794467054525044798919765581988418950285252905306116225263236585714808161311289784028762024137133735135393922581566890382566480334369299400480864790538739986285574563168380416343369614948461817839620668187777978661530364712890858126432457562886306102556561631759900551331094983229723298224611133722330829711659991602983068895685602467964643306841827719562658305
def lgN:Nat:=22135253156888987530748098150270024343632497605293634117281264061560962248099620766229961468867162294233796152347975563017024165690400661622462404646302566225833645086064538892198543335321514950294300187779610338557442029018619797274438901674641748676613670242915365385819254959901651105240253464034662486586186382979728982817772067067513442677601938078891989292316012868233806586592927239821351197800766822366321181463280924672822998103315976779850880337712374790938628529953751181886374687897611504386983350015558142994211516619836411558782076806704747441947939324473761869443721989389604670425385080942269787340800
def pw(k:Nat):Nat:=(pwN>>>(8*k))%256
def lg(a:Nat):Nat:=(lgN>>>(8*a))%256
def dbl(a:Nat):Nat:=if a<128 then 2*a else (2*a)^^^285
def allB(n:Nat)(f:Nat->Bool):Bool:=Nat.rec true (fun k r=>f k&&r) n
theorem allB_out{n:Nat}{f:Nat->Bool}(h:allB n f=true):∀k,k<n->f k=true:=by
 induction n with
 |zero=>intro k hk;omega
 |succ m ih=>
  have h2:(f m&&allB m f)=true:=h;rw[Bool.and_eq_true]at h2;intro k hk
  by_cases e:k=m
  ·subst e;exact h2.1
  ·exact ih h2.2 k Zo
theorem pw_succ{k:Nat}(h:k<254):pw (k+1)=dbl (pw k):=
 of_decide_eq_true (allB_out (n:=254) (f:=fun k=>decide (pw (k+1)=dbl (pw k))) Zk k h)
theorem lg_pw{k:Nat}(h:k<255):lg (pw k)=k:=
 of_decide_eq_true (allB_out (n:=255) (f:=fun k=>decide (lg (pw k)=k)) Zk k h)
theorem pw_lg{a:Nat}(h:a<256)(h0:a≠0):pw (lg a)=a:=by
 have:=of_decide_eq_true (allB_out (n:=255) (f:=fun k=>decide (pw (lg (k+1))=k+1)) Zk (a-1) Zo);rwa[Nat.sub_add_cancel Zo]at this
theorem lg_lt{a:Nat}(h:a<256):lg a<255:=
 of_decide_eq_true (allB_out (n:=256) (f:=fun k=>decide (lg k<255)) Zk a h)
theorem pw_lt(k:Nat):pw k<256:=Nat.mod_lt _ Zd
theorem pw_pos{k:Nat}(h:k<255):0<pw k:=
 of_decide_eq_true (allB_out (n:=255) (f:=fun k=>decide (0<pw k)) Zk k h)
theorem lg_zero:lg 0=0:=Zk
theorem pw_zero:pw 0=1:=Zk
theorem dbl_last:dbl (pw 254)=1:=Zk
theorem dbl_lt{a:Nat}(h:a<256):dbl a<256:=
 of_decide_eq_true (allB_out (n:=256) (f:=fun k=>decide (dbl k<256)) Zk a h)
theorem next_pw{k:Nat}(hk:k<255):dbl (pw (k%255))=pw ((k+1)%255):=by
 rw[Nat.mod_eq_of_lt hk]
 by_cases e:k=254
 ·subst e;rw[dbl_last];exact pw_zero.symm
 ·rw[Nat.mod_eq_of_lt Zo,pw_succ Zo]
def zE(a:Nat):Nat:=if a=0 then 10 else 0
theorem zE_zero:zE 0=10:=rfl
theorem zE_pos{a:Nat}(h:a≠0):zE a=0:=if_neg h
def mulS(a b:Nat):Nat:=if a=0∨b=0 then 0 else pw ((lg a+lg b)%255)
def xt:Nat->Nat->Nat
 |0,a=>a
 |i+1,a=>dbl (xt i a)
def acc:Nat->Nat->Nat->Nat
 |0,_,_=>0
 |i+1,a,b=>acc i a b^^^(if b.testBit i then xt i a else 0)
def accR(a b:Nat):Nat:=
 Nat.rec (fun _ _ out=>out) (fun _ r x y out=>r (dbl x) (y/2) (if y%2=1 then out^^^x else out)) 8 a b 0
theorem mul_accR:allB 256 (fun a=>allB 256 fun b=>Nat.beq (mulS a b) (accR a b))=true:=Zk
theorem mulS_lt(a b:Nat):mulS a b<256:=by
 unfold mulS;split
 ·omega
 ·exact pw_lt _
theorem mulS_comm(a b:Nat):mulS a b=mulS b a:=by
 unfold mulS;rw[Nat.add_comm (lg a)];simp only[Or.comm]
theorem mulS_zero(a:Nat):mulS a 0=0:=by simp[mulS]
theorem zero_mulS(a:Nat):mulS 0 a=0:=by simp[mulS]
theorem mulS_pos{a b:Nat}(ha:a≠0)(hb:b≠0):mulS a b=pw ((lg a+lg b)%255):=by simp[mulS,ha,hb]
theorem mulS_ne{a b:Nat}(ha:a≠0)(hb:b≠0):mulS a b≠0:=by
 rw[mulS_pos ha hb];have:=pw_pos (Nat.mod_lt (lg a+lg b) (by decide:0<255));omega
theorem lg_mulS{a b:Nat}(ha:a≠0)(hb:b≠0):lg (mulS a b)=(lg a+lg b)%255:=by
 rw[mulS_pos ha hb,lg_pw (Nat.mod_lt _ Zd)]
theorem lg_one:lg 1=0:=Zk
theorem mulS_one{a:Nat}(ha:a<256):mulS a 1=a:=by
 by_cases h:a=0
 ·subst h;exact zero_mulS 1
 ·rw[mulS_pos h Zd,lg_one,Nat.add_zero,Nat.mod_eq_of_lt (lg_lt ha),pw_lg ha h]
theorem mulS_assoc(a b c:Nat):mulS a (mulS b c)=mulS (mulS a b) c:=by
 by_cases ha:a=0
 ·subst ha;simp only[zero_mulS]
 by_cases hb:b=0
 ·subst hb;simp only[zero_mulS,mulS_zero]
 by_cases hc:c=0
 ·subst hc;simp only[mulS_zero]
 rw[mulS_pos ha (mulS_ne hb hc),mulS_pos (mulS_ne ha hb) hc,lg_mulS hb hc,lg_mulS ha hb];congr 1;omega
theorem mulS_eq_zero{a b:Nat}:mulS a b=0↔a=0∨b=0:=by
 constructor
 ·intro h
  by_cases ha:a=0
  ·exact Or.inl ha
  ·by_cases hb:b=0
   ·exact Or.inr hb
   ·exact absurd h (mulS_ne ha hb)
 ·rintro(rfl|rfl)
  ·exact zero_mulS _
  ·exact mulS_zero _
def accG(n:Nat):Nat->Nat->Nat->Nat:=
 Nat.rec (fun _ _ out=>out) (fun _ r x y out=>r (dbl x) (y/2) (if y%2=1 then out^^^x else out)) n
theorem accG_eq(a b:Nat):∀n i,accG n (xt i a) (b/2^i) (acc i a b)=acc (i+n) a b
 |0,_=>rfl
 |n+1,i=>by
  have e:accG (n+1) (xt i a) (b/2^i) (acc i a b)=accG n (xt (i+1) a) (b/2^(i+1)) (acc (i+1) a b):=by
   have h1:accG (n+1) (xt i a) (b/2^i) (acc i a b)=accG n (dbl (xt i a)) (b/2^i/2) (if b/2^i%2=1 then acc i a b^^^xt i a else acc i a b):=rfl;rw[h1,Nat.div_div_eq_div_mul,<-Nat.pow_succ,acc,Nat.testBit_eq_decide_div_mod_eq]
   by_cases h:b/2^i%2=1
   ·simp[h,xt]
   ·simp[h,xt]
  rw[e,accG_eq a b n (i+1)];congr 1;omega
theorem accR_eq(a b:Nat):accR a b=acc 8 a b:=by
 have h:=accG_eq a b 8 0;simp only[Nat.pow_zero,Nat.div_one]at h;exact h
theorem xt_lt{a:Nat}(ha:a<256):∀k,xt k a<256
 |0=>ha
 |k+1=>dbl_lt (xt_lt ha k)
theorem mulS_acc{a b:Nat}(ha:a<256)(hb:b<256):mulS a b=acc 8 a b:=by
 rw[<-accR_eq];exact Nat.eq_of_beq_eq_true (allB_out (allB_out mul_accR a ha) b hb)
theorem acc_xor(a b c:Nat):∀i,acc i a (b^^^c)=acc i a b^^^acc i a c
 |0=>by simp[acc]
 |i+1=>by
  simp only[acc];rw[acc_xor a b c i,Nat.testBit_xor];have e:(if (b.testBit i^^c.testBit i)=true then xt i a else 0)=(if b.testBit i=true then xt i a else 0)^^^(if c.testBit i=true then xt i a else 0):=by
   cases b.testBit i<;>cases c.testBit i<;>simp
  rw[e]
  ac_rfl
theorem xor_lt{b c:Nat}(hb:b<256)(hc:c<256):b^^^c<256:=Nat.xor_lt_two_pow (n:=8) hb hc
theorem mulS_xor{a b c:Nat}(ha:a<256)(hb:b<256)(hc:c<256):mulS a (b^^^c)=mulS a b^^^mulS a c:=by
 rw[mulS_acc ha (xor_lt hb hc),mulS_acc ha hb,mulS_acc ha hc,acc_xor]
def invS(a:Nat):Nat:=if a=0 then 0 else pw ((lg a*254)%255)
theorem invS_lt(a:Nat):invS a<256:=by
 unfold invS;split
 ·omega
 ·exact pw_lt _
theorem invS_ne{a:Nat}(ha:a≠0):invS a≠0:=by
 unfold invS;rw[if_neg ha];have:=pw_pos (Nat.mod_lt (lg a*254) (by decide:0<255));omega
theorem lg_invS{a:Nat}(ha:a≠0):lg (invS a)=(lg a*254)%255:=by
 unfold invS;rw[if_neg ha,lg_pw (Nat.mod_lt _ Zd)]
theorem mulS_invS{a:Nat}(ha:a≠0):mulS a (invS a)=1:=by
 rw[mulS_pos ha (invS_ne ha),lg_invS ha]
 have:(lg a+lg a*254%255)%255=0:=Zo
 rw[this,pw_zero]
theorem dbl_hi{a:Nat}(h:a<256)(hh:¬a<128):bits .xor .u8 ((a:Int)*2%256) 29=(dbl a:Nat):=by
 have e:((a:Int)*2%256)=((2*a-256:Nat):Int):=Zo
 rw[e,show(29:Int)=((29:Nat):Int)from rfl,u8_xor_nat _ _ Zo Zo];have:=of_decide_eq_true (allB_out (n:=256) (f:=fun k=>decide (¬k<128->(2*k-256)^^^29=dbl k)) Zk a h) hh;rw[this]
theorem double_any(a:Nat)(h:a<256)(w:World):
  Calls Tryz.prog 32 #[.int .u8 a] w fun e w'=>e= .returned (.int .u8 (dbl a))/\w'=w:=by
 by_cases hlt:a<128
 ·have e:((a:Int)*2)=(dbl a:Nat):=by unfold dbl;rw[if_pos hlt];omega
  have E:Hid (((a:Int)*2)=(dbl a:Nat)):=e;clear e
  go_enter Tryz.func32,Tryz.ntmps32
  go_wp2;go_ret;exact⟨ret_int E.out,rfl⟩
 ·have E:Hid (bits .xor .u8 ((a:Int)*2%256) 29=(dbl a:Nat)):=dbl_hi h hlt
  go_enter Tryz.func32,Tryz.ntmps32
  go_wp2;go_ret;exact⟨ret_int E.out,rfl⟩
theorem put_any(b bf bp n p:Nat)(w:World)(hn:n<255)(hp:p<256)(hbf:b≠bf)(hbp:b≠bp)(hfp:bf≠bp)
  (cf:w.cell? ⟨bf,0,none⟩=some (.pointer (some ⟨b,0,none⟩))) (cp:w.cell? ⟨bp,0,none⟩=some (.int .u8 p)) (zp:w.frozen? ⟨bp,0,none⟩=false)
  (v1 v2:Value) (c1:w.cell? ⟨b,n,none⟩=some v1) (c2:w.cell? ⟨b,255+p,none⟩=some v2) (z1:w.frozen? ⟨b,n,none⟩=false) (z2:w.frozen? ⟨b,255+p,none⟩=false):
  Calls Tryz.prog 31 #[.int .i64 n,.pointer (some ⟨bp,0,none⟩),.pointer (some ⟨bf,0,none⟩)] w fun e w'=>e= .returned (.tuple #[])/\
   w'=(((w.setCell ⟨b,n,none⟩ (.int .u8 p)).setCell ⟨b,255+p,none⟩ (.int .u8 n)).setCell ⟨bp,0,none⟩ (.int .u8 (dbl p))).drew.drew:=by
 go_enter Tryz.func31,Tryz.ntmps31
 go_wp2
 go_region
 go_wp2
 go_region
 go_wp2_with (go_at_call 32;refine(double_any _ hp _).mono ?_;rintro e w' ⟨rfl,rfl⟩)
 go_end0
 exact⟨rfl,rfl⟩
def zeros:Array Value:=Array.replicate 511 (.int .u8 0)
theorem zero_field(w:World):Sem.run Tryz.prog (zeroValue 71) w= .ok (.agg zeros) w:=Zk
theorem zeros_at{i:Nat}(h:i<511):zeros[i]? =some (.int .u8 0):=by
 unfold zeros;rw[Array.getElem?_replicate,if_pos h]
theorem cell_set{w:World}{p q:Addr}{u v:Value}(h:w.cell? q=some u):(w.setCell p v).cell? q=some (if q=p then v else u):=by
 by_cases e:q=p
 ·subst e;rw[if_pos rfl];exact World.cell?_setCell_same w q v h
 ·rw[if_neg e,<-h];exact World.cell?_setCell_other w p q v (fun h=>e h.symm)
theorem frozen_past{w:World}{a:Addr}(h:w.heap.size<=a.block):w.frozen? a=false:=by
 unfold World.frozen?;rw[Array.getElem?_eq_none h]
structure FieldK(w:World)(b k:Nat):Prop where
 powers:∀i,i<255->w.cell? ⟨b,i,none⟩=some (.int .u8 (if i<k then pw i else 0:Nat))
 places:∀a,a<256->w.cell? ⟨b,255+a,none⟩=some (.int .u8 (if a≠0/\lg a<k then lg a else 0:Nat))
structure FieldAt(w:World)(b:Nat):Prop where
 powers:∀i,i<255->w.cell? ⟨b,i,none⟩=some (.int .u8 (pw i:Nat))
 places:∀a,a<256->w.cell? ⟨b,255+a,none⟩=some (.int .u8 (lg a:Nat))
 lt:b<w.heap.size
theorem FieldAt.own{w w':World}{b:Nat}(h:FieldAt w b)(o:Own w w'):FieldAt w' b:=
 ⟨fun i hi=>(o.cell (p:=⟨b,i,none⟩) h.lt).trans (h.powers i hi),fun i hi=>(o.cell (p:=⟨b,255+i,none⟩) h.lt).trans (h.places i hi),Zu h.lt o.below.size⟩
theorem place_eq{k a:Nat}(hk:k<255)(ha:a<256):
  (if a=pw k then k else if a≠0/\lg a<k then lg a else 0)=(if a≠0/\lg a<k+1 then lg a else 0):=by
 by_cases e:a=pw k
 ·subst e;have:=pw_pos hk;have hl:=lg_pw hk;rw[if_pos rfl,hl,if_pos ⟨Zo,Zo⟩]
 ·rw[if_neg e]
  by_cases z:a=0
  ·subst z;simp
  ·have hne:lg a≠k:=fun h=>e (by rw[<-h,pw_lg ha z])
   by_cases l:lg a<k
   ·rw[if_pos ⟨z,l⟩,if_pos ⟨z,Zo⟩]
   ·rw[if_neg (fun h=>l h.2),if_neg (fun h=>Zo)]
theorem step{w:World}{b c k:Nat}(hk:k<255)(hbc:b≠c)(h:FieldK w b k){v:Value}(hc:w.cell? ⟨c,0,none⟩=some v):
  FieldK (((w.setCell ⟨b,k,none⟩ (.int .u8 (pw (k%255):Nat))).setCell ⟨b,255+pw (k%255),none⟩ (.int .u8 (k:Nat))).setCell ⟨c,0,none⟩ (.int .u8 (dbl (pw (k%255)):Nat))).drew.drew b (k+1)/\
  (((w.setCell ⟨b,k,none⟩ (.int .u8 (pw (k%255):Nat))).setCell ⟨b,255+pw (k%255),none⟩ (.int .u8 (k:Nat))).setCell ⟨c,0,none⟩ (.int .u8 (dbl (pw (k%255)):Nat))).drew.drew.cell? ⟨c,0,none⟩=some (.int .u8 (pw ((k+1)%255):Nat)):=by
 refine⟨⟨fun i hi=>?_,fun a ha=>?_⟩,?_⟩
 ·simp only[World.cell?_drew];rw[cell_set (cell_set (cell_set (h.powers i hi)))];simp only[Addr.mk.injEq,and_true,true_and,hbc,false_and,if_false];rw[if_neg (by omega:¬i=255+pw (k%255))];rw[Nat.mod_eq_of_lt hk]
  by_cases e:i=k
  ·subst e;simp
  ·simp only[e,if_false]
   by_cases l:i<k
   ·rw[if_pos l,if_pos Zo]
   ·rw[if_neg l,if_neg Zo]
 ·simp only[World.cell?_drew];rw[cell_set (cell_set (cell_set (h.places a ha)))];simp only[Addr.mk.injEq,and_true,true_and,hbc,false_and,if_false];rw[if_neg (by omega:¬255+a=k),Nat.mod_eq_of_lt hk,<-place_eq hk ha]
  by_cases e:a=pw k
  ·subst e;simp
  ·rw[if_neg Zo,if_neg e]
 ·simp only[World.cell?_drew];rw[cell_set (cell_set (cell_set hc)),if_pos rfl,next_pw hk]
theorem start{w:World}:FieldK (((w.alloc (.cells zeros 71)).alloc (.cells #[.pointer (some ⟨w.heap.size,0,none⟩)] 26)).alloc (.cells #[.int .u8 1] 5)) w.heap.size 0:=by
 have key:∀i,i<511->(((w.alloc (.cells zeros 71)).alloc (.cells #[.pointer (some ⟨w.heap.size,0,none⟩)] 26)).alloc (.cells #[.int .u8 1] 5)).cell? ⟨w.heap.size,i,none⟩=some (.int .u8 0):=by
  intro i hi;rw[World.cell?_alloc_past _ _ _ Zm,World.cell?_alloc_past _ _ _ Zs,World.cell?_alloc_at _ _ _ _ rfl,zeros_at hi]
 exact⟨fun i hi=>by rw[key i Zo];simp,fun a ha=>by rw[key _ Zo];simp⟩
theorem FieldK.whole{w:World}{b:Nat}(h:FieldK w b 255)(hb:b<w.heap.size):FieldAt w b:=by
 refine⟨fun i hi=>?_,fun a ha=>?_,hb⟩
 ·rw[h.powers i hi,if_pos hi]
 ·rw[h.places a ha]
  by_cases e:a=0
  ·subst e;simp[lg_zero]
  ·rw[if_pos ⟨e,lg_lt ha⟩]
theorem new_any(w:World):
  Calls Tryz.prog 10 #[] w fun e w'=>e= .returned (.pointer (some ⟨w.heap.size,0,none⟩))/\FieldAt w' w.heap.size/\Own w w':=by
 have hz:=zero_field
 go_enter Tryz.func10,Tryz.ntmps10
 go_wp2;clear hz
 go_loopw [8] (fun i wr=>∃k:Nat,k<=255/\i= .int .i64 k/\FieldK wr w.heap.size k/\wr.cell? ⟨w.heap.size+1,0,none⟩=some (.pointer (some ⟨w.heap.size,0,none⟩))/\
   wr.cell? ⟨w.heap.size+1+1,0,none⟩=some (.int .u8 (pw (k%255):Nat))/\Own w wr/\w.heap.size+2<wr.heap.size)
  (fun i _=>255-(intOf i).toNat)
 case atStart=>
  refine⟨0,Zo,rfl,start,?_,?_,(((Own.refl w).alloc _ _).alloc _ _).alloc _ _,Zs⟩
  ·rw[World.cell?_alloc_past _ _ _ Zs,World.cell?_alloc_at _ _ _ _ Zs];rfl
  ·rw[World.cell?_alloc_at _ _ _ _ Zs];simp[pw_zero]
 case round=>
  obtain⟨k,hk,rfl,hF,hf,hp,ho,hs⟩:=hrel
  by_cases hlt:k<255
  ·have fz:∀b o,w.heap.size<=b->wr.frozen? ⟨b,o,none⟩=false:=fun b o h=>(ho.frozen _).trans (frozen_past h)
   obtain⟨R1,R2⟩:=step hlt (by omega:w.heap.size≠w.heap.size+1+1) hF hp;have R:=And.intro R1 R2;have HR:Hid _:=R;clear R R1 R2
   go_wp2_with (go_at_call 31;go_must (refine(put_any w.heap.size (w.heap.size+1) (w.heap.size+1+1) k (pw (k%255)) wr hlt (pw_lt _) Zo Zo Zo hf hp (fz _ _ Zo) _ _ (hF.powers k hlt) (hF.places _ (pw_lt _)) (fz _ _ Zo) (fz _ _ Zo)).mono ?_);rintro e w' ⟨rfl,rfl⟩)
   go_roundw
   case rel=>
    refine⟨k+1,Zo,Zg,HR.out.1,?_,HR.out.2,(((ho.setCell (p:=⟨w.heap.size,k,none⟩) Zr _).setCell (p:=⟨w.heap.size,255+pw (k%255),none⟩) Zr _).setCell (p:=⟨w.heap.size+1+1,0,none⟩) (by show _<=w.heap.size+1+1;omega) _).drew.drew,?_⟩
    ·simp only[World.cell?_drew];rw[cell_set (cell_set (cell_set hf))];simp
    ·simp;omega
   case measure=>simp[intOf];omega
  ·have e:k=255:=by omega
   subst e;go_wp2;go_ret;exact⟨rfl,hF.whole Zo,ho⟩
def tn(n:Int):Nat:=(n%255).toNat
theorem tn_lt(n:Int):tn n<255:=by unfold tn;omega
theorem tn_cast(n:Int):((tn n:Nat):Int)=n%255:=by unfold tn;omega
def powV(a:Nat)(n:Int):Nat:=if n=0 then 1 else if a=0 then 0 else pw ((lg a*tn n)%255)
def powE(a:Nat)(n:Int):Nat:=if n<0/\a=0 then 10 else 0
theorem tn_neg:tn (-1)=254:=Zk
theorem powV_inv{a:Nat}(h:a≠0):powV a (-1)=invS a:=by
 unfold powV invS;rw[if_neg Zo,if_neg h,if_neg h,tn_neg]
theorem powE_inv{a:Nat}(h:a≠0):powE a (-1)=0:=by simp[powE,h]
theorem powV_m1(a:Nat):powV a (-1)=invS a:=by
 by_cases h:a=0
 ·subst h;rfl
 ·exact powV_inv h
theorem powE_m1(a:Nat):powE a (-1)=zE a:=by
 by_cases h:a=0
 ·subst h;rfl
 ·rw[powE_inv h,zE_pos h]
theorem val_int{k:IntKind}{a b:Int}(h:a=b):Value.int k a= .int k b:=by rw[h]
theorem i64_xor_nat(a b:Nat)(ha:a<9223372036854775808)(hb:b<9223372036854775808):bits .xor .i64 (a:Int) (b:Int)=((a^^^b:Nat):Int):=by
 have hx:a^^^b<2^63:=Nat.xor_lt_two_pow Zo Zo
 show IntKind.i64.wrap ((BitVec.ofInt 64 (a:Int)^^^BitVec.ofInt 64 (b:Int)).toNat:Int)=_
 rw[BitVec.toNat_xor,ofInt_u64 a Zo,ofInt_u64 b Zo,IntKind.wrap_i64];omega
theorem pow_cast(b k:Nat):((b:Int)/2^k)=((b/2^k:Nat):Int):=Zs
theorem bit_u8{b:Nat}(hb:b<256)(k:Nat):(bits .and .u8 ((b:Int)/2^k) 1==1)=b.testBit k:=by
 have hl:b/2^k<256:=Nat.lt_of_le_of_lt (Nat.div_le_self _ _) hb;rw[pow_cast,show(1:Int)=((1:Nat):Int)from rfl,u8_and_nat _ _ hl Zo,nat_mask1,Nat.testBit_eq_decide_div_mod_eq,Bool.eq_iff_iff];simp only[beq_iff_eq,decide_eq_true_eq];omega
theorem acc_lt{a:Nat}(b:Nat)(ha:a<256):∀k,acc k a b<256
 |0=>by simp[acc]
 |k+1=>by
  rw[acc];refine xor_lt (acc_lt b ha k) ?_
  split
  ·exact xt_lt ha k
  ·omega
theorem x_hi{a k:Nat}(ha:a<256)(h:(256:Int)<=(xt k a:Nat)*2):bits .xor .i64 ((xt k a:Nat)*2) 285=((xt (k+1) a:Nat):Int):=by
 have lx:=xt_lt ha k;have e:(((xt k a:Nat):Int)*2)=((2*xt k a:Nat):Int):=Zo
 rw[e,show(285:Int)=((285:Nat):Int)from rfl,i64_xor_nat _ _ Zo Zo,xt,dbl,if_neg Zo]
theorem x_lo{a k:Nat}(h:((xt k a:Nat):Int)*2<256):((xt k a:Nat):Int)*2=((xt (k+1) a:Nat):Int):=by
 rw[xt,dbl,if_pos Zo];omega
theorem o_hit{a b k:Nat}(ha:a<256)(hb:b<256)(h:(bits .and .u8 ((b:Int)/2^k) 1==1)=true):bits .xor .i64 (acc k a b:Nat) (xt k a:Nat)=((acc (k+1) a b:Nat):Int):=by
 rw[bit_u8 hb]at h;have:=xt_lt ha k;have:=acc_lt b ha k;rw[i64_xor_nat _ _ Zo Zo,acc,if_pos h]
theorem o_miss{a b k:Nat}(hb:b<256)(h:(bits .and .u8 ((b:Int)/2^k) 1==1)=false):((acc k a b:Nat):Int)=((acc (k+1) a b:Nat):Int):=by
 rw[bit_u8 hb]at h;rw[acc,if_neg (by rw[h];decide),Nat.xor_zero]
theorem inv_found{a k:Nat}(hk:k<256)(h:mulS a k=1):a≠0/\k=invS a:=by
 have h0:a≠0:=by rintro rfl;rw[zero_mulS]at h;omega
 refine⟨h0,?_⟩;have e:mulS (invS a) (mulS a k)=k:=by
  rw[mulS_assoc,mulS_comm (invS a) a,mulS_invS h0,mulS_comm,mulS_one hk]
 rw[h,mulS_one (invS_lt a)]at e;exact e.symm
theorem inv_none{a:Nat}(h:∀j,1<=j->j<256->mulS a j≠1):a=0:=by
 by_cases h0:a=0
 ·exact h0
 ·exact absurd (mulS_invS h0) (h _ (by have:=invS_ne h0;omega) (invS_lt a))
theorem rmul_any(a b:Nat)(w:World)(ha:a<256)(hb:b<256):
  Calls Tryz.prog 146 #[.int .u8 a,.int .u8 b] w fun e w'=>e= .returned (.int .u8 (mulS a b:Nat))/\w'=w:=by
 go_enter Tryz.func146,Tryz.ntmps146
 go_wp2
 go_loop [5,6,7] (fun x o i=>∃k:Nat,k<=8/\i= .int .i64 k/\x= .int .i64 (xt k a:Nat)/\o= .int .i64 (acc k a b:Nat)) (fun _ _ i=>8-(intOf i).toNat)
 case atStart=>exact⟨0,Zo,rfl,rfl,rfl⟩
 case round=>
  obtain⟨k,hk,rfl,rfl,rfl⟩:=hrel;have lx:=xt_lt ha k;have lo:=acc_lt b ha k
  by_cases hlt:k<8
  ·go_wp2
   all_goals
    go_round
    case rel=>exact⟨k+1,Zo,Zg,by first|exact val_int (x_hi ha ‹_›)|exact val_int (x_lo ‹_›),by first|exact val_int (o_hit ha hb ‹_›)|exact val_int (o_miss hb ‹_›)⟩
    case measure=>simp[intOf];omega
  ·have e:k=8:=by omega
   subst e;have E:Hid (mulS a b=acc 8 a b):=mulS_acc ha hb;go_wp2;go_ret;exact⟨ret_int (by rw[E.out]),rfl⟩
theorem rmul_at{x y:Int}{w:World}(a b:Nat)(hx:x=a)(hy:y=b)(ha:a<256)(hb:b<256):
  Calls Tryz.prog 146 #[.int .u8 x,.int .u8 y] w fun e w'=>e= .returned (.int .u8 (mulS a b:Nat))/\w'=w:=by
 subst hx hy;exact rmul_any a b w ha hb
theorem rinv_any(a:Nat)(w:World)(ha:a<256):
  Calls Tryz.prog 178 #[.int .u8 a] w fun e w'=>e= .returned (.tuple #[.int .u8 (invS a:Nat),.int .i64 (zE a:Nat)])/\w'=w:=by
 go_enter Tryz.func178,Tryz.ntmps178
 go_wp2
 go_loop [4] (fun i=>∃k:Nat,1<=k/\k<=256/\i= .int .i64 k/\Hid (∀j,1<=j->j<k->mulS a j≠1)) (fun i=>256-(intOf i).toNat)
 case atStart=>exact⟨1,Zo,Zo,rfl,fun j h1 h2=>Zo⟩
 case round=>
  obtain⟨k,h1,hk,rfl,hno⟩:=hrel
  by_cases hlt:k<256
  ·by_cases hit:mulS a k=1
   ·obtain⟨ha0,hinv⟩:=inv_found hlt hit;have E1:Hid (k=invS a):=hinv;have E2:Hid (a≠0):=ha0;clear hinv ha0
    go_wp2_with (go_at_call 146;go_must (refine(rmul_at a k rfl Zo ha hlt).mono ?_);rintro e w' ⟨rfl,rfl⟩)
    go_ret2
    refine⟨?_,rfl⟩;rw[zE_pos E2.out,<-E1.out];rfl
   ·have hb:((mulS a k:Nat):Int)≠1:=by omega
    have hb2:(((mulS a k:Nat):Int)==1)=false:=by simpa using hb
    clear hb;have HN:Hid (∀j,1<=j->j<k+1->mulS a j≠1):=fun j g1 g2=>by
     by_cases e:j=k
     ·subst e;exact hit
     ·exact hno.out j g1 Zo
    clear hit
    go_wp2_with (go_at_call 146;go_must (refine(rmul_at a k rfl Zo ha hlt).mono ?_);rintro e w' ⟨rfl,rfl⟩)
    go_round
    case rel=>exact⟨k+1,Zo,Zo,Zg,HN⟩
    case measure=>simp[intOf];omega
  ·have e:k=256:=by omega
   subst e;have e0:=inv_none hno.out;subst e0;clear hno;go_wp2
   go_ret2
   exact⟨rfl,rfl⟩
theorem rinv_at{x:Int}{w:World}(a:Nat)(hx:x=a)(ha:a<256):
  Calls Tryz.prog 178 #[.int .u8 x] w fun e w'=>e= .returned (.tuple #[.int .u8 (invS a:Nat),.int .i64 (zE a:Nat)])/\w'=w:=by
 subst hx;exact rinv_any a w ha
theorem rdiv_any(a b:Nat)(w:World)(ha:a<256)(hb:b<256):
  Calls Tryz.prog 248 #[.int .u8 a,.int .u8 b] w fun e w'=>e= .returned (.tuple #[.int .u8 (mulS a (invS b):Nat),.int .i64 (zE b:Nat)])/\w'=w:=by
 by_cases hb0:b=0
 ·subst hb0;have e1:invS 0=0:=rfl;have e2:=zE_zero;have e3:=mulS_zero a
  go_enter Tryz.func248,Tryz.ntmps248
  go_wp2_with (go_at_call 178;go_must (refine(rinv_at 0 rfl Zo).mono ?_);rintro e w' ⟨rfl,rfl⟩)
  go_ret2
  exact⟨by rw[e1,e3];rfl,rfl⟩
 ·have e2:=zE_pos hb0;have l:=invS_lt b
  go_enter Tryz.func248,Tryz.ntmps248
  go_wp2_with (first|(go_at_call 178;go_must (refine(rinv_at b rfl hb).mono ?_);rintro e w' ⟨rfl,rfl⟩)|(go_at_call 146;go_must (refine(rmul_at a (invS b) rfl rfl ha l).mono ?_);rintro e w' ⟨rfl,rfl⟩))
  go_ret2
  exact⟨by rw[e2];rfl,rfl⟩
theorem rdiv_at{x y:Int}{w:World}(a b:Nat)(hx:x=a)(hy:y=b)(ha:a<256)(hb:b<256):
  Calls Tryz.prog 248 #[.int .u8 x,.int .u8 y] w fun e w'=>e= .returned (.tuple #[.int .u8 (mulS a (invS b):Nat),.int .i64 (zE b:Nat)])/\w'=w:=by
 subst hx hy;exact rdiv_any a b w ha hb
theorem filled_any(b:Nat)(w:World)(hF:FieldAt w b):
  Calls Tryz.prog 216 #[.pointer (some ⟨b,0,none⟩)] w fun e w'=>e= .returned (.pointer (some ⟨b,0,none⟩))/\w'=w:=by
 have h0:w.cell? ⟨b,0,none⟩=some (.int .u8 1):=by rw[hF.powers 0 Zo,pw_zero];rfl
 go_enter Tryz.func216,Tryz.ntmps216
 go_wp2;go_ret;exact⟨rfl,rfl⟩
theorem mul_zero_l(b c:Nat)(w:World):
  Calls Tryz.prog 188 #[.pointer (some ⟨b,0,none⟩),.int .u8 0,.int .u8 c] w fun e w'=>e= .returned (.int .u8 0)/\w'=w:=by
 go_enter Tryz.func188,Tryz.ntmps188
 go_wp2;go_ret;exact⟨rfl,rfl⟩
theorem mul_zero_r(b a:Nat)(w:World)(ha:a≠0):
  Calls Tryz.prog 188 #[.pointer (some ⟨b,0,none⟩),.int .u8 a,.int .u8 0] w fun e w'=>e= .returned (.int .u8 0)/\w'=w:=by
 go_enter Tryz.func188,Tryz.ntmps188
 go_wp2;go_ret;exact⟨rfl,rfl⟩
theorem mul_main(b a c:Nat)(w:World)(hF:FieldAt w b)(ha0:a≠0)(hc0:c≠0)(ha:a<256)(hc:c<256):
  Calls Tryz.prog 188 #[.pointer (some ⟨b,0,none⟩),.int .u8 a,.int .u8 c] w fun e w'=>e= .returned (.int .u8 (pw ((lg a+lg c)%255):Nat))/\∃n,w'=w.drewN n:=by
 have ka:((a:Int)==0)=false:=by simpa using ha0
 have kc:((c:Int)==0)=false:=by simpa using hc0
 have h1:=hF.places a ha;have h2:=hF.places c hc;have l1:=lg_lt ha;have l2:=lg_lt hc;have h3:=hF.powers ((lg a+lg c)%255) (Nat.mod_lt _ Zd)
 go_enter Tryz.func188,Tryz.ntmps188
 go_wp2_with (go_at_call 216;go_must (refine(filled_any b _ hF).mono ?_);rintro e w' ⟨rfl,rfl⟩)
 go_quiet (fail)
 go_wp2;go_ret;exact⟨rfl,_,rfl⟩
theorem mul_any(b a c:Nat)(w:World)(hF:FieldAt w b)(ha:a<256)(hc:c<256):
  Calls Tryz.prog 188 #[.pointer (some ⟨b,0,none⟩),.int .u8 a,.int .u8 c] w fun e w'=>e= .returned (.int .u8 (mulS a c:Nat))/\∃n,w'=w.drewN n:=by
 by_cases ha0:a=0
 ·subst ha0;exact(mul_zero_l b c w).mono fun e w' ⟨he,hw⟩=>⟨by rw[he];simp[mulS],0,hw⟩
 ·by_cases hc0:c=0
  ·subst hc0;exact(mul_zero_r b a w ha0).mono fun e w' ⟨he,hw⟩=>⟨by rw[he];simp[mulS],0,hw⟩
  ·exact(mul_main b a c w hF ha0 hc0 ha hc).mono fun e w' ⟨he,hw⟩=>⟨by rw[he];simp[mulS,ha0,hc0],hw⟩
theorem FieldAt.drewN{w:World}{b:Nat}(h:FieldAt w b)(n:Nat):FieldAt (w.drewN n) b:=h.own ((Own.refl w).drewN n)
theorem mul_at{b:Nat}{x y:Int}{w:World}(hF:FieldAt w b)(a c:Nat)(hx:x=a)(hy:y=c)(ha:a<256)(hc:c<256):
  Calls Tryz.prog 188 #[.pointer (some ⟨b,0,none⟩),.int .u8 x,.int .u8 y] w fun e w'=>e= .returned (.int .u8 (mulS a c:Nat))/\∃n,w'=w.drewN n:=by
 subst hx hy;exact mul_any b a c w hF ha hc
theorem turns_any(n:Int)(w:World)(h1: -9223372036854775808<=n)(h2:n<=9223372036854775807):
  Calls Tryz.prog 237 #[.int .i64 n] w fun e w'=>e= .returned (.int .i64 (tn n:Nat))/\w'=w:=by
 have hb: -255<n.tmod 255/\n.tmod 255<255:=⟨Int.lt_tmod_of_pos n Zo,Int.tmod_lt_of_pos n Zo⟩;have hq:=Int.mul_tdiv_add_tmod n 255;have E:Hid ((n.tmod 255+255)%255=(tn n:Nat)):=by rw[tn_cast];show _=_;omega
 clear hq;obtain⟨b1,b2⟩:=hb
 go_enter Tryz.func237,Tryz.ntmps237
 go_wp2;go_ret;exact⟨ret_int E.out,rfl⟩
theorem pow_main(b a:Nat)(n:Int)(w:World)(hF:FieldAt w b)(ha0:a≠0)(hn0:n≠0)(ha:a<256)(h1: -9223372036854775808<=n)(h2:n<=9223372036854775807):
  Calls Tryz.prog 217 #[.pointer (some ⟨b,0,none⟩),.int .u8 a,.int .i64 n] w fun e w'=>e= .returned (.tuple #[.int .u8 (pw ((lg a*tn n)%255):Nat),.int .i64 0])/\∃n,w'=w.drewN n:=by
 have ka:((a:Int)==0)=false:=by simpa using ha0
 have kn:(n==0)=false:=by simpa using hn0
 have p1:=hF.places a ha;have l1:=lg_lt ha;have l2:=tn_lt n;have l3:(lg a:Int)*(tn n:Int)<=64516:=by
  have:lg a*tn n<=254*254:=Nat.mul_le_mul Zo Zo
  have e:((lg a*tn n:Nat):Int)=(lg a:Int)*(tn n:Int):=Zs
  omega
 have l4:0<=(lg a:Int)*(tn n:Int):=Int.mul_nonneg Zo Zo;have p3:=hF.powers ((lg a*tn n)%255) (Nat.mod_lt _ Zd)
 go_enter Tryz.func217,Tryz.ntmps217
 go_wp2_with (go_at_call 216;go_must (refine(filled_any b _ hF).mono ?_);rintro e w' ⟨rfl,rfl⟩)
 go_quiet ((go_at_call 237;exact Calls.quiet_of_same (turns_any n _ h1 h2)))
 go_wp2
 go_ret2
 exact⟨rfl,_,rfl⟩
theorem pow_nought(b a:Nat)(w:World):
  Calls Tryz.prog 217 #[.pointer (some ⟨b,0,none⟩),.int .u8 a,.int .i64 0] w fun e w'=>e= .returned (.tuple #[.int .u8 1,.int .i64 0])/\w'=w:=by
 go_enter Tryz.func217,Tryz.ntmps217
 go_wp2
 go_ret2
 exact⟨rfl,rfl⟩
theorem pow_zero_neg(b:Nat)(n:Int)(w:World)(hn:n<0):
  Calls Tryz.prog 217 #[.pointer (some ⟨b,0,none⟩),.int .u8 0,.int .i64 n] w fun e w'=>e= .returned (.tuple #[.int .u8 0,.int .i64 10])/\w'=w:=by
 have kn:(n==0)=false:=Zm
 go_enter Tryz.func217,Tryz.ntmps217
 go_wp2
 go_ret2
 exact⟨rfl,rfl⟩
theorem pow_zero_pos(b:Nat)(n:Int)(w:World)(hn:0<n):
  Calls Tryz.prog 217 #[.pointer (some ⟨b,0,none⟩),.int .u8 0,.int .i64 n] w fun e w'=>e= .returned (.tuple #[.int .u8 0,.int .i64 0])/\w'=w:=by
 have kn:(n==0)=false:=Zm
 go_enter Tryz.func217,Tryz.ntmps217
 go_wp2
 go_ret2
 exact⟨rfl,rfl⟩
theorem pow_any(b a:Nat)(n:Int)(w:World)(hF:FieldAt w b)(ha:a<256)(h1: -9223372036854775808<=n)(h2:n<=9223372036854775807):
  Calls Tryz.prog 217 #[.pointer (some ⟨b,0,none⟩),.int .u8 a,.int .i64 n] w fun e w'=>e= .returned (.tuple #[.int .u8 (powV a n:Nat),.int .i64 (powE a n:Nat)])/\∃n,w'=w.drewN n:=by
 by_cases hn0:n=0
 ·subst hn0;exact(pow_nought b a w).mono fun e w' ⟨he,hw⟩=>⟨by rw[he];simp[powV,powE],0,hw⟩
 ·by_cases ha0:a=0
  ·subst ha0
   by_cases hneg:n<0
   ·exact(pow_zero_neg b n w hneg).mono fun e w' ⟨he,hw⟩=>⟨by rw[he];simp[powV,powE,hn0,hneg],0,hw⟩
   ·exact(pow_zero_pos b n w Zo).mono fun e w' ⟨he,hw⟩=>⟨by rw[he];simp[powV,powE,hn0,hneg],0,hw⟩
  ·exact(pow_main b a n w hF ha0 hn0 ha h1 h2).mono fun e w' ⟨he,hw⟩=>⟨by rw[he];simp[powV,powE,hn0,ha0],hw⟩
theorem inv_any(b a:Nat)(w:World)(hF:FieldAt w b)(ha:a<256):
  Calls Tryz.prog 192 #[.pointer (some ⟨b,0,none⟩),.int .u8 a] w fun e w'=>e= .returned (.tuple #[.int .u8 (powV a (-1):Nat),.int .i64 (powE a (-1):Nat)])/\∃n,w'=w.drewN n:=by
 go_enter Tryz.func192,Tryz.ntmps192
 go_wp2_with (go_at_call 217;go_must (refine(pow_any b a (-1) _ hF ha Zo Zo).mono ?_);rintro e w' ⟨rfl,nd,rfl⟩)
 go_ret2
 exact⟨rfl,_,rfl⟩
theorem inv_at{b:Nat}{x:Int}{w:World}(hF:FieldAt w b)(a:Nat)(hx:x=a)(ha:a<256):
  Calls Tryz.prog 192 #[.pointer (some ⟨b,0,none⟩),.int .u8 x] w fun e w'=>e= .returned (.tuple #[.int .u8 (powV a (-1):Nat),.int .i64 (powE a (-1):Nat)])/\∃n,w'=w.drewN n:=by
 subst hx;exact inv_any b a w hF ha
theorem inv_all{b:Nat}{x:Int}{w:World}(hF:FieldAt w b)(a:Nat)(hx:x=a)(ha:a<256):
  Calls Tryz.prog 192 #[.pointer (some ⟨b,0,none⟩),.int .u8 x] w fun e w'=>e= .returned (.tuple #[.int .u8 (invS a:Nat),.int .i64 (zE a:Nat)])/\∃n,w'=w.drewN n:=by
 rw[<-powV_m1,<-powE_m1];exact inv_at hF a hx ha
theorem div_zero(b a:Nat)(w:World)(hF:FieldAt w b):
  Calls Tryz.prog 201 #[.pointer (some ⟨b,0,none⟩),.int .u8 a,.int .u8 0] w fun e w'=>e= .returned (.tuple #[.int .u8 0,.int .i64 10])/\∃n,w'=w.drewN n:=by
 have e1:powV 0 (-1)=0:=rfl;have e2:powE 0 (-1)=10:=rfl
 go_enter Tryz.func201,Tryz.ntmps201
 go_wp2_with (go_at_call 192;go_must (refine(inv_any b 0 _ hF Zo).mono ?_);rintro e w' ⟨rfl,nd,rfl⟩)
 go_ret2
 exact⟨rfl,_,rfl⟩
theorem div_main(b a c:Nat)(w:World)(hF:FieldAt w b)(ha:a<256)(hc:c<256)(hc0:c≠0):
  Calls Tryz.prog 201 #[.pointer (some ⟨b,0,none⟩),.int .u8 a,.int .u8 c] w fun e w'=>e= .returned (.tuple #[.int .u8 (mulS a (powV c (-1)):Nat),.int .i64 0])/\∃n,w'=w.drewN n:=by
 have e2:powE c (-1)=0:=by simp[powE,hc0]
 have l:powV c (-1)<256:=by unfold powV;rw[if_neg Zo,if_neg hc0];exact pw_lt _
 go_enter Tryz.func201,Tryz.ntmps201
 go_wp2_with (go_at_call 192;go_must (refine(inv_any b c _ hF hc).mono ?_);rintro e w' ⟨rfl,nd,rfl⟩)
 go_wp2_with (go_at_call 188;go_must (refine(mul_any b a _ _ (hF.drewN nd) ha l).mono ?_);rintro e w' ⟨rfl,nd2,rfl⟩)
 go_ret2
 exact⟨rfl,_,rfl⟩
theorem div_at{b:Nat}{x y:Int}{w:World}(hF:FieldAt w b)(a c:Nat)(hx:x=a)(hy:y=c)(ha:a<256)(hc:c<256)(hc0:c≠0):
  Calls Tryz.prog 201 #[.pointer (some ⟨b,0,none⟩),.int .u8 x,.int .u8 y] w fun e w'=>e= .returned (.tuple #[.int .u8 (mulS a (powV c (-1)):Nat),.int .i64 0])/\∃n,w'=w.drewN n:=by
 subst hx hy;exact div_main b a c w hF ha hc hc0
theorem div_all{b:Nat}{x y:Int}{w:World}(hF:FieldAt w b)(a c:Nat)(hx:x=a)(hy:y=c)(ha:a<256)(hc:c<256):
  Calls Tryz.prog 201 #[.pointer (some ⟨b,0,none⟩),.int .u8 x,.int .u8 y] w fun e w'=>e= .returned (.tuple #[.int .u8 (mulS a (invS c):Nat),.int .i64 (zE c:Nat)])/\∃n,w'=w.drewN n:=by
 by_cases hc0:c=0
 ·subst hc0 hx hy;have e1:mulS a (invS 0)=0:=mulS_zero a;rw[e1,zE_zero];exact div_zero b a w hF
 ·rw[<-powV_m1 c,zE_pos hc0];exact div_at hF a c hx hy ha hc hc0
end Go.Proofs.YtddnfhfangfgeaaGreat.Gf
