/- TEXTS JOINED: KeCA. -/
import Derived.Test.YtddnfhfangfgeaaGreatPome12
import Derived.Test.YtddnfhfangfgeaaGreatPome18
import Derived.Test.YtddnfhfangfgeaaGreatPome4
set_option maxHeartbeats 2000000
set_option maxRecDepth 100000
namespace Go.Proofs.YtddnfhfangfgeaaGreat.Gf
set_option linter.unusedVariables false
set_option linter.unusedSimpArgs false
open Go.RowKit
def xpF(n i:Nat):UInt8:=if i=n then 1 else 0
def xpL(n:Nat):List UInt8:=upto (xpF n) (n+1)
theorem xpL_length(n:Nat):(xpL n).length=n+1:=upto_length _ _
theorem co_xpL(n i:Nat):co (xpL n) i=if i=n then 1 else 0:=co_upto (fun i hi=>if_neg (by omega)) i
theorem kpow_any{w:World}{n:Nat}(hn:n<=1000){x:Int}(hx:x=(n:Int)):Calls Tryz.prog 218 #[.int .i64 x] w (MakesF w (xpL n)):=by
 subst hx;obtain⟨i0,hi,hz0,hz1,hz2⟩:=info_parts info_u8
 go_enter Tryz.func218,Tryz.ntmps218
 obtain⟨m,hm⟩:∃m,Hid (m=n+1):=⟨_,rfl⟩;have g0:(n:Int)+1=(m:Int):=by have:=hm.out;omega
 have hnm:n<m:=by have:=hm.out;omega
 have hm1:m<=1001:=by have:=hm.out;omega
 have gw:IntKind.i64.wrap (m:Int)=(m:Int):=by rw[IntKind.wrap_i64];omega
 go_wp2_with (at_make;go_loud (refine wpList_make_full _ rfl (.tmp 5) (.tmp 5) 36 rfl w.heap.size 5 i0 (.int .u8 0) 1 Tryz.underlying36 hi hz0 hz1 _ _ _ _ m rfl rfl (by omega) (by omega) (by rw[hz2];omega) (by unfold maxLen;omega) (Nat.le_refl _) ?_);intro w1 hown1 hgrow1;have R1:=RowF.made hown1;have c1:=R1.cell hnm;have f1:=R1.unfrozen n)
 have B1:Below w.heap.size w w1:=(Below.refl _ _).grown hgrow1 (Nat.le_refl _) (fun k h=>by cases h);clear hown1 hgrow1;have HN:Hid (RowF (w1.setCell ⟨w.heap.size,n,none⟩ (.int .u8 1)) w.heap.size 5 w.heap.size m m (xpF n)):=R1.store hnm 1 (fun s=>rfl);have HB:Hid (Below w.heap.size w (w1.setCell ⟨w.heap.size,n,none⟩ (.int .u8 1))):=B1.setCell (p:=⟨w.heap.size,n,none⟩) (Nat.le_refl _) _;clear R1 B1;go_ret;exact⟨_,rfl,by have:=HN.out.rd;rw[hm.out]at this;rw[hm.out];exact this,HB.out,far_some (Nat.le_refl _)⟩
theorem kturn_any{w:World}{v:Value}{s:List UInt8}(hs:Rd w v s)(hl:s.length<=1000):Calls Tryz.prog 195 #[v] w (MakesF w s.reverse):=by
 obtain⟨i0,hi,hz0,hz1,hz2⟩:=info_parts info_u8;obtain⟨a,c,rfl⟩:=hs.form;obtain⟨m,hm⟩:∃m,Hid (m=s.length):=⟨_,rfl⟩;rw[<-hm.out]at hs hl ⊢
 go_enter Tryz.func195,Tryz.ntmps195
 go_wp2_with (at_make;go_loud (refine wpList_make_full _ rfl (.tmp 7) (.tmp 7) 36 rfl w.heap.size 5 i0 (.int .u8 0) 1 Tryz.underlying36 hi hz0 hz1 _ _ _ _ m rfl rfl (by omega) (by omega) (by rw[hz2];omega) (by unfold maxLen;omega) (Nat.le_refl _) ?_);intro w1 hown1 hgrow1)
 have R1:Hid (RowF w1 w.heap.size 5 w.heap.size m m (fun _=>0)):=RowF.made hown1;have B1:Hid (Below w.heap.size w w1):=(Below.refl _ _).grown hgrow1 (Nat.le_refl _) (fun k h=>by cases h);clear hown1 hgrow1;go_wp2
 go_loopw [11] (fun v wr=>∃i:Nat,i<=m/\v= .int .i64 i/\RowF wr w.heap.size 5 w.heap.size m m (tnF s i)/\Below w.heap.size w wr) (fun v _=>m-(intOf v).toNat)
 case atStart=>exact⟨0,by omega,rfl,R1.out.congr fun j hj=>(tnF_zero s (by rw[<-hm.out];exact hj)).symm,B1.out⟩
 case round=>
  obtain⟨i,hi9,rfl,hR,hB⟩:=hrel;clear R1 B1
  by_cases hlt:i<m
  ·have hlt':(i:Int)<(m:Int):=by omega
   obtain⟨d,hd⟩:∃d,Hid (d=m-1-i):=⟨_,rfl⟩;have gd:(m:Int)-1-(i:Int)=(d:Int):=by have:=hd.out;omega
   have hdm:d<m:=by have:=hd.out;omega
   have hdm':(d:Int)<(m:Int):=by omega
   have gw1:IntKind.i64.wrap ((m:Int)-1)=(m:Int)-1:=by rw[IntKind.wrap_i64];omega
   have gw2:IntKind.i64.wrap (d:Int)=(d:Int):=by rw[IntKind.wrap_i64];omega
   obtain⟨sb,so,es,_,cs⟩:=(hs.below hB).byte (i:=i) (by rw[<-hm.out];exact hlt);subst es;have c1:=hR.cell hdm;have f1:=hR.unfrozen d;have HN:Hid (RowF (World.setCell wr ⟨w.heap.size,d,none⟩ (.int .u8 ((co s i).toNat:Nat))) w.heap.size 5 w.heap.size m m (tnF s (i+1))):=hR.store hdm _ (fun j=>by rw[tnF_step s (by rw[<-hm.out];exact hlt),<-hm.out,<-hd.out]);have HB:Hid (Below w.heap.size w (World.setCell wr ⟨w.heap.size,d,none⟩ (.int .u8 ((co s i).toNat:Nat)))):=hB.setCell (p:=⟨w.heap.size,d,none⟩) (Nat.le_refl _) _;clear hR hB hs;go_wp2;go_roundw
   case rel=>exact⟨i+1,by omega,by go_num,HN.out,HB.out⟩
   case measure=>simp[intOf];omega
  ·have hge:¬(i:Int)<(m:Int):=by omega
   have ei:i=m:=by omega
   have Rt:Hid (Rd wr (.slice (some ⟨w.heap.size,0,none⟩) m m) s.reverse):=by
    show Rd _ _ _
    rw[<-tnF_all,<-hm.out,<-ei];have:=hR.rd;rw[ei]at this ⊢;exact this
   clear ei hR hs;go_wp2;go_ret;exact⟨_,rfl,Rt.out,hB,far_some (Nat.le_refl _)⟩
theorem ktop_any{w:World}{b:Nat}{v:Value}{p:List UInt8}(hF:FieldAt w b)(hp:Rd w v p)(hl:p.length<=1000)(h0:p.length≠0)(ht:co p (p.length-1)≠0):
  Calls Tryz.prog 197 #[.pointer (some ⟨b,0,none⟩),v] w (MakesF w (upto (fun j=>mu (iv (co p (p.length-1))) (co p j)) (p.length-1+1))):=by
 rw[<-mul_top h0 ht,mulP_comm];obtain⟨pa,pcap,rfl⟩:=hp.form;obtain⟨bb,off,rfl,hbb,c1⟩:=hp.byte (i:=p.length-1) (by omega);obtain⟨d,hd⟩:∃d,Hid (d=p.length-1):=⟨_,rfl⟩;rw[<-hd.out]at c1 ht ⊢;have gd:(p.length:Int)-1=(d:Int):=by have:=hd.out;omega
 have hdl:d<p.length:=by have:=hd.out;omega
 have hdl':(d:Int)<(p.length:Int):=by omega
 have gw:IntKind.i64.wrap (d:Int)=(d:Int):=by rw[IntKind.wrap_i64];omega
 obtain⟨y,hy⟩:∃y,Hid (y=co p d):=⟨_,rfl⟩;rw[<-hy.out]at c1 ht ⊢;obtain⟨z,hz⟩:∃z,Hid (z=iv y):=⟨_,rfl⟩;rw[<-hz.out]
 go_enter Tryz.func197,Tryz.ntmps197
 go_wp2_with fail
 refine(finv_at hF y ht rfl).mono ?_
 rintro e w1 ⟨rfl,n1,hw1⟩;have B1:Below w.heap.size w w1:=by rw[hw1];exact below_draws _ _
 clear hw1;rw[<-hz.out];have HL:Hid (Rd (w1.alloc (.cells #[.int .u8 (z.toNat:Nat)] 5)) (.slice (some ⟨w1.heap.size,0,none⟩) 1 1) [z]):=rd_lit (n:=1) [z] rfl rfl (by decide)
 go_wp2_with fail
 refine(pmul_far (hF.below (below_lit B1 _)) HL.out (hp.below (below_lit B1 _)) (by simp) (by omega)).mono ?_
 rintro e w2 ⟨v2,rfl,hr2,hb2,hf2⟩;have HB:Hid (Below w.heap.size w w2):=Below.next (below_lit B1 _) hb2;have hf3:Far w.heap.size v2:=hf2.mono (by have:=(below_lit B1 (.cells #[.int .u8 (z.toNat:Nat)] 5)).size;exact this);clear hb2 B1 hf2;go_wp2;go_ret;exact⟨_,rfl,hr2,HB.out,hf3⟩
theorem kloc_any{b:Nat}{v:Value}{s:List UInt8}{w:World}(hF:FieldAt w b)(hs:Rd w v s)(hl:s.length<=300):Calls Tryz.prog 165 #[.pointer (some ⟨b,0,none⟩),v] w (MakesV w (locL s)):=by
 obtain⟨a,c,rfl⟩:=hs.form
 go_enter Tryz.func165,Tryz.ntmps165
 go_wp2;have B0:Below w.heap.size w (w.alloc (.cells #[.int .u8 1] 5)):=(Below.refl _ _).alloc (Nat.le_refl _) _;have R0:Rd (w.alloc (.cells #[.int .u8 1] 5)) (.slice (some ⟨w.heap.size,0,none⟩) 1 1) [1]:=rd_lit (n:=1) [1] rfl rfl (by decide)
 go_loopw [5,13] (fun o i wr=>∃k:Nat,k<=s.length/\i= .int .i64 k/\Rd wr o (locN (co s) k)/\Below w.heap.size w wr) (fun _ i _=>s.length-(intOf i).toNat)
 case atStart=>exact⟨0,by omega,rfl,R0,B0⟩
 case round=>
  obtain⟨k,hk,rfl,hR,hB⟩:=hrel;clear R0 B0;obtain⟨av,cv,ev⟩:=hR.form;rw[locN_length]at ev;subst ev
  by_cases hlt:k<s.length
  ·have hlt':(k:Int)<(s.length:Int):=by omega
   obtain⟨bb,off,rfl,_,c1⟩:=(hs.below hB).byte hlt;obtain⟨x,hx⟩:∃x,Hid (x=co s k):=⟨_,rfl⟩;rw[<-hx.out]at c1;have HM:Hid (mulP [x,1] (locN (co s) k)=locN (co s) (k+1)):=by show _=_;rw[hx.out,mulP_comm];exact locN_succ _ _
   have HR:Hid _:=hR.below (w':=wr.alloc (.cells #[.int .u8 (x.toNat:Nat),.int .u8 1] 5)) ((Below.refl _ _).alloc (Nat.le_refl _) _);have HL:Hid (Rd (wr.alloc (.cells #[.int .u8 (x.toNat:Nat),.int .u8 1] 5)) (.slice (some ⟨wr.heap.size,0,none⟩) 2 2) [x,1]):=rd_lit (n:=2) [x,1] rfl rfl (by decide);clear hs hR
   go_wp2_with fail
   refine(pmul_any (hF.below (below_lit hB _)) HL.out HR.out (by simp) (by rw[locN_length];omega)).mono ?_
   rintro e w2 ⟨v2,rfl,hown2,hb2⟩;have HR2:Hid (Rd w2 v2 (locN (co s) (k+1))):=by
    rw[HM.out]at hown2;exact hown2
   have HB2:Hid (Below w.heap.size w w2):=Below.next (below_lit hB _) hb2;clear hown2 hb2 HR HL c1 hB;go_wp2;go_roundw
   case rel=>exact⟨k+1,by omega,by go_num,HR2.out,HB2.out⟩
   case measure=>simp[intOf];omega
  ·have e:k=s.length:=by omega
   have hge:¬(k:Int)<(s.length:Int):=by omega
   have HR:Hid (Rd wr (.slice av (k+1) cv) (locL s)):=by
    show Rd _ _ _
    unfold locL;rw[<-e];exact hR
   clear hs hR e;go_wp2;go_ret;exact⟨_,rfl,HR.out,hB⟩
end Go.Proofs.YtddnfhfangfgeaaGreat.Gf
