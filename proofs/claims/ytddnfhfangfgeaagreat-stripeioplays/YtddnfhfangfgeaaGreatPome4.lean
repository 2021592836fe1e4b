/- TEXTS JOINED: PoCodeC, PoCodeD. -/
import Derived.Test.YtddnfhfangfgeaaGreatPome3
set_option maxHeartbeats 4000000
set_option maxRecDepth 100000
namespace Go.Proofs.YtddnfhfangfgeaaGreat.Gf
set_option linter.unusedVariables false
set_option linter.unusedSimpArgs false
open Go.RowKit
theorem pmulP_empty{p q:List UInt8}(h:norm p=[]∨norm q=[]):mulP p q=[]:=by
 have e:=mulP_length p q;rw[if_pos (by rcases h with h|h<;>simp[h])]at e;exact List.length_eq_zero_iff.1 e
theorem pmul_empty{b:Nat}{va vq:Value}{p q:List UInt8}{w:World}(hp:Rd w va p)(hq:Rd w vq q)(hl:p.length<=400000)(hl2:q.length<=400000)(h:norm p=[]∨norm q=[]):
  Calls Tryz.prog 173 #[.pointer (some ⟨b,0,none⟩),va,vq] w (MakesF w (mulP p q)):=by
 rw[pmulP_empty h];obtain⟨ao,c,rfl⟩:=hp.form;obtain⟨ao',c',rfl⟩:=hq.form;have h':(norm p).length=0∨((norm p).length≠0/\(norm q).length=0):=by
  by_cases h1:(norm p).length=0
  ·exact Or.inl h1
  ·rcases h with h|h
   ·rw[h]at h1;exact absurd rfl h1
   ·exact Or.inr ⟨h1,by rw[h];rfl⟩
 clear h
 go_enter Tryz.func173,Tryz.ntmps173
 go_wp2_with fail
 refine(top_any hp (by omega)).mono ?_
 rintro e w ⟨rfl,rfl⟩
 go_wp2_with fail
 refine(top_any hq (by omega)).mono ?_
 rintro e w ⟨rfl,rfl⟩;generalize (norm p).length=n at h' ⊢;generalize (norm q).length=m at h' ⊢
 rcases h' with rfl|⟨h1,rfl⟩
 ·go_wp2;go_ret;exact⟨_,rfl,rd_nil_any,Below.refl _ _,far_none⟩
 ·have h2:((n:Int)==0)=false:=by simp;omega
  go_wp2;go_ret;exact⟨_,rfl,rd_nil_any,Below.refl _ _,far_none⟩
theorem pc_step(v:Value)(p q:List UInt8)(k:Nat):addAll (pc (co p) (co q) k) k [(v,mulBy q (co p k))]=pc (co p) (co q) (k+1):=by
 funext t
 show pc (co p) (co q) k t^^^(if k<=t then co (mulBy q (co p k)) (t-k)else 0)=_
 rw[co_mulBy,mu_comm];rfl
theorem pmul_main{b:Nat}{va vq:Value}{p q:List UInt8}{w:World}(hF:FieldAt w b)(hp:Rd w va p)(hq:Rd w vq q)(hl:p.length<=400000)(hl2:q.length<=400000)(h1:norm p≠[])(h2:norm q≠[]):
  Calls Tryz.prog 173 #[.pointer (some ⟨b,0,none⟩),va,vq] w (MakesF w (mulP p q)):=by
 obtain⟨i0,hi,hz0,hz1,hz2⟩:=info_parts info_u8;obtain⟨ao,c,rfl⟩:=hp.form;obtain⟨ao',c',rfl⟩:=hq.form;have hP:=hp.part;have hQ:=hq.part;have hle:=norm_length_le p;have hle2:=norm_length_le q;have hL:=mulP_length p q;have hpos:0<(norm p).length:=List.length_pos_iff.2 h1;have hpos2:0<(norm q).length:=List.length_pos_iff.2 h2;rw[if_neg (by omega)]at hL;have HM:Hid (upto (conv (co (norm p)) (co (norm q))) ((norm p).length+(norm q).length-1)=mulP p q):=by
  show _=_
  rw[co_norm,co_norm,<-hL];refine co_ext (upto_length _ _) fun i hi=>?_
  rw[upto_length]at hi;rw[co_mulP];exact co_map_range _ hi
 go_enter Tryz.func173,Tryz.ntmps173
 go_wp2_with fail
 refine(top_any hp (by omega)).mono ?_
 rintro e w ⟨rfl,rfl⟩
 go_wp2_with fail
 refine(top_any hq (by omega)).mono ?_
 rintro e w ⟨rfl,rfl⟩;generalize norm p=p' at*;generalize norm q=q' at*;clear hp hq h1 h2 hL;obtain⟨L,hL⟩:∃L,Hid (L=p'.length+q'.length-1):=⟨_,rfl⟩;rw[<-hL.out]at HM;have hL':=hL.out;have g0:((p'.length:Int)==0)=false:=by rw[beq_eq_false_iff_ne];omega
 have g1:((q'.length:Int)==0)=false:=by rw[beq_eq_false_iff_ne];omega
 have g2:(p'.length:Int)+(q'.length:Int)-1=(L:Int):=by omega
 clear hL'
 go_wp2_with (at_make;go_loud (refine wpList_make_full _ rfl (.tmp 30) (.tmp 30) 36 rfl w.heap.size 5 i0 (.int .u8 0) 1 Tryz.underlying36 hi hz0 hz1 _ _ _ _ L rfl rfl (by omega) (by omega) (by rw[hz2];omega) (by unfold maxLen;omega) (Nat.le_refl _) ?_);intro w1 hown1 hgrow1)
 have R1:=RowF.made hown1;have B1:Below w.heap.size w w1:=(Below.refl _ _).grown hgrow1 (Nat.le_refl _) (fun k h=>by cases h);clear hown1 hgrow1
 go_loopw [34] (fun i wr=>∃k:Nat,k<=p'.length/\i= .int .i64 k/\RowF wr w.heap.size 5 w.heap.size L L (pc (co p') (co q') k)/\Below w.heap.size w wr) (fun i _=>p'.length-(intOf i).toNat)
 case atStart=>exact⟨0,by omega,rfl,R1.congr (fun t _=>rfl),B1⟩
 case round=>
  obtain⟨k,hk,rfl,hR,hB⟩:=hrel;clear R1 B1
  by_cases hlt:k<p'.length
  ·rcases hP with⟨a,cc,e1,e2,hc,hnn⟩|⟨bb,off,cc,hq0,e2,h1,h2,h3,hpc⟩
   ·subst e1;simp at hlt
   ·simp at e2;obtain⟨rfl,rfl⟩:=e2;have hLL:=hL.out;have c1:=(hB.cell (p:=⟨bb,off+k,none⟩) h3).trans (hpc k hlt);have hF1:FieldAt wr.drew b:=hF.below hB.drew;have hQ1:Rd wr.drew (.slice ao' q'.length c') q':=hQ.below hB.drew;have hR1:=hR.drew;have hlt2:=hR.lt;have hAp:∀n c,Apart w.heap.size (.slice (some ⟨wr.drew.heap.size,0,none⟩) n c):=fun n c=>apart_block (by show wr.heap.size≠w.heap.size;omega)
    have hkl:k<=L:=by omega
    have hkq:q'.length<=L-k:=by omega
    have hkk:k+(L-k)<=L:=by omega
    have hL9:L<=140737488355328:=by omega
    have HP:Hid _:=fun v=>pc_step v p' q' k
    clear hpc hR hLL hlt2;go_wp2
    go_region_with (first
     |(go_at_call 204;refine(times_any hF1 hQ1 (by omega) (co p' k) rfl).mono ?_;rintro e w2 ⟨rfl,hT,hb2⟩)
     |(go_at_call 203;refine(sum_terms [(_,mulBy q' (co p' k))] (hR1.later hb2) hkk hL9 rfl rfl (by simp) (by intro x hx;simp at hx;subst hx;exact⟨hT,hAp _ _,by rw[mulBy_length];exact hkq⟩)).mono ?_;rintro e w3 ⟨rfl,hO,hR3⟩))
    all_goals go_wp2
    all_goals
     go_roundw
     case rel=>exact⟨k+1,by omega,by go_num,by rw[<-HP.out _];exact hR3,(below_lit (Below.next hB.drew hb2) _).trans (hO.below (Nat.le_refl _))⟩
     case measure=>simp[intOf];omega
  ·have e:k=p'.length:=by omega
   subst e;rw[pc_whole (co_fin p')]at hR;have hRd:=hR.rd;rw[HM.out]at hRd;clear hR;go_wp2;go_ret;exact⟨_,rfl,hRd,hB,far_some (Nat.le_refl _)⟩
theorem pmul_far{b:Nat}{va vq:Value}{p q:List UInt8}{w:World}(hF:FieldAt w b)(hp:Rd w va p)(hq:Rd w vq q)(hl:p.length<=400000)(hl2:q.length<=400000):
  Calls Tryz.prog 173 #[.pointer (some ⟨b,0,none⟩),va,vq] w (MakesF w (mulP p q)):=by
 by_cases h1:norm p=[]
 ·exact pmul_empty hp hq hl hl2 (Or.inl h1)
 ·by_cases h2:norm q=[]
  ·exact pmul_empty hp hq hl hl2 (Or.inr h2)
  ·exact pmul_main hF hp hq hl hl2 h1 h2
theorem pmul_any{b:Nat}{va vq:Value}{p q:List UInt8}{w:World}(hF:FieldAt w b)(hp:Rd w va p)(hq:Rd w vq q)(hl:p.length<=400000)(hl2:q.length<=400000):
  Calls Tryz.prog 173 #[.pointer (some ⟨b,0,none⟩),va,vq] w (Makes w (mulP p q)):=(pmul_far hF hp hq hl hl2).mono fun _ _ h=>h.plain
theorem norm_upto_self(p:List UInt8):upto (co p) (norm p).length=norm p:=co_ext (upto_length _ _) fun i hi=>by
 rw[upto_length]at hi;rw[co_norm];exact co_map_range _ hi
theorem pdivide_less{b:Nat}{va vq:Value}{p q:List UInt8}{w:World}(hF:FieldAt w b)(hp:Rd w va p)(hq:Rd w vq q)(hl:p.length<=400000)(hl2:q.length<=400000)(h0:0<(norm q).length)(h1:(norm p).length<(norm q).length):
  Calls Tryz.prog 220 #[.pointer (some ⟨b,0,none⟩),va,vq] w (MakesDivF w p q):=by
 have hdq:=norm_length_le q;have hdp:=norm_length_le p;have hpf:Fin0 (co p) (norm p).length:=by rw[norm,mk_length];exact deg_fin (co_fin p)
 have D0:DivInv (co p) (co q) (fun _=>0) (co p) (norm p).length (norm q).length 0:=DivInv.start hpf _ (by omega);have HD:Hid (IsDiv p q (mk (fun _=>0) (norm p).length) (mk (co p) (norm p).length)):=div_done D0 rfl h0 hdp hpf;have HN2:Hid (mk (co p) (norm p).length=norm p):=by show _=_;rw[<-norm_of hpf (fun i=>by rw[co_norm]),norm_norm]
 have HN1:Hid (mk (fun _=>0) (norm p).length=[]):=by
  show _=_
  rw[mk_same (n:=(norm p).length) (m:=0) (f:=fun _=>0) (g:=fun _=>0) (fun _ _=>rfl) (fun _ _=>rfl) (fun _=>rfl)];rfl
 have HU:Hid _:=norm_upto_self p;clear D0 hpf;obtain⟨ao',c',rfl⟩:=hq.form;have hm0:(((norm q).length:Int)==0)=false:=by rw[beq_eq_false_iff_ne];omega
 go_enter Tryz.func220,Tryz.ntmps220
 go_wp2_with fail
 refine(top_any hq (by omega)).mono ?_
 rintro e w ⟨rfl,rfl⟩
 go_wp2_with fail
 refine(pnorm_own hp (by omega)).mono ?_
 rintro e w1 ⟨rfl,hR,hB⟩;have hRd:=hR.rd;rw[HU.out]at hRd;clear hR;go_wp2
 go_ret3
 refine⟨_,_,_,_,rfl,HD.out,?_,?_,hB,far_none,far_some (Nat.le_refl _)⟩
 ·rw[HN1.out];exact rd_nil_any
 ·rw[HN2.out];exact hRd
theorem rk_all(v:Value)(fr:Nat->UInt8)(q:List UInt8)(c:UInt8)(i m:Nat)(hq:Fin0 (co q) m):addAll fr i [(v,mulBy q c)]=rk fr (co q) c i m:=by
 funext t
 show fr t^^^(if i<=t then co (mulBy q c) (t-i)else 0)=_
 unfold rk;rw[co_mulBy,mu_comm]
 by_cases h:i<=t
 ·rw[if_pos h]
  by_cases h2:t<i+m
  ·rw[if_pos ⟨h,h2⟩]
  ·rw[if_neg (by omega),hq (t-i) (by omega),mu_zero]
 ·rw[if_neg h,if_neg (by omega)]
theorem iv_ne{a:UInt8}(h:a≠0):iv a≠0:=fun e=>by
 have:=mu_iv h;rw[e,mu_zero]at this;cases this
def Tops(fs fr:Nat->UInt8)(L n i:Nat):Prop:=(i=0->fr (n-1)≠0)/\(0<i->fs (L-1)≠0)
theorem Tops.step{fs fs' fr fr':Nat->UInt8}{L n m i:Nat}{c d:UInt8}(h:Tops fs fr L n i)(hm:0<m)(hL:L=n-(m-1))(hi:i<L)(hd:d≠0)(hc:c=mu (fr (L-1-i+m-1)) d)
  (hs:∀t,fs' t=if t=L-1-i then c else fs t):Tops fs' fr' L n (i+1):=by
 refine⟨fun e=>by omega,fun _=>?_⟩;rw[hs]
 by_cases e:i=0
 ·subst e;rw[if_pos (by omega),hc,show L-1-0+m-1=n-1 by omega];exact mu_ne (h.1 rfl) hd
 ·rw[if_neg (by omega)];exact h.2 (by omega)
theorem finv_at{b:Nat}{w:World}(hF:FieldAt w b)(a:UInt8)(ha:a≠0){x:Int}(hx:x=((a.toNat:Nat):Int)):
  Calls Tryz.prog 192 #[.pointer (some ⟨b,0,none⟩),.int .u8 x] w fun e w'=>e= .returned (.tuple #[.int .u8 ((iv a).toNat:Nat),.int .i64 0])/\∃n,w'=w.drewN n:=by
 have h:=inv_all hF a.toNat hx (u8_lt a);rw[zE_pos (u8_ne ha),<-iv_toNat]at h;exact h
theorem pdivide_main{b:Nat}{va vq:Value}{p q:List UInt8}{w:World}(hF:FieldAt w b)(hp:Rd w va p)(hq:Rd w vq q)(hl:p.length<=400000)(hl2:q.length<=400000)(h0:0<(norm q).length)(h1:(norm q).length<=(norm p).length):
  Calls Tryz.prog 220 #[.pointer (some ⟨b,0,none⟩),va,vq] w (MakesDivF w p q):=by
 obtain⟨i0,hi,hz0,hz1,hz2⟩:=info_parts info_u8;have hdq:=norm_length_le q;have hdp:=norm_length_le p;have hqt:co q ((norm q).length-1)≠0:=by rw[norm_length];exact deg_top _ _ (by rw[<-norm_length];omega)
 have hpt:co p ((norm p).length-1)≠0:=by rw[norm_length];exact deg_top _ _ (by rw[<-norm_length];omega)
 have hqf:Fin0 (co q) (norm q).length:=by rw[norm,mk_length];exact deg_fin (co_fin q)
 have hpf:Fin0 (co p) (norm p).length:=by rw[norm,mk_length];exact deg_fin (co_fin p)
 have hQ0:∃bq oq,∃cq,vq= .slice (some ⟨bq,oq,none⟩) q.length cq/\bq<w.heap.size/\w.cell? ⟨bq,oq+((norm q).length-1),none⟩=some (.int .u8 ((co q ((norm q).length-1)).toNat:Nat)):=by
  rcases hq with⟨a,c,rfl,_⟩|⟨bq,oq,cq,hp0,rfl,g1,g2,g3,hpc⟩
  ·rw[show norm []=[]from rfl]at h0;simp at h0
  ·exact⟨bq,oq,cq,rfl,g3,hpc _ (by omega)⟩
 obtain⟨bq,oq,cq,rfl,hbq,cqt⟩:=hQ0;have hQ:=hq.part;have hqf':Hid (Fin0 (co (norm q)) (norm q).length):=by show Fin0 _ _;rw[co_norm];exact hqf
 have HCN:Hid _:=co_norm q;obtain⟨q',hq'⟩:∃q',Hid (q'=norm q):=⟨_,rfl⟩;obtain⟨m,hm⟩:∃m,Hid (m=(norm q).length):=⟨_,rfl⟩;obtain⟨n,hn⟩:∃n,Hid (n=(norm p).length):=⟨_,rfl⟩;rw[<-hm.out]at h0 h1 hqt hqf hqf' hdq cqt hQ;rw[<-hq'.out]at hQ hqf' HCN;rw[<-hn.out]at h1 hpt hpf hdp;have hql:Hid (q'.length=m):=by show _=_;rw[hq'.out,hm.out]
 have hm0:((m:Int)==0)=false:=by rw[beq_eq_false_iff_ne];omega
 have hnm:¬((n:Int)<(m:Int)):=by omega
 obtain⟨L,hL⟩:∃L,Hid (L=n-(m-1)):=⟨_,rfl⟩;have hL':=hL.out;have gL:(n:Int)-((m:Int)-1)=(L:Int):=by omega
 have hLn:L<=n:=by omega
 have hL0:0<L:=by omega
 have D0:Hid (DivInv (co p) (co q) (fun _=>0) (co p) n m L):=DivInv.start hpf L (by omega);have T0:Hid (Tops (fun _=>0) (co p) L n 0):=⟨fun _=>hpt,fun h=>by omega⟩;clear hL'
 go_enter Tryz.func220,Tryz.ntmps220
 go_wp2_with fail
 refine(top_any hq (by omega)).mono ?_
 rintro e w ⟨rfl,rfl⟩;simp only[<-hm.out]
 go_wp2_with fail
 refine(pnorm_own hp (by omega)).mono ?_
 rintro e w1 ⟨rfl,R1,B1⟩;simp only[<-hn.out]at R1 ⊢;have cqt1:=(B1.cell (p:=⟨bq,oq+(m-1),none⟩) hbq).trans cqt;have hF1:=hF.below B1;obtain⟨d,hd⟩:∃d,Hid (d=iv (co q (m-1))):=⟨_,rfl⟩;have hd0:Hid (d≠0):=by show _≠_;rw[hd.out];exact iv_ne hqt
 have hI:=finv_at hF1 (co q (m-1)) hqt rfl;rw[<-hd.out]at hI
 go_wp2_with fail
 refine hI.mono ?_
 rintro e w2 ⟨rfl,nd,hw2⟩;have B12:Below w1.heap.size w1 w2:=by rw[hw2];exact below_draws _ _
 have R2:=R1.later B12;have B2:=Below.next B1 B12;have s2:=B2.size;have l1:=R2.lt;clear hI hw2 R1 B1 B12 hF1 cqt1
 go_wp2_with (at_make;go_loud (refine wpList_make_full _ rfl (.tmp 49) (.tmp 49) 36 rfl w.heap.size 5 i0 (.int .u8 0) 1 Tryz.underlying36 hi hz0 hz1 _ _ _ _ L rfl rfl (by omega) (by omega) (by rw[hz2];omega) (by unfold maxLen;omega) s2 ?_);intro w3 hown3 hgrow3)
 have S3:=RowF.made hown3;have B23:Below w2.heap.size w2 w3:=(Below.refl _ _).grown hgrow3 (Nat.le_refl _) (fun k h=>by cases h);have R3:=R2.later B23;have B3:=Below.next B2 B23;clear hown3 hgrow3 R2 B2 B23;obtain⟨gs,hgs⟩:∃gs,gs=w2.heap.size:=⟨_,rfl⟩;simp only[<-hgs]at S3 ⊢;have hne:w.heap.size≠gs:=by omega
 have hge:w.heap.size<=gs:=by omega
 clear hgs l1 s2
 go_loopw [53] (fun i wr=>∃k:Nat,∃fs fr:Nat->UInt8,k<=L/\i= .int .i64 k/\Hid (DivInv (co p) (co q) fs fr n m (L-k))/\Hid (Tops fs fr L n k)/\Hid (Fin0 fs L)/\Hid (Fin0 fr n)/\RowF wr w.heap.size 5 w.heap.size n n fr/\RowF wr w.heap.size 5 gs L L fs/\Below w.heap.size w wr) (fun i _=>L-(intOf i).toNat)
 case atStart=>exact⟨0,_,_,by omega,rfl,D0,T0,fun _ _=>rfl,hpf,R3,S3,B3⟩
 case round=>
  obtain⟨k,fs,fr,hk,rfl,hD,hT,hFs,hFr,RR,RS,BB⟩:=hrel;clear D0 T0 R3 S3 B3
  by_cases hlt:k<L
  ·obtain⟨i,hi2⟩:∃i,Hid (i=L-1-k):=⟨_,rfl⟩;have hi':=hi2.out;have hLL:=hL.out;have g1:(L:Int)-1-(k:Int)=(i:Int):=by omega
   have hiL:i<L:=by omega
   obtain⟨t,ht⟩:∃t,Hid (t=i+m-1):=⟨_,rfl⟩;have ht':=ht.out;have htn:t<n:=by omega
   have g2:(i:Int)+((m:Int)-1)=(t:Int):=by omega
   have hin:i<=n:=by omega
   have hmn:m<=n-i:=by omega
   have hii:i+(n-i)<=n:=by omega
   have hn9:n<=140737488355328:=by omega
   have D1:=hD.out;rw[show L-k=i+1 by omega]at D1;obtain⟨c,hc⟩:∃c,Hid (c=mu (fr t) d):=⟨_,rfl⟩;obtain⟨fs',hfs⟩:∃fs':Nat->UInt8,∀t,fs' t=if t=i then c else fs t:=⟨fun t=>if t=i then c else fs t,fun _=>rfl⟩
   have D2:Hid (DivInv (co p) (co q) fs' (rk fr (co q) c i m) n m i):=by
    have:=D1.step (fs':=fs') h0 hqf hqt (by omega) (by rw[<-ht',<-hd.out,<-hc.out];exact hfs);rw[<-ht',<-hd.out,<-hc.out]at this;exact this
   have T2:Hid (Tops fs' (rk fr (co q) c i m) L n (k+1)):=Tops.step (c:=c) (d:=d) hT.out h0 hLL hlt hd0.out (by rw[hc.out,ht',hi']) (by rw[<-hi'];exact hfs);have F2:Hid (Fin0 fs' L):=fun t htt=>by rw[hfs,if_neg (by omega)];exact hFs.out t htt
   have F3:Hid (Fin0 (rk fr (co q) c i m) n):=fun t htt=>by unfold rk;rw[if_neg (by omega),x_zero];exact hFr.out t htt
   have HRK:Hid (∀v,addAll fr i [(v,mulBy q' c)]=rk fr (co q) c i m):=fun v=>by rw[<-HCN.out];exact rk_all v fr q' c i m hqf'.out
   have HFS:Hid _:=hfs;have hki:Hid (L-(k+1)=i):=by show _=_;omega
   have c1:=RR.cell htn;have hF1:=hF.below BB;have hM:=fmu_at hF1 (fr t) d rfl rfl;rw[<-hc.out]at hM;clear hi' hLL ht' D1 hD hT hFs hFr hfs
   go_wp2_with fail
   refine hM.mono ?_
   rintro e w4 ⟨rfl,hb4⟩;have RS4:=RS.later hb4;have RR4:=RR.later hb4;have BB4:=Below.next BB hb4;have k1:=RS4.cell hiL;have k2:=RS4.unfrozen i;obtain⟨w5,hw5⟩:∃w5,w5=w4.setCell ⟨gs,i,none⟩ (.int .u8 ((c.toNat:Nat):Int)):=⟨_,rfl⟩;have RS5:RowF w5 w.heap.size 5 gs L L fs':=by rw[hw5];exact RS4.store hiL c HFS.out
   have RR5:RowF w5 w.heap.size 5 w.heap.size n n fr:=by rw[hw5];exact RR4.other (a:=⟨gs,i,none⟩) hne _
   have BB5:Below w.heap.size w w5:=by rw[hw5];exact BB4.setCell (p:=⟨gs,i,none⟩) hge _
   have k3:=RS5.cell hiL;have e1:fs' i=c:=by rw[HFS.out,if_pos rfl]
   rw[e1]at k3;have hF5:FieldAt w5.drew b:=hF.below BB5.drew;have hQ5:Rd w5.drew (.slice (some ⟨bq,oq,none⟩) m cq) q':=hQ.below BB5.drew;have RR6:=RR5.drew;have RS6:=RS5.drew;have l5:=RR5.lt;have hAp:∀n c,Apart w.heap.size (.slice (some ⟨w5.drew.heap.size,0,none⟩) n c):=fun n c=>apart_block (by show w5.heap.size≠w.heap.size;omega)
   have hql5:q'.length<=400000:=by rw[hql.out];omega
   have hqm:∀c,(mulBy q' c).length<=n-i:=fun c=>by rw[mulBy_length,hql.out];exact hmn
   clear hM RS4 RR4 BB4 RS RR BB hF1 c1 hb4 e1
   go_wp2_with fail
   rw[<-hw5];clear hw5 k1 k2
   go_region_with (first
    |(go_at_call 204;refine(times_any hF5 hQ5 hql5 c rfl).mono ?_;rintro e w6 ⟨rfl,hT6,hb6⟩)
    |(go_at_call 203;refine(sum_terms [(_,mulBy q' c)] (RR6.later hb6) hii hn9 rfl rfl (by simp) (by intro x hx;simp at hx;subst hx;exact⟨hT6,hAp _ _,hqm c⟩)).mono ?_;rintro e w7 ⟨rfl,hO,hR7⟩))
   all_goals go_wp2
   all_goals
    go_roundw
    case rel=>exact⟨k+1,fs',rk fr (co q) c i m,by omega,by go_num,by rw[hki.out];exact D2,T2,F2,F3,by rw[<-HRK.out _];exact hR7,(((RS6.later hb6).later ((Below.refl _ _).alloc (Nat.le_refl _) _)).only hne.symm hO),(below_lit (Below.next BB5.drew hb6) _).trans (hO.below (Nat.le_refl _))⟩
    case measure=>simp[intOf];omega
  ·have e:k=L:=by omega
   subst e;rw[Nat.sub_self]at hD;have hDiv:=div_done hD.out hm.out.symm h0 hdp hFr.out;have hdeg:deg fs n=k:=deg_unique hD.out.fin hFs.out (fun _=>hT.out.2 hL0);have HS:Hid (upto fs k=mk fs n):=by show _=_;unfold upto mk;rw[hdeg]
   have HR:Hid (norm (upto fr n)=mk fr n):=norm_upto hFr.out hFr.out;have r1:=RS.rd;have r2:=RR.rd;have r3:=r2.part;have HDD:Hid _:=hDiv;have HUL:Hid _:=upto_length fr n;clear hDiv hdeg hD hT hFs hFr RS RR
   go_wp2_with fail
   refine(top_any r2 (by rw[HUL.out];omega)).mono ?_
   rintro e wr ⟨rfl,rfl⟩;go_wp2
   go_ret3
   refine⟨_,_,mk fs n,mk fr n,rfl,HDD.out,?_,?_,BB,far_some hge,far_some (Nat.le_refl _)⟩
   ·rw[<-HS.out];exact r1
   ·rw[<-HR.out];exact r3
theorem pdivide_far{b:Nat}{va vq:Value}{p q:List UInt8}{w:World}(hF:FieldAt w b)(hp:Rd w va p)(hq:Rd w vq q)(hl:p.length<=400000)(hl2:q.length<=400000)(h0:norm q≠[]):
  Calls Tryz.prog 220 #[.pointer (some ⟨b,0,none⟩),va,vq] w (MakesDivF w p q):=by
 have hpos:0<(norm q).length:=List.length_pos_iff.2 h0
 by_cases h1:(norm q).length<=(norm p).length
 ·exact pdivide_main hF hp hq hl hl2 hpos h1
 ·exact pdivide_less hF hp hq hl hl2 hpos (by omega)
end Go.Proofs.YtddnfhfangfgeaaGreat.Gf
