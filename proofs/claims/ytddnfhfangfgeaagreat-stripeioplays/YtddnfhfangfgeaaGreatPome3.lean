/- JOINED: PoCodeA, PoTimes, PoCodeC, PoCodeD. -/
import Derived.Test.YtddnfhfangfgeaaGreatPome2
set_option maxHeartbeats 4000000
set_option maxRecDepth 100000
namespace Go.Proofs.YtddnfhfangfgeaaGreat.Gf
set_option linter.unusedVariables false
set_option linter.unusedSimpArgs false
open Go.RowKit
theorem addAll_one(v:Value)(p:List UInt8):addAll (fun _=>0) 0 [(v,p)]=co p:=by
 funext t;simp[addAll,addAt]
theorem addAll_two(v v':Value)(p q:List UInt8):addAll (fun _=>0) 0 [(v,p),(v',q)]=addF (co p) (co q):=by
 funext t;simp[addAll,addAt,addF]
theorem pnorm_own{v:Value}{p:List UInt8}{w:World}(hp:Rd w v p)(hl:p.length<=140737488355328):
  Calls Tryz.prog 194 #[v] w fun e w'=>e= .returned (.slice (some ⟨w.heap.size,0,none⟩) (norm p).length (norm p).length)/\RowF w' w.heap.size 5 w.heap.size (norm p).length (norm p).length (co p)/\Below w.heap.size w w':=by
 obtain⟨i0,hi,hz0,hz1,hz2⟩:=info_parts info_u8;obtain⟨ao,c,rfl⟩:=hp.form;have hP:=hp.part;have hle:=norm_length_le p;have HC:=co_norm p;have HC':Hid _:=HC;clear HC
 go_enter Tryz.func194,Tryz.ntmps194
 go_wp2_with fail
 refine(top_any hp hl).mono ?_
 rintro e w ⟨rfl,rfl⟩;obtain⟨q,hq⟩:∃q,q=norm p:=⟨_,rfl⟩;rw[<-hq]at hP hle HC';simp only[<-hq];have HQ:Hid (q=norm p):=hq;clear hq
 go_wp2_with (at_make;go_loud (refine wpList_make_full _ rfl (.tmp 7) (.tmp 7) 36 rfl w.heap.size 5 i0 (.int .u8 0) 1 Tryz.underlying36 hi hz0 hz1 _ _ _ _ q.length rfl rfl Zo Zo (by rw[hz2];omega) Zl Zr ?_);intro w1 hown1 hgrow1)
 have R1:=RowF.made hown1;have B1:Below w.heap.size w w1:=Zf.grown hgrow1 Zr (fun k h=>by cases h);clear hown1 hgrow1;have hA:Apart w.heap.size (.slice ao q.length c):=hP.apart Zr;have hP1:=hP.below B1
 go_wp2_with (go_at_call 203;refine(sum_terms [(.slice ao q.length c,q)] R1 Zo Zo rfl rfl Zs (by intro x hx;simp at hx;subst hx;exact⟨hP1,hA,Zr⟩)).mono ?_;rintro e w' ⟨rfl,hO,hR⟩)
 go_ret;rw[addAll_one,HC'.out]at hR;exact⟨by rw[<-HQ.out];rfl,by rw[<-HQ.out];exact hR,(below_lit B1 _).trans (hO.below Zr)⟩
theorem pnorm_far{v:Value}{p:List UInt8}{w:World}(hp:Rd w v p)(hl:p.length<=140737488355328):
  Calls Tryz.prog 194 #[v] w (MakesF w (norm p)):=by
 refine(pnorm_own hp hl).mono ?_
 rintro e w' ⟨rfl,hR,hB⟩;have e1:upto (co p) (norm p).length=norm p:=co_ext (upto_length _ _) fun i hi=>by
  rw[upto_length]at hi;rw[co_norm];exact co_map_range _ hi
 exact⟨_,rfl,by have:=hR.rd;rwa[e1]at this,hB,far_some Zr⟩
theorem pnorm_any{v:Value}{p:List UInt8}{w:World}(hp:Rd w v p)(hl:p.length<=140737488355328):
  Calls Tryz.prog 194 #[v] w (Makes w (norm p)):=(pnorm_far hp hl).mono fun _ _ h=>h.plain
theorem z3_1{p:Prop} (h:p:=by
 have R1:=RowF.made hown1;have B1:Below w.heap.size w w1:=Zf.grown hgrow1 Zr (fun k h=>by cases h);clear hown1 hgrow1;have hA:=hp.apart Zr;have hA2:=hq.apart Zr;have hP1:=hp.below B1;have hQ1:=hq.below B1
 go_wp2_with fail
 refine(sum_terms [(.slice ao p.length c,p),(.slice ao' q.length c',q)] R1 Zo Zo rfl rfl Zs (by intro x hx;simp at hx;rcases hx with rfl|rfl;exact⟨hP1,hA,hpn⟩;exact⟨hQ1,hA2,hqn⟩)).mono ?_
 rintro e w' ⟨rfl,hO,hR⟩;rw[addAll_two]at hR;have B2:=(below_lit B1 _).trans (hO.below Zr);have hRd:=hR.rd;clear hR hO hP1 hQ1;have hRN:=hRd.part
 go_wp2_with fail
 refine(top_any hRd (by rw[HU.out];omega)).mono ?_
 rintro e w'' ⟨rfl,rfl⟩;go_wp2;go_ret;rw[<-HN.out];exact⟨_,rfl,hRN,B2,far_some Zr⟩
 ):p:=h
theorem padd_far{va vq:Value}{p q:List UInt8}{w:World}(hp:Rd w va p)(hq:Rd w vq q)(hl:p.length<=400000)(hl2:q.length<=400000):
  Calls Tryz.prog 221 #[va,vq] w (MakesF w (addP p q)):=by
 obtain⟨i0,hi,hz0,hz1,hz2⟩:=info_parts info_u8;obtain⟨ao,c,rfl⟩:=hp.form;obtain⟨ao',c',rfl⟩:=hq.form;obtain⟨n,hn⟩:∃n,(p.length<q.length/\n=q.length)∨(¬p.length<q.length/\n=p.length):=by
  by_cases h:p.length<q.length
  ·exact⟨_,Or.inl ⟨h,rfl⟩⟩
  ·exact⟨_,Or.inr ⟨h,rfl⟩⟩
 have hpn:p.length<=n:=Zo
 have hqn:q.length<=n:=Zo
 have hnn:n<=400000:=Zo
 have HN:Hid (norm (upto (addF (co p) (co q)) n)=addP p q):=norm_upto (((co_fin p).mono Zo).add ((co_fin q).mono Zo)) (fin_add p q);have HU:Hid ((upto (addF (co p) (co q)) n).length=n):=upto_length _ _
 rcases hn with⟨hlt,rfl⟩|⟨hlt,rfl⟩
 ·go_enter Tryz.func221,Tryz.ntmps221
  go_wp2_with (at_make;go_loud (refine wpList_make_full _ rfl (.tmp 10) (.tmp 10) 36 rfl w.heap.size 5 i0 (.int .u8 0) 1 Tryz.underlying36 hi hz0 hz1 _ _ _ _ q.length rfl rfl Zo Zo (by rw[hz2];omega) Zl Zr ?_);intro w1 hown1 hgrow1)
  exact z3_1
 ·go_enter Tryz.func221,Tryz.ntmps221
  go_wp2_with (at_make;go_loud (refine wpList_make_full _ rfl (.tmp 10) (.tmp 10) 36 rfl w.heap.size 5 i0 (.int .u8 0) 1 Tryz.underlying36 hi hz0 hz1 _ _ _ _ p.length rfl rfl Zo Zo (by rw[hz2];omega) Zl Zr ?_);intro w1 hown1 hgrow1)
  exact z3_1
def tk(q:Nat->UInt8)(a:UInt8)(k t:Nat):UInt8:=if t<k then mu (q t) a else 0
theorem tk_zero(q:Nat->UInt8)(a:UInt8)(t:Nat):tk q a 0 t=0:=if_neg Zo
theorem tk_step(q:Nat->UInt8)(a:UInt8)(k t:Nat):tk q a (k+1) t=if t=k then mu (q k) a else tk q a k t:=by
 unfold tk
 by_cases e:t=k
 ·subst e;rw[if_pos Zo,if_pos rfl]
 ·rw[if_neg e]
  by_cases h2:t<k
  ·rw[if_pos h2,if_pos Zo]
  ·rw[if_neg h2,if_neg Zo]
def mulBy(q:List UInt8)(a:UInt8):List UInt8:=upto (fun t=>mu (co q t) a) q.length
theorem mulBy_length(q:List UInt8)(a:UInt8):(mulBy q a).length=q.length:=upto_length _ _
theorem co_mulBy(q:List UInt8)(a:UInt8)(t:Nat):co (mulBy q a) t=mu (co q t) a:=
 co_upto (k:=q.length) (f:=fun t=>mu (co q t) a) (fun i hi=>by show mu (co q i) a=0;rw[co_ge hi,zero_mu]) t
theorem times_main(b b' off' c':Nat)(q:List UInt8)(a:UInt8)(w:World)(hF:FieldAt w b)(hl:q.length<=400000)(hb:b'<w.heap.size)
  (hqc:∀i,i<q.length->w.cell? ⟨b',off'+i,none⟩=some (.int .u8 ((co q i).toNat:Nat))):
  Calls Tryz.prog 204 #[.pointer (some ⟨b,0,none⟩),.slice (some ⟨b',off',none⟩) q.length c',.int .u8 ((a.toNat:Nat):Int)] w fun e w'=>
   e= .returned (.slice (some ⟨w.heap.size,0,none⟩) q.length q.length)/\RowF w' w.heap.size 5 w.heap.size q.length q.length (fun t=>mu (co q t) a)/\Below w.heap.size w w':=by
 obtain⟨i0,hi,hz0,hz1,hz2⟩:=info_parts info_u8
 go_enter Tryz.func204,Tryz.ntmps204
 go_wp2_with (at_make;go_loud (refine wpList_make_full _ rfl (.tmp 10) (.tmp 10) 36 rfl w.heap.size 5 i0 (.int .u8 0) 1 Tryz.underlying36 hi hz0 hz1 _ _ _ _ q.length rfl rfl Zo Zo (by rw[hz2];omega) Zl Zr ?_);intro w1 hown1 hgrow1)
 have R1:=RowF.made hown1;have B1:Below w.heap.size w w1:=Zf.grown hgrow1 Zr (fun k h=>by cases h);clear hown1 hgrow1
 go_loopw [14] (fun i wr=>∃k:Nat,k<=q.length/\i= .int .i64 k/\RowF wr w.heap.size 5 w.heap.size q.length q.length (tk (co q) a k)/\Below w.heap.size w wr) (fun i _=>q.length-(intOf i).toNat)
 case atStart=>exact⟨0,Zo,rfl,R1.congr (fun t _=>(tk_zero _ _ t).symm),B1⟩
 case round=>
  obtain⟨k,hk,rfl,hR,hB⟩:=hrel;clear R1 B1
  by_cases hlt:k<q.length
  ·have c1:=(hB.cell (p:=⟨b',off'+k,none⟩) hb).trans (hqc k hlt);have hF1:=hF.below hB;clear hqc
   go_wp2_with fail
   refine(fmu_at hF1 (co q k) a rfl rfl).mono ?_
   rintro e w2 ⟨rfl,hb2⟩;have hR2:=hR.later hb2;have hB2:=Below.next hB hb2;have c2:=hR2.cell hlt;have f1:=hR2.unfrozen k;have N1:Hid _:=hR2.store hlt (mu (co q k) a) (tk_step (co q) a k);have N2:Hid _:=hB2.setCell (p:=⟨w.heap.size,k,none⟩) Zr (.int .u8 (((mu (co q k) a).toNat:Nat):Int));clear hR hR2 hB hB2 hb2 hF1;go_wp2;go_roundw
   case rel=>exact⟨k+1,Zo,Zg,N1.out,N2.out⟩
   case measure=>simp[intOf];omega
  ·have e:k=q.length:=by omega
   subst e;clear hqc;go_wp2;go_ret;exact⟨rfl,hR.congr (fun t ht=>if_pos ht),hB⟩
theorem times_nil(v1:Value)(ao:Option Addr)(c':Nat)(y:Int)(w:World):
  Calls Tryz.prog 204 #[v1,.slice ao 0 c',.int .u8 y] w fun e w'=>e= .returned (.slice (some ⟨w.heap.size,0,none⟩) 0 0)/\RowF w' w.heap.size 5 w.heap.size 0 0 (fun _=>0)/\Below w.heap.size w w':=by
 obtain⟨i0,hi,hz0,hz1,hz2⟩:=info_parts info_u8
 go_enter Tryz.func204,Tryz.ntmps204
 go_wp2_with (at_make;go_loud (refine wpList_make_full _ rfl (.tmp 10) (.tmp 10) 36 rfl w.heap.size 5 i0 (.int .u8 0) 1 Tryz.underlying36 hi hz0 hz1 _ _ _ _ 0 rfl rfl Zo Zo (by rw[hz2];omega) Zl Zr ?_);intro w1 hown1 hgrow1)
 have R1:=RowF.made hown1;have B1:Below w.heap.size w w1:=Zf.grown hgrow1 Zr (fun k h=>by cases h);clear hown1 hgrow1
 go_loop [14] (fun i=>i= .int .i64 0) (fun _=>0)
 case atStart=>rfl
 case round=>
  subst hrel;go_wp2;go_ret;exact⟨rfl,R1,B1⟩
theorem times_any{b n c:Nat}{ao:Option Addr}{q:List UInt8}{w:World}(hF:FieldAt w b)(hq:Rd w (.slice ao n c) q)(hl:q.length<=400000)(a:UInt8){y:Int}(hy:y=((a.toNat:Nat):Int)):
  Calls Tryz.prog 204 #[.pointer (some ⟨b,0,none⟩),.slice ao n c,.int .u8 y] w fun e w'=>
   e= .returned (.slice (some ⟨w.heap.size,0,none⟩) n n)/\Rd w' (.slice (some ⟨w.heap.size,0,none⟩) n n) (mulBy q a)/\Below w.heap.size w w':=by
 subst hy;have hn:=hq.n;subst hn
 rcases hq with⟨a',c',rfl,e2,hc,hn⟩|⟨b',off',c',hp0,e2,h1,h2,h3,hqc⟩
 ·refine(times_nil _ _ _ _ w).mono ?_
  rintro e w' ⟨rfl,hR,hB⟩;exact⟨rfl,hR.rd,hB⟩
 ·simp at e2;obtain⟨rfl,rfl⟩:=e2;refine(times_main b b' off' _ q a w hF hl h3 hqc).mono ?_
  rintro e w' ⟨rfl,hR,hB⟩;exact⟨rfl,hR.rd,hB⟩
theorem pmulP_empty{p q:List UInt8}(h:norm p=[]∨norm q=[]):mulP p q=[]:=by
 have e:=mulP_length p q;rw[if_pos (by rcases h with h|h<;>simp[h])]at e;exact List.length_eq_zero_iff.1 e
theorem pmul_empty{b:Nat}{va vq:Value}{p q:List UInt8}{w:World}(hp:Rd w va p)(hq:Rd w vq q)(hl:p.length<=400000)(hl2:q.length<=400000)(h:norm p=[]∨norm q=[]):
  Calls Tryz.prog 173 #[.pointer (some ⟨b,0,none⟩),va,vq] w (MakesF w (mulP p q)):=by
 rw[pmulP_empty h];obtain⟨ao,c,rfl⟩:=hp.form;obtain⟨ao',c',rfl⟩:=hq.form;have h':(norm p).length=0∨((norm p).length≠0/\(norm q).length=0):=by
  by_cases h1:(norm p).length=0
  ·exact Or.inl h1
  ·rcases h with h|h
   ·rw[h]at h1;exact absurd rfl h1
   ·exact Or.inr ⟨h1,by rw[h];rfl⟩
 clear h
 go_enter Tryz.func173,Tryz.ntmps173
 go_wp2_with fail
 refine(top_any hp Zo).mono ?_
 rintro e w ⟨rfl,rfl⟩
 go_wp2_with fail
 refine(top_any hq Zo).mono ?_
 rintro e w ⟨rfl,rfl⟩;generalize (norm p).length=n at h' ⊢;generalize (norm q).length=m at h' ⊢
 rcases h' with rfl|⟨h1,rfl⟩
 ·go_wp2;go_ret;exact⟨_,rfl,rd_nil_any,Zf,far_none⟩
 ·have h2:((n:Int)==0)=false:=by simp;omega
  go_wp2;go_ret;exact⟨_,rfl,rd_nil_any,Zf,far_none⟩
theorem pc_step(v:Value)(p q:List UInt8)(k:Nat):addAll (pc (co p) (co q) k) k [(v,mulBy q (co p k))]=pc (co p) (co q) (k+1):=by
 funext t
 show pc (co p) (co q) k t^^^(if k<=t then co (mulBy q (co p k)) (t-k)else 0)=_
 rw[co_mulBy,mu_comm];rfl
theorem pmul_main{b:Nat}{va vq:Value}{p q:List UInt8}{w:World}(hF:FieldAt w b)(hp:Rd w va p)(hq:Rd w vq q)(hl:p.length<=400000)(hl2:q.length<=400000)(h1:norm p≠[])(h2:norm q≠[]):
  Calls Tryz.prog 173 #[.pointer (some ⟨b,0,none⟩),va,vq] w (MakesF w (mulP p q)):=by
 obtain⟨i0,hi,hz0,hz1,hz2⟩:=info_parts info_u8;obtain⟨ao,c,rfl⟩:=hp.form;obtain⟨ao',c',rfl⟩:=hq.form;have hP:=hp.part;have hQ:=hq.part;have hle:=norm_length_le p;have hle2:=norm_length_le q;have hL:=mulP_length p q;have hpos:0<(norm p).length:=List.length_pos_iff.2 h1;have hpos2:0<(norm q).length:=List.length_pos_iff.2 h2;rw[if_neg Zo]at hL;have HM:Hid (upto (conv (co (norm p)) (co (norm q))) ((norm p).length+(norm q).length-1)=mulP p q):=by
  show _=_
  rw[co_norm,co_norm,<-hL];refine co_ext (upto_length _ _) fun i hi=>?_
  rw[upto_length]at hi;rw[co_mulP];exact co_map_range _ hi
 go_enter Tryz.func173,Tryz.ntmps173
 go_wp2_with fail
 refine(top_any hp Zo).mono ?_
 rintro e w ⟨rfl,rfl⟩
 go_wp2_with fail
 refine(top_any hq Zo).mono ?_
 rintro e w ⟨rfl,rfl⟩;generalize norm p=p' at*;generalize norm q=q' at*;clear hp hq h1 h2 hL;obtain⟨L,hL⟩:∃L,Hid (L=p'.length+q'.length-1):=⟨_,rfl⟩;rw[<-hL.out]at HM;have hL':=hL.out;have g0:((p'.length:Int)==0)=false:=by rw[Zq];omega
 have g1:((q'.length:Int)==0)=false:=by rw[Zq];omega
 have g2:(p'.length:Int)+(q'.length:Int)-1=(L:Int):=Zo
 clear hL'
 go_wp2_with (at_make;go_loud (refine wpList_make_full _ rfl (.tmp 30) (.tmp 30) 36 rfl w.heap.size 5 i0 (.int .u8 0) 1 Tryz.underlying36 hi hz0 hz1 _ _ _ _ L rfl rfl Zo Zo (by rw[hz2];omega) Zl Zr ?_);intro w1 hown1 hgrow1)
 have R1:=RowF.made hown1;have B1:Below w.heap.size w w1:=Zf.grown hgrow1 Zr (fun k h=>by cases h);clear hown1 hgrow1
 go_loopw [34] (fun i wr=>∃k:Nat,k<=p'.length/\i= .int .i64 k/\RowF wr w.heap.size 5 w.heap.size L L (pc (co p') (co q') k)/\Below w.heap.size w wr) (fun i _=>p'.length-(intOf i).toNat)
 case atStart=>exact⟨0,Zo,rfl,R1.congr (fun t _=>rfl),B1⟩
 case round=>
  obtain⟨k,hk,rfl,hR,hB⟩:=hrel;clear R1 B1
  by_cases hlt:k<p'.length
  ·rcases hP with⟨a,cc,e1,e2,hc,hnn⟩|⟨bb,off,cc,hq0,e2,h1,h2,h3,hpc⟩
   ·subst e1;simp at hlt
   ·simp at e2;obtain⟨rfl,rfl⟩:=e2;have hLL:=hL.out;have c1:=(hB.cell (p:=⟨bb,off+k,none⟩) h3).trans (hpc k hlt);have hF1:FieldAt wr.drew b:=hF.below hB.drew;have hQ1:Rd wr.drew (.slice ao' q'.length c') q':=hQ.below hB.drew;have hR1:=hR.drew;have hlt2:=hR.lt;have hAp:∀n c,Apart w.heap.size (.slice (some ⟨wr.drew.heap.size,0,none⟩) n c):=fun n c=>apart_block (by show wr.heap.size≠w.heap.size;omega)
    have hkl:k<=L:=Zo
    have hkq:q'.length<=L-k:=Zo
    have hkk:k+(L-k)<=L:=Zo
    have hL9:L<=140737488355328:=Zo
    have HP:Hid _:=fun v=>pc_step v p' q' k
    clear hpc hR hLL hlt2;go_wp2
    go_region_with (first
     |(go_at_call 204;refine(times_any hF1 hQ1 Zo (co p' k) rfl).mono ?_;rintro e w2 ⟨rfl,hT,hb2⟩)
     |(go_at_call 203;refine(sum_terms [(_,mulBy q' (co p' k))] (hR1.later hb2) hkk hL9 rfl rfl Zs (by intro x hx;simp at hx;subst hx;exact⟨hT,hAp _ _,by rw[mulBy_length];exact hkq⟩)).mono ?_;rintro e w3 ⟨rfl,hO,hR3⟩))
    all_goals go_wp2
    all_goals
     go_roundw
     case rel=>exact⟨k+1,Zo,Zg,by rw[<-HP.out _];exact hR3,(below_lit (Below.next hB.drew hb2) _).trans (hO.below Zr)⟩
     case measure=>simp[intOf];omega
  ·have e:k=p'.length:=by omega
   subst e;rw[pc_whole (co_fin p')]at hR;have hRd:=hR.rd;rw[HM.out]at hRd;clear hR;go_wp2;go_ret;exact⟨_,rfl,hRd,hB,far_some Zr⟩
theorem pmul_far{b:Nat}{va vq:Value}{p q:List UInt8}{w:World}(hF:FieldAt w b)(hp:Rd w va p)(hq:Rd w vq q)(hl:p.length<=400000)(hl2:q.length<=400000):
  Calls Tryz.prog 173 #[.pointer (some ⟨b,0,none⟩),va,vq] w (MakesF w (mulP p q)):=by
 by_cases h1:norm p=[]
 ·exact pmul_empty hp hq hl hl2 (Or.inl h1)
 ·by_cases h2:norm q=[]
  ·exact pmul_empty hp hq hl hl2 (Or.inr h2)
  ·exact pmul_main hF hp hq hl hl2 h1 h2
theorem pmul_any{b:Nat}{va vq:Value}{p q:List UInt8}{w:World}(hF:FieldAt w b)(hp:Rd w va p)(hq:Rd w vq q)(hl:p.length<=400000)(hl2:q.length<=400000):
  Calls Tryz.prog 173 #[.pointer (some ⟨b,0,none⟩),va,vq] w (Makes w (mulP p q)):=(pmul_far hF hp hq hl hl2).mono fun _ _ h=>h.plain
theorem norm_upto_self(p:List UInt8):upto (co p) (norm p).length=norm p:=co_ext (upto_length _ _) fun i hi=>by
 rw[upto_length]at hi;rw[co_norm];exact co_map_range _ hi
theorem pdivide_less{b:Nat}{va vq:Value}{p q:List UInt8}{w:World}(hF:FieldAt w b)(hp:Rd w va p)(hq:Rd w vq q)(hl:p.length<=400000)(hl2:q.length<=400000)(h0:0<(norm q).length)(h1:(norm p).length<(norm q).length):
  Calls Tryz.prog 220 #[.pointer (some ⟨b,0,none⟩),va,vq] w (MakesDivF w p q):=by
 have hdq:=norm_length_le q;have hdp:=norm_length_le p;have hpf:Fin0 (co p) (norm p).length:=by rw[norm,mk_length];exact deg_fin (co_fin p)
 have D0:DivInv (co p) (co q) (fun _=>0) (co p) (norm p).length (norm q).length 0:=DivInv.start hpf _ Zo;have HD:Hid (IsDiv p q (mk (fun _=>0) (norm p).length) (mk (co p) (norm p).length)):=div_done D0 rfl h0 hdp hpf;have HN2:Hid (mk (co p) (norm p).length=norm p):=by show _=_;rw[<-norm_of hpf (fun i=>by rw[co_norm]),norm_norm]
 have HN1:Hid (mk (fun _=>0) (norm p).length=[]):=by
  show _=_
  rw[mk_same (n:=(norm p).length) (m:=0) (f:=fun _=>0) (g:=fun _=>0) (fun _ _=>rfl) (fun _ _=>rfl) (fun _=>rfl)];rfl
 have HU:Hid _:=norm_upto_self p;clear D0 hpf;obtain⟨ao',c',rfl⟩:=hq.form;have hm0:(((norm q).length:Int)==0)=false:=by rw[Zq];omega
 go_enter Tryz.func220,Tryz.ntmps220
 go_wp2_with fail
 refine(top_any hq Zo).mono ?_
 rintro e w ⟨rfl,rfl⟩
 go_wp2_with fail
 refine(pnorm_own hp Zo).mono ?_
 rintro e w1 ⟨rfl,hR,hB⟩;have hRd:=hR.rd;rw[HU.out]at hRd;clear hR;go_wp2
 go_ret3
 refine⟨_,_,_,_,rfl,HD.out,?_,?_,hB,far_none,far_some Zr⟩
 ·rw[HN1.out];exact rd_nil_any
 ·rw[HN2.out];exact hRd
theorem rk_all(v:Value)(fr:Nat->UInt8)(q:List UInt8)(c:UInt8)(i m:Nat)(hq:Fin0 (co q) m):addAll fr i [(v,mulBy q c)]=rk fr (co q) c i m:=by
 funext t
 show fr t^^^(if i<=t then co (mulBy q c) (t-i)else 0)=_
 unfold rk;rw[co_mulBy,mu_comm]
 by_cases h:i<=t
 ·rw[if_pos h]
  by_cases h2:t<i+m
  ·rw[if_pos ⟨h,h2⟩]
  ·rw[if_neg Zo,hq (t-i) Zo,mu_zero]
 ·rw[if_neg h,if_neg Zo]
theorem iv_ne{a:UInt8}(h:a≠0):iv a≠0:=fun e=>by
 have:=mu_iv h;rw[e,mu_zero]at this;cases this
def Tops(fs fr:Nat->UInt8)(L n i:Nat):Prop:=(i=0->fr (n-1)≠0)/\(0<i->fs (L-1)≠0)
theorem Tops.step{fs fs' fr fr':Nat->UInt8}{L n m i:Nat}{c d:UInt8}(h:Tops fs fr L n i)(hm:0<m)(hL:L=n-(m-1))(hi:i<L)(hd:d≠0)(hc:c=mu (fr (L-1-i+m-1)) d)
  (hs:∀t,fs' t=if t=L-1-i then c else fs t):Tops fs' fr' L n (i+1):=by
 refine⟨fun e=>Zo,fun _=>?_⟩;rw[hs]
 by_cases e:i=0
 ·subst e;rw[if_pos Zo,hc,show L-1-0+m-1=n-1 by omega];exact mu_ne (h.1 rfl) hd
 ·rw[if_neg Zo];exact h.2 Zo
theorem finv_at{b:Nat}{w:World}(hF:FieldAt w b)(a:UInt8)(ha:a≠0){x:Int}(hx:x=((a.toNat:Nat):Int)):
  Calls Tryz.prog 192 #[.pointer (some ⟨b,0,none⟩),.int .u8 x] w fun e w'=>e= .returned (.tuple #[.int .u8 ((iv a).toNat:Nat),.int .i64 0])/\∃n,w'=w.drewN n:=by
 have h:=inv_all hF a.toNat hx (u8_lt a);rw[zE_pos (u8_ne ha),<-iv_toNat]at h;exact h
theorem pdivide_main{b:Nat}{va vq:Value}{p q:List UInt8}{w:World}(hF:FieldAt w b)(hp:Rd w va p)(hq:Rd w vq q)(hl:p.length<=400000)(hl2:q.length<=400000)(h0:0<(norm q).length)(h1:(norm q).length<=(norm p).length):
  Calls Tryz.prog 220 #[.pointer (some ⟨b,0,none⟩),va,vq] w (MakesDivF w p q):=by
 obtain⟨i0,hi,hz0,hz1,hz2⟩:=info_parts info_u8;have hdq:=norm_length_le q;have hdp:=norm_length_le p;have hqt:co q ((norm q).length-1)≠0:=by rw[norm_length];exact deg_top _ _ (by rw[<-norm_length];omega)
 have hpt:co p ((norm p).length-1)≠0:=by rw[norm_length];exact deg_top _ _ (by rw[<-norm_length];omega)
 have hqf:Fin0 (co q) (norm q).length:=by rw[norm,mk_length];exact deg_fin (co_fin q)
 have hpf:Fin0 (co p) (norm p).length:=by rw[norm,mk_length];exact deg_fin (co_fin p)
 have hQ0:∃bq oq,∃cq,vq= .slice (some ⟨bq,oq,none⟩) q.length cq/\bq<w.heap.size/\w.cell? ⟨bq,oq+((norm q).length-1),none⟩=some (.int .u8 ((co q ((norm q).length-1)).toNat:Nat)):=by
  rcases hq with⟨a,c,rfl,_⟩|⟨bq,oq,cq,hp0,rfl,g1,g2,g3,hpc⟩
  ·rw[show norm []=[]from rfl]at h0;simp at h0
  ·exact⟨bq,oq,cq,rfl,g3,hpc _ Zo⟩
 obtain⟨bq,oq,cq,rfl,hbq,cqt⟩:=hQ0;have hQ:=hq.part;have hqf':Hid (Fin0 (co (norm q)) (norm q).length):=by show Fin0 _ _;rw[co_norm];exact hqf
 have HCN:Hid _:=co_norm q;obtain⟨q',hq'⟩:∃q',Hid (q'=norm q):=⟨_,rfl⟩;obtain⟨m,hm⟩:∃m,Hid (m=(norm q).length):=⟨_,rfl⟩;obtain⟨n,hn⟩:∃n,Hid (n=(norm p).length):=⟨_,rfl⟩;rw[<-hm.out]at h0 h1 hqt hqf hqf' hdq cqt hQ;rw[<-hq'.out]at hQ hqf' HCN;rw[<-hn.out]at h1 hpt hpf hdp;have hql:Hid (q'.length=m):=by show _=_;rw[hq'.out,hm.out]
 have hm0:((m:Int)==0)=false:=by rw[Zq];omega
 have hnm:¬((n:Int)<(m:Int)):=Zo
 obtain⟨L,hL⟩:∃L,Hid (L=n-(m-1)):=⟨_,rfl⟩;have hL':=hL.out;have gL:(n:Int)-((m:Int)-1)=(L:Int):=Zo
 have hLn:L<=n:=Zo
 have hL0:0<L:=Zo
 have D0:Hid (DivInv (co p) (co q) (fun _=>0) (co p) n m L):=DivInv.start hpf L Zo;have T0:Hid (Tops (fun _=>0) (co p) L n 0):=⟨fun _=>hpt,fun h=>Zo⟩;clear hL'
 go_enter Tryz.func220,Tryz.ntmps220
 go_wp2_with fail
 refine(top_any hq Zo).mono ?_
 rintro e w ⟨rfl,rfl⟩;simp only[<-hm.out]
 go_wp2_with fail
 refine(pnorm_own hp Zo).mono ?_
 rintro e w1 ⟨rfl,R1,B1⟩;simp only[<-hn.out]at R1 ⊢;have cqt1:=(B1.cell (p:=⟨bq,oq+(m-1),none⟩) hbq).trans cqt;have hF1:=hF.below B1;obtain⟨d,hd⟩:∃d,Hid (d=iv (co q (m-1))):=⟨_,rfl⟩;have hd0:Hid (d≠0):=by show _≠_;rw[hd.out];exact iv_ne hqt
 have hI:=finv_at hF1 (co q (m-1)) hqt rfl;rw[<-hd.out]at hI
 go_wp2_with fail
 refine hI.mono ?_
 rintro e w2 ⟨rfl,nd,hw2⟩;have B12:Below w1.heap.size w1 w2:=by rw[hw2];exact below_draws _ _
 have R2:=R1.later B12;have B2:=Below.next B1 B12;have s2:=B2.size;have l1:=R2.lt;clear hI hw2 R1 B1 B12 hF1 cqt1
 go_wp2_with (at_make;go_loud (refine wpList_make_full _ rfl (.tmp 49) (.tmp 49) 36 rfl w.heap.size 5 i0 (.int .u8 0) 1 Tryz.underlying36 hi hz0 hz1 _ _ _ _ L rfl rfl Zo Zo (by rw[hz2];omega) Zl s2 ?_);intro w3 hown3 hgrow3)
 have S3:=RowF.made hown3;have B23:Below w2.heap.size w2 w3:=Zf.grown hgrow3 Zr (fun k h=>by cases h);have R3:=R2.later B23;have B3:=Below.next B2 B23;clear hown3 hgrow3 R2 B2 B23;obtain⟨gs,hgs⟩:∃gs,gs=w2.heap.size:=⟨_,rfl⟩;simp only[<-hgs]at S3 ⊢;have hne:w.heap.size≠gs:=Zo
 have hge:w.heap.size<=gs:=Zo
 clear hgs l1 s2
 go_loopw [53] (fun i wr=>∃k:Nat,∃fs fr:Nat->UInt8,k<=L/\i= .int .i64 k/\Hid (DivInv (co p) (co q) fs fr n m (L-k))/\Hid (Tops fs fr L n k)/\Hid (Fin0 fs L)/\Hid (Fin0 fr n)/\RowF wr w.heap.size 5 w.heap.size n n fr/\RowF wr w.heap.size 5 gs L L fs/\Below w.heap.size w wr) (fun i _=>L-(intOf i).toNat)
 case atStart=>exact⟨0,_,_,Zo,rfl,D0,T0,fun _ _=>rfl,hpf,R3,S3,B3⟩
 case round=>
  obtain⟨k,fs,fr,hk,rfl,hD,hT,hFs,hFr,RR,RS,BB⟩:=hrel;clear D0 T0 R3 S3 B3
  by_cases hlt:k<L
  ·obtain⟨i,hi2⟩:∃i,Hid (i=L-1-k):=⟨_,rfl⟩;have hi':=hi2.out;have hLL:=hL.out;have g1:(L:Int)-1-(k:Int)=(i:Int):=by omega
   have hiL:i<L:=Zo
   obtain⟨t,ht⟩:∃t,Hid (t=i+m-1):=⟨_,rfl⟩;have ht':=ht.out;have htn:t<n:=Zo
   have g2:(i:Int)+((m:Int)-1)=(t:Int):=Zo
   have hin:i<=n:=Zo
   have hmn:m<=n-i:=Zo
   have hii:i+(n-i)<=n:=Zo
   have hn9:n<=140737488355328:=Zo
   have D1:=hD.out;rw[show L-k=i+1 by omega]at D1;obtain⟨c,hc⟩:∃c,Hid (c=mu (fr t) d):=⟨_,rfl⟩;obtain⟨fs',hfs⟩:∃fs':Nat->UInt8,∀t,fs' t=if t=i then c else fs t:=⟨fun t=>if t=i then c else fs t,fun _=>rfl⟩
   have D2:Hid (DivInv (co p) (co q) fs' (rk fr (co q) c i m) n m i):=by
    have:=D1.step (fs':=fs') h0 hqf hqt Zo (by rw[<-ht',<-hd.out,<-hc.out];exact hfs);rw[<-ht',<-hd.out,<-hc.out]at this;exact this
   have T2:Hid (Tops fs' (rk fr (co q) c i m) L n (k+1)):=Tops.step (c:=c) (d:=d) hT.out h0 hLL hlt hd0.out (by rw[hc.out,ht',hi']) (by rw[<-hi'];exact hfs);have F2:Hid (Fin0 fs' L):=fun t htt=>by rw[hfs,if_neg Zo];exact hFs.out t htt
   have F3:Hid (Fin0 (rk fr (co q) c i m) n):=fun t htt=>by unfold rk;rw[if_neg Zo,x_zero];exact hFr.out t htt
   have HRK:Hid (∀v,addAll fr i [(v,mulBy q' c)]=rk fr (co q) c i m):=fun v=>by rw[<-HCN.out];exact rk_all v fr q' c i m hqf'.out
   have HFS:Hid _:=hfs;have hki:Hid (L-(k+1)=i):=by show _=_;omega
   have c1:=RR.cell htn;have hF1:=hF.below BB;have hM:=fmu_at hF1 (fr t) d rfl rfl;rw[<-hc.out]at hM;clear hi' hLL ht' D1 hD hT hFs hFr hfs
   go_wp2_with fail
   refine hM.mono ?_
   rintro e w4 ⟨rfl,hb4⟩;have RS4:=RS.later hb4;have RR4:=RR.later hb4;have BB4:=Below.next BB hb4;have k1:=RS4.cell hiL;have k2:=RS4.unfrozen i;obtain⟨w5,hw5⟩:∃w5,w5=w4.setCell ⟨gs,i,none⟩ (.int .u8 ((c.toNat:Nat):Int)):=⟨_,rfl⟩;have RS5:RowF w5 w.heap.size 5 gs L L fs':=by rw[hw5];exact RS4.store hiL c HFS.out
   have RR5:RowF w5 w.heap.size 5 w.heap.size n n fr:=by rw[hw5];exact RR4.other (a:=⟨gs,i,none⟩) hne _
   have BB5:Below w.heap.size w w5:=by rw[hw5];exact BB4.setCell (p:=⟨gs,i,none⟩) hge _
   have k3:=RS5.cell hiL;have e1:fs' i=c:=by rw[HFS.out,if_pos rfl]
   rw[e1]at k3;have hF5:FieldAt w5.drew b:=hF.below BB5.drew;have hQ5:Rd w5.drew (.slice (some ⟨bq,oq,none⟩) m cq) q':=hQ.below BB5.drew;have RR6:=RR5.drew;have RS6:=RS5.drew;have l5:=RR5.lt;have hAp:∀n c,Apart w.heap.size (.slice (some ⟨w5.drew.heap.size,0,none⟩) n c):=fun n c=>apart_block (by show w5.heap.size≠w.heap.size;omega)
   have hql5:q'.length<=400000:=by rw[hql.out];omega
   have hqm:∀c,(mulBy q' c).length<=n-i:=fun c=>by rw[mulBy_length,hql.out];exact hmn
   clear hM RS4 RR4 BB4 RS RR BB hF1 c1 hb4 e1
   go_wp2_with fail
   rw[<-hw5];clear hw5 k1 k2
   go_region_with (first
    |(go_at_call 204;refine(times_any hF5 hQ5 hql5 c rfl).mono ?_;rintro e w6 ⟨rfl,hT6,hb6⟩)
    |(go_at_call 203;refine(sum_terms [(_,mulBy q' c)] (RR6.later hb6) hii hn9 rfl rfl Zs (by intro x hx;simp at hx;subst hx;exact⟨hT6,hAp _ _,hqm c⟩)).mono ?_;rintro e w7 ⟨rfl,hO,hR7⟩))
   all_goals go_wp2
   all_goals
    go_roundw
    case rel=>exact⟨k+1,fs',rk fr (co q) c i m,Zo,Zg,by rw[hki.out];exact D2,T2,F2,F3,by rw[<-HRK.out _];exact hR7,(((RS6.later hb6).later (Zf.alloc Zr _)).only hne.symm hO),(below_lit (Below.next BB5.drew hb6) _).trans (hO.below Zr)⟩
    case measure=>simp[intOf];omega
  ·have e:k=L:=by omega
   subst e;rw[Nat.sub_self]at hD;have hDiv:=div_done hD.out hm.out.symm h0 hdp hFr.out;have hdeg:deg fs n=k:=deg_unique hD.out.fin hFs.out (fun _=>hT.out.2 hL0);have HS:Hid (upto fs k=mk fs n):=by show _=_;unfold upto mk;rw[hdeg]
   have HR:Hid (norm (upto fr n)=mk fr n):=norm_upto hFr.out hFr.out;have r1:=RS.rd;have r2:=RR.rd;have r3:=r2.part;have HDD:Hid _:=hDiv;have HUL:Hid _:=upto_length fr n;clear hDiv hdeg hD hT hFs hFr RS RR
   go_wp2_with fail
   refine(top_any r2 (by rw[HUL.out];omega)).mono ?_
   rintro e wr ⟨rfl,rfl⟩;go_wp2
   go_ret3
   refine⟨_,_,mk fs n,mk fr n,rfl,HDD.out,?_,?_,BB,far_some hge,far_some Zr⟩
   ·rw[<-HS.out];exact r1
   ·rw[<-HR.out];exact r3
theorem pdivide_far{b:Nat}{va vq:Value}{p q:List UInt8}{w:World}(hF:FieldAt w b)(hp:Rd w va p)(hq:Rd w vq q)(hl:p.length<=400000)(hl2:q.length<=400000)(h0:norm q≠[]):
  Calls Tryz.prog 220 #[.pointer (some ⟨b,0,none⟩),va,vq] w (MakesDivF w p q):=by
 have hpos:0<(norm q).length:=List.length_pos_iff.2 h0
 by_cases h1:(norm q).length<=(norm p).length
 ·exact pdivide_main hF hp hq hl hl2 hpos h1
 ·exact pdivide_less hF hp hq hl hl2 hpos Zo
end Go.Proofs.YtddnfhfangfgeaaGreat.Gf
