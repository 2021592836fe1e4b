/- JOINED: KeCode, WdMath, WdSets, WdTry, WdOwn, WdRefA, WdRefB. -/
import Derived.Test.YtddnfhfangfgeaaGreatPome15
import Derived.Test.YtddnfhfangfgeaaGreatPome13
import Derived.Test.YtddnfhfangfgeaaGreatPome12
set_option maxHeartbeats 4000000
set_option maxRecDepth 100000
namespace Go.Proofs.YtddnfhfangfgeaaGreat.Gf
set_option linter.unusedVariables false
set_option linter.unusedSimpArgs false
open Go.RowKit
theorem Rd.first9{w:World}{a:Option Addr}{n c k:Nat}{p:List UInt8}(h:Rd w (.slice a n c) p)(hk:k<=n):Rd w (.slice a k c) (p.take k):=by
 rcases h with⟨a',c',e,e2,h3,h4⟩|⟨b,off,c',h1,e2,h3,h4,h5,h6⟩
 ·simp at e2;obtain⟨rfl,rfl,rfl⟩:=e2;subst e;obtain rfl:k=0:=by omega
  exact Or.inl ⟨_,_,rfl,rfl,h3,h4⟩
 ·simp at e2;obtain⟨rfl,rfl,rfl⟩:=e2;have hl:(p.take k).length=k:=by rw[List.length_take];omega
  by_cases h0:k=0
  ·subst h0;exact Or.inl ⟨_,_,Zs,rfl,h4,fun h=>by cases h⟩
  ·refine Or.inr ⟨b,off,c,fun e=>by rw[e]at hl;simp at hl;omega,by rw[hl],by rw[hl];omega,h4,h5,fun i hi=>?_⟩;rw[hl]at hi;rw[co_take hi];exact h6 i Zo
theorem Rd.caps{w:World}{a:Option Addr}{n c:Nat}{p:List UInt8}(h:Rd w (.slice a n c) p):n=p.length/\n<=c/\c<=9223372036854775807:=by
 rcases h with⟨a',c',e,e2,h3,h4⟩|⟨b,off,c',h1,e2,h3,h4,h5,h6⟩
 ·simp at e2;obtain⟨rfl,rfl,rfl⟩:=e2;subst e;unfold maxLen at h3;exact⟨rfl,Nat.zero_le _,Zo⟩
 ·simp at e2;obtain⟨rfl,rfl,rfl⟩:=e2;unfold maxLen at h4;exact⟨rfl,h3,Zo⟩
theorem keP_told(s known:List UInt8):co (mulP (norm known) s.reverse)=keP s known:=by
 rw[co_mulP,co_norm];rfl
theorem told_take{s known:List UInt8}{k:Nat}(hk:k=min s.length (mulP (norm known) s.reverse).length):((mulP (norm known) s.reverse).take k).length<=s.length/\∀j,j<s.length->co ((mulP (norm known) s.reverse).take k) j=keP s known j:=by
 rw[<-keP_told];refine⟨by rw[List.length_take];omega,fun j hj=>?_⟩
 by_cases h:j<k
 ·rw[co_take h]
 ·rw[co_ge (p:=(mulP (norm known) s.reverse).take k) (by rw[List.length_take];omega),co_ge Zo]
theorem eva_told{s known:List UInt8}{t:Nat}{L:Nat->UInt8}(h:Fin0 L (t+1)):norm ((mulP (upto L (t+1)) (mulP (norm known) s.reverse)).drop s.length)=evaL s known t L:=by
 have e:co (upto L (t+1))=L:=funext fun i=>co_upto h i
 have hf:=fin_conv (upto L (t+1)) (mulP (norm known) s.reverse);have e1:(mulP (upto L (t+1)) (mulP (norm known) s.reverse)).drop s.length=evaL s known t L:=by
  unfold evaL
  show(mk (conv (co (upto L (t+1))) (co (mulP (norm known) s.reverse))) _).drop s.length=_
  rw[keP_told,e]at hf ⊢;exact drop_mk hf (eva_fin h)
 rw[e1];exact norm_mk (eva_fin h)
theorem ksol_any{w:World}{b:Nat}{vs vk:Value}{s known:List UInt8}(hF:FieldAt w b)(hs:Rd w vs s)(hk:Rd w vk known)(hl:s.length<=300)(hl2:known.length<=300):Calls Tryz.prog 169 #[.pointer (some ⟨b,0,none⟩),vs,vk] w (MakesK w s known):=by
 obtain⟨sa,sc,rfl⟩:=hs.form
 go_enter Tryz.func169,Tryz.ntmps169
 go_wp2_with fail
 refine(pnorm_any hk Zo).mono ?_
 rintro e9 w1 ⟨v1,rfl,r1,b1⟩;have hn:=norm_length_le known;obtain⟨K,hK⟩:∃K,Hid (K=norm known):=⟨_,rfl⟩;rw[<-hK.out]at r1 hn;obtain⟨ka,kc,rfl⟩:=r1.form;replace hs:=hs.below b1;have hF1:=hF.below b1;obtain⟨m,hm⟩:∃m,Hid (m=s.length):=⟨_,rfl⟩;obtain⟨n,hn9⟩:∃n,Hid (n=K.length):=⟨_,rfl⟩;have hm3:m<=300:=by rw[hm.out];exact hl
 have hn3:n<=300:=by rw[hn9.out];omega
 rw[<-hm.out]at hs ⊢;rw[<-hn9.out]at r1 ⊢;have gw1:IntKind.i64.wrap ((n:Int)-1)=(n:Int)-1:=Zw
 clear hn hk hF
 by_cases h0:n=0
 ·have g1:(n:Int)-1<0:=by omega
  have HF:Hid (KeyAns s known 1 [] []):=Or.inl ⟨Or.inl (by rw[<-hK.out,<-hn9.out];exact h0),rfl,rfl,rfl⟩;clear h0;go_wp2
  go_ret3
  exact MakesK.mk HF.out (rd9_nil _) (rd9_nil _) b1
 by_cases h1:m+1<n
 ·have g1:¬(n:Int)-1<0:=by omega
  have g2:(n:Int)-1>(m:Int):=Zo
  have HF:Hid (KeyAns s known 1 [] []):=Or.inl ⟨Or.inr (by rw[<-hK.out,<-hn9.out,<-hm.out];exact h1),rfl,rfl,rfl⟩;clear h0 h1;go_wp2
  go_ret3
  exact MakesK.mk HF.out (rd9_nil _) (rd9_nil _) b1
 have hB:Hid (¬BadK s known):=by
  unfold Hid BadK;rw[<-hK.out,<-hn9.out,<-hm.out];omega
 obtain⟨E,hE⟩:∃E,Hid (E=n-1):=⟨_,rfl⟩;have gE:(n:Int)-1=(E:Int):=by have:=hE.out;omega
 have hEm:E<=m:=by have:=hE.out;omega
 have g1:¬(E:Int)<0:=Zo
 have g2:¬(E:Int)>(m:Int):=Zo
 have gw2:IntKind.i64.wrap (E:Int)=(E:Int):=Zw
 clear gw1 h0 h1;have hsl:Hid (s.length<=1000):=by show _<=_;omega
 go_wp2_with fail
 refine(kturn_any hs hsl.out).mono ?_
 rintro e9 w2 ⟨v2,rfl,r2,b2,_⟩;replace b1:=Below.next b1 b2;replace r1:=r1.below b2;have hF2:=hF1.below b2;have hrl:Hid (s.reverse.length=m):=by show _=_;rw[List.length_reverse,hm.out]
 clear hF1 hs b2
 go_wp2_with fail
 refine(pmul_any hF2 r1 r2 (by rw[<-hn9.out];omega) (by rw[hrl.out];omega)).mono ?_
 rintro e9 w3 ⟨v3,rfl,r3,b3⟩;have hpl:=mulP_length_le K s.reverse;rw[<-hn9.out,hrl.out]at hpl;obtain⟨P,hP⟩:∃P,Hid (P=mulP K s.reverse):=⟨_,rfl⟩;rw[<-hP.out]at r3 hpl;have HP:Hid (P=mulP (norm known) s.reverse):=by show _=_;rw[hP.out,hK.out]
 obtain⟨pa,pc,rfl⟩:=r3.form;obtain⟨_,hpc,hpm⟩:=r3.caps;replace b1:=Below.next b1 b3;have hF3:=hF2.below b3;obtain⟨pn,hpn⟩:∃pn,Hid (pn=P.length):=⟨_,rfl⟩;rw[<-hpn.out]at hpl hpc r3 ⊢;clear hF2 r1 r2 b3;obtain⟨k,hk⟩:∃k,Hid (k=min m pn):=⟨_,rfl⟩;have hkn:k<=pn:=by have:=hk.out;omega
 have hkc:k<=pc:=Zo
 have rT:=r3.first9 hkn;have HT:Hid ((P.take k).length<=s.length/\∀j,j<s.length->co (P.take k) j=keP s known j):=by
  rw[HP.out];exact told_take (by rw[hk.out,hpn.out,HP.out,hm.out])
 obtain⟨HT1,HT2⟩:=HT.out;have HC:=keuc_any (e:=E) hF3 rT HT1 HT2 hl (by rw[<-hm.out];exact hEm) rfl rfl;rw[<-hm.out]at HC;clear HT1 HT2 rT
 rcases Nat.lt_or_ge pn m with hlt|hge
 rotate_left
 ·have ek:k=m:=by have:=hk.out;omega
  rw[ek]at HC hkn hkc;have hlt':¬(pn:Int)<(m:Int):=Zo
  clear ek
  go_wp2_with fail
  refine HC.mono ?_
  rintro e9 w4 ⟨r0,v0,R1,C1,vc,vl,hU,hEnd,rfl,rc,rl,b4⟩;obtain⟨f1,f2,f3,f4,f5⟩:=hU.fac;rw[<-hm.out]at f2 f3 f5;obtain⟨ca,cc,rfl⟩:=rc.form;obtain⟨la,lc,rfl⟩:=rl.form;replace b1:=Below.next b1 b4;replace r3:=r3.below b4;have hF4:=hF3.below b4;obtain⟨c,hc⟩:∃c,Hid (c=C1.length):=⟨_,rfl⟩;obtain⟨t,ht⟩:∃t,Hid (t=c-1):=⟨_,rfl⟩;obtain⟨l,hl9⟩:∃l,Hid (l=R1.length):=⟨_,rfl⟩;have hc1:1<=c:=by rw[hc.out];exact f1
  have hc2:c<=301:=by rw[hc.out];omega
  have hl3:l<=301:=by rw[hl9.out];omega
  have gt:(c:Int)-1=(t:Int):=by have:=ht.out;omega
  have ht3:t<=300:=by have:=ht.out;omega
  have gtw:IntKind.i64.wrap (t:Int)=(t:Int):=Zw
  obtain⟨q,hq⟩:∃q,Hid (q=E+t):=⟨_,rfl⟩;have gq:(E:Int)+(t:Int)=(q:Int):=by have:=hq.out;omega
  have hq6:q<=600:=by have:=hq.out;omega
  have gqw:IntKind.i64.wrap (q:Int)=(q:Int):=Zw
  have HE2:Hid ((norm known).length-1=E):=by show _=_;rw[<-hK.out,<-hn9.out,hE.out]
  rcases Nat.lt_or_ge q l with hql|hql
  ·have g3:(l:Int)>(q:Int):=by omega
   have HF:Hid (KeyAns s known 100 [] []):=by
    refine Or.inr (Or.inr ⟨hB.out,?_,rfl,rfl,rfl⟩);rw[HE2.out];exact hU.none hEnd (by rw[<-hc.out,<-ht.out,<-hq.out,<-hl9.out];exact hql)
   rw[<-hc.out,<-hl9.out];clear HC hU hEnd f1 f2 f3 f4 f5 rc rl r3 HT hF3 hF4 b4;go_wp2
   go_ret3
   exact MakesK.mk HF.out (rd9_nil _) (rd9_nil _) b1
  ·have g3:¬(l:Int)>(q:Int):=by omega
   obtain⟨k1,k2,k3⟩:=hU.least hEnd (by rw[<-hc.out,<-ht.out,<-hq.out,<-hl9.out];exact hql);have HL:Hid (LeastLoc (keP s known) s.length E t (fun j=>mu (iv (co C1 (C1.length-1))) (co C1 j))):=by
    show LeastLoc _ _ _ _ _
    rw[ht.out,hc.out];exact k3
   have HC5:=ktop_any hF4 rc Zo k1 k2;obtain⟨A,hA⟩:∃A,Hid (A=fun j=>mu (iv (co C1 (C1.length-1))) (co C1 j)):=⟨_,rfl⟩;rw[<-hA.out]at HC5 HL;rw[show C1.length-1+1=t+1 by rw[ht.out,hc.out]]at HC5;obtain⟨AL,hAL⟩:∃AL,Hid (AL=upto A (t+1)):=⟨_,rfl⟩;have hALl:Hid (AL.length=t+1):=by show _=_;rw[hAL.out,upto_length]
   rw[<-hAL.out]at HC5;rw[<-hc.out]at HC5 ⊢;rw[<-hl9.out];clear HC hU hEnd f1 f2 f3 f4 f5 rc rl HT hF3 b4 k1 k2 k3
   go_wp2_with fail
   refine HC5.mono ?_
   rintro e9 w5 ⟨v5,rfl,r5,b5,_⟩;replace b1:=Below.next b1 b5;replace r3:=r3.below b5;have hF5:=hF4.below b5;obtain⟨a5,c5,rfl⟩:=r5.form;rw[hALl.out]at r5 ⊢;clear HC5 hF4 b5
   go_wp2_with fail
   refine(pmul_any hF5 r5 r3 (by rw[hALl.out];omega) (by rw[<-hpn.out];omega)).mono ?_
   rintro e9 w6 ⟨v6,rfl,r6,b6⟩;have h6:=mulP_length_le AL P;rw[hALl.out,<-hpn.out]at h6;have HO:Hid (norm ((mulP AL P).drop m)=evaL s known t A):=by
    show _=_
    rw[hAL.out,HP.out,hm.out];exact eva_told HL.out.loc.fin
   obtain⟨Q,hQ⟩:∃Q,Hid (Q=mulP AL P):=⟨_,rfl⟩;rw[<-hQ.out]at r6 h6 HO;replace b1:=Below.next b1 b6;replace r5:=r5.below b6;clear hF5 r3 b6
   go_wp2_with fail
   refine(kfrom_any r6 Zo (m:=m) Zo rfl).mono ?_
   rintro e9 w7 ⟨v7,rfl,r7,b7,_⟩;rw[HO.out]at r7;replace b1:=Below.next b1 b7;replace r5:=r5.below b7;obtain⟨a7,c7,rfl⟩:=r7.form;have HF:Hid (KeyAns s known 0 AL (evaL s known t A)):=by
    rw[hAL.out];refine KeyAns.of_loc hB.out ?_
    rw[HE2.out];exact HL.out
   obtain⟨O,hO⟩:∃O,Hid (O=evaL s known t A):=⟨_,rfl⟩;rw[<-hO.out]at r7 HF ⊢;clear b7 r6;go_wp2
   go_ret3
   exact MakesK.mk HF.out r5 r7 b1
 ·have ek:k=pn:=by have:=hk.out;omega
  rw[ek]at HC hkn hkc;have hlt':(pn:Int)<(m:Int):=Zo
  clear ek
  go_wp2_with fail
  refine HC.mono ?_
  rintro e9 w4 ⟨r0,v0,R1,C1,vc,vl,hU,hEnd,rfl,rc,rl,b4⟩;obtain⟨f1,f2,f3,f4,f5⟩:=hU.fac;rw[<-hm.out]at f2 f3 f5;obtain⟨ca,cc,rfl⟩:=rc.form;obtain⟨la,lc,rfl⟩:=rl.form;replace b1:=Below.next b1 b4;replace r3:=r3.below b4;have hF4:=hF3.below b4;obtain⟨c,hc⟩:∃c,Hid (c=C1.length):=⟨_,rfl⟩;obtain⟨t,ht⟩:∃t,Hid (t=c-1):=⟨_,rfl⟩;obtain⟨l,hl9⟩:∃l,Hid (l=R1.length):=⟨_,rfl⟩;have hc1:1<=c:=by rw[hc.out];exact f1
  have hc2:c<=301:=by rw[hc.out];omega
  have hl3:l<=301:=by rw[hl9.out];omega
  have gt:(c:Int)-1=(t:Int):=by have:=ht.out;omega
  have ht3:t<=300:=by have:=ht.out;omega
  have gtw:IntKind.i64.wrap (t:Int)=(t:Int):=Zw
  obtain⟨q,hq⟩:∃q,Hid (q=E+t):=⟨_,rfl⟩;have gq:(E:Int)+(t:Int)=(q:Int):=by have:=hq.out;omega
  have hq6:q<=600:=by have:=hq.out;omega
  have gqw:IntKind.i64.wrap (q:Int)=(q:Int):=Zw
  have HE2:Hid ((norm known).length-1=E):=by show _=_;rw[<-hK.out,<-hn9.out,hE.out]
  rcases Nat.lt_or_ge q l with hql|hql
  ·have g3:(l:Int)>(q:Int):=by omega
   have HF:Hid (KeyAns s known 100 [] []):=by
    refine Or.inr (Or.inr ⟨hB.out,?_,rfl,rfl,rfl⟩);rw[HE2.out];exact hU.none hEnd (by rw[<-hc.out,<-ht.out,<-hq.out,<-hl9.out];exact hql)
   rw[<-hc.out,<-hl9.out];clear HC hU hEnd f1 f2 f3 f4 f5 rc rl r3 HT hF3 hF4 b4;go_wp2
   go_ret3
   exact MakesK.mk HF.out (rd9_nil _) (rd9_nil _) b1
  ·have g3:¬(l:Int)>(q:Int):=by omega
   obtain⟨k1,k2,k3⟩:=hU.least hEnd (by rw[<-hc.out,<-ht.out,<-hq.out,<-hl9.out];exact hql);have HL:Hid (LeastLoc (keP s known) s.length E t (fun j=>mu (iv (co C1 (C1.length-1))) (co C1 j))):=by
    show LeastLoc _ _ _ _ _
    rw[ht.out,hc.out];exact k3
   have HC5:=ktop_any hF4 rc Zo k1 k2;obtain⟨A,hA⟩:∃A,Hid (A=fun j=>mu (iv (co C1 (C1.length-1))) (co C1 j)):=⟨_,rfl⟩;rw[<-hA.out]at HC5 HL;rw[show C1.length-1+1=t+1 by rw[ht.out,hc.out]]at HC5;obtain⟨AL,hAL⟩:∃AL,Hid (AL=upto A (t+1)):=⟨_,rfl⟩;have hALl:Hid (AL.length=t+1):=by show _=_;rw[hAL.out,upto_length]
   rw[<-hAL.out]at HC5;rw[<-hc.out]at HC5 ⊢;rw[<-hl9.out];clear HC hU hEnd f1 f2 f3 f4 f5 rc rl HT hF3 b4 k1 k2 k3
   go_wp2_with fail
   refine HC5.mono ?_
   rintro e9 w5 ⟨v5,rfl,r5,b5,_⟩;replace b1:=Below.next b1 b5;replace r3:=r3.below b5;have hF5:=hF4.below b5;obtain⟨a5,c5,rfl⟩:=r5.form;rw[hALl.out]at r5 ⊢;clear HC5 hF4 b5
   go_wp2_with fail
   refine(pmul_any hF5 r5 r3 (by rw[hALl.out];omega) (by rw[<-hpn.out];omega)).mono ?_
   rintro e9 w6 ⟨v6,rfl,r6,b6⟩;have h6:=mulP_length_le AL P;rw[hALl.out,<-hpn.out]at h6;have HO:Hid (norm ((mulP AL P).drop m)=evaL s known t A):=by
    show _=_
    rw[hAL.out,HP.out,hm.out];exact eva_told HL.out.loc.fin
   obtain⟨Q,hQ⟩:∃Q,Hid (Q=mulP AL P):=⟨_,rfl⟩;rw[<-hQ.out]at r6 h6 HO;replace b1:=Below.next b1 b6;replace r5:=r5.below b6;clear hF5 r3 b6
   go_wp2_with fail
   refine(kfrom_any r6 Zo (m:=m) Zo rfl).mono ?_
   rintro e9 w7 ⟨v7,rfl,r7,b7,_⟩;rw[HO.out]at r7;replace b1:=Below.next b1 b7;replace r5:=r5.below b7;obtain⟨a7,c7,rfl⟩:=r7.form;have HF:Hid (KeyAns s known 0 AL (evaL s known t A)):=by
    rw[hAL.out];refine KeyAns.of_loc hB.out ?_
    rw[HE2.out];exact HL.out
   obtain⟨O,hO⟩:∃O,Hid (O=evaL s known t A):=⟨_,rfl⟩;rw[<-hO.out]at r7 HF ⊢;clear b7 r6;go_wp2
   go_ret3
   exact MakesK.mk HF.out r5 r7 b1
end Go.Proofs.YtddnfhfangfgeaaGreat.Gf
namespace Go.Proofs.YtddnfhfangfgeaaGreat.Gf
set_option linter.unusedVariables false
set_option linter.unusedSimpArgs false
def cnt(p:Nat->Bool):Nat->Nat
 |0=>0
 |n+1=>cnt p n+(if p n then 1 else 0)
theorem cnt_mono{p q:Nat->Bool}{n:Nat}(h:∀i,i<n->p i=true->q i=true):cnt p n<=cnt q n:=by
 induction n with
 |zero=>exact Nat.le_refl _
 |succ n ih=>
  have h1:=ih fun i hi=>h i Zo
  rw[cnt,cnt]
  by_cases e:p n=true
  ·rw[if_pos e,if_pos (h n Zo e)];omega
  ·rw[if_neg e];omega
theorem cnt_or(p q:Nat->Bool)(n:Nat):cnt (fun i=>p i||q i) n<=cnt p n+cnt q n:=by
 induction n with
 |zero=>exact Nat.le_refl _
 |succ n ih=>
  rw[cnt,cnt,cnt];cases p n<;>cases q n<;>simp<;>omega
theorem cnt_le(p:Nat->Bool)(n:Nat):cnt p n<=n:=by
 induction n with
 |zero=>exact Nat.le_refl _
 |succ n ih=>rw[cnt];split<;>omega
theorem cnt_congr{p q:Nat->Bool}{n:Nat}(h:∀i,i<n->p i=q i):cnt p n=cnt q n:=by
 induction n with
 |zero=>rfl
 |succ n ih=>rw[cnt,cnt,ih fun i hi=>h i Zo,h n Zo]
def plc(p:Nat->Bool)(n:Nat):List Nat:=(List.range n).filter p
theorem plc_succ(p:Nat->Bool)(n:Nat):plc p (n+1)=plc p n++(if p n then [n]else []):=by
 unfold plc;rw[List.range_succ,List.filter_append];congr 1;cases h:p n<;>simp[h]
theorem plc_length(p:Nat->Bool)(n:Nat):(plc p n).length=cnt p n:=by
 induction n with
 |zero=>rfl
 |succ n ih=>rw[plc_succ,cnt,List.length_append,ih];congr 1;split<;>rfl
theorem plc_mem{p:Nat->Bool}{n i:Nat}:i∈plc p n↔i<n/\p i=true:=by unfold plc;rw[List.mem_filter,List.mem_range]
theorem plc_nodup(p:Nat->Bool)(n:Nat):(plc p n).Nodup:=List.Nodup.sublist List.filter_sublist List.nodup_range
def prL(z:UInt8):List Nat->UInt8
 |[]=>1
 |i::I=>mu (z^^^pt i) (prL z I)
theorem prL_PF(I:List Nat):PF (I.length+1) (fun z=>prL z I):=by
 induction I with
 |nil=>exact PF.const 1
 |cons i I ih=>exact(ih.lin (pt i)).congr fun z=>rfl
theorem prL_zero{z:UInt8}{I:List Nat}:prL z I=0↔∃i,i∈I/\z=pt i:=by
 induction I with
 |nil=>exact⟨fun h=>absurd (show(1:UInt8)=0 from h) Zd,fun ⟨i,h,_⟩=>by simp at h⟩
 |cons a I ih=>
  rw[prL,mu_eq_zero,ih];constructor
  ·rintro(h|⟨i,h1,h2⟩)
   ·exact⟨a,Zs,x_eq_zero.1 h⟩
   ·exact⟨i,by simp[h1],h2⟩
  ·rintro⟨i,h1,h2⟩
   rcases List.mem_cons.1 h1 with e|e
   ·subst e;exact Or.inl (x_eq_zero.2 h2)
   ·exact Or.inr ⟨i,e,h2⟩
def CodeW(k m:Nat)(c:Nat->UInt8):Prop:=∀l,l<m->synF k m c l=0
theorem mds{k m:Nat}{c:Nat->UInt8}(h:k+m<=256)(hc:CodeW k m c)(hn:cnt (fun i=>decide (c i≠0)) (k+m)<=m):∀i,i<k+m->c i=0:=by
 intro j hj
 by_cases e:c j=0
 ·exact e
 ·exfalso;have hjI:j∈plc (fun i=>decide (c i≠0)) (k+m):=plc_mem.2 ⟨hj,decide_eq_true e⟩;obtain⟨I,hI⟩:∃I,I=(plc (fun i=>decide (c i≠0)) (k+m)).erase j:=⟨_,rfl⟩;have hlen:I.length+1<=m:=by
   rw[hI,List.length_erase_of_mem hjI,plc_length]
   have:0<(plc (fun i=>decide (c i≠0)) (k+m)).length:=List.length_pos_of_mem hjI
   rw[plc_length]at this;omega
  have hs:=syn_poly hc ((prL_PF I).mono' hlen);rw[S_one (k:=j) hj (fun i hi hne=>?_)]at hs
  ·rcases mu_eq_zero.1 hs with h1|h1
   ·rcases mu_eq_zero.1 h1 with h2|h2
    ·exact e h2
    ·exact wtF_ne h Zo h2
   ·obtain⟨i,h2,h3⟩:=prL_zero.1 h1;rw[hI]at h2;have h4:=List.Nodup.mem_erase_iff (plc_nodup (fun i=>decide (c i≠0)) (k+m)) (a:=i) (b:=j);obtain⟨h5,h6⟩:=h4.1 h2;have:=(plc_mem.1 h6).1;exact h5 (pt_inj Zo Zo h3).symm
  ·show mu (mu (c i) (wtF k m i)) (prL (pt i) I)=0
   by_cases ei:c i=0
   ·rw[ei,zero_mu,zero_mu]
   ·rw[prL_zero.2 ⟨i,?_,rfl⟩,mu_zero];rw[hI];exact(List.Nodup.mem_erase_iff (plc_nodup _ _)).2 ⟨hne,plc_mem.2 ⟨hi,decide_eq_true ei⟩⟩
theorem CodeW.add{k m:Nat}{c d:Nat->UInt8}(hc:CodeW k m c)(hd:CodeW k m d):CodeW k m (fun i=>c i^^^d i):=fun l hl=>by
 rw[synF_add (fun i _=>rfl),hc l hl,hd l hl];rfl
theorem CodeW.congr{k m:Nat}{c d:Nat->UInt8}(hc:CodeW k m c)(h:∀i,i<k+m->d i=c i):CodeW k m d:=fun l hl=>by
 rw[synF_congr h];exact hc l hl
def wrg(z c:Nat->UInt8)(ms:Nat->Bool)(i:Nat):Bool:= !ms i&&decide (c i≠z i)
structure Near(k m:Nat)(z:Nat->UInt8)(ms:Nat->Bool)(c:Nat->UInt8):Prop where
 code:CodeW k m c
 few:2*cnt (wrg z c ms) (k+m)+cnt ms (k+m)<=m
theorem Near.unique{k m:Nat}{z c d:Nat->UInt8}{ms:Nat->Bool}(h:k+m<=256)(hc:Near k m z ms c)(hd:Near k m z ms d):∀i,i<k+m->c i=d i:=by
 have key:=mds h (hc.code.add hd.code) (by
  have h1:cnt (fun i=>decide (c i^^^d i≠0)) (k+m)<=cnt (fun i=>(ms i||wrg z c ms i)||wrg z d ms i) (k+m):=cnt_mono fun i hi hne=>by
   have hne':c i≠d i:=fun e=>(of_decide_eq_true hne) (x_eq_zero.2 e)
   cases em:ms i
   ·by_cases e1:c i=z i
    ·have e2:d i≠z i:=fun e=>hne' (e1.trans e.symm)
     simp[wrg,em,e2]
    ·simp[wrg,em,e1]
   ·simp
  have h2:=cnt_or (fun i=>ms i||wrg z c ms i) (wrg z d ms) (k+m);have h3:=cnt_or ms (wrg z c ms) (k+m);have h4:=hc.few;have h5:=hd.few;omega)
 intro i hi;exact x_eq_zero.1 (key i hi)
structure Inc(n t:Nat)(g:Nat->Nat):Prop where
 up:∀i j,i<j->j<t->g i<g j
 lt:∀i,i<t->g i<n
theorem Inc.gap{n t:Nat}{g:Nat->Nat}(h:Inc n t g){i:Nat}(d:Nat)(hd:i+d<t):g i+d<=g (i+d):=by
 induction d with
 |zero=>exact Nat.le_refl _
 |succ d ih=>
  have h1:=ih Zo;have h2:=h.up (i+d) (i+(d+1)) Zo hd;omega
theorem Inc.max{n t:Nat}{g:Nat->Nat}(h:Inc n t g){i:Nat}(hi:i<t):g i+t<=n+i:=by
 have h1:=h.gap (i:=i) (t-1-i) Zo;have h2:=h.lt (i+(t-1-i)) Zo;omega
theorem Inc.min{n t:Nat}{g:Nat->Nat}(h:Inc n t g){i:Nat}(hi:i<t):i<=g i:=by
 have h1:=h.gap (i:=0) i Zo;rw[Nat.zero_add]at h1;omega
def Lx(t:Nat)(g h:Nat->Nat):Prop:=∃i,i<t/\(∀j,j<i->g j=h j)/\g i<h i
def Eqs(t:Nat)(g h:Nat->Nat):Prop:=∀j,j<t->g j=h j
theorem lx_total(t:Nat)(g h:Nat->Nat):Lx t g h∨Eqs t g h∨Lx t h g:=by
 induction t with
 |zero=>exact Or.inr (Or.inl fun j hj=>Zo)
 |succ t ih=>
  rcases ih with⟨i,h1,h2,h3⟩|e|⟨i,h1,h2,h3⟩
  ·exact Or.inl ⟨i,Zo,h2,h3⟩
  ·rcases Nat.lt_trichotomy (g t) (h t)with a|a|a
   ·exact Or.inl ⟨t,Zo,fun j hj=>e j hj,a⟩
   ·refine Or.inr (Or.inl fun j hj=>?_)
    by_cases ej:j=t
    ·rw[ej];exact a
    ·exact e j Zo
   ·exact Or.inr (Or.inr ⟨t,Zo,fun j hj=>(e j hj).symm,a⟩)
  ·exact Or.inr (Or.inr ⟨i,Zo,h2,h3⟩)
theorem Lx.asymm{t:Nat}{g h:Nat->Nat}(a:Lx t g h)(b:Lx t h g):False:=by
 obtain⟨i,h1,h2,h3⟩:=a;obtain⟨j,k1,k2,k3⟩:=b
 rcases Nat.lt_trichotomy i j with e|e|e
 ·have:=k2 i e;omega
 ·subst e;omega
 ·have:=h2 j e;omega
theorem Lx.not_eq{t:Nat}{g h:Nat->Nat}(a:Lx t g h)(b:Eqs t g h):False:=by
 obtain⟨i,h1,h2,h3⟩:=a;have:=b i h1;omega
def nxF(g:Nat->Nat)(i j:Nat):Nat:=if j<i then g j else g i+1+(j-i)
theorem nx_inc{n t i:Nat}{g:Nat->Nat}(h:Inc n t g)(hi:i<t)(hl:g i+t<n+i):Inc n t (nxF g i):=by
 refine⟨fun a b hab hb=>?_,fun a ha=>?_⟩
 ·unfold nxF
  by_cases h1:b<i
  ·rw[if_pos h1,if_pos Zo];exact h.up a b hab hb
  ·rw[if_neg h1]
   by_cases h2:a<i
   ·rw[if_pos h2];have:=h.up a i h2 hi;omega
   ·rw[if_neg h2];omega
 ·unfold nxF
  by_cases h1:a<i
  ·rw[if_pos h1];exact h.lt a ha
  ·rw[if_neg h1];omega
theorem nx_lx{t i:Nat}{g:Nat->Nat}(hi:i<t):Lx t g (nxF g i):=
 ⟨i,hi,fun j hj=>by unfold nxF;rw[if_pos hj],by unfold nxF;rw[if_neg Zo];omega⟩
theorem nx_next{n t i:Nat}{g T:Nat->Nat}(hi:i<t)(hm:∀j,i<j->j<t->g j+t=n+j)(hT:Inc n t T)(h:Lx t g T):Eqs t (nxF g i) T∨Lx t (nxF g i) T:=by
 obtain⟨p,h1,h2,h3⟩:=h;have hpi:p<=i:=by
  rcases Nat.lt_or_ge i p with e|e
  ·have:=hm p e h1;have:=hT.max h1;omega
  ·exact e
 rcases Nat.lt_or_ge p i with e|e
 ·exact Or.inr ⟨p,h1,fun j hj=>by unfold nxF;rw[if_pos Zo];exact h2 j hj,by unfold nxF;rw[if_pos e];exact h3⟩
 ·obtain rfl:p=i:=by omega
  have low:∀j,j<p->nxF g p j=T j:=fun j hj=>by unfold nxF;rw[if_pos hj];exact h2 j hj
  rcases lx_total t (nxF g p) T with a|a|⟨q,k1,k2,k3⟩
  ·exact Or.inr a
  ·exact Or.inl a
  ·exfalso
   rcases Nat.lt_or_ge q p with e2|e2
   ·have:=low q e2;omega
   ·have h5:=hT.gap (i:=p) (q-p) Zo;rw[show p+(q-p)=q by omega]at h5;unfold nxF at k3;rw[if_neg Zo]at k3;omega
theorem nx_last{n t:Nat}{g T:Nat->Nat}(hm:∀j,j<t->g j+t=n+j)(hT:Inc n t T):¬Lx t g T:=by
 rintro⟨p,h1,h2,h3⟩;have:=hm p h1;have:=hT.max h1;omega
theorem nx_first{n t:Nat}{T:Nat->Nat}(hT:Inc n t T):¬Lx t T (fun j=>j):=by
 rintro⟨p,h1,h2,h3⟩;have h4:T p<p:=h3;have:=hT.min h1;omega
theorem first_inc{n t:Nat}(h:t<=n):Inc n t (fun j=>j):=⟨fun i j h1 _=>h1,fun i hi=>by show i<n;omega⟩
theorem tried_next{n t i:Nat}{g:Nat->Nat}{Bad:(Nat->Nat)->Prop}(hi:i<t)(hm:∀j,i<j->j<t->g j+t=n+j)(hc:∀a b,Eqs t a b->Bad a->Bad b)(h:∀T,Inc n t T->Lx t T g->Bad T)(hg:Bad g):∀T,Inc n t T->Lx t T (nxF g i)->Bad T:=by
 intro T hT hl
 rcases lx_total t T g with a|a|a
 ·exact h T hT a
 ·exact hc g T (fun j hj=>(a j hj).symm) hg
 ·rcases nx_next hi hm hT a with b|b
  ·exact absurd (fun j hj=>(b j hj).symm) (fun c=>hl.not_eq c)
  ·exact absurd hl (fun c=>c.asymm b)
theorem tried_all{n t:Nat}{g:Nat->Nat}{Bad:(Nat->Nat)->Prop}(hm:∀j,j<t->g j+t=n+j)(hc:∀a b,Eqs t a b->Bad a->Bad b)(h:∀T,Inc n t T->Lx t T g->Bad T)(hg:Bad g):∀T,Inc n t T->Bad T:=by
 intro T hT
 rcases lx_total t T g with a|a|a
 ·exact h T hT a
 ·exact hc g T (fun j hj=>(a j hj).symm) hg
 ·exact absurd a (nx_last hm hT)
def rkF(n:Nat)(g:Nat->Nat):Nat->Nat
 |0=>0
 |t+1=>rkF n g t*(n+1)+g t
theorem rk_lt{n t:Nat}{g:Nat->Nat}(h:∀i,i<t->g i<=n):rkF n g t<(n+1)^t:=by
 induction t with
 |zero=>exact Nat.one_pos
 |succ t ih=>
  have h1:=ih fun i hi=>h i Zo
  have h2:=h t Zo;rw[rkF,Nat.pow_succ];have h3:(rkF n g t+1)*(n+1)<=(n+1)^t*(n+1):=Nat.mul_le_mul_right _ h1;rw[Nat.add_mul,Nat.one_mul]at h3;omega
theorem rk_lx{n t:Nat}{g h:Nat->Nat}(hg:∀i,i<t->g i<=n)(hl:Lx t g h):rkF n g t<rkF n h t:=by
 induction t with
 |zero=>obtain⟨i,h1,_⟩:=hl;omega
 |succ t ih=>
  obtain⟨i,h1,h2,h3⟩:=hl;rw[rkF,rkF]
  by_cases e:i=t
  ·subst e
   have:rkF n g i=rkF n h i:=by
    have key:∀s,s<=i->rkF n g s=rkF n h s:=fun s=>by
     induction s with
     |zero=>intro _;rfl
     |succ s ihs=>intro hs;rw[rkF,rkF,ihs Zo,h2 s Zo]
    exact key i (Nat.le_refl _)
   rw[this];omega
  ·have h4:=ih (fun j hj=>hg j Zo) ⟨i,Zo,h2,h3⟩;have h5:=hg t Zo;have h6:(rkF n g t+1)*(n+1)<=rkF n h t*(n+1):=Nat.mul_le_mul_right _ h4;rw[Nat.add_mul,Nat.one_mul]at h6;omega
theorem gj_col10{n c:Nat}{A L R:Mx}(h:GJ n A L R c)(hc:c<n)(hp:L c c≠0)(s:Nat)(hs:s<=n):∃L' R',GJ n A L' R' c/\L' c c≠0/\∀i,i<s->i≠c->L' i c=0:=by
 induction s with
 |zero=>exact⟨L,R,h,hp,fun i hi=>Zo⟩
 |succ s ih=>
  obtain⟨L',R',h1,h2,h3⟩:=ih Zo
  by_cases e:s=c
  ·exact⟨L',R',h1,h2,fun i hi hne=>h3 i Zo hne⟩
  ·refine⟨_,_,h1.clear (x:=mu (L' s c) (iv (L' c c))) (r:=s) Zo hc e,?_,fun i hi hne=>?_⟩
   ·show(if c=s then _ else L' c c)≠0
    rw[if_neg (fun q=>e q.symm)];exact h2
   ·show(if i=s then L' i c^^^mu (mu (L' s c) (iv (L' c c))) (L' c c)else L' i c)=0
    by_cases ei:i=s
    ·subst ei;rw[if_pos rfl,mu_assoc,mu_comm (iv _),mu_iv h2,mu_one,x_self]
    ·rw[if_neg ei];exact h3 i Zo hne
theorem inv_or_sing(n:Nat)(A:Mx):(∃V,IsInv n A V)∨IsSing n A:=by
 have key:∀c,c<=n->(∃L R,GJ n A L R c)∨IsSing n A:=by
  intro c
  induction c with
  |zero=>intro _;exact Or.inl ⟨_,_,GJ.start n A⟩
  |succ c ih=>
   intro hc
   rcases ih Zowith⟨L,R,h⟩|h
   ·by_cases hz:∀i,c<=i->i<n->L i c=0
    ·exact Or.inr (h.sing Zo hz)
    ·obtain⟨p,h1,h2,h3⟩:∃p,c<=p/\p<n/\L p c≠0:=by
      refine Classical.byContradiction fun q=>hz fun i hi hn=>Classical.byContradiction fun q2=>q ⟨i,hi,hn,q2⟩
     have e:sw p c c=p:=by unfold sw;split<;>simp_all
     obtain⟨L',R',g1,g2,g3⟩:=gj_col10 (h.swap h1 h2) Zo (by show L (sw p c c) c≠0;rw[e];exact h3) n (Nat.le_refl _);exact Or.inl ⟨L',R',g1.next (fun i hi hne=>g3 i hi hne) g2⟩
   ·exact Or.inr h
 rcases key n (Nat.le_refl _)with⟨L,R,h⟩|h
 ·exact Or.inl ⟨_,h.finish⟩
 ·exact Or.inr h
theorem there_inv{k m:Nat}{h:List Bool}(h2:k+m<=256)(hl:h.length=k+m)(hk:k<=(thr h h.length).length):IsInv k (rowsF k (pl7 h)) (invF k (pl7 h)):=by
 rcases inv_or_sing k (rowsF k (pl7 h))with e|e
 ·exact invF_is e
 ·exact absurd e (gen_rows (N:=k+m) h2 Zo (pl7 h) (fun i hi=>by have:=(pl7_in (h:=h) (i:=i) Zo).1;omega) (fun i j hi hj hij e=>hij (pl7_inj Zo Zo e)))
noncomputable def tryL(k m:Nat)(hs:List Bool)(z:List UInt8):List UInt8:=lineL (encL m k (parF k) (decD k (invF k (pl7 hs)) (pl7 hs) (colL z)))
theorem try_col{k m:Nat}{hs:List Bool}{z:List UInt8}{V:Mx}(h1:1<=k)(hl:hs.length=k+m)(hz:z.length=k+m)(hk:k<=(thr hs hs.length).length):decD k V (pl7 hs) (colL z)=colL (upto (fun j=>dwd V (pl7 hs) (colL z) j k 0) k):=by
 have hp:=(pl7_in (h:=hs) (i:=0) Zo).1;have hr:(ro (colL z) (pl7 hs 0)).length=1:=by rw[colL_row Zo];rfl
 have hu:(upto (fun j=>dwd V (pl7 hs) (colL z) j k 0) k).length=k:=upto_length _ _;refine L_ext (by rw[decD_length,colL_length,hu]) (fun i hi=>?_) fun i n hi hn=>?_
 ·rw[decD_length]at hi;rw[decD_row hi,hr,colL_row Zo];rfl
 ·rw[decD_length]at hi;rw[decD_row hi,hr]at hn;obtain rfl:n=0:=by omega
  rw[decD_co hi Zo,colL_row Zo,co_upto_in hi];rfl
theorem try_len{k m:Nat}{hs:List Bool}{z:List UInt8}(h1:1<=k)(hl:hs.length=k+m)(hz:z.length=k+m)(hk:k<=(thr hs hs.length).length):(tryL k m hs z).length=k+m:=by
 unfold tryL;rw[try_col h1 hl hz hk];exact line_len (upto_length _ _)
theorem try_code{k m:Nat}{hs:List Bool}{z:List UInt8}(h1:1<=k)(h2:k+m<=256)(hl:hs.length=k+m)(hz:z.length=k+m)(hk:k<=(thr hs hs.length).length):CodeW k m (co (tryL k m hs z)):=by
 unfold tryL;rw[try_col h1 hl hz hk];have h:=of_decide_eq_true (line_nought (m:=m) h1 h2 (upto_length (fun j=>dwd (invF k (pl7 hs)) (pl7 hs) (colL z) j k 0) k));intro l hlm;have e:=h l (by rw[upto_length];exact hlm);rwa[co_upto_in hlm]at e
theorem enc_code{k m:Nat}{c:Nat->UInt8}(h1:1<=k)(h2:k+m<=256)(hc:CodeW k m c){i:Nat}(hi:i<k+m):co (ro (encL m k (parF k) (colL (upto c k))) i) 0=c i:=by
 have hu:(upto c k).length=k:=upto_length _ _
 by_cases e:i<k
 ·rw[encC_data hu e,co_upto_in e]
 ·obtain⟨j,rfl⟩:∃j,i=k+j:=⟨i-k,Zo⟩;rw[encC_par hu h1 Zo,syn_par h2 hc Zo];exact S_congr fun l hlk=>by rw[co_upto_in hlk]
theorem try_is{k m:Nat}{hs:List Bool}{z:List UInt8}{c:Nat->UInt8}(h1:1<=k)(h2:k+m<=256)(hl:hs.length=k+m)(hz:z.length=k+m)(hk:k<=(thr hs hs.length).length)(hc:CodeW k m c)(h:∀i,hb hs i=true->c i=co z i){i:Nat}(hi:i<k+m):co (tryL k m hs z) i=c i:=by
 have hu:(upto c k).length=k:=upto_length _ _;have hp:∀i,i<k->pl7 hs i<k+m:=fun i hi=>by have:=(pl7_in (h:=hs) (i:=i) Zo).1;omega
 have e:decD k (invF k (pl7 hs)) (pl7 hs) (colL z)=colL (upto c k):=by
  refine dec_back (m:=m) h1 (there_inv h2 hl hk) hp (by rw[colL_length,hu]) (colL_even _) fun i hi=>?_
  have hb1:=(pl7_in (h:=hs) (i:=i) Zo).2;have hpi:=hp i hi;rw[colL_row Zo];refine co_ext (by rw[encC_len hu h1 hpi];rfl) fun n hn=>?_
  obtain rfl:n=0:=by simp at hn;exact hn
  rw[enc_code h1 h2 hc hpi,h _ hb1];rfl
 unfold tryL lineL;rw[e,co_upto_in (by rw[encL_length,colL_length,hu];exact hi)];exact enc_code h1 h2 hc hi
theorem thr_cnt(h:List Bool)(n:Nat):(thr h n).length=cnt (hb h) n:=by
 induction n with
 |zero=>rfl
 |succ n ih=>
  rw[cnt];cases e:hb h n
  ·rw[thr_no e,ih];simp
  ·rw[thr_yes e,List.length_append,ih];simp
theorem cnt_not(p:Nat->Bool)(n:Nat):cnt (fun i=> !p i) n+cnt p n=n:=by
 induction n with
 |zero=>rfl
 |succ n ih=>rw[cnt,cnt];cases p n<;>simp<;>omega
theorem cnt_one(a n:Nat):cnt (fun i=>decide (i=a)) n<=(if a<n then 1 else 0):=by
 induction n with
 |zero=>exact Nat.zero_le _
 |succ n ih=>
  rw[cnt]
  by_cases e:n=a
  ·subst e;rw[if_neg (Nat.lt_irrefl _)]at ih;rw[if_pos (Nat.lt_succ_self _),if_pos (decide_eq_true rfl)];omega
  ·rw[if_neg (by simp[e])]
   by_cases h:a<n
   ·rw[if_pos h]at ih;rw[if_pos Zo];exact ih
   ·rw[if_neg h]at ih;omega
theorem cnt_in(T:List Nat)(n:Nat):cnt (fun i=>decide (i∈T)) n<=T.length:=by
 induction T with
 |nil=>
  have h:=cnt_mono (p:=fun i=>decide (i∈([]:List Nat))) (q:=fun i=>decide (i=n)) (n:=n) (fun i hi h=>by simp at h);have h2:=cnt_one n n;rw[if_neg Zo]at h2;simp at h ⊢;omega
 |cons a T ih=>
  have h1:=cnt_mono (p:=fun i=>decide (i∈a::T)) (q:=fun i=>decide (i=a)||decide (i∈T)) (n:=n) (fun i hi h=>by simpa using h);have h2:=cnt_or (fun i=>decide (i=a)) (fun i=>decide (i∈T)) n;have h3:=cnt_one a n;have h4:(if a<n then 1 else 0)<=1:=by split<;>omega
  rw[List.length_cons];omega
def wth(ms:List Bool)(T:List Nat):List Bool:=(List.range ms.length).map (fun i=> !hb ms i&& !decide (i∈T))
theorem wth_length(ms:List Bool)(T:List Nat):(wth ms T).length=ms.length:=by simp[wth]
theorem wth_hb{ms:List Bool}{T:List Nat}{i:Nat}(hi:i<ms.length):hb (wth ms T) i=(!hb ms i&& !decide (i∈T)):=by
 unfold wth;rw[hb,List.getD];simp[hi]
theorem wth_there{ms:List Bool}{T:List Nat}{k m:Nat}(hl:ms.length=k+m)(h:T.length+cnt (hb ms) (k+m)<=m):k<=(thr (wth ms T) (wth ms T).length).length:=by
 rw[thr_cnt,wth_length,hl,cnt_congr (q:=fun i=> !(hb ms i||decide (i∈T))) (fun i hi=>by rw[wth_hb Zo];simp)];have h1:=cnt_not (fun i=>hb ms i||decide (i∈T)) (k+m);have h2:=cnt_or (hb ms) (fun i=>decide (i∈T)) (k+m);have h3:=cnt_in T (k+m);omega
theorem try_near{k m:Nat}{ms:List Bool}{z:List UInt8}{T:List Nat}(h1:1<=k)(h2:k+m<=256)(hl:ms.length=k+m)(hz:z.length=k+m)(ht:2*T.length+cnt (hb ms) (k+m)<=m)
  (hd:cnt (wrg (co z) (co (tryL k m (wth ms T) z)) (hb ms)) (k+m)<=T.length):Near k m (co z) (hb ms) (co (tryL k m (wth ms T) z)):=
 ⟨try_code h1 h2 (by rw[wth_length];exact hl) hz (wth_there hl Zo),Zo⟩
theorem try_finds{k m:Nat}{ms:List Bool}{z:List UInt8}{T:List Nat}{c:Nat->UInt8}(h1:1<=k)(h2:k+m<=256)(hl:ms.length=k+m)(hz:z.length=k+m)(ht:T.length+cnt (hb ms) (k+m)<=m)
  (hc:CodeW k m c) (hT:∀i,i<k+m->wrg (co z) c (hb ms) i=true->i∈T) {i:Nat} (hi:i<k+m):co (tryL k m (wth ms T) z) i=c i:=by
 refine try_is h1 h2 (by rw[wth_length];exact hl) hz (wth_there hl ht) hc (fun j hj=>?_) hi;have hjl:=hb_lt hj;rw[wth_length]at hjl;rw[wth_hb hjl]at hj;simp at hj;refine Classical.byContradiction fun q=>hj.2 (hT j Zo ?_)
 simp[wrg,hj.1,q]
theorem plc_inc(p:Nat->Bool)(n:Nat):Inc n (cnt p n) (fun i=>(plc p n).getD i 0):=by
 have hs:(plc p n).Pairwise (·<·):=List.Pairwise.filter _ List.pairwise_lt_range;refine⟨fun i j hij hj=>?_,fun i hi=>?_⟩
 ·rw[<-plc_length]at hj;have:=List.pairwise_iff_getElem.1 hs i j Zo hj hij;simpa[List.getD,hj,show i<(plc p n).length by omega]using this
 ·rw[<-plc_length]at hi;have:=plc_mem.1 (List.getElem_mem hi);simpa[List.getD,hi]using this.1
def stL(g:Nat->Nat)(t:Nat):List Nat:=(List.range t).map g
theorem stL_length(g:Nat->Nat)(t:Nat):(stL g t).length=t:=by simp[stL]
theorem stL_eqs{g h:Nat->Nat}{t:Nat}(e:Eqs t g h):stL g t=stL h t:=List.map_congr_left fun i hi=>e i (List.mem_range.1 hi)
theorem stL_plc(p:Nat->Bool)(n:Nat):stL (fun i=>(plc p n).getD i 0) (cnt p n)=plc p n:=by
 refine List.ext_getElem (by rw[stL_length,plc_length]) fun i h1 h2=>?_
 simp[stL,List.getD,h2]
def Vain(k m:Nat)(z:List UInt8)(ms:List Bool)(t:Nat)(g:Nat->Nat):Prop:=t<cnt (wrg (co z) (co (tryL k m (wth ms (stL g t)) z)) (hb ms)) (k+m)
theorem Vain.congr{k m:Nat}{z:List UInt8}{ms:List Bool}{t:Nat}{a b:Nat->Nat}(e:Eqs t a b)(h:Vain k m z ms t a):Vain k m z ms t b:=by
 unfold Vain at h ⊢;rwa[<-stL_eqs e]
theorem vain_none{k m:Nat}{z:List UInt8}{ms:List Bool}(h1:1<=k)(h2:k+m<=256)(hl:ms.length=k+m)(hz:z.length=k+m)
  (h:∀t g,2*t+cnt (hb ms) (k+m)<=m->Inc (k+m) t g->Vain k m z ms t g):¬∃c,Near k m (co z) (hb ms) c:=by
 rintro⟨c,hc⟩;have hf:=hc.few;have v:=h (cnt (wrg (co z) c (hb ms)) (k+m)) _ hf (plc_inc _ _);unfold Vain at v;rw[stL_plc]at v;have e:∀i,i<k+m->co (tryL k m (wth ms (plc (wrg (co z) c (hb ms)) (k+m))) z) i=c i:=fun i hi=>
  try_finds h1 h2 hl hz (by rw[plc_length];omega) hc.code (fun j hj hw=>plc_mem.2 ⟨hj,hw⟩) hi
 have e2:cnt (wrg (co z) (co (tryL k m (wth ms (plc (wrg (co z) c (hb ms)) (k+m))) z)) (hb ms)) (k+m)=cnt (wrg (co z) c (hb ms)) (k+m):=cnt_congr fun i hi=>by
  show(!hb ms i&&decide (_≠co z i))=(!hb ms i&&decide (c i≠co z i))
  rw[e i hi]
 rw[e2]at v;exact Nat.lt_irrefl _ v
open Go.RowKit
def OwnB(w:World)(base e:Nat)(v:Value)(bs:List Bool):Prop:=w.ownsRow base e 1 v bs.length (bs.map Value.bool)
theorem OwnB.form{w:World}{base e:Nat}{v:Value}{bs:List Bool}(h:OwnB w base e v bs):∃a c,v= .slice a bs.length c:=owns_form h
theorem OwnB.nil(w:World)(base e:Nat):OwnB w base e (.slice none 0 0) []:=World.ownsRow_nil _ _ _ _
theorem OwnB.somewhere{w:World}{base e:Nat}{v:Value}{bs:List Bool}(h:OwnB w base e v bs)(h0:bs≠[]):∃g c,v= .slice (some ⟨g,0,none⟩) bs.length c/\bs.length<=c/\c<=maxLen/\base<=g/\g<w.heap.size:=by
 have h':=h;obtain⟨_,⟨e,hn⟩|⟨g,cap,cur,e,hg,hh,hc,hm,hs,ht⟩⟩:=h
 ·exact absurd (List.length_eq_zero_iff.1 hn) h0
 ·subst e;have:=World.ownsRow.lt h' g rfl;exact⟨g,cap,rfl,hc,hm,this.1,this.2⟩
theorem OwnB.get{w:World}{base e g n c:Nat}{bs:List Bool}(h:OwnB w base e (.slice (some ⟨g,0,none⟩) n c) bs){i:Nat}(hi:i<bs.length):w.cell? ⟨g,i,none⟩=some (.bool (hb bs i)):=by
 obtain⟨a,c',e⟩:=h.form;simp at e;obtain⟨_,rfl,_⟩:=e;rw[World.ownsRow.cellAt h i Zo,List.getElem?_map,List.getElem?_eq_getElem hi];simp[hb,List.getD,hi]
theorem OwnB.free{w:World}{base e g n c:Nat}{bs:List Bool}(h:OwnB w base e (.slice (some ⟨g,0,none⟩) n c) bs)(i:Nat):w.frozen? ⟨g,i,none⟩=false:=by
 obtain⟨a,c',e⟩:=h.form;simp at e;obtain⟨_,rfl,_⟩:=e;exact World.ownsRow.frozenAt h i
theorem OwnB.store{w:World}{base e g n c:Nat}{bs:List Bool}(h:OwnB w base e (.slice (some ⟨g,0,none⟩) n c) bs)(i:Nat)(x:Bool):OwnB (w.setCell ⟨g,i,none⟩ (.bool x)) base e (.slice (some ⟨g,0,none⟩) n c) (bs.set i x):=by
 obtain⟨a,c',e⟩:=h.form;simp at e;obtain⟨_,rfl,_⟩:=e;have:=(World.ownsRow.stored h i (.bool x)).1;unfold OwnB;rw[List.length_set,List.map_set];exact this
theorem OwnB.rdB{w:World}{base e:Nat}{v:Value}{bs:List Bool}(h:OwnB w base e v bs):RdB w v bs:=by
 by_cases h0:bs=[]
 ·subst h0;obtain⟨_,⟨e,hn⟩|⟨g,cap,cur,e,hg,hh,hc,hm,hs,ht⟩⟩:=h
  ·subst e;exact rdB_none
  ·subst e;exact⟨_,cap,rfl,hc,hm,nofun,fun i hi=>by simp at hi⟩
 ·obtain⟨g,c,rfl,h1,h2,h3,h4⟩:=h.somewhere h0;exact⟨_,c,rfl,h1,h2,nofun,fun i hi=>⟨g,0,rfl,h4,by rw[Nat.zero_add];exact h.get hi⟩⟩
theorem wpList_append_bool{P:Program}{wr:World}{ops:Array Oper}{rest:List Oper}{o:Oper}{a:Act}{Q:Exit->Act->World->Prop}(hgd:o.guard=none)(s xo:Operand)(t:TypeId)
  (ho:o.op= .call {callee:=.builtin .append,args:=#[s,xo],argTypes:=#[t,t]})
  (base e:Nat) (i:TypeInfo) (ht:P.underlying t=some (.slice e)) (hi:P.info? e=some i) (hz:i.zero=some (.bool false)) (hsize:i.size=1) (hby:i.bytes=1)
  (v:Value) (bs:List Bool) (hs:a.eval s=v) (hO:OwnB wr base e v bs) (z:Bool) (et c:Nat) (hxo:a.eval xo= .slice (some ⟨wr.heap.size,0,none⟩) 1 c) (hl:bs.length<=100000) (hbase:base<=wr.heap.size)
  (h:∀v' w2,OwnB w2 base e v' (bs++[z])->Below base wr w2->wpList P ops Q rest (a.put o.dst v') w2):wpList P ops Q (o::rest) a (wr.alloc (.cells #[.bool z] et)):=by
 refine wpList_plain hgd fun K hK=>?_
 obtain⟨v',w',hrun,h2,h3,_,h5⟩:=run_append_own_at (P:=P) (wr.alloc (.cells #[.bool z] et)) base t o.type e i (.bool false) 1 1 ht hi hz hsize hby rfl Zd v bs.length (bs.map Value.bool) (World.ownsRow.alloc hO _) ⟨wr.heap.size,0,none⟩ 1 c [.bool z] rfl (by intro j y hj;rw[add_at,Nat.zero_add];rcases j with _|j<;>simp at hj;subst hj;simp) (by intro y hy;simp at hy;rw[hy];rfl) Zl Zo Zm;unfold Oper.wp execOp;simp only[ho,resolve,invoke,builtin,Sem.run_bind,Sem.run_pure,Result.andThen_ok,List.map_toArray,List.map_cons,List.map_nil,hs,hxo,hrun];refine hK _ _ (h v' w' ?_ ?_)
 ·unfold OwnB;rw[List.length_append,List.map_append];exact h2
 ·exact((Below.refl base wr).alloc hbase _).grown h3 Zm (fun q hq=>(World.ownsRow.lt hO q hq).1)
theorem OwnI.free{w:World}{base e g n c:Nat}{zs:List Nat}(h:OwnI w base e (.slice (some ⟨g,0,none⟩) n c) zs)(i:Nat):w.frozen? ⟨g,i,none⟩=false:=by
 obtain⟨a,c',e⟩:=h.form;simp at e;obtain⟨_,rfl,_⟩:=e;exact World.ownsRow.frozenAt h i
theorem OwnI.store{w:World}{base e g n c:Nat}{zs:List Nat}(h:OwnI w base e (.slice (some ⟨g,0,none⟩) n c) zs)(i x:Nat):OwnI (w.setCell ⟨g,i,none⟩ (.int .i64 (x:Int))) base e (.slice (some ⟨g,0,none⟩) n c) (zs.set i x):=by
 obtain⟨a,c',e⟩:=h.form;simp at e;obtain⟨_,rfl,_⟩:=e;have:=(World.ownsRow.stored h i (.int .i64 (x:Int))).1;unfold OwnI;rw[List.length_set,List.map_set];exact this
theorem OwnI.later{w w':World}{base e:Nat}{v:Value}{zs:List Nat}(h:OwnI w base e v zs)(hb:Below w.heap.size w w'):OwnI w' base e v zs:=owns_later h hb
theorem OwnB.later{w w':World}{base e:Nat}{v:Value}{bs:List Bool}(h:OwnB w base e v bs)(hb:Below w.heap.size w w'):OwnB w' base e v bs:=owns_later h hb
theorem stL_getD{g:Nat->Nat}{t i:Nat}(hi:i<t):(stL g t).getD i 0=g i:=by simp[stL,List.getD,hi]
theorem stL_succ(g:Nat->Nat)(t:Nat):stL g (t+1)=stL g t++[g t]:=by simp[stL,List.range_succ]
theorem stL_set{g g':Nat->Nat}{t j x:Nat}(hj:j<t)(h:∀i,i<t->g' i=if i=j then x else g i):(stL g t).set j x=stL g' t:=by
 refine List.ext_getElem (by simp[stL]) fun i h1 h2=>?_
 rw[stL_length]at h2;rw[List.getElem_set];simp only[stL,List.getElem_map,List.getElem_range];rw[h i h2]
 by_cases e:j=i
 ·rw[if_pos e,if_pos e.symm]
 ·rw[if_neg e,if_neg fun q=>e q.symm]
theorem rcnt_any{va:Value}{h:List Bool}{w:World}(hH:RdB w va h):Calls Tryz.prog 180 #[va] w fun e w'=>e= .returned (.int .i64 ((cnt (hb h) h.length:Nat):Int))/\w'=w:=by
 obtain⟨a,c,rfl⟩:=hH.form;have hl:=hH.len;unfold maxLen at hl
 go_enter Tryz.func180,Tryz.ntmps180
 go_wp2
 go_loop [3,4] (fun x i=>∃k:Nat,k<=h.length/\i= .int .i64 k/\x= .int .i64 ((cnt (hb h) k:Nat):Int)) (fun _ i=>h.length-(intOf i).toNat)
 case atStart=>exact⟨0,Zo,rfl,rfl⟩
 case round=>
  obtain⟨k,hk,rfl,rfl⟩:=hrel;have hq:=cnt_le (hb h) k
  by_cases hlt:k<h.length
  ·obtain⟨b,off,rfl,_,c1⟩:=hH.at hlt;have hlt':(k:Int)<(h.length:Int):=by omega
   cases e:hb h k with
   |false=>
    rw[e]at c1;have E:Hid (cnt (hb h) (k+1)=cnt (hb h) k):=by show _=_;rw[cnt,e];rfl
    clear hH e;go_wp2
    go_round
    case rel=>exact⟨k+1,Zo,Zg,by rw[E.out]⟩
    case measure=>simp[intOf];omega
   |true=>
    rw[e]at c1;have E:Hid (cnt (hb h) (k+1)=cnt (hb h) k+1):=by show _=_;rw[cnt,e];rfl
    have gw:IntKind.i64.wrap (((cnt (hb h) k:Nat):Int)+1)=((cnt (hb h) k:Nat):Int)+1:=Zw
    clear hH e;go_wp2
    go_round
    case rel=>exact⟨k+1,Zo,Zg,by rw[E.out];go_num⟩
    case measure=>simp[intOf];omega
  ·have e:k=h.length:=by omega
   subst e;have hge:¬(h.length:Int)<(h.length:Int):=Zo
   clear hH;go_wp2;go_ret;exact⟨rfl,rfl⟩
theorem rdif_any{va vb vm:Value}{p q:List UInt8}{ms:List Bool}{w:World}(hp:Rd w va p)(hq:Rd w vb q)(hm:RdB w vm ms)(hl:q.length=p.length)(hl2:ms.length=p.length)(hl3:p.length<=300):
  Calls Tryz.prog 214 #[va,vb,vm] w fun e w'=>∃v,e= .returned v/\OwnI w' w.heap.size 3 v (plc (wrg (co q) (co p) (hb ms)) p.length)/\Below w.heap.size w w':=by
 obtain⟨i0,hi,hz0,hz1,hz2⟩:=info_parts info_int;obtain⟨a1,c1,rfl⟩:=hp.form;obtain⟨a2,c2,rfl⟩:=hq.form;obtain⟨a3,c3,rfl⟩:=hm.form;have hl':Hid _:=hl;have hl2':Hid _:=hl2;clear hl hl2
 go_enter Tryz.func214,Tryz.ntmps214
 go_wp2
 go_loopw [7,8] (fun o i wr=>∃r:Nat,r<=p.length/\i= .int .i64 (r:Int)/\OwnI wr w.heap.size 3 o (plc (wrg (co q) (co p) (hb ms)) r)/\Below w.heap.size w wr) (fun _ i _=>p.length-(intOf i).toNat)
 case atStart=>exact⟨0,Zo,rfl,OwnI.nil _ _ _,Below.refl _ _⟩
 case round=>
  obtain⟨r,hr,rfl,hO,hB⟩:=hrel;have hsz:=hB.size;have hn:=cnt_le (wrg (co q) (co p) (hb ms)) r;rw[<-plc_length]at hn;obtain⟨av,cv,rfl⟩:=hO.form
  by_cases hlt:r<p.length
  ·obtain⟨b1,o1,rfl,_,k1⟩:=(hp.below hB).byte hlt;obtain⟨b2,o2,rfl,_,k2⟩:=(hq.below hB).byte (show r<q.length by have:=hl'.out;omega);obtain⟨b3,o3,rfl,_,k3⟩:=(hm.below hB).at (show r<ms.length by have:=hl2'.out;omega);have hlt':(r:Int)<(p.length:Int):=by omega
   have hlt2:(r:Int)<(q.length:Int):=by have:=hl'.out;omega
   have hlt3:(r:Int)<(ms.length:Int):=by have:=hl2'.out;omega
   have E:=plc_succ (wrg (co q) (co p) (hb ms)) r;cases e:wrg (co q) (co p) (hb ms) r with
   |false=>
    rw[e]at E;have E':Hid (plc (wrg (co q) (co p) (hb ms)) (r+1)=plc (wrg (co q) (co p) (hb ms)) r):=by show _=_;rw[E];simp
    have hw:hb ms r=true∨(hb ms r=false/\co p r=co q r):=by
     unfold wrg at e;cases hm2:hb ms r
     ·rw[hm2]at e;simp at e;exact Or.inr ⟨rfl,e⟩
     ·exact Or.inl rfl
    clear hp hq hm E e
    rcases hw with hw|⟨hw,hw2⟩
    ·rw[hw]at k3;clear hw
     go_wp2_with fail
     go_quiet (fail)
     go_wp2;go_roundw
     case rel=>exact⟨r+1,Zo,Zg,by rw[E'.out];exact hO.drewN _,hB.drewN _⟩
     case measure=>simp[intOf];omega
    ·rw[hw]at k3;rw[hw2]at k1;clear hw hw2
     go_wp2_with fail
     go_quiet (fail)
     go_wp2;go_roundw
     case rel=>exact⟨r+1,Zo,Zg,by rw[E'.out];exact hO.drewN _,hB.drewN _⟩
     case measure=>simp[intOf];omega
   |true=>
    rw[e]at E;have E':Hid (plc (wrg (co q) (co p) (hb ms)) (r+1)=plc (wrg (co q) (co p) (hb ms)) r++[r]):=E;have hw:hb ms r=false/\co p r≠co q r:=by
     unfold wrg at e;simpa using e
    have hne:((((co p r).toNat:Nat):Int)!=(((co q r).toNat:Nat):Int))=true:=by rw[ne_u8];simp[hw.2]
    rw[hw.1]at k3;clear hp hq hm E e hw
    go_wp2_with fail
    go_quiet (fail)
    go_wp2_with (at_builtin;go_loud (refine wpList_append_int rfl (.tmp 31) (.tmp 33) 45 rfl w.heap.size 3 i0 Tryz.underlying45 hi hz0 hz1 hz2 (.slice av (plc (wrg (co q) (co p) (hb ms)) r).length cv) (plc (wrg (co q) (co p) (hb ms)) r) rfl (hO.drewN _) r _ 1 rfl Zo hsz ?_);intro v' w2 hv2 hb2)
    have HO:Hid (OwnI w2 w.heap.size 3 v' (plc (wrg (co q) (co p) (hb ms)) (r+1))):=by show OwnI _ _ _ _ _;rw[E'.out];exact hv2
    have HB:Hid (Below w.heap.size w w2):=(hB.drewN _).trans hb2;clear hO hv2 hb2 hB k1 k2 k3 hne;go_wp2;go_roundw
    case rel=>exact⟨r+1,Zo,Zg,HO.out,HB.out⟩
    case measure=>simp[intOf];omega
  ·have e:r=p.length:=by omega
   subst e;have hge:¬(p.length:Int)<(p.length:Int):=Zo
   clear hp hq hm;go_wp2;go_ret;exact⟨_,rfl,hO,hB⟩
theorem info_bool:(Tryz.prog.info? 4).map (fun i=>(i.zero,i.size,i.bytes))=some (some (.bool false),1,1):=Zk
def notL(ms:List Bool)(r:Nat):List Bool:=(List.range r).map (fun i=> !hb ms i)
theorem notL_length(ms:List Bool)(r:Nat):(notL ms r).length=r:=by simp[notL]
theorem notL_succ(ms:List Bool)(r:Nat):notL ms (r+1)=notL ms r++[!hb ms r]:=by simp[notL,List.range_succ]
theorem wth_nil(ms:List Bool):wth ms []=notL ms ms.length:=by simp[wth,notL]
theorem wth_step{ms:List Bool}{T:List Nat}{r:Nat}(hr:r<T.length):(wth ms (T.take r)).set (T.getD r 0) false=wth ms (T.take (r+1)):=by
 refine List.ext_getElem (by simp[wth]) fun i h1 h2=>?_
 rw[List.getElem_set];have e:T.take (r+1)=T.take r++[T.getD r 0]:=by
  rw[List.take_add_one,List.getElem?_eq_getElem hr];simp[List.getD,hr]
 rw[wth_length]at h2;simp only[wth,List.getElem_map,List.getElem_range];rw[e]
 by_cases q:T.getD r 0=i
 ·rw[if_pos q,q];simp
 ·rw[if_neg q];have q2:¬i=T.getD r 0:=fun x=>q x.symm
  simp only[List.mem_append,List.mem_singleton,q2,or_false]
theorem rwth_any{vm vs:Value}{ms:List Bool}{T:List Nat}{w:World}(hm:RdB w vm ms)(hs:RdI w vs (toI T))(hT:∀i,i<T.length->T.getD i 0<ms.length)(hl:ms.length<=300)(hl2:T.length<=300):
  Calls Tryz.prog 211 #[vm,vs] w fun e w'=>∃v,e= .returned v/\OwnB w' w.heap.size 4 v (wth ms T)/\Below w.heap.size w w':=by
 obtain⟨i0,hi,hz0,hz1,hz2⟩:=info_parts info_bool;obtain⟨a1,c1,rfl⟩:=hm.form;have hsf:∃a c,vs= .slice a T.length c:=by
  rcases hs with⟨a,c,e,e2⟩|⟨b,off,c,_,e2,_⟩
  ·have:T.length=0:=by rw[<-toI_length,e];rfl
   rw[this];exact⟨a,c,e2⟩
  ·rw[toI_length]at e2;exact⟨_,c,e2⟩
 obtain⟨a2,c2,rfl⟩:=hsf;have hT':Hid _:=hT;clear hT
 go_enter Tryz.func211,Tryz.ntmps211
 go_wp2
 go_loopw [5,6] (fun o i wr=>∃r:Nat,r<=ms.length/\i= .int .i64 (r:Int)/\OwnB wr w.heap.size 4 o (notL ms r)/\Below w.heap.size w wr) (fun _ i _=>ms.length-(intOf i).toNat)
 case atStart=>exact⟨0,Zo,rfl,OwnB.nil _ _ _,Below.refl _ _⟩
 case round=>
  obtain⟨r,hr,rfl,hO,hB⟩:=hrel;have hsz:=hB.size;have hn:Hid _:=notL_length ms r;obtain⟨av,cv,ev⟩:=hO.form;rw[hn.out]at ev;subst ev
  by_cases hlt:r<ms.length
  ·obtain⟨b1,o1,rfl,_,k1⟩:=(hm.below hB).at hlt;have hlt':(r:Int)<(ms.length:Int):=by omega
   have E':Hid _:=notL_succ ms r;clear hm hs
   go_wp2_with (at_builtin;go_loud (refine wpList_append_bool rfl (.tmp 14) (.tmp 20) 96 rfl w.heap.size 4 i0 Tryz.underlying96 hi hz0 hz1 hz2 (.slice av r cv) (notL ms r) rfl hO (!hb ms r) _ 1 rfl (by rw[hn.out];omega) hsz ?_);intro v' w2 hv2 hb2)
   have HO:Hid (OwnB w2 w.heap.size 4 v' (notL ms (r+1))):=by show OwnB _ _ _ _ _;rw[E'.out];exact hv2
   have HB:Hid (Below w.heap.size w w2):=hB.trans hb2;clear hO hv2 hb2 hB k1;go_wp2;go_roundw
   case rel=>exact⟨r+1,Zo,Zg,HO.out,HB.out⟩
   case measure=>simp[intOf];omega
  ·have e:r=ms.length:=by omega
   subst e;have hge:¬(ms.length:Int)<(ms.length:Int):=Zo
   rw[<-wth_nil]at hO;go_wp2
   go_loopw [7] (fun i wq=>∃r:Nat,r<=T.length/\i= .int .i64 (r:Int)/\OwnB wq w.heap.size 4 (.slice av ms.length cv) (wth ms (T.take r))/\Below w.heap.size w wq) (fun i _=>T.length-(intOf i).toNat)
   case atStart=>exact⟨0,Zo,rfl,hO,hB⟩
   case round=>
    obtain⟨r,hr2,rfl,hO2,hB2⟩:=hrel;clear hO hB
    by_cases hlt:r<T.length
    ·obtain⟨b2,o2,rfl,_,k2⟩:=(hs.below hB2).at (show r<(toI T).length by rw[toI_length];exact hlt);rw[toI_getD]at k2;have hlt':(r:Int)<(T.length:Int):=by omega
     have hx:=hT'.out r hlt;have E':Hid _:=wth_step (ms:=ms) hlt;obtain⟨x,hxx⟩:∃x,Hid (x=T.getD r 0):=⟨_,rfl⟩;rw[<-hxx.out]at k2 hx E';have hx':(x:Int)<(ms.length:Int):=Zo
     obtain⟨g,c,eg,g1,g2,g3,g4⟩:=hO2.somewhere (fun q=>by have:=congrArg List.length q;rw[wth_length,List.length_nil]at this;omega);rw[wth_length]at eg;simp at eg;obtain⟨rfl,rfl⟩:=eg;have k3:=hO2.get (i:=x) (by rw[wth_length];exact hx);have k4:=hO2.free x;have HO:Hid _:=hO2.store x false;rw[E'.out]at HO;have HB:Hid _:=hB2.setCell (p:=⟨g,x,none⟩) g3 (.bool false);clear hO2 hB2 hm hs;go_wp2;go_roundw
     case rel=>exact⟨r+1,Zo,Zg,HO.out,HB.out⟩
     case measure=>simp[intOf];omega
    ·have e:r=T.length:=by omega
     subst e;have hge:¬(T.length:Int)<(T.length:Int):=Zo
     rw[List.take_length]at hO2;clear hm hs;go_wp2;go_ret;exact⟨_,rfl,hO2,hB2⟩
end Go.Proofs.YtddnfhfangfgeaaGreat.Gf
