/- JOINED: WdRefC, WdBack, WdKey, WdAns, WdRoots, WdCA, WdSh, WdLawM. -/
import Derived.Test.YtddnfhfangfgeaaGreatPome16
set_option maxHeartbeats 2000000
set_option maxRecDepth 100000
namespace Go.Proofs.YtddnfhfangfgeaaGreat.Gf
set_option linter.unusedVariables false
set_option linter.unusedSimpArgs false
open Go.RowKit
noncomputable def tryW(k m:Nat)(z:List UInt8)(ms:List Bool)(T:List Nat):Nat->Bool:=wrg (co z) (co (tryL k m (wth ms T) z)) (hb ms)
theorem try_dec{k m:Nat}{z:List UInt8}{hs:List Bool}(h1:1<=k)(h2:k+m<=256)(hl:hs.length=k+m)(hz:z.length=k+m)(hk:k<=(thr hs hs.length).length):
  decX k m hs (colL z)=0/\lineL (decR k m hs (colL z))=tryL k m hs z/\(decR k m hs (colL z)).length=k+m/\∀i,i<(decR k m hs (colL z)).length->(ro (decR k m hs (colL z)) i).length=1:=by
 have ok:OkC k m:=⟨Zo,Zo,Zo⟩;have oh:OkH k m hs (colL z):=⟨Zo,by rw[colL_length];omega,fun i j hi hj=>by
  have h3:=hb_lt hi;have h4:=hb_lt hj;rw[colL_row Zo,colL_row Zo];rfl⟩
 obtain⟨e1,e2⟩:=decX_ok ok oh hk;have hu:∀f:Nat->UInt8,(upto f k).length=k:=fun f=>upto_length _ _
 refine⟨e1,by rw[e2];rfl,?_,?_⟩
 ·rw[e2,encL_length,decD_length]
 ·rw[e2,encL_length,decD_length,try_col h1 hl hz hk];intro i hi;exact encC_len (hu _) h1 hi
theorem rtried_any{vw vm vs:Value}{k m:Nat}{z:List UInt8}{ms:List Bool}{T:List Nat}{w:World}(h1:1<=k)(h2:k+m<=256)(hz:z.length=k+m)(hms:ms.length=k+m)(hw:Rd w vw z)(hm:RdB w vm ms)(hs:RdI w vs (toI T))
  (hT:∀i,i<T.length->T.getD i 0<k+m) (ht:T.length+cnt (hb ms) (k+m)<=m) {x y:Int} (hx:x=(k:Int)) (hy:y=(m:Int)):
  Calls Tryz.prog 181 #[.int .i64 x,.int .i64 y,vw,vm,vs] w fun e w'=>∃va vd,e= .returned (.tuple #[va,vd,.bool (decide (cnt (tryW k m z ms T) (k+m)<=T.length))])/\Rd w' va (tryL k m (wth ms T) z)/\OwnI w' w.heap.size 3 vd (plc (tryW k m z ms T) (k+m))/\Below w.heap.size w w'/\Far w.heap.size va:=by
 subst hx hy;have hth:=wth_there hms ht;have hwl:(wth ms T).length=k+m:=by rw[wth_length];exact hms
 have HD:Hid _:=try_dec h1 h2 hwl hz hth;have hS:SmallH (wth ms T) (colL z):=(colL_small Zo).h _;have HLen:=try_len h1 hwl hz hth;have hTl:T.length<=300:=Zo
 have W1:=rwth_any hm hs (by rw[hms];exact hT) Zo hTl;obtain⟨a1,c1,e1⟩:=hw.form;obtain⟨a2,c2,e2⟩:=hm.form;have hsf:∃a c,vs= .slice a T.length c:=by
  rcases hs with⟨a,c,e,e2⟩|⟨b,off,c,_,e2,_⟩
  ·have:T.length=0:=by rw[<-toI_length,e];rfl
   rw[this];exact⟨a,c,e2⟩
  ·rw[toI_length]at e2;exact⟨_,c,e2⟩
 obtain⟨a3,c3,e3⟩:=hsf;subst e1 e2 e3
 go_enter Tryz.func181,Tryz.ntmps181
 have hzz:Hid _:=hz;have hmm:Hid _:=hms;have HL:Hid _:=HLen;clear hz hms HLen hth hwl
 go_wp2_with fail
 refine W1.mono ?_
 rintro e u1 ⟨v1,rfl,O1,b1⟩;clear W1;have R1:=O1.rdB;have hw1:=hw.below b1;obtain⟨g1,d1,ef⟩:=R1.form;subst ef;clear O1
 go_wp2_with fail
 refine(col_any hw1 (by have:=hzz.out;omega)).mono ?_
 rintro e u2 ⟨v2,rfl,R2,b2⟩;obtain⟨g2,d2,ef⟩:=R2.form;subst ef;have R1':=R1.below b2;have B2:=Below.next b1 b2;clear R1 hw1 b1 b2
 go_wp2_with fail
 refine(rdec_any R1' R2 hS).mono ?_
 rintro e u3 ⟨v3,rfl,R3,b3⟩;have B3:=Below.next B2 b3;obtain⟨g3,d3,ef⟩:=R3.form;subst ef;rw[HD.out.1];clear R1' R2 b3 B2
 go_wp2_with fail
 refine(line_far R3 (by rw[HD.out.2.2.1];omega) HD.out.2.2.2).mono ?_
 rintro e u4 ⟨v4,rfl,R4,b4,f4⟩;have HF4:Hid (Far w.heap.size v4):=f4.mono B3.size;clear f4;rw[HD.out.2.1]at R4;have B4:=Below.next B3 b4;obtain⟨g4,d4,ef⟩:=R4.form;subst ef;have hw4:=hw.below B4;have hm4:=hm.below B4;clear R3 b4 B3
 go_wp2_with fail
 refine(rdif_any R4 hw4 hm4 (by rw[HL.out];exact hzz.out) (by rw[HL.out];exact hmm.out) (by rw[HL.out];omega)).mono ?_
 rintro e u5 ⟨v5,rfl,O5,b5⟩;rw[HL.out]at O5;have B5:=Below.next B4 b5;have R5:=R4.below b5;have HI:Hid (OwnI u5 w.heap.size 3 v5 (plc (tryW k m z ms T) (k+m))):=ownsRow_base O5 B4.size;obtain⟨g5,d5,ef⟩:=O5.form;subst ef;have HP:Hid _:=plc_length (tryW k m z ms T) (k+m);have hpc:(plc (wrg (co z) (co (tryL k m (wth ms T) z)) (hb ms)) (k+m)).length=cnt (tryW k m z ms T) (k+m):=HP.out;obtain⟨C,hC⟩:∃C,Hid (C=cnt (tryW k m z ms T) (k+m)):=⟨_,rfl⟩;rw[<-hC.out]at hpc;rw[hpc]at HI ⊢;simp only[<-hC.out];have hdec:Hid (decide ((C:Int)<=(T.length:Int))=decide (C<=T.length)):=by show _=_;rw[Bool.eq_iff_iff,decide_eq_true_eq,decide_eq_true_eq];omega
 clear O5 R4 hw4 hm4 b5 B4 hpc;go_wp2;exact bodyPost_ret (v:=.tuple #[.slice g4 (tryL k m (wth ms T) z).length d4,.slice g5 C d5,.bool (decide ((C:Int)<=(T.length:Int)))]) (by simp[results,Tryz.results181,go_sem]) rfl ⟨_,_,by rw[hdec.out,hC.out],R5,HI.out,B5,HF4.out⟩
end Go.Proofs.YtddnfhfangfgeaaGreat.Gf
namespace Go.Proofs.YtddnfhfangfgeaaGreat.Gf
set_option linter.unusedVariables false
set_option linter.unusedSimpArgs false
theorem conv_zero_top{f g:Nat->UInt8}{n m:Nat}(hf:Fin0 f (n+1))(h1:f n=1)(hg:Fin0 g m)(h:∀j,n<=j->conv f g j=0):∀i,g i=0:=by
 induction m with
 |zero=>exact fun i=>hg i (Nat.zero_le _)
 |succ m ih=>
  have e:=conv_top hf hg;rw[h _ Zo,h1,one_mu]at e;refine ih fun i hi=>?_
  by_cases q:i=m
  ·rw[q];exact e.symm
  ·exact hg i Zo
theorem tuF_fin(a bv:Nat->UInt8)(N m:Nat):Fin0 (tuF a bv N m) m:=fun i hi=>S_zero fun k _=>by unfold geoF;rw[if_neg Zo,mu_zero]
theorem loc_back{a bv T:Nat->UInt8}{N m:Nat}(hN:N<=m)(hd:∀i j,i<N->j<N->i≠j->a i≠a j)(hT:Fin0 T m)(h:∀j,N<=j->j<m->conv (locF a N) T j=0)
  (hb:∀j,j<N->mu (bv j) (PE a j N (a j))=ev N (higF m (conv (locF a N) T)) (a j)):T=tuF a bv N m:=by
 have hH:Fin0 (higF m (conv (locF a N) T)) N:=fun i hi=>((locF_fin a N).conv hT) (m+i) Zo
 have hz:=roots_all (hH.add (om_fin a bv N)) a hd fun i hi=>by rw[ev_add,om_at hi,hb i hi,x_self]
 have tl:=tu_loc (a:=a) (bv:=bv) (t:=0) (e:=N) (m:=m) Zo;have tO:=tu_om (a:=a) (bv:=bv) (t:=0) (e:=N) (m:=m) Zo;rw[Nat.zero_add]at tl tO;have z:=conv_zero_top (locF_fin a N) (locF_top a N) (hT.add (tuF_fin a bv N m)) fun j hj=>by
  rw[conv_add,addF_at]
  by_cases hlt:j<m
  ·rw[h j hj hlt,tl j hj hlt,x_self]
  ·obtain⟨i,rfl⟩:∃i,j=m+i:=⟨j-m,Zo⟩;have e1:conv (locF a N) (tuF a bv N m) (m+i)=omF a bv N i:=congrFun tO i;rw[e1];exact hz i
 funext i;exact x_eq_zero.1 (z i)
theorem find_made{s pts ks bs zs:List UInt8}(hm:pts.length+ks.length<=s.length)
  (hd:∀i j,i<pts.length+ks.length->j<pts.length+ks.length->i≠j->co (pts++ks) i≠co (pts++ks) j)
  (hl:∀j,pts.length+ks.length<=j->j<s.length->conv (locF (co pts) pts.length) (keP s (locL ks)) j=0)
  (hv:∀j,j<pts.length+ks.length->mu (co (bs++zs) j) (PE (co (pts++ks)) j (pts.length+ks.length) (co (pts++ks) j))=evP (evaL s (locL ks) pts.length (locF (co pts) pts.length)) (co (pts++ks) j)):SyOf s pts ks bs zs:=by
 have hT:Fin0 (co s.reverse) s.length:=fun i hi=>co_ge (by rw[List.length_reverse];exact hi)
 have e0:locF (co (pts++ks)) (pts.length+ks.length)=conv (locF (co pts) pts.length) (co (locL ks)):=by
  rw[locF_append];unfold locL;rw[co_locN];congr 1
  ·exact locF_congr fun i hi=>co_append_lt hi
  ·exact locF_congr fun i hi=>by rw[co_append_ge Zo,Nat.add_sub_cancel_left]
 have e1:conv (locF (co (pts++ks)) (pts.length+ks.length)) (co s.reverse)=conv (locF (co pts) pts.length) (keP s (locL ks)):=by
  unfold keP;rw[e0,conv_assoc]
 have hH:Fin0 (higF s.length (conv (locF (co (pts++ks)) (pts.length+ks.length)) (co s.reverse))) (pts.length+ks.length):=fun i hi=>((locF_fin _ _).conv hT) (s.length+i) Zo
 have e2:co (evaL s (locL ks) pts.length (locF (co pts) pts.length))=higF s.length (conv (locF (co (pts++ks)) (pts.length+ks.length)) (co s.reverse)):=by
  unfold evaL;rw[co_mk (eva_fin (locF_fin _ _)),e1];rfl
 have key:=loc_back (a:=co (pts++ks)) (bv:=co (bs++zs)) hm hd hT (fun j h1 h2=>by rw[e1];exact hl j h1 h2) (fun j hj=>by
  rw[hv j hj];unfold evP;rw[e2];exact ev_eq _ (by rw[<-e2];exact co_fin _) hH)
 intro l hll;have e3:co s l=co s.reverse (s.length-1-l):=by rw[co_rev Zo];congr 1;omega
 rw[e3,key];unfold tuF syP;refine S_congr fun k _=>?_
 unfold geoF;rw[if_pos Zo,show s.length-1-(s.length-1-l)=l by omega]
theorem nmF_one_pwr(x:UInt8)(l:Nat):nmF 1 x l=pwr x l:=by
 induction l with
 |zero=>rfl
 |succ l ih=>rw[nmF,pwr,ih]
theorem S_plc(p:Nat->Bool)(f:Nat->UInt8)(n:Nat):S (cnt p n) (fun j=>f ((plc p n).getD j 0))=S n (fun i=>if p i then f i else 0):=by
 induction n with
 |zero=>rfl
 |succ n ih=>
  have hc:S (cnt p n) (fun j=>f ((plc p (n+1)).getD j 0))=S (cnt p n) (fun j=>f ((plc p n).getD j 0)):=S_congr fun j hj=>by
   rw[plc_succ,<-plc_length]at*;rw[show(plc p n++if p n then [n]else []).getD j 0=(plc p n).getD j 0 by simp[List.getD,List.getElem?_append_left hj]]
  show _=S n (fun i=>if p i then f i else 0)^^^(if p n then f n else 0)
  rw[<-ih,<-hc];cases e:p n
  ·have:cnt p (n+1)=cnt p n:=by rw[cnt,e];rfl
   rw[this];simp
  ·have h1:cnt p (n+1)=cnt p n+1:=by rw[cnt,e];rfl
   rw[h1]
   show S (cnt p n) (fun j=>f ((plc p (n+1)).getD j 0))^^^f ((plc p (n+1)).getD (cnt p n) 0)=_
   have h2:(plc p (n+1)).getD (cnt p n) 0=n:=by
    rw[plc_succ,e,<-plc_length];simp[List.getD]
   rw[h2];rfl
theorem co_map{L:List Nat}{f:Nat->UInt8}{j:Nat}(hj:j<L.length):co (L.map f) j=f (L.getD j 0):=by
 rw[co_lt (by rw[List.length_map];exact hj)];simp[List.getD,hj]
theorem syP_plc{p q:Nat->Bool}(hd:∀i,p i=true->q i=false)(v:Nat->UInt8)(n l:Nat):
  syP (co ((plc p n).map pt++(plc q n).map pt)) (co ((plc p n).map v++(plc q n).map v)) (((plc p n).map pt).length+((plc q n).map pt).length) l=S n (fun i=>if p i||q i then mu (v i) (pwr (pt i) l)else 0):=by
 unfold syP;rw[S_split,List.length_map,List.length_map];have e1:S (plc p n).length (fun i=>mu (co ((plc p n).map v++(plc q n).map v) i) (pwr (co ((plc p n).map pt++(plc q n).map pt) i) l))=S n (fun i=>if p i then mu (v i) (pwr (pt i) l)else 0):=by
  rw[<-S_plc p (fun i=>mu (v i) (pwr (pt i) l)),plc_length];exact S_congr fun i hi=>by
   rw[<-plc_length]at hi;rw[co_append_lt (by rw[List.length_map];exact hi),co_append_lt (by rw[List.length_map];exact hi),co_map hi,co_map hi]
 have e2:S (plc q n).length (fun i=>mu (co ((plc p n).map v++(plc q n).map v) ((plc p n).length+i)) (pwr (co ((plc p n).map pt++(plc q n).map pt) ((plc p n).length+i)) l))=S n (fun i=>if q i then mu (v i) (pwr (pt i) l)else 0):=by
  rw[<-S_plc q (fun i=>mu (v i) (pwr (pt i) l)),plc_length q];exact S_congr fun i hi=>by
   rw[<-plc_length]at hi;rw[co_append_ge (by rw[List.length_map];omega),co_append_ge (by rw[List.length_map];omega),List.length_map,List.length_map,Nat.add_sub_cancel_left,co_map hi,co_map hi]
 rw[e1,e2,<-S_xor];refine S_congr fun i hi=>?_
 cases a:p i
 ·cases b:q i<;>simp
 ·rw[hd i a];simp
theorem pts_apart{p q:Nat->Bool}{n:Nat}(hn:n<=256)(hd:∀i,p i=true->q i=false):∀i j,i<((plc p n).map pt).length+((plc q n).map pt).length->j<((plc p n).map pt).length+((plc q n).map pt).length->i≠j->
  co ((plc p n).map pt++(plc q n).map pt) i≠co ((plc p n).map pt++(plc q n).map pt) j:=by
 intro i j hi hj hne e;rw[<-List.map_append]at e;rw[<-List.length_append,<-List.map_append,List.length_map]at hi hj;rw[co_map hi,co_map hj]at e;have hnd:(plc p n++plc q n).Nodup:=by
  rw[List.nodup_append];exact⟨plc_nodup p n,plc_nodup q n,fun a ha b hb hab=>by
   subst hab;have:=hd a (plc_mem.1 ha).2;rw[(plc_mem.1 hb).2]at this;cases this⟩
 have hlt:∀i,i<(plc p n++plc q n).length->(plc p n++plc q n).getD i 0<256:=fun i hi=>by
  have hm:=List.getElem_mem hi
  have:(plc p n++plc q n)[i]<n:=by
   rcases List.mem_append.1 hm with h|h
   ·exact(plc_mem.1 h).1
   ·exact(plc_mem.1 h).1
  simp only[List.getD,List.getElem?_eq_getElem hi,Option.getD_some];omega
 have e2:=pt_inj (hlt i hi) (hlt j hj) e;simp only[List.getD,List.getElem?_eq_getElem hi,List.getElem?_eq_getElem hj,Option.getD_some]at e2;have hpw:=List.pairwise_iff_getElem.1 hnd
 rcases Nat.lt_or_gt_of_ne hne with h|h
 ·exact hpw i j hi hj h e2
 ·exact hpw j i hj hi h e2.symm
def byF(k m:Nat)(z c:Nat->UInt8)(i:Nat):UInt8:=mu (z i^^^c i) (wtF k m i)
theorem near_sy{k m:Nat}{z c:Nat->UInt8}{ms:Nat->Bool}(hc:CodeW k m c):SyOf (upto (synF k m z) m) ((plc (wrg z c ms) (k+m)).map pt) ((plc ms (k+m)).map pt) ((plc (wrg z c ms) (k+m)).map (byF k m z c)) ((plc ms (k+m)).map (byF k m z c)):=by
 intro l hl;rw[upto_length]at hl;rw[co_upto_in hl,syP_plc (fun i h=>by unfold wrg at h;simp at h;exact h.1)];have e:synF k m z l=synF k m (fun i=>z i^^^c i) l:=by
  have:=synF_add (k:=k) (m:=m) (l:=l) (z:=z) (y:=c) (x:=fun i=>z i^^^c i) (fun i _=>rfl);rw[this,hc l hl,x_zero]
 rw[e];unfold synF;refine S_congr fun i hi=>?_
 rw[nmF_one_pwr]
 by_cases h:wrg z c ms i||ms i
 ·rw[if_pos h];rfl
 ·rw[if_neg h];have h0:c i=z i:=by
   refine Classical.byContradiction fun q=>h ?_
   cases em:ms i<;>simp[wrg,em,q]
  show mu (mu (z i^^^c i) (wtF k m i)) (pwr (pt i) l)=0
  rw[h0,x_self,zero_mu,zero_mu]
theorem near_key{k m:Nat}{z c:Nat->UInt8}{ms:Nat->Bool}(h2:k+m<=256)(hc:Near k m z ms c):
  KeyAns (upto (synF k m z) m) (locL ((plc ms (k+m)).map pt)) 0 (locL ((plc (wrg z c ms) (k+m)).map pt))
   (evaL (upto (synF k m z) m) (locL ((plc ms (k+m)).map pt)) ((plc (wrg z c ms) (k+m)).map pt).length (locF (co ((plc (wrg z c ms) (k+m)).map pt++(plc ms (k+m)).map pt)) ((plc (wrg z c ms) (k+m)).map pt).length)):=by
 have hf:=hc.few;refine find_ok (near_sy hc.code) (by rw[upto_length,List.length_map,List.length_map,plc_length,plc_length];exact hf) (by rw[List.length_map,List.length_map]) (pts_apart h2 (fun i h=>by unfold wrg at h;simp at h;exact h.1)) fun i hi=>?_
 rw[List.length_map]at hi;rw[co_map hi];have hm:(plc (wrg z c ms) (k+m)).getD i 0∈plc (wrg z c ms) (k+m):=by
  simp only[List.getD,List.getElem?_eq_getElem hi,Option.getD_some];exact List.getElem_mem hi
 obtain⟨g1,g2⟩:=plc_mem.1 hm;generalize (plc (wrg z c ms) (k+m)).getD i 0=r at*;unfold wrg at g2;simp at g2;unfold byF;exact mu_ne (fun q=>g2.2 (x_eq_zero.1 q).symm) (wtF_ne h2 Zo)
theorem sy_code{k m:Nat}{z v:Nat->UInt8}{p q:Nat->Bool}(h2:k+m<=256)(hd:∀i,p i=true->q i=false)
  (hs:SyOf (upto (synF k m z) m) ((plc p (k+m)).map pt) ((plc q (k+m)).map pt) ((plc p (k+m)).map v) ((plc q (k+m)).map v)):
  CodeW k m (fun i=>z i^^^(if p i||q i then mu (v i) (iv (wtF k m i))else 0)):=by
 intro l hl;have e:=hs l (by rw[upto_length];exact hl);rw[co_upto_in hl,syP_plc hd]at e;rw[synF_add (z:=z) (y:=fun i=>if p i||q i then mu (v i) (iv (wtF k m i))else 0) (fun i _=>rfl),e];unfold synF;rw[<-S_xor];refine S_zero fun i hi=>?_
 show(if p i||q i then mu (v i) (pwr (pt i) l)else 0)^^^mu (mu (if p i||q i then mu (v i) (iv (wtF k m i))else 0) (wtF k m i)) (nmF 1 (pt i) l)=0
 by_cases h:(p i||q i)=true
 ·rw[if_pos h,if_pos h,mu_assoc (v i),mu_comm (iv _),mu_iv (wtF_ne h2 Zo),mu_one,nmF_one_pwr,x_self]
 ·rw[if_neg h,if_neg h,zero_mu,zero_mu,x_self]
def IsNear(k m:Nat)(z:List UInt8)(ms:List Bool):Prop:=∃c,Near k m (co z) (hb ms) c
def OkW(k m:Int)(z:List UInt8)(ms:List Bool):Prop:=(z.length:Int)=k+m/\(ms.length:Int)=k+m
noncomputable def nearF(k m:Nat)(z:List UInt8)(ms:List Bool):Nat->UInt8:=by
 classical
 exact if h:IsNear k m z ms then h.choose else fun _=>0
theorem nearF_is{k m:Nat}{z:List UInt8}{ms:List Bool}(h:IsNear k m z ms):Near k m (co z) (hb ms) (nearF k m z ms):=by
 unfold nearF;rw[dif_pos h];exact h.choose_spec
open Classical in
noncomputable def wdX(k m:Int)(z:List UInt8)(ms:List Bool):Int:=if OkC k m then (if OkW k m z ms then (if IsNear k.toNat m.toNat z ms then 0 else 100)else 60)else 50
open Classical in
noncomputable def wdR(k m:Int)(z:List UInt8)(ms:List Bool):List UInt8:=if OkC k m/\OkW k m z ms/\IsNear k.toNat m.toNat z ms then upto (nearF k.toNat m.toNat z ms) (k.toNat+m.toNat)else []
open Classical in
noncomputable def wdP(k m:Int)(z:List UInt8)(ms:List Bool):List Nat:=if OkC k m/\OkW k m z ms/\IsNear k.toNat m.toNat z ms then plc (wrg (co z) (nearF k.toNat m.toNat z ms) (hb ms)) (k.toNat+m.toNat)else []
theorem wd_bad{k m:Int}{z:List UInt8}{ms:List Bool}(c:¬OkC k m):wdX k m z ms=50/\wdR k m z ms=[]/\wdP k m z ms=[]:=
 ⟨by unfold wdX;rw[if_neg c],by unfold wdR;rw[if_neg fun e=>c e.1],by unfold wdP;rw[if_neg fun e=>c e.1]⟩
theorem wd_shard{k m:Int}{z:List UInt8}{ms:List Bool}(c:OkC k m)(d:¬OkW k m z ms):wdX k m z ms=60/\wdR k m z ms=[]/\wdP k m z ms=[]:=
 ⟨by unfold wdX;rw[if_pos c,if_neg d],by unfold wdR;rw[if_neg fun e=>d e.2.1],by unfold wdP;rw[if_neg fun e=>d e.2.1]⟩
theorem wd_many{k m:Nat}{z:List UInt8}{ms:List Bool}(c:OkC k m)(d:OkW k m z ms)(e:¬IsNear k m z ms):wdX k m z ms=100/\wdR k m z ms=[]/\wdP k m z ms=[]:=
 ⟨by unfold wdX;rw[if_pos c,if_pos d];exact if_neg e,by unfold wdR;rw[if_neg fun q=>e q.2.2],by unfold wdP;rw[if_neg fun q=>e q.2.2]⟩
theorem wd_ok{k m:Nat}{z:List UInt8}{ms:List Bool}{c:Nat->UInt8}(o:OkC k m)(d:OkW k m z ms)(h:Near k m (co z) (hb ms) c):wdX k m z ms=0/\wdR k m z ms=upto c (k+m)/\wdP k m z ms=plc (wrg (co z) c (hb ms)) (k+m):=by
 have hI:IsNear k m z ms:=⟨c,h⟩;have h2:k+m<=256:=by have:=o.2.2;omega
 have hu:=(nearF_is hI).unique h2 h;refine⟨by unfold wdX;rw[if_pos o,if_pos d];exact if_pos hI,?_,?_⟩
 ·unfold wdR;rw[if_pos ⟨o,d,hI⟩];exact upto_congr fun i hi=>hu i hi
 ·unfold wdP;rw[if_pos ⟨o,d,hI⟩]
  show plc (wrg (co z) (nearF k m z ms) (hb ms)) (k+m)=_
  unfold plc;refine List.filter_congr fun i hi=>?_
  unfold wrg;rw[hu i (List.mem_range.1 hi)]
theorem iv_mu10{a b:UInt8}(ha:a≠0)(hb:b≠0):iv (mu a b)=mu (iv a) (iv b):=by
 have h1:mu (mu a b) (iv (mu a b))=1:=mu_iv (mu_ne ha hb);have h2:mu (mu a b) (mu (iv a) (iv b))=1:=by
  rw[mu_assoc,mu_comm (iv a),<-mu_assoc b,mu_iv hb,one_mu,mu_iv ha]
 have h3:mu (iv (mu a b)) (mu (mu a b) (mu (iv a) (iv b)))=mu (iv a) (iv b):=by
  rw[<-mu_assoc,mu_comm (iv (mu a b)),h1,one_mu]
 rw[h2,mu_one]at h3;exact h3
def rtF(A:List UInt8)(ms:Nat->Bool)(i:Nat):Bool:= !ms i&&decide (evP A (pt i)=0)
theorem rtF_not{A:List UInt8}{ms:Nat->Bool}{i:Nat}(h:rtF A ms i=true):ms i=false:=by unfold rtF at h;simp at h;exact h.1
theorem rtF_root{A:List UInt8}{ms:Nat->Bool}{i:Nat}(h:rtF A ms i=true):evP A (pt i)=0:=by unfold rtF at h;simp at h;exact h.2
theorem getD_mem{L:List Nat}{j:Nat}(hj:j<L.length):L.getD j 0∈L:=by
 simp only[List.getD,List.getElem?_eq_getElem hj,Option.getD_some];exact List.getElem_mem hj
theorem root_of{p:Nat->Bool}{n i:Nat}(hn:n<=256)(hi:i<n):evP (locL ((plc p n).map pt)) (pt i)=0↔p i=true:=by
 rw[evP_loc,PD_zero];constructor
 ·rintro⟨j,hj,e⟩;rw[List.length_map]at hj;rw[co_map hj]at e;obtain⟨g1,g2⟩:=plc_mem.1 (getD_mem hj);rw[pt_inj Zo Zo e]at g2;exact g2
 ·intro h;obtain⟨j,hj,e⟩:=List.getElem_of_mem (plc_mem.2 ⟨hi,h⟩);refine⟨j,by rw[List.length_map];exact hj,?_⟩;rw[co_map hj];simp[List.getD,hj,e]
theorem near_roots{k m:Nat}{z c:Nat->UInt8}{ms:Nat->Bool}{X:Int}{A O:List UInt8}(h2:k+m<=256)(hc:Near k m z ms c)(hK:KeyAns (upto (synF k m z) m) (locL ((plc ms (k+m)).map pt)) X A O):
  X=0/\plc (rtF A ms) (k+m)=plc (wrg z c ms) (k+m)/\A.length=cnt (rtF A ms) (k+m)+1:=by
 obtain⟨e1,e2,e3⟩:=(near_key h2 hc).unique hK;have e4:plc (rtF A ms) (k+m)=plc (wrg z c ms) (k+m):=by
  unfold plc;refine List.filter_congr fun i hi=>?_
  have hi':=List.mem_range.1 hi;have:=root_of (p:=wrg z c ms) h2 hi';rw[<-e2]at this;unfold rtF;cases em:ms i
  ·rw[Bool.not_false,Bool.true_and,Bool.eq_iff_iff,decide_eq_true_eq];exact this
  ·unfold wrg;rw[em];rfl
 refine⟨e1,e4,?_⟩;rw[<-plc_length,e4,e2];unfold locL;rw[locN_length,List.length_map]
def dfF(k m:Nat)(O D:List UInt8)(i:Nat):UInt8:=mu (evP O (pt i)) (iv (mu (evP D (pt i)) (wtF k m i)))
def rtW(k m:Nat)(z:Nat->UInt8)(A O D:List UInt8)(ms:Nat->Bool)(i:Nat):UInt8:=z i^^^(if rtF A ms i||ms i then dfF k m O D i else 0)
theorem roots_near{k m:Nat}{z:Nat->UInt8}{ms:Nat->Bool}{A O:List UInt8}(h2:k+m<=256)(hK:KeyAns (upto (synF k m z) m) (locL ((plc ms (k+m)).map pt)) 0 A O)(hr:A.length<=cnt (rtF A ms) (k+m)+1):
  Near k m z ms (rtW k m z A O (derP (mulP A (locL ((plc ms (k+m)).map pt)))) ms)/\∀i,i<k+m->(rtF A ms i||ms i)=true->mu (evP (derP (mulP A (locL ((plc ms (k+m)).map pt)))) (pt i)) (wtF k m i)≠0:=by
 rcases hK with⟨_,h,_⟩|⟨b,t,L,hl,_,eA,eO⟩|⟨_,_,h,_⟩
 ·cases h
 ·have hnd:∀i,rtF A ms i=true->ms i=false:=fun i=>rtF_not
  have hap:=pts_apart (n:=k+m) h2 hnd;have hpl:((plc (rtF A ms) (k+m)).map pt).length=cnt (rtF A ms) (k+m):=by rw[List.length_map,plc_length]
  have hkl:((plc ms (k+m)).map pt).length=cnt ms (k+m):=by rw[List.length_map,plc_length]
  have hco:co A=L:=by rw[eA];exact funext fun i=>co_upto hl.loc.fin i
  have hAl:A.length=t+1:=by rw[eA,upto_length]
  have hroot:∀j,j<cnt (rtF A ms) (k+m)->ev (t+1) L (co ((plc (rtF A ms) (k+m)).map pt) j)=0:=fun j hj=>by
   rw[<-plc_length]at hj;rw[co_map hj];have:=rtF_root (plc_mem.1 (getD_mem hj)).2;unfold evP at this;rw[hAl,hco]at this;exact this
  have hdist:∀i j,i<cnt (rtF A ms) (k+m)->j<cnt (rtF A ms) (k+m)->i≠j->co ((plc (rtF A ms) (k+m)).map pt) i≠co ((plc (rtF A ms) (k+m)).map pt) j:=fun i j hi hj hne=>by
   have:=hap i j Zo Zo hne;rw[co_append_lt Zo,co_append_lt Zo]at this;exact this
  have hT:cnt (rtF A ms) (k+m)=t:=by
   refine Nat.le_antisymm (Nat.le_of_not_lt fun hlt=>?_) Zo;have:=roots_all hl.loc.fin (co ((plc (rtF A ms) (k+m)).map pt)) (fun i j hi hj=>hdist i j Zo Zo) (fun i hi=>hroot i Zo) t;rw[hl.loc.top]at this;cases this
  have hLl:L=locF (co ((plc (rtF A ms) (k+m)).map pt)) t:=by
   have hD:Fin0 (addF L (locF (co ((plc (rtF A ms) (k+m)).map pt)) t)) t:=fun i hi=>by
    rw[addF_at]
    by_cases e0:i=t
    ·rw[e0,hl.loc.top,locF_top,x_self]
    ·rw[hl.loc.fin i Zo,locF_fin _ t i Zo,x_self]
   have:=roots_all hD (co ((plc (rtF A ms) (k+m)).map pt)) (fun i j hi hj=>hdist i j Zo Zo) (fun i hi=>by
    rw[<-ev_more _ hD (show t<=t+1 by omega),ev_add,hroot i Zo,ev_loc,PD_zero.2 ⟨i,hi,rfl⟩];rfl)
   funext i;exact x_eq_zero.1 (this i)
  have hAL:A=locL ((plc (rtF A ms) (k+m)).map pt):=by
   rw[eA];unfold locL locN;rw[<-eA,hpl,hT,<-hLl];exact eA
  have hf:=hl.few;rw[upto_length,find_norm,Nat.add_sub_cancel,hkl]at hf;obtain⟨D,hD⟩:∃D,D=derP (mulP A (locL ((plc ms (k+m)).map pt))):=⟨_,rfl⟩;have hDD:D=derP (mulP (locL ((plc (rtF A ms) (k+m)).map pt)) (locL ((plc ms (k+m)).map pt))):=by rw[hD];congr 2
  have spot:∀j,j<((plc (rtF A ms) (k+m)).map pt).length+((plc ms (k+m)).map pt).length->co ((plc (rtF A ms) (k+m)).map pt++(plc ms (k+m)).map pt) j=pt ((plc (rtF A ms) (k+m)++plc ms (k+m)).getD j 0):=fun j hj=>by
   rw[<-List.map_append,co_map (by rw[List.length_map,List.length_map]at hj;rw[List.length_append];exact hj)]
  have hDne:∀i,i<k+m->(rtF A ms i||ms i)=true->evP D (pt i)≠0:=fun i hi hp=>by
   have hmem:i∈plc (rtF A ms) (k+m)++plc ms (k+m):=by
    rw[Bool.or_eq_true]at hp
    rcases hp with h|h
    ·exact List.mem_append_left _ (plc_mem.2 ⟨hi,h⟩)
    ·exact List.mem_append_right _ (plc_mem.2 ⟨hi,h⟩)
   obtain⟨j,hj,ej⟩:=List.getElem_of_mem hmem;have hj':j<((plc (rtF A ms) (k+m)).map pt).length+((plc ms (k+m)).map pt).length:=by rw[List.length_map,List.length_map,<-List.length_append];exact hj
   have h5:=find_der ((plc (rtF A ms) (k+m)).map pt) ((plc ms (k+m)).map pt) hj';have h6:=find_ne hap hj';rw[spot j hj',<-hDD]at h5;rw[spot j hj']at h6;have h7:(plc (rtF A ms) (k+m)++plc ms (k+m)).getD j 0=i:=by
    simp only[List.getD,List.getElem?_eq_getElem hj,Option.getD_some];exact ej
   rw[h7]at h5 h6;rw[h5];exact h6
  have hw:∀i,i<k+m->(rtF A ms i||ms i)=true->mu (evP D (pt i)) (wtF k m i)≠0:=fun i hi hp=>mu_ne (hDne i hi hp) (wtF_ne h2 Zo)
  have hs:=find_made (s:=upto (synF k m z) m) (pts:=(plc (rtF A ms) (k+m)).map pt) (ks:=(plc ms (k+m)).map pt) (bs:=(plc (rtF A ms) (k+m)).map (fun i=>mu (evP O (pt i)) (iv (evP D (pt i))))) (zs:=(plc ms (k+m)).map (fun i=>mu (evP O (pt i)) (iv (evP D (pt i)))))
   (by rw[hpl,hkl,upto_length];omega) hap (fun j h1 h3=>by
    have:=hl.loc.zero j (by rw[find_norm,hkl];omega) h3;rw[hpl,hT,<-hLl];exact this) (fun j hj=>by
    have h5:=find_der ((plc (rtF A ms) (k+m)).map pt) ((plc ms (k+m)).map pt) hj;have h6:=find_ne hap hj;rw[<-hDD]at h5;rw[<-List.map_append (f:=fun i=>mu (evP O (pt i)) (iv (evP D (pt i)))),co_map (by rw[List.length_map,List.length_map]at hj;rw[List.length_append];exact hj)];rw[<-h5]at h6 ⊢;rw[spot j hj]at h6 ⊢
    show mu (mu (evP O _) (iv (evP D _))) (evP D _)=_
    rw[mu_assoc,mu_comm (iv _),mu_iv h6,mu_one,eO,hpl,hT,<-hLl])
  have hcode:=sy_code h2 hnd hs;rw[<-hD];refine⟨⟨hcode.congr fun i hi=>?_,?_⟩,hw⟩
  ·unfold rtW dfF;congr 1
   by_cases hp:(rtF A ms i||ms i)=true
   ·rw[if_pos hp,if_pos hp,iv_mu10 (hDne i hi hp) (wtF_ne h2 Zo),mu_assoc]
   ·rw[if_neg hp,if_neg hp]
  ·have:cnt (wrg z (rtW k m z A O D ms) ms) (k+m)<=cnt (rtF A ms) (k+m):=cnt_mono fun i hi hwr=>by
    unfold wrg at hwr;simp only[Bool.and_eq_true,Bool.not_eq_true',decide_eq_true_eq]at hwr;refine Classical.byContradiction fun q=>hwr.2 ?_
    unfold rtW;rw[if_neg (by simp[q,hwr.1]),x_zero]
   omega
 ·cases h
theorem roots_told{k m:Nat}{z:Nat->UInt8}{ms:Nat->Bool}{A O:List UInt8}(h2:k+m<=256)(hK:KeyAns (upto (synF k m z) m) (locL ((plc ms (k+m)).map pt)) 0 A O)(hr:A.length<=cnt (rtF A ms) (k+m)+1):
  plc (rtF A ms) (k+m)=plc (wrg z (rtW k m z A O (derP (mulP A (locL ((plc ms (k+m)).map pt)))) ms) ms) (k+m):=(near_roots h2 (roots_near h2 hK hr).1 hK).2.1
open Go.RowKit
theorem info_int10:(Tryz.prog.info? 3).map (fun i=>(i.zero,i.size,i.bytes))=some (some (.int .i64 0),1,8):=Zk
theorem info_bool10:(Tryz.prog.info? 4).map (fun i=>(i.zero,i.size,i.bytes))=some (some (.bool false),1,1):=Zk
theorem epl_any{va:Value}{h:List Bool}{w:World}(hH:RdB w va h)(hl:h.length<=300):Calls Tryz.prog 140 #[va] w fun e w'=>∃v,e= .returned v/\OwnI w' w.heap.size 3 v (plc (hb h) h.length)/\Below w.heap.size w w':=by
 obtain⟨i0,hi,hz0,hz1,hz2⟩:=info_parts info_int10;obtain⟨a,c,rfl⟩:=hH.form
 go_enter Tryz.func140,Tryz.ntmps140
 go_wp2
 go_loopw [3,8] (fun o i wr=>∃r:Nat,r<=h.length/\i= .int .i64 r/\OwnI wr w.heap.size 3 o (plc (hb h) r)/\Below w.heap.size w wr) (fun _ i _=>h.length-(intOf i).toNat)
 case atStart=>exact⟨0,Zo,rfl,OwnI.nil _ _ _,Below.refl _ _⟩
 case round=>
  obtain⟨r,hr,rfl,hO,hB⟩:=hrel;have hsz:=hB.size;have hn:Hid ((plc (hb h) r).length<=300):=by show _<=_;rw[plc_length];have:=cnt_le (hb h) r;omega
  by_cases hlt:r<h.length
  ·obtain⟨b,off,rfl,_,c1⟩:=(hH.below hB).at hlt;have hlt':(r:Int)<(h.length:Int):=by omega
   obtain⟨av,cv,rfl⟩:=hO.form;have E:=plc_succ (hb h) r;cases e:hb h r with
   |false=>
    rw[e]at c1 E;have E':Hid (plc (hb h) (r+1)=plc (hb h) r):=by show _=_;rw[E];simp
    clear hH e E;go_wp2;go_roundw
    case rel=>exact⟨r+1,Zo,Zg,by rw[E'.out];exact hO,hB⟩
    case measure=>simp[intOf];omega
   |true=>
    rw[e]at c1 E;have E':Hid (plc (hb h) (r+1)=plc (hb h) r++[r]):=E;clear hH e E
    go_wp2_with (at_builtin;go_loud (refine wpList_append_int rfl (.tmp 14) (.tmp 16) 45 rfl w.heap.size 3 i0 Tryz.underlying45 hi hz0 hz1 hz2 (.slice av (plc (hb h) r).length cv) (plc (hb h) r) rfl hO r _ 1 rfl (by have:=hn.out;omega) hsz ?_);intro v' w2 hv2 hb2)
    have HO:Hid (OwnI w2 w.heap.size 3 v' (plc (hb h) (r+1))):=by show OwnI _ _ _ _ _;rw[E'.out];exact hv2
    have HB:Hid (Below w.heap.size w w2):=hB.trans hb2;clear hO hv2 hb2 hB c1;go_wp2;go_roundw
    case rel=>exact⟨r+1,Zo,Zg,HO.out,HB.out⟩
    case measure=>simp[intOf];omega
  ·have e:r=h.length:=by omega
   subst e;have hge:¬(h.length:Int)<(h.length:Int):=Zo
   clear hH;go_wp2
   try rw[Exit.noGoto_ret]
   go_ret;exact⟨_,rfl,hO,hB⟩
def ptsL(zs:List Nat):List UInt8:=zs.map pt
theorem ptsL_length(zs:List Nat):(ptsL zs).length=zs.length:=List.length_map ..
def ptsF(zs:List Nat)(r i:Nat):UInt8:=if i<r then pt (zs.getD i 0)else 0
theorem ptsF_step(zs:List Nat)(r i:Nat):ptsF zs (r+1) i=if i=r then pt (zs.getD r 0)else ptsF zs r i:=by
 unfold ptsF
 by_cases e:i=r
 ·subst e;rw[if_pos Zo,if_pos rfl]
 ·rw[if_neg e]
  by_cases h:i<r
  ·rw[if_pos h,if_pos Zo]
  ·rw[if_neg h,if_neg Zo]
theorem ptsF_all(zs:List Nat):upto (ptsF zs zs.length) zs.length=ptsL zs:=by
 refine co_ext (by rw[upto_length,ptsL_length]) fun i hi=>?_
 rw[upto_length]at hi;rw[co_upto_in hi];unfold ptsF ptsL;rw[if_pos hi,co_lt (by rw[List.length_map];exact hi)];simp[List.getD,hi]
theorem ept_any{va:Value}{zs:List Nat}{w:World}(hH:RdI w va (toI zs))(hl:zs.length<=300)(hz:∀i,i<zs.length->zs.getD i 0<256):Calls Tryz.prog 166 #[va] w fun e w'=>∃v,e= .returned v/\Rd w' v (ptsL zs)/\Below w.heap.size w w':=by
 obtain⟨a,c,e⟩:=hH.form;rw[toI_length]at e;subst e;have hz':Hid _:=hz;clear hz;obtain⟨n,hn⟩:∃n,Hid (n=zs.length):=⟨_,rfl⟩;rw[<-hn.out]at hl ⊢;obtain⟨i0,hi,hz0,hz1,hz2⟩:=info_parts info_u8
 go_enter Tryz.func166,Tryz.ntmps166
 go_wp2_with (at_make;go_loud (refine wpList_make_full _ rfl (.tmp 7) (.tmp 7) 36 rfl w.heap.size 5 i0 (.int .u8 0) 1 Tryz.underlying36 hi hz0 hz1 _ _ _ _ n rfl rfl Zo Zo (by rw[hz2];omega) Zl (Nat.le_refl _) ?_);intro w1 hown1 hgrow1)
 have R1:Hid (RowF w1 w.heap.size 5 w.heap.size n n (fun _=>0)):=RowF.made hown1;have B1:Hid (Below w.heap.size w w1):=(Below.refl _ _).grown hgrow1 (Nat.le_refl _) (fun k h=>by cases h);clear hown1 hgrow1;go_wp2
 go_loopw [11] (fun v wr=>∃i:Nat,i<=n/\v= .int .i64 i/\RowF wr w.heap.size 5 w.heap.size n n (ptsF zs i)/\Below w.heap.size w wr) (fun v _=>n-(intOf v).toNat)
 case atStart=>exact⟨0,Zo,rfl,R1.out.congr fun j hj=>(if_neg (Nat.not_lt_zero _)).symm,B1.out⟩
 case round=>
  obtain⟨i,hi9,rfl,hR,hB⟩:=hrel;clear R1 B1
  by_cases hlt:i<n
  ·have hlt':(i:Int)<(n:Int):=by omega
   obtain⟨sb,so,es,_,cs⟩:=(hH.below hB).at (i:=i) (by rw[toI_length,<-hn.out];exact hlt);subst es;rw[toI_getD]at cs;have hx:=hz'.out i (by rw[<-hn.out];exact hlt);obtain⟨x,hxx⟩:∃x,Hid (x=zs.getD i 0):=⟨_,rfl⟩;rw[<-hxx.out]at cs hx;have m1:(x:Int)%256=(x:Int):=Zo
   have c1:=hR.cell hlt;have f1:=hR.unfrozen i;have HN:Hid (RowF (World.setCell wr ⟨w.heap.size,i,none⟩ (.int .u8 (x:Int))) w.heap.size 5 w.heap.size n n (ptsF zs (i+1))):=by
    have:=hR.store hlt (pt x) (f':=ptsF zs (i+1)) (fun j=>by rw[ptsF_step,hxx.out]);rw[pt_toNat hx]at this;exact this
   have HB:Hid (Below w.heap.size w (World.setCell wr ⟨w.heap.size,i,none⟩ (.int .u8 (x:Int)))):=hB.setCell (p:=⟨w.heap.size,i,none⟩) (Nat.le_refl _) _;clear hR hB hH;go_wp2;go_roundw
   case rel=>exact⟨i+1,Zo,Zg,HN.out,HB.out⟩
   case measure=>simp[intOf];omega
  ·have hge:¬(i:Int)<(n:Int):=by omega
   have ei:i=n:=Zo
   have Rt:Hid (Rd wr (.slice (some ⟨w.heap.size,0,none⟩) n n) (ptsL zs)):=by
    show Rd _ _ _
    rw[<-ptsF_all,<-hn.out,<-ei];have:=hR.rd;rw[ei]at this ⊢;exact this
   clear ei hR hH;go_wp2;go_ret;exact⟨_,rfl,Rt.out,hB⟩
def notM(h:List Bool):List Bool:=(List.range h.length).map fun i=> !hb h i
theorem notM_length(h:List Bool):(notM h).length=h.length:=by simp[notM]
theorem notM_at{h:List Bool}{i:Nat}(hi:i<h.length):hb (notM h) i= !hb h i:=by simp[notM,hb,List.getD,hi]
def oppF(h:List Bool)(r i:Nat):Bool:=if i<r then !hb h i else false
theorem oppF_zero(h:List Bool):oppF h 0=fun _=>false:=by funext i;exact if_neg (Nat.not_lt_zero _)
theorem oppF_step(h:List Bool)(r i:Nat):oppF h (r+1) i=if i=r then !hb h r else oppF h r i:=by
 unfold oppF
 by_cases e:i=r
 ·subst e;rw[if_pos Zo,if_pos rfl]
 ·rw[if_neg e]
  by_cases h:i<r
  ·rw[if_pos h,if_pos Zo]
  ·rw[if_neg h,if_neg Zo]
theorem oppF_all(h:List Bool):(List.range h.length).map (oppF h h.length)=notM h:=List.map_congr_left fun i hi=>if_pos (List.mem_range.1 hi)
theorem eopp_any{va:Value}{h:List Bool}{w:World}(hH:RdB w va h)(hl:h.length<=300):Calls Tryz.prog 136 #[va] w fun e w'=>∃v,e= .returned v/\RdB w' v (notM h)/\Below w.heap.size w w':=by
 obtain⟨i0,hi,hz0,hz1,hz2⟩:=info_parts info_bool10;obtain⟨a,c,rfl⟩:=hH.form;obtain⟨n,hn⟩:∃n,Hid (n=h.length):=⟨_,rfl⟩;rw[<-hn.out]at hl ⊢
 go_enter Tryz.func136,Tryz.ntmps136
 go_wp2_with (at_make;go_loud (refine wpList_make_full _ rfl (.tmp 7) (.tmp 7) 96 rfl w.heap.size 4 i0 (.bool false) 1 Tryz.underlying96 hi hz0 hz1 _ _ _ _ n rfl rfl Zo Zo (by rw[hz2];omega) Zl (Nat.le_refl _) ?_);intro w1 hown1 hgrow1)
 have R1:Hid (BoolF w1 w.heap.size 4 w.heap.size n (fun _=>false)):=BoolF.made hown1;have B1:Hid (Below w.heap.size w w1):=(Below.refl _ _).grown hgrow1 (Nat.le_refl _) (fun k h=>by cases h);clear hown1 hgrow1;go_wp2
 go_loopw [11] (fun v wr=>∃i:Nat,i<=n/\v= .int .i64 i/\BoolF wr w.heap.size 4 w.heap.size n (oppF h i)/\Below w.heap.size w wr) (fun v _=>n-(intOf v).toNat)
 case atStart=>exact⟨0,Zo,rfl,by rw[oppF_zero];exact R1.out,B1.out⟩
 case round=>
  obtain⟨i,hi9,rfl,hR,hB⟩:=hrel;clear R1 B1
  by_cases hlt:i<n
  ·have hlt':(i:Int)<(n:Int):=by omega
   obtain⟨sb,so,es,_,cs⟩:=(hH.below hB).at (i:=i) (by rw[<-hn.out];exact hlt);subst es;have c1:=hR.cell hlt;have f1:=hR.free i;have HN:Hid (BoolF (World.setCell wr ⟨w.heap.size,i,none⟩ (.bool (!hb h i))) w.heap.size 4 w.heap.size n (oppF h (i+1))):=hR.store hlt (!hb h i) fun j _=>oppF_step h i j
   have HB:Hid (Below w.heap.size w (World.setCell wr ⟨w.heap.size,i,none⟩ (.bool (!hb h i)))):=hB.setCell (p:=⟨w.heap.size,i,none⟩) (Nat.le_refl _) _;clear hR hB hH;go_wp2;go_roundw
   case rel=>exact⟨i+1,Zo,Zg,HN.out,HB.out⟩
   case measure=>simp[intOf];omega
  ·have hge:¬(i:Int)<(n:Int):=by omega
   have ei:i=n:=Zo
   have Rt:Hid (RdB wr (.slice (some ⟨w.heap.size,0,none⟩) n n) (notM h)):=by
    show RdB _ _ _
    rw[ei]at hR;have:=hR.rdB Zo;rw[hn.out,oppF_all]at this;rw[hn.out];exact this
   clear ei hR hH;go_wp2;go_ret;exact⟨_,rfl,Rt.out,hB⟩
def mrkF(f:Nat->Bool)(zs:List Nat)(i:Nat):Bool:=f i||decide (i∈zs)
theorem mrkF_step{f:Nat->Bool}{zs:List Nat}{r:Nat}(hr:r<zs.length)(i:Nat):mrkF f (zs.take (r+1)) i=if i=zs.getD r 0 then true else mrkF f (zs.take r) i:=by
 have e:zs.take (r+1)=zs.take r++[zs.getD r 0]:=by
  rw[List.take_add_one,List.getElem?_eq_getElem hr];simp[List.getD,hr]
 unfold mrkF;rw[e]
 by_cases q:i=zs.getD r 0
 ·rw[if_pos q,q];simp
 ·rw[if_neg q];simp only[List.mem_append,List.mem_singleton,q,or_false]
theorem emark_any{va:Value}{zs:List Nat}{w:World}{base e g n:Nat}{f:Nat->Bool}(hH:RdI w va (toI zs))(hl:zs.length<=300)(hz:∀i,i<zs.length->zs.getD i 0<n)(hB:BoolF w base e g n f)(hap:∀b off m c,va= .slice (some ⟨b,off,none⟩) m c->b≠g):Calls Tryz.prog 139 #[.slice (some ⟨g,0,none⟩) n n,va] w fun e' w'=>e'= .returned (.tuple #[])/\Only g w w'/\BoolF w' base e g n (mrkF f zs):=by
 obtain⟨a,c,ea⟩:=hH.form;rw[toI_length]at ea;subst ea;have hz':Hid _:=hz;clear hz;obtain⟨s,hs⟩:∃s,Hid (s=zs.length):=⟨_,rfl⟩;rw[<-hs.out]at hH hl hap ⊢;have HC:Hid (∀wr,Only g w wr->∀i,i<s->∃b off,a=some ⟨b,off,none⟩/\wr.cell? ⟨b,off+i,none⟩=some (.int .i64 ((zs.getD i 0:Nat):Int))):=fun wr o i hi=>by
  obtain⟨b,off,e1,_,e2⟩:=hH.at (i:=i) (by rw[toI_length,<-hs.out];exact hi);rw[toI_getD]at e2;exact⟨b,off,e1,(o.cell (p:=⟨b,off+i,none⟩) (hap b off s c (by rw[e1]))).trans e2⟩
 clear hH hap
 go_enter Tryz.func139,Tryz.ntmps139
 go_wp2_with fail
 go_loopw [8] (fun v wr=>∃i:Nat,i<=s/\v= .int .i64 i/\BoolF wr base e g n (mrkF f (zs.take i))/\Only g w wr) (fun v _=>s-(intOf v).toNat)
 case atStart=>exact⟨0,Zo,rfl,by have e0:mrkF f (zs.take 0)=f:=by {funext i;simp[mrkF]};rw[e0];exact hB,Only.refl _ _⟩
 case round=>
  obtain⟨i,hi9,rfl,hR,hO⟩:=hrel;clear hB
  by_cases hlt:i<s
  ·have hlt':(i:Int)<(s:Int):=by omega
   obtain⟨b,off,rfl,cs⟩:=HC.out wr hO i hlt;have hx:=hz'.out i (by rw[<-hs.out];exact hlt);have E:Hid _:=mrkF_step (f:=f) (zs:=zs) (r:=i) (by rw[<-hs.out];exact hlt);obtain⟨x,hxx⟩:∃x,Hid (x=zs.getD i 0):=⟨_,rfl⟩;rw[<-hxx.out]at cs hx E;have hx':(x:Int)<(n:Int):=Zo
   have c1:=hR.cell hx;have f1:=hR.free x;have HN:Hid (BoolF (World.setCell wr ⟨g,x,none⟩ (.bool true)) base e g n (mrkF f (zs.take (i+1)))):=hR.store hx true fun j _=>E.out j
   have HO:Hid (Only g w (World.setCell wr ⟨g,x,none⟩ (.bool true))):=hO.setCell x _;clear hR hO;go_wp2;go_roundw
   case rel=>exact⟨i+1,Zo,Zg,HN.out,HO.out⟩
   case measure=>simp[intOf];omega
  ·have hge:¬(i:Int)<(s:Int):=by omega
   have ei:i=s:=Zo
   have e2:zs.take i=zs:=by rw[ei,hs.out];exact List.take_length
   rw[e2]at hR;clear ei e2;go_wp2
   go_end0
   exact⟨rfl,hO,hR⟩
end Go.Proofs.YtddnfhfangfgeaaGreat.Gf
namespace Go.Proofs.YtddnfhfangfgeaaGreat.Gf
set_option linter.unusedVariables false
set_option linter.unusedSimpArgs false
def atF(hs:List Bool)(L:List (List UInt8))(t i:Nat):UInt8:=if hb hs i then co (ro L i) t else 0
def wdAt(hs:List Bool)(L:List (List UInt8))(n t:Nat):List UInt8:=upto (atF hs L t) n
theorem wdAt_length(hs:List Bool)(L:List (List UInt8))(n t:Nat):(wdAt hs L n t).length=n:=upto_length _ _
noncomputable def oneX(hs:List Bool)(L:List (List UInt8)):Int:=by
 classical
 exact if EvenH hs L/\∃i,hb hs i=true then (((ro L ((plc (hb hs) hs.length).getD 0 0)).length:Nat):Int)else-1
theorem hb_in{hs:List Bool}{i:Nat}(h:hb hs i=true):i<hs.length:=by
 rcases Nat.lt_or_ge i hs.length with k|k
 ·exact k
 ·rw[hb_ge k]at h;cases h
theorem oneX_ok{hs:List Bool}{L:List (List UInt8)}{n:Nat}(h0:∃i,hb hs i=true)(h:∀i,hb hs i=true->(ro L i).length=n):oneX hs L=(n:Int):=by
 unfold oneX;rw[if_pos ⟨fun i j hi hj=>(h i hi).trans (h j hj).symm,h0⟩];obtain⟨i,hi⟩:=h0;have hm:0<(plc (hb hs) hs.length).length:=List.length_pos_of_mem (plc_mem.2 ⟨hb_in hi,hi⟩);rw[h _ (plc_mem.1 (getD_mem hm)).2]
theorem oneX_none{hs:List Bool}{L:List (List UInt8)}(h:¬∃i,hb hs i=true):oneX hs L= -1:=by unfold oneX;rw[if_neg fun e=>h e.2]
theorem oneX_odd{hs:List Bool}{L:List (List UInt8)}{i j:Nat}(hi:hb hs i=true)(hj:hb hs j=true)(h:(ro L i).length≠(ro L j).length):oneX hs L= -1:=by unfold oneX;rw[if_neg fun e=>h (e.1 i j hi hj)]
theorem oneX_cases(hs:List Bool)(L:List (List UInt8)):oneX hs L= -1∨∃n:Nat,oneX hs L=(n:Int)/\(∀i,hb hs i=true->(ro L i).length=n)/\∃i,hb hs i=true:=by
 classical
 by_cases h:EvenH hs L/\∃i,hb hs i=true
 ·right;obtain⟨i,hi⟩:=h.2;exact⟨(ro L i).length,oneX_ok h.2 (fun j hj=>h.1 j i hj hi),fun j hj=>h.1 j i hj hi,h.2⟩
 ·left;unfold oneX;rw[if_neg h]
section
variable (k m:Nat) (hs:List Bool) (L:List (List UInt8))
noncomputable def pX(t:Nat):Int:=wdX k m (wdAt hs L (k+m) t) (notM hs)
noncomputable def pR(t:Nat):List UInt8:=wdR k m (wdAt hs L (k+m) t) (notM hs)
noncomputable def pP(t:Nat):List Nat:=wdP k m (wdAt hs L (k+m) t) (notM hs)
noncomputable def rowsP(r:Nat):List (List UInt8):=mkL (k+m) (fun i=>upto (fun t=>co (pR k m hs L t) i) r)
noncomputable def hurtP:Nat->Nat->Bool
 |0,_=>false
 |r+1,i=>mrkF (hurtP r) (pP k m hs L r) i
end
open Classical in
noncomputable def shX(k m:Int)(hs:List Bool)(L:List (List UInt8)):Int:=
 if OkC k m then (if (hs.length:Int)=k+m/\(L.length:Int)=k+m/\oneX hs L≠-1 then (if ∀t,t<(oneX hs L).toNat->pX k.toNat m.toNat hs L t=0 then 0 else 100)else 60)else 50
open Classical in
noncomputable def shR(k m:Int)(hs:List Bool)(L:List (List UInt8)):List (List UInt8):=if shX k m hs L=0 then rowsP k.toNat m.toNat hs L (oneX hs L).toNat else []
open Classical in
noncomputable def shP(k m:Int)(hs:List Bool)(L:List (List UInt8)):List Nat:=if shX k m hs L=0 then plc (hurtP k.toNat m.toNat hs L (oneX hs L).toNat) (k.toNat+m.toNat)else []
theorem sh_no{k m:Int}{hs:List Bool}{L:List (List UInt8)}{x:Int}(h:shX k m hs L=x)(hx:x≠0):shX k m hs L=x/\shR k m hs L=[]/\shP k m hs L=[]:=by
 refine⟨h,?_,?_⟩
 ·unfold shR;rw[h,if_neg hx]
 ·unfold shP;rw[h,if_neg hx]
theorem sh_bad{k m:Int}{hs:List Bool}{L:List (List UInt8)}(c:¬OkC k m):shX k m hs L=50/\shR k m hs L=[]/\shP k m hs L=[]:=sh_no (by unfold shX;rw[if_neg c]) Zd
theorem sh_shard{k m:Int}{hs:List Bool}{L:List (List UInt8)}(c:OkC k m)(d:¬((hs.length:Int)=k+m/\(L.length:Int)=k+m/\oneX hs L≠-1)):shX k m hs L=60/\shR k m hs L=[]/\shP k m hs L=[]:=sh_no (by unfold shX;rw[if_pos c,if_neg d]) Zd
theorem sh_many{k m n t:Nat}{hs:List Bool}{L:List (List UInt8)}(c:OkC k m)(h1:hs.length=k+m)(h2:L.length=k+m)(h3:oneX hs L=(n:Int))(ht:t<n)(hx:pX k m hs L t≠0):shX k m hs L=100/\shR k m hs L=[]/\shP k m hs L=[]:=by
 refine sh_no ?_ Zd
 unfold shX;rw[if_pos c,if_pos ⟨Zo,Zo,by rw[h3];omega⟩,if_neg];intro h;exact hx (h t (by rw[h3];exact ht))
theorem sh_ok{k m n:Nat}{hs:List Bool}{L:List (List UInt8)}(c:OkC k m)(h1:hs.length=k+m)(h2:L.length=k+m)(h3:oneX hs L=(n:Int))(hx:∀t,t<n->pX k m hs L t=0):shX k m hs L=0/\shR k m hs L=rowsP k m hs L n/\shP k m hs L=plc (hurtP k m hs L n) (k+m):=by
 have h0:shX k m hs L=0:=by
  unfold shX;rw[if_pos c,if_pos ⟨Zo,Zo,by rw[h3];omega⟩,if_pos];intro t ht;rw[h3]at ht;exact hx t ht
 refine⟨h0,?_,?_⟩
 ·unfold shR;rw[if_pos h0,h3];rfl
 ·unfold shP;rw[if_pos h0,h3];rfl
theorem pX_told{k m:Nat}{hs:List Bool}{L:List (List UInt8)}{t:Nat}(h1:1<=k)(h2:k+m<=256)(hl:hs.length=k+m):(pX k m hs L t=100/\pR k m hs L t=[]/\pP k m hs L t=[])∨(pX k m hs L t=0/\(pR k m hs L t).length=k+m/\(∀i,i<(pP k m hs L t).length->(pP k m hs L t).getD i 0<k+m)/\(pP k m hs L t).length<=256):=by
 have okc:OkC (k:Int) (m:Int):=⟨Zo,Zo,Zo⟩;have okw:OkW (k:Int) (m:Int) (wdAt hs L (k+m) t) (notM hs):=⟨by rw[wdAt_length];omega,by rw[notM_length];omega⟩
 by_cases h:IsNear k m (wdAt hs L (k+m) t) (notM hs)
 ·right;obtain⟨c,hc⟩:=h;obtain⟨e1,e2,e3⟩:=wd_ok okc okw hc;refine⟨e1,?_,?_,?_⟩
  ·unfold pR;rw[e2,upto_length]
  ·intro i hi;unfold pP at hi ⊢;rw[e3]at hi ⊢;have:=List.getElem_mem hi;have hm:(plc (wrg (co (wdAt hs L (k+m) t)) c (hb (notM hs))) (k+m)).getD i 0∈plc (wrg (co (wdAt hs L (k+m) t)) c (hb (notM hs))) (k+m):=by
    simp only[List.getD,List.getElem?_eq_getElem hi,Option.getD_some];exact this
   exact(plc_mem.1 hm).1
  ·unfold pP;rw[e3,plc_length];have:=cnt_le (wrg (co (wdAt hs L (k+m) t)) c (hb (notM hs))) (k+m);omega
 ·left;exact wd_many okc okw h
theorem rowsP_length(k m:Nat)(hs:List Bool)(L:List (List UInt8))(r:Nat):(rowsP k m hs L r).length=k+m:=mkL_length _ _
theorem rowsP_ro{k m:Nat}{hs:List Bool}{L:List (List UInt8)}{r i:Nat}(hi:i<k+m):ro (rowsP k m hs L r) i=upto (fun t=>co (pR k m hs L t) i) r:=ro_mkL hi
theorem rowsP_zero(k m:Nat)(hs:List Bool)(L:List (List UInt8)):rowsP k m hs L 0=mkL (k+m) (fun _=>[]):=mkL_congr fun i hi=>rfl
noncomputable def layF(R:List (List UInt8))(p:List UInt8)(r i:Nat):List UInt8:=if i<r then ro R i++[co p i]else ro R i
theorem layF_zero(R:List (List UInt8))(p:List UInt8):layF R p 0=ro R:=by funext i;exact if_neg (Nat.not_lt_zero _)
theorem layF_old(R:List (List UInt8))(p:List UInt8)(r:Nat):layF R p r r=ro R r:=if_neg (Nat.lt_irrefl _)
theorem layF_new(R:List (List UInt8))(p:List UInt8)(r:Nat):layF R p (r+1) r=ro R r++[co p r]:=if_pos (Nat.lt_succ_self _)
theorem layF_step{R:List (List UInt8)}{p:List UInt8}{r i:Nat}(h:i≠r):layF R p (r+1) i=layF R p r i:=by
 unfold layF
 by_cases e:i<r
 ·rw[if_pos e,if_pos Zo]
 ·rw[if_neg e,if_neg Zo]
theorem rowsP_next{k m:Nat}{hs:List Bool}{L:List (List UInt8)}{r i:Nat}(hi:i<k+m):layF (rowsP k m hs L r) (pR k m hs L r) (k+m) i=ro (rowsP k m hs L (r+1)) i:=by
 unfold layF;rw[if_pos hi,rowsP_ro hi,rowsP_ro hi];unfold upto;rw[List.range_succ,List.map_append];rfl
open Go.RowKit
theorem cnt_none{p:Nat->Bool}{n:Nat}(h:∀i,i<n->p i=false):cnt p n=0:=by
 induction n with
 |zero=>rfl
 |succ n ih=>rw[cnt,ih fun i hi=>h i Zo,h n Zo];rfl
theorem plc_none{p:Nat->Bool}{n:Nat}(h:∀i,i<n->p i=false):plc p n=[]:=List.length_eq_zero_iff.1 (by rw[plc_length,cnt_none h])
theorem many10{k m:Nat}{W:List UInt8}{ms:List Bool}(h1:1<=k)(h2:k+m<=256)(hWl:W.length=k+m)(hml:ms.length=k+m)(hf:m<cnt (hb ms) (k+m)):wdX k m W ms=100/\wdR k m W ms=[]/\wdP k m W ms=[]:=by
 have okc:OkC (k:Int) (m:Int):=⟨Zo,Zo,Zo⟩;refine wd_many okc ⟨Zo,Zo⟩ ?_
 rintro⟨c,hc⟩;have:=hc.few;omega
end Go.Proofs.YtddnfhfangfgeaaGreat.Gf
