/- JOINED: MeFul, MeMix, MeAwM, MeAw. -/
import Derived.Test.YtclieefpnbdbjaaGreatPome34
set_option maxHeartbeats 4000000
set_option maxRecDepth 100000
namespace Go.Proofs.YtclieefpnbdbjaaGreat.Gf
set_option linter.unusedVariables false
set_option linter.unusedSimpArgs false
instance:Inhabited RcS:=⟨⟨0,[],0,[]⟩⟩
def seB(ad e:Int)(d:List UInt8):List UInt8:=pkS ad.toNat e.toNat d
def fulF(ar ep:Int)(L:List ObS)(K:List RcS):Int->Option (List UInt8):=fun q=>
 if q=0 then some lbB else if q=1+ar*2 then some (seB q ep ((snB L).take 4096))else if q=2+ar*2 then some (seB q ep ((snB L).drop 4096))else
 if 5<=q/\q<5+(K.length:Int)then some (seB q (ep+(q-5)+1) (enR (K.getD (q-5).toNat default)))else none
section
variable {a:ArS} {n S:Nat} {F W:Int->Option (List UInt8)} {g:GeoS}
theorem uni_save(h:UniW a n S F noneI)(hn:1<=n){ar ep:Int}{L:List ObS}(hP:svP g ar ep L=0)(hS:(5:Int)<=S):
  svX a g ar ep L=0/\UniW (svS a g ar ep L) n S (putB (putB F (1+ar*2) (seB (1+ar*2) ep ((snB L).take 4096))) (2+ar*2) (seB (2+ar*2) ep ((snB L).drop 4096))) noneI:=by
 obtain⟨m1,m2,m3,m4,m5,m6⟩:=sv_may hP;obtain⟨s1,s2⟩:=sv_se hP;have a0:=ar_at m1 m2 m3 (i:=0) Zo Zo;have a1:=ar_at m1 m2 m3 (i:=1) Zo Zo;rw[a0]at s1;rw[a1]at s2;have eA:svA a g ar ep L=wvP a (1+ar*2+0) ep ((snB L).take 4096):=by unfold svA;rw[a0]
 obtain⟨p1,p2,p3⟩:=uw_put h s1 Zo;rw[<-eA]at p1 p2 p3;have eB:svB a g ar ep L=wvP (svA a g ar ep L).st (1+ar*2+1) ep ((snB L).drop 4096):=by unfold svB;rw[a1]
 obtain⟨q1,q2,q3⟩:=uw_put p3 s2 Zo;rw[<-eB]at q1 q2 q3;obtain⟨f1,f2⟩:=uw_flush q3;rw[over_put2]at f2;have nn:¬¬svP g ar ep L=0:=fun k=>k hP
 have n1:¬(svA a g ar ep L).cr=true:=by rw[p1];decide
 have n2:¬(svB a g ar ep L).cr=true:=by rw[q1];decide
 refine⟨?_,?_⟩
 ·unfold svX;rw[if_neg nn,if_neg n1,if_neg n2,f1,if_neg (fun k=>k rfl),if_neg (by rw[p2,q2];omega)]
 ·unfold svS;rw[if_neg nn,if_neg n1,if_neg n2];have e0:(1+ar*2+0:Int)=1+ar*2:=by omega
  have e1:(1+ar*2+1:Int)=2+ar*2:=Zo
  rw[e0,e1]at f2;exact f2
theorem uni_app(h:UniW a n S F noneI)(hn:1<=n){base count:Int}{r:RcS}(hP:apP g base count r=0)(hS:5+g.t<=(S:Int)):
  apX a g base count r=0/\UniW (apS a g base count r) n S (putB F (5+count) (seB (5+count) (base+count+1) (enR r))) noneI:=by
 obtain⟨m1,m2,m3,m4,m5,m6⟩:=ap_may hP;have s1:=ap_se hP;have e0:slG g count=5+count:=if_pos ⟨m1,m3,m6⟩;rw[e0]at s1;have eW:apW a g base count r=wvP a (5+count) (base+count+1) (enR r):=by unfold apW;rw[e0]
 obtain⟨p1,p2,p3⟩:=uw_put h s1 Zo;rw[<-eW]at p1 p2 p3;obtain⟨f1,f2⟩:=uw_flush p3;rw[over_put]at f2;have nn:¬¬apP g base count r=0:=fun k=>k hP
 have n1:¬(apW a g base count r).cr=true:=by rw[p1];decide
 refine⟨?_,?_⟩
 ·unfold apX;rw[if_neg nn,if_neg n1,f1,if_neg (fun k=>k rfl),if_neg (by rw[p2];omega)]
 ·unfold apS;rw[if_neg nn,if_neg n1];exact f2
theorem ful_label{ar:Int}(h0:0<=ar)(ep:Int)(L:List ObS):putB (putB (putB noneI 0 lbB) (1+ar*2) (seB (1+ar*2) ep ((snB L).take 4096))) (2+ar*2) (seB (2+ar*2) ep ((snB L).drop 4096))=fulF ar ep L []:=by
 funext q;unfold putB fulF noneI
 by_cases q2:q=2+ar*2
 ·rw[if_pos q2,if_neg Zo,if_neg Zo,if_pos q2,q2]
 ·rw[if_neg q2]
  by_cases q1:q=1+ar*2
  ·rw[if_pos q1,if_neg Zo,if_pos q1,q1]
  ·rw[if_neg q1]
   by_cases q0:q=0
   ·rw[if_pos q0,if_pos q0]
   ·rw[if_neg q0,if_neg q0,if_neg q1,if_neg q2,if_neg (by show ¬(5<=q/\q<5+((0:Nat):Int));omega)]
theorem ful_put{ar:Int}(h0:0<=ar)(h1:ar<=1)(ep:Int)(L:List ObS)(K:List RcS)(r:RcS):putB (fulF ar ep L K) (5+(K.length:Int)) (seB (5+(K.length:Int)) (ep+(K.length:Int)+1) (enR r))=fulF ar ep L (K++[r]):=by
 funext q;unfold putB
 by_cases e:q=5+(K.length:Int)
 ·rw[if_pos e];unfold fulF;rw[if_neg Zo,if_neg Zo,if_neg Zo,if_pos (by rw[List.length_append];simp;omega)];have e2:(q-5).toNat=K.length:=by omega
  have e3:q-5=(K.length:Int):=Zo
  rw[e2,e3,e];simp[List.getD]
 ·rw[if_neg e];unfold fulF
  by_cases q0:q=0
  ·rw[if_pos q0,if_pos q0]
  ·rw[if_neg q0,if_neg q0]
   by_cases q1:q=1+ar*2
   ·rw[if_pos q1,if_pos q1]
   ·rw[if_neg q1,if_neg q1]
    by_cases q2:q=2+ar*2
    ·rw[if_pos q2,if_pos q2]
    ·rw[if_neg q2,if_neg q2]
     by_cases q3:5<=q/\q<5+(K.length:Int)
     ·have hl:(q-5).toNat<K.length:=by omega
      rw[if_pos q3,if_pos (by rw[List.length_append];simp;omega)];congr 3;simp[List.getD,List.getElem?_append_left hl]
     ·rw[if_neg q3,if_neg (by rw[List.length_append];simp;omega)]
theorem uni_next{ar ep:Int}{L:List ObS}{K:List RcS}(h0:0<=ar)(h1:ar<=1)(h:UniW a n S (fulF ar ep L K) noneI)(hn:1<=n)(hg:okG g)(he:0<=ep/\ep<=mo18)(hS:5+g.t<=(S:Int))(r:RcS):
  (OkR r/\K.length<g.t.toNat->apX a g ep (K.length:Int) r=0/\UniW (apS a g ep (K.length:Int) r) n S (fulF ar ep L (K++[r])) noneI)/\(¬(OkR r/\K.length<g.t.toNat)->¬apX a g ep (K.length:Int) r=0/\apS a g ep (K.length:Int) r=a):=by
 refine⟨fun q=>?_,fun q=>?_⟩
 ·have hP:apP g ep (K.length:Int) r=0:=by
   unfold apP;rw[if_neg (fun k=>k hg),if_neg (fun k=>k ⟨he.1,Zo,he.2,q.1⟩),if_neg Zo]
  obtain⟨u1,u2⟩:=uni_app h hn hP hS;rw[ful_put h0 h1]at u2;exact⟨u1,u2⟩
 ·have hP:¬apP g ep (K.length:Int) r=0:=by
   unfold apP;rw[if_neg (fun k=>k hg)]
   by_cases k:OkR r
   ·rw[if_neg (fun k2=>k2 ⟨he.1,Zo,he.2,k⟩),if_pos (by have:=mt (fun x=>And.intro k x) q;omega)];decide
   ·rw[if_pos (fun k2=>k k2.2.2.2)];decide
  unfold apX apS;rw[if_pos hP,if_pos hP];exact⟨hP,rfl⟩
theorem told_one{K:List Bool}{ad e:Int}{d:List UInt8}(ho:a.off=false){k:Nat}(hk:k<a.D.length)(hv:isV (sayV a ad k) e d=true)(h:∀i,i<a.D.length->(sayV a ad i).is=true->(sayV a ad i).ep=e/\(sayV a ad i).da=d):(rvV a K ad).has=true/\(rvV a K ad).ep=e/\(rvV a K ad).da=d:=by
 unfold rvV;rw[if_neg (by rw[ho];decide),vo_top (top_one hk hv h) K];exact⟨rfl,rfl,rfl⟩
theorem told_none{K:List Bool}{ad:Int}(ho:a.off=false)(h:∀i,i<a.D.length->(sayV a ad i).is=false):(rvV a K ad).has=false/\(rvV a K ad).ep=0/\(rvV a K ad).da=[]:=by
 unfold rvV;rw[if_neg (by rw[ho];decide),vo_none (fun i hi=>by rw[sayL_length]at hi;rw[sF_say hi];exact h i hi) K];exact⟨rfl,rfl,rfl⟩
theorem wi_some{S:List SaS}{K:List Bool}{k:Nat}(hk:hb K k=true)(h:(sF S k).is=true∨(sF S k).no=true):∀r,k<r->wiF S K r=true
 |0,h0=>Zo
 |r+1,h0=>by
  unfold wiF
  by_cases e:k=r
  ·subst e;rw[hk]
   rcases h with h|h<;>rw[h]<;>simp
  ·rw[wi_some hk h r Zo];rfl
theorem told_wit{K:List Bool}{ad:Int}(ho:a.off=false){k:Nat}(hk:k<a.D.length)(hK:hb K k=true)(h:(sayV a ad k).is=true∨(sayV a ad k).no=true):(rvV a K ad).wi=true:=by
 unfold rvV;rw[if_neg (by rw[ho];decide)];have e:(votS (sayL a ad) K).wi=wiF (sayL a ad) K a.D.length:=by
  unfold votS;rw[vot_wi,sayL_length]
 rw[e];exact wi_some hK (by rw[sF_say hk];exact h) _ hk
structure Seen(a:ArS)(K:List Bool)(k S:Nat)(F N:Int->Option (List UInt8)):Prop where
 calm:Calm a
 hk:k<a.D.length
 hK:hb K k=true
 each:∀i:Nat,i<a.D.length->∀q,rdB (diA a (i:Int)) q=[]∨F q=some (rdB (diA a (i:Int)) q)∨N q=some (rdB (diA a (i:Int)) q)
 keep:∀q,0<=q->q<(S:Int)->faX (diA a (k:Int)) q=0/\(N q=none->rdB (diA a (k:Int)) q=(F q).getD [])
section
variable {K:List Bool} {k:Nat} {N:Int->Option (List UInt8)}
theorem seen_no(h:Seen a K k S F N){i:Nat}(hi:i<a.D.length){q:Int}(he:rdB (diA a (i:Int)) q=[]):(sayV a q i).is=false:=say_no h.calm.1 hi (by rw[he];intro u;have:=u.1;simp at this)
theorem seen_is(h:Seen a K k S F N){i:Nat}(hi:i<a.D.length){q e:Int}{d:List UInt8}(hs:OkSe q e d.length)(he:rdB (diA a (i:Int)) q=seB q e d):sayV a q i=⟨true,false,e,d⟩:=by
 have hne:seB q e d≠[]:=fun k=>by have:=congrArg List.length k;rw[show seB q e d=pkS q.toNat e.toNat d from rfl,pk_length]at this;simp at this
 exact say_at h.calm.1 hi (rdB_some he hne).1 he hs
theorem seen_wit(h:Seen a K k S F N){q:Int}(q0:0<=q)(q1:q<(S:Int))(hs:(sayV a q k).is=true∨rdB (diA a (k:Int)) q=[]):(rvV a K q).wi=true:=by
 refine told_wit h.calm.1 h.hk h.hK ?_
 rcases hs with hs|hs
 ·exact Or.inl hs
 ·right;have ht:thA a (k:Int):=⟨Zo,by have:=h.hk;omega⟩
  show decide (rdAX a (k:Int) q=0/\rdAB a (k:Int) q=[])=true
  rw[decide_eq_true_eq,rdAX_at h.calm.1 ht,rd_at h.calm.1 ht];exact⟨(h.keep q q0 q1).1,hs⟩
theorem seen_old(h:Seen a K k S F N){q e:Int}{d:List UInt8}(q0:0<=q)(q1:q<(S:Int))(hN:N q=none)(hF:F q=some (seB q e d))(hs:OkSe q e d.length):(rvV a K q).has=true/\(rvV a K q).ep=e/\(rvV a K q).da=d/\(rvV a K q).wi=true:=by
 have hk:rdB (diA a (k:Int)) q=seB q e d:=by rw[(h.keep q q0 q1).2 hN,hF];rfl
 have sk:=seen_is h h.hk hs hk;obtain⟨t1,t2,t3⟩:=told_one (K:=K) h.calm.1 h.hk (isV_mk sk) (fun i hi his=>by
  rcases h.each i hi q with k1|k1|k1
  ·rw[seen_no h hi k1]at his;cases his
  ·rw[hF]at k1;have:=seen_is h hi hs (Option.some.inj k1).symm;rw[this];exact⟨rfl,rfl⟩
  ·rw[hN]at k1;cases k1)
 exact⟨t1,t2,t3,seen_wit h q0 q1 (Or.inl (by rw[sk]))⟩
theorem seen_nil(h:Seen a K k S F N){q:Int}(q0:0<=q)(q1:q<(S:Int))(hN:N q=none)(hF:F q=none):(rvV a K q).has=false/\(rvV a K q).ep=0/\(rvV a K q).da=[]/\(rvV a K q).wi=true:=by
 have all:∀i:Nat,i<a.D.length->rdB (diA a (i:Int)) q=[]:=fun i hi=>by
  rcases h.each i hi q with k1|k1|k1
  ·exact k1
  ·rw[hF]at k1;cases k1
  ·rw[hN]at k1;cases k1
 obtain⟨t1,t2,t3⟩:=told_none (K:=K) (ad:=q) h.calm.1 (fun i hi=>seen_no h hi (all i hi));exact⟨t1,t2,t3,seen_wit h q0 q1 (Or.inr (all k h.hk))⟩
theorem seen_area{ar ep:Int}{L:List ObS}{R:List RcS}(h:Seen a K k S (fulF ar ep L R) N)(hP:svP g ar ep L=0)(hS:(5:Int)<=S)(hN1:N (1+ar*2)=none)(hN2:N (2+ar*2)=none):
  (onA a g K ar).ep=ep/\(onA a g K ar).ob=L/\(onA a g K ar).whole=true:=by
 obtain⟨m1,m2,m3,m4,m5,m6⟩:=sv_may hP;obtain⟨s1,s2⟩:=sv_se hP;have a0:=ar_at m1 m2 m3 (i:=0) Zo Zo;have a1:=ar_at m1 m2 m3 (i:=1) Zo Zo;have e0:(1+ar*2+0:Int)=1+ar*2:=Zo
 have e1:(1+ar*2+1:Int)=2+ar*2:=Zo
 rw[e0]at a0;rw[e1]at a1;rw[a0]at s1;rw[a1]at s2;have f1:fulF ar ep L R (1+ar*2)=some (seB (1+ar*2) ep ((snB L).take 4096)):=by unfold fulF;rw[if_neg Zo,if_pos rfl]
 have f2:fulF ar ep L R (2+ar*2)=some (seB (2+ar*2) ep ((snB L).drop 4096)):=by unfold fulF;rw[if_neg Zo,if_neg Zo,if_pos rfl]
 obtain⟨x1,x2,x3,x4⟩:=seen_old h Zo Zo hN1 f1 s1;obtain⟨y1,y2,y3,y4⟩:=seen_old h Zo Zo hN2 f2 s2;have eL:onL [(snB L).take 4096,(snB L).drop 4096]=some L:=onL_some (isP_sn m6);have v0:onV a g K ar 0=rvV a K (1+ar*2):=by unfold onV;rw[a0]
 have v1:onV a g K ar 1=rvV a K (2+ar*2):=by unfold onV;rw[a1]
 unfold onA;rw[v0,v1,x1,x2,x3,y1,y2,y3,eL];exact⟨rfl,rfl,Zs⟩
theorem seen_bare{ar:Int}(h:Seen a K k S F N)(hg:okG g)(h0:0<=ar)(h1:ar<=1)(hS:(5:Int)<=S)(hF1:F (1+ar*2)=none)(hF2:F (2+ar*2)=none)(hN1:N (1+ar*2)=none)(hN2:N (2+ar*2)=none):(onA a g K ar).whole=false/\(onA a g K ar).wit=true:=by
 have a0:=ar_at hg h0 h1 (i:=0) Zo Zo;have a1:=ar_at hg h0 h1 (i:=1) Zo Zo;have e0:(1+ar*2+0:Int)=1+ar*2:=Zo
 have e1:(1+ar*2+1:Int)=2+ar*2:=Zo
 rw[e0]at a0;rw[e1]at a1;obtain⟨x1,x2,x3,x4⟩:=seen_nil h Zo Zo hN1 hF1;obtain⟨y1,y2,y3,y4⟩:=seen_nil h Zo Zo hN2 hF2;have v0:onV a g K ar 0=rvV a K (1+ar*2):=by unfold onV;rw[a0]
 have v1:onV a g K ar 1=rvV a K (2+ar*2):=by unfold onV;rw[a1]
 unfold onA;rw[v0,v1,x1,x4,y4];exact⟨Zs,rfl⟩
theorem latest_old{ar:Int}(hg:okG g)(ho:a.off=false)(h01:ar=0∨ar=1)(hA:(onA a g K ar).whole=true)(hB:(onA a g K (1-ar)).whole=false/\(onA a g K (1-ar)).wit=true):ltX a g K=0/\ltA a g K=onA a g K ar:=by
 have x0:ltX a g K=ltE (onA a g K 0) (onA a g K 1):=by unfold ltX;rw[if_neg (fun k=>k hg),if_neg (by rw[ho];decide)]
 unfold ltA;rw[x0]
 rcases h01 with rfl|rfl
 ·rw[show(1-0:Int)=1 from rfl]at hB;have e:ltE (onA a g K 0) (onA a g K 1)=0:=by unfold ltE;rw[hA,hB.1,hB.2];simp
  rw[e,if_pos rfl];refine⟨rfl,?_⟩;unfold ltW;rw[hA,hB.1];simp
 ·rw[show(1-1:Int)=0 from rfl]at hB;have e:ltE (onA a g K 0) (onA a g K 1)=0:=by unfold ltE;rw[hA,hB.1,hB.2];simp
  rw[e,if_pos rfl];refine⟨rfl,?_⟩;unfold ltW;rw[hB.1];simp
theorem rec_se{ep:Int}{i:Nat}{r:RcS}(he:0<=ep/\ep<=mo18)(hr:OkR r)(hi:i<64):OkSe (5+(i:Int)) (ep+(i:Int)+1) (enR r).length:=by
 have hk:=hr.2.2.1;have hs:=hr.2.2.2.2.2.1;unfold mo18 at he;rw[enR_length];exact⟨⟨Zo,Zo⟩,⟨Zo,Zo⟩,Zo⟩
theorem sl_at(hg:okG g){i:Nat}(hi:i<g.t.toNat):slG g (i:Int)=5+(i:Int):=if_pos ⟨hg,Zo,Zo⟩
theorem ful_slot{ar ep:Int}{L:List ObS}{R:List RcS}(h0:0<=ar)(h1:ar<=1){i:Nat}:fulF ar ep L R (5+(i:Int))=if i<R.length then some (seB (5+(i:Int)) (ep+(i:Int)+1) (enR (R.getD i default)))else none:=by
 unfold fulF;rw[if_neg Zo,if_neg Zo,if_neg Zo];have e:(5+(i:Int)-5).toNat=i:=Zo
 have e2:5+(i:Int)-5=(i:Int):=Zo
 rw[e,e2]
 by_cases q:i<R.length
 ·rw[if_pos Zo,if_pos q]
 ·rw[if_neg Zo,if_neg q]
theorem seen_slot{ar ep:Int}{L:List ObS}{R:List RcS}(h:Seen a K k S (fulF ar ep L R) N)(hg:okG g)(h0:0<=ar)(h1:ar<=1)(he:0<=ep/\ep<=mo18)(hR:∀x∈R,OkR x)(hS:5+g.t<=(S:Int)){i:Nat}(hi:i<g.t.toNat)(hN:N (5+(i:Int))=none):
  (i<R.length->rlF a g K ep i=true/\raR (rlV a g K i).da=R.getD i default)/\(R.length<=i->rlF a g K ep i=false/\(rlV a g K i).wi=true):=by
 have ht:g.t<=64:=by
  obtain⟨_,_,_,_,_,_,_,_,q,_⟩:=hg;exact q
 have fs:=@ful_slot ar ep L R h0 h1 i;have eV:rlV a g K i=rvV a K (5+(i:Int)):=by unfold rlV;rw[sl_at hg hi]
 refine⟨fun q=>?_,fun q=>?_⟩
 ·rw[if_pos q]at fs;have ok:OkR (R.getD i default):=hR _ (by rw[show R.getD i default=R[i] by simp[List.getD,q]];exact List.getElem_mem q);obtain⟨x1,x2,x3,x4⟩:=seen_old h Zo Zo hN fs (rec_se he ok Zo);obtain⟨y1,y2⟩:=isR_en ok;rw[eV,x3,y2];refine⟨?_,rfl⟩;unfold rlF;rw[eV,x1,x2,x3];exact @Zy _ (Classical.propDecidable _) ⟨rfl,rfl,y1⟩
 ·rw[if_neg Zo]at fs;obtain⟨x1,x2,x3,x4⟩:=seen_nil h Zo Zo hN fs;rw[eV];refine⟨?_,x4⟩;unfold rlF;rw[eV,x1];exact @Zx _ (Classical.propDecidable _) (fun k=>by cases k.1)
theorem replay_is{ep:Int}{R:List RcS}(hg:okG g)(he:0<=ep/\ep<=mo18)(ho:a.off=false)(hl:R.length<=g.t.toNat)(hy:∀i,i<R.length->rlF a g K ep i=true/\raR (rlV a g K i).da=R.getD i default)(hn:R.length<g.t.toNat->rlF a g K ep R.length=false/\(rlV a g K R.length).wi=true):rlX a g K ep=0/\rlR a g K ep=R:=by
 have eM:(List.range R.length).map (fun i=>raR (rlV a g K i).da)=R:=by
  refine List.ext_getElem Zs fun i h1 h2=>?_
  rw[List.getElem_map,List.getElem_range,(hy i h2).2];simp[List.getD,h2]
 have main:rlX a g K ep=if rlN a g K ep<g.t.toNat/\(rlV a g K (rlN a g K ep)).wi=false then 150 else 0:=by
  unfold rlX;rw[if_neg (fun k=>k hg),if_neg (fun k=>k he),if_neg (by rw[ho];decide)]
 have eN:rlN a g K ep=R.length:=by
  by_cases q:R.length<g.t.toNat
  ·exact ru_stop (fun i hi=>(hy i hi).1) q (hn q).1
  ·have e:g.t.toNat=R.length:=by omega
   unfold rlN;rw[e];exact ru_full fun i hi=>(hy i hi).1
 rw[eN]at main;have x:rlX a g K ep=0:=by
  rw[main,if_neg];rintro⟨q,w⟩;rw[(hn q).2]at w;cases w
 refine⟨x,?_⟩;unfold rlR;rw[if_pos x,eN,eM]
end
end
section
variable {a:ArS} {n S:Nat} {F N W:Int->Option (List UInt8)} {g:GeoS}
theorem kn_hb(ho:a.off=false){i:Nat}(hi:i<a.D.length):hb (knL a) i=knF a i:=by
 unfold knL;rw[if_neg (by rw[ho];decide)];simp[hb,List.getD,hi]
end
theorem seen_uni{a:ArS}{n S:Nat}{F:Int->Option (List UInt8)}{K:List Bool}{k:Nat}(h:UniW a n S F noneI)(hk:k<n)(hK:hb K k=true):Seen a K k S F noneI:=by
 have rk:∀i:Nat,i<n->∀q,0<=q->q<(S:Int)->faX (diA a (i:Int)) q=0/\rdB (diA a (i:Int)) q=(F q).getD []:=fun i hi q q0 q1=>by
  rw[h.di i hi];have f:faX (⟨S,F,noneI,false⟩:DkS) q=0:=faX_ok (d:=⟨S,F,noneI,false⟩) rfl ⟨q0,q1⟩;refine⟨f,?_⟩;unfold rdB;rw[if_pos f];rfl
 refine⟨h.calm,by rw[h.len];exact hk,hK,fun i hi q=>?_,fun q q0 q1=>⟨(rk k hk q q0 q1).1,fun _=>(rk k hk q q0 q1).2⟩⟩;rw[h.len]at hi
 by_cases q0:0<=q/\q<(S:Int)
 ·rw[(rk i hi q q0.1 q0.2).2];cases F q with
  |none=>exact Or.inl rfl
  |some b=>exact Or.inr (Or.inl rfl)
 ·left;rw[h.di i hi];unfold rdB;rw[if_neg];intro k;exact q0 (faX_zero k).2
theorem knows_uni{a:ArS}{n S:Nat}{F:Int->Option (List UInt8)}(h:UniW a n S F noneI){k:Nat}(hk:k<n)(hS:1<=S)(hF:F 0=some lbB):hb (knL a) k=true/\(knL a).length=n/\knX a=0:=by
 have ho:=h.calm.1;refine⟨?_,?_,?_⟩
 ·rw[kn_hb ho (by rw[h.len];exact hk),kn_iff h.calm (by rw[h.len];exact hk),h.di k hk];have f:faX (⟨S,F,noneI,false⟩:DkS) 0=0:=faX_ok (d:=⟨S,F,noneI,false⟩) rfl ⟨Zo,by show(0:Int)<(S:Int);omega⟩;refine Zy ?_
  unfold rdB;rw[if_pos f]
  show(F 0).getD []=_
  rw[hF];rfl
 ·unfold knL;rw[ho,if_neg Zs,List.length_map,List.length_range,h.len]
 ·unfold knX;rw[ho];rfl
def tyG:GeoS:=⟨1,1,1,2,2,2⟩
def awR:RcS:=⟨1,[97],0,[]⟩
def aw1:ArS:=lbS (newA 2 9) [0,1]
noncomputable def aw2:ArS:=svS aw1 tyG 0 0 []
noncomputable def aw3:ArS:=apS aw2 tyG 0 0 awR
theorem ty_ok:okG tyG:=Zd
theorem ty_may:MayL []:=⟨Zd,fun i hi=>absurd hi (Nat.not_lt_zero i),Zd⟩
theorem ty_sv:svP tyG 0 0 []=0:=by
 unfold svP;rw[if_neg (fun k=>k ty_ok),if_pos (@Zy _ (Classical.propDecidable _) ⟨Zd,Zd,Zd,Zd,ty_may⟩)]
theorem aw_u1:UniW aw1 2 9 (putB noneI 0 lbB) noneI:=uni_label (n:=2) (S:=9) Zd
theorem aw_l:lbX (newA 2 9) [0,1]=0:=(lb_end (calm_new 2 9)).1
theorem aw_k:hb (knL aw1) 0=true/\(knL aw1).length=2/\knX aw1=0:=knows_uni aw_u1 Zd Zd rfl
theorem aw_s:svX aw1 tyG 0 0 []=0/\UniW aw2 2 9 (fulF 0 0 [] []) noneI:=by
 obtain⟨h1,h2⟩:=uni_save aw_u1 Zd ty_sv Zd;rw[ful_label Zd]at h2;exact⟨h1,h2⟩
theorem aw_t:ltX aw2 tyG (knL aw1)=0/\(ltA aw2 tyG (knL aw1)).ep=0/\(ltA aw2 tyG (knL aw1)).ob=[]:=by
 have sn:=seen_uni aw_s.2 Zd aw_k.1;obtain⟨e1,e2,e3⟩:=seen_area sn ty_sv Zd rfl rfl;have b:=seen_bare (g:=tyG) (ar:=1) sn ty_ok Zd Zd Zd rfl rfl rfl rfl;obtain⟨x1,x2⟩:=latest_old (ar:=0) ty_ok sn.calm.1 (Or.inl rfl) e3 b;rw[x2];exact⟨x1,e1,e2⟩
theorem aw_a:apX aw2 tyG 0 0 awR=0/\UniW aw3 2 9 (fulF 0 0 [] [awR]) noneI:=
 (uni_next (K:=[]) Zd Zd aw_s.2 Zd ty_ok Zd Zd awR).1 Zd
theorem aw_r:rlX aw3 tyG (knL aw1) 0=0/\rlR aw3 tyG (knL aw1) 0=[awR]:=by
 have sn:=seen_uni aw_a.2 Zd aw_k.1;have ss:=fun (i:Nat) (hi:i<tyG.t.toNat)=>seen_slot (g:=tyG) sn ty_ok Zd Zd Zd Zd Zd hi rfl
 exact replay_is ty_ok Zd sn.calm.1 Zd (fun i hi=>(ss i (by have:i<1:=hi;show i<2;omega)).1 hi) (fun _=>(ss 1 Zd).2 Zd)
theorem aw_f:apX aw3 tyG 0 2 awR=180:=by
 have e:apP tyG 0 2 awR=180:=Zd
 unfold apX;rw[e];rfl
open Go.RowKit
theorem mtiny_any{w:World}:Calls Tryz.prog 32 #[] w fun e w'=>e= .returned (aggG tyG)/\Below w.heap.size w w':=by
 have b:=belR w (.cells #[.int .i64 1,.int .i64 1,.int .i64 1,.int .i64 2,.int .i64 2,.int .i64 2] 23)
 go_enter Tryz.func32,Tryz.ntmps32
 go_wp2;exact bodyPost_ret (v:=aggG tyG) (by simp[results,Tryz.results32,go_sem];rfl) rfl ⟨rfl,b⟩
theorem RdB.turnG{G:Nat->Prop}{w w':World}{v:Value}{h:List Bool}(r:RdB w v h)(ha:ApartG G v)(ho:TurnG G w w'):RdB w' v h:=by
 obtain⟨a,cap,h1,h2,h3,h4,h5⟩:=r;refine⟨a,cap,h1,h2,h3,h4,fun i hi=>?_⟩;obtain⟨b,off,k1,k2,k3⟩:=h5 i hi;have hb:¬G b:=by
  rcases ha ⟨b,off,none⟩ h.length cap (by rw[h1,k1])with e|e
  ·omega
  ·exact e
 exact⟨b,off,k1,Zu k2 ho.size,(ho.cell (p:=⟨b,off+i,none⟩) k2 hb).trans k3⟩
structure ToldB(w:World)(G:Nat->Prop)(v:Value)(h:List Bool):Prop where
 rd:RdB w v h
 ap:ApartG G v
section
variable {w w':World} {G G':Nat->Prop} {v:Value} {h:List Bool}
theorem ToldB.below(t:ToldB w G v h)(b:Below w.heap.size w w'):ToldB w' G v h:=⟨t.rd.below b,t.ap⟩
theorem ToldB.grew(t:ToldB w G v h)(g:Grew G w G' w'):ToldB w' G' v h:=⟨t.rd.turnG t.ap g.turn,fun x n c e=>by
 rcases t.ap x n c e with k|k
 ·exact Or.inl k
 ·obtain⟨a,cap,h1,h2,h3,h4,h5⟩:=t.rd
  by_cases z:h.length=0
  ·left;rw[h1]at e;simp at e;omega
  ·obtain⟨b,off,k1,k2,k3⟩:=h5 0 Zo;right;have e2:x=⟨b,off,none⟩:=by rw[h1,k1]at e;simp at e;exact e.1.symm
   rw[e2]at k ⊢;exact g.off k2 k⟩
end
structure CellAt(w:World)(G:Nat->Prop)(b j:Nat)(x:Value):Prop where
 at_:w.cell? ⟨b,j,none⟩=some x
 lt:b<w.heap.size
 ap:¬G b
section
variable {w w':World} {G G':Nat->Prop} {b j:Nat} {x:Value}
theorem CellAt.below(t:CellAt w G b j x)(h:Below w.heap.size w w'):CellAt w' G b j x:=⟨(h.cell (p:=⟨b,j,none⟩) t.lt).trans t.at_,Zu t.lt h.size,t.ap⟩
theorem CellAt.grew(t:CellAt w G b j x)(g:Grew G w G' w'):CellAt w' G' b j x:=⟨(g.turn.cell (p:=⟨b,j,none⟩) t.lt t.ap).trans t.at_,Zu t.lt g.turn.size,g.off t.lt t.ap⟩
end
def Rec4(w:World)(G:Nat->Prop)(rb:Nat):Prop:=CellAt w G rb 0 (.int .i64 1)/\CellAt w G rb 1 (.string ⟨#[97]⟩)/\CellAt w G rb 2 (.int .i64 0)/\CellAt w G rb 3 (.slice none 0 0)
section
variable {w w':World} {G G':Nat->Prop} {rb:Nat}
theorem Rec4.below(t:Rec4 w G rb)(h:Below w.heap.size w w'):Rec4 w' G rb:=⟨t.1.below h,t.2.1.below h,t.2.2.1.below h,t.2.2.2.below h⟩
theorem Rec4.grew(t:Rec4 w G rb)(g:Grew G w G' w'):Rec4 w' G' rb:=⟨t.1.grew g,t.2.1.grew g,t.2.2.1.grew g,t.2.2.2.grew g⟩
end
def Rec4c(rb:Nat)(w:World):Prop:=w.cell? ⟨rb,0,none⟩=some (.int .i64 1)/\w.cell? ⟨rb,1,none⟩=some (.string ⟨#[97]⟩)/\w.cell? ⟨rb,2,none⟩=some (.int .i64 0)/\w.cell? ⟨rb,3,none⟩=some (.slice none 0 0)
theorem Rec4.cells{w:World}{G:Nat->Prop}{rb:Nat}(t:Rec4 w G rb):Rec4c rb w:=⟨t.1.at_,t.2.1.at_,t.2.2.1.at_,t.2.2.2.at_⟩
theorem rec_in18(w:World):RcV.In w ⟨awR,.slice none 0 0⟩:=⟨Zd,Zd,Zd,Or.inl ⟨none,0,rfl,rfl⟩,Zd⟩
theorem ty_wf:tyG.Wf:=⟨Zd,Zd,Zd,Zd,Zd,Zd⟩
theorem z35_1{p:Prop} (h:p:=by
 refine tkH 4 ?_
 refine wpAnyH_done Zk ?_ _
 go_wp2
 go_meet
 case rel=>exact⟨rfl,REL.out⟩
 ):p:=h
theorem awake18_any{w:World}:Calls Tryz.prog 7 #[] w fun e w'=>e= .returned (.bool true)/\Below w.heap.size w w':=by
 go_enter Tryz.func7,Tryz.ntmps7
 go_wp2_with fail
 refine(anew_is (n:=2) (s:=9) (m:=2) (k:=9) rfl Zd Zd Zd Zd rfl).mono ?_
 rintro _ u1 ⟨ab,G1,rfl,A1,H1,B1⟩;have S1:ArB u1 w.heap.size ab G1 (newA 2 9):=⟨A1,H1,B1.size⟩;have C1:Below w.heap.size w u1:=B1;clear A1 H1 B1
 go_wp2_with fail
 have bR:=belR u1 (.cells #[.int .i64 1,.string ⟨#[97]⟩,.int .i64 0,.slice none 0 0] 38);have R2:Rec4 (u1.alloc (.cells #[.int .i64 1,.string ⟨#[97]⟩,.int .i64 0,.slice none 0 0] 38)) G1 u1.heap.size:=by
  obtain⟨z0,z1,z2,z3,bz,zf,lz⟩:=@lay4r u1 (.int .i64 1) (.string ⟨#[97]⟩) (.int .i64 0) (.slice none 0 0) 38;have n:¬G1 u1.heap.size:=fun k=>Nat.lt_irrefl _ (S1.at_.lt _ k)
  exact⟨⟨z0,lz,n⟩,⟨z1,lz,n⟩,⟨z2,lz,n⟩,⟨z3,lz,n⟩⟩
 have S2:=S1.below bR;have C2:=C1.step16 bR C1.size;obtain⟨rb,hrb⟩:∃rb,Hid (rb=u1.heap.size):=⟨_,rfl⟩;rw[<-hrb.out]at R2;obtain⟨u2,hu2⟩:∃u2,u2=u1.alloc (.cells #[.int .i64 1,.string ⟨#[97]⟩,.int .i64 0,.slice none 0 0] 38):=⟨_,rfl⟩;rw[<-hu2]at R2 S2 C2;have s12:u2.heap.size=rb+1:=by rw[hu2,hrb.out];simp
 have bI:=belR u2 (.cells #[.int .i64 0,.int .i64 1] 3);have R3:=R2.below bI;have S3:=S2.below bI;have C3:=C2.step16 bI C2.size;have K:=mlabelA_any S3.at_ (dv:=.slice (some ⟨u2.heap.size,0,none⟩) 2 2) (l:=[0,1]) (fun W t=>by
  refine(rdI_lit2 (w:=u2) (n:=2) (e:=3) [0,1] rfl rfl rfl Zd).turnG (fun x n c e=>?_) t;simp at e;right;rw[<-e.1];intro k;exact Nat.lt_irrefl _ (S2.at_.lt _ k)) Zd Zd
 rw[aw_l,show lbS (newA 2 9) [0,1]=aw1 from rfl]at K;rw[s12]at K;clear S1 C1 S2 C2 R2 bR bI;rw[<-hu2];rw[<-hrb.out];refine K.mono ?_
 rintro _ u4 ⟨rfl,G4,A4,g4⟩;have S4:=S3.grew A4 g4;have R4:=R3.grew g4;have C4:=C3.trans (S3.bel g4);clear K S3 R3 C3 A4 g4 hu2 s12;obtain⟨KL,hKL⟩:∃KL,Hid (KL=knL aw1):=⟨_,rfl⟩;have kl2:KL.length=2:=by rw[hKL.out];exact aw_k.2.1
 have f1:ltX aw2 tyG KL=0:=by rw[hKL.out];exact aw_t.1
 have f2:(ltA aw2 tyG KL).ep=0:=by rw[hKL.out];exact aw_t.2.1
 have f3:rlX aw3 tyG KL 0=0:=by rw[hKL.out];exact aw_r.1
 have f4:rlR aw3 tyG KL 0=[awR]:=by rw[hKL.out];exact aw_r.2
 have K:=mknows_any S4.at_;rw[aw_k.2.2,<-hKL.out]at K;have HF:=hidI (And.intro f1 (And.intro f2 (And.intro f3 f4)));have HK2:=hidI kl2;clear f1 f2 f3 f4 kl2 hKL
 go_wp2_with fail
 refine K.mono ?_
 rintro _ u5 ⟨kv,rfl,rk,fk,b5⟩;obtain⟨ka,kc,ek⟩:=rk.form;rw[HK2.out]at ek;subst ek;have T5:ToldB u5 G4 (.slice ka 2 kc) KL:=⟨rk,fk.apart S4.at_.lt⟩;have S5:=S4.below b5;have R5:=R4.below b5;have C5:=C4.step16 b5 C4.size;clear K S4 R4 C4 rk fk b5
 go_wp2_with fail
 refine mtiny_any.mono ?_
 rintro _ u6 ⟨rfl,b6⟩;have S6:=S5.below b6;have R6:=R5.below b6;have T6:=T5.below b6;have C6:=C5.step16 b6 C5.size;clear S5 R5 T5 C5 b6;have K:=msave_any S6.at_ ty_wf (ar:=0) (ep:=0) Zd (vs:=.slice none 0 0) (L:=[]) (Or.inl ⟨none,0,rfl,rfl⟩) (fun i hi=>absurd hi (Nat.not_lt_zero i));rw[show oL []=[]from rfl,aw_s.1,show svS aw1 tyG 0 0 []=aw2 from rfl]at K
 go_wp2_with fail
 refine K.mono ?_
 rintro _ u7 ⟨rfl,G7,A7,g7⟩;have S7:=S6.grew A7 g7;have R7:=R6.grew g7;have T7:=T6.grew g7;have C7:=C6.trans (S6.bel g7);clear K S6 R6 T6 C6 A7 g7
 go_wp2_with fail
 refine mtiny_any.mono ?_
 rintro _ u8 ⟨rfl,b8⟩;have S8:=S7.below b8;have R8:=R7.below b8;have T8:=T7.below b8;have C8:=C7.step16 b8 C7.size;clear S7 R7 T7 C7 b8;have K:=mlatest_any S8.at_ ty_wf T8.rd;rw[HF.out.1]at K;obtain⟨A,hA⟩:∃A,Hid (A=ltA aw2 tyG KL):=⟨_,rfl⟩;have e0:A.ep=0:=by rw[hA.out];exact HF.out.2.1
 rw[<-hA.out]at K;obtain⟨ar,ep,ob,wh,wi⟩:=A;simp only at e0;subst e0;clear hA
 go_wp2_with fail
 refine K.mono ?_
 rintro _ u9 ⟨lv,LL,rfl,rl,el,b9⟩;obtain⟨la,lc,elv⟩:=rl.form;subst elv;simp only;have S9:=S8.below b9;have R9:=R8.below b9;have T9:=T8.below b9;have C9:=C8.step16 b9 C8.size;have ba:=belR u9 (.cells #[.int .i64 ar,.int .i64 0,.slice la LL.length lc] 41);obtain⟨z0,z1,z2,bz,zf,lz⟩:=@lay3 u9 (.int .i64 ar) (.int .i64 0) (.slice la LL.length lc) 41;have L10:CellAt (u9.alloc (.cells #[.int .i64 ar,.int .i64 0,.slice la LL.length lc] 41)) G7 u9.heap.size 1 (.int .i64 0):=⟨z1,lz,fun k=>Nat.lt_irrefl _ (S9.at_.lt _ k)⟩;have S10:=S9.below ba;have R10:=R9.below ba;have T10:=T9.below ba;have C10:=C9.step16 ba C9.size;obtain⟨u10,hu10⟩:∃u10,u10=u9.alloc (.cells #[.int .i64 ar,.int .i64 0,.slice la LL.length lc] 41):=⟨_,rfl⟩;obtain⟨lb,hlb⟩:∃lb,lb=u9.heap.size:=⟨_,rfl⟩;rw[<-hu10]at L10 S10 R10 T10 C10;rw[<-hlb]at L10;clear K S8 R8 T8 C8 S9 R9 T9 C9 ba z0 z1 z2 bz zf lz rl el b9
 go_upto_region 9 with fail
 rw[<-hu10];rw[<-hlb];clear hu10 hlb;have KAP:∀V,Below u10.heap.size u10 V->Calls Tryz.prog 28 #[.pointer (some ⟨ab,0,none⟩),aggG tyG,.int .i64 0,.int .i64 0,.agg #[.int .i64 1,.string ⟨#[97]⟩,.int .i64 0,.slice none 0 0]] V (LeavesA V ab G7 aw3 (.int .i64 0)):=fun V b=>by
  have K:=mappend_any (S10.at_.below b) ty_wf (base:=0) (count:=0) Zd (rec_in18 V);rw[show(⟨awR,Value.slice none 0 0⟩:RcV).r=awR from rfl,aw_a.1,show apS aw2 tyG 0 0 awR=aw3 from rfl]at K;exact K
 have BD:Below u10.heap.size u10 u10.drew:=Zf.drew;have RB:=hidI (fun V (b:Below u10.heap.size u10 V)=>R10.below b);have RC:=hidI (fun V (b:Below u10.heap.size u10 V)=>(R10.below b).cells);have sD:=RC.out _ BD
 go_cut [10]from 40 to 43 (fun s10 wx=>s10= .int .i64 0/\∃V G,Below u10.heap.size u10 V/\ArAt wx ab G aw3/\Grew G7 V G wx)
 case first=>
  refine wp_region_held_drew (S:=fun wx=>wx.cell? ⟨rb,0,none⟩=some (.int .i64 1)/\wx.cell? ⟨rb,1,none⟩=some (.string ⟨#[97]⟩)/\wx.cell? ⟨rb,2,none⟩=some (.int .i64 0)/\wx.cell? ⟨rb,3,none⟩=some (.slice none 0 0)) Zk sD (fun hHeld=>?_);refine tkH 0 ?_
  refine tkH 2 ?_
  refine rnH 1 (fun K' hK=>?_);go_simp
  go_at_call 32
  refine mtiny_any.mono ?_
  rintro _ v1 ⟨rfl,bt⟩;dsimp only;have BV:Below u10.heap.size u10 v1:=BD.step16 bt BD.size;refine koH hK (RC.out _ BV) fun hHeld=>?_
  clear hK K';refine rnH 3 (fun K' hK=>?_);go_simp
  go_at_call 28
  refine(KAP _ BV).mono ?_
  rintro _ v2 ⟨rfl,Gx,Ax,gx⟩;dsimp only;refine koH hK ((RB.out _ BV).grew gx).cells fun hHeld=>?_
  clear hK K';have REL:=hidI (⟨v1,Gx,BV,Ax,gx⟩:∃V G,Below u10.heap.size u10 V/\ArAt v2 ab G aw3/\Grew G7 V G v2);exact z35_1
 case rest=>
  obtain⟨rfl,V,G8,bV,A8,g8⟩:=hcut;have S11:=(S10.below bV).grew A8 g8;have R11:=(RB.out _ bV).grew g8;have T11:=(T10.below bV).grew g8;have L11:=(L10.below bV).grew g8;have C11:=(C10.step16 bV C10.size).trans ((S10.below bV).bel g8);clear S10 RB RC T10 L10 C10 bV A8 g8 KAP BD sD R10
  go_wp2_with fail
  refine mtiny_any.mono ?_
  rintro _ u12 ⟨rfl,b12⟩;have S12:=S11.below b12;have R12:=R11.below b12;have T12:=T11.below b12;have L12:=L11.below b12;have C12:=C11.step16 b12 C11.size;clear S11 R11 T11 L11 C11 b12;have K:=mreplay_any S12.at_ ty_wf T12.rd (base:=0);rw[HF.out.2.2.1,HF.out.2.2.2]at K
  go_wp2_with fail
  refine K.mono ?_
  rintro _ u13 ⟨rv,RL,rfl,ro,er,b13⟩;have rl1:RL.length=1:=by
   have:=congrArg List.length er;simpa using this
  obtain⟨ra,rc,erv⟩:=(ro.rd Zo).form;rw[rl1]at erv;subst erv;have S13:=S12.below b13;have R13:=R12.below b13;have L13:=L12.below b13;have C13:=C12.step16 b13 C12.size;clear K S12 R12 T12 L12 C12 ro er b13 rl1;have KAP:∀V,Below u13.heap.size u13 V->Calls Tryz.prog 28 #[.pointer (some ⟨ab,0,none⟩),aggG tyG,.int .i64 0,.int .i64 2,.agg #[.int .i64 1,.string ⟨#[97]⟩,.int .i64 0,.slice none 0 0]] V (LeavesA V ab G8 (apS aw3 tyG 0 2 awR) (.int .i64 180)):=fun V b=>by
   have K:=mappend_any (S13.at_.below b) ty_wf (base:=0) (count:=2) Zd (rec_in18 V);rw[show(⟨awR,Value.slice none 0 0⟩:RcV).r=awR from rfl,aw_f]at K;exact K
  have BD:Below u13.heap.size u13 u13.drew:=Zf.drew;have RB:=hidI (fun V (b:Below u13.heap.size u13 V)=>R13.below b);have RC:=hidI (fun V (b:Below u13.heap.size u13 V)=>(R13.below b).cells);have sD:=RC.out _ BD
  go_upto_region 11 with fail
  go_cut [13]from 51 to 54 (fun s13 wx=>s13= .int .i64 180/\∃V G,Below u13.heap.size u13 V/\ArAt wx ab G (apS aw3 tyG 0 2 awR)/\Grew G8 V G wx)
  case first=>
   refine wp_region_held_drew (S:=fun wx=>wx.cell? ⟨rb,0,none⟩=some (.int .i64 1)/\wx.cell? ⟨rb,1,none⟩=some (.string ⟨#[97]⟩)/\wx.cell? ⟨rb,2,none⟩=some (.int .i64 0)/\wx.cell? ⟨rb,3,none⟩=some (.slice none 0 0)) Zk sD (fun hHeld=>?_);refine tkH 0 ?_
   refine tkH 2 ?_
   refine rnH 1 (fun K' hK=>?_);go_simp
   go_at_call 32
   refine mtiny_any.mono ?_
   rintro _ v1 ⟨rfl,bt⟩;dsimp only;have BV:Below u13.heap.size u13 v1:=BD.step16 bt BD.size;refine koH hK (RC.out _ BV) fun hHeld=>?_
   clear hK K';refine rnH 3 (fun K' hK=>?_);go_simp
   go_at_call 28
   refine(KAP _ BV).mono ?_
   rintro _ v2 ⟨rfl,Gx,Ax,gx⟩;dsimp only;refine koH hK ((RB.out _ BV).grew gx).cells fun hHeld=>?_
   clear hK K';have REL:=hidI (⟨v1,Gx,BV,Ax,gx⟩:∃V G,Below u13.heap.size u13 V/\ArAt v2 ab G (apS aw3 tyG 0 2 awR)/\Grew G8 V G v2);exact z35_1
  case rest=>
   obtain⟨rfl,V,G9,bV,A9,g9⟩:=hcut;have L14:=(L13.below bV).grew g9;have C14:Hid (Below w.heap.size w wc):=(C13.step16 bV C13.size).trans ((S13.below bV).bel g9);have l1:=L14.at_;clear S13 RB RC L13 C13 bV A9 g9 KAP BD sD R13 L14;go_wp2;go_ret;exact⟨rfl,C14.out⟩
end Go.Proofs.YtclieefpnbdbjaaGreat.Gf
