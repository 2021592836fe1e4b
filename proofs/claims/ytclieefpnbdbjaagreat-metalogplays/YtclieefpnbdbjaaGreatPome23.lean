/- JOINED: VoMath, VoAr, VoCm, VoCB, VoBx, VoLaw, VoTl, VoCw. -/
import Derived.Test.YtclieefpnbdbjaaGreatPome16
import Derived.Shelf.Abstract
import Derived.Test.YtclieefpnbdbjaaGreatPome12
set_option maxHeartbeats 2000000
set_option maxRecDepth 100000
namespace Go.Proofs.YtclieefpnbdbjaaGreat.Gf
set_option linter.unusedVariables false
set_option linter.unusedSimpArgs false
theorem less_irr(a:List UInt8):Op.bytesLess a a=false:=by
 rw[lessK];unfold upK;simp
theorem less_or{a b:List UInt8}(h:a≠b):Op.bytesLess a b=true∨Op.bytesLess b a=true:=by
 cases e:Op.bytesLess b a with
 |true=>exact Or.inr rfl
 |false=>
  left;rw[lessK];unfold upK;rw[e]
  have:(b==a)=false:=Zq.2 fun q=>h q.symm
  rw[this];rfl
theorem less_trans:∀{a b c:List UInt8},Op.bytesLess a b=true->Op.bytesLess b c=true->Op.bytesLess a c=true
 |_,[],_,h,_=>by unfold Op.bytesLess at h;cases h
 |_,_::_,[],_,h=>by unfold Op.bytesLess at h;cases h
 |[],_::_,_::_,_,_=>rfl
 |x::a,y::b,z::c,h,k=>by
  unfold Op.bytesLess at h k ⊢;simp only[Bool.or_eq_true,Bool.and_eq_true,decide_eq_true_eq,beq_iff_eq]at h k ⊢
  rcases h with h|⟨rfl,h⟩
  ·rcases k with k|⟨rfl,k⟩
   ·exact Or.inl (UInt8.lt_trans h k)
   ·exact Or.inl h
  ·rcases k with k|⟨rfl,k⟩
   ·exact Or.inl k
   ·exact Or.inr ⟨rfl,less_trans h k⟩
structure SaS where
 is:Bool
 no:Bool
 ep:Int
 da:List UInt8
instance:Inhabited SaS:=⟨⟨false,false,0,[]⟩⟩
def sF(S:List SaS)(i:Nat):SaS:=S.getD i default
def isV(s:SaS)(e:Int)(d:List UInt8):Bool:=s.is&&(s.ep==e)&&(s.da==d)
theorem isV_iff{s:SaS}{e:Int}{d:List UInt8}:isV s e d=true↔s.is=true/\s.ep=e/\s.da=d:=by
 unfold isV;simp only[Bool.and_eq_true,beq_iff_eq,and_assoc]
def cpV(S:List SaS)(e:Int)(d:List UInt8):Nat:=cnt (fun i=>isV (sF S i) e d) S.length
def Gt17(e:Int)(n:Nat)(d:List UInt8)(e':Int)(n':Nat)(d':List UInt8):Prop:=e'<e∨(e=e'/\(n'<n∨(n=n'/\Op.bytesLess d d'=true)))
theorem gt_irr{e:Int}{n:Nat}{d:List UInt8}:¬Gt17 e n d e n d:=by
 rintro(h|⟨_,h|⟨_,h⟩⟩)
 ·omega
 ·omega
 ·rw[less_irr]at h;cases h
theorem gt_trans{e1 e2 e3:Int}{n1 n2 n3:Nat}{d1 d2 d3:List UInt8}(h:Gt17 e1 n1 d1 e2 n2 d2)(k:Gt17 e2 n2 d2 e3 n3 d3):Gt17 e1 n1 d1 e3 n3 d3:=by
 rcases h with h|⟨rfl,h⟩
 ·rcases k with k|⟨rfl,k⟩
  ·exact Or.inl Zo
  ·exact Or.inl h
 ·rcases k with k|⟨rfl,k⟩
  ·exact Or.inl k
  ·refine Or.inr ⟨rfl,?_⟩
   rcases h with h|⟨rfl,h⟩
   ·rcases k with k|⟨rfl,k⟩
    ·exact Or.inl Zo
    ·exact Or.inl h
   ·rcases k with k|⟨rfl,k⟩
    ·exact Or.inl k
    ·exact Or.inr ⟨rfl,less_trans h k⟩
theorem gt_or{e1 e2:Int}{n1 n2:Nat}{d1 d2:List UInt8}(h:¬(e1=e2/\d1=d2)):Gt17 e1 n1 d1 e2 n2 d2∨Gt17 e2 n2 d2 e1 n1 d1:=by
 by_cases he:e1=e2
 ·subst he
  by_cases hn:n1=n2
  ·subst hn
   rcases less_or (fun q=>h ⟨rfl,q⟩)with q|q
   ·exact Or.inl (Or.inr ⟨rfl,Or.inr ⟨rfl,q⟩⟩)
   ·exact Or.inr (Or.inr ⟨rfl,Or.inr ⟨rfl,q⟩⟩)
  ·rcases Nat.lt_or_gt_of_ne hn with q|q
   ·exact Or.inr (Or.inr ⟨rfl,Or.inl q⟩)
   ·exact Or.inl (Or.inr ⟨rfl,Or.inl q⟩)
 ·rcases Int.lt_or_gt_of_ne he with q|q
  ·exact Or.inr (Or.inl q)
  ·exact Or.inl (Or.inl q)
structure Top(S:List SaS)(r:Nat)(e:Int)(d:List UInt8):Prop where
 one:∃i,i<r/\isV (sF S i) e d=true
 all:∀j,j<r->(sF S j).is=true->¬Gt17 (sF S j).ep (cpV S (sF S j).ep (sF S j).da) (sF S j).da e (cpV S e d) d
theorem Top.same{S:List SaS}{r:Nat}{e e':Int}{d d':List UInt8}(h:Top S r e d)(k:Top S r e' d'):e=e'/\d=d':=by
 by_cases q:e=e'/\d=d'
 ·exact q
 ·obtain⟨i,hi,hv⟩:=h.one;obtain⟨j,hj,kv⟩:=k.one;obtain⟨a1,rfl,rfl⟩:=isV_iff.1 hv;obtain⟨b1,rfl,rfl⟩:=isV_iff.1 kv
  rcases gt_or q with g|g
  ·exact absurd g (k.all i hi a1)
  ·exact absurd g (h.all j hj b1)
structure VoS where
 has:Bool
 ep:Int
 da:List UInt8
 co:Nat
 wi:Bool
def noV:VoS:=⟨false,0,[],0,false⟩
def wiF(S:List SaS)(K:List Bool):Nat->Bool
 |0=>false
 |r+1=>wiF S K r||(hb K r&&((sF S r).is||(sF S r).no))
def betV(v:VoS)(e:Int)(d:List UInt8)(n:Nat):Bool:=if v.has=true/\e=v.ep then (decide (n>v.co)||(decide (n=v.co)&&Op.bytesLess d v.da))else (!v.has||decide (e>v.ep))
def votV(S:List SaS)(K:List Bool):Nat->VoS
 |0=>noV
 |r+1=>if (sF S r).is=true/\betV (votV S K r) (sF S r).ep (sF S r).da (cpV S (sF S r).ep (sF S r).da)=true then ⟨true,(sF S r).ep,(sF S r).da,cpV S (sF S r).ep (sF S r).da,wiF S K (r+1)⟩else {votV S K r with wi:=wiF S K (r+1)}
theorem vot_wi(S:List SaS)(K:List Bool):∀r,(votV S K r).wi=wiF S K r
 |0=>rfl
 |r+1=>by unfold votV;split<;>rfl
theorem bet_gt{v:VoS}(h:v.has=true){e:Int}{d:List UInt8}{n:Nat}:betV v e d n=true↔Gt17 e n d v.ep v.co v.da:=by
 unfold betV Gt17
 by_cases q:e=v.ep
 ·rw[if_pos ⟨h,q⟩];simp only[Bool.or_eq_true,Bool.and_eq_true,decide_eq_true_eq];constructor
  ·rintro(k|k)
   ·exact Or.inr ⟨q,Or.inl k⟩
   ·exact Or.inr ⟨q,Or.inr k⟩
  ·rintro(k|⟨_,k|k⟩)
   ·omega
   ·exact Or.inl k
   ·exact Or.inr k
 ·rw[if_neg fun k=>q k.2,h];simp only[Bool.not_true,Bool.false_or,decide_eq_true_eq];constructor
  ·exact fun k=>Or.inl k
  ·rintro(k|⟨k,_⟩)
   ·exact k
   ·exact absurd k q
theorem bet_no{v:VoS}(h:v.has=false)(e:Int)(d:List UInt8)(n:Nat):betV v e d n=true:=by
 unfold betV;rw[if_neg (fun k=>by rw[h]at k;exact absurd k.1 Zd),h];rfl
theorem vot_is(S:List SaS)(K:List Bool):∀r,((votV S K r).has=false/\votV S K r={noV with wi:=wiF S K r}/\∀i,i<r->(sF S i).is=false)∨((votV S K r).has=true/\(votV S K r).co=cpV S (votV S K r).ep (votV S K r).da/\Top S r (votV S K r).ep (votV S K r).da)
 |0=>Or.inl ⟨rfl,rfl,fun i hi=>Zo⟩
 |r+1=>by
  have ih:=vot_is S K r;unfold votV
  by_cases hi:(sF S r).is=true
  ·by_cases hb:betV (votV S K r) (sF S r).ep (sF S r).da (cpV S (sF S r).ep (sF S r).da)=true
   ·rw[if_pos ⟨hi,hb⟩];refine Or.inr ⟨rfl,rfl,⟨r,Zo,isV_iff.2 ⟨hi,rfl,rfl⟩⟩,fun j hj hs=>?_⟩
    show ¬Gt17 _ _ _ (sF S r).ep (cpV S (sF S r).ep (sF S r).da) (sF S r).da
    by_cases e:j=r
    ·subst e;exact gt_irr
    ·rcases ih with⟨_,_,ih⟩|⟨h1,h2,h3⟩
     ·rw[ih j Zo]at hs;cases hs
     ·intro g;have g2:=(bet_gt h1).1 hb;rw[h2]at g2;exact h3.all j Zo hs (gt_trans g g2)
   ·rw[if_neg fun k=>hb k.2]
    rcases ih with⟨h1,_,_⟩|⟨h1,h2,h3⟩
    ·exact absurd (bet_no h1 _ _ _) hb
    ·refine Or.inr ⟨h1,h2,⟨?_,fun j hj hs=>?_⟩⟩
     ·obtain⟨i,a1,a2⟩:=h3.one;exact⟨i,Zo,a2⟩
     ·by_cases e:j=r
      ·subst e;intro g;refine hb ((bet_gt h1).2 ?_);rw[h2];exact g
      ·exact h3.all j Zo hs
  ·rw[if_neg fun k=>hi k.1];have hi':(sF S r).is=false:=by simpa using hi
   rcases ih with⟨h1,h0,ih⟩|⟨h1,h2,h3⟩
   ·refine Or.inl ⟨h1,?_,fun i hi2=>?_⟩
    ·rw[h0]
    ·by_cases e:i=r
     ·rw[e];exact hi'
     ·exact ih i Zo
   ·refine Or.inr ⟨h1,h2,⟨?_,fun j hj hs=>?_⟩⟩
    ·obtain⟨i,a1,a2⟩:=h3.one;exact⟨i,Zo,a2⟩
    ·by_cases e:j=r
     ·rw[e]at hs;exact absurd hs hi
     ·exact h3.all j Zo hs
def votS(S:List SaS)(K:List Bool):VoS:=votV S K S.length
theorem vo_top{S:List SaS}{e:Int}{d:List UInt8}(h:Top S S.length e d)(K:List Bool):votS S K=⟨true,e,d,cpV S e d,wiF S K S.length⟩:=by
 unfold votS;have hw:=vot_wi S K S.length
 rcases vot_is S K S.length with⟨_,_,k⟩|⟨h1,h2,h3⟩
 ·obtain⟨i,hi,hv⟩:=h.one;have:=(isV_iff.1 hv).1;rw[k i hi]at this;cases this
 ·obtain⟨a1,a2⟩:=h3.same h;rw[a1,a2]at h2;cases hv:votV S K S.length with
  |mk x1 x2 x3 x4 x5=>
   rw[hv]at h1 h2 a1 a2 hw;simp only at h1 h2 a1 a2 hw;rw[h1,h2,a1,a2,hw]
theorem vo_none{S:List SaS}(h:∀i,i<S.length->(sF S i).is=false)(K:List Bool):votS S K=⟨false,0,[],0,wiF S K S.length⟩:=by
 unfold votS
 rcases vot_is S K S.length with⟨_,k,_⟩|⟨_,_,h3⟩
 ·exact k
 ·obtain⟨i,hi,hv⟩:=h3.one;have:=(isV_iff.1 hv).1;rw[h i hi]at this;cases this
theorem vo_or(S:List SaS):(∀i,i<S.length->(sF S i).is=false)∨∃e d,Top S S.length e d:=by
 rcases vot_is S [] S.length with⟨_,_,k⟩|⟨_,_,h3⟩
 ·exact Or.inl k
 ·exact Or.inr ⟨_,_,h3⟩
section
variable {a:ArS} {ad:Int} {b:List UInt8}
def sayV(a:ArS)(ad:Int)(i:Nat):SaS:=⟨decide (rdAX a (i:Int) ad=0/\upX ad (rdAB a (i:Int) ad)=0),decide (rdAX a (i:Int) ad=0/\rdAB a (i:Int) ad=[]),((upN ad (rdAB a (i:Int) ad):Nat):Int),upD ad (rdAB a (i:Int) ad)⟩
def sayL(a:ArS)(ad:Int):List SaS:=(List.range a.D.length).map (sayV a ad)
theorem sayL_length:(sayL a ad).length=a.D.length:=by simp[sayL]
theorem sF_say{i:Nat}(h:i<a.D.length):sF (sayL a ad) i=sayV a ad i:=by simp[sF,sayL,List.getD,h]
theorem upX_iff{x:Int}{p:List UInt8}:upX x p=0↔OkUe x p:=by
 by_cases h:OkUe x p
 ·exact⟨fun _=>h,fun _=>(up_ok h).1⟩
 ·rw[(up_not h).1];exact⟨fun k=>(by cases k),fun k=>absurd k h⟩
theorem say_is{i:Nat}:(sayV a ad i).is=true↔rdAX a (i:Int) ad=0/\OkUe ad (rdAB a (i:Int) ad):=by
 show decide _=true↔_
 rw[decide_eq_true_eq,upX_iff]
theorem say_ok{i:Nat}(h:(sayV a ad i).is=true):OkSe ad (sayV a ad i).ep (sayV a ad i).da.length/\pkS ad.toNat (sayV a ad i).ep.toNat (sayV a ad i).da=rdAB a (i:Int) ad:=by
 obtain⟨_,h2⟩:=say_is.1 h;obtain⟨u1,u2,u3⟩:=up_ok h2;have e1:(sayV a ad i).ep=((epS (rdAB a (i:Int) ad):Nat):Int):=by show((upN _ _:Nat):Int)=_;rw[u2]
 have e2:(sayV a ad i).da=daS (rdAB a (i:Int) ad):=u3;rw[e1,e2];exact ok_back h2
theorem say_at(ho:a.off=false){i:Nat}(hi:i<a.D.length){e:Int}{d:List UInt8}(hf:faX (diA a (i:Int)) ad=0)(hr:rdB (diA a (i:Int)) ad=pkS ad.toNat e.toNat d)(hs:OkSe ad e d.length):sayV a ad i=⟨true,false,e,d⟩:=by
 have ht:thA a (i:Int):=⟨Zo,Zo⟩;have e1:rdAX a (i:Int) ad=0:=by unfold rdAX;rw[if_neg (by rw[ho];decide),if_pos ht,hf]
 have e2:rdAB a (i:Int) ad=pkS ad.toNat e.toNat d:=by rw[rd_at ho ht,hr]
 obtain⟨o1,o2,o3⟩:=ok_pk hs;obtain⟨u1,u2,u3⟩:=up_ok o1;unfold sayV;rw[e1,e2,u1,u2,u3,o2,o3];have n1:¬pkS ad.toNat e.toNat d=[]:=fun k=>by have:=congrArg List.length k;rw[pk_length]at this;simp at this
 have n2:((e.toNat:Nat):Int)=e:=Int.toNat_of_nonneg hs.2.1.1;simp[n1,n2]
theorem say_no(ho:a.off=false){i:Nat}(hi:i<a.D.length)(hr:¬OkUe ad (rdB (diA a (i:Int)) ad)):(sayV a ad i).is=false:=by
 cases h:(sayV a ad i).is with
 |false=>rfl
 |true=>
  have:=(say_is.1 h).2;rw[rd_at ho ⟨Zo,Zo⟩]at this;exact absurd this hr
def rvX(a:ArS):Int:=if a.off=true then 130 else 0
def rvV(a:ArS)(K:List Bool)(ad:Int):VoS:=if a.off=true then noV else votS (sayL a ad) K
structure PuS where
 cr:Bool
 n:Nat
 st:ArS
def puV(a:ArS)(ad:Int)(b:List UInt8)(tO:Nat->Bool):Nat->PuS
 |0=>⟨false,0,a⟩
 |r+1=>
  if (puV a ad b tO r).cr=true then puV a ad b tO r else
  if tO r=true then (if wrAX (puV a ad b tO r).st (r:Int) ad b=130 then ⟨true,(puV a ad b tO r).n,(puV a ad b tO r).st⟩else ⟨false,(puV a ad b tO r).n+(if wrAX (puV a ad b tO r).st (r:Int) ad b=0 then 1 else 0),wrAS (puV a ad b tO r).st (r:Int) ad b⟩)else puV a ad b tO r
def puN(p:PuS):Int:=if p.cr=true then 0 else (p.n:Int)
def puE(p:PuS):Int:=if p.cr=true then 130 else 0
theorem wrAS_len{i:Int}:(wrAS a i ad b).D.length=a.D.length:=by
 unfold wrAS
 split
 ·rfl
 split
 ·split
  ·rw[tickA_D,setA_len]
  ·rfl
 ·rfl
theorem puV_len{tO:Nat->Bool}:∀r,(puV a ad b tO r).st.D.length=a.D.length
 |0=>rfl
 |r+1=>by
  have ih:=puV_len (tO:=tO) r;unfold puV
  split
  ·exact ih
  split
  ·split
   ·exact ih
   ·show(wrAS _ _ _ _).D.length=_
    rw[wrAS_len,ih]
  ·exact ih
theorem puV_le{tO:Nat->Bool}:∀r,(puV a ad b tO r).n<=r
 |0=>Zr
 |r+1=>by
  have ih:=puV_le (tO:=tO) r;unfold puV
  split
  ·omega
  split
  ·split
   ·show(puV a ad b tO r).n<=_;omega
   ·show(puV a ad b tO r).n+_<=_;split<;>omega
  ·omega
theorem puV_stop{tO:Nat->Bool}{r:Nat}(h:(puV a ad b tO r).cr=true):∀k,puV a ad b tO (r+k)=puV a ad b tO r
 |0=>rfl
 |k+1=>by
  have ih:=puV_stop h k
  show puV a ad b tO (r+k+1)=_
  rw[puV,ih,if_pos h]
theorem puV_congr{tO to':Nat->Bool}{n:Nat}(h:∀i,i<n->tO i=to' i):∀r,r<=n->puV a ad b tO r=puV a ad b to' r
 |0,_=>rfl
 |r+1,hr=>by
  unfold puV;rw[puV_congr h r Zo,h r Zo]
def ppP(a:ArS)(ad ep:Int)(da:List UInt8)(tO:Nat->Bool):PuS:=if OkSe ad ep da.length then puV a ad (pkS ad.toNat ep.toNat da) tO a.D.length else ⟨false,0,a⟩
def ppX(a:ArS)(ad ep:Int)(da:List UInt8)(tO:Nat->Bool):Int:=if OkSe ad ep da.length then puE (ppP a ad ep da tO)else 1
def wvP(a:ArS)(ad ep:Int)(da:List UInt8):PuS:=if OkSe ad ep da.length then puV a ad (pkS ad.toNat ep.toNat da) (fun _=>true) a.D.length else ⟨false,0,a⟩
def wvX(a:ArS)(ad ep:Int)(da:List UInt8):Int:=if OkSe ad ep da.length then puE (wvP a ad ep da)else 1
def wvN(a:ArS)(ad ep:Int)(da:List UInt8):Int:=puN (wvP a ad ep da)
def wvS(a:ArS)(ad ep:Int)(da:List UInt8):ArS:=(wvP a ad ep da).st
theorem top_say{e:Int}{d:List UInt8}(h:Top (sayL a ad) (sayL a ad).length e d):∃i,i<a.D.length/\(sayV a ad i).is=true/\(sayV a ad i).ep=e/\(sayV a ad i).da=d:=by
 obtain⟨i,hi,hv⟩:=h.one;rw[sayL_length]at hi;rw[sF_say hi]at hv;exact⟨i,hi,isV_iff.1 hv⟩
theorem top_se{e:Int}{d:List UInt8}(h:Top (sayL a ad) (sayL a ad).length e d):OkSe ad e d.length:=by
 obtain⟨i,hi,h1,rfl,rfl⟩:=top_say h;exact(say_ok h1).1
theorem wrS_same{d:DkS}(h:¬wrX d ad b=0):wrS d ad b=d:=by
 unfold wrS;rw[if_neg];rintro⟨h1,h2⟩;refine h ?_
 unfold wrX;rw[if_pos h1,if_pos h2]
theorem pu_calm(hc:Calm a){tO:Nat->Bool}:∀r,r<=a.D.length->(puV a ad b tO r).cr=false/\Calm (puV a ad b tO r).st/\(puV a ad b tO r).n=cnt (fun i=>tO i&&decide (wrX (diA a (i:Int)) ad b=0)) r/\∀j:Nat,diA (puV a ad b tO r).st (j:Int)=if j<r/\tO j=true then wrS (diA a (j:Int)) ad b else diA a (j:Int)
 |0,_=>⟨rfl,hc,rfl,fun j=>by rw[if_neg fun k=>by omega];rfl⟩
 |r+1,hr=>by
  obtain⟨h1,h2,h3,h4⟩:=pu_calm hc r Zo;have hl:(puV a ad b tO r).st.D.length=a.D.length:=puV_len r;have h5:diA (puV a ad b tO r).st (r:Int)=diA a (r:Int):=by rw[h4 r,if_neg fun k=>by omega]
  have ht:thA (puV a ad b tO r).st (r:Int):=⟨Zo,by rw[hl];omega⟩;unfold puV;rw[if_neg (by rw[h1];decide)]
  by_cases e:tO r=true
  ·rw[if_pos e,if_neg (by rw[wrAX_crash,h2.1];decide)]
   by_cases q:wrX (diA a (r:Int)) ad b=0
   ·obtain⟨k1,k2⟩:=wr_set (ad:=ad) (b:=b) h2 ht (by rw[h5];exact q);rw[k1,k2,if_pos rfl,h5];refine⟨rfl,h2,?_,fun j=>?_⟩
    ·show(puV a ad b tO r).n+1=_
     rw[h3,cnt_yes (by simp only[e,Zy q];rfl)]
    ·show diA (setA _ _ _) _=_
     rw[diA_set ht _ Zo]
     by_cases ej:j=r
     ·subst ej;rw[if_pos rfl,if_pos ⟨Zo,e⟩]
     ·rw[if_neg Zo,h4 j]
      by_cases ej2:j<r/\tO j=true
      ·rw[if_pos ej2,if_pos ⟨Zo,ej2.2⟩]
      ·rw[if_neg ej2,if_neg fun k=>ej2 ⟨Zo,k.2⟩]
   ·have k1:wrAX (puV a ad b tO r).st (r:Int) ad b=wrX (diA a (r:Int)) ad b:=by
     unfold wrAX;rw[if_neg (by rw[h2.1];decide),if_pos ht,h5]
    have k2:wrAS (puV a ad b tO r).st (r:Int) ad b=(puV a ad b tO r).st:=by
     unfold wrAS;rw[if_neg (by rw[h2.1];decide),if_pos ht,h5,if_neg q]
    rw[k1,k2,if_neg q];refine⟨rfl,h2,?_,fun j=>?_⟩
    ·show(puV a ad b tO r).n+0=_
     rw[h3,cnt_not (by simp only[Zx q,Bool.and_false]),Nat.add_zero]
    ·show diA (puV a ad b tO r).st _=_
     rw[h4 j]
     by_cases ej:j=r
     ·subst ej;rw[if_neg fun k=>Zo,if_pos ⟨Zo,e⟩,wrS_same q]
     ·by_cases ej2:j<r/\tO j=true
      ·rw[if_pos ej2,if_pos ⟨Zo,ej2.2⟩]
      ·rw[if_neg ej2,if_neg fun k=>ej2 ⟨Zo,k.2⟩]
  ·rw[if_neg e];have e':tO r=false:=by simpa using e
   refine⟨h1,h2,?_,fun j=>?_⟩
   ·rw[h3,cnt_not (by simp only[e',Bool.false_and])]
   ·rw[h4 j]
    by_cases ej2:j<r/\tO j=true
    ·rw[if_pos ej2,if_pos ⟨Zo,ej2.2⟩]
    ·rw[if_neg ej2,if_neg fun k=>ej2 ⟨by
      have:j≠r:=fun q=>e (by rw[<-q];exact k.2)
      omega,k.2⟩]
end
theorem rdAX_up{a:ArS}{i ad:Int}(h:a.off=false):¬rdAX a i ad=130:=by
 unfold rdAX;rw[if_neg (by rw[h];decide)]
 split
 ·rcases faX_in (diA a i) ad with q|q|q<;>rw[q]<;>decide
 ·decide
theorem rdB_le{a:ArS}(h:a.Ok)(i ad:Int):(rdAB a i ad).length<=4108:=by
 unfold rdAB
 split
 ·exact Zz
 split
 ·rename_i ht
  unfold rdB
  split
  ·have ok:=h.each _ (di_mem ht);unfold atD;cases hw:(diA a i).wait ad with
   |some b=>exact(ok.iw ad b hw).2.2.2
   |none=>
    cases hl:(diA a i).last ad with
    |some b=>exact(ok.il ad b hl).2.2.2
    |none=>exact Zz
  ·exact Zz
 ·exact Zz
structure RpS where
 sp:Bool
 has:Bool
 ep:Int
 da:List UInt8
def rpN:RpS:=⟨false,false,0,[]⟩
def rpS(s:SaS):RpS:=⟨s.is||s.no,s.is,if s.is=true then s.ep else 0,if s.is=true then s.da else []⟩
def heS(ad:Int)(p:List UInt8):RpS:=if p=[]then ⟨true,false,0,[]⟩else if upX ad p=0 then ⟨true,true,((upN ad p:Nat):Int),upD ad p⟩else rpN
theorem upX_nil{ad:Int}:¬upX ad []=0:=fun h=>by
 have:=(upX_iff.1 h).1;simp at this
theorem rp_hear{a:ArS}{ad:Int}{i:Nat}(h:rdAX a (i:Int) ad=0):rpS (sayV a ad i)=heS ad (rdAB a (i:Int) ad):=by
 unfold rpS heS sayV;simp only[h,true_and]
 by_cases h1:rdAB a (i:Int) ad=[]
 ·rw[if_pos h1,h1,Zx upX_nil];rfl
 ·rw[if_neg h1,Zx h1]
  by_cases h2:upX ad (rdAB a (i:Int) ad)=0
  ·rw[if_pos h2,Zy h2];rfl
  ·rw[if_neg h2,Zx h2];rfl
theorem rp_none{a:ArS}{ad:Int}{i:Nat}(h:¬rdAX a (i:Int) ad=0):rpS (sayV a ad i)=rpN:=by
 unfold rpS sayV;simp only[h,false_and,decide_false];rfl
theorem rp_has{s:SaS}:(rpS s).has=s.is:=rfl
section
variable {a:ArS} {ad:Int} {b:List UInt8}
def puW(a:ArS)(ad:Int)(b:List UInt8)(l:List Nat):Nat->PuS
 |0=>⟨false,0,a⟩
 |r+1=>if (puW a ad b l r).cr=true then puW a ad b l r else if wrAX (puW a ad b l r).st ((l.getD r 0:Nat):Int) ad b=130 then ⟨true,(puW a ad b l r).n,(puW a ad b l r).st⟩else ⟨false,(puW a ad b l r).n+(if wrAX (puW a ad b l r).st ((l.getD r 0:Nat):Int) ad b=0 then 1 else 0),wrAS (puW a ad b l r).st ((l.getD r 0:Nat):Int) ad b⟩
theorem puW_ap{l m:List Nat}:∀r,r<=l.length->puW a ad b (l++m) r=puW a ad b l r
 |0,_=>rfl
 |r+1,h=>by
  have e:(l++m).getD r 0=l.getD r 0:=by simp[List.getD,List.getElem?_append_left (show r<l.length by omega)]
  rw[puW,puW,puW_ap r Zo,e]
theorem puW_to{tO:Nat->Bool}:∀n,puV a ad b tO n=puW a ad b ((List.range n).filter tO) ((List.range n).filter tO).length
 |0=>rfl
 |n+1=>by
  have ih:=puW_to (tO:=tO) n;rw[List.range_succ,List.filter_append]
  by_cases h:tO n=true
  ·have e1:[n].filter tO=[n]:=by simp[h]
   rw[e1,List.length_append,List.length_singleton,puW,puW_ap _ Zr,<-ih,puV,if_pos h];have e2:((List.range n).filter tO++[n]).getD ((List.range n).filter tO).length 0=n:=by simp[List.getD]
   rw[e2]
  ·have e1:[n].filter tO=[]:=by simp[h]
   rw[e1,List.append_nil,puV,if_neg h,<-ih]
   split<;>rfl
theorem range_all{n:Nat}:(List.range n).filter (fun _=>true)=List.range n:=Zs
def wxW(a:ArS)(ad:Int)(b:List UInt8)(l:List Nat)(r:Nat):Int:=wrAX (puW a ad b l r).st ((l.getD r 0:Nat):Int) ad b
theorem puW_calm{l:List Nat}:∀r,(∀i,i<r->¬wxW a ad b l i=130)->(puW a ad b l r).cr=false/\(puW a ad b l r).n=cnt (fun i=>decide (wxW a ad b l i=0)) r
 |0,_=>⟨rfl,rfl⟩
 |r+1,h=>by
  obtain⟨h1,h2⟩:=puW_calm r fun i hi=>h i Zo
  have hx:¬wrAX (puW a ad b l r).st ((l.getD r 0:Nat):Int) ad b=130:=h r Zo;rw[puW,if_neg (by rw[h1];decide),if_neg hx];refine⟨rfl,?_⟩
  show(puW a ad b l r).n+_=_
  rw[h2]
  by_cases q:wrAX (puW a ad b l r).st ((l.getD r 0:Nat):Int) ad b=0
  ·rw[if_pos q,cnt_yes (Zy q)]
  ·rw[if_neg q,cnt_not (Zx q),Nat.add_zero]
theorem puW_go{l:List Nat}{r:Nat}(h1:(puW a ad b l r).cr=false)(hx:¬wxW a ad b l r=130):(puW a ad b l (r+1)).cr=false/\(puW a ad b l (r+1)).st=wrAS (puW a ad b l r).st ((l.getD r 0:Nat):Int) ad b:=by
 rw[puW,if_neg (by rw[h1];decide),if_neg (show ¬wrAX (puW a ad b l r).st ((l.getD r 0:Nat):Int) ad b=130 from hx)];exact⟨rfl,rfl⟩
theorem puW_crash{l:List Nat}{r n:Nat}(h:∀i,i<r->¬wxW a ad b l i=130)(hx:wxW a ad b l r=130)(hr:r<n):(puW a ad b l n).cr=true/\(puW a ad b l n).st=(puW a ad b l r).st:=by
 have h1:=(puW_calm r h).1;obtain⟨k,rfl⟩:=Nat.exists_eq_add_of_lt hr;have key:∀k,puW a ad b l (r+k+1)=⟨true,(puW a ad b l r).n,(puW a ad b l r).st⟩:=by
  intro k
  induction k with
  |zero=>
   show puW a ad b l (r+1)=_
   rw[puW,if_neg (by rw[h1];decide),if_pos (show wrAX (puW a ad b l r).st ((l.getD r 0:Nat):Int) ad b=130 from hx)]
  |succ k ih=>
   rw[puW,show r+(k+1)=r+k+1 by omega,ih];rfl
 rw[key k];exact⟨rfl,rfl⟩
theorem puW_st{l:List Nat}{r:Nat}(hx:wxW a ad b l r=130):wrAS (puW a ad b l r).st ((l.getD r 0:Nat):Int) ad b=(puW a ad b l r).st:=if_pos (wrAX_crash.1 hx)
end
def cpR(S:List SaS)(r:Nat)(e:Int)(d:List UInt8):Nat:=cnt (fun i=>isV (sF S i) e d) r
theorem cpR_step{S:List SaS}{r:Nat}{e:Int}{d:List UInt8}:cpR S (r+1) e d=cpR S r e d+(if isV (sF S r) e d=true then 1 else 0):=by
 unfold cpR
 by_cases h:isV (sF S r) e d=true
 ·rw[if_pos h,cnt_yes h]
 ·rw[if_neg h,cnt_not (by simpa using h),Nat.add_zero]
theorem cpR_pos{S:List SaS}{r:Nat}{e:Int}{d:List UInt8}:0<cpR S r e d↔∃i,i<r/\isV (sF S i) e d=true:=by
 induction r with
 |zero=>exact⟨fun h=>absurd h (by simp[cpR,cnt]),fun ⟨i,h,_⟩=>absurd h Zo⟩
 |succ r ih=>
  rw[cpR_step];constructor
  ·intro h
   by_cases q:isV (sF S r) e d=true
   ·exact⟨r,Zo,q⟩
   ·rw[if_neg q]at h;obtain⟨i,h1,h2⟩:=ih.1 Zo;exact⟨i,Zo,h2⟩
  ·rintro⟨i,h1,h2⟩
   by_cases e1:i=r
   ·subst e1;rw[if_pos h2];omega
   ·have:=ih.2 ⟨i,Zo,h2⟩;omega
structure Elec(S:List SaS)(left:Int->List UInt8->Prop)(e0:Int)(n0:Nat)(d0:List UInt8):Prop where
 who:(e0=0/\n0=0/\d0=[]/\∀e d,0<cpV S e d->left e d)∨(0<cpV S e0 d0/\n0=cpV S e0 d0)
 best:∀e d,0<cpV S e d->¬left e d->¬Gt17 e (cpV S e d) d e0 n0 d0
theorem Elec.start(S:List SaS):Elec S (fun e d=>0<cpV S e d) 0 0 []:=⟨Or.inl ⟨rfl,rfl,rfl,fun e d h=>h⟩,fun e d h hn=>absurd h hn⟩
theorem Elec.take{S:List SaS}{left left':Int->List UInt8->Prop}{e0 e:Int}{n0:Nat}{d0 d:List UInt8}(h:Elec S left e0 n0 d0)(hp:0<cpV S e d)(hl:∀x y,left' x y↔(left x y/\¬(x=e/\y=d)))(hg:Gt17 e (cpV S e d) d e0 n0 d0):Elec S left' e (cpV S e d) d:=by
 refine⟨Or.inr ⟨hp,rfl⟩,fun x y hx hn=>?_⟩
 by_cases q:x=e/\y=d
 ·rw[q.1,q.2];exact gt_irr
 ·have:¬left x y:=fun k=>hn ((hl x y).2 ⟨k,q⟩)
  exact fun g=>h.best x y hx this (gt_trans g hg)
theorem Elec.pass{S:List SaS}{left left':Int->List UInt8->Prop}{e0 e:Int}{n0:Nat}{d0 d:List UInt8}(h:Elec S left e0 n0 d0)(hp:0<cpV S e d)(h0:0<=e)(hl:∀x y,left' x y↔(left x y/\¬(x=e/\y=d)))(hg:¬Gt17 e (cpV S e d) d e0 n0 d0):Elec S left' e0 n0 d0:=by
 refine⟨?_,fun x y hx hn=>?_⟩
 ·rcases h.who with⟨rfl,rfl,rfl,_⟩|k
  ·exfalso;apply hg
   by_cases q:e=0
   ·exact Or.inr ⟨q,Or.inl hp⟩
   ·exact Or.inl Zo
  ·exact Or.inr k
 ·by_cases q:x=e/\y=d
  ·rw[q.1,q.2];exact hg
  ·exact h.best x y hx fun k=>hn ((hl x y).2 ⟨k,q⟩)
def elE(S:List SaS):Int:=(votS S []).ep
def elD(S:List SaS):List UInt8:=(votS S []).da
def elN(S:List SaS):Nat:=(votS S []).co
theorem Elec.done{S:List SaS}{left:Int->List UInt8->Prop}{e0:Int}{n0:Nat}{d0:List UInt8}(h:Elec S left e0 n0 d0)(hl:∀e d,¬left e d):e0=elE S/\n0=elN S/\d0=elD S:=by
 unfold elE elN elD
 rcases h.who with⟨rfl,rfl,rfl,k⟩|⟨hp,rfl⟩
 ·have:∀i,i<S.length->(sF S i).is=false:=fun i hi=>by
   cases q:(sF S i).is with
   |false=>rfl
   |true=>exact absurd (k (sF S i).ep (sF S i).da (cpR_pos.2 ⟨i,hi,isV_iff.2 ⟨q,rfl,rfl⟩⟩)) (hl _ _)
  rw[vo_none this []];exact⟨rfl,rfl,rfl⟩
 ·have ht:Top S S.length e0 d0:=by
   refine⟨?_,fun j hj hs=>?_⟩
   ·obtain⟨i,hi,hv⟩:=cpR_pos.1 hp;exact⟨i,hi,hv⟩
   ·exact h.best _ _ (cpR_pos.2 ⟨j,hj,isV_iff.2 ⟨hs,rfl,rfl⟩⟩) (hl _ _)
  rw[vo_top ht []];exact⟨rfl,rfl,rfl⟩
theorem vot_same(S:List SaS)(K:List Bool):votS S K=⟨(votS S []).has,elE S,elD S,elN S,wiF S K S.length⟩:=by
 unfold elE elN elD
 rcases vo_or S with h|⟨e,d,h⟩
 ·rw[vo_none h K,vo_none h []]
 ·rw[vo_top h K,vo_top h []]
theorem el_has(S:List SaS)(K:List Bool):(votS S K).has=decide (0<elN S):=by
 unfold elN
 rcases vo_or S with h|⟨e,d,h⟩
 ·rw[vo_none h K,vo_none h []];rfl
 ·rw[vo_top h K,vo_top h []];obtain⟨i,hi,hv⟩:=h.one;exact(Zy (show 0<cpV S e d from cpR_pos.2 ⟨i,hi,hv⟩)).symm
open Go.RowKit Go.Shelf
theorem info_int17:(Tryz.prog.info? 3).map (fun i=>(i.zero,i.size,i.bytes))=some (some (.int .i64 0),1,8):=Zk
def zsN(l:List Nat):List Int:=l.map fun (i:Nat)=>(i:Int)
theorem zsN_length(l:List Nat):(zsN l).length=l.length:=by simp[zsN]
theorem zsN_getD(l:List Nat)(i:Nat):(zsN l).getD i 0=((l.getD i 0:Nat):Int):=by
 unfold zsN
 by_cases h:i<l.length
 ·simp[List.getD,h]
 ·simp[List.getD,Nat.le_of_not_lt h]
theorem row_rdI{w:World}{g t n:Nat}{l:List Nat}{F:Nat->Value}(hn:l.length=n)(h:w.rowIs g t n F)(hF:∀i,i<n->F i= .int .i64 ((l.getD i 0:Nat):Int))(hb:n<=1000000):RdI w (.slice (some ⟨g,0,none⟩) n n) (zsN l):=by
 by_cases h0:l=[]
 ·subst h0;simp at hn;subst hn;exact Or.inl ⟨_,0,rfl,rfl⟩
 ·refine Or.inr ⟨g,0,n,fun e=>h0 (by unfold zsN at e;simpa using e),by rw[zsN_length,hn],by rw[zsN_length,hn];unfold maxLen;omega,h.lt,fun i hi=>?_⟩;rw[zsN_length,hn]at hi;rw[Nat.zero_add,h.cell hi,hF i hi,zsN_getD]
theorem vall_any{w:World}{ab:Nat}{GA:Nat->Prop}{a:ArS}(h:ArAt w ab GA a):Calls Tryz.prog 159 #[.pointer (some ⟨ab,0,none⟩)] w (MadeRow w 3 a.D.length (fun i=>.int .i64 (i:Int))):=by
 have KL:=alive_any h;have d2:=h.ok.d2;obtain⟨n,hn⟩:∃n,Hid (n=a.D.length):=⟨_,rfl⟩;rw[<-hn.out]at d2 KL ⊢;have mk1:=run_make_row' (P:=Tryz.prog) 35 3 (.int .i64 0) 8 Tryz.underlying35 info_int17 rfl .i64 .i64 n Zo Zo
 go_enter Tryz.func159,Tryz.ntmps159
 go_wp2_with fail
 refine KL.mono ?_
 rintro _ w1 ⟨g0,rfl,r1,s1,b1⟩;clear KL r1 s1;obtain⟨u,hu⟩:∃u,u=w1.alloc (Obj.cells (madeCells #[Value.int .i64 0] n) 3):=⟨_,rfl⟩;have hub:Below w1.heap.size w1 u:=by rw[hu];exact belR _ _
 have hur:u.rowIs w1.heap.size 3 n (fun _=>.int .i64 0):=by rw[hu];exact World.rowIs_made _ _ _ _
 have mk2:=mk1 w1;obtain⟨g,hg⟩:∃g,Hid (g=w1.heap.size):=⟨_,rfl⟩;rw[<-hu,<-hg.out]at mk2;rw[<-hg.out]at hur;have gl:Hid (w.heap.size<=g):=by show _<=_;rw[hg.out];exact b1.size
 have START:Hid (u.rowIs g 3 n (fun j=>if j<0 then .int .i64 (j:Int)else .int .i64 0)/\Below w.heap.size w u):=⟨hur.congr fun j _=>by rw[if_neg Zo],b1.step16 hub b1.size⟩;clear mk1 hu hub hur b1
 go_wp2_with fail
 go_loopw [11] (fun i wr=>∃k:Nat,k<=n/\i= .int .i64 (k:Int)/\wr.rowIs g 3 n (fun j=>if j<k then .int .i64 (j:Int)else .int .i64 0)/\Hid (Below w.heap.size w wr)) (fun i _=>n-(intOf i).toNat)
 case atStart=>exact⟨0,Zz,rfl,START.out.1,START.out.2⟩
 case round=>
  clear START;obtain⟨k,hk,rfl,hr,hB⟩:=hrel
  by_cases hlt:k<n
  ·have hlt':(k:Int)<(n:Int):=by omega
   have cq:=hr.cell hlt;have fq:=hr.frozen k;have R3:=hr.set k (.int .i64 (k:Int));have E2:Hid ((wr.setCell ⟨g,k,none⟩ (.int .i64 (k:Int))).rowIs g 3 n (fun j=>if j<k+1 then .int .i64 (j:Int)else .int .i64 0)):=R3.congr fun j hj=>by
    by_cases e:j=k
    ·rw[if_pos e,if_pos Zo,e]
    ·rw[if_neg e]
     by_cases e2:j<k
     ·rw[if_pos e2,if_pos Zo]
     ·rw[if_neg e2,if_neg Zo]
   have B2:Hid (Below w.heap.size w (wr.setCell ⟨g,k,none⟩ (.int .i64 (k:Int)))):=hB.out.setCell gl.out _;clear R3 hr hB;go_wp2;go_roundw
   case rel=>exact⟨k+1,Zo,Zg,E2.out,B2⟩
   case measure=>simp[intOf];omega
  ·obtain rfl:k=n:=by omega
   have hge:¬(k:Int)<(k:Int):=Zo
   have FIN:Hid (wr.rowIs g 3 k (fun j=>.int .i64 (j:Int))/\w.heap.size<=g/\Below w.heap.size w wr):=⟨hr.congr fun j hj=>if_pos hj,gl.out,hB.out⟩;clear hr hB;go_wp2;go_ret;exact⟨g,rfl,FIN.out⟩
def EachP(n:Nat)(X:Nat->Int)(J JE:Nat->World->Prop)(e:Ending)(w':World):Prop:=
 (∃r,r<n/\X r=130/\(∀i,i<r->¬X i=130)/\e= .returned (.tuple #[.int .i64 0,.int .i64 130])/\JE r w')∨((∀i,i<n->¬X i=130)/\e= .returned (.tuple #[.int .i64 ((cnt (fun i=>decide (X i=0)) n:Nat):Int),.int .i64 0])/\J n w')
theorem veach_any{F:Nat}{c0 c1 c2:Value}{da:Option Addr}{dc n:Nat}{zs:List Int}{w:World}(hn:zs.length=n)(hb:n<=1000){X:Nat->Int}{J JE:Nat->World->Prop}
  (eg:Hid (∀(args:Array Value) (w:World),Sem.run Tryz.prog (callFunc F args) w= .ok (.enter F args) w))
  (hl:∀r W,J r W->RdI W (.slice da n dc) zs)
  (hf:∀r W,r<n->J r W->Calls Tryz.prog F #[.int .i64 (zs.getD r 0),c0,c1,c2] W fun e w'=>e= .returned (.int .i64 (X r))/\(X r=130->JE r w')/\(¬X r=130->J (r+1) w'))
  (h0:J 0 w):Calls Tryz.prog 160 #[.slice da n dc,.func (.func F) #[] #[c0,c1,c2]] w (EachP n X J JE):=by
 have HL:Hid (∀r W,J r W->RdI W (.slice da n dc) zs):=hl;have HF:Hid (∀r W,r<n->J r W->Calls Tryz.prog F #[.int .i64 (zs.getD r 0),c0,c1,c2] W fun e w'=>e= .returned (.int .i64 (X r))/\(X r=130->JE r w')/\(¬X r=130->J (r+1) w')):=hf;have HZ:Hid (zs.length=n):=hn;clear hl hf hn
 go_enter Tryz.func160,Tryz.ntmps160
 go_wp2_with fail
 go_loopw [6,11] (fun c i wr=>∃r:Nat,r<=n/\i= .int .i64 (r:Int)/\c= .int .i64 ((cnt (fun i=>decide (X i=0)) r:Nat):Int)/\Hid (J r wr)/\Hid (∀i,i<r->¬X i=130)) (fun _ i _=>n-(intOf i).toNat)
 case atStart=>exact⟨0,Zz,rfl,rfl,h0,fun i hi=>Zo⟩
 case round=>
  obtain⟨r,hr,rfl,rfl,hJ,hX⟩:=hrel;have hc:=cnt_le (fun i=>decide (X i=0)) r
  by_cases hlt:r<n
  ·have hlt':(r:Int)<(n:Int):=by omega
   obtain⟨b,off,rfl,hbs,hcc⟩:=(HL.out r wr hJ.out).at (i:=r) (by rw[HZ.out];exact hlt);have K:=HF.out r wr hlt hJ.out;obtain⟨z,hz⟩:∃z,Hid (z=zs.getD r 0):=⟨_,rfl⟩;obtain⟨x,hx⟩:∃x,Hid (x=X r):=⟨_,rfl⟩;rw[<-hz.out]at hcc K;rw[<-hx.out]at K;obtain⟨c,hcn⟩:∃c,Hid (c=cnt (fun i=>decide (X i=0)) r):=⟨_,rfl⟩;rw[<-hcn.out]at hc ⊢;have CS:Hid (cnt (fun i=>decide (X i=0)) (r+1)=c+if x=0 then 1 else 0):=by
    show _=_
    rw[hcn.out,hx.out]
    by_cases q:X r=0
    ·rw[if_pos q,cnt_yes (Zy q)]
    ·rw[if_neg q,cnt_not (Zx q),Nat.add_zero]
   clear hcn
   go_wp2_with fail
   rw[eg.out,Oper.upon_enter];refine K.mono ?_
   rintro _ w1 ⟨rfl,k1,k2⟩;clear K hcc hJ
   by_cases q0:x=0
   ·have N1:Hid (J (r+1) w1):=k2 (by rw[q0];decide);have N2:Hid (∀i,i<r+1->¬X i=130):=fun i hi=>by
     by_cases e:i=r
     ·rw[e,<-hx.out,q0];decide
     ·exact hX.out i Zo
    rw[if_pos q0]at CS;subst q0;clear k1 k2 hx hX;go_wp2;go_roundw
    case rel=>exact⟨r+1,Zo,Zg,by rw[CS.out];go_num,N1,N2⟩
    case measure=>simp[intOf];omega
   ·have q0':(x==0)=false:=Zq.2 q0
    by_cases q1:x=130
    ·have FIN:Hid (EachP n X J JE (.returned (.tuple #[.int .i64 0,.int .i64 130])) w1):=Or.inl ⟨r,hlt,by rw[<-hx.out,q1],hX.out,rfl,k1 q1⟩;subst q1;clear k1 k2 hx hX;go_wp2;exact bodyPost_ret (v:=.tuple #[.int .i64 0,.int .i64 130]) (by simp[results,Tryz.results160,go_sem]) rfl FIN.out
    ·have q1':(x==130)=false:=Zq.2 q1;have N1:Hid (J (r+1) w1):=k2 q1;have N2:Hid (∀i,i<r+1->¬X i=130):=fun i hi=>by
      by_cases e:i=r
      ·rw[e,<-hx.out];exact q1
      ·exact hX.out i Zo
     rw[if_neg q0]at CS;clear k1 k2 hx hX;go_wp2;go_roundw
     case rel=>exact⟨r+1,Zo,Zg,by rw[CS.out];rfl,N1,N2⟩
     case measure=>simp[intOf];omega
  ·obtain rfl:r=n:=by omega
   have hge:¬(r:Int)<(r:Int):=Zo
   have FIN:Hid (EachP r X J JE (.returned (.tuple #[.int .i64 ((cnt (fun i=>decide (X i=0)) r:Nat):Int),.int .i64 0])) wr):=Or.inr ⟨hX.out,rfl,hJ.out⟩;clear hJ hX hc;go_wp2;exact bodyPost_ret (v:=.tuple #[.int .i64 ((cnt (fun i=>decide (X i=0)) r:Nat):Int),.int .i64 0]) (by simp[results,Tryz.results160,go_sem]) rfl FIN.out
theorem box3{w W:World}{x y z:Value}{s t u:Nat}(h:W=((w.alloc (.cells #[x] s)).alloc (.cells #[y] t)).alloc (.cells #[z] u)):Below w.heap.size w W/\W.cell? ⟨w.heap.size,0,none⟩=some x/\W.cell? ⟨w.heap.size+1,0,none⟩=some y/\W.cell? ⟨w.heap.size+1+1,0,none⟩=some z/\W.heap.size=w.heap.size+3:=by
 obtain⟨u1,hu1⟩:∃u1,u1=w.alloc (.cells #[x] s):=⟨_,rfl⟩;obtain⟨u2,hu2⟩:∃u2,u2=u1.alloc (.cells #[y] t):=⟨_,rfl⟩;rw[<-hu1,<-hu2]at h;have s1:u1.heap.size=w.heap.size+1:=by rw[hu1];simp
 have s2:u2.heap.size=w.heap.size+1+1:=by rw[hu2,<-s1];simp
 have s3:W.heap.size=w.heap.size+3:=by
  have:W.heap.size=u2.heap.size+1:=by rw[h];simp
  omega
 have b1:Below w.heap.size w u1:=by rw[hu1];exact belR _ _
 have b2:Below u1.heap.size u1 u2:=by rw[hu2];exact belR _ _
 have b3:Below u2.heap.size u2 W:=by rw[h];exact belR _ _
 have k1:u1.cell? ⟨w.heap.size,0,none⟩=some x:=by rw[hu1];exact World.cell?_alloc_new _ _ _ _
 have k2:u2.cell? ⟨u1.heap.size,0,none⟩=some y:=by rw[hu2];exact World.cell?_alloc_new _ _ _ _
 have k3:W.cell? ⟨u2.heap.size,0,none⟩=some z:=by rw[h];exact World.cell?_alloc_new _ _ _ _
 have b23:=b2.step16 b3 b2.size;refine⟨b1.step16 b23 b1.size,(b23.cell (p:=⟨w.heap.size,0,none⟩) (by show w.heap.size<_;omega)).trans k1,?_,?_,s3⟩
 ·rw[<-s1];exact(b3.cell (p:=⟨u1.heap.size,0,none⟩) (by show u1.heap.size<_;omega)).trans k2
 ·rw[<-s2];exact k3
theorem enters_write1:Hid (∀(args:Array Value) (w:World),Sem.run Tryz.prog (callFunc 193 args) w= .ok (.enter 193 args) w):=enters_of Tryz.func193 Zk rfl
theorem vwrite1_any{w:World}{ab:Nat}{GA:Nat->Prop}{a:ArS}(h:ArAt w ab GA a){i ad:Int}(hi:(Lit.int .i64 i).wf=true)(ha:(Lit.int .i64 ad).wf=true){v:Value}{b:List UInt8}(hp:Rd w v b){b0 b1 b2:Nat}
  (c0:w.cell? ⟨b0,0,none⟩=some (.pointer (some ⟨ab,0,none⟩))) (c1:w.cell? ⟨b1,0,none⟩=some (.int .i64 ad)) (c2:w.cell? ⟨b2,0,none⟩=some v):
  Calls Tryz.prog 193 #[.int .i64 i,.pointer (some ⟨b0,0,none⟩),.pointer (some ⟨b1,0,none⟩),.pointer (some ⟨b2,0,none⟩)] w (LeavesA w ab GA (wrAS a i ad b) (.int .i64 (wrAX a i ad b))):=by
 have K:=awrite_any h hi ha hp;obtain⟨va,vc,ev⟩:=hp.form;subst ev;obtain⟨x,hx⟩:∃x,Hid (x=wrAX a i ad b):=⟨_,rfl⟩;obtain⟨s,hs⟩:∃s,Hid (s=wrAS a i ad b):=⟨_,rfl⟩;rw[<-hx.out,<-hs.out]at K ⊢;clear hp h hx hs
 go_enter Tryz.func193,Tryz.ntmps193
 go_wp2_with fail
 refine K.mono ?_
 rintro _ w1 ⟨rfl,L⟩;have FIN:Hid (∃GA',ArAt w1 ab GA' s/\Grew GA w GA' w1):=L;clear L K;go_wp2;go_ret;exact⟨rfl,FIN.out⟩
theorem vwrite_any{w:World}{ab:Nat}{GA:Nat->Prop}{a:ArS}(h:ArAt w ab GA a){ad:Int}(ha:(Lit.int .i64 ad).wf=true){pv:Value}{b:List UInt8}(hp:∀W,TurnG GA w W->Rd W pv b){da:Option Addr}{dc n:Nat}{l:List Nat}(hn:l.length=n)(hb:n<=1000)(hs:∀i,i<n->l.getD i 0<=1000)(hd:∀W,TurnG GA w W->RdI W (.slice da n dc) (zsN l)):
  Calls Tryz.prog 168 #[.pointer (some ⟨ab,0,none⟩),.slice da n dc,.int .i64 ad,pv] w (LeavesA w ab GA (puW a ad b l n).st (.tuple #[.int .i64 (puN (puW a ad b l n)),.int .i64 (puE (puW a ad b l n))])):=by
 obtain⟨va,vc,ev⟩:=(hp w (TurnG.refl _ _)).form;subst ev;obtain⟨W,hW⟩:∃W,W=((w.alloc (.cells #[.pointer (some ⟨ab,0,none⟩)] 27)).alloc (.cells #[.int .i64 ad] 3)).alloc (.cells #[.slice va b.length vc] 42):=⟨_,rfl⟩;obtain⟨B,c0,c1,c2,sz⟩:=box3 hW;have hA:=h.below B;have lG:=h.lt;have ng:∀k,w.heap.size<=k->¬GA k:=fun k hk e=>by have:=lG k e;omega
 have KE:=@veach_any 193 (.pointer (some ⟨w.heap.size,0,none⟩)) (.pointer (some ⟨w.heap.size+1,0,none⟩)) (.pointer (some ⟨w.heap.size+1+1,0,none⟩)) da dc n (zsN l) W (by rw[zsN_length,hn]) hb (wxW a ad b l)
  (fun r V=>(∃GA',ArAt V ab GA' (puW a ad b l r).st/\Grew GA W GA' V)/\∀i,i<r->¬wxW a ad b l i=130) (fun r V=>∃GA',ArAt V ab GA' (puW a ad b l r).st/\Grew GA W GA' V) enters_write1
  (fun r V ⟨⟨GA',_,g⟩,_⟩=>hd V ((Below.turnG B GA).trans g.turn))
  (fun r V hr ⟨⟨GA',k1,g⟩,k3⟩=>by
   have q:=vwrite1_any k1 (i:=(zsN l).getD r 0) (by rw[zsN_getD];have:=hs r hr;exact WalkArith.wf_i64 Zo) ha (hp V ((Below.turnG B GA).trans g.turn))
    ((g.turn.cell (p:=⟨w.heap.size,0,none⟩) (by show w.heap.size<_;omega) (ng _ Zr)).trans c0) ((g.turn.cell (p:=⟨w.heap.size+1,0,none⟩) (by show w.heap.size+1<_;omega) (ng (w.heap.size+1) Zo)).trans c1) ((g.turn.cell (p:=⟨w.heap.size+1+1,0,none⟩) (by show w.heap.size+1+1<_;omega) (ng (w.heap.size+1+1) Zo)).trans c2)
   refine q.mono ?_
   rintro _ V2 ⟨rfl,GA2,A2,g2⟩;rw[zsN_getD]at A2 ⊢;refine⟨rfl,fun e=>⟨GA2,?_,g.trans g2⟩,fun e=>⟨⟨GA2,?_,g.trans g2⟩,fun i hi=>?_⟩⟩
   ·rw[puW_st e]at A2;exact A2
   ·rw[(puW_go (puW_calm r k3).1 e).2];exact A2
   ·by_cases q:i=r
    ·rw[q];exact e
    ·exact k3 i Zo)
  ⟨⟨GA,hA,Grew.refl _ _⟩,fun i hi=>Zo⟩
 have FIN:Hid (∀e V,EachP n (wxW a ad b l) (fun r V=>(∃GA',ArAt V ab GA' (puW a ad b l r).st/\Grew GA W GA' V)/\∀i,i<r->¬wxW a ad b l i=130) (fun r V=>∃GA',ArAt V ab GA' (puW a ad b l r).st/\Grew GA W GA' V) e V->LeavesA w ab GA (puW a ad b l n).st (.tuple #[.int .i64 (puN (puW a ad b l n)),.int .i64 (puE (puW a ad b l n))]) e V):=by
  rintro e V (⟨r,hr,x1,x2,rfl,GA',A1,g1⟩|⟨x2,rfl,⟨GA',A1,g1⟩,_⟩)
  ·obtain⟨y1,y2⟩:=puW_crash x2 x1 hr;unfold puN puE;rw[y1,y2];exact⟨rfl,GA',A1,(Grew.of_below B).trans g1⟩
  ·obtain⟨y1,y2⟩:=puW_calm n x2;unfold puN puE;rw[y1,if_neg Zd,if_neg Zd,y2];exact⟨rfl,GA',A1,(Grew.of_below B).trans g1⟩
 clear hA h hp hd hs lG ng c0 c1 c2 sz B
 go_enter Tryz.func168,Tryz.ntmps168
 go_wp2_with fail
 rw[<-hW];refine KE.mono ?_
 rintro _ V (⟨r,hr,x1,x2,rfl,k⟩|⟨x2,rfl,k⟩)
 ·have F:Hid (LeavesA w ab GA (puW a ad b l n).st (.tuple #[.int .i64 (puN (puW a ad b l n)),.int .i64 (puE (puW a ad b l n))]) (.returned (.tuple #[.int .i64 0,.int .i64 130])) V):=FIN.out _ V (Or.inl ⟨r,hr,x1,x2,rfl,k⟩);clear FIN KE x1 x2 k hW;go_wp2;exact bodyPost_ret (v:=.tuple #[.int .i64 0,.int .i64 130]) (by simp[results,Tryz.results168,go_sem]) rfl F.out
 ·obtain⟨c,hc⟩:∃c,Hid (c=cnt (fun i=>decide (wxW a ad b l i=0)) n):=⟨_,rfl⟩;have F:Hid (LeavesA w ab GA (puW a ad b l n).st (.tuple #[.int .i64 (puN (puW a ad b l n)),.int .i64 (puE (puW a ad b l n))]) (.returned (.tuple #[.int .i64 (c:Int),.int .i64 0])) V):=by
   rw[hc.out];exact FIN.out _ V (Or.inr ⟨x2,rfl,k⟩)
  rw[<-hc.out];clear FIN KE x2 k hW hc;go_wp2;exact bodyPost_ret (v:=.tuple #[.int .i64 (c:Int),.int .i64 0]) (by simp[results,Tryz.results168,go_sem]) rfl F.out
end Go.Proofs.YtclieefpnbdbjaaGreat.Gf
namespace Go.Proofs.YtclieefpnbdbjaaGreat.Gf
set_option linter.unusedVariables false
set_option linter.unusedSimpArgs false
open Go.RowKit
def aggV(v:VoS)(vd:Value):Value:=.agg #[.bool v.has,.int .i64 v.ep,vd,.int .i64 ((v.co:Nat):Int),.bool v.wi]
structure BoxV(w1:World)(g:Nat)(wr:World)(v:VoS)(vd:Value):Prop where
 c0:wr.cell? ⟨g,0,none⟩=some (.bool v.has)
 c1:wr.cell? ⟨g,1,none⟩=some (.int .i64 v.ep)
 c2:wr.cell? ⟨g,2,none⟩=some vd
 c3:wr.cell? ⟨g,3,none⟩=some (.int .i64 ((v.co:Nat):Int))
 c4:wr.cell? ⟨g,4,none⟩=some (.bool v.wi)
 fz:∀j,wr.frozen? ⟨g,j,none⟩=false
 on:Only g w1 wr
section
variable {w1 wr:World} {g:Nat} {v:VoS} {vd:Value}
theorem cell_setO{w:World}{g i j:Nat}{u:Value}(h:i≠j):(w.setCell ⟨g,i,none⟩ u).cell? ⟨g,j,none⟩=w.cell? ⟨g,j,none⟩:=World.cell?_setCell_other _ _ _ _ (by first|(simp;done)|(simp;omega))
theorem BoxV.drewN(h:BoxV w1 g wr v vd)(n:Nat):BoxV w1 g (wr.drewN n) v vd:=⟨h.c0,h.c1,h.c2,h.c3,h.c4,h.fz,h.on.drewN n⟩
theorem BoxV.wi(h:BoxV w1 g wr v vd)(x:Bool):BoxV w1 g (wr.setCell ⟨g,4,none⟩ (.bool x)) {v with wi:=x} vd:=
 ⟨(cell_setO Zd).trans h.c0,(cell_setO Zd).trans h.c1,(cell_setO Zd).trans h.c2,(cell_setO Zd).trans h.c3,World.cell?_setCell_same _ _ _ h.c4,fun j=>(World.frozen?_setCell _ _ _ _).trans (h.fz j),h.on.setCell _ _⟩
theorem BoxV.put(h:BoxV w1 g wr v vd)(e:Int)(u:Value)(n:Nat)(d:List UInt8):BoxV w1 g ((((wr.setCell ⟨g,0,none⟩ (.bool true)).setCell ⟨g,1,none⟩ (.int .i64 e)).setCell ⟨g,2,none⟩ u).setCell ⟨g,3,none⟩ (.int .i64 ((n:Nat):Int))) ⟨true,e,d,n,v.wi⟩ u:=by
 refine⟨?_,?_,?_,?_,?_,fun j=>?_,(((h.on.setCell _ _).setCell _ _).setCell _ _).setCell _ _⟩
 ·rw[cell_setO Zd,cell_setO Zd,cell_setO Zd,World.cell?_setCell_same _ _ _ h.c0]
 ·rw[cell_setO Zd,cell_setO Zd,World.cell?_setCell_same _ _ _ ((cell_setO Zd).trans h.c1)]
 ·rw[cell_setO Zd,World.cell?_setCell_same _ _ _ ((cell_setO Zd).trans ((cell_setO Zd).trans h.c2))]
 ·rw[World.cell?_setCell_same _ _ _ ((cell_setO Zd).trans ((cell_setO Zd).trans ((cell_setO Zd).trans h.c3)))]
 ·rw[cell_setO Zd,cell_setO Zd,cell_setO Zd,cell_setO Zd,h.c4]
 ·rw[World.frozen?_setCell,World.frozen?_setCell,World.frozen?_setCell,World.frozen?_setCell,h.fz]
theorem set5{w:World}{g:Nat}{a b c d e x0 x1 x2 x3 x4:Value}(m0:w.cell? ⟨g,0,none⟩=some x0)(m1:w.cell? ⟨g,1,none⟩=some x1)(m2:w.cell? ⟨g,2,none⟩=some x2)(m3:w.cell? ⟨g,3,none⟩=some x3)(m4:w.cell? ⟨g,4,none⟩=some x4){W:World}(hW:W=((((w.setCell ⟨g,0,none⟩ a).setCell ⟨g,1,none⟩ b).setCell ⟨g,2,none⟩ c).setCell ⟨g,3,none⟩ d).setCell ⟨g,4,none⟩ e):
  Only g w W/\W.cell? ⟨g,0,none⟩=some a/\W.cell? ⟨g,1,none⟩=some b/\W.cell? ⟨g,2,none⟩=some c/\W.cell? ⟨g,3,none⟩=some d/\W.cell? ⟨g,4,none⟩=some e:=by
 subst hW;refine⟨(((((Only.refl _ _).setCell _ _).setCell _ _).setCell _ _).setCell _ _).setCell _ _,?_,?_,?_,?_,?_⟩
 ·rw[cell_setO Zd,cell_setO Zd,cell_setO Zd,cell_setO Zd,World.cell?_setCell_same _ _ _ m0]
 ·rw[cell_setO Zd,cell_setO Zd,cell_setO Zd,World.cell?_setCell_same _ _ _ ((cell_setO Zd).trans m1)]
 ·rw[cell_setO Zd,cell_setO Zd,World.cell?_setCell_same _ _ _ ((cell_setO Zd).trans ((cell_setO Zd).trans m2))]
 ·rw[cell_setO Zd,World.cell?_setCell_same _ _ _ ((cell_setO Zd).trans ((cell_setO Zd).trans ((cell_setO Zd).trans m3)))]
 ·exact World.cell?_setCell_same _ _ _ ((cell_setO Zd).trans ((cell_setO Zd).trans ((cell_setO Zd).trans ((cell_setO Zd).trans m4))))
theorem BoxV.made(w:World)(h:g=w.heap.size):BoxV (w.alloc (.cells #[.bool false,.int .i64 0,.slice none 0 0,.int .i64 0,.bool false] 130)) g (w.alloc (.cells #[.bool false,.int .i64 0,.slice none 0 0,.int .i64 0,.bool false] 130)) noV (.slice none 0 0):=by
 subst h;have c:∀j,(w.alloc (.cells #[.bool false,.int .i64 0,.slice none 0 0,.int .i64 0,.bool false] 130)).cell? ⟨w.heap.size,j,none⟩= #[Value.bool false,.int .i64 0,.slice none 0 0,.int .i64 0,.bool false][j]? :=fun j=>World.cell?_alloc_new _ _ _ _
 exact⟨c 0,c 1,c 2,c 3,c 4,fun j=>by simp[go_sem],Only.refl _ _⟩
end
section
variable {a:ArS} {ad:Int} {b:List UInt8}
theorem rdAX_at{i:Int}(ho:a.off=false)(ht:thA a i):rdAX a i ad=faX (diA a i) ad:=by
 unfold rdAX;rw[if_neg (by rw[ho];decide),if_pos ht]
theorem di_nat(i:Nat):diA a (i:Int)=a.D.getD i default:=rfl
theorem top_one{e:Int}{d:List UInt8}{k:Nat}(hk:k<a.D.length)(hv:isV (sayV a ad k) e d=true)(h:∀i,i<a.D.length->(sayV a ad i).is=true->(sayV a ad i).ep=e/\(sayV a ad i).da=d):Top (sayL a ad) (sayL a ad).length e d:=by
 rw[sayL_length];refine⟨⟨k,hk,by rw[sF_say hk];exact hv⟩,fun j hj hs=>?_⟩;rw[sF_say hj]at hs ⊢;obtain⟨h1,h2⟩:=h j hj hs;rw[h1,h2];exact gt_irr
theorem okB_pk{x e:Int}{d:List UInt8}(h:OkSe x e d.length):OkB (pkS x.toNat e.toNat d):=by
 have:=h.2.2;refine⟨?_,?_⟩
 ·rw[pk_length];omega
 ·rw[pk_length];omega
theorem isV_mk{s:SaS}{e:Int}{d:List UInt8}(h:s=⟨true,false,e,d⟩):isV s e d=true:=by rw[h];exact isV_iff.2 ⟨rfl,rfl,rfl⟩
end
def TellsVF(w:World)(X:Int)(V:VoS)(e:Ending)(w':World):Prop:=∃vd,e= .returned (.tuple #[aggV V vd,.int .i64 X])/\Rd w' vd V.da/\FarV w vd/\Below w.heap.size w w'
open Go.RowKit Go.Shelf
theorem vwrite17_any{w:World}{ab:Nat}{GA:Nat->Prop}{a:ArS}(h:ArAt w ab GA a){ad ep:Int}(ha:(Lit.int .i64 ad).wf=true){v:Value}{p:List UInt8}(hp:Rd w v p)(hpl:p.length<=100000):
  Calls Tryz.prog 124 #[.pointer (some ⟨ab,0,none⟩),.int .i64 ad,.int .i64 ep,v] w (LeavesA w ab GA (wvS a ad ep p) (.tuple #[.int .i64 (wvN a ad ep p),.int .i64 (wvX a ad ep p)])):=by
 have KP:=spack_far (a:=ad) (e:=ep) hp;obtain⟨va,vc,ev⟩:=hp.form;subst ev;have lG:=h.lt
 by_cases ho:OkSe ad ep p.length
 rotate_left
 ·rw[(pa_not ho).1,(pa_not ho).2]at KP;have e1:wvP a ad ep p=⟨false,0,a⟩:=if_neg ho;have FIN:Hid (∀w1,Below w.heap.size w w1->LeavesA w ab GA (wvS a ad ep p) (.tuple #[.int .i64 (wvN a ad ep p),.int .i64 (wvX a ad ep p)]) (.returned (.tuple #[.int .i64 0,.int .i64 1])) w1):=fun w1 b=>by
   have e2:wvX a ad ep p=1:=if_neg ho;unfold wvS wvN;rw[e2,e1];exact⟨rfl,GA,h.below b,Grew.of_below b⟩
  clear hp h e1 ho lG
  go_enter Tryz.func124,Tryz.ntmps124
  go_wp2_with fail
  refine KP.mono ?_
  rintro _ w1 ⟨s,rfl,R1,F1,B1⟩;obtain⟨sa,sc,es⟩:=R1.form;subst es;have F:=FIN.out w1 B1;have F':Hid _:=F;clear KP R1 F1 B1 FIN F;go_wp2;exact bodyPost_ret (v:=.tuple #[.int .i64 0,.int .i64 1]) (by simp[results,Tryz.results124,go_sem]) rfl F'.out
 ·rw[(pa_ok ho).1,(pa_ok ho).2]at KP;obtain⟨b,hb0⟩:∃b,Hid (b=pkS ad.toNat ep.toNat p):=⟨_,rfl⟩;rw[<-hb0.out]at KP;obtain⟨n,hn⟩:∃n,Hid (n=a.D.length):=⟨_,rfl⟩;have d2:n<=32:=by rw[hn.out];exact h.ok.d2
  have eP:Hid (puW a ad b (List.range n) n=wvP a ad ep p):=by
   show _=_
   unfold wvP;rw[if_pos ho,<-hb0.out,<-hn.out,puW_to n,range_all,List.length_range]
  have eX:Hid (wvX a ad ep p=puE (wvP a ad ep p)):=by show _=_;unfold wvX;rw[if_pos ho]
  have HA:Hid (ArAt w ab GA a):=h;clear hp h ho hb0
  go_enter Tryz.func124,Tryz.ntmps124
  go_wp2_with fail
  refine KP.mono ?_
  rintro _ w1 ⟨s,rfl,R1,F1,B1⟩;clear KP;obtain⟨sa,sc,es⟩:=R1.form;have hA1:=HA.out.below B1;have KA:=vall_any hA1;rw[<-hn.out]at KA;have HP:Hid (∀W,TurnG GA w1 W->Rd W s b):=fun W t=>R1.turnG (F1.apart lG) t
  subst es
  go_wp2_with fail
  refine KA.mono ?_
  rintro _ w2 ⟨g,rfl,rl,sl,B2⟩;clear KA;have hA2:=hA1.below B2;have ng:¬GA g:=fun e=>by have:=lG g e;have:=B1.size;omega
  have KW:=vwrite_any hA2 ha (pv:=.slice sa b.length sc) (b:=b) (fun W t=>HP.out W ((Below.turnG B2 GA).trans t)) (da:=some ⟨g,0,none⟩) (dc:=n) (n:=n) (l:=List.range n) Zs Zo (fun i hi=>by simp[List.getD,hi];omega) (fun W t=>row_rdI Zs (rl.of_block (t.block g rl.lt ng)) (fun i hi=>by simp[List.getD,hi]) Zo);rw[eP.out]at KW;have B12:=B1.step16 B2 B1.size;clear hA1 hA2 ng rl sl R1 F1
  go_wp2_with fail
  refine KW.mono ?_
  rintro _ w3 ⟨rfl,GA',A3,g3⟩;have F:Hid (LeavesA w ab GA (wvS a ad ep p) (.tuple #[.int .i64 (wvN a ad ep p),.int .i64 (wvX a ad ep p)]) (.returned (.tuple #[.int .i64 (puN (wvP a ad ep p)),.int .i64 (puE (wvP a ad ep p))])) w3):=by
   refine⟨by rw[eX.out];rfl,GA',A3,(Grew.of_below B12).trans g3⟩
  clear KW A3 g3 B1 B2 B12 eX eP;go_wp2;exact bodyPost_ret (v:=.tuple #[.int .i64 (puN (wvP a ad ep p)),.int .i64 (puE (wvP a ad ep p))]) (by simp[results,Tryz.results124,go_sem]) rfl F.out
end Go.Proofs.YtclieefpnbdbjaaGreat.Gf
