/- TEXTS JOINED: StHurt, StLM, StCA, StTl. -/
import Derived.Test.YtddnfhfangfgeaaGreatPome46
set_option maxHeartbeats 1000000
set_option maxRecDepth 100000
namespace Go.Proofs.YtddnfhfangfgeaaGreat.Gf
set_option linter.unusedVariables false
set_option linter.unusedSimpArgs false
theorem cnt_or_eq(p q:Nat->Bool)(n:Nat)(h:∀i,i<n->p i=true->q i=false):cnt (fun i=>p i||q i) n=cnt p n+cnt q n:=by
 induction n with
 |zero=>rfl
 |succ n ih=>
  show cnt (fun i=>p i||q i) n+(if (p n||q n)then 1 else 0)=cnt p n+(if p n then 1 else 0)+(cnt q n+(if q n then 1 else 0))
  rw[ih fun i hi=>h i (by omega)];cases e:p n
  ·simp;omega
  ·rw[h n (by omega) e];simp;omega
theorem cnt_one15{n i0:Nat}(h:i0<n):cnt (fun i=>decide (i=i0)) n=1:=by
 induction n with
 |zero=>omega
 |succ n ih=>
  show cnt (fun i=>decide (i=i0)) n+(if decide (n=i0)then 1 else 0)=1
  by_cases e:n=i0
  ·rw[decide_eq_true e,cnt_none fun i hi=>decide_eq_false (by omega)];rfl
  ·rw[decide_eq_false e,ih (by omega)];rfl
section
variable {a:ArS} {g:GeoS} {st ep:Int}
theorem cnt_disks(hg:okG g)(h1:0<=st)(h2:st<g.s):∀{S:List Int},S.Nodup->(∀d,d∈S->0<=d/\d<((nT g:Nat):Int))->cnt (fun i=>decide (diG g st (i:Int)∈S)) (nT g)=S.length
 |[],_,_=>cnt_none fun i _=>decide_eq_false (by simp)
 |d::S,hn,hS=>by
  rw[List.nodup_cons]at hn;obtain⟨i0,hi0,e0⟩:=diG_of hg h1 h2 (hS d (by simp)).1 (hS d (by simp)).2;have ih:=cnt_disks hg h1 h2 hn.2 fun x hx=>hS x (by simp[hx])
  have e:∀i,i<nT g->decide (diG g st (i:Int)∈d::S)=(decide (i=i0)||decide (diG g st (i:Int)∈S)):=fun i hi=>by
   rw[<-Bool.decide_or];refine decide_eq_decide.2 ?_
   rw[List.mem_cons];refine⟨fun h=>h.imp (fun e=>diG_inj hg h1 h2 hi hi0 (e.trans e0.symm)) id,fun h=>h.imp (fun e=>by rw[e];exact e0) id⟩
  rw[cnt_congr e,cnt_or_eq _ _ _ (fun i hi h=>by
   rw[of_decide_eq_true h];exact decide_eq_false (by rw[e0];exact hn.1)),cnt_one15 hi0,ih,List.length_cons]
  omega
def hdD(kind ad at_:Int)(d:DkS):DkS:=if kind=0 then faS d else if kind=1 then reS d else coS d ad at_ 1
def hdA(kind ad at_:Int)(a:ArS)(d:Int):ArS:=if kind=0 then faAS a d else if kind=1 then rpAS a d else coAS a d ad at_ 1
def hrT(kind ad at_:Int)(a:ArS)(S:List Int):Nat->ArS
 |0=>a
 |r+1=>hdA kind ad at_ (hrT kind ad at_ a S r) (S.getD r 0)
theorem hd_calm{kind ad at_ d:Int}(hc:Calm a):Calm (hdA kind ad at_ a d):=by
 unfold hdA faAS rpAS coAS
 split
 ·split
  ·exact hc
  ·exact hc
 ·split
  ·split
   ·exact hc
   ·exact hc
  ·split
   ·exact hc
   ·exact hc
theorem hd_len{kind ad at_ d:Int}:(hdA kind ad at_ a d).D.length=a.D.length:=by
 unfold hdA faAS rpAS coAS
 split
 ·split
  ·exact setA_len _
  ·rfl
 ·split
  ·split
   ·exact setA_len _
   ·rfl
  ·split
   ·exact setA_len _
   ·rfl
theorem diA_born{d j:Int}:diA (bornA a d) j=diA a j:=rfl
theorem hd_di{kind ad at_ d j:Int}(ht:thA a d)(hj:0<=j):diA (hdA kind ad at_ a d) j=if j=d then hdD kind ad at_ (diA a d)else diA a j:=by
 unfold hdA faAS rpAS coAS hdD
 by_cases k0:kind=0
 ·rw[if_pos k0,if_pos ht,if_pos k0,diA_born,diA_set ht _ hj]
 ·rw[if_neg k0,if_neg k0]
  by_cases k1:kind=1
  ·rw[if_pos k1,if_pos ht,if_pos k1,diA_born,diA_set ht _ hj]
  ·rw[if_neg k1,if_neg k1,if_pos ht,diA_set ht _ hj]
structure HrtT(kind ad at_:Int)(a a':ArS)(S:List Int):Prop where
 calm:Calm a'
 len:a'.D.length=a.D.length
 at':∀d,d∈S->diA a' d=hdD kind ad at_ (diA a d)
 else_:∀d,0<=d->d ∉ S->diA a' d=diA a d
theorem take_getI{S:List Int}{r:Nat}(h:r<S.length):S.take (r+1)=S.take r++[S.getD r 0]:=by
 rw[List.take_add_one];simp[List.getD,h]
theorem not_takeI{S:List Int}(hn:S.Nodup){r:Nat}(h:r<S.length):S.getD r 0 ∉ S.take r:=by
 intro e;rw[List.mem_take_iff_getElem]at e;obtain⟨j,hj,e2⟩:=e;rw[show S.getD r 0=S[r] by simp[List.getD,h]]at e2;have:=(List.getElem_inj hn).1 e2;omega
theorem getD_memI{S:List Int}{r:Nat}(h:r<S.length):S.getD r 0∈S:=by
 rw[show S.getD r 0=S[r] by simp[List.getD,h]];exact List.getElem_mem h
theorem hr_all{kind ad at_:Int}(hc:Calm a){S:List Int}(hn:S.Nodup)(hS:∀d,d∈S->thA a d):∀r,r<=S.length->HrtT kind ad at_ a (hrT kind ad at_ a S r) (S.take r)
 |0,_=>⟨hc,rfl,fun d hd=>by simp at hd,fun d _ _=>rfl⟩
 |r+1,h=>by
  have P:=hr_all (kind:=kind) (ad:=ad) (at_:=at_) hc hn hS r (by omega);have hr:r<S.length:=by omega
  have hm:=getD_memI hr;have ht:thA (hrT kind ad at_ a S r) (S.getD r 0):=⟨(hS _ hm).1,by rw[P.len];exact(hS _ hm).2⟩;have hnt:=not_takeI hn hr;refine⟨hd_calm P.calm,by show(hdA _ _ _ _ _).D.length=_;rw[hd_len];exact P.len,fun d hd=>?_,fun d hd hne=>?_⟩
  ·show diA (hdA _ _ _ _ _) d=_
   rw[take_getI hr,List.mem_append,List.mem_singleton]at hd
   rcases hd with hd|hd
   ·rw[hd_di ht (hS d (List.mem_of_mem_take hd)).1,if_neg (fun e=>hnt (by rw[<-e];exact hd))];exact P.at' d hd
   ·rw[hd_di ht (by rw[hd];exact ht.1),if_pos hd,hd,P.else_ _ ht.1 hnt]
  ·show diA (hdA _ _ _ _ _) d=_
   rw[take_getI hr,List.mem_append,List.mem_singleton]at hne;rw[hd_di ht hd,if_neg (fun e=>hne (Or.inr e))];exact P.else_ d hd fun e=>hne (Or.inl e)
theorem hdD_s{kind ad at_:Int}{d:DkS}:(hdD kind ad at_ d).s=d.s:=by
 unfold hdD
 split
 ·rfl
 ·split
  ·rfl
  ·exact coS_s _ _ _ _
theorem coS_dead{d:DkS}{ad at_:Int}{y:UInt8}:(coS d ad at_ y).dead=d.dead:=by
 unfold coS
 split
 ·split
  ·rfl
  ·split<;>rfl
 ·rfl
theorem hdD_dead{kind ad at_:Int}{d:DkS}(hd:d.dead=false):(hdD kind ad at_ d).dead=decide (kind=0):=by
 unfold hdD
 by_cases k0:kind=0
 ·rw[if_pos k0,decide_eq_true k0];rfl
 ·rw[if_neg k0,decide_eq_false k0]
  split
  ·rfl
  ·rw[coS_dead];exact hd
theorem rdB_co{d:DkS}{ad at_:Int}{y:UInt8}{b:List UInt8}(hf:faX d ad=0)(h:atD d ad=some b):rdB (coS d ad at_ y) ad=chB b at_ y:=by
 have hf':∀e:DkS,e.dead=d.dead->e.s=d.s->faX e ad=0:=fun e e1 e2=>by
  have:=hf;unfold faX at this ⊢;rw[e1,e2];exact this
 unfold rdB;rw[if_pos (hf' _ coS_dead (coS_s _ _ _ _))];unfold atD at h;cases e:d.wait ad with
 |some c=>
  rw[e]at h
  have:c=b:=by simpa using h
  subst this;unfold coS;rw[if_pos hf,e];simp[atD,putB]
 |none=>
  rw[e]at h;have h':d.last ad=some b:=h;unfold coS;rw[if_pos hf,e,h'];simp[atD,putB,e]
theorem rdB_some{d:DkS}{ad:Int}{b:List UInt8}(h:rdB d ad=b)(hb:b≠[]):faX d ad=0/\atD d ad=some b:=by
 unfold rdB at h
 by_cases e:faX d ad=0
 ·rw[if_pos e]at h;refine⟨e,?_⟩;cases q:atD d ad with
  |none=>rw[q]at h;exact absurd h.symm hb
  |some c=>rw[q]at h;rw[show c=b from h]
 ·rw[if_neg e]at h;exact absurd h.symm hb
theorem up_nil(x:Int):upX x []=110:=(up_not (fun h=>by have:=h.1;simp at this)).1
theorem hd_up{kind at_:Int}(hT:OkT g st ep){b:List UInt8}(hb:b.length<=4096){d:DkS}(h:rdB d (stG g st)=pkT g st ep b):upX (stG g st) (rdB (hdD kind (stG g st) at_ d) (stG g st))=110:=by
 have hl:(pkT g st ep b).length=b.length+12:=pk_length _ _ _;have hne:pkT g st ep b≠[]:=fun e=>by rw[e]at hl;simp at hl
 obtain⟨hf,ha⟩:=rdB_some h hne;unfold hdD
 split
 ·have:rdB (faS d) (stG g st)=[]:=by
   unfold rdB;rw[faX_dead rfl,if_neg (by decide)]
  rw[this];exact up_nil _
 ·split
  ·have:rdB (reS d) (stG g st)=[]:=by
    unfold rdB
    split<;>rfl
   rw[this];exact up_nil _
  ·rw[rdB_co hf ha];refine(up_not ?_).1;unfold chB;have ht:atN at_ (pkT g st ep b).length<(pkT g st ep b).length:=Nat.mod_lt _ (by omega);refine pk_tells (hT.se hb) ht ?_
   show co (pkT g st ep b) _^^^1≠co (pkT g st ep b) _
   intro e;have e2:=congrArg (fun x=>co (pkT g st ep b) (atN at_ (pkT g st ep b).length)^^^x) e;rw[x_cancel,x_self]at e2;cases e2
theorem hs_no{i:Nat}(h:upX (stG g st) (rbT a g st i)=110):hsF a g st ep i=false:=decide_eq_false fun q=>by
 rw[h]at q;have:=q.1;cases this
structure WholeT(a:ArS)(g:GeoS)(st ep:Int)(D:List UInt8):Prop where
 calm:Calm a
 held:∀i,i<nT g->rbT a g st i=pkT g st ep (ro (shT g D) i)
 wr:∀i,i<nT g->WrT a g st i
theorem whole_hurt(hT:OkT g st ep){D:List UInt8}(hD:LenT g D)(h:WholeT a g st ep D){kind at_:Int}{S:List Int}(hn:S.Nodup)(hS:∀d,d∈S->0<=d/\d<((nT g:Nat):Int)):
  HeldT (hrT kind (stG g st) at_ a S S.length) g st ep (shT g D) (fun i=>decide (diG g st (i:Int)∈S))/\cnt (fun i=>decide (diG g st (i:Int)∈S)) (nT g)=S.length/\
  Calm (hrT kind (stG g st) at_ a S S.length)/\(∀i,i<nT g->(kind=0->diG g st (i:Int)∈S->lvT (hrT kind (stG g st) at_ a S S.length) (diG g st (i:Int))=false)/\((kind≠0∨diG g st (i:Int) ∉ S)->WrT (hrT kind (stG g st) at_ a S S.length) g st i)):=by
 have z:=okG_nat hT.1;have hth:∀d,d∈S->thA a d:=fun d hd=>by
  obtain⟨i,hi,e⟩:=diG_of hT.1 hT.2.1 hT.2.2.1 (hS d hd).1 (hS d hd).2;rw[<-e];exact(h.wr i hi).th
 have P:=hr_all (kind:=kind) (ad:=stG g st) (at_:=at_) h.calm hn hth S.length (Nat.le_refl _);rw[List.take_length]at P;have th':∀i,i<nT g->thA (hrT kind (stG g st) at_ a S S.length) (diG g st (i:Int)):=fun i hi=>⟨(h.wr i hi).th.1,by rw[P.len];exact(h.wr i hi).th.2⟩
 have hrow:∀i,i<nT g->(ro (shT g D) i).length<=4096:=fun i hi=>by rw[shT_row hD hT.1 hi];omega
 have rd0:∀i,i<nT g->rdB (diA a (diG g st (i:Int))) (stG g st)=pkT g st ep (ro (shT g D) i):=fun i hi=>by
  rw[<-h.held i hi];exact(rd_at h.calm.1 (h.wr i hi).th).symm
 refine⟨⟨fun i hi hu=>?_,fun i hi hu=>?_,P.calm.1⟩,cnt_disks hT.1 hT.2.1 hT.2.2.1 hn hS,P.calm,fun i hi=>⟨fun k0 hm=>?_,fun hk=>?_⟩⟩
 ·have hu':=of_decide_eq_false hu;unfold rbT;rw[rd_at P.calm.1 (th' i hi),P.else_ _ (h.wr i hi).th.1 hu'];exact rd0 i hi
 ·refine hs_no ?_
  unfold rbT;rw[rd_at P.calm.1 (th' i hi),P.at' _ (of_decide_eq_true hu)];exact hd_up hT (hrow i hi) (rd0 i hi)
 ·unfold lvT;rw[P.at' _ hm,hdD_dead (h.wr i hi).al,decide_eq_true k0];simp
 ·by_cases hm:diG g st (i:Int)∈S
  ·have k0:kind≠0:=hk.resolve_right fun q=>q hm
   refine⟨th' i hi,?_,?_⟩
   ·rw[P.at' _ hm,hdD_dead (h.wr i hi).al,decide_eq_false k0]
   ·rw[P.at' _ hm,hdD_s];exact(h.wr i hi).rm
  ·refine⟨th' i hi,?_,?_⟩
   ·rw[P.else_ _ (h.wr i hi).th.1 hm];exact(h.wr i hi).al
   ·rw[P.else_ _ (h.wr i hi).th.1 hm];exact(h.wr i hi).rm
theorem WrT.lv{i:Nat}(h:WrT a g st i):lvT a (diG g st (i:Int))=true:=by
 unfold lvT;rw[decide_eq_true h.th,h.al];rfl
theorem back15(hT:OkT g st ep){D:List UInt8}(hD:LenT g D)(h:WholeT a g st ep D){kind at_:Int}{S:List Int}(hn:S.Nodup)(hS:∀d,d∈S->0<=d/\d<((nT g:Nat):Int)){a':ArS}(ha:a'=hrT kind (stG g st) at_ a S S.length):
  (g.m.toNat<S.length->rtX a' g st ep=150/\rtD a' g st ep=[]/\rtB a' g st ep=[])/\
  (S.length<=g.m.toNat->rtX a' g st ep=0/\rtD a' g st ep=D/\(rtB a' g st ep).length=(if kind=0 then 0 else S.length)/\
   fxX a' g st ep=0/\fxN a' g st ep=(rtB a' g st ep).length/\rtX (fxS a' g st ep) g st ep=0/\rtD (fxS a' g st ep) g st ep=D/\rtB (fxS a' g st ep) g st ep=[]):=by
 subst ha;obtain⟨H,hc,hcalm,hw⟩:=whole_hurt hT hD h (kind:=kind) (at_:=at_) hn hS;generalize hrT kind (stG g st) at_ a S S.length=a' at H hcalm hw ⊢;have hrow:∀i,i<nT g->(ro (shT g D) i).length<=4096:=fun i hi=>by rw[shT_row hD hT.1 hi];have:=okG_nat hT.1;omega
 refine⟨fun hf=>?_,fun hf=>?_⟩
 ·refine read_lost hT H.off (fun i hi e=>has_len hT.1 e) ?_
  rw[cnt_congr (q:=fun i=>decide (diG g st (i:Int)∈S)) fun i hi=>by rw[held_has hT hD H hi,Bool.not_not],hc];exact hf
 ·have hf':cnt (fun i=>decide (diG g st (i:Int)∈S)) (nT g)<=g.m.toNat:=by rw[hc];exact hf
  obtain⟨x1,x2,x3⟩:=held_all hT hD H hf';obtain⟨r0,r1,r2⟩:=held_read hT hD H hf';have b0:=held_bd hT hD H hf';have hfx:fxX a' g st ep=(if pcT a' g st ep (shT g D) (bdT a' g st ep)=true then 130 else 0):=by unfold fxX;rw[if_pos r0,x2]
  have hfs:fxS a' g st ep=psT a' g st ep (shT g D) (bdT a' g st ep) (bdT a' g st ep).length:=by unfold fxS;rw[if_pos r0,x2]
  have hmem:∀i,i∈bdT a' g st ep->i<nT g/\diG g st (i:Int)∈S/\lvT a' (diG g st (i:Int))=true:=fun i hi=>by
   rw[b0,plc_mem]at hi;have:=hi.2;rw[Bool.and_eq_true]at this;exact⟨hi.1,of_decide_eq_true this.1,this.2⟩
  have hwr:∀i,i∈bdT a' g st ep->i<nT g/\WrT a' g st i:=fun i hi=>by
   obtain⟨m1,m2,m3⟩:=hmem i hi;refine⟨m1,(hw i m1).2 (Or.inl fun k0=>?_)⟩;rw[(hw i m1).1 k0 m2]at m3;cases m3
  have hnd:(bdT a' g st ep).Nodup:=by rw[b0];exact plc_nodup _ _
  obtain⟨P,n1,c1⟩:=ps_all hT hcalm (R:=shT g D) hnd hwr (fun i hi=>hrow i (hwr i hi).1);have f0:fxX a' g st ep=0:=by rw[hfx,c1];rfl
  have hlen:(rtB a' g st ep).length=(if kind=0 then 0 else S.length):=by
   rw[r2,plc_length]
   by_cases k0:kind=0
   ·rw[if_pos k0];refine cnt_none fun i hi=>?_
    by_cases hm:diG g st (i:Int)∈S
    ·rw[(hw i hi).1 k0 hm,Bool.and_false]
    ·rw[decide_eq_false hm];rfl
   ·rw[if_neg k0,<-hc];exact cnt_congr fun i hi=>by rw[((hw i hi).2 (Or.inl k0)).lv,Bool.and_true]
  --behind the fix
  have hrest:∀i,i<nT g->i ∉ bdT a' g st ep->diG g st (i:Int)∈S->kind=0:=fun i hi hne hm=>by
   refine Classical.byContradiction fun k0=>hne ?_
   rw[b0,plc_mem];exact⟨hi,by rw[((hw i hi).2 (Or.inl k0)).lv,decide_eq_true hm];rfl⟩
  have H2:HeldT (fxS a' g st ep) g st ep (shT g D) (fun i=>decide (kind=0)&&decide (diG g st (i:Int)∈S)):=by
   rw[hfs];refine⟨fun i hi hu=>?_,fun i hi hu=>?_,P.calm.1⟩
   ·by_cases hb:i∈bdT a' g st ep
    ·exact PutT.rb hT hwr (fun i hi=>hrow i (hwr i hi).1) P i hb
    ·rw[PutT.rb_else hT hcalm hwr P hi hb];refine H.ok i hi (decide_eq_false fun hm=>?_);rw[hrest i hi hb hm,decide_eq_true hm]at hu;cases hu
   ·rw[Bool.and_eq_true]at hu;have hm:=of_decide_eq_true hu.2;have k0:kind=0:=of_decide_eq_true hu.1;have hb:i ∉ bdT a' g st ep:=fun hb=>by
     have:=(hmem i hb).2.2;rw[(hw i hi).1 k0 hm]at this;cases this
    have e:=PutT.rb_else hT hcalm hwr P hi hb;have:=H.bad i hi (decide_eq_true hm);unfold hsF at this ⊢;rw[e];exact this
  have hc2:cnt (fun i=>decide (kind=0)&&decide (diG g st (i:Int)∈S)) (nT g)<=g.m.toNat:=Nat.le_trans (cnt_mono fun i hi h=>by rw[Bool.and_eq_true]at h;exact h.2) hf';obtain⟨r3,r4,r5⟩:=held_read hT hD H2 hc2;have bn:bdT a' g st ep=rtB a' g st ep:=by unfold rtB;rw[if_pos r0]
  refine⟨r0,r1,hlen,f0,?_,r3,r4,?_⟩
  ·unfold fxN;rw[if_pos f0,x2,n1,bn]
  ·rw[r5];refine plc_none fun i hi=>?_
   by_cases hu:kind=0/\diG g st (i:Int)∈S
   ·have hlv:=(hw i hi).1 hu.1 hu.2
    have:lvT (fxS a' g st ep) (diG g st (i:Int))=lvT a' (diG g st (i:Int)):=by
     have din:=diG_in hT.1 hT.2.1 hT.2.2.1 hi;unfold lvT;rw[hfs,(P.keeps din.1).1];have e:thA (psT a' g st ep (shT g D) (bdT a' g st ep) (bdT a' g st ep).length) (diG g st (i:Int))↔thA a' (diG g st (i:Int)):=by unfold thA;rw[P.len]
     rw[decide_eq_decide.2 e]
    rw[this,hlv,Bool.and_false]
   ·have:(decide (kind=0)&&decide (diG g st (i:Int)∈S))=false:=by
     rw[<-Bool.decide_and];exact decide_eq_false hu
    rw[this];rfl
theorem whole_write(hT:OkT g st ep){D:List UInt8}(hD:LenT g D)(hc:Calm a)(hw:∀i,i<nT g->WrT a g st i):swX a g st ep D=0/\WholeT (swS a g st ep D) g st ep D/\PutT a (swS a g st ep D) g st ep (shT g D) (List.range (nT g)):=by
 have hrow:∀i,i<nT g->(ro (shT g D) i).length<=4096:=fun i hi=>by rw[shT_row hD hT.1 hi];have:=okG_nat hT.1;omega
 have hB:∀i,i∈List.range (nT g)->i<nT g/\WrT a g st i:=fun i hi=>⟨List.mem_range.1 hi,hw i (List.mem_range.1 hi)⟩
 obtain⟨P,n1,c1⟩:=ps_all hT hc (R:=shT g D) List.nodup_range hB (fun i hi=>hrow i (List.mem_range.1 hi));rw[List.length_range]at P;have e:swS a g st ep D=psT a g st ep (shT g D) (List.range (nT g)) (nT g):=if_pos ⟨hT,hD⟩;refine⟨?_,?_,by rw[e];exact P⟩
 ·unfold swX;rw[if_pos hT,if_pos hD,c1];rfl
 ·rw[e];refine⟨P.calm,fun i hi=>PutT.rb hT hB (fun i hi=>hrow i (List.mem_range.1 hi)) P i (List.mem_range.2 hi),fun i hi=>?_⟩;have din:=diG_in hT.1 hT.2.1 hT.2.2.1 hi;have k:=P.keeps din.1;exact⟨⟨(hw i hi).th.1,by rw[P.len];exact(hw i hi).th.2⟩,by rw[k.1];exact(hw i hi).al,by rw[k.2];exact(hw i hi).rm⟩
end
theorem rdAB_len{a:ArS}(h:a.Ok)(i ad:Int):(rdAB a i ad).length<=100000:=by
 unfold rdAB
 split
 ·simp
 ·split
  ·rename_i ht
   have hd:=h.each _ (di_mem ht);unfold rdB
   split
   ·unfold atD;cases e:(diA a i).wait ad with
    |some b=>have:=hd.iw ad b e;show b.length<=_;omega
    |none=>
     cases e2:(diA a i).last ad with
     |some b=>have:=hd.il ad b e2;show b.length<=_;omega
     |none=>simp
   ·simp
  ·simp
theorem rdAX_crash{a:ArS}{i ad:Int}:rdAX a i ad=130↔a.off=true:=by
 unfold rdAX;cases h:a.off
 ·rw[if_neg (by decide)];refine⟨fun e=>?_,fun e=>by cases e⟩;exfalso
  split at e
  ·rcases faX_in (diA a i) ad with q|q|q<;>rw[q]at e<;>cases e
  ·cases e
 ·rw[if_pos rfl];exact⟨fun _=>rfl,fun _=>rfl⟩
theorem rdAB_no{a:ArS}{i ad:Int}(h:¬rdAX a i ad=0):rdAB a i ad=[]:=by
 unfold rdAX at h;unfold rdAB
 split
 ·rfl
 ·rename_i ho
  rw[if_neg ho]at h
  split
  ·rename_i ht
   rw[if_pos ht]at h;unfold rdB;rw[if_neg h]
  ·rfl
open Classical in
noncomputable def rtR(a:ArS)(g:GeoS)(st ep:Int):List (List UInt8):=if rtX a g st ep=0 then alR a g st ep else []
theorem rtX_off{a:ArS}{g:GeoS}{st ep:Int}(hT:OkT g st ep)(h:a.off=true):rtX a g st ep=130/\rtR a g st ep=[]/\rtB a g st ep=[]:=by
 have e:rtX a g st ep=130:=by unfold rtX alX;rw[if_pos hT,if_pos h]
 refine⟨e,?_,?_⟩
 ·unfold rtR;rw[e,if_neg (by decide)]
 ·unfold rtB;rw[e,if_neg (by decide)]
theorem rtR_row{a:ArS}{g:GeoS}{st ep:Int}(hT:OkT g st ep)(h0:rtX a g st ep=0):(rtR a g st ep).length=nT g/\∀i,i<nT g->(ro (rtR a g st ep) i).length=g.z.toNat:=by
 have z:=okG_nat hT.1;have ea:alX a g st ep=0:=by unfold rtX at h0;rw[if_pos hT]at h0;exact h0
 have eo:shX g.k g.m (hsT a g st ep) (dsT a g st)=0:=by
  unfold alX at ea
  split at ea
  ·cases ea
  ·split at ea
   ·assumption
   ·cases ea
 have er:rtR a g st ep=rowsP g.k.toNat g.m.toNat (hsT a g st ep) (dsT a g st) (oneX (hsT a g st ep) (dsT a g st)).toNat:=by
  unfold rtR alR shR;rw[if_pos h0,if_pos eo]
 have e1:oneX (hsT a g st ep) (dsT a g st)≠-1:=fun e=>by
  have:=(sh_shard (hs:=hsT a g st ep) (L:=dsT a g st) (okG_c hT.1) (fun q=>q.2.2 e)).1;rw[this]at eo;cases eo
 have e2:(oneX (hsT a g st ep) (dsT a g st)).toNat=g.z.toNat:=by
  rcases oneX_cases (hsT a g st ep) (dsT a g st)with c|⟨n,c1,c2,i,c3⟩
  ·exact absurd c e1
  ·have hi:i<nT g:=by rw[<-hsT_length (a:=a) (st:=st) (ep:=ep)];exact hb_in c3
   have c4:=c2 i c3;rw[hsT_hb hi]at c3;unfold dsT at c4;rw[ro_mkL hi,has_len hT.1 c3]at c4;rw[c1,c4];simp
 rw[er,e2];refine⟨rowsP_length _ _ _ _ _,fun i hi=>?_⟩;rw[rowsP_ro hi,upto_length]
section
variable {a:ArS} {g:GeoS} {st ep:Int}
def shdF(a:ArS)(g:GeoS)(st ep:Int)(i:Nat):List UInt8:=if hsF a g st ep i=true then upD (stG g st) (rbT a g st i)else []
def shdT(a:ArS)(g:GeoS)(st ep:Int):List (List UInt8):=mkL (nT g) (shdF a g st ep)
theorem shdT_length:(shdT a g st ep).length=nT g:=mkL_length _ _
theorem ls_sh:shX g.k g.m (hsT a g st ep) (shdT a g st ep)=shX g.k g.m (hsT a g st ep) (dsT a g st)/\shR g.k g.m (hsT a g st ep) (shdT a g st ep)=alR a g st ep/\shP g.k g.m (hsT a g st ep) (shdT a g st ep)=alP a g st ep:=
 sh_same (by rw[shdT_length,dsT_length]) fun i hi=>by
  have hi2:i<nT g:=by rw[<-hsT_length (a:=a) (st:=st) (ep:=ep)];exact hb_in hi
  rw[hsT_hb hi2]at hi;unfold shdT dsT;rw[ro_mkL hi2,ro_mkL hi2];exact if_pos hi
theorem ls_len(hg:okG g)(i:Nat):(shdF a g st ep i).length<=g.z.toNat:=by
 unfold shdF
 by_cases h:hsF a g st ep i=true
 ·rw[if_pos h,has_len hg h];exact Nat.le_refl _
 ·rw[if_neg h];simp
def gdF(a:ArS)(g:GeoS)(st ep:Int)(P:List Nat)(i:Nat):Bool:=hsF a g st ep i&& !decide (i∈P)
theorem gd_nil(i:Nat):gdF a g st ep [] i=hsF a g st ep i:=by simp[gdF]
theorem gd_snoc(P:List Nat)(j i:Nat):gdF a g st ep (P++[j]) i=if i=j then false else gdF a g st ep P i:=by
 unfold gdF
 by_cases e:i=j
 ·rw[if_pos e,e];simp
 ·rw[if_neg e];simp[e]
theorem bd_gd(i:Nat):bdF a g st ep i=(!gdF a g st ep (alP a g st ep) i&&lvT a (diG g st (i:Int))):=by
 unfold bdF gdF;rw[Bool.not_and,Bool.not_not]
theorem shP_in{k m:Int}{hs:List Bool}{L:List (List UInt8)}:∀i,i∈shP k m hs L->i<k.toNat+m.toNat:=fun i hi=>by
 unfold shP at hi
 split at hi
 ·exact(plc_mem.1 hi).1
 ·cases hi
theorem al_ok(ho:a.off=false):alX a g st ep=if shX g.k g.m (hsT a g st ep) (dsT a g st)=0 then 0 else 150:=by
 unfold alX;rw[if_neg (by rw[ho];decide)]
theorem lv_at{d:Int}(h0:0<=d):lvT a d=(decide (d<(a.D.length:Int))&& !(a.D.getD d.toNat default).dead):=by
 unfold lvT diA;congr 1;refine decide_eq_decide.2 ?_
 unfold thA;exact⟨fun q=>q.2,fun q=>⟨h0,q⟩⟩
end
open Go.RowKit
section
variable {w:World} {pa pf:Option Addr} {g:GeoS} {st ep:Int}
theorem piss_any{x:Bool}(hx:decide (0<=st/\st<g.s)=x):Calls Tryz.prog 50 #[aggP pa pf g st ep] w fun e w'=>e= .returned (.bool x)/\Below w.heap.size w w':=by
 subst hx;obtain⟨k,m,z,s,t,o⟩:=g;have L0:=(spot_new w pa pf ⟨k,m,z,s,t,o⟩ st ep 103).all;simp only[cellsP]at L0;obtain⟨x0,x1,x2,x3,x4,x5,x6,x7,x8,x9⟩:=L0;have F0:=belL w (.cells (cellsP pa pf ⟨k,m,z,s,t,o⟩ st ep) 103);simp only[cellsP]at F0;unfold aggP;simp only[cellsP]
 by_cases h1:0<=st
 ·by_cases h2:st<s
  ·rw[decide_eq_true ⟨h1,h2⟩];have h1':st>=0:=h1
   go_enter Tryz.func50,Tryz.ntmps50
   go_wp2;go_ret;exact⟨rfl,F0⟩
  ·rw[decide_eq_false (fun q=>h2 q.2)];have h1':st>=0:=h1
   go_enter Tryz.func50,Tryz.ntmps50
   go_wp2;go_ret;exact⟨rfl,F0⟩
 ·rw[decide_eq_false (fun q=>h1 q.1)];have h1':¬st>=0:=h1
  go_enter Tryz.func50,Tryz.ntmps50
  go_wp2;go_ret;exact⟨rfl,F0⟩
theorem pise_any{x:Bool}(hx:decide (0<=ep/\ep<=2147483647)=x):Calls Tryz.prog 51 #[aggP pa pf g st ep] w fun e w'=>e= .returned (.bool x)/\Below w.heap.size w w':=by
 subst hx;obtain⟨k,m,z,s,t,o⟩:=g;have L0:=(spot_new w pa pf ⟨k,m,z,s,t,o⟩ st ep 103).all;simp only[cellsP]at L0;obtain⟨x0,x1,x2,x3,x4,x5,x6,x7,x8,x9⟩:=L0;have F0:=belL w (.cells (cellsP pa pf ⟨k,m,z,s,t,o⟩ st ep) 103);simp only[cellsP]at F0;unfold aggP;simp only[cellsP]
 by_cases h1:0<=ep
 ·by_cases h2:ep<=2147483647
  ·rw[decide_eq_true ⟨h1,h2⟩];have h1':ep>=0:=h1
   go_enter Tryz.func51,Tryz.ntmps51
   go_wp2;go_ret;exact⟨rfl,F0⟩
  ·rw[decide_eq_false (fun q=>h2 q.2)];have h1':ep>=0:=h1
   go_enter Tryz.func51,Tryz.ntmps51
   go_wp2;go_ret;exact⟨rfl,F0⟩
 ·rw[decide_eq_false (fun q=>h1 q.1)];have h1':¬ep>=0:=h1
  go_enter Tryz.func51,Tryz.ntmps51
  go_wp2;go_ret;exact⟨rfl,F0⟩
theorem pcount_any{x:Int}(hx:IntKind.i64.wrap (g.k+g.m)=x):Calls Tryz.prog 55 #[aggP pa pf g st ep] w fun e w'=>e= .returned (.int .i64 x)/\Below w.heap.size w w':=by
 obtain⟨k,m,z,s,t,o⟩:=g;simp only at hx;have L0:=(spot_new w pa pf ⟨k,m,z,s,t,o⟩ st ep 103).all;simp only[cellsP]at L0;obtain⟨x0,x1,x2,x3,x4,x5,x6,x7,x8,x9⟩:=L0;have F0:=belL w (.cells (cellsP pa pf ⟨k,m,z,s,t,o⟩ st ep) 103);simp only[cellsP]at F0;unfold aggP;simp only[cellsP]
 go_enter Tryz.func55,Tryz.ntmps55
 go_wp2;go_ret;exact⟨rfl,F0⟩
theorem pplace_any(hg:g.Wf)(hst:(Lit.int .i64 st).wf=true){x:Int}(hx:stG g st=x):Calls Tryz.prog 86 #[aggP pa pf g st ep] w fun e w'=>e= .returned (.int .i64 x)/\Below w.heap.size w w':=by
 have K:=fun W=>@lstripe_any W g hg st hst x hx
 clear hx;obtain⟨k,m,z,s,t,o⟩:=g;rw[show aggG ⟨k,m,z,s,t,o⟩= .agg #[.int .i64 k,.int .i64 m,.int .i64 z,.int .i64 s,.int .i64 t,.int .i64 o]from rfl]at K;have L0:=(spot_new w pa pf ⟨k,m,z,s,t,o⟩ st ep 103).all;simp only[cellsP]at L0;obtain⟨x0,x1,x2,x3,x4,x5,x6,x7,x8,x9⟩:=L0;have F0:=belL w (.cells (cellsP pa pf ⟨k,m,z,s,t,o⟩ st ep) 103);simp only[cellsP]at F0;unfold aggP;simp only[cellsP]
 go_enter Tryz.func86,Tryz.ntmps86
 go_wp2_with fail
 refine(K _).mono ?_
 rintro _ w1 ⟨rfl,B1⟩;have F1:=F0.stepL B1 F0.size;clear K B1 F0 x0 x1 x2 x3 x4 x5 x6 x7 x8 x9;go_wp2;go_ret;exact⟨rfl,F1⟩
theorem pdisk_any(hg:g.Wf)(hst:(Lit.int .i64 st).wf=true){sh:Int}(hsh:(Lit.int .i64 sh).wf=true){x:Int}(hx:diG g st sh=x):Calls Tryz.prog 87 #[aggP pa pf g st ep,.int .i64 sh] w fun e w'=>e= .returned (.int .i64 x)/\Below w.heap.size w w':=by
 have K:=fun W=>@ldisk_any W g hg st sh hst hsh x hx
 clear hx;obtain⟨k,m,z,s,t,o⟩:=g;rw[show aggG ⟨k,m,z,s,t,o⟩= .agg #[.int .i64 k,.int .i64 m,.int .i64 z,.int .i64 s,.int .i64 t,.int .i64 o]from rfl]at K;have L0:=(spot_new w pa pf ⟨k,m,z,s,t,o⟩ st ep 103).all;simp only[cellsP]at L0;obtain⟨x0,x1,x2,x3,x4,x5,x6,x7,x8,x9⟩:=L0;have F0:=belL w (.cells (cellsP pa pf ⟨k,m,z,s,t,o⟩ st ep) 103);simp only[cellsP]at F0;unfold aggP;simp only[cellsP]
 go_enter Tryz.func87,Tryz.ntmps87
 go_wp2_with fail
 refine(K _).mono ?_
 rintro _ w1 ⟨rfl,B1⟩;have F1:=F0.stepL B1 F0.size;clear K B1 F0 x0 x1 x2 x3 x4 x5 x6 x7 x8 x9;go_wp2;go_ret;exact⟨rfl,F1⟩
end
def IdxB(w:World)(bs:List Bool)(e:Ending)(w':World):Prop:=∃z:Int,e= .returned (.int .i64 z)/\(0<=z↔false∈bs)/\w'=w
theorem idxb_any{w:World}{v:Value}{bs:List Bool}(h:RdB w v bs)(hl:bs.length<=1000):Calls Tryz.prog 123 #[v,.bool false] w (IdxB w bs):=by
 obtain⟨a,c,rfl⟩:=h.form;have H:Hid (RdB w (.slice a bs.length c) bs):=h;clear h
 go_enter Tryz.func123,Tryz.ntmps123
 go_wp2
 go_loopw [8] (fun i wr=>∃r:Nat,r<=bs.length/\i= .int .i64 (r:Int)/\wr=w/\∀j,j<r->hb bs j=true) (fun i _=>bs.length-(intOf i).toNat)
 case atStart=>exact⟨0,Nat.zero_le _,rfl,rfl,fun j hj=>absurd hj (Nat.not_lt_zero _)⟩
 case round=>
  obtain⟨r,hr,rfl,rfl,hall⟩:=hrel
  by_cases hlt:r<bs.length
  ·have hlt':(r:Int)<(bs.length:Int):=by omega
   have g1:IntKind.i64.wrap ((r:Int)+1)=((r+1:Nat):Int):=by rw[IntKind.wrap_i64];omega
   obtain⟨b,off,rfl,_,cx⟩:=H.out.at hlt;cases hx:hb bs r with
   |false=>
    rw[hx]at cx;have E:Hid (false∈bs):=by
     show _∈_
     rw[<-hx];unfold hb;rw[show bs.getD r false=bs[r] by simp[List.getD,hlt]];exact List.getElem_mem hlt
    clear hall hx;go_wp2;go_ret;exact⟨_,rfl,⟨fun _=>E.out,fun _=>by omega⟩,rfl⟩
   |true=>
    rw[hx]at cx;have E:Hid (∀j,j<r+1->hb bs j=true):=fun j hj=>by
     by_cases e:j=r
     ·rw[e];exact hx
     ·exact hall j (by omega)
    clear hall hx;go_wp2;go_roundw
    case rel=>exact⟨r+1,by omega,by go_num,by first|rfl|trivial,E.out⟩
    case measure=>simp[intOf];omega
  ·obtain rfl:r=bs.length:=by omega
   have hlt':¬(bs.length:Int)<(bs.length:Int):=by omega
   have E:Hid (¬false∈bs):=fun hm=>by
    obtain⟨j,hj,e⟩:=List.getElem_of_mem hm;have:=hall j hj;unfold hb at this;rw[show bs.getD j false=bs[j] by simp[List.getD,hj],e]at this;cases this
   clear hall;go_wp2;go_ret;exact⟨_,rfl,⟨fun h=>by omega,fun h=>absurd h E.out⟩,rfl⟩
theorem contb_any{w:World}{v:Value}{bs:List Bool}(h:RdB w v bs)(hl:bs.length<=1000):Calls Tryz.prog 84 #[v,.bool false] w fun e w'=>e= .returned (.bool (decide (false∈bs)))/\w'=w:=by
 have K:=idxb_any h hl;obtain⟨a,c,rfl⟩:=h.form;clear h
 by_cases hm:false∈bs
 ·rw[decide_eq_true hm]
  go_enter Tryz.func84,Tryz.ntmps84
  go_wp2_with fail
  refine K.mono ?_
  rintro _ wq ⟨z,rfl,hz,hwq⟩;rw[hwq];have z1:z>=0:=hz.2 hm;clear hwq wq K hz hm;go_wp2;go_ret;exact⟨rfl,rfl⟩
 ·rw[decide_eq_false hm]
  go_enter Tryz.func84,Tryz.ntmps84
  go_wp2_with fail
  refine K.mono ?_
  rintro _ wq ⟨z,rfl,hz,hwq⟩;rw[hwq];have z1:z<0:=by
   by_cases q:0<=z
   ·exact absurd (hz.1 q) hm
   ·omega
  have z2:¬0<=z:=by omega
  have z3:decide (0<=z)=false:=decide_eq_false z2;clear hwq wq K hz hm;go_wp2;go_ret;exact⟨rfl,rfl⟩
def rfX(g:GeoS)(bs:List Bool):Int:=if okG g then (if false∈bs then 1 else 0)else 50
section
variable {w:World} {g:GeoS} {st ep:Int}
theorem pref_any{ab fb:Nat}(hg:g.Wf){v:Value}{bs:List Bool}(hb:RdB w v bs)(hl:bs.length<=1000){x:Int}(hx:rfX g bs=x):Calls Tryz.prog 49 #[aggP (some ⟨ab,0,none⟩) (some ⟨fb,0,none⟩) g st ep,v] w fun e w'=>e= .returned (.int .i64 x)/\Below w.heap.size w w':=by
 have KC:=fun W=>@lcheck_any W g hg _ rfl
 have KK:=fun W (h:RdB W v bs)=>contb_any h hl
 by_cases ok:okG g
 ·have ec:chG g=0:=if_pos ok;rw[ec]at KC;have ex:rfX g bs=if false∈bs then 1 else 0:=if_pos ok
  rw[ex]at hx;clear ec ex ok;obtain⟨k,m,z,s,t,o⟩:=g;rw[show aggG ⟨k,m,z,s,t,o⟩= .agg #[.int .i64 k,.int .i64 m,.int .i64 z,.int .i64 s,.int .i64 t,.int .i64 o]from rfl]at KC;have L0:=(spot_new w (some ⟨ab,0,none⟩) (some ⟨fb,0,none⟩) ⟨k,m,z,s,t,o⟩ st ep 103).all;simp only[cellsP]at L0;obtain⟨x0,x1,x2,x3,x4,x5,x6,x7,x8,x9⟩:=L0;have F0:=belL w (.cells (cellsP (some ⟨ab,0,none⟩) (some ⟨fb,0,none⟩) ⟨k,m,z,s,t,o⟩ st ep) 103);simp only[cellsP]at F0;unfold aggP;simp only[cellsP];obtain⟨va,vc,rfl⟩:=hb.form
  by_cases hm:false∈bs
  ·rw[decide_eq_true hm]at KK;rw[if_pos hm]at hx;subst hx;clear hm
   go_enter Tryz.func49,Tryz.ntmps49
   go_wp2_with fail
   refine(KC _).mono ?_
   rintro _ w1 ⟨rfl,B1⟩;have F1:=F0.stepL B1 F0.size;have K1:=KK _ (hb.below F1);clear KC KK B1 F0 x0 x1 x2 x3 x4 x5 x6 x7 x8 x9
   go_wp2_with fail
   refine K1.mono ?_
   rintro _ wq ⟨rfl,hwq⟩;rw[hwq];clear hwq wq K1;go_wp2;go_ret;exact⟨rfl,F1⟩
  ·rw[decide_eq_false hm]at KK;rw[if_neg hm]at hx;subst hx;clear hm
   go_enter Tryz.func49,Tryz.ntmps49
   go_wp2_with fail
   refine(KC _).mono ?_
   rintro _ w1 ⟨rfl,B1⟩;have F1:=F0.stepL B1 F0.size;have K1:=KK _ (hb.below F1);clear KC KK B1 F0 x0 x1 x2 x3 x4 x5 x6 x7 x8 x9
   go_wp2_with fail
   refine K1.mono ?_
   rintro _ wq ⟨rfl,hwq⟩;rw[hwq];clear hwq wq K1;go_wp2;go_ret;exact⟨rfl,F1⟩
 ·have ec:chG g=50:=if_neg ok;rw[ec]at KC;have ex:rfX g bs=50:=if_neg ok;rw[ex]at hx;subst hx;clear ec ex ok KK;obtain⟨k,m,z,s,t,o⟩:=g;rw[show aggG ⟨k,m,z,s,t,o⟩= .agg #[.int .i64 k,.int .i64 m,.int .i64 z,.int .i64 s,.int .i64 t,.int .i64 o]from rfl]at KC;have L0:=(spot_new w (some ⟨ab,0,none⟩) (some ⟨fb,0,none⟩) ⟨k,m,z,s,t,o⟩ st ep 103).all;simp only[cellsP]at L0;obtain⟨x0,x1,x2,x3,x4,x5,x6,x7,x8,x9⟩:=L0;have F0:=belL w (.cells (cellsP (some ⟨ab,0,none⟩) (some ⟨fb,0,none⟩) ⟨k,m,z,s,t,o⟩ st ep) 103);simp only[cellsP]at F0;unfold aggP;simp only[cellsP];obtain⟨va,vc,rfl⟩:=hb.form
  go_enter Tryz.func49,Tryz.ntmps49
  go_wp2_with fail
  refine(KC _).mono ?_
  rintro _ w1 ⟨rfl,B1⟩;have F1:=F0.stepL B1 F0.size;clear KC B1 F0 x0 x1 x2 x3 x4 x5 x6 x7 x8 x9;go_wp2;go_ret;exact⟨rfl,F1⟩
end
def MakesA15(w:World)(X:Int)(R:List (List UInt8))(B:List Nat)(e:Ending)(w':World):Prop:=∃va vb,e= .returned (.tuple #[va,vb,.int .i64 X])/\FarL w' w.heap.size va R/\OwnI w' w.heap.size 3 vb B/\Below w.heap.size w w'
theorem nilA15{w w':World}{x:Int}(b:Below w.heap.size w w'){X:Int}{R:List (List UInt8)}{B:List Nat}(h:X=x/\R=[]/\B=[]):MakesA15 w X R B (.returned (.tuple #[.slice none 0 0,.slice none 0 0,.int .i64 x])) w':=by
 obtain⟨rfl,rfl,rfl⟩:=h;exact⟨_,_,rfl,FarL.nil _ _,OwnI.nil _ _ _,b⟩
def MakesR15(w:World)(X:Int)(D:List UInt8)(B:List Nat)(e:Ending)(w':World):Prop:=∃vd vb,e= .returned (.tuple #[vd,vb,.int .i64 X])/\Rd w' vd D/\OwnI w' w.heap.size 3 vb B/\Below w.heap.size w w'
def MakesL15(w:World)(X:Int)(D:List UInt8)(B:List Nat)(e:Ending)(w':World):Prop:=∃vd vb,e= .returned (.tuple #[vd,vb,.int .i64 X])/\w'.ownsRow w.heap.size 5 1 vd D.length (D.map Gf.vb)/\OwnI w' w.heap.size 3 vb B/\Below w.heap.size w w'
structure TwoL(w:World)(gs gh n:Nat)(V:Nat->Value)(L:Nat->List UInt8)(H:Nat->Bool):Prop where
 rs:w.rowIs gs 36 n V
 rh:w.rowIs gh 4 n (fun i=>.bool (H i))
 each:∀i,i<n->Rd w (V i) (L i)
 as_:∀i,i<n->Apart gs (V i)
 ah:∀i,i<n->Apart gh (V i)
 ne:gs≠gh
 n1:n<=1000
section
variable {w w':World} {gs gh n:Nat} {V:Nat->Value} {L:Nat->List UInt8} {H:Nat->Bool}
theorem TwoL.below(h:TwoL w gs gh n V L H)(hb:Below w.heap.size w w'):TwoL w' gs gh n V L H:=
 ⟨h.rs.of_block (hb.block gs h.rs.lt),h.rh.of_block (hb.block gh h.rh.lt),fun i hi=>(h.each i hi).below hb,h.as_,h.ah,h.ne,h.n1⟩
theorem TwoL.congr{L':Nat->List UInt8}{H':Nat->Bool}(h:TwoL w gs gh n V L H)(eL:∀i,i<n->L i=L' i)(eH:∀i,i<n->H i=H' i):TwoL w gs gh n V L' H':=
 ⟨h.rs,h.rh.congr fun i hi=>by rw[eH i hi],fun i hi=>by rw[<-eL i hi];exact h.each i hi,h.as_,h.ah,h.ne,h.n1⟩
theorem TwoL.made(h1:w.rowIs gs 36 n (fun _=>.slice none 0 0))(h2:w.rowIs gh 4 n (fun _=>.bool false))(hne:gs≠gh)(hn:n<=1000):TwoL w gs gh n (fun _=>.slice none 0 0) (fun _=>[]) (fun _=>false):=
 ⟨h1,h2,fun _ _=>Or.inl ⟨none,0,rfl,rfl,Nat.zero_le _,fun _=>rfl⟩,fun _ _ x n c e=>by simp at e,fun _ _ x n c e=>by simp at e,hne,hn⟩
theorem FarV.apartB{v:Value}{k:Nat}(h:FarV w v)(hk:k<w.heap.size):Apart k v:=fun x n c e=>(h x n c e).imp id fun q hq=>by rw[hq]at q;omega
theorem TwoL.putS(h:TwoL w gs gh n V L H){x:Value}{p:List UInt8}(hx:Rd w x p)(hs:Apart gs x)(hh:Apart gh x)(r:Nat):TwoL (w.setCell ⟨gs,r,none⟩ x) gs gh n (fun i=>if i=r then x else V i) (fun i=>if i=r then p else L i) H:=by
 have O:Only gs w (w.setCell ⟨gs,r,none⟩ x):=(Only.refl gs w).setCell r x;refine⟨h.rs.set r x,h.rh.of_block (O.block gh (fun e=>h.ne e.symm)),fun i hi=>?_,fun i hi=>?_,fun i hi=>?_,h.ne,h.n1⟩
 ·show Rd _ (if i=r then x else V i) (if i=r then p else L i)
  split
  ·exact hx.only hs O
  ·exact(h.each i hi).only (h.as_ i hi) O
 ·show Apart gs (if i=r then x else V i)
  split
  ·exact hs
  ·exact h.as_ i hi
 ·show Apart gh (if i=r then x else V i)
  split
  ·exact hh
  ·exact h.ah i hi
theorem TwoL.putB(h:TwoL w gs gh n V L H)(r:Nat)(b:Bool):TwoL (w.setCell ⟨gh,r,none⟩ (.bool b)) gs gh n V L (fun i=>if i=r then b else H i):=by
 have O:Only gh w (w.setCell ⟨gh,r,none⟩ (.bool b)):=(Only.refl gh w).setCell r (.bool b);refine⟨h.rs.of_block (O.block gs h.ne),(h.rh.set r (.bool b)).congr fun i hi=>?_,fun i hi=>(h.each i hi).only (h.ah i hi) O,h.as_,h.ah,h.ne,h.n1⟩
 by_cases e:i=r
 ·simp[e]
 ·simp[e]
theorem TwoL.rsOf(h:TwoL w gs gh n V L H):Rs w (.slice (some ⟨gs,0,none⟩) n n) (mkL n L):=by
 have hl:(mkL n L).length=n:=mkL_length _ _;refine⟨some ⟨gs,0,none⟩,n,by rw[hl],by rw[hl];exact Nat.le_refl _,by unfold maxLen;have:=h.n1;omega,nofun,fun i hi=>?_⟩;rw[hl]at hi;exact⟨gs,0,V i,rfl,h.rs.lt,by rw[Nat.zero_add];exact h.rs.cell hi,by rw[ro_mkL hi];exact h.each i hi⟩
theorem TwoL.rdB(h:TwoL w gs gh n V L H):RdB w (.slice (some ⟨gh,0,none⟩) n n) ((List.range n).map H):=by
 have hl:((List.range n).map H).length=n:=by simp
 refine⟨some ⟨gh,0,none⟩,n,by rw[hl],by rw[hl];exact Nat.le_refl _,by unfold maxLen;have:=h.n1;omega,nofun,fun i hi=>?_⟩;rw[hl]at hi;exact⟨gh,0,rfl,h.rh.lt,by rw[Nat.zero_add,h.rh.cell hi];simp[hb,List.getD,hi]⟩
end
theorem FarL.only{w w':World}{base gh:Nat}{v:Value}{L:List (List UInt8)}(h:FarL w base v L)(ho:Only gh w w')(hg:gh<base):FarL w' base v L:=by
 obtain⟨T,u,vals,hv,hr⟩:=h;have kb:∀{e n:Nat} {x:Value} {xs:List Value},w.ownsRow base e 1 x n xs->w'.ownsRow base e 1 x n xs:=fun h=>owns_block h fun q hq=>ho.block q (fun e=>by have:=(World.ownsRow.lt h q hq).1;omega)
 exact⟨T,u,vals,kb hv,⟨fun i x hx=>kb (hr.own i x hx),hr.diff,hr.out⟩⟩
theorem OwnI.only{w w':World}{base e gh:Nat}{v:Value}{zs:List Nat}(h:OwnI w base e v zs)(ho:Only gh w w')(hg:gh<base):OwnI w' base e v zs:=owns_block h fun q hq=>ho.block q (fun e=>by have:=(World.ownsRow.lt h q hq).1;omega)
def ToldI(w:World)(G:Nat->Prop)(v:Value)(zs:List Nat):Prop:=∃a c,v= .slice a zs.length c/\(zs≠[]->∃b,a=some ⟨b,0,none⟩/\b<w.heap.size/\¬G b/\∀i,i<zs.length->w.cell? ⟨b,i,none⟩=some (.int .i64 ((zs.getD i 0:Nat):Int)))
section
variable {w w':World} {G G':Nat->Prop} {v:Value} {zs:List Nat}
theorem ToldI.of_own{base e:Nat}(h:OwnI w base e v zs)(hG:∀k,G k->k<base):ToldI w G v zs:=by
 obtain⟨a,c,rfl⟩:=h.form;refine⟨a,c,rfl,fun h0=>?_⟩;obtain⟨b,e1,h1,h2,_⟩:=h.cell (List.length_pos_iff.2 h0);refine⟨b,e1,h1,fun q=>by have:=hG b q;omega,fun i hi=>?_⟩;obtain⟨b',e2,_,_,h3⟩:=h.cell hi;rw[e1]at e2;simp at e2;rw[e2];exact h3
theorem ToldI.of_row{g t n:Nat}{f:Nat->Value}(h:w.rowIs g t n f)(hn:n=zs.length)(hf:∀i,i<zs.length->f i= .int .i64 ((zs.getD i 0:Nat):Int))(hg:¬G g):ToldI w G (.slice (some ⟨g,0,none⟩) n n) zs:=by
 subst hn;exact⟨_,_,rfl,fun _=>⟨g,rfl,h.lt,hg,fun i hi=>by rw[h.cell hi,hf i hi]⟩⟩
theorem ToldI.form(h:ToldI w G v zs):∃a c,v= .slice a zs.length c:=by
 obtain⟨a,c,e,_⟩:=h;exact⟨a,c,e⟩
theorem ToldI.grew(h:ToldI w G v zs)(g:Grew G w G' w'):ToldI w' G' v zs:=by
 obtain⟨a,c,e,h⟩:=h;refine⟨a,c,e,fun h0=>?_⟩;obtain⟨b,e1,h1,h2,h3⟩:=h h0;exact⟨b,e1,Nat.lt_of_lt_of_le h1 g.turn.size,g.off h1 h2,fun i hi=>(g.turn.cell (p:=⟨b,i,none⟩) h1 h2).trans (h3 i hi)⟩
theorem ToldI.below(h:ToldI w G v zs)(hb:Below w.heap.size w w'):ToldI w' G v zs:=h.grew (Grew.of_below hb)
theorem ToldI.at{a:Option Addr}{n c:Nat}(h:ToldI w G (.slice a n c) zs){i:Nat}(hi:i<zs.length):∃b,a=some ⟨b,0,none⟩/\b<w.heap.size/\¬G b/\w.cell? ⟨b,i,none⟩=some (.int .i64 ((zs.getD i 0:Nat):Int)):=by
 obtain⟨a',c',e,h⟩:=h;simp at e;obtain⟨rfl,_⟩:=e;obtain⟨b,e1,h1,h2,h3⟩:=h (fun e=>by rw[e]at hi;simp at hi);exact⟨b,e1,h1,h2,h3 i hi⟩
end
end Go.Proofs.YtddnfhfangfgeaaGreat.Gf
