/- JOINED: DkRg, ArCall, ArMath, ArLawM, ArCalm, ArAt, ArCA, ArCB. -/
import Derived.Test.YtclieefpnbdbjaaGreatPome10
import Derived.Lib.SmallJoins
set_option maxHeartbeats 2000000
set_option maxRecDepth 100000
namespace Go.Proofs.YtclieefpnbdbjaaGreat.Gf
set_option linter.unusedVariables false
set_option linter.unusedSimpArgs false
open Go.RowKit
section
variable {w w':World} {rb:Nat} {vl vw:Value} {Tl Tw:List TH} {H:Nat->Prop} {d:DkS}
theorem rcorr_any(h:RefIn w rb vl vw Tl Tw H d)(ok:d.Ok){a at_:Int}(hat:(Lit.int .i64 at_).wf=true)(y:UInt8):
  Calls Tryz.prog 149 #[.pointer (some ⟨rb,0,none⟩),.int .i64 a,.int .i64 at_,.int .u8 ((y.toNat:Nat):Int)] w (LeavesR w rb H (coS d a at_ y) (.int .i64 (coX d a))):=by
 have K:=rfault_any h (a:=a);have KW:=find_any h.tw.rd (x:=a);have KL:=find_any h.tl.rd (x:=a);obtain⟨LW,LL⟩:=ref_look h ok a
 by_cases hf:faX d a=0
 ·rw[hf]at K;obtain⟨fz1,fz2,fz3⟩:=faX_zero hf;obtain⟨aw,cw,rfl⟩:=h.tw.rd.form;obtain⟨al,cl,rfl⟩:=h.tl.rd.form;have c1:=h.c1;have c2:=h.c2;cases hw:d.wait a with
  |some p=>
   rw[hw]at LW;have eX:coX d a=0:=by unfold coX atD;rw[if_pos hf,hw];rfl
   have eS:coS d a at_ y={d with wait:=putB d.wait a (chB p at_ y)}:=by unfold coS;rw[if_pos hf,hw]
   rw[eX]
   go_enter Tryz.func149,Tryz.ntmps149
   go_wp2_with fail
   refine K.mono ?_
   rintro _ wq ⟨rfl,hwq⟩;rw[hwq];clear hwq wq K
   go_wp2_with fail
   refine KW.mono ?_
   rintro _ wq ⟨hwq,⟨rfl,e1⟩|⟨k,rfl,hk,e1⟩⟩
   ·rw[LW]at e1;cases e1
   ·rw[hwq];rw[LW]at e1;have hpin:=ok.iw a p hw;obtain⟨b,off,rfl,x0,x1,r1⟩:=h.tw.rd.at hk;have hkw:=h.len_w;have hk':(k:Int)<(Tw.length:Int):=by omega
    have hk0:(k:Int)>=0:=Zo
    have hk1:¬(k:Int)<0:=Zo
    have e2:(Tw.getD k default).2.1=p:=by simpa using e1.symm
    rw[e2]at r1;obtain⟨t3,ht3⟩:∃t,t=(Tw.getD k default).2.2:=⟨_,rfl⟩;rw[<-ht3]at x1 r1;obtain⟨ta,tc,rfl⟩:=r1.form;have bD:Below w.heap.size w w.drew:=Zf.drew;have I0:=h.below bD;have r0:=r1.below bD;have z2:=I0.c2;have z1:=I0.c1;have HES:Hid _:=eS;have FH:Hid (∀k,H k->k<w.heap.size):=h.lt;clear LW LL ht3 e1 e2 hwq wq KW eS
    go_wp2_with fail
    go_region_law (first
     |(go_simp;go_at_call 178;(refine(changed_any r0 hpin.2.2.1 Zo hat y).mono ?_);rintro _ w4 ⟨v4,rfl,O4,b4⟩;have I4:=I0.below b4;have c24:=I4.c2;have c14:=I4.c1;have O4':w4.ownsRow w.drew.heap.size 5 1 v4 (chB p at_ y).length ((chB p at_ y).map vb):=(by rw[chB_length];exact O4);have T4:Told w4 H v4 (chB p at_ y):=⟨Rd.owned O4',ApartG.own O4' FH.out⟩;obtain⟨a4,k4,rfl⟩:=owns_slice O4;dsimp only)
     |(go_simp;go_at_call 171;(refine(with_is I4.tw I4.kw I4.ew I4.s2 I4.lt fz2 fz3 T4).mono ?_);rintro _ w5 ⟨v5,T5,rfl,t5,k5,e5,b5⟩;have I5:=I4.below b5;have c25:=I5.c2;have f25:=I5.f2;have c15:=I5.c1;have f15:=I5.f1;have I6:=I5.setW t5 k5 e5;have B5:=(bD.step12 b4 bD.size).step12 b5 (bD.step12 b4 bD.size).size;obtain⟨a5,m5,rfl⟩:=t5.rd.form;dsimp only))
    all_goals
     have FIN:Hid (RefAt (w5.setCell ⟨rb,2,none⟩ (.slice a5 T5.length m5)) rb H (coS d a at_ y)/\TurnG (fun k=>k=rb) w (w5.setCell ⟨rb,2,none⟩ (.slice a5 T5.length m5))):=⟨⟨_,_,_,_,by rw[HES.out];exact I6⟩,(Below.turnG B5 _).trans (turnR_set 2 _)⟩;clear I6 c15 f15 c25 f25 I5 b5 t5 k5 e5 B5 I4 c24 c14 O4 O4' T4 b4 I0 r0 r1 h x0 x1 bD HES FH;go_wp2;go_ret;exact⟨rfl,FIN.out⟩
  |none=>
   rw[hw]at LW;cases hl:d.last a with
   |some p=>
    rw[hl]at LL;have eX:coX d a=0:=by unfold coX atD;rw[if_pos hf,hw,hl];rfl
    have eS:coS d a at_ y={d with last:=putB d.last a (chB p at_ y)}:=by unfold coS;rw[if_pos hf,hw,hl]
    rw[eX]
    go_enter Tryz.func149,Tryz.ntmps149
    go_wp2_with fail
    refine K.mono ?_
    rintro _ wq ⟨rfl,hwq⟩;rw[hwq];clear hwq wq K
    go_wp2_with fail
    refine KW.mono ?_
    rintro _ wq ⟨hwq,⟨rfl,e1⟩|⟨k,rfl,hk,e1⟩⟩
    ·rw[hwq];clear hwq wq KW e1
     go_wp2_with fail
     refine KL.mono ?_
     rintro _ wq ⟨hwq,⟨rfl,e1⟩|⟨k,rfl,hk,e1⟩⟩
     ·rw[LL]at e1;cases e1
     ·rw[hwq];rw[LL]at e1;have hpin:=ok.il a p hl;have KW:=KL;obtain⟨b,off,rfl,x0,x1,r1⟩:=h.tl.rd.at hk;have hkw:=h.len_l;have hk':(k:Int)<(Tl.length:Int):=by omega
      have hk0:(k:Int)>=0:=Zo
      have hk1:¬(k:Int)<0:=Zo
      have e2:(Tl.getD k default).2.1=p:=by simpa using e1.symm
      rw[e2]at r1;obtain⟨t3,ht3⟩:∃t,t=(Tl.getD k default).2.2:=⟨_,rfl⟩;rw[<-ht3]at x1 r1;obtain⟨ta,tc,rfl⟩:=r1.form;have bD:Below w.heap.size w w.drew:=Zf.drew;have I0:=h.below bD;have r0:=r1.below bD;have z2:=I0.c2;have z1:=I0.c1;have HES:Hid _:=eS;have FH:Hid (∀k,H k->k<w.heap.size):=h.lt;clear LW LL ht3 e1 e2 hwq wq KW eS
      go_wp2_with fail
      go_region_law (first
       |(go_simp;go_at_call 178;(refine(changed_any r0 hpin.2.2.1 Zo hat y).mono ?_);rintro _ w4 ⟨v4,rfl,O4,b4⟩;have I4:=I0.below b4;have c24:=I4.c2;have c14:=I4.c1;have O4':w4.ownsRow w.drew.heap.size 5 1 v4 (chB p at_ y).length ((chB p at_ y).map vb):=(by rw[chB_length];exact O4);have T4:Told w4 H v4 (chB p at_ y):=⟨Rd.owned O4',ApartG.own O4' FH.out⟩;obtain⟨a4,k4,rfl⟩:=owns_slice O4;dsimp only)
       |(go_simp;go_at_call 171;(refine(with_is I4.tl I4.kl I4.el I4.s2 I4.lt fz2 fz3 T4).mono ?_);rintro _ w5 ⟨v5,T5,rfl,t5,k5,e5,b5⟩;have I5:=I4.below b5;have c25:=I5.c2;have f25:=I5.f2;have c15:=I5.c1;have f15:=I5.f1;have I6:=I5.setL t5 k5 e5;have B5:=(bD.step12 b4 bD.size).step12 b5 (bD.step12 b4 bD.size).size;obtain⟨a5,m5,rfl⟩:=t5.rd.form;dsimp only))
      all_goals
       have FIN:Hid (RefAt (w5.setCell ⟨rb,1,none⟩ (.slice a5 T5.length m5)) rb H (coS d a at_ y)/\TurnG (fun k=>k=rb) w (w5.setCell ⟨rb,1,none⟩ (.slice a5 T5.length m5))):=⟨⟨_,_,_,_,by rw[HES.out];exact I6⟩,(Below.turnG B5 _).trans (turnR_set 1 _)⟩;clear I6 c15 f15 c25 f25 I5 b5 t5 k5 e5 B5 I4 c24 c14 O4 O4' T4 b4 I0 r0 r1 h x0 x1 bD HES FH;go_wp2;go_ret;exact⟨rfl,FIN.out⟩
    ·rw[LW]at e1;cases e1
   |none=>
    rw[hl]at LL;have eX:coX d a=1:=by unfold coX atD;rw[if_pos hf,hw,hl];rfl
    have eS:coS d a at_ y=d:=by unfold coS;rw[if_pos hf,hw,hl]
    have FIN:Hid (RefAt w rb H (coS d a at_ y)/\TurnG (fun k=>k=rb) w w):=by
     show _/\_
     rw[eS];exact⟨⟨_,_,_,_,h⟩,TurnG.refl _ _⟩
    rw[eX]
    go_enter Tryz.func149,Tryz.ntmps149
    go_wp2_with fail
    refine K.mono ?_
    rintro _ wq ⟨rfl,hwq⟩;rw[hwq];clear hwq wq K
    go_wp2_with fail
    refine KW.mono ?_
    rintro _ wq ⟨hwq,⟨rfl,e1⟩|⟨k,rfl,hk,e1⟩⟩
    ·rw[hwq];clear hwq wq KW e1
     go_wp2_with fail
     refine KL.mono ?_
     rintro _ wq ⟨hwq,⟨rfl,e1⟩|⟨k,rfl,hk,e1⟩⟩
     ·rw[hwq];clear hwq wq KL e1 h;go_wp2;go_ret;exact⟨rfl,FIN.out⟩
     ·rw[LL]at e1;cases e1
    ·rw[LW]at e1;cases e1
 ·have eX:coX d a=faX d a:=by unfold coX;rw[if_neg hf]
  have eS:coS d a at_ y=d:=by unfold coS;rw[if_neg hf]
  have FIN:Hid (RefAt w rb H (coS d a at_ y)/\TurnG (fun k=>k=rb) w w):=by
   show _/\_
   rw[eS];exact⟨⟨_,_,_,_,h⟩,TurnG.refl _ _⟩
  rw[eX];obtain⟨x,hx⟩:∃x,x=faX d a:=⟨_,rfl⟩;rw[<-hx]at hf K ⊢;clear eX eS h hx KW KL;have q1:(x==0)=false:=Zq.2 hf
  go_enter Tryz.func149,Tryz.ntmps149
  go_wp2_with fail
  refine K.mono ?_
  rintro _ wq ⟨rfl,hwq⟩;rw[hwq];clear hwq wq K;go_wp2;go_ret;exact⟨rfl,FIN.out⟩
end
open Go.ChangeShapes
abbrev VI:=Value×List Int
instance:Inhabited VI:=⟨(.slice none 0 0,[])⟩
structure RowAt(w:World)(b off:Nat)(r:VI):Prop where
 c:w.cell? ⟨b,off,none⟩=some r.1
 rd:RdI w r.1 r.2
 wf:∀z∈r.2,(Lit.int .i64 z).wf=true
def RdII(w:World)(v:Value)(L:List VI):Prop:=
 (∃ao cap,L=[]/\v= .slice ao 0 cap)∨(∃b off cap,L≠[]/\v= .slice (some ⟨b,off,none⟩) L.length cap/\L.length<=maxLen/\b<w.heap.size/\∀i,i<L.length->RowAt w b (off+i) (L.getD i default))
theorem RdII.below{w w':World}{v:Value}{L:List VI}(h:RdII w v L)(hb:Below w.heap.size w w'):RdII w' v L:=by
 rcases h with h|⟨b,off,cap,h1,h2,h3,h4,h5⟩
 ·exact Or.inl h
 ·refine Or.inr ⟨b,off,cap,h1,h2,h3,Zu h4 hb.size,fun i hi=>?_⟩;have h6:=h5 i hi;exact⟨(hb.cell (p:=⟨b,off+i,none⟩) h4).trans h6.c,h6.rd.below hb,h6.wf⟩
theorem RdII.form{w:World}{v:Value}{L:List VI}(h:RdII w v L):∃a c,v= .slice a L.length c:=by
 rcases h with⟨a,c,rfl,rfl⟩|⟨b,off,c,_,rfl,_⟩
 ·exact⟨a,c,rfl⟩
 ·exact⟨_,c,rfl⟩
theorem RdII.at{w:World}{a:Option Addr}{c:Nat}{L:List VI}(h:RdII w (.slice a L.length c) L){k:Nat}(hk:k<L.length):∃b off,a=some ⟨b,off,none⟩/\b<w.heap.size/\RowAt w b (off+k) (L.getD k default):=by
 rcases h with⟨_,_,h1,_⟩|⟨b,off,c,h1,h2,h3,h4,h5⟩
 ·rw[h1]at hk;simp at hk
 ·simp at h2;exact⟨b,off,h2.1,h4,h5 k hk⟩
structure CallA where
 kind:Int
 d:Int
 n:Int
 m:Int
 by8:UInt8
 vb:Value
 vk:Value
 b:List UInt8
 keep:List VI
instance:Inhabited CallA:=⟨⟨0,0,0,0,0,.slice none 0 0,.slice none 0 0,[],[]⟩⟩
structure CallV(w:World)(c:CallA):Prop where
 wk:(Lit.int .i64 c.kind).wf=true
 wd:(Lit.int .i64 c.d).wf=true
 wn:(Lit.int .i64 c.n).wf=true
 wm:(Lit.int .i64 c.m).wf=true
 rb:Rd w c.vb c.b
 rk:RdII w c.vk c.keep
theorem CallV.below{w w':World}{c:CallA}(h:CallV w c)(hb:Below w.heap.size w w'):CallV w' c:=⟨h.wk,h.wd,h.wn,h.wm,h.rb.below hb,h.rk.below hb⟩
theorem seven{cs:List Value}(h:cs.length=7):∃v0 v1 v2 v3 v4 v5 v6,cs=[v0,v1,v2,v3,v4,v5,v6]:=by
 match cs,h with
 |[a,b,c,d,e,f,g],_=>exact⟨a,b,c,d,e,f,g,rfl⟩
section
variable {H:Type} {enc:TypeId×Value->H} {P:Program} {w:World} {base:Nat} {held:Bool}
theorem open_rows{t s i:TypeId}{fuel:Nat}{cs:List Value}{x:DataW H×List MemPlace}(ht:P.underlying t=some (.slice s))(hs:P.underlying s=some (.slice i))(hi:P.underlying i=some (.int .i64))(ci:P.cellsOf i=1)(cs1:P.cellsOf s=1)
  (h:DataW.trod enc P w base (fun _=>true) held fuel t cs=some x):∃a len cap L,cs=[.slice a len cap]/\len=L.length/\RdII w (.slice a len cap) L:=by
 rcases Go.Deep.open_slice ht h with⟨rfl,_⟩|⟨a,len,cap,m,n,D,Pl,rfl,hb,hl,hm,hmm,rfl,hx⟩
 ·exact⟨none,0,0,[],rfl,rfl,Or.inl ⟨none,0,rfl,rfl⟩⟩
 simp only[if_true]at hmm
 by_cases hl0:len=0
 ·subst hl0;exact⟨some a,0,cap,[],rfl,rfl,Or.inl ⟨_,_,rfl,rfl⟩⟩
 obtain⟨bb,off,spot⟩:=a;have hspot:spot=none:=by
  obtain⟨cs',h1,_⟩:=hx 0 Zo;rw[cs1]at h1;have hc:=World.cells?_some h1;have h2:=hc.2.2 0 Zo;obtain⟨v,hv⟩:∃v,cs'[0]? =some v:=⟨cs'[0]'Zo,List.getElem?_eq_getElem Zo⟩
  rw[hv]at h2;have:=World.cell?_spot h2;simpa[Addr.add]using this
 subst hspot;have each:∀j,j<len->∃r:VI,RowAt w bb (off+j) r:=by
  intro j hj;obtain⟨cs',h1,h2⟩:=hx j Zo;rw[cs1]at h1;obtain⟨_,hlen,hc⟩:=World.cells?_some h1;obtain⟨v,rfl⟩:∃v,cs'=[v]:=by
   match cs',hlen with
   |[v],_=>exact⟨v,rfl⟩
  have hcell:w.cell? ⟨bb,off+j,none⟩=some v:=by
   have:=hc 0 Zo;rw[Go.Deep.add_add,add_at]at this;simpa using this
  rcases open_ints hs hi ci h2 with⟨hcs,_⟩|⟨x5,l5,c5,zs,hcs,_,hl5,hm5,hz,_,hcell5,hwz⟩
  ·simp at hcs;subst hcs;exact⟨(.slice none 0 0,[]),hcell,Or.inl ⟨none,0,rfl,rfl⟩,Zs⟩
  ·simp at hcs;subst hcs;obtain⟨p,hp,hw⟩:=rdI_row2 (w:=w) (a:=some x5) (len:=l5) (cap:=c5) (zs:=zs) (Or.inr ⟨x5,rfl,hl5,hm5,by simpa using hz,hcell5,hwz⟩);exact⟨(_,p),hcell,hp,hw⟩
 obtain⟨F,hF⟩:=Go.Deep.choose_lt each;have hlen:((List.range len).map F).length=len:=Zs
 refine⟨some ⟨bb,off,none⟩,len,cap,(List.range len).map F,rfl,hlen.symm,?_⟩;have hc0:=(hF 0 Zo).c;have hbw:bb<w.heap.size:=by
  unfold World.cell? at hc0
  by_cases hb:bb<w.heap.size
  ·exact hb
  ·rw[Array.getElem?_eq_none (by show w.heap.size<=bb;omega)]at hc0;cases hc0
 refine Or.inr ⟨bb,off,cap,fun e=>by rw[e]at hlen;simp at hlen;omega,by rw[hlen],by rw[hlen];omega,hbw,fun j hj=>?_⟩;rw[hlen]at hj;have e1:((List.range len).map F).getD j default=F j:=by simp[List.getD,hj]
 rw[e1];exact hF j hj
end
end Go.Proofs.YtclieefpnbdbjaaGreat.Gf
namespace Go.Proofs.YtclieefpnbdbjaaGreat.Gf
set_option linter.unusedVariables false
set_option linter.unusedSimpArgs false
open Go.RowKit
structure ArS where
 D:List DkS
 B:List Int
 left:Int
 off:Bool
instance:Inhabited DkS:=⟨newD 1⟩
structure ArS.Ok(a:ArS):Prop where
 d1:1<=a.D.length
 d2:a.D.length<=32
 b:a.B.length=a.D.length
 each:∀d∈a.D,d.Ok
 l:a.off=false->a.left≠0
def newA(n s:Nat):ArS:=⟨List.replicate n (newD s),List.replicate n 0,-1,false⟩
theorem newA_ok{n s:Nat}(h1:1<=n)(h2:n<=32)(h3:1<=s)(h4:s<=4096):(newA n s).Ok:=
 ⟨by simp[newA];omega,by simp[newA];omega,by simp[newA],fun d hd=>by rw[List.eq_of_mem_replicate hd];exact newD_ok h3 h4,fun _=>by simp[newA]⟩
def thA(a:ArS)(i:Int):Prop:=0<=i/\i<(a.D.length:Int)
instance (a:ArS)(i:Int):Decidable (thA a i):=inferInstanceAs (Decidable (_/\_))
def diA(a:ArS)(i:Int):DkS:=a.D.getD i.toNat default
def setA(a:ArS)(i:Int)(d:DkS):ArS:={a with D:=a.D.set i.toNat d}
theorem di_mem{a:ArS}{i:Int}(h:thA a i):diA a i∈a.D:=by
 have hl:i.toNat<a.D.length:=by have:=h.2;have:=h.1;omega
 unfold diA;rw[show a.D.getD i.toNat default=a.D[i.toNat] by simp[List.getD,hl]];exact List.getElem_mem hl
theorem setA_ok{a:ArS}(h:a.Ok){i:Int}{d:DkS}(hd:d.Ok):(setA a i d).Ok:=
 ⟨by simp[setA];exact h.d1,by simp[setA];exact h.d2,by simp[setA];exact h.b,fun e he=>by
  rcases List.mem_or_eq_of_mem_set he with h1|h1
  ·exact h.each e h1
  ·rw[h1];exact hd,h.l⟩
def caA(a:ArS)(n:Int):ArS:=if a.off=true then a else {a with left:=if 0<=n then n else-1,off:=decide (n=0)}
theorem caA_ok{a:ArS}(h:a.Ok)(n:Int):(caA a n).Ok:=by
 unfold caA
 split
 ·exact h
 ·refine⟨h.d1,h.d2,h.b,h.each,fun e=>?_⟩;have e':¬n=0:=by simpa using e
  show(if 0<=n then n else-1)≠0
  split<;>omega
def tickA(a:ArS):ArS:=if 0<a.left then {a with left:=a.left-1,off:=decide (a.left-1=0)}else a
theorem tickA_ok{a:ArS}(h:a.Ok):(tickA a).Ok:=by
 unfold tickA
 split
 ·exact⟨h.d1,h.d2,h.b,h.each,fun e=>by simpa using e⟩
 ·exact h
def wrAX(a:ArS)(i ad:Int)(b:List UInt8):Int:=if a.off=true then 130 else if thA a i then wrX (diA a i) ad b else 1
def wrAS(a:ArS)(i ad:Int)(b:List UInt8):ArS:=if a.off=true then a else if thA a i then (if wrX (diA a i) ad b=0 then tickA (setA a i (wrS (diA a i) ad b))else a)else a
theorem wrAS_ok{a:ArS}(h:a.Ok)(i ad:Int)(b:List UInt8):(wrAS a i ad b).Ok:=by
 unfold wrAS
 split
 ·exact h
 split
 ·rename_i h2
  split
  ·exact tickA_ok (setA_ok h (wrS_ok (h.each _ (di_mem h2)) ad b))
  ·exact h
 ·exact h
def rdAX(a:ArS)(i ad:Int):Int:=if a.off=true then 130 else if thA a i then faX (diA a i) ad else 1
def rdAB(a:ArS)(i ad:Int):List UInt8:=if a.off=true then []else if thA a i then rdB (diA a i) ad else []
def flAX(a:ArS):Int:=if a.off=true then 130 else 0
def flAS(a:ArS):ArS:=if a.off=true then a else {a with D:=a.D.map flS}
theorem flAS_ok{a:ArS}(h:a.Ok):(flAS a).Ok:=by
 unfold flAS
 split
 ·exact h
 ·exact⟨by simpa using h.d1,by simpa using h.d2,by simpa using h.b,fun d hd=>by
   obtain⟨e,he,rfl⟩:=List.mem_map.1 hd;exact flS_ok (h.each e he),h.l⟩
def reAS(a:ArS)(K:List (List Int)):ArS:={a with D:=a.D.mapIdx (fun i d=>crS d (K.getD i [])),left:= -1,off:=false}
theorem reAS_ok{a:ArS}(h:a.Ok)(K:List (List Int)):(reAS a K).Ok:=
 ⟨by simpa[reAS]using h.d1,by simpa[reAS]using h.d2,by simpa[reAS]using h.b,fun d hd=>by
  obtain⟨i,hi,rfl⟩:=List.mem_mapIdx.1 hd;exact crS_ok (h.each _ (List.getElem_mem hi)) _,fun _=>by simp[reAS]⟩
def bornA(a:ArS)(i:Int):ArS:={a with B:=a.B.set i.toNat (IntKind.i64.wrap (a.B.getD i.toNat 0+1))}
theorem bornA_ok{a:ArS}(h:a.Ok)(i:Int):(bornA a i).Ok:=⟨h.d1,h.d2,by simp[bornA];exact h.b,h.each,h.l⟩
def thX(a:ArS)(i:Int):Int:=if thA a i then 0 else 1
def faAS(a:ArS)(i:Int):ArS:=if thA a i then bornA (setA a i (faS (diA a i))) i else a
def rpAS(a:ArS)(i:Int):ArS:=if thA a i then bornA (setA a i (reS (diA a i))) i else a
theorem faAS_ok{a:ArS}(h:a.Ok)(i:Int):(faAS a i).Ok:=by
 unfold faAS
 split
 ·rename_i h2;exact bornA_ok (setA_ok h (faS_ok (h.each _ (di_mem h2)))) i
 ·exact h
theorem rpAS_ok{a:ArS}(h:a.Ok)(i:Int):(rpAS a i).Ok:=by
 unfold rpAS
 split
 ·rename_i h2;exact bornA_ok (setA_ok h (reS_ok (h.each _ (di_mem h2)))) i
 ·exact h
def coAX(a:ArS)(i ad:Int):Int:=if thA a i then coX (diA a i) ad else 1
def coAS(a:ArS)(i ad at_:Int)(y:UInt8):ArS:=if thA a i then setA a i (coS (diA a i) ad at_ y)else a
theorem coAS_ok{a:ArS}(h:a.Ok)(i ad at_:Int)(y:UInt8):(coAS a i ad at_ y).Ok:=by
 unfold coAS
 split
 ·rename_i h2;exact setA_ok h (coS_ok (h.each _ (di_mem h2)) ad at_ y)
 ·exact h
def playA(a:ArS)(c:CallA):ArS:=
 if c.kind=1 then wrAS a c.d c.n c.b else if c.kind=3 then flAS a else if c.kind=4 then caA a c.n else if c.kind=5 then reAS a (c.keep.map (·.2))else if c.kind=6 then faAS a c.d else if c.kind=7 then rpAS a c.d else if c.kind=8 then coAS a c.d c.n c.m c.by8 else a
theorem tickA_D(a:ArS):(tickA a).D=a.D:=by unfold tickA;split<;>rfl
section
variable {a:ArS} {i ad:Int} {b:List UInt8}
theorem faX_in(d:DkS)(x:Int):faX d x=0∨faX d x=120∨faX d x=121:=by
 unfold faX
 split
 ·exact Or.inr (Or.inl rfl)
 ·split
  ·exact Or.inl rfl
  ·exact Or.inr (Or.inr rfl)
theorem wrAX_crash{i ad:Int}{b:List UInt8}:wrAX a i ad b=130↔a.off=true:=by
 unfold wrAX;cases h:a.off
 ·rw[if_neg Zd];refine⟨fun e=>?_,fun e=>by cases e⟩;exfalso
  split at e
  ·unfold wrX at e
   rcases faX_in (diA a i) ad with q|q|q<;>rw[q]at e
   ·rw[if_pos rfl]at e
    split at e<;>cases e
   ·rw[if_neg Zd]at e;cases e
   ·rw[if_neg Zd]at e;cases e
  ·cases e
 ·rw[if_pos rfl];exact⟨fun _=>rfl,fun _=>rfl⟩
def Calm(a:ArS):Prop:=a.off=false/\¬0<a.left
theorem calm_new(n s:Nat):Calm (newA n s):=⟨rfl,by show ¬(0:Int)< -1;omega⟩
theorem setA_len(d:DkS):(setA a i d).D.length=a.D.length:=by simp[setA]
theorem diA_set(hi:thA a i)(d:DkS){j:Int}(hj:0<=j):diA (setA a i d) j=if j=i then d else diA a j:=by
 have hl:i.toNat<a.D.length:=by have:=hi.1;have:=hi.2;omega
 unfold diA setA
 show(a.D.set i.toNat d).getD j.toNat default=_
 by_cases e:j=i
 ·rw[if_pos e,e];simp[List.getD,hl]
 ·rw[if_neg e];have hn:i.toNat≠j.toNat:=by have:=hi.1;omega
  simp[List.getD,List.getElem?_set,hn]
theorem wr_set(hc:Calm a)(ht:thA a i)(h:wrX (diA a i) ad b=0):wrAX a i ad b=0/\wrAS a i ad b=setA a i (wrS (diA a i) ad b):=by
 refine⟨?_,?_⟩
 ·unfold wrAX;rw[if_neg (by rw[hc.1];decide),if_pos ht,h]
 ·unfold wrAS tickA;rw[if_neg (by rw[hc.1];decide),if_pos ht,if_pos h];exact if_neg hc.2
theorem rd_at(ho:a.off=false)(ht:thA a i):rdAB a i ad=rdB (diA a i) ad:=by
 unfold rdAB;rw[if_neg (by rw[ho];decide),if_pos ht]
theorem wrX_ok{d:DkS}(hd:d.dead=false)(h0:0<=ad)(h1:ad<(d.s:Int))(hb:OkB b):wrX d ad b=0:=by
 unfold wrX;rw[if_pos (faX_ok hd ⟨h0,h1⟩),if_pos hb]
theorem wrS_at{d:DkS}(hd:d.dead=false)(h0:0<=ad)(h1:ad<(d.s:Int))(hb:OkB b):wrS d ad b={d with wait:=putB d.wait ad b}:=if_pos ⟨faX_ok hd ⟨h0,h1⟩,hb⟩
theorem rdB_some{d:DkS}{ad:Int}{b:List UInt8}(h:rdB d ad=b)(hb:b≠[]):faX d ad=0/\atD d ad=some b:=by
 unfold rdB at h
 by_cases e:faX d ad=0
 ·rw[if_pos e]at h;refine⟨e,?_⟩;cases q:atD d ad with
  |none=>rw[q]at h;exact absurd h.symm hb
  |some c=>rw[q]at h;rw[show c=b from h]
 ·rw[if_neg e]at h;exact absurd h.symm hb
end
def leC(l:Int):Int:=if 0<l then l else 0
structure ArM(w:World)(ab mb:Nat)(db:Nat->Nat)(GD:Nat->Nat->Prop)(GA:Nat->Prop)(a:ArS):Prop where
 c0:w.cell? ⟨ab,0,none⟩=some (.slice (some ⟨mb,0,none⟩) a.D.length a.D.length)
 c1:w.cell? ⟨ab,1,none⟩=some (.int .i64 (leC a.left))
 c2:w.cell? ⟨ab,2,none⟩=some (.bool a.off)
 f1:w.frozen? ⟨ab,1,none⟩=false
 f2:w.frozen? ⟨ab,2,none⟩=false
 m0:∀i,i<a.D.length->w.cell? ⟨mb,i*2,none⟩=some (.pointer (some ⟨db i,0,none⟩))
 m1:∀i,i<a.D.length->w.cell? ⟨mb,i*2+1,none⟩=some (.int .i64 (a.B.getD i 0))
 fm:∀i,i<a.D.length->w.frozen? ⟨mb,i*2+1,none⟩=false
 dk:∀i,i<a.D.length->DiskAt w (db i) (GD i) (a.D.getD i default)
 sep:∀i j,i<a.D.length->j<a.D.length->i≠j->∀k,GD i k->¬GD j k
 sa:∀i,i<a.D.length->¬GD i ab/\¬GD i mb
 ne:ab≠mb
 ga:GA ab
 gm:GA mb
 gd:∀i,i<a.D.length->∀k,GD i k->GA k
 lt:∀k,GA k->k<w.heap.size
 d1:1<=a.D.length
 d2:a.D.length<=32
 b:a.B.length=a.D.length
 wl:(Lit.int .i64 a.left).wf=true
def ArIn(w:World)(ab mb:Nat)(db:Nat->Nat)(GD:Nat->Nat->Prop)(GA:Nat->Prop)(a:ArS):Prop:=ArM w ab mb db GD GA a/\a.Ok
def ArAt(w:World)(ab:Nat)(GA:Nat->Prop)(a:ArS):Prop:=∃mb db GD,ArIn w ab mb db GD GA a
def LeavesA(w:World)(ab:Nat)(GA:Nat->Prop)(a':ArS)(x:Value)(e:Ending)(w':World):Prop:=e= .returned x/\∃GA',ArAt w' ab GA' a'/\Grew GA w GA' w'
section
variable {w w':World} {ab mb:Nat} {db:Nat->Nat} {GD:Nat->Nat->Prop} {GA:Nat->Prop} {a:ArS}
theorem ArM.keep(h:ArM w ab mb db GD GA a)(hk:∀k,GA k->w'.heap[k]? =w.heap[k]?)(hs:w.heap.size<=w'.heap.size):ArM w' ab mb db GD GA a where
 c0:=(Zc (w:=w) (hk ab h.ga)).trans h.c0
 c1:=(Zc (w:=w) (hk ab h.ga)).trans h.c1
 c2:=(Zc (w:=w) (hk ab h.ga)).trans h.c2
 f1:=(World.frozen?_of_block (w:=w) (hk ab h.ga)).trans h.f1
 f2:=(World.frozen?_of_block (w:=w) (hk ab h.ga)).trans h.f2
 m0:=fun i hi=>(Zc (w:=w) (hk mb h.gm)).trans (h.m0 i hi)
 m1:=fun i hi=>(Zc (w:=w) (hk mb h.gm)).trans (h.m1 i hi)
 fm:=fun i hi=>(World.frozen?_of_block (w:=w) (hk mb h.gm)).trans (h.fm i hi)
 dk:=fun i hi=>(h.dk i hi).keep (fun k hk2=>hk k (h.gd i hi k hk2)) hs
 sep:=h.sep
 sa:=h.sa
 ne:=h.ne
 ga:=h.ga
 gm:=h.gm
 gd:=h.gd
 lt:=fun k hk2=>Zu (h.lt k hk2) hs
 d1:=h.d1
 d2:=h.d2
 b:=h.b
 wl:=h.wl
theorem ArM.below(h:ArM w ab mb db GD GA a)(hb:Below w.heap.size w w'):ArM w' ab mb db GD GA a:=h.keep (fun k hk=>hb.block k (h.lt k hk)) hb.size
theorem ArIn.below(h:ArIn w ab mb db GD GA a)(hb:Below w.heap.size w w'):ArIn w' ab mb db GD GA a:=⟨h.1.below hb,h.2⟩
theorem ArAt.below(h:ArAt w ab GA a)(hb:Below w.heap.size w w'):ArAt w' ab GA a:=by
 obtain⟨mb,db,GD,h⟩:=h;exact⟨mb,db,GD,h.below hb⟩
theorem ArAt.keep(h:ArAt w ab GA a)(hk:∀k,GA k->w'.heap[k]? =w.heap[k]?)(hs:w.heap.size<=w'.heap.size):ArAt w' ab GA a:=by
 obtain⟨mb,db,GD,h1,h2⟩:=h;exact⟨mb,db,GD,h1.keep hk hs,h2⟩
theorem ArAt.lt(h:ArAt w ab GA a):∀k,GA k->k<w.heap.size:=by
 obtain⟨mb,db,GD,h,_⟩:=h;exact h.lt
theorem ArAt.ok(h:ArAt w ab GA a):a.Ok:=by
 obtain⟨mb,db,GD,_,h⟩:=h;exact h
theorem getD_set{α:Type}{l:List α}{i j:Nat}{x d:α}(hi:i<l.length):(l.set i x).getD j d=if j=i then x else l.getD j d:=by
 by_cases e:j=i
 ·subst e;simp[List.getD,hi]
 ·simp only[List.getD,List.getElem?_set,if_neg (fun h=>e (h.symm):¬i=j),if_neg e]
theorem ArM.disk(h:ArM w ab mb db GD GA a){i:Nat}(hi:i<a.D.length){G':Nat->Prop}{d':DkS}(hD:DiskAt w' (db i) G' d')(g:Grew (GD i) w G' w'):
  ArM w' ab mb db (fun j=>if j=i then G' else GD j) (fun k=>GA k∨G' k) {a with D:=a.D.set i d'}/\Grew GA w (fun k=>GA k∨G' k) w':=by
 have na:¬GD i ab:=(h.sa i hi).1;have nm:¬GD i mb:=(h.sa i hi).2;have la:=h.lt _ h.ga;have lm:=h.lt _ h.gm;have hl:(a.D.set i d').length=a.D.length:=Zs
 have hS:∀k,G' k->GD i k∨w.heap.size<=k:=g.grow;refine⟨⟨?_,?_,?_,?_,?_,?_,?_,?_,?_,?_,?_,h.ne,Or.inl h.ga,Or.inl h.gm,?_,?_,?_,?_,?_,h.wl⟩,?_⟩
 ·show _=some (Value.slice _ (a.D.set i d').length (a.D.set i d').length)
  rw[hl];exact(g.turn.cell (p:=⟨ab,0,none⟩) la na).trans h.c0
 ·exact(g.turn.cell (p:=⟨ab,1,none⟩) la na).trans h.c1
 ·exact(g.turn.cell (p:=⟨ab,2,none⟩) la na).trans h.c2
 ·exact(g.turn.frozen (p:=⟨ab,1,none⟩) la na).trans h.f1
 ·exact(g.turn.frozen (p:=⟨ab,2,none⟩) la na).trans h.f2
 ·intro j hj;exact(g.turn.cell (p:=⟨mb,j*2,none⟩) lm nm).trans (h.m0 j (hl▸hj))
 ·intro j hj;exact(g.turn.cell (p:=⟨mb,j*2+1,none⟩) lm nm).trans (h.m1 j (hl▸hj))
 ·intro j hj;exact(g.turn.frozen (p:=⟨mb,j*2+1,none⟩) lm nm).trans (h.fm j (hl▸hj))
 ·intro j hj;have hj2:j<a.D.length:=hl▸hj
  show DiskAt w' (db j) (if j=i then G' else GD j) ((a.D.set i d').getD j default)
  rw[getD_set hi]
  by_cases e:j=i
  ·subst e;rw[if_pos rfl,if_pos rfl];exact hD
  ·rw[if_neg e,if_neg e];exact(h.dk j hj2).apart g (fun k hk hk2=>h.sep i j hi hj2 (fun e2=>e e2.symm) k hk hk2)
 ·intro j l hj hl2 hne k hk hk2;have hj2:j<a.D.length:=hl▸hj;have hl3:l<a.D.length:=hl▸hl2;replace hk:(if j=i then G' else GD j) k:=hk;replace hk2:(if l=i then G' else GD l) k:=hk2
  by_cases e:j=i
  ·rw[if_pos e]at hk;rw[if_neg (fun e2=>hne (e.trans e2.symm))]at hk2
   rcases hS k hk with h1|h1
   ·exact h.sep i l hi hl3 (fun e2=>hne (e.trans e2)) k h1 hk2
   ·have:=h.lt k (h.gd l hl3 k hk2);omega
  ·rw[if_neg e]at hk
   by_cases e2:l=i
   ·rw[if_pos e2]at hk2
    rcases hS k hk2 with h1|h1
    ·exact h.sep j i hj2 hi e k hk h1
    ·have:=h.lt k (h.gd j hj2 k hk);omega
   ·rw[if_neg e2]at hk2;exact h.sep j l hj2 hl3 hne k hk hk2
 ·intro j hj;have hj2:j<a.D.length:=hl▸hj
  show ¬(if j=i then G' else GD j) ab/\¬(if j=i then G' else GD j) mb
  by_cases e:j=i
  ·rw[if_pos e];exact⟨g.off la na,g.off lm nm⟩
  ·rw[if_neg e];exact h.sa j hj2
 ·intro j hj k hk;have hj2:j<a.D.length:=hl▸hj;replace hk:(if j=i then G' else GD j) k:=hk
  by_cases e:j=i
  ·rw[if_pos e]at hk;exact Or.inr hk
  ·rw[if_neg e]at hk;exact Or.inl (h.gd j hj2 k hk)
 ·intro k hk
  rcases hk with h1|h1
  ·exact Zu (h.lt k h1) g.turn.size
  ·exact hD.lt k h1
 ·show 1<=(a.D.set i d').length
  rw[hl];exact h.d1
 ·show(a.D.set i d').length<=32
  rw[hl];exact h.d2
 ·show a.B.length=(a.D.set i d').length
  rw[hl];exact h.b
 ·refine g.wide (fun k hk=>h.gd i hi k hk) (fun k hk=>?_)
  rcases hk with h1|h1
  ·exact Or.inl h1
  ·rcases g.grow k h1 with h2|h2
   ·exact Or.inl (h.gd i hi k h2)
   ·exact Or.inr h2
theorem ArM.own(h:ArM w ab mb db GD GA a){g j:Nat}{v:Value}(hg:g=ab∨g=mb){i:Nat}(hi:i<a.D.length):DiskAt (w.setCell ⟨g,j,none⟩ v) (db i) (GD i) (a.D.getD i default):=
 (h.dk i hi).keep (fun k hk=>Below.heap_setCell w ⟨g,j,none⟩ v k (fun e=>by
  have e2:k=g:=e;subst e2
  rcases hg with e3|e3
  ·rw[e3]at hk;exact(h.sa i hi).1 hk
  ·rw[e3]at hk;exact(h.sa i hi).2 hk)) Zs
theorem ArM.setLeft(h:ArM w ab mb db GD GA a){l:Int}(hl:(Lit.int .i64 l).wf=true):ArM (w.setCell ⟨ab,1,none⟩ (.int .i64 (leC l))) ab mb db GD GA {a with left:=l}:=by
 have c1:=h.c1;have f1:=h.f1;have hb:∀k,k≠ab->(w.setCell ⟨ab,1,none⟩ (.int .i64 (leC l))).heap[k]? =w.heap[k]? :=fun k hk=>Below.heap_setCell w ⟨ab,1,none⟩ _ k hk
 have hm:=hb mb h.ne.symm;refine⟨?_,?_,?_,?_,?_,fun i hi=>(Zc (w:=w) hm).trans (h.m0 i hi),fun i hi=>(Zc (w:=w) hm).trans (h.m1 i hi),fun i hi=>(World.frozen?_of_block (w:=w) hm).trans (h.fm i hi),fun i hi=>h.own (Or.inl rfl) hi,h.sep,h.sa,h.ne,h.ga,h.gm,h.gd,fun k hk=>by simpa using h.lt k hk,h.d1,h.d2,h.b,hl⟩
 ·rw[<-h.c0];simp[go_sem]
 ·simp[go_sem,c1]
 ·rw[<-h.c2];simp[go_sem]
 ·simp[go_sem,f1]
 ·rw[<-h.f2];simp[go_sem]
theorem ArM.setOff(h:ArM w ab mb db GD GA a)(x:Bool):ArM (w.setCell ⟨ab,2,none⟩ (.bool x)) ab mb db GD GA {a with off:=x}:=by
 have c2:=h.c2;have f2:=h.f2;have hb:∀k,k≠ab->(w.setCell ⟨ab,2,none⟩ (.bool x)).heap[k]? =w.heap[k]? :=fun k hk=>Below.heap_setCell w ⟨ab,2,none⟩ _ k hk
 have hm:=hb mb h.ne.symm;refine⟨?_,?_,?_,?_,?_,fun i hi=>(Zc (w:=w) hm).trans (h.m0 i hi),fun i hi=>(Zc (w:=w) hm).trans (h.m1 i hi),fun i hi=>(World.frozen?_of_block (w:=w) hm).trans (h.fm i hi),fun i hi=>h.own (Or.inl rfl) hi,h.sep,h.sa,h.ne,h.ga,h.gm,h.gd,fun k hk=>by simpa using h.lt k hk,h.d1,h.d2,h.b,h.wl⟩
 ·rw[<-h.c0];simp[go_sem]
 ·rw[<-h.c1];simp[go_sem]
 ·simp[go_sem,c2]
 ·rw[<-h.f1];simp[go_sem]
 ·simp[go_sem,f2]
theorem cell_set_ne(w:World){g i j:Nat}(v:Value)(h:i≠j):(w.setCell ⟨g,j,none⟩ v).cell? ⟨g,i,none⟩=w.cell? ⟨g,i,none⟩:=by
 simp[go_sem,h]
theorem cell_set_eq{w:World}{g j:Nat}{u:Value}(v:Value)(h:w.cell? ⟨g,j,none⟩=some u):(w.setCell ⟨g,j,none⟩ v).cell? ⟨g,j,none⟩=some v:=by
 simp[go_sem,h]
theorem frozen_set(w:World){g i j:Nat}(v:Value):(w.setCell ⟨g,j,none⟩ v).frozen? ⟨g,i,none⟩=w.frozen? ⟨g,i,none⟩:=by
 simp[go_sem]
theorem ArM.setBorn(h:ArM w ab mb db GD GA a){i:Nat}(hi:i<a.D.length)(z:Int):ArM (w.setCell ⟨mb,i*2+1,none⟩ (.int .i64 z)) ab mb db GD GA {a with B:=a.B.set i z}:=by
 have hb:∀k,k≠mb->(w.setCell ⟨mb,i*2+1,none⟩ (.int .i64 z)).heap[k]? =w.heap[k]? :=fun k hk=>Below.heap_setCell w ⟨mb,i*2+1,none⟩ _ k hk
 have hm:=hb ab h.ne;have hB:i<a.B.length:=by rw[h.b];exact hi
 refine⟨(Zc (w:=w) hm).trans h.c0,(Zc (w:=w) hm).trans h.c1,(Zc (w:=w) hm).trans h.c2,(World.frozen?_of_block (w:=w) hm).trans h.f1,(World.frozen?_of_block (w:=w) hm).trans h.f2,fun j hj=>?_,fun j hj=>?_,fun j hj=>?_,fun i hi=>h.own (Or.inr rfl) hi,h.sep,h.sa,h.ne,h.ga,h.gm,h.gd,fun k hk=>by simpa using h.lt k hk,h.d1,h.d2,?_,h.wl⟩
 ·rw[cell_set_ne w _ Zo];exact h.m0 j hj
 ·show _=some (Value.int .i64 ((a.B.set i z).getD j 0))
  rw[getD_set hB]
  by_cases e:j=i
  ·subst e;rw[if_pos rfl];exact cell_set_eq _ (h.m1 j hj)
  ·rw[if_neg e,cell_set_ne w _ Zo];exact h.m1 j hj
 ·rw[frozen_set];exact h.fm j hj
 ·show(a.B.set i z).length=_
  simp;exact h.b
end
section
variable {w:World} {ab mb:Nat} {db:Nat->Nat} {GD:Nat->Nat->Prop} {GA:Nat->Prop} {a:ArS}
theorem amem_at{n:Nat}(c0:w.cell? ⟨ab,0,none⟩=some (.slice (some ⟨mb,0,none⟩) n n)){j:Nat}(hj:j<n):Calls Tryz.prog 55 #[.pointer (some ⟨ab,0,none⟩),.int .i64 (j:Int)] w fun e w'=>e= .returned (.pointer (some ⟨mb,j*2,none⟩))/\w'=w:=by
 have q1:¬(j:Int)<0:=Zo
 have q2:¬(j:Int)>=(n:Int):=Zo
 have q3:(j:Int)<(n:Int):=Zo
 go_enter Tryz.func55,Tryz.ntmps55
 go_wp2;go_ret;exact⟨rfl,rfl⟩
theorem amem_no{n:Nat}(c0:w.cell? ⟨ab,0,none⟩=some (.slice (some ⟨mb,0,none⟩) n n)){i:Int}(hi:¬(0<=i/\i<(n:Int))):Calls Tryz.prog 55 #[.pointer (some ⟨ab,0,none⟩),.int .i64 i] w fun e w'=>e= .returned (.pointer none)/\w'=w:=by
 by_cases q1:i<0
 ·go_enter Tryz.func55,Tryz.ntmps55
  go_wp2;go_ret;exact⟨rfl,rfl⟩
 ·have q2:i>=(n:Int):=by omega
  go_enter Tryz.func55,Tryz.ntmps55
  go_wp2;go_ret;exact⟨rfl,rfl⟩
theorem aref_any{x:Bool}(c2:w.cell? ⟨ab,2,none⟩=some (.bool x)):Calls Tryz.prog 127 #[.pointer (some ⟨ab,0,none⟩)] w fun e w'=>e= .returned (.int .i64 (if x=true then 130 else 0))/\w'=w:=by
 cases x
 ·go_enter Tryz.func127,Tryz.ntmps127
  go_wp2;go_ret;exact⟨rfl,rfl⟩
 ·go_enter Tryz.func127,Tryz.ntmps127
  go_wp2;go_ret;exact⟨rfl,rfl⟩
theorem apow_off(c2:w.cell? ⟨ab,2,none⟩=some (.bool true)){i:Int}:Calls Tryz.prog 110 #[.pointer (some ⟨ab,0,none⟩),.int .i64 i] w fun e w'=>e= .returned (.tuple #[.pointer none,.int .i64 130])/\w'=w:=by
 have K:=aref_any c2;simp only[if_true]at K
 go_enter Tryz.func110,Tryz.ntmps110
 go_wp2_with fail
 refine K.mono ?_
 rintro _ wq ⟨rfl,hwq⟩;rw[hwq];clear hwq wq K;go_wp2;refine bodyPost_ret (v:=.tuple #[.pointer none,.int .i64 130]) (by simp[results,Tryz.results110,go_sem]) rfl ?_
 exact⟨rfl,rfl⟩
theorem apow_no{n:Nat}(c0:w.cell? ⟨ab,0,none⟩=some (.slice (some ⟨mb,0,none⟩) n n))(c2:w.cell? ⟨ab,2,none⟩=some (.bool false)){i:Int}(hi:¬(0<=i/\i<(n:Int))):Calls Tryz.prog 110 #[.pointer (some ⟨ab,0,none⟩),.int .i64 i] w fun e w'=>e= .returned (.tuple #[.pointer none,.int .i64 1])/\w'=w:=by
 have K:=aref_any c2;have KM:=amem_no c0 hi;simp only[Bool.false_eq_true,if_false]at K
 go_enter Tryz.func110,Tryz.ntmps110
 go_wp2_with fail
 refine K.mono ?_
 rintro _ wq ⟨rfl,hwq⟩;rw[hwq];clear hwq wq K
 go_wp2_with fail
 refine KM.mono ?_
 rintro _ wq ⟨rfl,hwq⟩;rw[hwq];clear hwq wq KM;go_wp2;refine bodyPost_ret (v:=.tuple #[.pointer none,.int .i64 1]) (by simp[results,Tryz.results110,go_sem]) rfl ?_
 exact⟨rfl,rfl⟩
theorem apow_at{n:Nat}(c0:w.cell? ⟨ab,0,none⟩=some (.slice (some ⟨mb,0,none⟩) n n))(c2:w.cell? ⟨ab,2,none⟩=some (.bool false)){j:Nat}(hj:j<n):Calls Tryz.prog 110 #[.pointer (some ⟨ab,0,none⟩),.int .i64 (j:Int)] w fun e w'=>e= .returned (.tuple #[.pointer (some ⟨mb,j*2,none⟩),.int .i64 0])/\w'=w:=by
 have K:=aref_any c2;have KM:=amem_at c0 hj;simp only[Bool.false_eq_true,if_false]at K
 go_enter Tryz.func110,Tryz.ntmps110
 go_wp2_with fail
 refine K.mono ?_
 rintro _ wq ⟨rfl,hwq⟩;rw[hwq];clear hwq wq K
 go_wp2_with fail
 refine KM.mono ?_
 rintro _ wq ⟨rfl,hwq⟩;rw[hwq];clear hwq wq KM;go_wp2;refine bodyPost_ret (v:=.tuple #[.pointer (some ⟨mb,j*2,none⟩),.int .i64 0]) (by simp[results,Tryz.results110,go_sem]) rfl ?_
 exact⟨rfl,rfl⟩
theorem acount_any(h:ArM w ab mb db GD GA a):Calls Tryz.prog 126 #[.pointer (some ⟨ab,0,none⟩)] w fun e w'=>e= .returned (.tuple #[])/\ArM w' ab mb db GD GA (tickA a)/\TurnG GA w w':=by
 have c1:=h.c1;have c2:=h.c2;have f1:=h.f1;have f2:=h.f2
 by_cases hl:0<a.left
 ·have eL:leC a.left=a.left:=if_pos hl;have wb:=bounds_i64 h.wl;have hwf:(Lit.int .i64 (a.left-1)).wf=true:=by simp[Lit.wf,IntKind.min,IntKind.max,IntKind.signed,IntKind.bits];omega
  have M1:=(h.setLeft hwf).setOff (decide (a.left-1=0));have eL2:leC (a.left-1)=a.left-1:=by unfold leC;split<;>omega
  have eT:tickA a={{a with left:=a.left-1}with off:=decide (a.left-1=0)}:=if_pos hl;rw[eL2]at M1;have FIN:Hid (ArM ((w.setCell ⟨ab,1,none⟩ (.int .i64 (a.left-1))).setCell ⟨ab,2,none⟩ (.bool (decide (a.left-1=0)))) ab mb db GD GA (tickA a)/\TurnG GA w ((w.setCell ⟨ab,1,none⟩ (.int .i64 (a.left-1))).setCell ⟨ab,2,none⟩ (.bool (decide (a.left-1=0))))):=by
   rw[eT];exact⟨M1,(setCell_turnG h.ga).trans (setCell_turnG h.ga)⟩
  clear M1 eT eL2 hwf;rw[eL]at c1;have q0:¬a.left=0:=Zo
  have q1:(a.left==0)=false:=Zq.2 q0;have g1:IntKind.i64.wrap (a.left-1)=a.left-1:=Zw
  have q2:(a.left-1==0)=decide (a.left-1=0):=by by_cases e:a.left-1=0<;>simp[e]
  clear h wb eL hl
  go_enter Tryz.func126,Tryz.ntmps126
  go_wp2
  go_end0
  exact⟨rfl,FIN.out⟩
 ·have eL:leC a.left=0:=if_neg hl;have eT:tickA a=a:=if_neg hl;have FIN:Hid (ArM w ab mb db GD GA (tickA a)):=by rw[eT];exact h
  rw[eL]at c1;clear h eT eL
  go_enter Tryz.func126,Tryz.ntmps126
  go_wp2;refine bodyPost_ret (v:=.tuple #[]) (by simp[results,Tryz.results126,go_sem]) rfl ?_
  exact⟨rfl,FIN.out,TurnG.refl _ _⟩
theorem adown_any(h:ArAt w ab GA a):Calls Tryz.prog 50 #[.pointer (some ⟨ab,0,none⟩)] w fun e w'=>e= .returned (.bool a.off)/\w'=w:=by
 obtain⟨mb,db,GD,h,_⟩:=h;have c2:=h.c2
 go_enter Tryz.func50,Tryz.ntmps50
 go_wp2;go_ret;exact⟨rfl,rfl⟩
theorem aafter_any(h:ArAt w ab GA a){n:Int}(hn:(Lit.int .i64 n).wf=true):Calls Tryz.prog 26 #[.pointer (some ⟨ab,0,none⟩),.int .i64 n] w (LeavesA w ab GA (caA a n) (.tuple #[])):=by
 obtain⟨mb,db,GD,h,ok⟩:=h;have c1:=h.c1;have c2:=h.c2;have f1:=h.f1;have f2:=h.f2;cases ho:a.off with
 |true=>
  have FIN:Hid (∃GA',ArAt w ab GA' (caA a n)/\Grew GA w GA' w):=⟨GA,⟨mb,db,GD,by rw[show caA a n=a from if_pos ho];exact⟨h,ok⟩⟩,Grew.refl _ _⟩;rw[ho]at c2;clear h ok
  go_enter Tryz.func26,Tryz.ntmps26
  go_wp2;refine bodyPost_ret (v:=.tuple #[]) (by simp[results,Tryz.results26,go_sem]) rfl ?_
  exact⟨rfl,FIN.out⟩
 |false=>
  have hwf:(Lit.int .i64 (if 0<=n then n else-1)).wf=true:=by
   split
   ·exact hn
   ·decide
  have M1:=(h.setLeft hwf).setOff (decide (n=0));have eL:leC (if 0<=n then n else-1)=max n 0:=by
   unfold leC
   split<;>split<;>omega
  have eT:caA a n={{a with left:=if 0<=n then n else-1}with off:=decide (n=0)}:=if_neg (by rw[ho];simp);have ok2:=caA_ok ok n;rw[eT]at ok2;rw[eL]at M1;have FIN:Hid (∃GA',ArAt ((w.setCell ⟨ab,1,none⟩ (.int .i64 (max n 0))).setCell ⟨ab,2,none⟩ (.bool (decide (n=0)))) ab GA' (caA a n)/\Grew GA w GA' ((w.setCell ⟨ab,1,none⟩ (.int .i64 (max n 0))).setCell ⟨ab,2,none⟩ (.bool (decide (n=0))))):=by
   rw[eT];exact⟨GA,⟨mb,db,GD,M1,ok2⟩,Grew.of_turn ((setCell_turnG h.ga).trans (setCell_turnG h.ga))⟩
  have q2:(n==0)=decide (n=0):=by by_cases e:n=0<;>simp[e]
  rw[ho]at c2;clear M1 eT eL hwf h ok ok2
  by_cases qn:0<=n
  ·have qm:max n 0=n:=by omega
   have qn':¬n<0:=Zo
   rw[qm]at FIN
   go_enter Tryz.func26,Tryz.ntmps26
   go_wp2
   go_end0
   exact⟨rfl,FIN.out⟩
  ·have qm:max n 0=0:=by omega
   have qn':n<0:=Zo
   rw[qm]at FIN
   go_enter Tryz.func26,Tryz.ntmps26
   go_wp2
   go_end0
   exact⟨rfl,FIN.out⟩
end
section
variable {w:World} {ab:Nat} {GA:Nat->Prop} {a:ArS}
theorem th_at{a:ArS}{i:Int}(h:thA a i):∃j:Nat,i=(j:Int)/\j<a.D.length:=⟨i.toNat,by have:=h.1;omega,by have:=h.1;have:=h.2;omega⟩
theorem th_j{a:ArS}{j:Nat}(h:j<a.D.length):thA a (j:Int):=⟨Zo,Zo⟩
theorem wrS_no{d:DkS}{x:Int}{b:List UInt8}(h:¬wrX d x b=0):wrS d x b=d:=by
 unfold wrS;rw[if_neg];rintro⟨h1,h2⟩;exact h (by unfold wrX;rw[if_pos h1,if_pos h2])
theorem set_self{α:Type}(l:List α)(j:Nat)(d:α)(h:j<l.length):l.set j (l.getD j d)=l:=by
 rw[show l.getD j d=l[j] by simp[List.getD,h]];exact List.set_getElem_self h
theorem setA_same{a:ArS}{j:Nat}(h:j<a.D.length):({a with D:=a.D.set j (a.D.getD j default)}:ArS)=a:=by rw[set_self _ _ _ h]
theorem stays{a':ArS}(h:ArAt w ab GA a)(e:a'=a):∃GA',ArAt w ab GA' a'/\Grew GA w GA' w:=⟨GA,by rw[e];exact h,Grew.refl _ _⟩
theorem awrite_any(h:ArAt w ab GA a){i ad:Int}(hi:(Lit.int .i64 i).wf=true)(ha:(Lit.int .i64 ad).wf=true){v:Value}{p:List UInt8}(hp:Rd w v p):
  Calls Tryz.prog 81 #[.pointer (some ⟨ab,0,none⟩),.int .i64 i,.int .i64 ad,v] w (LeavesA w ab GA (wrAS a i ad p) (.int .i64 (wrAX a i ad p))):=by
 have h0:=h;obtain⟨mb,db,GD,hM,ok⟩:=h;obtain⟨va,vc,rfl⟩:=hp.form;cases ho:a.off with
 |true=>
  have c2:=hM.c2;rw[ho]at c2;have K:=@apow_off w ab c2 i;rw[show wrAX a i ad p=130 from if_pos ho];have FIN:Hid (∃GA',ArAt w ab GA' (wrAS a i ad p)/\Grew GA w GA' w):=stays h0 (if_pos ho);clear h0 hM ok c2
  go_enter Tryz.func81,Tryz.ntmps81
  go_wp2_with fail
  refine K.mono ?_
  rintro _ wq ⟨rfl,hwq⟩;rw[hwq];clear hwq wq K;go_wp2;go_ret;exact⟨rfl,FIN.out⟩
 |false=>
  have no:¬a.off=true:=by rw[ho];simp
  have c0:=hM.c0;have c2:=hM.c2;rw[ho]at c2
  by_cases ht:thA a i
  ·have eX:wrAX a i ad p=wrX (diA a i) ad p:=by unfold wrAX;rw[if_neg no,if_pos ht]
   have eS:wrAS a i ad p=if wrX (diA a i) ad p=0 then tickA (setA a i (wrS (diA a i) ad p))else a:=by unfold wrAS;rw[if_neg no,if_pos ht]
   have okS:=wrAS_ok ok i ad p;obtain⟨j,rfl,hj⟩:=th_at ht;have KP:=@apow_at w ab mb _ c0 c2 j hj;have KW:=dwrite_any (hM.dk j hj) ha hp;have m0:=hM.m0 j hj;have eD:diA a (j:Int)=a.D.getD j default:=rfl;rw[eX,eS];rw[eS]at okS;rw[eD]at okS ⊢;clear eX eS eD;obtain⟨d,hd⟩:∃d,d=a.D.getD j default:=⟨_,rfl⟩;rw[<-hd]at KW okS ⊢
   by_cases hx:wrX d ad p=0
   ·rw[hx]at KW ⊢;rw[if_pos rfl];rw[hx,if_pos rfl]at okS
    go_enter Tryz.func81,Tryz.ntmps81
    go_wp2_with fail
    refine KP.mono ?_
    rintro _ wq ⟨rfl,hwq⟩;rw[hwq];clear hwq wq KP
    go_wp2_with fail
    refine KW.mono ?_
    rintro _ w1 ⟨rfl,G1,D1,g1⟩;obtain⟨M1,gg1⟩:=hM.disk hj D1 g1;have KC:=acount_any M1;have FIN:Hid (∀w2,ArM w2 ab mb db (fun k=>if k=j then G1 else GD k) (fun k=>GA k∨G1 k) (tickA {a with D:=a.D.set j (wrS d ad p)})->TurnG (fun k=>GA k∨G1 k) w1 w2->∃GA',ArAt w2 ab GA' (tickA (setA a (j:Int) (wrS d ad p)))/\Grew GA w GA' w2):=fun w2 M2 t2=>
     ⟨_,⟨mb,db,_,M2,okS⟩,gg1.trans (Grew.of_turn t2)⟩
    clear M1 gg1 D1 g1 KW hM ok h0 okS c0 c2 m0 hp hd
    go_wp2_with fail
    refine KC.mono ?_
    rintro _ w2 ⟨rfl,M2,t2⟩;have F2:Hid (∃GA',ArAt w2 ab GA' (tickA (setA a (j:Int) (wrS d ad p)))/\Grew GA w GA' w2):=FIN.out w2 M2 t2;clear M2 t2 FIN KC;go_wp2;go_ret;exact⟨rfl,F2.out⟩
   ·rw[if_neg hx];have eQ:wrS d ad p=d:=wrS_no hx;rw[eQ]at KW;obtain⟨x,hxx⟩:∃x,x=wrX d ad p:=⟨_,rfl⟩;rw[<-hxx]at KW hx ⊢;have q1:(x==0)=false:=Zq.2 hx
    go_enter Tryz.func81,Tryz.ntmps81
    go_wp2_with fail
    refine KP.mono ?_
    rintro _ wq ⟨rfl,hwq⟩;rw[hwq];clear hwq wq KP
    go_wp2_with fail
    refine KW.mono ?_
    rintro _ w1 ⟨rfl,G1,D1,g1⟩;obtain⟨M1,gg1⟩:=hM.disk hj D1 g1;have F2:Hid (∃GA',ArAt w1 ab GA' a/\Grew GA w GA' w1):=⟨_,⟨mb,db,_,by
     have e2:({a with D:=a.D.set j d}:ArS)=a:=by rw[hd];exact setA_same hj
     rw[e2]at M1;exact M1,ok⟩,gg1⟩
    clear M1 gg1 D1 g1 KW hM ok h0 okS c0 c2 m0 hp hd hxx eQ;go_wp2;go_ret;exact⟨rfl,F2.out⟩
  ·have K:=@apow_no w ab mb _ c0 c2 i ht;rw[show wrAX a i ad p=1 by unfold wrAX;rw[if_neg no,if_neg ht]];have FIN:Hid (∃GA',ArAt w ab GA' (wrAS a i ad p)/\Grew GA w GA' w):=stays h0 (by unfold wrAS;rw[if_neg no,if_neg ht]);clear h0 hM ok c2 c0
   go_enter Tryz.func81,Tryz.ntmps81
   go_wp2_with fail
   refine K.mono ?_
   rintro _ wq ⟨rfl,hwq⟩;rw[hwq];clear hwq wq K;go_wp2;go_ret;exact⟨rfl,FIN.out⟩
theorem aread_any(h:ArAt w ab GA a){i ad:Int}(hi:(Lit.int .i64 i).wf=true)(ha:(Lit.int .i64 ad).wf=true):
  Calls Tryz.prog 59 #[.pointer (some ⟨ab,0,none⟩),.int .i64 i,.int .i64 ad] w (Tells w (rdAX a i ad) (rdAB a i ad)):=by
 obtain⟨mb,db,GD,hM,ok⟩:=h;cases ho:a.off with
 |true=>
  have c2:=hM.c2;rw[ho]at c2;have K:=@apow_off w ab c2 i;rw[show rdAX a i ad=130 from if_pos ho,show rdAB a i ad=[]from if_pos ho];clear hM ok c2
  go_enter Tryz.func59,Tryz.ntmps59
  go_wp2_with fail
  refine K.mono ?_
  rintro _ wq ⟨rfl,hwq⟩;rw[hwq];clear hwq wq K;go_wp2;refine bodyPost_ret (v:=.tuple #[.slice none 0 0,.int .i64 130]) (by simp[results,Tryz.results59,go_sem]) rfl ?_
  exact⟨_,rfl,own_none _ _ _,Zf⟩
 |false=>
  have no:¬a.off=true:=by rw[ho];simp
  have c0:=hM.c0;have c2:=hM.c2;rw[ho]at c2
  by_cases ht:thA a i
  ·rw[show rdAX a i ad=faX (diA a i) ad by unfold rdAX;rw[if_neg no,if_pos ht],show rdAB a i ad=rdB (diA a i) ad by unfold rdAB;rw[if_neg no,if_pos ht]];obtain⟨j,rfl,hj⟩:=th_at ht;have KP:=@apow_at w ab mb _ c0 c2 j hj;have KR:=dread_any (hM.dk j hj) ha;have m0:=hM.m0 j hj;rw[show diA a (j:Int)=a.D.getD j default from rfl];obtain⟨x,hx⟩:∃x,x=faX (a.D.getD j default) ad:=⟨_,rfl⟩;obtain⟨r,hr⟩:∃r,r=rdB (a.D.getD j default) ad:=⟨_,rfl⟩;rw[<-hx,<-hr]at KR ⊢;clear hM ok hx hr ht c0 c2
   go_enter Tryz.func59,Tryz.ntmps59
   go_wp2_with fail
   refine KP.mono ?_
   rintro _ wq ⟨rfl,hwq⟩;rw[hwq];clear hwq wq KP
   go_wp2_with fail
   refine KR.mono ?_
   rintro _ w1 ⟨v,rfl,O1,B1⟩;go_wp2;refine bodyPost_ret (v:=.tuple #[v,.int .i64 x]) (by simp[results,Tryz.results59,go_sem]) rfl ?_
   exact⟨_,rfl,O1,B1⟩
  ·have K:=@apow_no w ab mb _ c0 c2 i ht;rw[show rdAX a i ad=1 by unfold rdAX;rw[if_neg no,if_neg ht],show rdAB a i ad=[] by unfold rdAB;rw[if_neg no,if_neg ht]];clear hM ok c2 c0
   go_enter Tryz.func59,Tryz.ntmps59
   go_wp2_with fail
   refine K.mono ?_
   rintro _ wq ⟨rfl,hwq⟩;rw[hwq];clear hwq wq K;go_wp2;refine bodyPost_ret (v:=.tuple #[.slice none 0 0,.int .i64 1]) (by simp[results,Tryz.results59,go_sem]) rfl ?_
   exact⟨_,rfl,own_none _ _ _,Zf⟩
theorem afail_any(h:ArAt w ab GA a){i:Int}(hi:(Lit.int .i64 i).wf=true):
  Calls Tryz.prog 16 #[.pointer (some ⟨ab,0,none⟩),.int .i64 i] w (LeavesA w ab GA (faAS a i) (.int .i64 (thX a i))):=by
 have h0:=h;obtain⟨mb,db,GD,hM,ok⟩:=h;have c0:=hM.c0
 by_cases ht:thA a i
 ·have okS:=faAS_ok ok i;have eS:faAS a i=bornA (setA a i (faS (diA a i))) i:=if_pos ht;rw[show thX a i=0 from if_pos ht];rw[eS]at okS ⊢;obtain⟨j,rfl,hj⟩:=th_at ht;have KP:=@amem_at w ab mb _ c0 j hj;have KW:=dfail_any (hM.dk j hj);have m0:=hM.m0 j hj;rw[show diA a (j:Int)=a.D.getD j default from rfl]at okS ⊢;obtain⟨d,hd⟩:∃d,d=a.D.getD j default:=⟨_,rfl⟩;rw[<-hd]at KW okS ⊢
  go_enter Tryz.func16,Tryz.ntmps16
  go_wp2_with fail
  refine KP.mono ?_
  rintro _ wq ⟨rfl,hwq⟩;rw[hwq];clear hwq wq KP
  go_wp2_with fail
  refine KW.mono ?_
  rintro _ w1 ⟨rfl,G1,D1,g1⟩;obtain⟨M1,gg1⟩:=hM.disk hj D1 g1;have hj1:j<(a.D.set j (faS d)).length:=by simpa using hj
  have m1:w1.cell? ⟨mb,j*2+1,none⟩=some (.int .i64 (a.B.getD j 0)):=M1.m1 j hj1;have fm:=M1.fm j hj1;have M2:=M1.setBorn hj1 (IntKind.i64.wrap (a.B.getD j 0+1));have FIN:Hid (∃GA',ArAt (w1.setCell ⟨mb,j*2+1,none⟩ (.int .i64 (IntKind.i64.wrap (a.B.getD j 0+1)))) ab GA' (bornA (setA a (j:Int) (faS d)) (j:Int))/\Grew GA w GA' (w1.setCell ⟨mb,j*2+1,none⟩ (.int .i64 (IntKind.i64.wrap (a.B.getD j 0+1))))):=
   ⟨_,⟨mb,db,_,M2,okS⟩,gg1.trans (Grew.of_turn (setCell_turnG (Or.inl hM.gm)))⟩
  obtain⟨z,hz⟩:∃z,z=a.B.getD j 0:=⟨_,rfl⟩;rw[<-hz]at m1 FIN;obtain⟨z1,gz⟩:∃z1,IntKind.i64.wrap (z+1)=z1:=⟨_,rfl⟩;rw[gz]at FIN;clear M1 M2 gg1 D1 g1 KW hM ok h0 okS c0 m0 hd hj1 hz;go_wp2;go_ret;exact⟨rfl,FIN.out⟩
 ·have K:=@amem_no w ab mb _ c0 i ht;rw[show thX a i=1 from if_neg ht];have FIN:Hid (∃GA',ArAt w ab GA' (faAS a i)/\Grew GA w GA' w):=stays h0 (if_neg ht);clear h0 hM ok c0
  go_enter Tryz.func16,Tryz.ntmps16
  go_wp2_with fail
  refine K.mono ?_
  rintro _ wq ⟨rfl,hwq⟩;rw[hwq];clear hwq wq K;go_wp2;go_ret;exact⟨rfl,FIN.out⟩
theorem arepl_any(h:ArAt w ab GA a){i:Int}(hi:(Lit.int .i64 i).wf=true):
  Calls Tryz.prog 17 #[.pointer (some ⟨ab,0,none⟩),.int .i64 i] w (LeavesA w ab GA (rpAS a i) (.int .i64 (thX a i))):=by
 have h0:=h;obtain⟨mb,db,GD,hM,ok⟩:=h;have c0:=hM.c0
 by_cases ht:thA a i
 ·have okS:=rpAS_ok ok i;have eS:rpAS a i=bornA (setA a i (reS (diA a i))) i:=if_pos ht;rw[show thX a i=0 from if_pos ht];rw[eS]at okS ⊢;obtain⟨j,rfl,hj⟩:=th_at ht;have KP:=@amem_at w ab mb _ c0 j hj;have KW:=drepl_any (hM.dk j hj);have m0:=hM.m0 j hj;rw[show diA a (j:Int)=a.D.getD j default from rfl]at okS ⊢;obtain⟨d,hd⟩:∃d,d=a.D.getD j default:=⟨_,rfl⟩;rw[<-hd]at KW okS ⊢
  go_enter Tryz.func17,Tryz.ntmps17
  go_wp2_with fail
  refine KP.mono ?_
  rintro _ wq ⟨rfl,hwq⟩;rw[hwq];clear hwq wq KP
  go_wp2_with fail
  refine KW.mono ?_
  rintro _ w1 ⟨rfl,G1,D1,g1⟩;obtain⟨M1,gg1⟩:=hM.disk hj D1 g1;have hj1:j<(a.D.set j (reS d)).length:=by simpa using hj
  have m1:w1.cell? ⟨mb,j*2+1,none⟩=some (.int .i64 (a.B.getD j 0)):=M1.m1 j hj1;have fm:=M1.fm j hj1;have M2:=M1.setBorn hj1 (IntKind.i64.wrap (a.B.getD j 0+1));have FIN:Hid (∃GA',ArAt (w1.setCell ⟨mb,j*2+1,none⟩ (.int .i64 (IntKind.i64.wrap (a.B.getD j 0+1)))) ab GA' (bornA (setA a (j:Int) (reS d)) (j:Int))/\Grew GA w GA' (w1.setCell ⟨mb,j*2+1,none⟩ (.int .i64 (IntKind.i64.wrap (a.B.getD j 0+1))))):=
   ⟨_,⟨mb,db,_,M2,okS⟩,gg1.trans (Grew.of_turn (setCell_turnG (Or.inl hM.gm)))⟩
  obtain⟨z,hz⟩:∃z,z=a.B.getD j 0:=⟨_,rfl⟩;rw[<-hz]at m1 FIN;obtain⟨z1,gz⟩:∃z1,IntKind.i64.wrap (z+1)=z1:=⟨_,rfl⟩;rw[gz]at FIN;clear M1 M2 gg1 D1 g1 KW hM ok h0 okS c0 m0 hd hj1 hz;go_wp2;go_ret;exact⟨rfl,FIN.out⟩
 ·have K:=@amem_no w ab mb _ c0 i ht;rw[show thX a i=1 from if_neg ht];have FIN:Hid (∃GA',ArAt w ab GA' (rpAS a i)/\Grew GA w GA' w):=stays h0 (if_neg ht);clear h0 hM ok c0
  go_enter Tryz.func17,Tryz.ntmps17
  go_wp2_with fail
  refine K.mono ?_
  rintro _ wq ⟨rfl,hwq⟩;rw[hwq];clear hwq wq K;go_wp2;go_ret;exact⟨rfl,FIN.out⟩
theorem acorr_any(h:ArAt w ab GA a){i ad at_:Int}(hi:(Lit.int .i64 i).wf=true)(ha:(Lit.int .i64 ad).wf=true)(hat:(Lit.int .i64 at_).wf=true)(y:UInt8):
  Calls Tryz.prog 31 #[.pointer (some ⟨ab,0,none⟩),.int .i64 i,.int .i64 ad,.int .i64 at_,.int .u8 ((y.toNat:Nat):Int)] w (LeavesA w ab GA (coAS a i ad at_ y) (.int .i64 (coAX a i ad))):=by
 have h0:=h;obtain⟨mb,db,GD,hM,ok⟩:=h;have c0:=hM.c0
 by_cases ht:thA a i
 ·have okS:=coAS_ok ok i ad at_ y;have eS:coAS a i ad at_ y=setA a i (coS (diA a i) ad at_ y):=if_pos ht;rw[show coAX a i ad=coX (diA a i) ad from if_pos ht];rw[eS]at okS ⊢;obtain⟨j,rfl,hj⟩:=th_at ht;have KP:=@amem_at w ab mb _ c0 j hj;have KW:=dcorr_any (hM.dk j hj) ha hat y;have m0:=hM.m0 j hj;rw[show diA a (j:Int)=a.D.getD j default from rfl]at okS ⊢;obtain⟨x,hx⟩:∃x,x=coX (a.D.getD j default) ad:=⟨_,rfl⟩;rw[<-hx]at KW ⊢;obtain⟨d,hd⟩:∃d,d=a.D.getD j default:=⟨_,rfl⟩;rw[<-hd]at KW okS ⊢;clear hx
  go_enter Tryz.func31,Tryz.ntmps31
  go_wp2_with fail
  refine KP.mono ?_
  rintro _ wq ⟨rfl,hwq⟩;rw[hwq];clear hwq wq KP
  go_wp2_with fail
  refine KW.mono ?_
  rintro _ w1 ⟨rfl,G1,D1,g1⟩;obtain⟨M1,gg1⟩:=hM.disk hj D1 g1;have FIN:Hid (∃GA',ArAt w1 ab GA' (setA a (j:Int) (coS d ad at_ y))/\Grew GA w GA' w1):=⟨_,⟨mb,db,_,M1,okS⟩,gg1⟩;clear M1 gg1 D1 g1 KW hM ok h0 okS c0 m0 hd;go_wp2;go_ret;exact⟨rfl,FIN.out⟩
 ·have K:=@amem_no w ab mb _ c0 i ht;rw[show coAX a i ad=1 from if_neg ht];have FIN:Hid (∃GA',ArAt w ab GA' (coAS a i ad at_ y)/\Grew GA w GA' w):=stays h0 (if_neg ht);clear h0 hM ok c0
  go_enter Tryz.func31,Tryz.ntmps31
  go_wp2_with fail
  refine K.mono ?_
  rintro _ wq ⟨rfl,hwq⟩;rw[hwq];clear hwq wq K;go_wp2;go_ret;exact⟨rfl,FIN.out⟩
end
end Go.Proofs.YtclieefpnbdbjaaGreat.Gf
