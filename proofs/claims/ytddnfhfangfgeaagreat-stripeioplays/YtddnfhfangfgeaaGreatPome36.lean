/- JOINED: StLM, StCA, StTl, StTold, StCW. -/
import Derived.Test.YtddnfhfangfgeaaGreatPome35
set_option maxHeartbeats 4000000
set_option maxRecDepth 100000
namespace Go.Proofs.YtddnfhfangfgeaaGreat.Gf
set_option linter.unusedVariables false
set_option linter.unusedSimpArgs false
theorem rdAB_len{a:ArS}(h:a.Ok)(i ad:Int):(rdAB a i ad).length<=100000:=by
 unfold rdAB
 split
 ·simp
 ·split
  ·rename_i ht
   have hd:=h.each _ (di_mem ht);unfold rdB
   split
   ·unfold atD;cases e:(diA a i).wait ad with
    |some b=>have:=hd.iw ad b e;show b.length<=_;omega
    |none=>
     cases e2:(diA a i).last ad with
     |some b=>have:=hd.il ad b e2;show b.length<=_;omega
     |none=>simp
   ·simp
  ·simp
theorem rdAX_crash{a:ArS}{i ad:Int}:rdAX a i ad=130↔a.off=true:=by
 unfold rdAX;cases h:a.off
 ·rw[if_neg Zd];refine⟨fun e=>?_,fun e=>by cases e⟩;exfalso
  split at e
  ·rcases faX_in (diA a i) ad with q|q|q<;>rw[q]at e<;>cases e
  ·cases e
 ·rw[if_pos rfl];exact⟨fun _=>rfl,fun _=>rfl⟩
theorem rdAB_no{a:ArS}{i ad:Int}(h:¬rdAX a i ad=0):rdAB a i ad=[]:=by
 unfold rdAX at h;unfold rdAB
 split
 ·rfl
 ·rename_i ho
  rw[if_neg ho]at h
  split
  ·rename_i ht
   rw[if_pos ht]at h;unfold rdB;rw[if_neg h]
  ·rfl
open Classical in
noncomputable def rtR(a:ArS)(g:GeoS)(st ep:Int):List (List UInt8):=if rtX a g st ep=0 then alR a g st ep else []
theorem rtX_off{a:ArS}{g:GeoS}{st ep:Int}(hT:OkT g st ep)(h:a.off=true):rtX a g st ep=130/\rtR a g st ep=[]/\rtB a g st ep=[]:=by
 have e:rtX a g st ep=130:=by unfold rtX alX;rw[if_pos hT,if_pos h]
 refine⟨e,?_,?_⟩
 ·unfold rtR;rw[e,if_neg Zd]
 ·unfold rtB;rw[e,if_neg Zd]
theorem rtR_row{a:ArS}{g:GeoS}{st ep:Int}(hT:OkT g st ep)(h0:rtX a g st ep=0):(rtR a g st ep).length=nT g/\∀i,i<nT g->(ro (rtR a g st ep) i).length=g.z.toNat:=by
 have z:=okG_nat hT.1;have ea:alX a g st ep=0:=by unfold rtX at h0;rw[if_pos hT]at h0;exact h0
 have eo:shX g.k g.m (hsT a g st ep) (dsT a g st)=0:=by
  unfold alX at ea
  split at ea
  ·cases ea
  ·split at ea
   ·assumption
   ·cases ea
 have er:rtR a g st ep=rowsP g.k.toNat g.m.toNat (hsT a g st ep) (dsT a g st) (oneX (hsT a g st ep) (dsT a g st)).toNat:=by
  unfold rtR alR shR;rw[if_pos h0,if_pos eo]
 have e1:oneX (hsT a g st ep) (dsT a g st)≠-1:=fun e=>by
  have:=(sh_shard (hs:=hsT a g st ep) (L:=dsT a g st) (okG_c hT.1) (fun q=>q.2.2 e)).1;rw[this]at eo;cases eo
 have e2:(oneX (hsT a g st ep) (dsT a g st)).toNat=g.z.toNat:=by
  rcases oneX_cases (hsT a g st ep) (dsT a g st)with c|⟨n,c1,c2,i,c3⟩
  ·exact absurd c e1
  ·have hi:i<nT g:=by rw[<-hsT_length (a:=a) (st:=st) (ep:=ep)];exact hb_in c3
   have c4:=c2 i c3;rw[hsT_hb hi]at c3;unfold dsT at c4;rw[ro_mkL hi,has_len hT.1 c3]at c4;rw[c1,c4];simp
 rw[er,e2];refine⟨rowsP_length _ _ _ _ _,fun i hi=>?_⟩;rw[rowsP_ro hi,upto_length]
section
variable {a:ArS} {g:GeoS} {st ep:Int}
def shdF(a:ArS)(g:GeoS)(st ep:Int)(i:Nat):List UInt8:=if hsF a g st ep i=true then upD (stG g st) (rbT a g st i)else []
def shdT(a:ArS)(g:GeoS)(st ep:Int):List (List UInt8):=mkL (nT g) (shdF a g st ep)
theorem shdT_length:(shdT a g st ep).length=nT g:=mkL_length _ _
theorem ls_sh:shX g.k g.m (hsT a g st ep) (shdT a g st ep)=shX g.k g.m (hsT a g st ep) (dsT a g st)/\shR g.k g.m (hsT a g st ep) (shdT a g st ep)=alR a g st ep/\shP g.k g.m (hsT a g st ep) (shdT a g st ep)=alP a g st ep:=
 sh_same (by rw[shdT_length,dsT_length]) fun i hi=>by
  have hi2:i<nT g:=by rw[<-hsT_length (a:=a) (st:=st) (ep:=ep)];exact hb_in hi
  rw[hsT_hb hi2]at hi;unfold shdT dsT;rw[ro_mkL hi2,ro_mkL hi2];exact if_pos hi
theorem ls_len(hg:okG g)(i:Nat):(shdF a g st ep i).length<=g.z.toNat:=by
 unfold shdF
 by_cases h:hsF a g st ep i=true
 ·rw[if_pos h,has_len hg h];exact Nat.le_refl _
 ·rw[if_neg h];simp
def gdF(a:ArS)(g:GeoS)(st ep:Int)(P:List Nat)(i:Nat):Bool:=hsF a g st ep i&& !decide (i∈P)
theorem gd_nil(i:Nat):gdF a g st ep [] i=hsF a g st ep i:=by simp[gdF]
theorem gd_snoc(P:List Nat)(j i:Nat):gdF a g st ep (P++[j]) i=if i=j then false else gdF a g st ep P i:=by
 unfold gdF
 by_cases e:i=j
 ·rw[if_pos e,e];simp
 ·rw[if_neg e];simp[e]
theorem bd_gd(i:Nat):bdF a g st ep i=(!gdF a g st ep (alP a g st ep) i&&lvT a (diG g st (i:Int))):=by
 unfold bdF gdF;rw[Bool.not_and,Bool.not_not]
theorem shP_in{k m:Int}{hs:List Bool}{L:List (List UInt8)}:∀i,i∈shP k m hs L->i<k.toNat+m.toNat:=fun i hi=>by
 unfold shP at hi
 split at hi
 ·exact(plc_mem.1 hi).1
 ·cases hi
theorem al_ok(ho:a.off=false):alX a g st ep=if shX g.k g.m (hsT a g st ep) (dsT a g st)=0 then 0 else 150:=by
 unfold alX;rw[if_neg (by rw[ho];decide)]
theorem lv_at{d:Int}(h0:0<=d):lvT a d=(decide (d<(a.D.length:Int))&& !(a.D.getD d.toNat default).dead):=by
 unfold lvT diA;congr 1;refine decide_eq_decide.2 ?_
 unfold thA;exact⟨fun q=>q.2,fun q=>⟨h0,q⟩⟩
end
open Go.RowKit
section
variable {w:World} {pa pf:Option Addr} {g:GeoS} {st ep:Int}
theorem z36_4{p:Prop} (h:p:=by
 go_wp2;go_ret;exact⟨rfl,F0⟩
 ):p:=h
theorem piss_any{x:Bool}(hx:decide (0<=st/\st<g.s)=x):Calls Tryz.prog 50 #[aggP pa pf g st ep] w fun e w'=>e= .returned (.bool x)/\Below w.heap.size w w':=by
 subst hx;obtain⟨k,m,z,s,t,o⟩:=g;have L0:=(spot_new w pa pf ⟨k,m,z,s,t,o⟩ st ep 103).all;simp only[cellsP]at L0;obtain⟨x0,x1,x2,x3,x4,x5,x6,x7,x8,x9⟩:=L0;have F0:=belL w (.cells (cellsP pa pf ⟨k,m,z,s,t,o⟩ st ep) 103);simp only[cellsP]at F0;unfold aggP;simp only[cellsP]
 by_cases h1:0<=st
 ·by_cases h2:st<s
  ·rw[decide_eq_true ⟨h1,h2⟩];have h1':st>=0:=h1
   go_enter Tryz.func50,Tryz.ntmps50
   exact z36_4
  ·rw[decide_eq_false (fun q=>h2 q.2)];have h1':st>=0:=h1
   go_enter Tryz.func50,Tryz.ntmps50
   exact z36_4
 ·rw[decide_eq_false (fun q=>h1 q.1)];have h1':¬st>=0:=h1
  go_enter Tryz.func50,Tryz.ntmps50
  exact z36_4
theorem pise_any{x:Bool}(hx:decide (0<=ep/\ep<=2147483647)=x):Calls Tryz.prog 51 #[aggP pa pf g st ep] w fun e w'=>e= .returned (.bool x)/\Below w.heap.size w w':=by
 subst hx;obtain⟨k,m,z,s,t,o⟩:=g;have L0:=(spot_new w pa pf ⟨k,m,z,s,t,o⟩ st ep 103).all;simp only[cellsP]at L0;obtain⟨x0,x1,x2,x3,x4,x5,x6,x7,x8,x9⟩:=L0;have F0:=belL w (.cells (cellsP pa pf ⟨k,m,z,s,t,o⟩ st ep) 103);simp only[cellsP]at F0;unfold aggP;simp only[cellsP]
 by_cases h1:0<=ep
 ·by_cases h2:ep<=2147483647
  ·rw[decide_eq_true ⟨h1,h2⟩];have h1':ep>=0:=h1
   go_enter Tryz.func51,Tryz.ntmps51
   exact z36_4
  ·rw[decide_eq_false (fun q=>h2 q.2)];have h1':ep>=0:=h1
   go_enter Tryz.func51,Tryz.ntmps51
   exact z36_4
 ·rw[decide_eq_false (fun q=>h1 q.1)];have h1':¬ep>=0:=h1
  go_enter Tryz.func51,Tryz.ntmps51
  exact z36_4
theorem pcount_any{x:Int}(hx:IntKind.i64.wrap (g.k+g.m)=x):Calls Tryz.prog 55 #[aggP pa pf g st ep] w fun e w'=>e= .returned (.int .i64 x)/\Below w.heap.size w w':=by
 obtain⟨k,m,z,s,t,o⟩:=g;simp only at hx;have L0:=(spot_new w pa pf ⟨k,m,z,s,t,o⟩ st ep 103).all;simp only[cellsP]at L0;obtain⟨x0,x1,x2,x3,x4,x5,x6,x7,x8,x9⟩:=L0;have F0:=belL w (.cells (cellsP pa pf ⟨k,m,z,s,t,o⟩ st ep) 103);simp only[cellsP]at F0;unfold aggP;simp only[cellsP]
 go_enter Tryz.func55,Tryz.ntmps55
 exact z36_4
theorem z36_3{p:Prop} (h:p:=by
 go_wp2_with fail
 refine(K _).mono ?_
 rintro _ w1 ⟨rfl,B1⟩;have F1:=F0.stepL B1 F0.size;clear K B1 F0 x0 x1 x2 x3 x4 x5 x6 x7 x8 x9;go_wp2;go_ret;exact⟨rfl,F1⟩
 ):p:=h
theorem pplace_any(hg:g.Wf)(hst:(Lit.int .i64 st).wf=true){x:Int}(hx:stG g st=x):Calls Tryz.prog 86 #[aggP pa pf g st ep] w fun e w'=>e= .returned (.int .i64 x)/\Below w.heap.size w w':=by
 have K:=fun W=>@lstripe_any W g hg st hst x hx
 clear hx;obtain⟨k,m,z,s,t,o⟩:=g;rw[show aggG ⟨k,m,z,s,t,o⟩= .agg #[.int .i64 k,.int .i64 m,.int .i64 z,.int .i64 s,.int .i64 t,.int .i64 o]from rfl]at K;have L0:=(spot_new w pa pf ⟨k,m,z,s,t,o⟩ st ep 103).all;simp only[cellsP]at L0;obtain⟨x0,x1,x2,x3,x4,x5,x6,x7,x8,x9⟩:=L0;have F0:=belL w (.cells (cellsP pa pf ⟨k,m,z,s,t,o⟩ st ep) 103);simp only[cellsP]at F0;unfold aggP;simp only[cellsP]
 go_enter Tryz.func86,Tryz.ntmps86
 exact z36_3
theorem pdisk_any(hg:g.Wf)(hst:(Lit.int .i64 st).wf=true){sh:Int}(hsh:(Lit.int .i64 sh).wf=true){x:Int}(hx:diG g st sh=x):Calls Tryz.prog 87 #[aggP pa pf g st ep,.int .i64 sh] w fun e w'=>e= .returned (.int .i64 x)/\Below w.heap.size w w':=by
 have K:=fun W=>@ldisk_any W g hg st sh hst hsh x hx
 clear hx;obtain⟨k,m,z,s,t,o⟩:=g;rw[show aggG ⟨k,m,z,s,t,o⟩= .agg #[.int .i64 k,.int .i64 m,.int .i64 z,.int .i64 s,.int .i64 t,.int .i64 o]from rfl]at K;have L0:=(spot_new w pa pf ⟨k,m,z,s,t,o⟩ st ep 103).all;simp only[cellsP]at L0;obtain⟨x0,x1,x2,x3,x4,x5,x6,x7,x8,x9⟩:=L0;have F0:=belL w (.cells (cellsP pa pf ⟨k,m,z,s,t,o⟩ st ep) 103);simp only[cellsP]at F0;unfold aggP;simp only[cellsP]
 go_enter Tryz.func87,Tryz.ntmps87
 exact z36_3
end
def IdxB(w:World)(bs:List Bool)(e:Ending)(w':World):Prop:=∃z:Int,e= .returned (.int .i64 z)/\(0<=z↔false∈bs)/\w'=w
theorem idxb_any{w:World}{v:Value}{bs:List Bool}(h:RdB w v bs)(hl:bs.length<=1000):Calls Tryz.prog 123 #[v,.bool false] w (IdxB w bs):=by
 obtain⟨a,c,rfl⟩:=h.form;have H:Hid (RdB w (.slice a bs.length c) bs):=h;clear h
 go_enter Tryz.func123,Tryz.ntmps123
 go_wp2
 go_loopw [8] (fun i wr=>∃r:Nat,r<=bs.length/\i= .int .i64 (r:Int)/\wr=w/\∀j,j<r->hb bs j=true) (fun i _=>bs.length-(intOf i).toNat)
 case atStart=>exact⟨0,Nat.zero_le _,rfl,rfl,fun j hj=>absurd hj (Nat.not_lt_zero _)⟩
 case round=>
  obtain⟨r,hr,rfl,rfl,hall⟩:=hrel
  by_cases hlt:r<bs.length
  ·have hlt':(r:Int)<(bs.length:Int):=by omega
   have g1:IntKind.i64.wrap ((r:Int)+1)=((r+1:Nat):Int):=Zw
   obtain⟨b,off,rfl,_,cx⟩:=H.out.at hlt;cases hx:hb bs r with
   |false=>
    rw[hx]at cx;have E:Hid (false∈bs):=by
     show _∈_
     rw[<-hx];unfold hb;rw[show bs.getD r false=bs[r] by simp[List.getD,hlt]];exact List.getElem_mem hlt
    clear hall hx;go_wp2;go_ret;exact⟨_,rfl,⟨fun _=>E.out,fun _=>Zo⟩,rfl⟩
   |true=>
    rw[hx]at cx;have E:Hid (∀j,j<r+1->hb bs j=true):=fun j hj=>by
     by_cases e:j=r
     ·rw[e];exact hx
     ·exact hall j Zo
    clear hall hx;go_wp2;go_roundw
    case rel=>exact⟨r+1,Zo,Zg,by first|rfl|trivial,E.out⟩
    case measure=>simp[intOf];omega
  ·obtain rfl:r=bs.length:=by omega
   have hlt':¬(bs.length:Int)<(bs.length:Int):=Zo
   have E:Hid (¬false∈bs):=fun hm=>by
    obtain⟨j,hj,e⟩:=List.getElem_of_mem hm;have:=hall j hj;unfold hb at this;rw[show bs.getD j false=bs[j] by simp[List.getD,hj],e]at this;cases this
   clear hall;go_wp2;go_ret;exact⟨_,rfl,⟨fun h=>Zo,fun h=>absurd h E.out⟩,rfl⟩
theorem contb_any{w:World}{v:Value}{bs:List Bool}(h:RdB w v bs)(hl:bs.length<=1000):Calls Tryz.prog 84 #[v,.bool false] w fun e w'=>e= .returned (.bool (decide (false∈bs)))/\w'=w:=by
 have K:=idxb_any h hl;obtain⟨a,c,rfl⟩:=h.form;clear h
 by_cases hm:false∈bs
 ·rw[decide_eq_true hm]
  go_enter Tryz.func84,Tryz.ntmps84
  go_wp2_with fail
  refine K.mono ?_
  rintro _ wq ⟨z,rfl,hz,hwq⟩;rw[hwq];have z1:z>=0:=hz.2 hm;clear hwq wq K hz hm;go_wp2;go_ret;exact⟨rfl,rfl⟩
 ·rw[decide_eq_false hm]
  go_enter Tryz.func84,Tryz.ntmps84
  go_wp2_with fail
  refine K.mono ?_
  rintro _ wq ⟨z,rfl,hz,hwq⟩;rw[hwq];have z1:z<0:=by
   by_cases q:0<=z
   ·exact absurd (hz.1 q) hm
   ·omega
  have z2:¬0<=z:=Zo
  have z3:decide (0<=z)=false:=decide_eq_false z2;clear hwq wq K hz hm;go_wp2;go_ret;exact⟨rfl,rfl⟩
def rfX(g:GeoS)(bs:List Bool):Int:=if okG g then (if false∈bs then 1 else 0)else 50
section
variable {w:World} {g:GeoS} {st ep:Int}
theorem z36_2{p:Prop} (h:p:=by
 subst hx;clear hm
 go_enter Tryz.func49,Tryz.ntmps49
 go_wp2_with fail
 refine(KC _).mono ?_
 rintro _ w1 ⟨rfl,B1⟩;have F1:=F0.stepL B1 F0.size;have K1:=KK _ (hb.below F1);clear KC KK B1 F0 x0 x1 x2 x3 x4 x5 x6 x7 x8 x9
 go_wp2_with fail
 refine K1.mono ?_
 rintro _ wq ⟨rfl,hwq⟩;rw[hwq];clear hwq wq K1;go_wp2;go_ret;exact⟨rfl,F1⟩
 ):p:=h
theorem pref_any{ab fb:Nat}(hg:g.Wf){v:Value}{bs:List Bool}(hb:RdB w v bs)(hl:bs.length<=1000){x:Int}(hx:rfX g bs=x):Calls Tryz.prog 49 #[aggP (some ⟨ab,0,none⟩) (some ⟨fb,0,none⟩) g st ep,v] w fun e w'=>e= .returned (.int .i64 x)/\Below w.heap.size w w':=by
 have KC:=fun W=>@lcheck_any W g hg _ rfl
 have KK:=fun W (h:RdB W v bs)=>contb_any h hl
 by_cases ok:okG g
 ·have ec:chG g=0:=if_pos ok;rw[ec]at KC;have ex:rfX g bs=if false∈bs then 1 else 0:=if_pos ok
  rw[ex]at hx;clear ec ex ok;obtain⟨k,m,z,s,t,o⟩:=g;rw[show aggG ⟨k,m,z,s,t,o⟩= .agg #[.int .i64 k,.int .i64 m,.int .i64 z,.int .i64 s,.int .i64 t,.int .i64 o]from rfl]at KC;have L0:=(spot_new w (some ⟨ab,0,none⟩) (some ⟨fb,0,none⟩) ⟨k,m,z,s,t,o⟩ st ep 103).all;simp only[cellsP]at L0;obtain⟨x0,x1,x2,x3,x4,x5,x6,x7,x8,x9⟩:=L0;have F0:=belL w (.cells (cellsP (some ⟨ab,0,none⟩) (some ⟨fb,0,none⟩) ⟨k,m,z,s,t,o⟩ st ep) 103);simp only[cellsP]at F0;unfold aggP;simp only[cellsP];obtain⟨va,vc,rfl⟩:=hb.form
  by_cases hm:false∈bs
  ·rw[decide_eq_true hm]at KK;rw[if_pos hm]at hx;exact z36_2
  ·rw[decide_eq_false hm]at KK;rw[if_neg hm]at hx;exact z36_2
 ·have ec:chG g=50:=if_neg ok;rw[ec]at KC;have ex:rfX g bs=50:=if_neg ok;rw[ex]at hx;subst hx;clear ec ex ok KK;obtain⟨k,m,z,s,t,o⟩:=g;rw[show aggG ⟨k,m,z,s,t,o⟩= .agg #[.int .i64 k,.int .i64 m,.int .i64 z,.int .i64 s,.int .i64 t,.int .i64 o]from rfl]at KC;have L0:=(spot_new w (some ⟨ab,0,none⟩) (some ⟨fb,0,none⟩) ⟨k,m,z,s,t,o⟩ st ep 103).all;simp only[cellsP]at L0;obtain⟨x0,x1,x2,x3,x4,x5,x6,x7,x8,x9⟩:=L0;have F0:=belL w (.cells (cellsP (some ⟨ab,0,none⟩) (some ⟨fb,0,none⟩) ⟨k,m,z,s,t,o⟩ st ep) 103);simp only[cellsP]at F0;unfold aggP;simp only[cellsP];obtain⟨va,vc,rfl⟩:=hb.form
  go_enter Tryz.func49,Tryz.ntmps49
  go_wp2_with fail
  refine(KC _).mono ?_
  rintro _ w1 ⟨rfl,B1⟩;have F1:=F0.stepL B1 F0.size;clear KC B1 F0 x0 x1 x2 x3 x4 x5 x6 x7 x8 x9;go_wp2;go_ret;exact⟨rfl,F1⟩
end
def MakesA15(w:World)(X:Int)(R:List (List UInt8))(B:List Nat)(e:Ending)(w':World):Prop:=∃va vb,e= .returned (.tuple #[va,vb,.int .i64 X])/\FarL w' w.heap.size va R/\OwnI w' w.heap.size 3 vb B/\Below w.heap.size w w'
theorem nilA15{w w':World}{x:Int}(b:Below w.heap.size w w'){X:Int}{R:List (List UInt8)}{B:List Nat}(h:X=x/\R=[]/\B=[]):MakesA15 w X R B (.returned (.tuple #[.slice none 0 0,.slice none 0 0,.int .i64 x])) w':=by
 obtain⟨rfl,rfl,rfl⟩:=h;exact⟨_,_,rfl,FarL.nil _ _,OwnI.nil _ _ _,b⟩
def MakesR15(w:World)(X:Int)(D:List UInt8)(B:List Nat)(e:Ending)(w':World):Prop:=∃vd vb,e= .returned (.tuple #[vd,vb,.int .i64 X])/\Rd w' vd D/\OwnI w' w.heap.size 3 vb B/\Below w.heap.size w w'
def MakesL15(w:World)(X:Int)(D:List UInt8)(B:List Nat)(e:Ending)(w':World):Prop:=∃vd vb,e= .returned (.tuple #[vd,vb,.int .i64 X])/\w'.ownsRow w.heap.size 5 1 vd D.length (D.map Gf.vb)/\OwnI w' w.heap.size 3 vb B/\Below w.heap.size w w'
structure TwoL(w:World)(gs gh n:Nat)(V:Nat->Value)(L:Nat->List UInt8)(H:Nat->Bool):Prop where
 rs:w.rowIs gs 36 n V
 rh:w.rowIs gh 4 n (fun i=>.bool (H i))
 each:∀i,i<n->Rd w (V i) (L i)
 as_:∀i,i<n->Apart gs (V i)
 ah:∀i,i<n->Apart gh (V i)
 ne:gs≠gh
 n1:n<=1000
section
variable {w w':World} {gs gh n:Nat} {V:Nat->Value} {L:Nat->List UInt8} {H:Nat->Bool}
theorem TwoL.below(h:TwoL w gs gh n V L H)(hb:Below w.heap.size w w'):TwoL w' gs gh n V L H:=
 ⟨h.rs.of_block (hb.block gs h.rs.lt),h.rh.of_block (hb.block gh h.rh.lt),fun i hi=>(h.each i hi).below hb,h.as_,h.ah,h.ne,h.n1⟩
theorem TwoL.congr{L':Nat->List UInt8}{H':Nat->Bool}(h:TwoL w gs gh n V L H)(eL:∀i,i<n->L i=L' i)(eH:∀i,i<n->H i=H' i):TwoL w gs gh n V L' H':=
 ⟨h.rs,h.rh.congr fun i hi=>by rw[eH i hi],fun i hi=>by rw[<-eL i hi];exact h.each i hi,h.as_,h.ah,h.ne,h.n1⟩
theorem TwoL.made(h1:w.rowIs gs 36 n (fun _=>.slice none 0 0))(h2:w.rowIs gh 4 n (fun _=>.bool false))(hne:gs≠gh)(hn:n<=1000):TwoL w gs gh n (fun _=>.slice none 0 0) (fun _=>[]) (fun _=>false):=
 ⟨h1,h2,fun _ _=>Or.inl ⟨none,0,rfl,rfl,Nat.zero_le _,fun _=>rfl⟩,fun _ _ x n c e=>by simp at e,fun _ _ x n c e=>by simp at e,hne,hn⟩
theorem FarV.apartB{v:Value}{k:Nat}(h:FarV w v)(hk:k<w.heap.size):Apart k v:=fun x n c e=>(h x n c e).imp id fun q hq=>by rw[hq]at q;omega
theorem TwoL.putS(h:TwoL w gs gh n V L H){x:Value}{p:List UInt8}(hx:Rd w x p)(hs:Apart gs x)(hh:Apart gh x)(r:Nat):TwoL (w.setCell ⟨gs,r,none⟩ x) gs gh n (fun i=>if i=r then x else V i) (fun i=>if i=r then p else L i) H:=by
 have O:Only gs w (w.setCell ⟨gs,r,none⟩ x):=(Only.refl gs w).setCell r x;refine⟨h.rs.set r x,h.rh.of_block (O.block gh (fun e=>h.ne e.symm)),fun i hi=>?_,fun i hi=>?_,fun i hi=>?_,h.ne,h.n1⟩
 ·show Rd _ (if i=r then x else V i) (if i=r then p else L i)
  split
  ·exact hx.only hs O
  ·exact(h.each i hi).only (h.as_ i hi) O
 ·show Apart gs (if i=r then x else V i)
  split
  ·exact hs
  ·exact h.as_ i hi
 ·show Apart gh (if i=r then x else V i)
  split
  ·exact hh
  ·exact h.ah i hi
theorem TwoL.putB(h:TwoL w gs gh n V L H)(r:Nat)(b:Bool):TwoL (w.setCell ⟨gh,r,none⟩ (.bool b)) gs gh n V L (fun i=>if i=r then b else H i):=by
 have O:Only gh w (w.setCell ⟨gh,r,none⟩ (.bool b)):=(Only.refl gh w).setCell r (.bool b);refine⟨h.rs.of_block (O.block gs h.ne),(h.rh.set r (.bool b)).congr fun i hi=>?_,fun i hi=>(h.each i hi).only (h.ah i hi) O,h.as_,h.ah,h.ne,h.n1⟩
 by_cases e:i=r
 ·simp[e]
 ·simp[e]
theorem TwoL.rsOf(h:TwoL w gs gh n V L H):Rs w (.slice (some ⟨gs,0,none⟩) n n) (mkL n L):=by
 have hl:(mkL n L).length=n:=mkL_length _ _;refine⟨some ⟨gs,0,none⟩,n,by rw[hl],by rw[hl];exact Nat.le_refl _,by unfold maxLen;have:=h.n1;omega,nofun,fun i hi=>?_⟩;rw[hl]at hi;exact⟨gs,0,V i,rfl,h.rs.lt,by rw[Nat.zero_add];exact h.rs.cell hi,by rw[ro_mkL hi];exact h.each i hi⟩
theorem TwoL.rdB(h:TwoL w gs gh n V L H):RdB w (.slice (some ⟨gh,0,none⟩) n n) ((List.range n).map H):=by
 have hl:((List.range n).map H).length=n:=Zs
 refine⟨some ⟨gh,0,none⟩,n,by rw[hl],by rw[hl];exact Nat.le_refl _,by unfold maxLen;have:=h.n1;omega,nofun,fun i hi=>?_⟩;rw[hl]at hi;exact⟨gh,0,rfl,h.rh.lt,by rw[Nat.zero_add,h.rh.cell hi];simp[hb,List.getD,hi]⟩
end
theorem FarL.only{w w':World}{base gh:Nat}{v:Value}{L:List (List UInt8)}(h:FarL w base v L)(ho:Only gh w w')(hg:gh<base):FarL w' base v L:=by
 obtain⟨T,u,vals,hv,hr⟩:=h;have kb:∀{e n:Nat} {x:Value} {xs:List Value},w.ownsRow base e 1 x n xs->w'.ownsRow base e 1 x n xs:=fun h=>owns_block h fun q hq=>ho.block q (fun e=>by have:=(World.ownsRow.lt h q hq).1;omega)
 exact⟨T,u,vals,kb hv,⟨fun i x hx=>kb (hr.own i x hx),hr.diff,hr.out⟩⟩
theorem OwnI.only{w w':World}{base e gh:Nat}{v:Value}{zs:List Nat}(h:OwnI w base e v zs)(ho:Only gh w w')(hg:gh<base):OwnI w' base e v zs:=owns_block h fun q hq=>ho.block q (fun e=>by have:=(World.ownsRow.lt h q hq).1;omega)
def ToldI(w:World)(G:Nat->Prop)(v:Value)(zs:List Nat):Prop:=∃a c,v= .slice a zs.length c/\(zs≠[]->∃b,a=some ⟨b,0,none⟩/\b<w.heap.size/\¬G b/\∀i,i<zs.length->w.cell? ⟨b,i,none⟩=some (.int .i64 ((zs.getD i 0:Nat):Int)))
section
variable {w w':World} {G G':Nat->Prop} {v:Value} {zs:List Nat}
theorem ToldI.of_own{base e:Nat}(h:OwnI w base e v zs)(hG:∀k,G k->k<base):ToldI w G v zs:=by
 obtain⟨a,c,rfl⟩:=h.form;refine⟨a,c,rfl,fun h0=>?_⟩;obtain⟨b,e1,h1,h2,_⟩:=h.cell (List.length_pos_iff.2 h0);refine⟨b,e1,h1,fun q=>by have:=hG b q;omega,fun i hi=>?_⟩;obtain⟨b',e2,_,_,h3⟩:=h.cell hi;rw[e1]at e2;simp at e2;rw[e2];exact h3
theorem ToldI.of_row{g t n:Nat}{f:Nat->Value}(h:w.rowIs g t n f)(hn:n=zs.length)(hf:∀i,i<zs.length->f i= .int .i64 ((zs.getD i 0:Nat):Int))(hg:¬G g):ToldI w G (.slice (some ⟨g,0,none⟩) n n) zs:=by
 subst hn;exact⟨_,_,rfl,fun _=>⟨g,rfl,h.lt,hg,fun i hi=>by rw[h.cell hi,hf i hi]⟩⟩
theorem ToldI.form(h:ToldI w G v zs):∃a c,v= .slice a zs.length c:=by
 obtain⟨a,c,e,_⟩:=h;exact⟨a,c,e⟩
theorem ToldI.grew(h:ToldI w G v zs)(g:Grew G w G' w'):ToldI w' G' v zs:=by
 obtain⟨a,c,e,h⟩:=h;refine⟨a,c,e,fun h0=>?_⟩;obtain⟨b,e1,h1,h2,h3⟩:=h h0;exact⟨b,e1,Nat.lt_of_lt_of_le h1 g.turn.size,g.off h1 h2,fun i hi=>(g.turn.cell (p:=⟨b,i,none⟩) h1 h2).trans (h3 i hi)⟩
theorem ToldI.below(h:ToldI w G v zs)(hb:Below w.heap.size w w'):ToldI w' G v zs:=h.grew (Grew.of_below hb)
theorem ToldI.at{a:Option Addr}{n c:Nat}(h:ToldI w G (.slice a n c) zs){i:Nat}(hi:i<zs.length):∃b,a=some ⟨b,0,none⟩/\b<w.heap.size/\¬G b/\w.cell? ⟨b,i,none⟩=some (.int .i64 ((zs.getD i 0:Nat):Int)):=by
 obtain⟨a',c',e,h⟩:=h;simp at e;obtain⟨rfl,_⟩:=e;obtain⟨b,e1,h1,h2,h3⟩:=h (fun e=>by rw[e]at hi;simp at hi);exact⟨b,e1,h1,h2,h3 i hi⟩
end
structure ToldL(w:World)(G:Nat->Prop)(v:Value)(L:List (List UInt8)):Prop where
 rs:Rs w v L
 ap:∀(b off n c:Nat),v= .slice (some ⟨b,off,none⟩) n c->L.length=0∨¬G b
 each:∀(i b off n c:Nat) (x:Value),i<L.length->v= .slice (some ⟨b,off,none⟩) n c->w.cell? ⟨b,off+i,none⟩=some x->ApartG G x
section
variable {w w':World} {G G':Nat->Prop} {v:Value} {L:List (List UInt8)}
theorem ToldL.spot(h:ToldL w G v L){i b off n c:Nat}(hi:i<L.length)(e:v= .slice (some ⟨b,off,none⟩) n c):∃xa xc,w.cell? ⟨b,off+i,none⟩=some (.slice xa (ro L i).length xc)/\Told w G (.slice xa (ro L i).length xc) (ro L i)/\b<w.heap.size/\¬G b:=by
 have hr:=h.rs;subst e;obtain⟨b',off',xa,xc,e1,hb,hc,hR⟩:=hr.at hi;simp at e1;obtain⟨rfl,rfl⟩:=e1;exact⟨xa,xc,hc,⟨hR,h.each i _ _ _ _ _ hi rfl hc⟩,hb,(h.ap _ _ _ _ rfl).resolve_left Zo⟩
theorem ToldL.keep(h:ToldL w G v L)(hs:w.heap.size<=w'.heap.size)(hc:∀k,k<w.heap.size->¬G k->w'.heap[k]? =w.heap[k]?)(hG:∀k,k<w.heap.size->¬G k->¬G' k)(hR:∀x p,Told w G x p->Told w' G' x p):ToldL w' G' v L:=by
 have hr:=h.rs;obtain⟨a,cap,h1,h2,h3,h4,h5⟩:=hr;have cell:∀i b off,i<L.length->a=some ⟨b,off,none⟩->w'.cell? ⟨b,off+i,none⟩=w.cell? ⟨b,off+i,none⟩:=fun i b off hi e=>by
  obtain⟨_,_,_,_,hb,hg⟩:=h.spot hi (h1.trans (by rw[e]));exact World.cell?_of_block (w:=w) (hc b hb hg)
 refine⟨⟨a,cap,h1,h2,h3,h4,fun i hi=>?_⟩,fun b off n c e=>?_,fun i b off n c x hi e hx=>?_⟩
 ·obtain⟨b,off,x,k1,k2,k3,k4⟩:=h5 i hi;exact⟨b,off,x,k1,Nat.lt_of_lt_of_le k2 hs,(cell i b off hi k1).trans k3,(hR x _ ⟨k4,h.each i b off _ _ x hi (h1.trans (by rw[k1])) k3⟩).rd⟩
 ·rcases Nat.eq_zero_or_pos L.length with e0|e0
  ·exact Or.inl e0
  ·obtain⟨_,_,_,_,hb,hg⟩:=h.spot e0 e;exact Or.inr (hG b hb hg)
 ·have ea:a=some ⟨b,off,none⟩:=by
   rw[h1]at e;simp at e;exact e.1
  rw[cell i b off hi ea]at hx;obtain⟨xa,xc,hc2,hT,_⟩:=h.spot hi e;rw[hx]at hc2;simp at hc2;subst hc2;exact(hR _ _ hT).ap
theorem ToldL.below(h:ToldL w G v L)(hb:Below w.heap.size w w'):ToldL w' G v L:=h.keep hb.size (fun k hk _=>hb.block k hk) (fun _ _ hg=>hg) (fun x p t=>t.below hb)
theorem ToldL.grew(h:ToldL w G v L)(g:Grew G w G' w'):ToldL w' G' v L:=h.keep g.turn.size (fun k hk hg=>g.turn.block k hk hg) (fun k hk hg=>g.off hk hg) (fun x p t=>t.grew g)
theorem ToldL.turn(h:ToldL w G v L)(t:TurnG G w w'):ToldL w' G v L:=h.grew (Grew.of_turn t)
theorem ToldL.far{base:Nat}(h:FarL w base v L)(hG:∀k,G k->k<base):ToldL w G v L:=by
 have hr:=h.rs;obtain⟨T,u,vals,hv,ho⟩:=h;have hlen:vals.length=L.length:=by have:=hv.1;omega
 refine⟨hr,fun b off n c e=>?_,fun i b off n c x hi e hx=>?_⟩
 ·refine Or.inr fun hg=>?_
  have:=World.ownsRow.lt hv b (by rw[e];rfl);have:=hG b hg;omega
 ·obtain⟨_,⟨e2,hn⟩|⟨g,cap,cur,e2,hgg,hh,hc,hm,hs,ht⟩⟩:=id hv
  ·omega
  ·rw[e]at e2;simp at e2;obtain⟨⟨rfl,rfl⟩,rfl,rfl⟩:=e2;rw[e]at hv;rw[Nat.zero_add,World.ownsRow.cellAt hv i Zo]at hx;have hp:=ho.own i x hx;exact ApartG.own hp (fun k hk=>hG k hk)
end
def wnT(a:ArS)(g:GeoS)(st ep:Int)(R:List (List UInt8))(B:List Nat):Nat:=if pcT a g st ep R B=true then 0 else pnT a g st ep R B B.length
def wxT(a:ArS)(g:GeoS)(st ep:Int)(R:List (List UInt8))(B:List Nat):Int:=if pcT a g st ep R B=true then 130 else 0
theorem wf_small{x:Int}(h0:0<=x)(h1:x<=100000):(Lit.int .i64 x).wf=true:=by
 simp[Lit.wf,IntKind.min,IntKind.max,IntKind.signed,IntKind.bits];omega
theorem getD_memN{B:List Nat}{r:Nat}(h:r<B.length):B.getD r 0∈B:=by
 rw[show B.getD r 0=B[r] by simp[List.getD,h]];exact List.getElem_mem h
theorem z36_1{p:Prop} (h:p:=by
 go_wp2_with fail
 go_region_held3 (fun wx=>wx.cell? ⟨xb,xo+sh,none⟩=some (.slice xa LN xc)/\wx.cell? ⟨w.heap.size,0,none⟩=some (.pointer (some ⟨ab,0,none⟩))/\wx.cell? ⟨w.heap.size,1,none⟩=some (.pointer pf)/\wx.cell? ⟨w.heap.size,2,none⟩=some (.int .i64 k)/\wx.cell? ⟨w.heap.size,3,none⟩=some (.int .i64 m)/\wx.cell? ⟨w.heap.size,4,none⟩=some (.int .i64 z)/\wx.cell? ⟨w.heap.size,5,none⟩=some (.int .i64 s)/\wx.cell? ⟨w.heap.size,6,none⟩=some (.int .i64 t)/\wx.cell? ⟨w.heap.size,7,none⟩=some (.int .i64 o)/\wx.cell? ⟨w.heap.size,8,none⟩=some (.int .i64 st)/\wx.cell? ⟨w.heap.size,9,none⟩=some (.int .i64 ep)) (first|exact s0|exact sD|exact s1|exact s2) (first
  |(go_at_call 86;go_loud (refine(KP _).mono ?_);rintro _ v1 ⟨rfl,b1⟩;go_loud (have s1:=SB.out _ b1);go_loud (have E1:Hid (Below wr.heap.size wr v1):=BD.stepL b1 BD.size))
  |(go_at_call 85;go_loud (refine(KK1 _ (RX.out _ E1.out)).mono ?_);rintro _ v2 ⟨vp,rfl,R2,b2⟩;have E2:Hid (Below wr.heap.size wr v2):=E1.out.stepL b2 E1.out.size;have s2:=SE.out _ E2.out;obtain⟨pa,pc,rfl⟩:=R2.form))
 have HR2:Hid (Rd v2 (.slice pa pk.length pc) pk):=R2;have c2:=s2.2;clear s0 sD s1 s2 b1 b2 R2 E1;obtain⟨LP,hLP⟩:∃LP,Hid (LP=pk.length):=⟨_,rfl⟩;rw[<-hLP.out]at HR2 ⊢;have d2:=(SE.out _ (E2.out.drew)).2;have BD2:Hid (Below wr.heap.size wr v2.drew):=E2.out.drew
 go_wp2_with fail
 go_region_held3 (fun wx=>wx.cell? ⟨w.heap.size,0,none⟩=some (.pointer (some ⟨ab,0,none⟩))/\wx.cell? ⟨w.heap.size,1,none⟩=some (.pointer pf)/\wx.cell? ⟨w.heap.size,2,none⟩=some (.int .i64 k)/\wx.cell? ⟨w.heap.size,3,none⟩=some (.int .i64 m)/\wx.cell? ⟨w.heap.size,4,none⟩=some (.int .i64 z)/\wx.cell? ⟨w.heap.size,5,none⟩=some (.int .i64 s)/\wx.cell? ⟨w.heap.size,6,none⟩=some (.int .i64 t)/\wx.cell? ⟨w.heap.size,7,none⟩=some (.int .i64 o)/\wx.cell? ⟨w.heap.size,8,none⟩=some (.int .i64 st)/\wx.cell? ⟨w.heap.size,9,none⟩=some (.int .i64 ep)) (first|exact c2|exact d2|exact c3|exact c4|exact c5) (first
  |(go_at_call 87;go_loud (refine(KD1 _).mono ?_);rintro _ v3 ⟨rfl,b3⟩;have E3:Hid (Below wr.heap.size wr v3):=BD2.out.stepL b3 BD2.out.size;have c3:=(SE.out _ E3.out).2)
  |(go_at_call 86;go_loud (refine(KP _).mono ?_);rintro _ v4 ⟨rfl,b4⟩;have E4:Hid (Below wr.heap.size wr v4):=E3.out.stepL b4 E3.out.size;have c4:=(SE.out _ E4.out).2;go_loud (have R4:=(HR2.out.below (E2D.out b3)).below b4))
  |(go_at_call 70;go_loud (refine(KW _ E4.out R4).mono ?_);rintro _ v5 ⟨rfl,G5,A5,g5⟩;go_loud (have c5:=ST.out _ _ _ E4.out g5)))
 have HA5:Hid _:=A5;have HG5:Hid (Grew GA W0 G5 v5):=hGr.trans ((Grew.of_below E4.out).trans g5);clear c2 d2 c3 c4 c5 b3 b4 R4 A5 g5 E2 E3 E4 BD2 KK1 KD1 KW HR2 hGr;go_wp2;go_roundw
 case rel=>exact⟨r+1,Zo,Zg,by rw[HP1.out]<;>first|rfl|go_num,rfl,⟨G5,by rw[<-e2.out];exact HA5.out,HG5.out⟩,H2.out⟩
 case measure=>simp[intOf];omega
 ):p:=h
theorem pwrite_any{w:World}{ab:Nat}{GA:Nat->Prop}{a:ArS}(h:ArAt w ab GA a){pf:Option Addr}{g:GeoS}(hg:g.Wf){st ep:Int}(hst:(Lit.int .i64 st).wf=true)(hT:OkT g st ep){vs vi:Value}{R:List (List UInt8)}{B:List Nat}(hR:ToldL w GA vs R)(hI:ToldI w GA vi B)(hB:∀i,i∈B->i<nT g/\i<R.length)(hrow:∀i,i<R.length->(ro R i).length<=4096)(hl:B.length<=1000):
  Calls Tryz.prog 52 #[aggP (some ⟨ab,0,none⟩) pf g st ep,vs,vi] w (LeavesA w ab GA (psT a g st ep R B B.length) (.tuple #[.int .i64 ((wnT a g st ep R B:Nat):Int),.int .i64 (wxT a g st ep R B)])):=by
 have zz:=okG_nat hT.1;have sin:=stG_in hT.1 hT.2.1 hT.2.2.1;obtain⟨at_,t0⟩:∃x,Hid (x=stG g st):=⟨_,rfl⟩;rw[<-t0.out]at sin;obtain⟨AR,hAR⟩:∃AR:Nat->ArS,Hid (AR=psT a g st ep R B):=⟨_,rfl⟩;obtain⟨PN,hPN⟩:∃PN:Nat->Nat,Hid (PN=pnT a g st ep R B):=⟨_,rfl⟩;have AR0:Hid (AR 0=a):=by show _=_;rw[hAR.out];rfl
 have PN0:Hid (PN 0=0):=by show _=_;rw[hPN.out];rfl
 have ARs:Hid (∀r,AR (r+1)=puS (AR r) g st ep (B.getD r 0) (ro R (B.getD r 0))):=fun r=>by rw[hAR.out];rfl
 have PNs:Hid (∀r,PN (r+1)=PN r+(if puX (AR r) g st ep (B.getD r 0) (ro R (B.getD r 0))=0 then 1 else 0)):=fun r=>by rw[hPN.out,hAR.out];rfl
 have SX:Hid (∀r,r<B.length->(AR r).off=true->wnT a g st ep R B=0/\wxT a g st ep R B=130/\psT a g st ep R B B.length=AR r):=fun r hr ho=>by
  rw[hAR.out]at ho ⊢;obtain⟨q1,q2⟩:=pc_at hr ho;exact⟨if_pos q1,if_pos q1,q2⟩
 have SN:Hid ((∀r,r<B.length->(AR r).off=false)->wnT a g st ep R B=PN B.length/\wxT a g st ep R B=0/\psT a g st ep R B B.length=AR B.length):=fun ho=>by
  have q1:¬pcT a g st ep R B=true:=by rw[pc_end (fun i hi=>by rw[<-hAR.out];exact ho i hi)];decide
  exact⟨by rw[hPN.out];exact if_neg q1,if_neg q1,by rw[hAR.out]⟩
 have PNle:Hid (∀r,r<=1001->PN r<=r):=fun r _=>by
  rw[hPN.out]
  induction r with
  |zero=>exact Nat.le_refl _
  |succ r ih=>
   have:=ih Zo
   show pnT a g st ep R B r+_<=_
   split<;>omega
 have KP:=fun W=>@pplace_any W (some ⟨ab,0,none⟩) pf g st ep hg hst _ t0.out.symm
 have KD:=fun W (i:Nat) (hi:i<nT g)=>@pdisk_any W (some ⟨ab,0,none⟩) pf g st ep hg hst (i:Int) (wf_small Zo (by have:=zz.2.2.2.2.1;omega)) _ rfl
 have KK:=fun W (v:Value) (b:List UInt8) (hb:b.length<=4096) (hr:Rd W v b)=>spack_any (a:=at_) (e:=ep) hr
 have KX:Hid (∀b:List UInt8,b.length<=4096->paX at_ ep b=0/\paR at_ ep b=pkT g st ep b):=fun b hb=>by
  rw[t0.out];exact pa_ok (hT.se hb)
 have DI:Hid (∀i:Nat,i<nT g->0<=diG g st (i:Int)/\diG g st (i:Int)<=100000):=fun i hi=>by
  have:=diG_in hT.1 hT.2.1 hT.2.2.1 hi;have:=zz.2.2.2.2.1;omega
 have EX:Hid (∀r,puX (AR r) g st ep (B.getD r 0) (ro R (B.getD r 0))=wrAX (AR r) (diG g st ((B.getD r 0:Nat):Int)) at_ (pkT g st ep (ro R (B.getD r 0)))):=fun r=>by rw[t0.out];rfl
 have ES:Hid (∀r,puS (AR r) g st ep (B.getD r 0) (ro R (B.getD r 0))=wrAS (AR r) (diG g st ((B.getD r 0:Nat):Int)) at_ (pkT g st ep (ro R (B.getD r 0)))):=fun r=>by rw[t0.out];rfl
 have wat:(Lit.int .i64 at_).wf=true:=wf_small Zo Zo;have HB:Hid (∀i,i∈B->i<nT g/\i<R.length):=hB;have Hrow:Hid (∀i,i<R.length->(ro R i).length<=4096):=hrow;have HGA:Hid (∀k,GA k->k<w.heap.size):=h.lt;clear zz sin t0 hAR hPN hB hrow hT;obtain⟨DG,hDG⟩:∃DG:Nat->Int,Hid (DG=fun i:Nat=>diG g st (i:Int)):=⟨_,rfl⟩;have KD':∀W (i:Nat),i<nT g->Calls Tryz.prog 87 #[aggP (some ⟨ab,0,none⟩) pf g st ep,.int .i64 (i:Int)] W fun e w'=>e= .returned (.int .i64 (DG i))/\Below W.heap.size W w':=fun W i hi=>by rw[hDG.out];exact KD W i hi
 have DI':Hid (∀i:Nat,i<nT g->0<=DG i/\DG i<=100000):=by rw[hDG.out];exact DI
 have EX':Hid (∀r,puX (AR r) g st ep (B.getD r 0) (ro R (B.getD r 0))=wrAX (AR r) (DG (B.getD r 0)) at_ (pkT g st ep (ro R (B.getD r 0)))):=by rw[hDG.out];exact EX
 have ES':Hid (∀r,puS (AR r) g st ep (B.getD r 0) (ro R (B.getD r 0))=wrAS (AR r) (DG (B.getD r 0)) at_ (pkT g st ep (ro R (B.getD r 0)))):=by rw[hDG.out];exact ES
 clear KD DI EX ES hDG;obtain⟨k,m,z,s,t,o⟩:=g;obtain⟨fin1,hf1⟩:∃x,Hid (x=psT a ⟨k,m,z,s,t,o⟩ st ep R B B.length):=⟨_,rfl⟩;obtain⟨fin2,hf2⟩:∃x,Hid (x=wnT a ⟨k,m,z,s,t,o⟩ st ep R B):=⟨_,rfl⟩;obtain⟨fin3,hf3⟩:∃x,Hid (x=wxT a ⟨k,m,z,s,t,o⟩ st ep R B):=⟨_,rfl⟩;rw[<-hf1.out,<-hf2.out,<-hf3.out];have LB:=spot_laid w (some ⟨ab,0,none⟩) pf ⟨k,m,z,s,t,o⟩ st ep 103;unfold aggP at KP KD' ⊢;simp only[cellsP]at KP KD' LB ⊢;obtain⟨sa,sc,rfl⟩:=hR.rs.form;obtain⟨ia,ic,rfl⟩:=hI.form;obtain⟨W0,hW0⟩:∃W0,W0=w.alloc (.cells #[.pointer (some ⟨ab,0,none⟩),.pointer pf,.int .i64 k,.int .i64 m,.int .i64 z,.int .i64 s,.int .i64 t,.int .i64 o,.int .i64 st,.int .i64 ep] 103):=⟨_,rfl⟩;rw[<-hW0]at LB;obtain⟨SP0,F0⟩:=LB _ (Below.refl _ _);have HSP:Hid (SpotAt W0 w.heap.size (some ⟨ab,0,none⟩) pf ⟨k,m,z,s,t,o⟩ st ep/\¬GA w.heap.size):=⟨SP0,fun q=>Nat.lt_irrefl _ (HGA.out _ q)⟩;have TL:Hid (ToldL W0 GA (.slice sa R.length sc) R):=hR.below F0;have TI:Hid (ToldI W0 GA (.slice ia B.length ic) B):=hI.below F0;have A0:Hid (ArAt W0 ab GA (AR 0)):=by rw[AR0.out];exact h.below F0
 have G0:Hid (Grew GA w GA W0):=Grew.of_below F0;clear LB SP0 F0 hR hI h
 go_enter Tryz.func52,Tryz.ntmps52
 go_wp2_with fail
 rw[<-hW0];clear hW0;go_step3
 go_wp2_with fail
 go_step3
 go_wp2_with fail
 go_loopw [8,9,16] (fun wn wt i wr=>∃r:Nat,r<=B.length/\i= .int .i64 (r:Int)/\wn= .int .i64 ((PN r:Nat):Int)/\wt= .int .i64 0/\(∃G',ArAt wr ab G' (AR r)/\Grew GA W0 G' wr)/\∀j,j<r->(AR j).off=false) (fun _ _ i _=>B.length-(intOf i).toNat)
 case atStart=>exact⟨0,Nat.zero_le _,rfl,by rw[PN0.out];rfl,rfl,⟨GA,A0.out,Grew.refl _ _⟩,fun j hj=>absurd hj (Nat.not_lt_zero _)⟩
 case round=>
  clear A0;obtain⟨r,hr,rfl,rfl,rfl,⟨G',hA,hGr⟩,hoff⟩:=hrel;obtain⟨pn,hpn⟩:∃pn,Hid (PN r=pn):=⟨_,rfl⟩;rw[hpn.out]
  by_cases hlt:r<B.length
  ·have hlt':(r:Int)<(B.length:Int):=by omega
   have g1:IntKind.i64.wrap ((r:Int)+1)=((r+1:Nat):Int):=Zw
   obtain⟨sh,hsh⟩:∃sh,Hid (B.getD r 0=sh):=⟨_,rfl⟩;obtain⟨hsn,hsR⟩:Hid (sh<nT ⟨k,m,z,s,t,o⟩)/\sh<R.length:=by
    have:=HB.out _ (getD_memN hlt);rw[hsh.out]at this;exact this
   have hsR':(sh:Int)<(R.length:Int):=Zo
   obtain⟨ib,rfl,_,_,ci⟩:=(TI.out.grew hGr).at hlt;rw[hsh.out]at ci;obtain⟨xb,xo,esx⟩:∃xb xo,sa=some ⟨xb,xo,none⟩:=by
    obtain⟨b,off,_,_,e,_⟩:=TL.out.rs.at hsR;exact⟨b,off,e⟩
   subst esx;obtain⟨xa,xc,cx,Tx,xlt,xng⟩:=(TL.out.grew hGr).spot hsR rfl;obtain⟨LN,hLN⟩:∃LN,Hid (LN=(ro R sh).length):=⟨_,rfl⟩;rw[<-hLN.out]at cx Tx;have ng:Hid (¬G' w.heap.size):=hGr.off HSP.out.1.lt HSP.out.2;have SPr:Hid (SpotAt wr w.heap.size (some ⟨ab,0,none⟩) pf ⟨k,m,z,s,t,o⟩ st ep):=HSP.out.1.turn HSP.out.2 hGr.turn;have BD:Below wr.heap.size wr wr.drew:=(Below.refl _ _).drew;have SE:Hid (∀W,Below wr.heap.size wr W->W.cell? ⟨xb,xo+sh,none⟩=some (.slice xa LN xc)/\W.cell? ⟨w.heap.size,0,none⟩=some (.pointer (some ⟨ab,0,none⟩))/\W.cell? ⟨w.heap.size,1,none⟩=some (.pointer pf)/\W.cell? ⟨w.heap.size,2,none⟩=some (.int .i64 k)/\W.cell? ⟨w.heap.size,3,none⟩=some (.int .i64 m)/\W.cell? ⟨w.heap.size,4,none⟩=some (.int .i64 z)/\W.cell? ⟨w.heap.size,5,none⟩=some (.int .i64 s)/\W.cell? ⟨w.heap.size,6,none⟩=some (.int .i64 t)/\W.cell? ⟨w.heap.size,7,none⟩=some (.int .i64 o)/\W.cell? ⟨w.heap.size,8,none⟩=some (.int .i64 st)/\W.cell? ⟨w.heap.size,9,none⟩=some (.int .i64 ep)):=fun W b=>⟨(b.cell (p:=⟨xb,xo+sh,none⟩) xlt).trans cx,(SPr.out.below SPr.out.lt b).all⟩
   have SB:Hid (∀W,Below wr.drew.heap.size wr.drew W->W.cell? ⟨xb,xo+sh,none⟩=some (.slice xa LN xc)/\W.cell? ⟨w.heap.size,0,none⟩=some (.pointer (some ⟨ab,0,none⟩))/\W.cell? ⟨w.heap.size,1,none⟩=some (.pointer pf)/\W.cell? ⟨w.heap.size,2,none⟩=some (.int .i64 k)/\W.cell? ⟨w.heap.size,3,none⟩=some (.int .i64 m)/\W.cell? ⟨w.heap.size,4,none⟩=some (.int .i64 z)/\W.cell? ⟨w.heap.size,5,none⟩=some (.int .i64 s)/\W.cell? ⟨w.heap.size,6,none⟩=some (.int .i64 t)/\W.cell? ⟨w.heap.size,7,none⟩=some (.int .i64 o)/\W.cell? ⟨w.heap.size,8,none⟩=some (.int .i64 st)/\W.cell? ⟨w.heap.size,9,none⟩=some (.int .i64 ep)):=fun W b=>SE.out W (BD.stepL b BD.size)
   have s0:=SE.out wr (Below.refl _ _);have sD:=SE.out _ BD;have RX:Hid (∀W,Below wr.heap.size wr W->Rd W (.slice xa LN xc) (ro R sh)):=fun W b=>Tx.rd.below b
   obtain⟨pk,hpk⟩:∃pk,Hid (pk=pkT ⟨k,m,z,s,t,o⟩ st ep (ro R sh)):=⟨_,rfl⟩;have KK1:∀W,Rd W (.slice xa LN xc) (ro R sh)->Calls Tryz.prog 85 #[.int .i64 at_,.int .i64 ep,.slice xa LN xc] W (MakesS W 0 pk):=fun W hr=>by
    have:=KK W _ (ro R sh) (Hrow.out _ hsR) hr;rw[(KX.out _ (Hrow.out _ hsR)).1,(KX.out _ (Hrow.out _ hsR)).2,<-hpk.out]at this;exact this
   have KD1:=fun W=>KD' W sh hsn
   obtain⟨dd,hdd⟩:∃dd,Hid (dd=DG sh):=⟨_,rfl⟩;rw[<-hdd.out]at KD1;have wdd:(Lit.int .i64 dd).wf=true:=by rw[hdd.out];exact wf_small (DI'.out sh hsn).1 (DI'.out sh hsn).2
   obtain⟨px,hpx⟩:∃px,Hid (puX (AR r) ⟨k,m,z,s,t,o⟩ st ep sh (ro R sh)=px):=⟨_,rfl⟩;obtain⟨AN,hAN⟩:∃AN,Hid (puS (AR r) ⟨k,m,z,s,t,o⟩ st ep sh (ro R sh)=AN):=⟨_,rfl⟩;have KW:∀W,Below wr.heap.size wr W->∀{pa:Option Addr} {pc LP:Nat},Rd W (.slice pa LP pc) pk->Calls Tryz.prog 70 #[.pointer (some ⟨ab,0,none⟩),.int .i64 dd,.int .i64 at_,.slice pa LP pc] W (LeavesA W ab G' AN (.int .i64 px)):=fun W b _ _ _ hp=>by
    have:=awrite_any (hA.below b) wdd wat hp;have e1:=EX'.out r;have e2:=ES'.out r;rw[hsh.out,<-hdd.out,<-hpk.out,hpx.out]at e1;rw[hsh.out,<-hdd.out,<-hpk.out,hAN.out]at e2;rw[<-e1,<-e2]at this;exact this
   have ST:Hid (∀W G5 W5,Below wr.heap.size wr W->Grew G' W G5 W5->W5.cell? ⟨w.heap.size,0,none⟩=some (.pointer (some ⟨ab,0,none⟩))/\W5.cell? ⟨w.heap.size,1,none⟩=some (.pointer pf)/\W5.cell? ⟨w.heap.size,2,none⟩=some (.int .i64 k)/\W5.cell? ⟨w.heap.size,3,none⟩=some (.int .i64 m)/\W5.cell? ⟨w.heap.size,4,none⟩=some (.int .i64 z)/\W5.cell? ⟨w.heap.size,5,none⟩=some (.int .i64 s)/\W5.cell? ⟨w.heap.size,6,none⟩=some (.int .i64 t)/\W5.cell? ⟨w.heap.size,7,none⟩=some (.int .i64 o)/\W5.cell? ⟨w.heap.size,8,none⟩=some (.int .i64 st)/\W5.cell? ⟨w.heap.size,9,none⟩=some (.int .i64 ep)):=fun W G5 W5 b gg=>((SPr.out.below SPr.out.lt b).turn ng.out gg.turn).all
   have E2D:Hid (∀{v2 v3:World},Below v2.drew.heap.size v2.drew v3->Below v2.heap.size v2 v3):=fun b=>((Below.refl _ _).drew).stepL b (Nat.le_refl _)
   have HARs:Hid _:=ARs.out r;have HPNs:Hid _:=PNs.out r;rw[hsh.out]at HARs HPNs;clear cx Tx hA xlt xng wdd
   by_cases ho:(AR r).off=true
   ·have e1:px=130:=by rw[<-hpx.out];exact puX_crash.2 ho
    have e2:Hid (AN=AR r):=by show _=_;rw[<-hAN.out];exact puS_off ho _ _
    have E9:Hid _:=SX.out r hlt ho;clear ho hoff;subst e1
    go_wp2_with fail
    go_region_held3 (fun wx=>wx.cell? ⟨xb,xo+sh,none⟩=some (.slice xa LN xc)/\wx.cell? ⟨w.heap.size,0,none⟩=some (.pointer (some ⟨ab,0,none⟩))/\wx.cell? ⟨w.heap.size,1,none⟩=some (.pointer pf)/\wx.cell? ⟨w.heap.size,2,none⟩=some (.int .i64 k)/\wx.cell? ⟨w.heap.size,3,none⟩=some (.int .i64 m)/\wx.cell? ⟨w.heap.size,4,none⟩=some (.int .i64 z)/\wx.cell? ⟨w.heap.size,5,none⟩=some (.int .i64 s)/\wx.cell? ⟨w.heap.size,6,none⟩=some (.int .i64 t)/\wx.cell? ⟨w.heap.size,7,none⟩=some (.int .i64 o)/\wx.cell? ⟨w.heap.size,8,none⟩=some (.int .i64 st)/\wx.cell? ⟨w.heap.size,9,none⟩=some (.int .i64 ep)) (first|exact s0|exact sD|exact s1|exact s2) (first
     |(go_at_call 86;go_loud (refine(KP _).mono ?_);rintro _ v1 ⟨rfl,b1⟩;go_loud (have s1:=SB.out _ b1);go_loud (have E1:Hid (Below wr.heap.size wr v1):=BD.stepL b1 BD.size))
     |(go_at_call 85;go_loud (refine(KK1 _ (RX.out _ E1.out)).mono ?_);rintro _ v2 ⟨vp,rfl,R2,b2⟩;have E2:Hid (Below wr.heap.size wr v2):=E1.out.stepL b2 E1.out.size;have s2:=SE.out _ E2.out;obtain⟨pa,pc,rfl⟩:=R2.form))
    have HR2:Hid (Rd v2 (.slice pa pk.length pc) pk):=R2;have c2:=s2.2;clear s0 sD s1 s2 b1 b2 R2 E1;obtain⟨LP,hLP⟩:∃LP,Hid (LP=pk.length):=⟨_,rfl⟩;rw[<-hLP.out]at HR2 ⊢;have d2:=(SE.out _ (E2.out.drew)).2;have BD2:Hid (Below wr.heap.size wr v2.drew):=E2.out.drew
    go_wp2_with fail
    go_region_held3 (fun wx=>wx.cell? ⟨w.heap.size,0,none⟩=some (.pointer (some ⟨ab,0,none⟩))/\wx.cell? ⟨w.heap.size,1,none⟩=some (.pointer pf)/\wx.cell? ⟨w.heap.size,2,none⟩=some (.int .i64 k)/\wx.cell? ⟨w.heap.size,3,none⟩=some (.int .i64 m)/\wx.cell? ⟨w.heap.size,4,none⟩=some (.int .i64 z)/\wx.cell? ⟨w.heap.size,5,none⟩=some (.int .i64 s)/\wx.cell? ⟨w.heap.size,6,none⟩=some (.int .i64 t)/\wx.cell? ⟨w.heap.size,7,none⟩=some (.int .i64 o)/\wx.cell? ⟨w.heap.size,8,none⟩=some (.int .i64 st)/\wx.cell? ⟨w.heap.size,9,none⟩=some (.int .i64 ep)) (first|exact c2|exact d2|exact c3|exact c4|exact c5) (first
     |(go_at_call 87;go_loud (refine(KD1 _).mono ?_);rintro _ v3 ⟨rfl,b3⟩;have E3:Hid (Below wr.heap.size wr v3):=BD2.out.stepL b3 BD2.out.size;have c3:=(SE.out _ E3.out).2)
     |(go_at_call 86;go_loud (refine(KP _).mono ?_);rintro _ v4 ⟨rfl,b4⟩;have E4:Hid (Below wr.heap.size wr v4):=E3.out.stepL b4 E3.out.size;have c4:=(SE.out _ E4.out).2;go_loud (have R4:=(HR2.out.below (E2D.out b3)).below b4))
     |(go_at_call 70;go_loud (refine(KW _ E4.out R4).mono ?_);rintro _ v5 ⟨rfl,G5,A5,g5⟩;go_loud (have c5:=ST.out _ _ _ E4.out g5)))
    have HA5:Hid _:=A5;have HG5:Hid (Grew GA W0 G5 v5):=hGr.trans ((Grew.of_below E4.out).trans g5);clear c2 d2 c3 c4 c5 b3 b4 R4 A5 g5 E2 E3 E4 BD2 KK1 KD1 KW HR2 hGr;go_wp2
    try rw[Exit.noGoto_ret]
    refine bodyPost_ret (v:=.tuple #[.int .i64 0,.int .i64 130]) (by simp[results,Tryz.results52,go_sem]) rfl ?_
    exact⟨by rw[hf2.out,hf3.out,E9.out.1,E9.out.2.1];rfl,G5,by rw[hf1.out,E9.out.2.2,<-e2.out];exact HA5.out,G0.out.trans HG5.out⟩
   ·have ho':(AR r).off=false:=by simpa using ho
    have e1:¬px=130:=by rw[<-hpx.out];exact fun e=>ho (puX_crash.1 e)
    have e1':(px==130)=false:=beq_eq_false_iff_ne.2 e1;have e2:Hid (AN=AR (r+1)):=by show _=_;rw[<-hAN.out];exact HARs.out.symm
    have H2:Hid (∀j,j<r+1->(AR j).off=false):=fun j hj=>by
     by_cases e:j=r
     ·rw[e];exact ho'
     ·exact hoff j Zo
    have HP:Hid (PN (r+1)=pn+(if px=0 then 1 else 0)):=by
     show _=_
     rw[HPNs.out,hpx.out,hpn.out]
    clear hoff ho ho' HPNs
    by_cases hp0:px=0
    ·have HP1:Hid (PN (r+1)=pn+1):=by show _=_;rw[HP.out,if_pos hp0]
     have gp:IntKind.i64.wrap ((pn:Int)+1)=((pn+1:Nat):Int):=by
      have:=PNle.out (r+1) Zo;have:=HP1.out;rw[IntKind.wrap_i64];omega
     subst hp0;exact z36_1
    ·have HP1:Hid (PN (r+1)=pn):=by show _=_;rw[HP.out,if_neg hp0];rfl
     have hp0':(px==0)=false:=beq_eq_false_iff_ne.2 hp0;exact z36_1
  ·obtain rfl:r=B.length:=by omega
   have hlt':¬(B.length:Int)<(B.length:Int):=Zo
   have E9:Hid _:=SN.out hoff;have HA5:Hid (ArAt wr ab G' (AR B.length)):=hA;have HG5:Hid (Grew GA W0 G' wr):=hGr;clear hA hGr hoff;go_wp2
   try rw[Exit.noGoto_ret]
   refine bodyPost_ret (v:=.tuple #[.int .i64 (pn:Int),.int .i64 0]) (by simp[results,Tryz.results52,go_sem]) rfl ?_
   exact⟨by rw[hf2.out,hf3.out,E9.out.1,E9.out.2.1,hpn.out],G',by rw[hf1.out,E9.out.2.2];exact HA5.out,G0.out.trans HG5.out⟩
end Go.Proofs.YtddnfhfangfgeaaGreat.Gf
