/- JOINED: FarV, SeCB, SeCD, SeRefU. -/
import Derived.Test.YtddnfhfangfgeaaGreatPome23
import Derived.Test.YtddnfhfangfgeaaGreatPome22
import Derived.Test.YtddnfhfangfgeaaGreatPome10
set_option maxHeartbeats 4000000
set_option maxRecDepth 100000
namespace Go.Proofs.YtddnfhfangfgeaaGreat.Gf
set_option linter.unusedVariables false
set_option linter.unusedSimpArgs false
open Go.RowKit
def FarV(w:World)(v:Value):Prop:=∀x n c,v= .slice (some x) n c->n=0∨w.heap.size<=x.block
theorem FarV.own{w w':World}{e n:Nat}{v:Value}{xs:List Value}(h:w'.ownsRow w.heap.size e 1 v n xs):FarV w v:=fun x n' c e2=>by
 obtain⟨_,⟨hv,hn⟩|⟨g,cap,cur,hv,hg,_⟩⟩:=h
 ·rw[hv]at e2;cases e2
 ·rw[hv]at e2;simp at e2;obtain⟨rfl,_⟩:=e2;exact Or.inr hg
theorem FarV.nil(w:World)(a:Option Addr)(c:Nat):FarV w (.slice a 0 c):=fun x n c' e=>by simp at e;exact Or.inl e.2.1.symm
theorem FarV.apart{w:World}{v:Value}{G:Nat->Prop}(h:FarV w v)(hG:∀k,G k->k<w.heap.size):ApartG G v:=fun x n c e=>(h x n c e).imp id fun q hg=>by have:=hG _ hg;omega
def PartV(u v:Value):Prop:=∀G:Nat->Prop,ApartG G u->ApartG G v
theorem PartV.nil(u:Value)(a:Option Addr)(c:Nat):PartV u (.slice a 0 c):=fun G _=>ApartG.nil G c a
theorem PartV.cut{b o n c o' n' c':Nat}(h:n≠0):PartV (.slice (some ⟨b,o,none⟩) n c) (.slice (some ⟨b,o',none⟩) n' c'):=fun G ha x m d e=>by
 simp at e;obtain⟨rfl,_⟩:=e;exact Or.inr ((ha _ _ _ rfl).resolve_left h)
theorem i64_or_nat{a b:Nat}(ha:a<9223372036854775808)(hb:b<9223372036854775808):bits .or .i64 (a:Int) (b:Int)=((a|||b:Nat):Int):=by
 have h:a|||b<9223372036854775808:=Nat.or_lt_two_pow (n:=63) ha hb
 show IntKind.i64.wrap ((BitVec.ofInt 64 (a:Int)|||BitVec.ofInt 64 (b:Int)).toNat:Nat)=_
 rw[BitVec.toNat_or,BitVec.ofInt_natCast,BitVec.ofInt_natCast,BitVec.toNat_ofNat,BitVec.toNat_ofNat,Nat.mod_eq_of_lt Zo,Nat.mod_eq_of_lt Zo,IntKind.wrap_i64];omega
theorem or_byte{a:Nat}{x:UInt8}:a*256|||x.toNat=a*256+x.toNat:=by
 have:=Nat.two_pow_add_eq_or_of_lt (i:=8) (b:=x.toNat) x.toNat_lt a;rw[Nat.mul_comm a 256];exact this.symm
def nuK(q:List UInt8):Nat->Nat
 |0=>0
 |k+1=>nuK q k*256+(co q k).toNat
theorem nuK_four(q:List UInt8):nuK q 4=nu q:=by
 show(((0*256+(co q 0).toNat)*256+(co q 1).toNat)*256+(co q 2).toNat)*256+(co q 3).toNat=nu q
 unfold nu;omega
theorem nuK_lt(q:List UInt8):∀k,nuK q k<256^k
 |0=>by simp[nuK]
 |k+1=>by
  have:=nuK_lt q k;have h:=(co q k).toNat_lt;rw[Nat.pow_succ]
  show nuK q k*256+(co q k).toNat<_
  omega
theorem snum_any{p:List UInt8}{w:World}{a:Option Addr}{c:Nat}(hp:Rd w (.slice a p.length c) p)(hl:12<=p.length):Calls Tryz.prog 189 #[.slice a p.length c,.int .i64 4] w fun e w'=>e= .returned (.int .i64 ((epS p:Nat):Int))/\w'=w:=by
 obtain⟨q,hq⟩:∃q,Hid (q=(p.drop 4).take 4):=⟨_,rfl⟩;have HE:Hid (nuK q 4=epS p):=by show _=_;rw[nuK_four,hq.out];rfl
 rw[<-HE.out];clear HE
 rcases hp with⟨a',c',rfl,_⟩|⟨b,o,c',hp0,e0,h1,h2,h3,hpc⟩
 ·simp at hl
 simp at e0;obtain⟨rfl,rfl⟩:=e0;have g1:(8:Int)<=(p.length:Int):=Zo
 have g2:(4:Int)<=(p.length:Int):=Zo
 have g3:8<=c:=Zo
 have g4:(8:Int)<=(c:Int):=Zo
 have g5:¬c=4:=Zo
 have cells:∀k,k<4->w.cell? ⟨b,o+4+k,none⟩=some (.int .u8 (((co q k).toNat:Nat):Int)):=by
  intro k hk;have e:=hpc (4+k) Zo;rw[<-Nat.add_assoc]at e;rw[e,hq.out,co_take hk,co_drop0]
 clear hpc hq
 go_enter Tryz.func189,Tryz.ntmps189
 go_wp2;clear g1 g2 g3 g4 g5
 go_loop [5,14] (fun x i=>∃k:Nat,k<=4/\i= .int .i64 (k:Int)/\x= .int .i64 ((nuK q k:Nat):Int)) (fun _ i=>4-(intOf i).toNat)
 case atStart=>exact⟨0,Zo,rfl,rfl⟩
 case round=>
  obtain⟨k,hk,rfl,rfl⟩:=hrel
  by_cases hlt:k<4
  ·have hlt':(k:Int)<4:=by omega
   have c1:=cells k hlt;have hz:=nuK_lt q k;have h4:256^k<=256^3:=Nat.pow_le_pow_right Zd Zo;have hz3:nuK q k<16777216:=Nat.lt_of_lt_of_le hz h4;have HS:Hid (nuK q (k+1)=nuK q k*256+(co q k).toNat):=rfl;clear cells hz h4;obtain⟨z,ez⟩:∃z,Hid (z=nuK q k):=⟨_,rfl⟩;rw[<-ez.out]at hz3 HS ⊢;have hb:=(co q k).toNat_lt;have Z1:IntKind.i64.wrap ((z:Int)*256)=((z*256:Nat):Int):=Zw
   have Z2:IntKind.i64.wrap (((co q k).toNat:Nat):Int)=(((co q k).toNat:Nat):Int):=Zw
   have Z3:bits .or .i64 ((z*256:Nat):Int) (((co q k).toNat:Nat):Int)=((nuK q (k+1):Nat):Int):=by
    rw[i64_or_nat Zo Zo,or_byte,HS.out]
   obtain⟨y,ey⟩:∃y,Hid (y=z*256):=⟨_,rfl⟩;rw[<-ey.out]at Z1 Z3;clear HS ez ey;go_wp2
   go_round
   case rel=>exact⟨k+1,Zo,Zg,rfl⟩
   case measure=>simp[intOf];omega
  ·have e:k=4:=by omega
   subst e;clear cells;go_wp2;go_ret;exact⟨rfl,rfl⟩
theorem sclone_any{p:List UInt8}{w:World}{a:Addr}{c:Nat}(hp:Rd w (.slice (some a) p.length c) p)(hl:p.length<=100000):Calls Tryz.prog 143 #[.slice (some a) p.length c] w fun e w'=>∃v,e= .returned v/\Rd w' v p/\FarV w v/\Below w.heap.size w w':=by
 obtain⟨i0,hi,hz0,hz1,hz2⟩:=info_parts info_u8;have qT:∀(w:World) (a:Option Addr) (n c n' c':Nat),(binOp .eql 36 (.slice a n c) (.slice none n' c')).run Tryz.prog w= .ok (.bool a.isNone) w:=fun w a n c n' c'=>Lib.run_eql_slice_nil w _ _ a n c n' c' Tryz.underlying36
 have B1:Below w.heap.size w (w.alloc (.cells #[] 5)):=(Below.refl _ _).alloc (Nat.le_refl _) _;have O1:(w.alloc (.cells #[] 5)).ownsRow w.heap.size 5 1 (.slice (some ⟨w.heap.size,0,none⟩) 0 0) 0 []:=own_new w _;have hp1:=hp.below B1;have hsz:w.heap.size<=(w.alloc (.cells #[] 5)).heap.size:=B1.size
 go_enter Tryz.func143,Tryz.ntmps143
 go_wp2_with (at_builtin;go_loud (refine wpList_append_rd _ rfl (.tmp 5) (.tmp 6) 36 rfl w.heap.size 5 i0 Tryz.underlying36 hi hz0 hz1 hz2 (.slice (some ⟨w.heap.size,0,none⟩) 0 0) 0 [] rfl O1 (.slice (some a) p.length c) p rfl hp1 Zo hsz ?_);intro v' w9 hv9 hg9)
 have HB:Hid (Below w.heap.size w w9):=B1.grown hg9 hsz (fun q hq=>by cases hq;exact Nat.le_refl _);have HO:Hid (Rd w9 v' p/\FarV w v'):=⟨rd_one hv9,FarV.own hv9⟩;clear hv9 hg9 B1 O1 hp1 hp qT;go_wp2;go_ret;exact⟨v',rfl,HO.out.1,HO.out.2,HB.out⟩
def MakesUF(w:World)(N:Nat)(D:List UInt8)(X:Int)(e:Ending)(w':World):Prop:=∃v,e= .returned (.tuple #[.int .i64 (N:Int),v,.int .i64 X])/\Rd w' v D/\FarV w v/\Below w.heap.size w w'
theorem Rd.cutS{w:World}{b off n c:Nat}{p:List UInt8}(h:Rd w (.slice (some ⟨b,off,none⟩) n c) p){i m c':Nat}(hm:i+m<=p.length)(hi:0<p.length)(hc:c'=c-i):Rd w (.slice (some ⟨b,off+i,none⟩) m c') ((p.drop i).take m):=by
 rcases h with⟨a,c0,e,_⟩|⟨b',off',c0,h1,h2,h3,h4,h5,h6⟩
 ·subst e;simp at hi
 ·simp at h2;obtain⟨⟨rfl,rfl⟩,rfl,rfl⟩:=h2;subst hc;have hl:((p.drop i).take m).length=m:=by rw[List.length_take,List.length_drop];omega
  by_cases h0:m=0
  ·subst h0;exact Or.inl ⟨_,_,rfl,rfl,Zo,fun e=>by cases e⟩
  ·refine Or.inr ⟨b,off+i,c-i,fun e=>by rw[e]at hl;simp at hl;omega,by rw[hl],by rw[hl];omega,Zo,h5,fun j hj=>?_⟩;rw[hl]at hj;rw[co_take hj,co_drop0,Nat.add_assoc];exact h6 (i+j) Zo
theorem sunpack_far{a:Int}{v:Value}{p:List UInt8}{w:World}(hp:Rd w v p)(hl:p.length<=100000):Calls Tryz.prog 163 #[.int .i64 a,v] w (MakesUF w (upN a p) (upD a p) (upX a p)):=by
 by_cases h12:12<=p.length
 ·rcases hp.form with⟨va,vc,rfl⟩
  rcases hp with⟨a',c',rfl,_⟩|⟨b,o,c',hp0,e0,h1,h2,h3,hpc⟩
  ·simp at h12
  simp at e0;obtain⟨rfl,rfl⟩:=e0;have hp:Rd w (.slice (some ⟨b,o,none⟩) p.length vc) p:=Or.inr ⟨b,o,vc,hp0,rfl,h1,h2,h3,hpc⟩;clear hpc hp0;have hlt:¬(p.length:Int)<12:=Zo
  obtain⟨n4,hn4⟩:∃n4,Hid (n4=p.length-4):=⟨_,rfl⟩;have hn5:n4+4=p.length:=by have:=hn4.out;omega
  have g0:(p.length:Int)-4=(n4:Int):=Zo
  have gw:IntKind.i64.wrap (n4:Int)=(n4:Int):=Zw
  have g1:(n4:Int)<=(p.length:Int):=Zo
  have g2:(8:Int)<=(n4:Int):=Zo
  have g3:8<=n4:=Zo
  have g4:n4<=vc:=Zo
  have g5:(n4:Int)<=(vc:Int):=Zo
  have g6:¬vc=8:=Zo
  have hda:Rd w (.slice (some ⟨b,o+8,none⟩) (n4-8) (vc-8)) (daS p):=hp.cutS (i:=8) (m:=n4-8) Zo Zo rfl|>(by rw[show daS p=(p.drop 8).take (n4-8) by unfold daS;congr 1;omega];exact ·);have hdl:=daS_length p
  by_cases hk:OkSe a ((epS p:Nat):Int) (daS p).length
  ·have px:=pa_ok hk;rw[Int.toNat_natCast]at px;have hpk:(pkS a.toNat (epS p) (daS p)).length=p.length:=by rw[pk_length];omega
   by_cases hs:pkS a.toNat (epS p) (daS p)=p
   ·have hu:OkUe a p:=⟨h12,hk,hs⟩;rw[(up_ok hu).1,(up_ok hu).2.1,(up_ok hu).2.2];have ds:sameB (pkS a.toNat (epS p) (daS p)) p=true:=decide_eq_true hs;clear hs hu
    go_enter Tryz.func163,Tryz.ntmps163
    go_wp2_with fail
    refine(snum_any hp h12).mono ?_
    rintro e' w' ⟨rfl,rfl⟩
    go_wp2_with fail
    obtain⟨wo,hwo⟩:∃wo,wo=w':=⟨_,rfl⟩;subst hwo;refine(spack_any hda).mono ?_
    rintro e' w1 ⟨v1,rfl,R1,B1⟩;rw[px.1];rw[px.2]at R1;obtain⟨a1,c1,rfl⟩:=R1.form;rw[hpk]at R1 ⊢;replace hp:=hp.below B1;replace hda:=hda.below B1
    go_wp2_with fail
    refine(beq_any R1 hp).mono ?_
    rintro e' w2 ⟨rfl,rfl⟩;rw[ds]
    go_wp2_with fail
    obtain⟨w1,hw1⟩:∃w1,w1=w2:=⟨_,rfl⟩;subst hw1;have hn8:n4-8=(daS p).length:=Zo
    rw[hn8]at hda ⊢;refine(sclone_any hda Zo).mono ?_
    rintro e' w3 ⟨v3,rfl,R3,V3,B3⟩;have HV:Hid (FarV wo v3):=fun x n c e=>(V3 x n c e).imp id fun q=>Nat.le_trans B1.size q
    have HB:Hid (Below wo.heap.size wo w3):=Below.step B1 B3;clear R1 hp hda B1 B3 V3;go_wp2
    go_ret3
    exact⟨_,rfl,R3,HV.out,HB.out⟩
   ·have hn:¬OkUe a p:=fun h=>hs h.2.2
    rw[(up_not hn).1,(up_not hn).2.1,(up_not hn).2.2];have ds:sameB (pkS a.toNat (epS p) (daS p)) p=false:=decide_eq_false hs
    go_enter Tryz.func163,Tryz.ntmps163
    go_wp2_with fail
    refine(snum_any hp h12).mono ?_
    rintro e' w' ⟨rfl,rfl⟩
    go_wp2_with fail
    obtain⟨wo,hwo⟩:∃wo,wo=w':=⟨_,rfl⟩;subst hwo;refine(spack_any hda).mono ?_
    rintro e' w1 ⟨v1,rfl,R1,B1⟩;rw[px.1];rw[px.2]at R1;obtain⟨a1,c1,rfl⟩:=R1.form;rw[hpk]at R1 ⊢;replace hp:=hp.below B1;have HB:Hid (Below wo.heap.size wo w1):=B1;clear hda B1
    go_wp2_with fail
    refine(beq_any R1 hp).mono ?_
    rintro e' w2 ⟨rfl,rfl⟩;rw[ds];clear R1 hp;go_wp2
    go_ret3
    exact⟨_,rfl,rd_nil0,FarV.nil _ _ _,HB.out⟩
  ·have px:=pa_not hk;have hn:¬OkUe a p:=fun h=>hk h.2.1
   rw[(up_not hn).1,(up_not hn).2.1,(up_not hn).2.2]
   go_enter Tryz.func163,Tryz.ntmps163
   go_wp2_with fail
   refine(snum_any hp h12).mono ?_
   rintro e' w' ⟨rfl,rfl⟩
   go_wp2_with fail
   obtain⟨wo,hwo⟩:∃wo,wo=w':=⟨_,rfl⟩;subst hwo;refine(spack_any hda).mono ?_
   rintro e' w1 ⟨v1,rfl,R1,B1⟩;rw[px.1];have HB:Hid (Below wo.heap.size wo w1):=B1;clear hda B1 R1 hp;go_wp2
   go_ret3
   exact⟨_,rfl,rd_nil0,FarV.nil _ _ _,HB.out⟩
 ·have hn:¬OkUe a p:=fun h=>h12 h.1
  rw[(up_not hn).1,(up_not hn).2.1,(up_not hn).2.2];obtain⟨va,vc,rfl⟩:=hp.form;have hlt:(p.length:Int)<12:=Zo
  go_enter Tryz.func163,Tryz.ntmps163
  go_wp2
  go_ret3
  exact⟨_,rfl,rd_nil0,FarV.nil _ _ _,Below.refl _ _⟩
theorem not_gt31{x:Nat}(h:x<=2147483647):¬(x:Int)>2147483647:=Zo
theorem is_gt31{x:Nat}(h:¬x<=2147483647):(x:Int)>2147483647:=Zo
theorem bne_same{x y:Nat}(h:x=y):((x:Int)!=(y:Int))=false:=by rw[h];simp
theorem bne_other{x y:Nat}(h:¬x=y):((x:Int)!=(y:Int))=true:=Zm
def MakesV11(w:World)(u:Value)(N:Nat)(D:List UInt8)(X:Int)(e:Ending)(w':World):Prop:=∃v,e= .returned (.tuple #[.int .i64 (N:Int),v,.int .i64 X])/\Rd w' v D/\PartV u v/\Below w.heap.size w w'
theorem z24_1{p:Prop} (h:p:=by
 clear hb
 go_enter Tryz.func106,Tryz.ntmps106
 go_wp2
 go_ret3
 exact⟨_,rfl,rd_nil0,PartV.nil _ _ _,Below.refl _ _⟩
 ):p:=h
theorem runpack_part{a:Int}{v:Value}{p:List UInt8}{w:World}(hp:Rd w v p)(hl:p.length<=100000):Calls Tryz.prog 106 #[.int .i64 a,v] w (MakesV11 w v (upN a p) (upD a p) (upX a p)):=by
 have HI:Hid (OkUe a p↔_):=okU_iff (a:=a) (b:=p)
 by_cases hb:12<=p.length/\p.length<=4108/\0<=a/\a<=2147483647
 ·obtain⟨h12,hmx,a0,am⟩:=hb
  rcases hp.form with⟨va,vc,rfl⟩
  rcases hp with⟨a',c',rfl,_⟩|⟨b,o,c',hp0,e0,h1,h2,h3,hpc⟩
  ·simp at h12
  simp at e0;obtain⟨rfl,rfl⟩:=e0;have hp:Rd w (.slice (some ⟨b,o,none⟩) p.length vc) p:=Or.inr ⟨b,o,vc,hp0,rfl,h1,h2,h3,hpc⟩;clear hpc hp0;obtain⟨n4,hn4⟩:∃n4,Hid (n4=p.length-4):=⟨_,rfl⟩;have hn5:Hid (n4+4=p.length):=by show _=_;have:=hn4.out;omega
  have PZ:Hid (p.length≠0):=by show _≠_;have:=hn5.out;omega
  have hq:p.length-n4=4:=by have:=hn5.out;omega
  have g0:(p.length:Int)-4=(n4:Int):=by have:=hn5.out;omega
  have gw:IntKind.i64.wrap (n4:Int)=(n4:Int):=by rw[IntKind.wrap_i64];have:=hn5.out;omega
  have g1:(n4:Int)<=(p.length:Int):=Zo
  have g2:(8:Int)<=(n4:Int):=by have:=hn5.out;omega
  have g2':¬(n4:Int)<8:=Zo
  have g2'':¬(n4:Int)>4104:=by have:=hn5.out;omega
  have g3:8<=n4:=Zo
  have g4:n4<=vc:=by have:=hn5.out;omega
  have g5:(n4:Int)<=(vc:Int):=Zo
  have g6:¬vc=8:=Zo
  have g7:¬vc=n4:=by have:=hn5.out;omega
  have g8:¬vc=4:=Zo
  have g9:(8:Int)<=(vc:Int):=Zo
  have g10:(4:Int)<=(vc:Int):=Zo
  have g11:8<=vc:=Zo
  have g12:4<=vc:=Zo
  have a0':¬a<0:=Zo
  have am':¬a>2147483647:=Zo
  obtain⟨A,rfl⟩:∃A:Nat,a=(A:Int):=⟨a.toNat,Zo⟩;have wA:IntKind.u32.wrap (A:Int)=(A:Int):=by rw[IntKind.wrap_u32];omega
  have hX:Hid (n4-8=p.length-12):=by show _=_;have:=hn5.out;omega
  have HR:Hid (∀W,Below w.heap.size w W->Rd W (.slice (some ⟨b,o+4,none⟩) 4 (vc-4)) ((p.drop 4).take 4)/\Rd W (.slice (some ⟨b,o+n4,none⟩) 4 (vc-n4)) (p.drop (p.length-4))/\Rd W (.slice (some ⟨b,o,none⟩) n4 vc) (p.take (p.length-4))/\Rd W (.slice (some ⟨b,o,none⟩) 4 vc) (p.take 4)/\Rd W (.slice (some ⟨b,o+8,none⟩) (n4-8) (vc-8)) (daS p)):=by
   intro W hW;have hp':=hp.below hW;have:=hn5.out;refine⟨hp'.cutS (i:=4) (m:=4) Zo Zo rfl,?_,?_,?_,?_⟩
   ·have q:=hp'.cutS (i:=n4) (m:=4) (c':=vc-n4) Zo Zo rfl;rw[List.take_of_length_le (by rw[List.length_drop];omega)]at q;rw[show p.length-4=n4 by omega];exact q
   ·have q:=hp'.cutS (i:=0) (m:=n4) (c':=vc) Zo Zo rfl;rw[show p.length-4=n4 by omega];exact q
   ·have q:=hp'.cutS (i:=0) (m:=4) (c':=vc) Zo Zo rfl;exact q
   ·have q:=hp'.cutS (i:=8) (m:=n4-8) (c':=vc-8) Zo Zo rfl;unfold daS;rw[<-hX.out];exact q
  have hE:=epS_lt p;have wE:IntKind.i64.wrap ((epS p:Nat):Int)=((epS p:Nat):Int):=Zw
  have HE:Hid (nu ((p.drop 4).take 4)=epS p):=rfl;have l1:Hid (((p.drop 4).take 4).length=4):=by show _=_;rw[List.length_take,List.length_drop];omega
  have l2:Hid ((p.drop (p.length-4)).length=4):=by show _=_;rw[List.length_drop];omega
  have l3:Hid ((p.take (p.length-4)).length<=1000000):=by show _<=_;rw[List.length_take];omega
  have l4:Hid ((p.take 4).length=4):=by show _=_;rw[List.length_take];omega
  have HN1:Hid (∀W,Below w.heap.size w W->Calls Tryz.prog 150 #[.slice (some ⟨b,o+n4,none⟩) 4 (vc-n4)] W fun e w'=>e= .returned (.int .u32 ((nu (p.drop (p.length-4)):Nat):Int))/\Below w.heap.size w w'):=fun W hW=>(rnum_any (HR.out W hW).2.1 l2.out).mono fun e w' h=>⟨h.1,Below.step hW h.2⟩
  have HN2:Hid (∀W,Below w.heap.size w W->Calls Tryz.prog 149 #[.slice (some ⟨b,o,none⟩) n4 vc] W fun e w'=>e= .returned (.int .u32 ((more 0 (p.take (p.length-4)):Nat):Int))/\Below w.heap.size w w'):=fun W hW=>(rsum_any (HR.out W hW).2.2.1 l3.out).mono fun e w' h=>⟨h.1,by rw[h.2];exact hW⟩
  have HN3:Hid (∀W,Below w.heap.size w W->Calls Tryz.prog 150 #[.slice (some ⟨b,o,none⟩) 4 vc] W fun e w'=>e= .returned (.int .u32 ((nu (p.take 4):Nat):Int))/\Below w.heap.size w w'):=fun W hW=>(rnum_any (HR.out W hW).2.2.2.1 l4.out).mono fun e w' h=>⟨h.1,Below.step hW h.2⟩
  by_cases s1:nu (p.drop (p.length-4))=more 0 (p.take (p.length-4))
  ·have d1:=bne_same s1
   by_cases s2:nu (p.take 4)=A
   ·have d2:=bne_same s2
    by_cases s3:epS p<=2147483647
    ·have hu:OkUe (A:Int) p:=HI.out.2 ⟨h12,hmx,a0,am,s1,s2,s3⟩;rw[(up_ok hu).1,(up_ok hu).2.1,(up_ok hu).2.2];have s3':=not_gt31 s3;clear HI hu s1 s2 s3
     go_enter Tryz.func106,Tryz.ntmps106
     go_wp2_with fail
     refine(rnum_any (HR.out _ (Below.refl _ _)).1 l1.out).mono ?_
     rintro e' w1 ⟨rfl,B1⟩;rw[HE.out];go_wp2;have B1':=B1.drew;clear g0 gw g2' g2'' a0' am' B1 h12 hmx h1 h2 hl hE
     go_region_held3 (fun _=>True) (trivial) (first|(go_at_call_of 150 (Value.slice (some ⟨b,o+n4,none⟩) 4 (vc-n4));refine(HN1.out _ Za).mono ?_;rintro e' w2 ⟨rfl,B2⟩)|(go_at_call_of 149 (Value.slice (some ⟨b,o,none⟩) n4 vc);refine(HN2.out _ Za).mono ?_;rintro e' w3 ⟨rfl,B3⟩)|(go_at_call_of 150 (Value.slice (some ⟨b,o,none⟩) 4 vc);refine(HN3.out _ Za).mono ?_;rintro e' w4 ⟨rfl,B4⟩))
     go_wp2;have R5:=(HR.out _ B4.drew).2.2.2.2;have B5:=B4.drew;clear HR HN1 HN2 HN3 d1 d2 B1' B2 B3 hp
     go_region_held3 (fun _=>True) (trivial) (fail)
     go_wp2
     go_ret3
     exact⟨_,rfl,R5,PartV.cut PZ.out,B5⟩
    ·have s3':=is_gt31 s3;have hn:¬OkUe (A:Int) p:=fun h=>s3 (HI.out.1 h).2.2.2.2.2.2
     rw[(up_not hn).1,(up_not hn).2.1,(up_not hn).2.2];clear HI hn s1 s2 s3
     go_enter Tryz.func106,Tryz.ntmps106
     go_wp2_with fail
     refine(rnum_any (HR.out _ (Below.refl _ _)).1 l1.out).mono ?_
     rintro e' w1 ⟨rfl,B1⟩;rw[HE.out];go_wp2;have B1':=B1.drew;clear g0 gw g2' g2'' a0' am' B1 h12 hmx h1 h2 hl hE
     go_region_held3 (fun _=>True) (trivial) (first|(go_at_call_of 150 (Value.slice (some ⟨b,o+n4,none⟩) 4 (vc-n4));refine(HN1.out _ Za).mono ?_;rintro e' w2 ⟨rfl,B2⟩)|(go_at_call_of 149 (Value.slice (some ⟨b,o,none⟩) n4 vc);refine(HN2.out _ Za).mono ?_;rintro e' w3 ⟨rfl,B3⟩)|(go_at_call_of 150 (Value.slice (some ⟨b,o,none⟩) 4 vc);refine(HN3.out _ Za).mono ?_;rintro e' w4 ⟨rfl,B4⟩))
     clear HR;go_wp2
     go_ret3
     exact⟨_,rfl,rd_nil0,PartV.nil _ _ _,B4⟩
   ·have d2:=bne_other s2;have hn:¬OkUe (A:Int) p:=fun h=>s2 (HI.out.1 h).2.2.2.2.2.1
    rw[(up_not hn).1,(up_not hn).2.1,(up_not hn).2.2];clear HI hn s1 s2
    go_enter Tryz.func106,Tryz.ntmps106
    go_wp2_with fail
    refine(rnum_any (HR.out _ (Below.refl _ _)).1 l1.out).mono ?_
    rintro e' w1 ⟨rfl,B1⟩;rw[HE.out];go_wp2;have B1':=B1.drew;clear g0 gw g2' g2'' a0' am' B1 h12 hmx h1 h2 hl hE;refine wp_region_held_drew (S:=fun _=>True) Zk trivial (fun hHeld=>?_);refine tkH 0 ?_
    refine tkH 1 ?_
    refine tkH 2 ?_
    refine tkH 4 ?_
    refine tkH 5 ?_
    refine tkH 6 ?_
    refine rnH 3 fun K hK=>?_
    go_simp;refine(HN1.out _ Za).mono ?_
    rintro e' w2 ⟨rfl,B2⟩
    try go_simp
    refine hK.out _ _ trivial (fun hHeld=>?_);clear hK K
    try simp only[List.getElem_toArray,List.getElem_cons_succ,List.getElem_cons_zero,Act.put,List.setIfInBounds_toArray,List.set_cons_zero,List.set_cons_succ]
    refine rnH 7 fun K hK=>?_
    go_simp;refine(HN2.out _ Za).mono ?_
    rintro e' w3 ⟨rfl,B3⟩
    try go_simp
    refine hK.out _ _ trivial (fun hHeld=>?_);clear hK K
    try simp only[List.getElem_toArray,List.getElem_cons_succ,List.getElem_cons_zero,Act.put,List.setIfInBounds_toArray,List.set_cons_zero,List.set_cons_succ]
    refine tkH 8 ?_
    refine tkH 9 ?_
    refine tkH 10 ?_
    refine tkH 11 ?_
    refine tkH 13 ?_
    refine tkH 14 ?_
    refine rnH 12 fun K hK=>?_
    go_simp;refine(HN3.out _ Za).mono ?_
    rintro e' w4 ⟨rfl,B4⟩
    try go_simp
    refine hK.out _ _ trivial (fun hHeld=>?_);clear hK K
    try simp only[List.getElem_toArray,List.getElem_cons_succ,List.getElem_cons_zero,Act.put,List.setIfInBounds_toArray,List.set_cons_zero,List.set_cons_succ]
    refine tkH 15 ?_
    refine tkH 16 ?_
    refine tkH 17 ?_
    refine skH 18 ?_
    refine skH 19 ?_
    refine tkH 20 ?_
    refine wpAnyH_done Zk ?_ _
    try simp only[List.getElem_toArray,List.getElem_cons_succ,List.getElem_cons_zero,Act.put,List.setIfInBounds_toArray,List.set_cons_zero,List.set_cons_succ]
    clear HR;go_wp2
    go_ret3
    exact⟨_,rfl,rd_nil0,PartV.nil _ _ _,B4⟩
  ·have d1:=bne_other s1;have hn:¬OkUe (A:Int) p:=fun h=>s1 (HI.out.1 h).2.2.2.2.1
   rw[(up_not hn).1,(up_not hn).2.1,(up_not hn).2.2];clear HI hn s1
   go_enter Tryz.func106,Tryz.ntmps106
   go_wp2_with fail
   refine(rnum_any (HR.out _ (Below.refl _ _)).1 l1.out).mono ?_
   rintro e' w1 ⟨rfl,B1⟩;rw[HE.out];go_wp2;have B1':=B1.drew;clear g0 gw g2' g2'' a0' am' B1 h12 hmx h1 h2 hl hE;refine wp_region_held_drew (S:=fun _=>True) Zk trivial (fun hHeld=>?_);refine tkH 0 ?_
   refine tkH 1 ?_
   refine tkH 2 ?_
   refine tkH 4 ?_
   refine tkH 5 ?_
   refine tkH 6 ?_
   refine rnH 3 fun K hK=>?_
   go_simp;refine(HN1.out _ Za).mono ?_
   rintro e' w2 ⟨rfl,B2⟩
   try go_simp
   refine hK.out _ _ trivial (fun hHeld=>?_);clear hK K
   try simp only[List.getElem_toArray,List.getElem_cons_succ,List.getElem_cons_zero,Act.put,List.setIfInBounds_toArray,List.set_cons_zero,List.set_cons_succ]
   refine rnH 7 fun K hK=>?_
   go_simp;refine(HN2.out _ Za).mono ?_
   rintro e' w3 ⟨rfl,B3⟩
   try go_simp
   refine hK.out _ _ trivial (fun hHeld=>?_);clear hK K
   try simp only[List.getElem_toArray,List.getElem_cons_succ,List.getElem_cons_zero,Act.put,List.setIfInBounds_toArray,List.set_cons_zero,List.set_cons_succ]
   refine tkH 8 ?_
   refine tkH 9 ?_
   refine skH 10 ?_
   refine skH 11 ?_
   refine skH 12 ?_
   refine skH 13 ?_
   refine skH 14 ?_
   refine skH 15 ?_
   refine tkH 16 ?_
   refine tkH 17 ?_
   refine skH 18 ?_
   refine skH 19 ?_
   refine tkH 20 ?_
   refine wpAnyH_done Zk ?_ _
   try simp only[List.getElem_toArray,List.getElem_cons_succ,List.getElem_cons_zero,Act.put,List.setIfInBounds_toArray,List.set_cons_zero,List.set_cons_succ]
   clear HR;go_wp2
   go_ret3
   exact⟨_,rfl,rd_nil0,PartV.nil _ _ _,B3⟩
 ·have hn:¬OkUe a p:=fun h=>hb (by have:=HI.out.1 h;omega)
  rw[(up_not hn).1,(up_not hn).2.1,(up_not hn).2.2];clear HI hn;obtain⟨va,vc,rfl⟩:=hp.form;have gw:IntKind.i64.wrap ((p.length:Int)-4)=(p.length:Int)-4:=Zw
  by_cases h1:(p.length:Int)-4<8
  ·exact z24_1
  by_cases h2:(p.length:Int)-4>4104
  ·exact z24_1
  by_cases h3:a<0
  ·exact z24_1
  have h4:a>2147483647:=Zo
  exact z24_1
end Go.Proofs.YtddnfhfangfgeaaGreat.Gf
