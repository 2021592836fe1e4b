/- JOINED: FarV, SeCB, SeCC, SeCD, SeRef, SeRefU. -/
import Derived.Test.YtclieefpnbdbjaaGreatPome5
import Derived.Test.YtclieefpnbdbjaaGreatPome4
set_option maxHeartbeats 4000000
set_option maxRecDepth 100000
namespace Go.Proofs.YtclieefpnbdbjaaGreat.Gf
set_option linter.unusedVariables false
set_option linter.unusedSimpArgs false
open Go.RowKit
def FarV(w:World)(v:Value):Prop:=∀x n c,v= .slice (some x) n c->n=0∨w.heap.size<=x.block
theorem FarV.own{w w':World}{e n:Nat}{v:Value}{xs:List Value}(h:w'.ownsRow w.heap.size e 1 v n xs):FarV w v:=fun x n' c e2=>by
 obtain⟨_,⟨hv,hn⟩|⟨g,cap,cur,hv,hg,_⟩⟩:=h
 ·rw[hv]at e2;cases e2
 ·rw[hv]at e2;simp at e2;obtain⟨rfl,_⟩:=e2;exact Or.inr hg
theorem FarV.nil(w:World)(a:Option Addr)(c:Nat):FarV w (.slice a 0 c):=fun x n c' e=>by simp at e;exact Or.inl e.2.1.symm
theorem FarV.apart{w:World}{v:Value}{G:Nat->Prop}(h:FarV w v)(hG:∀k,G k->k<w.heap.size):ApartG G v:=fun x n c e=>(h x n c e).imp id fun q hg=>by have:=hG _ hg;omega
def PartV(u v:Value):Prop:=∀G:Nat->Prop,ApartG G u->ApartG G v
theorem PartV.nil(u:Value)(a:Option Addr)(c:Nat):PartV u (.slice a 0 c):=fun G _=>ApartG.nil G c a
theorem PartV.cut{b o n c o' n' c':Nat}(h:n≠0):PartV (.slice (some ⟨b,o,none⟩) n c) (.slice (some ⟨b,o',none⟩) n' c'):=fun G ha x m d e=>by
 simp at e;obtain⟨rfl,_⟩:=e;exact Or.inr ((ha _ _ _ rfl).resolve_left h)
theorem i64_or_nat{a b:Nat}(ha:a<9223372036854775808)(hb:b<9223372036854775808):bits .or .i64 (a:Int) (b:Int)=((a|||b:Nat):Int):=by
 have h:a|||b<9223372036854775808:=Nat.or_lt_two_pow (n:=63) ha hb
 show IntKind.i64.wrap ((BitVec.ofInt 64 (a:Int)|||BitVec.ofInt 64 (b:Int)).toNat:Nat)=_
 rw[BitVec.toNat_or,BitVec.ofInt_natCast,BitVec.ofInt_natCast,BitVec.toNat_ofNat,BitVec.toNat_ofNat,Nat.mod_eq_of_lt Zo,Nat.mod_eq_of_lt Zo,IntKind.wrap_i64];omega
theorem or_byte{a:Nat}{x:UInt8}:a*256|||x.toNat=a*256+x.toNat:=by
 have:=Nat.two_pow_add_eq_or_of_lt (i:=8) (b:=x.toNat) x.toNat_lt a;rw[Nat.mul_comm a 256];exact this.symm
def nuK(q:List UInt8):Nat->Nat
 |0=>0
 |k+1=>nuK q k*256+(co q k).toNat
theorem nuK_four(q:List UInt8):nuK q 4=nu q:=by
 show(((0*256+(co q 0).toNat)*256+(co q 1).toNat)*256+(co q 2).toNat)*256+(co q 3).toNat=nu q
 unfold nu;omega
theorem nuK_lt(q:List UInt8):∀k,nuK q k<256^k
 |0=>by simp[nuK]
 |k+1=>by
  have:=nuK_lt q k;have h:=(co q k).toNat_lt;rw[Nat.pow_succ]
  show nuK q k*256+(co q k).toNat<_
  omega
theorem snum_any{p:List UInt8}{w:World}{a:Option Addr}{c:Nat}(hp:Rd w (.slice a p.length c) p)(hl:12<=p.length):Calls Tryz.prog 199 #[.slice a p.length c,.int .i64 4] w fun e w'=>e= .returned (.int .i64 ((epS p:Nat):Int))/\w'=w:=by
 obtain⟨q,hq⟩:∃q,Hid (q=(p.drop 4).take 4):=⟨_,rfl⟩;have HE:Hid (nuK q 4=epS p):=by show _=_;rw[nuK_four,hq.out];rfl
 rw[<-HE.out];clear HE
 rcases hp with⟨a',c',rfl,_⟩|⟨b,o,c',hp0,e0,h1,h2,h3,hpc⟩
 ·simp at hl
 simp at e0;obtain⟨rfl,rfl⟩:=e0;have g1:(8:Int)<=(p.length:Int):=Zo
 have g2:(4:Int)<=(p.length:Int):=Zo
 have g3:8<=c:=Zo
 have g4:(8:Int)<=(c:Int):=Zo
 have g5:¬c=4:=Zo
 have cells:∀k,k<4->w.cell? ⟨b,o+4+k,none⟩=some (.int .u8 (((co q k).toNat:Nat):Int)):=by
  intro k hk;have e:=hpc (4+k) Zo;rw[<-Nat.add_assoc]at e;rw[e,hq.out,co_take hk,co_drop0]
 clear hpc hq
 go_enter Tryz.func199,Tryz.ntmps199
 go_wp2;clear g1 g2 g3 g4 g5
 go_loop [5,14] (fun x i=>∃k:Nat,k<=4/\i= .int .i64 (k:Int)/\x= .int .i64 ((nuK q k:Nat):Int)) (fun _ i=>4-(intOf i).toNat)
 case atStart=>exact⟨0,Zo,rfl,rfl⟩
 case round=>
  obtain⟨k,hk,rfl,rfl⟩:=hrel
  by_cases hlt:k<4
  ·have hlt':(k:Int)<4:=by omega
   have c1:=cells k hlt;have hz:=nuK_lt q k;have h4:256^k<=256^3:=Nat.pow_le_pow_right Zd Zo;have hz3:nuK q k<16777216:=Zu hz h4;have HS:Hid (nuK q (k+1)=nuK q k*256+(co q k).toNat):=rfl;clear cells hz h4;obtain⟨z,ez⟩:∃z,Hid (z=nuK q k):=⟨_,rfl⟩;rw[<-ez.out]at hz3 HS ⊢;have hb:=(co q k).toNat_lt;have Z1:IntKind.i64.wrap ((z:Int)*256)=((z*256:Nat):Int):=Zw
   have Z2:IntKind.i64.wrap (((co q k).toNat:Nat):Int)=(((co q k).toNat:Nat):Int):=Zw
   have Z3:bits .or .i64 ((z*256:Nat):Int) (((co q k).toNat:Nat):Int)=((nuK q (k+1):Nat):Int):=by
    rw[i64_or_nat Zo Zo,or_byte,HS.out]
   obtain⟨y,ey⟩:∃y,Hid (y=z*256):=⟨_,rfl⟩;rw[<-ey.out]at Z1 Z3;clear HS ez ey;go_wp2
   go_round
   case rel=>exact⟨k+1,Zo,Zg,rfl⟩
   case measure=>simp[intOf];omega
  ·have e:k=4:=by omega
   subst e;clear cells;go_wp2;go_ret;exact⟨rfl,rfl⟩
theorem sclone_any{p:List UInt8}{w:World}{a:Addr}{c:Nat}(hp:Rd w (.slice (some a) p.length c) p)(hl:p.length<=100000):Calls Tryz.prog 151 #[.slice (some a) p.length c] w fun e w'=>∃v,e= .returned v/\Rd w' v p/\FarV w v/\Below w.heap.size w w':=by
 obtain⟨i0,hi,hz0,hz1,hz2⟩:=info_parts info_u8;have qT:∀(w:World) (a:Option Addr) (n c n' c':Nat),(binOp .eql 42 (.slice a n c) (.slice none n' c')).run Tryz.prog w= .ok (.bool a.isNone) w:=fun w a n c n' c'=>Lib.run_eql_slice_nil w _ _ a n c n' c' Tryz.underlying42
 have B1:Below w.heap.size w (w.alloc (.cells #[] 5)):=Zf.alloc Zr _;have O1:(w.alloc (.cells #[] 5)).ownsRow w.heap.size 5 1 (.slice (some ⟨w.heap.size,0,none⟩) 0 0) 0 []:=own_new w _;have hp1:=hp.below B1;have hsz:w.heap.size<=(w.alloc (.cells #[] 5)).heap.size:=B1.size
 go_enter Tryz.func151,Tryz.ntmps151
 go_wp2_with (at_builtin;go_loud (refine wpList_append_rd _ rfl (.tmp 5) (.tmp 6) 42 rfl w.heap.size 5 i0 Tryz.underlying42 hi hz0 hz1 hz2 (.slice (some ⟨w.heap.size,0,none⟩) 0 0) 0 [] rfl O1 (.slice (some a) p.length c) p rfl hp1 Zo hsz ?_);intro v' w9 hv9 hg9)
 have HB:Hid (Below w.heap.size w w9):=B1.grown hg9 hsz (fun q hq=>by cases hq;exact Zr);have HO:Hid (Rd w9 v' p/\FarV w v'):=⟨rd_one hv9,FarV.own hv9⟩;clear hv9 hg9 B1 O1 hp1 hp qT;go_wp2;go_ret;exact⟨v',rfl,HO.out.1,HO.out.2,HB.out⟩
def MakesS(w:World)(X:Int)(R:List UInt8)(e:Ending)(w':World):Prop:=∃v,e= .returned (.tuple #[v,.int .i64 X])/\Rd w' v R/\Below w.heap.size w w'
def MakesSF(w:World)(X:Int)(R:List UInt8)(e:Ending)(w':World):Prop:=∃v,e= .returned (.tuple #[v,.int .i64 X])/\Rd w' v R/\FarV w v/\Below w.heap.size w w'
theorem MakesSF.s{w w':World}{X:Int}{R:List UInt8}{e:Ending}(h:MakesSF w X R e w'):MakesS w X R e w':=by
 obtain⟨v,h1,h2,_,h4⟩:=h;exact⟨v,h1,h2,h4⟩
theorem RowF.partS{w:World}{base e g L C:Nat}{f:Nat->UInt8}(h:RowF w base e g L C f){c cap:Nat}(hc:0<c)(hl:c<=L)(hcap:c<=cap)(hm:cap<=maxLen):Rd w (.slice (some ⟨g,0,none⟩) c cap) (upto f c):=by
 refine Or.inr ⟨g,0,cap,fun e=>?_,by rw[upto_length],by rw[upto_length];exact hcap,hm,h.lt.2,fun i hi=>?_⟩
 ·have:=upto_length f c;rw[e]at this;simp at this;omega
 ·rw[upto_length]at hi;rw[co_upto_lt hi,Nat.zero_add];exact h.cell Zo
def Pre(f:Nat->UInt8)(r:List UInt8):Prop:=∀t,t<r.length->f t=co r t
theorem Pre.nil(f:Nat->UInt8):Pre f []:=fun t h=>by simp at h
theorem Pre.put{f:Nat->UInt8}{r:List UInt8}(h:Pre f r)(q:List UInt8){k n:Nat}(hk:k=r.length)(hn:n=q.length):Pre (putAt f k n (co q)) (r++q):=by
 subst hk hn;intro t ht;rw[List.length_append]at ht
 by_cases h1:t<r.length
 ·rw[putAt_out (Or.inl h1),co_append_lt h1];exact h t h1
 ·obtain⟨j,rfl⟩:=Nat.exists_eq_add_of_le (show r.length<=t by omega);rw[putAt_in Zo,co_append_ge Zo,Nat.add_sub_cancel_left]
theorem Pre.upto{f:Nat->UInt8}{r:List UInt8}(h:Pre f r){n:Nat}(hn:n=r.length):upto f n=r:=by
 subst hn;refine co_ext (upto_length _ _) fun i hi=>?_
 rw[upto_length]at hi;rw[co_upto_lt hi];exact h i hi
theorem z6_1{p:Prop} (h:p:=by
 clear hK K;refine tkH 6 ?_
 refine rnH 7 fun K hK=>?_
 go_simp;refine koH hK ((((Only.refl lb v3).setCell 0 _).cell (p:=⟨bb,0,none⟩) n3.symm).trans c2v) fun hHeld=>?_
 clear hK K;refine wpAnyH_done Zk ?_ _
 try simp only[List.getElem_toArray,List.getElem_cons_succ,List.getElem_cons_zero,Act.put,List.setIfInBounds_toArray,List.set_cons_zero,List.set_cons_succ]
 clear c1v c2v fzv hHeld c1 c2 fz O3 R3;obtain⟨c1,c2,fz,R5,T5⟩:=FW.out;clear FW;generalize v3.setCell ⟨lb,0,none⟩ (.int .i64 (M:Int))=w5 at*;generalize putAt f4 8 p.length (co p)=f5 at*;have RS:Rd w5 (.slice (some ⟨g,0,none⟩) M L) (hdS A E p):=by rw[<-HH.out];exact R5.partS Zo Zo Zo Zl
 have hsl:=hdS_length A E p;have hML':(M:Int)<=(L:Int):=Zo
 have s5:=T5.size
 go_wp2_with fail
 refine(csum_any RS Zo).mono ?_
 rintro e' w6 ⟨rfl,b6⟩;have R6:=R5.later b6;have d1:=(b6.cell (p:=⟨lb,0,none⟩) (show lb<w5.heap.size by omega)).trans c1;have d2:=(b6.cell (p:=⟨bb,0,none⟩) (show bb<w5.heap.size by omega)).trans c2;have dz:=(b6.frozen (p:=⟨lb,0,none⟩) (show lb<w5.heap.size by omega)).trans fz;have T6:TurnL [lb,g] w2 w6:=T5.trans (Below.turnL b6 _);have s6:=T6.size;clear RS R5 c1 c2 fz T5 b6 s5
 go_wp2_with fail
 refine(slay_any (n:=more 0 (hdS A E p)) rfl d1 d2 dz R6 Zo hL5 Zo Zo n1 n2 n3).mono ?_
 rintro e' w7 ⟨rfl,c1,c2,fz,R7,T7⟩;replace T7:=T6.trans T7;have HR:Hid (Rd w7 (.slice (some ⟨g,0,none⟩) L L) (pkS A E p)):=by
  have e1:upto (putAt f5 M 4 (co (fo (more 0 (hdS A E p))))) L=pkS A E p:=by
   have q1:=P5.put (fo (more 0 (hdS A E p))) (k:=M) (n:=4) (by simp[fo_length];omega) rfl;rw[q1.upto (by simp[fo_length];omega)];unfold pkS hdS;simp
  rw[<-e1];exact R7.rd
 have HB:Hid (Below wo.heap.size wo w7):=B2.trans (T7.below GB B2.size);have HF:Hid (FarV wo (.slice (some ⟨g,0,none⟩) L L)):=fun x n c e=>by simp at e;rw[<-e.1];exact Or.inr (GB g Zs)
 clear d1 d2 dz R6 T6 c1 fz R7 T7 P5 HH;go_wp2
 go_ret2
 exact⟨_,rfl,HR.out,HF.out,HB.out⟩
 ):p:=h
theorem z6_2{p:Prop} (h:p:=by
 go_wp2
 go_ret2
 exact⟨_,rfl,rd_nil0,FarV.nil _ _ _,Zf⟩
 ):p:=h
theorem z6_3{p:Prop} (h:p:=by
 refine rnH 5 fun K hK=>?_
 refine step_copy_rd rfl (.tmp 40) (.tmp 41) 42 42 rfl 5 Tryz.underlying42 info1_u8s rfl rfl RD rfl hdl RA Zo ?_
 intro v3 O3 R3;have c1v:=(O3.cell (p:=⟨lb,0,none⟩) n1).trans c1;have c2v:=(O3.cell (p:=⟨bb,0,none⟩) n2).trans c2;have fzv:=(O3.frozen (p:=⟨lb,0,none⟩) n1).trans fz;have FW:=FIN v3 O3 R3;clear FIN RD RA;refine koH hK c2v fun hHeld=>?_
 exact z6_1
 ):p:=h
theorem z6_5{p:Prop} (h:p:=by
 go_enter Tryz.func112,Tryz.ntmps112
 go_wp2_with fail
 refine smay_any.mono ?_
 rintro e' w' ⟨rfl,rfl⟩;rw[da]
 go_wp2_with fail
 refine smay_any.mono ?_
 rintro e' w' ⟨rfl,rfl⟩;rw[de];exact z6_2
 ):p:=h
theorem spack_far{a e:Int}{v:Value}{p:List UInt8}{w:World}(hp:Rd w v p):Calls Tryz.prog 112 #[.int .i64 a,.int .i64 e,v] w (MakesSF w (paX a e p) (paR a e p)):=by
 obtain⟨va,vc,rfl⟩:=hp.form;have hmax:=hp.len;unfold maxLen at hmax
 by_cases ha:0<=a/\a<=2147483647
 ·have da:decide (0<=a/\a<=2147483647)=true:=Zy ha
  by_cases he:0<=e/\e<=2147483647
  ·have de:decide (0<=e/\e<=2147483647)=true:=Zy he
   by_cases hl:p.length<=4096
   ·rw[(pa_ok ⟨ha,he,hl⟩).1,(pa_ok ⟨ha,he,hl⟩).2];have hl':¬(p.length:Int)>4096:=by omega
    obtain⟨i0,hi,hz0,hz1,hz2⟩:=info_parts info_u8;obtain⟨L,hL⟩:∃L,Hid (L=12+p.length):=⟨_,rfl⟩;have g0:(12:Int)+(p.length:Int)=(L:Int):=by have:=hL.out;omega
    have gw:IntKind.i64.wrap (L:Int)=(L:Int):=by rw[IntKind.wrap_i64];have:=hL.out;omega
    have hL5:L<=5000:=by have:=hL.out;omega
    have hL4:12<=L:=by have:=hL.out;omega
    go_enter Tryz.func112,Tryz.ntmps112
    go_wp2_with fail
    refine smay_any.mono ?_
    rintro e' w' ⟨rfl,rfl⟩;rw[da]
    go_wp2_with fail
    refine smay_any.mono ?_
    rintro e' w' ⟨rfl,rfl⟩;rw[de];clear da de;obtain⟨wo,hwo⟩:∃wo,wo=w':=⟨_,rfl⟩;subst hwo;obtain⟨A,rfl⟩:∃A:Nat,a=(A:Int):=⟨a.toNat,Zo⟩;obtain⟨E,rfl⟩:∃E:Nat,e=(E:Int):=⟨e.toNat,Zo⟩;rw[Int.toNat_natCast,Int.toNat_natCast];have wA:IntKind.u32.wrap (A:Int)=(A:Int):=by rw[IntKind.wrap_u32];omega
    have wE:IntKind.u32.wrap (E:Int)=(E:Int):=by rw[IntKind.wrap_u32];omega
    go_wp2_with (at_make;go_loud (refine wpList_make_full _ rfl (.tmp 26) (.tmp 26) 42 rfl wo.heap.size 5 i0 (.int .u8 0) 1 Tryz.underlying42 hi hz0 hz1 _ _ _ _ L rfl rfl Zo Zo (by rw[hz2];omega) Zl Zr ?_);intro w1 hown1 hgrow1;have R1:=RowF.made hown1;have B1:Below wo.heap.size wo w1:=Zf.grown hgrow1 Zr (fun k h=>by cases h);clear hown1 hgrow1)
    obtain⟨g,hg⟩:∃g,g=wo.heap.size:=⟨_,rfl⟩;obtain⟨bb,hbb⟩:∃bb,bb=w1.heap.size:=⟨_,rfl⟩;obtain⟨lb,hlb⟩:∃lb,lb=w1.heap.size+1:=⟨_,rfl⟩;have hlt:=R1.lt.2;obtain⟨w2,hw2⟩:∃w2,w2=((w1.alloc (.cells #[.slice (some ⟨wo.heap.size,0,none⟩) L L] 42)).alloc (.cells #[.int .i64 0] 3)):=⟨_,rfl⟩;have D2:Below w1.heap.size w1 w2:=by rw[hw2];exact below_lit (below_lit Zf _) _
    have R2:RowF w2 wo.heap.size 5 wo.heap.size L L (fun _=>0):=R1.later D2;have s2:w2.heap.size=w1.heap.size+2:=by rw[hw2];simp
    have c1:w2.cell? ⟨lb,0,none⟩=some (.int .i64 ((0:Nat):Int)):=by rw[hw2,hlb];go_simp
    have c2:w2.cell? ⟨bb,0,none⟩=some (.slice (some ⟨g,0,none⟩) L L):=by rw[hw2,hbb,hg];go_simp
    have fz:w2.frozen? ⟨lb,0,none⟩=false:=by rw[hw2,hlb];go_simp
    have B2:Below wo.heap.size wo w2:=Below.step B1 D2;rw[<-hw2,<-hlb,<-hbb,<-hg];rw[<-hg]at R2;have n1:lb≠g:=Zo
    have n2:bb≠g:=Zo
    have n3:lb≠bb:=Zo
    have l1:lb<w2.heap.size:=Zo
    have l2:bb<w2.heap.size:=Zo
    have AP:ApartL [lb,g] (.slice va p.length vc):=hp.apartL (by intro x hx;simp at hx;omega);have R2p:=hp.below B2;have GB:∀x,x∈[lb,g]->wo.heap.size<=x:=by intro x hx;simp at hx;omega
    have PZ:Pre (fun _=>0) []:=Pre.nil _;clear hw2 s2 D2 R1 B1 hlt hg hbb hlb hp;refine(slay_any (n:=A) rfl c1 c2 fz R2 Zo hL5 l1 l2 n1 n2 n3).mono ?_
    rintro e' w3 ⟨rfl,d1,d2,dz,R3,T3⟩;have P3:Pre (putAt (fun _=>0) 0 4 (co (fo A))) ([]++fo A):=PZ.put (fo A) rfl rfl;have s3:=T3.size;clear c1 c2 fz R2 PZ;generalize putAt (fun _=>0) 0 4 (co (fo A))=f3 at*
    go_wp2_with fail
    refine(slay_any (n:=E) rfl d1 d2 dz R3 Zo hL5 Zo Zo n1 n2 n3).mono ?_
    rintro e' w4 ⟨rfl,c1,c2,fz,R4,T4⟩;have P4:Pre (putAt f3 (0+4) 4 (co (fo E))) (([]++fo A)++fo E):=P3.put (fo E) rfl rfl;replace T4:=T3.trans T4;have s4:=T4.size;clear d1 d2 dz R3 P3 T3 s3;generalize putAt f3 (0+4) 4 (co (fo E))=f4 at*;rw[show 0+4+4=8 from rfl]at c1;have RD:=(R2p.turnL AP T4).drewN 1;have RA:RowF w4.drew g 5 g L L f4:=R4.later Zf.drew;obtain⟨M,hM⟩:∃M,Hid (M=8+p.length):=⟨_,rfl⟩;have g5:(8:Int)+(p.length:Int)=(M:Int):=by have:=hM.out;omega
    have gw5:IntKind.i64.wrap (M:Int)=(M:Int):=by rw[IntKind.wrap_i64];have:=hM.out;omega
    have hML:M+4=L:=by have:=hM.out;have:=hL.out;omega
    have hM8:8<=M:=by have:=hM.out;omega
    have P5:Pre (putAt f4 8 p.length (co p)) (([]++fo A++fo E)++p):=P4.put p rfl rfl;have HH:Hid (upto (putAt f4 8 p.length (co p)) M=hdS A E p):=by
     show _=_
     rw[P5.upto (by rw[hM.out];simp[fo_length];omega)];unfold hdS;simp
    have hdl:p.length<=L-8:=by have:=hM.out;omega
    have g6:(8:Int)<=(L:Int):=Zo
    have g7:¬L=8:=Zo
    have g8:8<L:=Zo
    have hpl:8+p.length<=L:=by have:=hM.out;omega
    have FIN:∀v3,Only g w4.drew v3->RowF v3 g 5 g L L (putAt f4 8 p.length (co p))->Hid ((v3.setCell ⟨lb,0,none⟩ (.int .i64 (M:Int))).cell? ⟨lb,0,none⟩=some (.int .i64 (M:Int))/\(v3.setCell ⟨lb,0,none⟩ (.int .i64 (M:Int))).cell? ⟨bb,0,none⟩=some (.slice (some ⟨g,0,none⟩) L L)/\(v3.setCell ⟨lb,0,none⟩ (.int .i64 (M:Int))).frozen? ⟨lb,0,none⟩=false/\RowF (v3.setCell ⟨lb,0,none⟩ (.int .i64 (M:Int))) g 5 g L L (putAt f4 8 p.length (co p))/\TurnL [lb,g] w2 (v3.setCell ⟨lb,0,none⟩ (.int .i64 (M:Int)))):=by
     intro v3 O3 R3;have c1v:=(O3.cell (p:=⟨lb,0,none⟩) n1).trans c1;have c2v:=(O3.cell (p:=⟨bb,0,none⟩) n2).trans c2;have fzv:=(O3.frozen (p:=⟨lb,0,none⟩) n1).trans fz;have OO:=(Only.refl lb v3).setCell 0 (.int .i64 (M:Int));refine⟨by simp[go_sem,c1v],(OO.cell (p:=⟨bb,0,none⟩) n3.symm).trans c2v,by simp[go_sem,fzv],R3.only n1.symm OO,((T4.drew).trans (O3.turnL Zs)).trans (OO.turnL Zs)⟩
    clear R2p AP R4 hM P4 hL;go_wp2
    --REGION
    refine wp_region_held_drew (S:=(fun wx=>wx.cell? ⟨bb,0,none⟩=some (.slice (some ⟨g,0,none⟩) L L))) Zk ?_ (fun hHeld=>?_)
    ·exact c2
    refine tkH 1 ?_
    refine tkH 4 ?_
    refine rmH 0 2 (fun K hK=>?_) fun K hK=>?_
    ·go_simp;refine koH hK Za fun hHeld=>?_
     clear hK K;refine rnH 2 fun K hK=>?_
     go_simp;refine koH hK Za fun hHeld=>?_
     clear hK K;refine tkH 3 ?_
     exact z6_3
    ·go_simp;refine koH hK Za fun hHeld=>?_
     clear hK K;refine tkH 3 ?_
     refine rmH 0 5 (fun K hK=>?_) fun K hK=>?_
     ·go_simp;refine koH hK Za fun hHeld=>?_
      clear hK K;exact z6_3
     ·refine step_copy_rd rfl (.tmp 40) (.tmp 41) 42 42 rfl 5 Tryz.underlying42 info1_u8s rfl rfl RD rfl hdl RA Zo ?_
      intro v3 O3 R3;have c1v:=(O3.cell (p:=⟨lb,0,none⟩) n1).trans c1;have c2v:=(O3.cell (p:=⟨bb,0,none⟩) n2).trans c2;have fzv:=(O3.frozen (p:=⟨lb,0,none⟩) n1).trans fz;have FW:=FIN v3 O3 R3;clear FIN RD RA;refine koH hK c2v fun hHeld=>?_
      clear hK K;refine rnH 0 fun K hK=>?_
      go_simp;refine koH hK Za fun hHeld=>?_
      exact z6_1
 --REGION END
   ·rw[(pa_not (fun h=>hl h.2.2)).1,(pa_not (fun h=>hl h.2.2)).2];have hl':(p.length:Int)>4096:=by omega
    exact z6_5
  ·have de:decide (0<=e/\e<=2147483647)=false:=Zx he;rw[(pa_not (fun h=>he h.2.1)).1,(pa_not (fun h=>he h.2.1)).2];exact z6_5
 ·have da:decide (0<=a/\a<=2147483647)=false:=Zx ha;rw[(pa_not (fun h=>ha h.1)).1,(pa_not (fun h=>ha h.1)).2]
  go_enter Tryz.func112,Tryz.ntmps112
  go_wp2_with fail
  refine smay_any.mono ?_
  rintro e' w' ⟨rfl,rfl⟩;rw[da];exact z6_2
theorem spack_any{a e:Int}{v:Value}{p:List UInt8}{w:World}(hp:Rd w v p):Calls Tryz.prog 112 #[.int .i64 a,.int .i64 e,v] w (MakesS w (paX a e p) (paR a e p)):=(spack_far hp).mono fun _ _ h=>h.s
def MakesUF(w:World)(N:Nat)(D:List UInt8)(X:Int)(e:Ending)(w':World):Prop:=∃v,e= .returned (.tuple #[.int .i64 (N:Int),v,.int .i64 X])/\Rd w' v D/\FarV w v/\Below w.heap.size w w'
theorem Rd.cutS{w:World}{b off n c:Nat}{p:List UInt8}(h:Rd w (.slice (some ⟨b,off,none⟩) n c) p){i m c':Nat}(hm:i+m<=p.length)(hi:0<p.length)(hc:c'=c-i):Rd w (.slice (some ⟨b,off+i,none⟩) m c') ((p.drop i).take m):=by
 rcases h with⟨a,c0,e,_⟩|⟨b',off',c0,h1,h2,h3,h4,h5,h6⟩
 ·subst e;simp at hi
 ·simp at h2;obtain⟨⟨rfl,rfl⟩,rfl,rfl⟩:=h2;subst hc;have hl:((p.drop i).take m).length=m:=by rw[List.length_take,List.length_drop];omega
  by_cases h0:m=0
  ·subst h0;exact Or.inl ⟨_,_,rfl,rfl,Zo,fun e=>by cases e⟩
  ·refine Or.inr ⟨b,off+i,c-i,fun e=>by rw[e]at hl;simp at hl;omega,by rw[hl],by rw[hl];omega,Zo,h5,fun j hj=>?_⟩;rw[hl]at hj;rw[co_take hj,co_drop0,Nat.add_assoc];exact h6 (i+j) Zo
theorem sunpack_far{a:Int}{v:Value}{p:List UInt8}{w:World}(hp:Rd w v p)(hl:p.length<=100000):Calls Tryz.prog 187 #[.int .i64 a,v] w (MakesUF w (upN a p) (upD a p) (upX a p)):=by
 by_cases h12:12<=p.length
 ·rcases hp.form with⟨va,vc,rfl⟩
  rcases hp with⟨a',c',rfl,_⟩|⟨b,o,c',hp0,e0,h1,h2,h3,hpc⟩
  ·simp at h12
  simp at e0;obtain⟨rfl,rfl⟩:=e0;have hp:Rd w (.slice (some ⟨b,o,none⟩) p.length vc) p:=Or.inr ⟨b,o,vc,hp0,rfl,h1,h2,h3,hpc⟩;clear hpc hp0;have hlt:¬(p.length:Int)<12:=Zo
  obtain⟨n4,hn4⟩:∃n4,Hid (n4=p.length-4):=⟨_,rfl⟩;have hn5:n4+4=p.length:=by have:=hn4.out;omega
  have g0:(p.length:Int)-4=(n4:Int):=Zo
  have gw:IntKind.i64.wrap (n4:Int)=(n4:Int):=Zw
  have g1:(n4:Int)<=(p.length:Int):=Zo
  have g2:(8:Int)<=(n4:Int):=Zo
  have g3:8<=n4:=Zo
  have g4:n4<=vc:=Zo
  have g5:(n4:Int)<=(vc:Int):=Zo
  have g6:¬vc=8:=Zo
  have hda:Rd w (.slice (some ⟨b,o+8,none⟩) (n4-8) (vc-8)) (daS p):=hp.cutS (i:=8) (m:=n4-8) Zo Zo rfl|>(by rw[show daS p=(p.drop 8).take (n4-8) by unfold daS;congr 1;omega];exact ·);have hdl:=daS_length p
  by_cases hk:OkSe a ((epS p:Nat):Int) (daS p).length
  ·have px:=pa_ok hk;rw[Int.toNat_natCast]at px;have hpk:(pkS a.toNat (epS p) (daS p)).length=p.length:=by rw[pk_length];omega
   by_cases hs:pkS a.toNat (epS p) (daS p)=p
   ·have hu:OkUe a p:=⟨h12,hk,hs⟩;rw[(up_ok hu).1,(up_ok hu).2.1,(up_ok hu).2.2];have ds:sameB (pkS a.toNat (epS p) (daS p)) p=true:=Zy hs;clear hs hu
    go_enter Tryz.func187,Tryz.ntmps187
    go_wp2_with fail
    refine(snum_any hp h12).mono ?_
    rintro e' w' ⟨rfl,rfl⟩
    go_wp2_with fail
    obtain⟨wo,hwo⟩:∃wo,wo=w':=⟨_,rfl⟩;subst hwo;refine(spack_any hda).mono ?_
    rintro e' w1 ⟨v1,rfl,R1,B1⟩;rw[px.1];rw[px.2]at R1;obtain⟨a1,c1,rfl⟩:=R1.form;rw[hpk]at R1 ⊢;replace hp:=hp.below B1;replace hda:=hda.below B1
    go_wp2_with fail
    refine(beq_any R1 hp).mono ?_
    rintro e' w2 ⟨rfl,rfl⟩;rw[ds]
    go_wp2_with fail
    obtain⟨w1,hw1⟩:∃w1,w1=w2:=⟨_,rfl⟩;subst hw1;have hn8:n4-8=(daS p).length:=Zo
    rw[hn8]at hda ⊢;refine(sclone_any hda Zo).mono ?_
    rintro e' w3 ⟨v3,rfl,R3,V3,B3⟩;have HV:Hid (FarV wo v3):=fun x n c e=>(V3 x n c e).imp id fun q=>Nat.le_trans B1.size q
    have HB:Hid (Below wo.heap.size wo w3):=Below.step B1 B3;clear R1 hp hda B1 B3 V3;go_wp2
    go_ret3
    exact⟨_,rfl,R3,HV.out,HB.out⟩
   ·have hn:¬OkUe a p:=fun h=>hs h.2.2
    rw[(up_not hn).1,(up_not hn).2.1,(up_not hn).2.2];have ds:sameB (pkS a.toNat (epS p) (daS p)) p=false:=Zx hs
    go_enter Tryz.func187,Tryz.ntmps187
    go_wp2_with fail
    refine(snum_any hp h12).mono ?_
    rintro e' w' ⟨rfl,rfl⟩
    go_wp2_with fail
    obtain⟨wo,hwo⟩:∃wo,wo=w':=⟨_,rfl⟩;subst hwo;refine(spack_any hda).mono ?_
    rintro e' w1 ⟨v1,rfl,R1,B1⟩;rw[px.1];rw[px.2]at R1;obtain⟨a1,c1,rfl⟩:=R1.form;rw[hpk]at R1 ⊢;replace hp:=hp.below B1;have HB:Hid (Below wo.heap.size wo w1):=B1;clear hda B1
    go_wp2_with fail
    refine(beq_any R1 hp).mono ?_
    rintro e' w2 ⟨rfl,rfl⟩;rw[ds];clear R1 hp;go_wp2
    go_ret3
    exact⟨_,rfl,rd_nil0,FarV.nil _ _ _,HB.out⟩
  ·have px:=pa_not hk;have hn:¬OkUe a p:=fun h=>hk h.2.1
   rw[(up_not hn).1,(up_not hn).2.1,(up_not hn).2.2]
   go_enter Tryz.func187,Tryz.ntmps187
   go_wp2_with fail
   refine(snum_any hp h12).mono ?_
   rintro e' w' ⟨rfl,rfl⟩
   go_wp2_with fail
   obtain⟨wo,hwo⟩:∃wo,wo=w':=⟨_,rfl⟩;subst hwo;refine(spack_any hda).mono ?_
   rintro e' w1 ⟨v1,rfl,R1,B1⟩;rw[px.1];have HB:Hid (Below wo.heap.size wo w1):=B1;clear hda B1 R1 hp;go_wp2
   go_ret3
   exact⟨_,rfl,rd_nil0,FarV.nil _ _ _,HB.out⟩
 ·have hn:¬OkUe a p:=fun h=>h12 h.1
  rw[(up_not hn).1,(up_not hn).2.1,(up_not hn).2.2];obtain⟨va,vc,rfl⟩:=hp.form;have hlt:(p.length:Int)<12:=Zo
  go_enter Tryz.func187,Tryz.ntmps187
  go_wp2
  go_ret3
  exact⟨_,rfl,rd_nil0,FarV.nil _ _ _,Zf⟩
theorem ownsF{w:World}{base e n:Nat}{v:Value}{xs:List Value}(h:w.ownsRow base e 1 v n xs):∃a c,v= .slice a n c:=by
 obtain⟨_,⟨hv,hn⟩|⟨g,cap,cur,hv,_⟩⟩:=h
 ·exact⟨none,0,by rw[hv,hn]⟩
 ·exact⟨_,cap,hv⟩
theorem own_cat{w:World}{base e A E:Nat}{v:Value}{p:List UInt8}(h:w.ownsRow base e 1 v (8+p.length) ((fo A++fo E).map vb++p.map vb))(hl:(hdS A E p).length=p.length+8):w.ownsRow base e 1 v (hdS A E p).length ((hdS A E p).map vb):=by
 rw[hl,Nat.add_comm]
 have:(hdS A E p).map vb=(fo A++fo E).map vb++p.map vb:=by
  unfold hdS;simp
 rw[this];exact h
theorem z6_6{p:Prop} (h:p:=by
 go_enter Tryz.func133,Tryz.ntmps133
 exact z6_2
 ):p:=h
theorem rpack_far{a e:Int}{v:Value}{p:List UInt8}{w:World}(hp:Rd w v p)(hpl:p.length<=100000):Calls Tryz.prog 133 #[.int .i64 a,.int .i64 e,v] w (MakesSF w (paX a e p) (paR a e p)):=by
 obtain⟨va,vc,rfl⟩:=hp.form
 by_cases ho:OkSe a e p.length
 ·rw[(pa_ok ho).1,(pa_ok ho).2];obtain⟨ha,he,hl⟩:=ho;have a1:¬a<0:=by omega
  have a2:¬a>2147483647:=Zo
  have e1:¬e<0:=Zo
  have e2:¬e>2147483647:=Zo
  have hl':¬(p.length:Int)>4096:=Zo
  obtain⟨i0,hi,hz0,hz1,hz2⟩:=info_parts info_u8;obtain⟨A,rfl⟩:∃A:Nat,a=(A:Int):=⟨a.toNat,Zo⟩;obtain⟨E,rfl⟩:∃E:Nat,e=(E:Int):=⟨e.toNat,Zo⟩;rw[Int.toNat_natCast,Int.toNat_natCast];have wA:IntKind.u32.wrap (A:Int)=(A:Int):=by rw[IntKind.wrap_u32];omega
  have wE:IntKind.u32.wrap (E:Int)=(E:Int):=by rw[IntKind.wrap_u32];omega
  go_enter Tryz.func133,Tryz.ntmps133
  go_wp2_with fail
  refine(rfour_any (n:=A) rfl).mono ?_
  rintro e' w1 ⟨v1,rfl,O1,B1⟩
  go_wp2_with fail
  refine(rfour_any (n:=E) rfl).mono ?_
  rintro e' w2 ⟨v2,rfl,O2,B2⟩;have R2:Rd w2 v2 (fo E):=Rd.owned O2;replace O1:=owns_later O1 B2;have C2:Below w.heap.size w w2:=Below.step B1 B2;clear B1 B2 O2;have hs2:=C2.size;obtain⟨k1,k2,rfl⟩:=ownsF O1;obtain⟨k3,k4,rfl⟩:=R2.form
  go_wp2_with (first
   |(at_builtin;refine wpList_append_rd _ rfl (.tmp 30) (.tmp 33) 42 rfl w.heap.size 5 i0 Tryz.underlying42 hi hz0 hz1 hz2 (.slice k1 4 k2) 4 _ rfl O1 (.slice k3 (fo E).length k4) (fo E) rfl R2 (by rw[fo_length];decide) hs2 ?_;intro v3 w3 O3 G3;have C3:Below w.heap.size w w3:=below_own C2 hs2 O1 G3;have hp3:Rd w3 (.slice va p.length vc) p:=hp.below C3;have hs3:=C3.size;replace O3:w3.ownsRow w.heap.size 5 1 v3 8 ((fo A++fo E).map vb):=O3;obtain⟨k5,k6,rfl⟩:=ownsF O3;clear O1 R2 G3)
   |(at_builtin;refine wpList_append_rd _ rfl (.tmp 34) (.tmp 35) 42 rfl w.heap.size 5 i0 Tryz.underlying42 hi hz0 hz1 hz2 (.slice k5 8 k6) 8 _ rfl O3 (.slice va p.length vc) p rfl hp3 Zo hs3 ?_;intro v4 w4 O4 G4;have C4:Below w.heap.size w w4:=below_own C3 hs3 O3 G4;have hs4:=C4.size;replace O4:w4.ownsRow w.heap.size 5 1 v4 (hdS A E p).length ((hdS A E p).map vb):=own_cat O4 (hdS_length A E p);obtain⟨k7,k8,rfl⟩:=ownsF O4;clear O3 hp3 G4)
   |fail)
  have R4:=Rd.owned O4;have hsl:Hid ((hdS A E p).length=p.length+8):=hdS_length A E p;refine(rsum_any R4 (by have:=hsl.out;omega)).mono ?_
  rintro e' w5 ⟨rfl,rfl⟩
  go_wp2_with fail
  refine(rfour_any (n:=more 0 (hdS A E p)) rfl).mono ?_
  rintro e' w6 ⟨v6,rfl,O6,B6⟩;have R6:Rd w6 v6 (fo (more 0 (hdS A E p))):=Rd.owned O6;have C6:Below w.heap.size w w6:=Below.step C4 B6;have hs6:=C6.size;replace O4:=owns_later O4 B6;obtain⟨k9,k10,rfl⟩:=R6.form;clear R4 O6 B6;generalize hfo:fo (more 0 (hdS A E p))=f4 at*;have HF:Hid (fo (more 0 (hdS A E p))=f4):=hfo;have hf4:Hid (f4.length=4):=by show _=_;rw[<-hfo];rfl
  clear hfo
  go_wp2_with (first
   |(at_builtin;refine wpList_append_rd _ rfl (.tmp 37) (.tmp 40) 42 rfl w.heap.size 5 i0 Tryz.underlying42 hi hz0 hz1 hz2 (.slice k7 (hdS A E p).length k8) (hdS A E p).length _ rfl O4 (.slice k9 f4.length k10) f4 rfl R6 (by have:=hsl.out;have:=hf4.out;omega) hs6 ?_;intro v7 w7 O7 G7;have C7:Hid (Below w.heap.size w w7):=below_own C6 hs6 O4 G7;have R7:Hid (Rd w7 v7 (pkS A E p)):=(by show Rd _ _ _;unfold pkS;rw[HF.out];refine Rd.owned (base:=w.heap.size) (e:=5) ?_;rw[List.length_append,List.map_append];exact O7);have F7:Hid (FarV w v7):=FarV.own O7;clear O4 R6 G7 O7)
   |fail)
  go_ret2
  exact⟨_,rfl,R7.out,F7.out,C7.out⟩
 ·have hn:=ho;rw[(pa_not ho).1,(pa_not ho).2];unfold OkSe at hn
  by_cases a1:a<0
  ·exact z6_6
  by_cases a2:a>2147483647
  ·exact z6_6
  by_cases e1:e<0
  ·exact z6_6
  by_cases e2:e>2147483647
  ·exact z6_6
  have hl':(p.length:Int)>4096:=Zo
  clear hn ho;exact z6_6
theorem not_gt31{x:Nat}(h:x<=2147483647):¬(x:Int)>2147483647:=Zo
theorem is_gt31{x:Nat}(h:¬x<=2147483647):(x:Int)>2147483647:=Zo
theorem bne_same{x y:Nat}(h:x=y):((x:Int)!=(y:Int))=false:=by rw[h];simp
theorem bne_other{x y:Nat}(h:¬x=y):((x:Int)!=(y:Int))=true:=Zm
def MakesV11(w:World)(u:Value)(N:Nat)(D:List UInt8)(X:Int)(e:Ending)(w':World):Prop:=∃v,e= .returned (.tuple #[.int .i64 (N:Int),v,.int .i64 X])/\Rd w' v D/\PartV u v/\Below w.heap.size w w'
theorem z6_4{p:Prop} (h:p:=by
 clear hb
 go_enter Tryz.func175,Tryz.ntmps175
 go_wp2
 go_ret3
 exact⟨_,rfl,rd_nil0,PartV.nil _ _ _,Zf⟩
 ):p:=h
theorem runpack_part{a:Int}{v:Value}{p:List UInt8}{w:World}(hp:Rd w v p)(hl:p.length<=100000):Calls Tryz.prog 175 #[.int .i64 a,v] w (MakesV11 w v (upN a p) (upD a p) (upX a p)):=by
 have HI:Hid (OkUe a p↔_):=okU_iff (a:=a) (b:=p)
 by_cases hb:12<=p.length/\p.length<=4108/\0<=a/\a<=2147483647
 ·obtain⟨h12,hmx,a0,am⟩:=hb
  rcases hp.form with⟨va,vc,rfl⟩
  rcases hp with⟨a',c',rfl,_⟩|⟨b,o,c',hp0,e0,h1,h2,h3,hpc⟩
  ·simp at h12
  simp at e0;obtain⟨rfl,rfl⟩:=e0;have hp:Rd w (.slice (some ⟨b,o,none⟩) p.length vc) p:=Or.inr ⟨b,o,vc,hp0,rfl,h1,h2,h3,hpc⟩;clear hpc hp0;obtain⟨n4,hn4⟩:∃n4,Hid (n4=p.length-4):=⟨_,rfl⟩;have hn5:Hid (n4+4=p.length):=by show _=_;have:=hn4.out;omega
  have PZ:Hid (p.length≠0):=by show _≠_;have:=hn5.out;omega
  have hq:p.length-n4=4:=by have:=hn5.out;omega
  have g0:(p.length:Int)-4=(n4:Int):=by have:=hn5.out;omega
  have gw:IntKind.i64.wrap (n4:Int)=(n4:Int):=by rw[IntKind.wrap_i64];have:=hn5.out;omega
  have g1:(n4:Int)<=(p.length:Int):=Zo
  have g2:(8:Int)<=(n4:Int):=by have:=hn5.out;omega
  have g2':¬(n4:Int)<8:=Zo
  have g2'':¬(n4:Int)>4104:=by have:=hn5.out;omega
  have g3:8<=n4:=Zo
  have g4:n4<=vc:=by have:=hn5.out;omega
  have g5:(n4:Int)<=(vc:Int):=Zo
  have g6:¬vc=8:=Zo
  have g7:¬vc=n4:=by have:=hn5.out;omega
  have g8:¬vc=4:=Zo
  have g9:(8:Int)<=(vc:Int):=Zo
  have g10:(4:Int)<=(vc:Int):=Zo
  have g11:8<=vc:=Zo
  have g12:4<=vc:=Zo
  have a0':¬a<0:=Zo
  have am':¬a>2147483647:=Zo
  obtain⟨A,rfl⟩:∃A:Nat,a=(A:Int):=⟨a.toNat,Zo⟩;have wA:IntKind.u32.wrap (A:Int)=(A:Int):=by rw[IntKind.wrap_u32];omega
  have hX:Hid (n4-8=p.length-12):=by show _=_;have:=hn5.out;omega
  have HR:Hid (∀W,Below w.heap.size w W->Rd W (.slice (some ⟨b,o+4,none⟩) 4 (vc-4)) ((p.drop 4).take 4)/\Rd W (.slice (some ⟨b,o+n4,none⟩) 4 (vc-n4)) (p.drop (p.length-4))/\Rd W (.slice (some ⟨b,o,none⟩) n4 vc) (p.take (p.length-4))/\Rd W (.slice (some ⟨b,o,none⟩) 4 vc) (p.take 4)/\Rd W (.slice (some ⟨b,o+8,none⟩) (n4-8) (vc-8)) (daS p)):=by
   intro W hW;have hp':=hp.below hW;have:=hn5.out;refine⟨hp'.cutS (i:=4) (m:=4) Zo Zo rfl,?_,?_,?_,?_⟩
   ·have q:=hp'.cutS (i:=n4) (m:=4) (c':=vc-n4) Zo Zo rfl;rw[List.take_of_length_le (by rw[List.length_drop];omega)]at q;rw[show p.length-4=n4 by omega];exact q
   ·have q:=hp'.cutS (i:=0) (m:=n4) (c':=vc) Zo Zo rfl;rw[show p.length-4=n4 by omega];exact q
   ·have q:=hp'.cutS (i:=0) (m:=4) (c':=vc) Zo Zo rfl;exact q
   ·have q:=hp'.cutS (i:=8) (m:=n4-8) (c':=vc-8) Zo Zo rfl;unfold daS;rw[<-hX.out];exact q
  have hE:=epS_lt p;have wE:IntKind.i64.wrap ((epS p:Nat):Int)=((epS p:Nat):Int):=Zw
  have HE:Hid (nu ((p.drop 4).take 4)=epS p):=rfl;have l1:Hid (((p.drop 4).take 4).length=4):=by show _=_;rw[List.length_take,List.length_drop];omega
  have l2:Hid ((p.drop (p.length-4)).length=4):=by show _=_;rw[List.length_drop];omega
  have l3:Hid ((p.take (p.length-4)).length<=1000000):=by show _<=_;rw[List.length_take];omega
  have l4:Hid ((p.take 4).length=4):=by show _=_;rw[List.length_take];omega
  have HN1:Hid (∀W,Below w.heap.size w W->Calls Tryz.prog 177 #[.slice (some ⟨b,o+n4,none⟩) 4 (vc-n4)] W fun e w'=>e= .returned (.int .u32 ((nu (p.drop (p.length-4)):Nat):Int))/\Below w.heap.size w w'):=fun W hW=>(rnum_any (HR.out W hW).2.1 l2.out).mono fun e w' h=>⟨h.1,Below.step hW h.2⟩
  have HN2:Hid (∀W,Below w.heap.size w W->Calls Tryz.prog 172 #[.slice (some ⟨b,o,none⟩) n4 vc] W fun e w'=>e= .returned (.int .u32 ((more 0 (p.take (p.length-4)):Nat):Int))/\Below w.heap.size w w'):=fun W hW=>(rsum_any (HR.out W hW).2.2.1 l3.out).mono fun e w' h=>⟨h.1,by rw[h.2];exact hW⟩
  have HN3:Hid (∀W,Below w.heap.size w W->Calls Tryz.prog 177 #[.slice (some ⟨b,o,none⟩) 4 vc] W fun e w'=>e= .returned (.int .u32 ((nu (p.take 4):Nat):Int))/\Below w.heap.size w w'):=fun W hW=>(rnum_any (HR.out W hW).2.2.2.1 l4.out).mono fun e w' h=>⟨h.1,Below.step hW h.2⟩
  by_cases s1:nu (p.drop (p.length-4))=more 0 (p.take (p.length-4))
  ·have d1:=bne_same s1
   by_cases s2:nu (p.take 4)=A
   ·have d2:=bne_same s2
    by_cases s3:epS p<=2147483647
    ·have hu:OkUe (A:Int) p:=HI.out.2 ⟨h12,hmx,a0,am,s1,s2,s3⟩;rw[(up_ok hu).1,(up_ok hu).2.1,(up_ok hu).2.2];have s3':=not_gt31 s3;clear HI hu s1 s2 s3
     go_enter Tryz.func175,Tryz.ntmps175
     go_wp2_with fail
     refine(rnum_any (HR.out _ Zf).1 l1.out).mono ?_
     rintro e' w1 ⟨rfl,B1⟩;rw[HE.out];go_wp2;have B1':=B1.drew;clear g0 gw g2' g2'' a0' am' B1 h12 hmx h1 h2 hl hE
     go_region_held3 (fun _=>True) (trivial) (first|(go_at_call_of 177 (Value.slice (some ⟨b,o+n4,none⟩) 4 (vc-n4));refine(HN1.out _ Za).mono ?_;rintro e' w2 ⟨rfl,B2⟩)|(go_at_call_of 172 (Value.slice (some ⟨b,o,none⟩) n4 vc);refine(HN2.out _ Za).mono ?_;rintro e' w3 ⟨rfl,B3⟩)|(go_at_call_of 177 (Value.slice (some ⟨b,o,none⟩) 4 vc);refine(HN3.out _ Za).mono ?_;rintro e' w4 ⟨rfl,B4⟩))
     go_wp2;have R5:=(HR.out _ B4.drew).2.2.2.2;have B5:=B4.drew;clear HR HN1 HN2 HN3 d1 d2 B1' B2 B3 hp
     go_region_held3 (fun _=>True) (trivial) (fail)
     go_wp2
     go_ret3
     exact⟨_,rfl,R5,PartV.cut PZ.out,B5⟩
    ·have s3':=is_gt31 s3;have hn:¬OkUe (A:Int) p:=fun h=>s3 (HI.out.1 h).2.2.2.2.2.2
     rw[(up_not hn).1,(up_not hn).2.1,(up_not hn).2.2];clear HI hn s1 s2 s3
     go_enter Tryz.func175,Tryz.ntmps175
     go_wp2_with fail
     refine(rnum_any (HR.out _ Zf).1 l1.out).mono ?_
     rintro e' w1 ⟨rfl,B1⟩;rw[HE.out];go_wp2;have B1':=B1.drew;clear g0 gw g2' g2'' a0' am' B1 h12 hmx h1 h2 hl hE
     go_region_held3 (fun _=>True) (trivial) (first|(go_at_call_of 177 (Value.slice (some ⟨b,o+n4,none⟩) 4 (vc-n4));refine(HN1.out _ Za).mono ?_;rintro e' w2 ⟨rfl,B2⟩)|(go_at_call_of 172 (Value.slice (some ⟨b,o,none⟩) n4 vc);refine(HN2.out _ Za).mono ?_;rintro e' w3 ⟨rfl,B3⟩)|(go_at_call_of 177 (Value.slice (some ⟨b,o,none⟩) 4 vc);refine(HN3.out _ Za).mono ?_;rintro e' w4 ⟨rfl,B4⟩))
     clear HR;go_wp2
     go_ret3
     exact⟨_,rfl,rd_nil0,PartV.nil _ _ _,B4⟩
   ·have d2:=bne_other s2;have hn:¬OkUe (A:Int) p:=fun h=>s2 (HI.out.1 h).2.2.2.2.2.1
    rw[(up_not hn).1,(up_not hn).2.1,(up_not hn).2.2];clear HI hn s1 s2
    go_enter Tryz.func175,Tryz.ntmps175
    go_wp2_with fail
    refine(rnum_any (HR.out _ Zf).1 l1.out).mono ?_
    rintro e' w1 ⟨rfl,B1⟩;rw[HE.out];go_wp2;have B1':=B1.drew;clear g0 gw g2' g2'' a0' am' B1 h12 hmx h1 h2 hl hE;refine wp_region_held_drew (S:=fun _=>True) Zk trivial (fun hHeld=>?_);refine tkH 0 ?_
    refine tkH 1 ?_
    refine tkH 2 ?_
    refine tkH 4 ?_
    refine tkH 5 ?_
    refine tkH 6 ?_
    refine rnH 3 fun K hK=>?_
    go_simp;refine(HN1.out _ Za).mono ?_
    rintro e' w2 ⟨rfl,B2⟩
    try go_simp
    refine hK.out _ _ trivial (fun hHeld=>?_);clear hK K
    try simp only[List.getElem_toArray,List.getElem_cons_succ,List.getElem_cons_zero,Act.put,List.setIfInBounds_toArray,List.set_cons_zero,List.set_cons_succ]
    refine rnH 7 fun K hK=>?_
    go_simp;refine(HN2.out _ Za).mono ?_
    rintro e' w3 ⟨rfl,B3⟩
    try go_simp
    refine hK.out _ _ trivial (fun hHeld=>?_);clear hK K
    try simp only[List.getElem_toArray,List.getElem_cons_succ,List.getElem_cons_zero,Act.put,List.setIfInBounds_toArray,List.set_cons_zero,List.set_cons_succ]
    refine tkH 8 ?_
    refine tkH 9 ?_
    refine tkH 10 ?_
    refine tkH 11 ?_
    refine tkH 13 ?_
    refine tkH 14 ?_
    refine rnH 12 fun K hK=>?_
    go_simp;refine(HN3.out _ Za).mono ?_
    rintro e' w4 ⟨rfl,B4⟩
    try go_simp
    refine hK.out _ _ trivial (fun hHeld=>?_);clear hK K
    try simp only[List.getElem_toArray,List.getElem_cons_succ,List.getElem_cons_zero,Act.put,List.setIfInBounds_toArray,List.set_cons_zero,List.set_cons_succ]
    refine tkH 15 ?_
    refine tkH 16 ?_
    refine tkH 17 ?_
    refine skH 18 ?_
    refine skH 19 ?_
    refine tkH 20 ?_
    refine wpAnyH_done Zk ?_ _
    try simp only[List.getElem_toArray,List.getElem_cons_succ,List.getElem_cons_zero,Act.put,List.setIfInBounds_toArray,List.set_cons_zero,List.set_cons_succ]
    clear HR;go_wp2
    go_ret3
    exact⟨_,rfl,rd_nil0,PartV.nil _ _ _,B4⟩
  ·have d1:=bne_other s1;have hn:¬OkUe (A:Int) p:=fun h=>s1 (HI.out.1 h).2.2.2.2.1
   rw[(up_not hn).1,(up_not hn).2.1,(up_not hn).2.2];clear HI hn s1
   go_enter Tryz.func175,Tryz.ntmps175
   go_wp2_with fail
   refine(rnum_any (HR.out _ Zf).1 l1.out).mono ?_
   rintro e' w1 ⟨rfl,B1⟩;rw[HE.out];go_wp2;have B1':=B1.drew;clear g0 gw g2' g2'' a0' am' B1 h12 hmx h1 h2 hl hE;refine wp_region_held_drew (S:=fun _=>True) Zk trivial (fun hHeld=>?_);refine tkH 0 ?_
   refine tkH 1 ?_
   refine tkH 2 ?_
   refine tkH 4 ?_
   refine tkH 5 ?_
   refine tkH 6 ?_
   refine rnH 3 fun K hK=>?_
   go_simp;refine(HN1.out _ Za).mono ?_
   rintro e' w2 ⟨rfl,B2⟩
   try go_simp
   refine hK.out _ _ trivial (fun hHeld=>?_);clear hK K
   try simp only[List.getElem_toArray,List.getElem_cons_succ,List.getElem_cons_zero,Act.put,List.setIfInBounds_toArray,List.set_cons_zero,List.set_cons_succ]
   refine rnH 7 fun K hK=>?_
   go_simp;refine(HN2.out _ Za).mono ?_
   rintro e' w3 ⟨rfl,B3⟩
   try go_simp
   refine hK.out _ _ trivial (fun hHeld=>?_);clear hK K
   try simp only[List.getElem_toArray,List.getElem_cons_succ,List.getElem_cons_zero,Act.put,List.setIfInBounds_toArray,List.set_cons_zero,List.set_cons_succ]
   refine tkH 8 ?_
   refine tkH 9 ?_
   refine skH 10 ?_
   refine skH 11 ?_
   refine skH 12 ?_
   refine skH 13 ?_
   refine skH 14 ?_
   refine skH 15 ?_
   refine tkH 16 ?_
   refine tkH 17 ?_
   refine skH 18 ?_
   refine skH 19 ?_
   refine tkH 20 ?_
   refine wpAnyH_done Zk ?_ _
   try simp only[List.getElem_toArray,List.getElem_cons_succ,List.getElem_cons_zero,Act.put,List.setIfInBounds_toArray,List.set_cons_zero,List.set_cons_succ]
   clear HR;go_wp2
   go_ret3
   exact⟨_,rfl,rd_nil0,PartV.nil _ _ _,B3⟩
 ·have hn:¬OkUe a p:=fun h=>hb (by have:=HI.out.1 h;omega)
  rw[(up_not hn).1,(up_not hn).2.1,(up_not hn).2.2];clear HI hn;obtain⟨va,vc,rfl⟩:=hp.form;have gw:IntKind.i64.wrap ((p.length:Int)-4)=(p.length:Int)-4:=Zw
  by_cases h1:(p.length:Int)-4<8
  ·exact z6_4
  by_cases h2:(p.length:Int)-4>4104
  ·exact z6_4
  by_cases h3:a<0
  ·exact z6_4
  have h4:a>2147483647:=Zo
  exact z6_4
end Go.Proofs.YtclieefpnbdbjaaGreat.Gf
