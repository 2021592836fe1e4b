/- JOINED: WdRefW, WdRefS, WdInts. -/
import Derived.Test.YtddnfhfangfgeaaGreatPome15
set_option maxHeartbeats 4000000
set_option maxRecDepth 100000
namespace Go.Proofs.YtddnfhfangfgeaaGreat.Gf
set_option linter.unusedVariables false
set_option linter.unusedSimpArgs false
open Go.RowKit
def MakesW10(w:World)(X:Int)(R:List UInt8)(P:List Nat)(e:Ending)(w':World):Prop:=∃va vd,e= .returned (.tuple #[va,vd,.int .i64 X])/\Rd w' va R/\OwnI w' w.heap.size 3 vd P/\Below w.heap.size w w'/\Far w.heap.size va
theorem nilW10{w w':World}{x:Int}(b:Below w.heap.size w w'){X:Int}{R:List UInt8}{P:List Nat}(h:X=x/\R=[]/\P=[]):MakesW10 w X R P (.returned (.tuple #[.slice none 0 0,.slice none 0 0,.int .i64 x])) w':=by
 obtain⟨rfl,rfl,rfl⟩:=h;exact⟨_,_,rfl,Or.inl ⟨none,0,rfl,rfl,Zz,fun _=>rfl⟩,OwnI.nil _ _ _,b,far_none⟩
def gW10(v:Value)(w:World)(i:Nat):Nat:=
 match v with
 | .slice (some a) _ _=>(intOf ((w.cell? ⟨a.block,i,none⟩).getD undef)).toNat
 |_=>0
def mea10(s r:Nat)(o:Value)(mo:Value)(w:World):Nat:=
 match mo with
 | .bool true=>(s+1)^r-rkF s (gW10 o w) r
 |_=>0
theorem mea_t(s r:Nat)(o:Value)(w:World):mea10 s r o (.bool true) w=(s+1)^r-rkF s (gW10 o w) r:=rfl
theorem mea_f(s r:Nat)(o:Value)(w:World):mea10 s r o (.bool false) w=0:=rfl
theorem rk_congr{n:Nat}{g h:Nat->Nat}{t:Nat}(e:∀i,i<t->g i=h i):rkF n g t=rkF n h t:=by
 induction t with
 |zero=>rfl
 |succ t ih=>rw[rkF,rkF,ih fun i hi=>e i Zo,e t Zo]
theorem rk_own{w:World}{base e n t:Nat}{v:Value}{g:Nat->Nat}(h:OwnI w base e v (stL g t)):rkF n (gW10 v w) t=rkF n g t:=by
 obtain⟨a,c,rfl⟩:=h.form;refine rk_congr fun i hi=>?_
 obtain⟨q,rfl,_,_,hc⟩:=h.cell (i:=i) (by rw[stL_length];exact hi);rw[stL_getD hi]at hc
 show(intOf ((w.cell? ⟨q,i,none⟩).getD undef)).toNat=g i
 rw[hc];simp[intOf]
theorem rword_main{k m s:Nat}{v vm:Value}{z:List UInt8}{ms:List Bool}{w:World}(h1:1<=k)(h2:k+m<=256)(hz:Rd w v z)(hM:RdB w vm ms)(hs0:s=k+m)(p1:z.length=s)(p2:ms.length=s):
  Calls Tryz.prog 152 #[.int .i64 (k:Int),.int .i64 (m:Int),v,vm] w (MakesW10 w (wdX k m z ms) (wdR k m z ms) (wdP k m z ms)):=by
 have ok:OkC (k:Int) (m:Int):=⟨Zo,Zo,Zo⟩;obtain⟨i0,hi,hz0,hz1,hz2⟩:=info_parts info_int;obtain⟨za,zc,rfl⟩:=hz.form;obtain⟨ma,mc,rfl⟩:=hM.form;have g1:(k:Int)+(m:Int)=(s:Int):=Zo
 have gw:IntKind.i64.wrap (s:Int)=(s:Int):=Zw
 have q1:((z.length:Int)!=(s:Int))=false:=by simp[p1]
 have q2:((ms.length:Int)!=(s:Int))=false:=by simp[p2]
 have p1':Hid _:=p1;have p2':Hid _:=p2;have hs0':Hid _:=hs0;clear p1 p2 hs0
 go_enter Tryz.func152,Tryz.ntmps152
 go_wp2_with fail
 refine(rccheck_ok _ ok).mono ?_
 rintro e u1 ⟨rfl,rfl⟩
 go_wp2_with fail
 refine(rcnt_any hM).mono ?_
 rintro e u2 ⟨rfl,rfl⟩;obtain⟨e0,he0⟩:∃e0,Hid (e0=cnt (hb ms) ms.length):=⟨_,rfl⟩;rw[<-he0.out];have he2:e0<=256:=by rw[he0.out];have:=cnt_le (hb ms) ms.length;have:=p2'.out;have:=hs0'.out;omega
 go_wp2_with fail
 go_loopw [13] (fun x wr=>∃t:Nat,t<=m+1/\x= .int .i64 (t:Int)/\Below u2.heap.size u2 wr/\Hid (∀t' g,t'<t->Inc s t' g->Vain k m z ms t' g)) (fun x _=>m+1-(intOf x).toNat)
 case atStart=>exact⟨0,Zo,rfl,Zf,fun t' g h=>Zo⟩
 case round=>
  obtain⟨t,ht,rfl,hB,hV⟩:=hrel;have gt1:IntKind.i64.wrap (2*(t:Int))=2*(t:Int):=Zw
  have gt2:IntKind.i64.wrap (2*(t:Int)+(e0:Int))=2*(t:Int)+(e0:Int):=Zw
  by_cases hle:2*t+e0<=m
  ·have hle':2*(t:Int)+(e0:Int)<=(m:Int):=by omega
   obtain⟨wo,hwo⟩:∃wo,wo=wr:=⟨_,rfl⟩;subst hwo
   go_wp2_with fail
   go_loopw [14,15] (fun o i wz=>∃r:Nat,r<=t/\i= .int .i64 (r:Int)/\OwnI wz u2.heap.size 3 o (stL (fun j=>j) r)/\Below u2.heap.size u2 wz) (fun _ i _=>t-(intOf i).toNat)
   case atStart=>exact⟨0,Zo,rfl,OwnI.nil _ _ _,hB⟩
   case round=>
    obtain⟨r,hr,rfl,hO,hB2⟩:=hrel;have hsz:=hB2.size;have hsl:Hid _:=stL_length (fun j=>j) r;obtain⟨av,cv,ev⟩:=hO.form;rw[hsl.out]at ev;subst ev
    by_cases hlt:r<t
    ·have hlt':(r:Int)<(t:Int):=by omega
     have E':Hid _:=stL_succ (fun j=>j) r;clear hz hM hB
     go_wp2_with (at_builtin;go_loud (refine wpList_append_int rfl (.tmp 57) (.tmp 59) 45 rfl u2.heap.size 3 i0 Tryz.underlying45 hi hz0 hz1 hz2 (.slice av r cv) (stL (fun j=>j) r) rfl hO r _ 1 rfl (by rw[hsl.out];omega) hsz ?_);intro v' w9 hv2 hb2)
     have HO:Hid (OwnI w9 u2.heap.size 3 v' (stL (fun j=>j) (r+1))):=by show OwnI _ _ _ _ _;rw[E'.out];exact hv2
     have HB:Hid (Below u2.heap.size u2 w9):=hB2.trans hb2;clear hO hv2 hb2 hB2;go_wp2;go_roundw
     case rel=>exact⟨r+1,Zo,Zg,HO.out,HB.out⟩
     case measure=>simp[intOf];omega
    ·have hge:¬(r:Int)<(t:Int):=by omega
     have er:r=t:=Zo
     subst er;obtain⟨wp,hwp⟩:∃wp,wp=wr:=⟨_,rfl⟩;subst hwp;have hrs:r<=s:=by have:=hs0'.out;omega
     go_wp2_with fail
     go_loopw [14,16] (fun o mo wz=>Below u2.heap.size u2 wz/\((mo= .bool true/\∃g,Hid (Inc s r g)/\OwnI wz u2.heap.size 3 o (stL g r)/\Hid (∀T,Inc s r T->Lx r T g->Vain k m z ms r T))∨(mo= .bool false/\(∃oa on oc,o= .slice oa on oc)/\Hid (∀T,Inc s r T->Vain k m z ms r T)))) (fun o mo wz=>mea10 s r o mo wz)
     case atStart=>exact⟨hB2,Or.inl ⟨rfl,fun j=>j,first_inc hrs,hO,fun T hT hl=>absurd hl (nx_first hT)⟩⟩
     case round=>
      clear hO;obtain⟨hB3,⟨rfl,g,hI,hO,hT⟩|⟨rfl,⟨oa,on,oc,rfl⟩,hT⟩⟩:=hrel
      ·have hlen:Hid _:=stL_length g r;obtain⟨av,cv,ev⟩:=hO.form;rw[hlen.out]at ev;subst ev;have R1:=hO.rd (by rw[hlen.out];omega);have hrk:Hid (rkF s (gW10 (.slice av r cv) wr) r=rkF s g r):=rk_own hO;have hlt9:Hid (rkF s g r<(s+1)^r):=rk_lt fun i hi=>Nat.le_of_lt (hI.out.lt i hi)
       have C1:=rtried_any (T:=stL g r) h1 h2 (by rw[p1'.out,hs0'.out]) (by rw[p2'.out,hs0'.out]) (hz.below hB3) (hM.below hB3) R1 (fun i hi9=>by rw[hlen.out]at hi9;rw[stL_getD hi9,<-hs0'.out];exact hI.out.lt i hi9) (by rw[hlen.out,<-hs0'.out,<-p2'.out,<-he0.out];omega) rfl rfl
       by_cases hd:cnt (tryW k m z ms (stL g r)) (k+m)<=(stL g r).length
       ·rw[Zy hd]at C1;have hN:=try_near h1 h2 (show ms.length=k+m by rw[p2'.out,hs0'.out]) (show z.length=k+m by rw[p1'.out,hs0'.out]) (T:=stL g r) (by rw[hlen.out,<-hs0'.out,<-p2'.out,<-he0.out];exact hle) hd;have hW:=wd_ok ok ⟨by rw[p1'.out,g1],by rw[p2'.out,g1]⟩ hN;have hLe:=try_len h1 (hs:=wth ms (stL g r)) (z:=z) (by rw[wth_length,p2'.out,hs0'.out]) (by rw[p1'.out,hs0'.out]) (wth_there (by rw[p2'.out,hs0'.out]) (by rw[hlen.out,<-hs0'.out,<-p2'.out,<-he0.out];omega));have EE:Hid (wdX k m z ms=0/\wdR k m z ms=tryL k m (wth ms (stL g r)) z/\wdP k m z ms=plc (tryW k m z ms (stL g r)) (k+m)):=⟨hW.1,hW.2.1.trans (by rw[<-hLe];exact upto_co _),hW.2.2⟩;clear hW hLe hN hd hT hV hI hrk hlt9 R1 hO hz hM hB2 hB
        go_wp2_with fail
        refine C1.mono ?_
        rintro e w9 ⟨va,vd,rfl,Ra,Rd9,b9,f9⟩;obtain⟨aa,ac,rfl⟩:=Ra.form;obtain⟨da,dc,rfl⟩:=Rd9.form;have HR:Hid (Rd w9 _ _/\OwnI w9 u2.heap.size 3 _ _/\Below u2.heap.size u2 w9/\Far u2.heap.size _):=And.intro Ra (And.intro (ownsRow_base Rd9 hB3.size) (And.intro (Below.next hB3 b9) (f9.mono hB3.size)));clear f9 Ra Rd9 b9 hB3 C1;go_wp2;exact bodyPost_ret (v:=.tuple #[.slice aa (tryL k m (wth ms (stL g r)) z).length ac,.slice da (plc (tryW k m z ms (stL g r)) (k+m)).length dc,.int .i64 0]) (by simp[results,Tryz.results152,go_sem]) rfl ⟨_,_,by rw[EE.out.1],by rw[EE.out.2.1];exact HR.out.1,by rw[EE.out.2.2];exact HR.out.2.1,HR.out.2.2.1,HR.out.2.2.2⟩
       ·rw[Zx hd]at C1;have HVn:Hid (Vain k m z ms r g):=by
         show r<cnt (tryW k m z ms (stL g r)) (k+m)
         rw[hlen.out]at hd;omega
        clear hd
        go_wp2_with fail
        refine C1.mono ?_
        rintro e w9 ⟨va,vd,rfl,Ra,Rd9,b9,f9⟩;obtain⟨aa,ac,rfl⟩:=Ra.form;obtain⟨da,dc,rfl⟩:=Rd9.form;have hO9:OwnI w9 u2.heap.size 3 (.slice av r cv) (stL g r):=owns_later hO b9;have B9:=Below.next hB3 b9;clear f9 Ra Rd9 b9 C1 R1 hO;generalize (tryL k m (wth ms (stL g r)) z).length=n1;generalize (plc (tryW k m z ms (stL g r)) (k+m)).length=n2;have C2:=rnext_any hO9 hI.out Zo Zo (x:=(s:Int)) rfl
        go_wp2_with fail
        refine C2.mono ?_
        rintro e w8 ⟨b8,h8⟩;have B8:=Below.next B9 b8
        rcases h8 with⟨i,hi1,hi2,hi3,v8,rfl,O8⟩|⟨hi3,rfl⟩
        ·have O8':OwnI w8 u2.heap.size 3 v8 (stL (nxF g i) r):=ownsRow_base O8 B9.size;obtain⟨na,nc,ev⟩:=O8'.form;rw[stL_length]at ev;subst ev;have HI:Hid _:=nx_inc hI.out hi1 hi2;have HT:Hid _:=tried_next (Bad:=Vain k m z ms r) hi1 hi3 (fun a b e h=>h.congr e) hT.out HVn.out;have HRk:Hid (rkF s (gW10 (.slice na r nc) w8) r=rkF s (nxF g i) r):=rk_own O8';have HLt:Hid (rkF s g r<rkF s (nxF g i) r):=rk_lx (fun j hj=>Nat.le_of_lt (hI.out.lt j hj)) (nx_lx hi1);have HL2:Hid (rkF s (nxF g i) r<(s+1)^r):=rk_lt fun j hj=>Nat.le_of_lt (HI.out.lt j hj)
         have HO:Hid _:=O8';have HB:Hid _:=B8;clear O8 O8' C2 b8 B8 B9 hO9 hi1 hi2 hi3 hT hI;go_wp2;go_roundw
         case rel=>exact⟨HB.out,Or.inl ⟨rfl,_,HI,HO.out,HT⟩⟩
         case measure=>
          show mea10 s r (.slice na r nc) (.bool true) w8<mea10 s r (.slice av r cv) (.bool true) wr
          rw[mea_t,mea_t,HRk.out,hrk.out];have:=HLt.out;have:=HL2.out;omega
        ·have HT:Hid _:=tried_all (Bad:=Vain k m z ms r) hi3 (fun a b e h=>h.congr e) hT.out HVn.out;have HB:Hid _:=B8;clear C2 b8 B8 B9 hO9 hi3 hT hI;go_wp2;go_roundw
         case rel=>exact⟨HB.out,Or.inr ⟨rfl,⟨_,_,_,rfl⟩,HT⟩⟩
         case measure=>
          show mea10 s r (.slice none 0 0) (.bool false) w8<mea10 s r (.slice av r cv) (.bool true) wr
          rw[mea_t,mea_f,hrk.out];have:=hlt9.out;omega
      ·have HV:Hid (∀t' g,t'<r+1->Inc s t' g->Vain k m z ms t' g):=fun t' g h hi9=>by
        by_cases q:t'=r
        ·rw[q]at hi9 ⊢;exact hT.out g hi9
        ·exact hV.out t' g Zo hi9
       clear hT hV hz hM hB2 hB;go_wp2;go_roundw
       case rel=>exact⟨r+1,Zo,Zg,hB3,HV⟩
       case measure=>simp[intOf];omega
  ·have hle':¬2*(t:Int)+(e0:Int)<=(m:Int):=by omega
   have EE:Hid _:=wd_many (z:=z) (ms:=ms) ok ⟨by rw[p1'.out,g1],by rw[p2'.out,g1]⟩ (vain_none h1 h2 (by rw[p2'.out,hs0'.out]) (by rw[p1'.out,hs0'.out]) (fun t' g h hi=>by
    refine hV.out t' g ?_ (by rw[hs0'.out];exact hi)
    rw[<-hs0'.out,<-p2'.out,<-he0.out]at h;omega))
   clear hV hz hM;go_wp2;exact bodyPost_ret (v:=.tuple #[.slice none 0 0,.slice none 0 0,.int .i64 100]) (by simp[results,Tryz.results152,go_sem]) rfl (nilW10 hB EE.out)
theorem z16_2{p:Prop} (h:p:=by
 go_enter Tryz.func152,Tryz.ntmps152
 go_wp2_with fail
 refine(rccheck_ok _ c).mono ?_
 rintro e u1 ⟨rfl,rfl⟩;clear c;go_wp2;exact bodyPost_ret (v:=.tuple #[.slice none 0 0,.slice none 0 0,.int .i64 60]) (by simp[results,Tryz.results152,go_sem]) rfl (nilW10 Zf EE.out)
 ):p:=h
theorem rword_any{k m:Int}{v vm:Value}{z:List UInt8}{ms:List Bool}{w:World}(hz:Rd w v z)(hM:RdB w vm ms):Calls Tryz.prog 152 #[.int .i64 k,.int .i64 m,v,vm] w (MakesW10 w (wdX k m z ms) (wdR k m z ms) (wdP k m z ms)):=by
 by_cases c:OkC k m
 ·obtain⟨k,m,rfl,rfl,h1,h2⟩:=c.nat;obtain⟨s,hs⟩:∃s,Hid (s=k+m):=⟨_,rfl⟩
  by_cases p1:z.length=s
  ·by_cases p2:ms.length=s
   ·exact rword_main h1 h2 hz hM hs.out p1 p2
   ·have EE:Hid _:=wd_shard (z:=z) (ms:=ms) c (fun h=>p2 (by have:=h.2;have:=hs.out;omega));obtain⟨za,zc,rfl⟩:=hz.form;obtain⟨ma,mc,rfl⟩:=hM.form;have g1:(k:Int)+(m:Int)=(s:Int):=by have:=hs.out;omega
    have gw:IntKind.i64.wrap (s:Int)=(s:Int):=by have:=hs.out;rw[IntKind.wrap_i64];omega
    have q1:((z.length:Int)!=(s:Int))=false:=by simp[p1]
    have q2:((ms.length:Int)!=(s:Int))=true:=Zm
    clear p1 p2 hz hM;exact z16_2
  ·have EE:Hid _:=wd_shard (z:=z) (ms:=ms) c (fun h=>p1 (by have:=h.1;have:=hs.out;omega));obtain⟨za,zc,rfl⟩:=hz.form;obtain⟨ma,mc,rfl⟩:=hM.form;have g1:(k:Int)+(m:Int)=(s:Int):=by have:=hs.out;omega
   have gw:IntKind.i64.wrap (s:Int)=(s:Int):=by have:=hs.out;rw[IntKind.wrap_i64];omega
   have q1:((z.length:Int)!=(s:Int))=true:=Zm
   clear p1 hz hM;exact z16_2
 ·have EE:Hid _:=wd_bad (z:=z) (ms:=ms) c;obtain⟨za,zc,rfl⟩:=hz.form;obtain⟨ma,mc,rfl⟩:=hM.form;clear hz hM
  go_enter Tryz.func152,Tryz.ntmps152
  go_wp2_with fail
  refine(rccheck_bad _ c).mono ?_
  rintro e u1 ⟨rfl,rfl⟩;clear c;go_wp2;exact bodyPost_ret (v:=.tuple #[.slice none 0 0,.slice none 0 0,.int .i64 50]) (by simp[results,Tryz.results152,go_sem]) rfl (nilW10 Zf EE.out)
theorem z16_5{p:Prop} (h:p:=by
 go_wp2
 go_round
 case rel=>exact⟨r+1,Zo,Zg,Or.inr ⟨l2,rfl,HL2,HA,HE⟩⟩
 case measure=>simp[intOf];omega
 ):p:=h
theorem z16_6{p:Prop} (h:p:=by
 go_wp2;go_ret;exact⟨by rw[EX.out];rfl,Zf⟩
 ):p:=h
theorem rsized_any{va vb:Value}{h:List Bool}{L:List (List UInt8)}{w:World}(hH:RdB w va h)(hL:Rs w vb L)(hlen:h.length=L.length)(hl:h.length<=300):Calls Tryz.prog 151 #[va,vb] w fun e w'=>e= .returned (.int .i64 (oneX h L))/\Below w.heap.size w w':=by
 obtain⟨a,c,rfl⟩:=hH.form;obtain⟨a',c',rfl⟩:=hL.form;have hlen':Hid _:=hlen;clear hlen;have hlL:L.length<=300:=by have:=hlen'.out;omega
 go_enter Tryz.func151,Tryz.ntmps151
 go_wp2
 go_loop [5,6] (fun x i=>∃r:Nat,r<=h.length/\i= .int .i64 (r:Int)/\((x= .int .i64 (-1)/\Hid (∀j,j<r->hb h j=false))∨∃l:Nat,x= .int .i64 (l:Int)/\Hid (l<=9223372036854775807)/\Hid (∀j,j<r->hb h j=true->(ro L j).length=l)/\Hid (∃j,j<r/\hb h j=true))) (fun _ i=>h.length-(intOf i).toNat)
 case atStart=>exact⟨0,Zo,rfl,Or.inl ⟨rfl,fun j hj=>Zo⟩⟩
 case round=>
  obtain⟨r,hr,rfl,hrel⟩:=hrel
  by_cases hlt:r<h.length
  ·obtain⟨b,off,rfl,_,c1⟩:=hH.at hlt;have hltL:r<L.length:=by rw[<-hlen'.out];exact hlt
   obtain⟨b',off',xa,xc,rfl,_,c2,r2⟩:=hL.at hltL;have hll:=r2.len;unfold maxLen at hll;have hlt':(r:Int)<(h.length:Int):=Zo
   have hltL':(r:Int)<(L.length:Int):=Zo
   obtain⟨l2,hl2⟩:∃l2,Hid (l2=(ro L r).length):=⟨_,rfl⟩;rw[<-hl2.out]at c2 hll;have HL2:Hid (l2<=9223372036854775807):=hll;cases e:hb h r with
   |false=>
    rw[e]at c1
    rcases hrel with⟨rfl,hN⟩|⟨l,rfl,hl9,hA,hE⟩
    ·have HN:Hid (∀j,j<r+1->hb h j=false):=fun j hj=>by
      by_cases q:j=r
      ·rw[q];exact e
      ·exact hN.out j Zo
     clear hH hL r2 e hN;go_wp2
     go_round
     case rel=>exact⟨r+1,Zo,Zg,Or.inl ⟨rfl,HN⟩⟩
     case measure=>simp[intOf];omega
    ·have HA:Hid (∀j,j<r+1->hb h j=true->(ro L j).length=l):=fun j hj hj2=>by
      by_cases q:j=r
      ·rw[q,e]at hj2;cases hj2
      ·exact hA.out j Zo hj2
     have HE:Hid (∃j,j<r+1/\hb h j=true):=by
      obtain⟨j,h1,h2⟩:=hE.out;exact⟨j,Zo,h2⟩
     clear hH hL r2 e hA hE;go_wp2
     go_round
     case rel=>exact⟨r+1,Zo,Zg,Or.inr ⟨l,rfl,hl9,HA,HE⟩⟩
     case measure=>simp[intOf];omega
   |true=>
    rw[e]at c1
    rcases hrel with⟨rfl,hN⟩|⟨l,rfl,hl9,hA,hE⟩
    ·have HA:Hid (∀j,j<r+1->hb h j=true->(ro L j).length=l2):=fun j hj hj2=>by
      by_cases q:j=r
      ·rw[q,hl2.out]
      ·rw[hN.out j Zo]at hj2;cases hj2
     have HE:Hid (∃j,j<r+1/\hb h j=true):=⟨r,Zo,e⟩;clear hH hL r2 e hN;exact z16_5
    ·have hge0:(l:Int)>=0:=by omega
     by_cases q:l2=l
     ·have HA:Hid (∀j,j<r+1->hb h j=true->(ro L j).length=l):=fun j hj hj2=>by
       by_cases q9:j=r
       ·rw[q9,<-hl2.out];exact q
       ·exact hA.out j Zo hj2
      have HE:Hid (∃j,j<r+1/\hb h j=true):=⟨r,Zo,e⟩;subst q;clear hH hL r2 e hA hE;exact z16_5
     ·have hq:((l2:Int)!=(l:Int))=true:=by simp;omega
      have EX:Hid (oneX h L= -1):=by
       obtain⟨j,h1,h2⟩:=hE.out;exact oneX_odd e h2 (by rw[hA.out j h1 h2,<-hl2.out];exact q)
      clear hH hL r2 e hA hE q;exact z16_6
  ·have er:r=h.length:=by omega
   have hge:¬(r:Int)<(h.length:Int):=Zo
   rcases hrel with⟨rfl,hN⟩|⟨l,rfl,hl9,hA,hE⟩
   ·have EX:Hid (oneX h L= -1):=oneX_none fun ⟨i,hi⟩=>by
     have:=hb_in hi;rw[hN.out i Zo]at hi;cases hi
    clear hH hL hN;exact z16_6
   ·have EX:Hid (oneX h L=(l:Int)):=oneX_ok (by obtain⟨j,_,h2⟩:=hE.out;exact⟨j,h2⟩) fun i hi=>hA.out i (by have:=hb_in hi;omega) hi
    clear hH hL hA hE;exact z16_6
theorem made_owns11(w:World){base e n:Nat}{z:Value}(hb:base<=w.heap.size)(hn:n<=1000000):(w.alloc (.cells (madeCells #[z] n) e)).ownsRow base e 1 (.slice (some ⟨w.heap.size,0,none⟩) n n) n (List.replicate n z):=by
 have h1:(madeCells #[z] n).toList=List.replicate n z:=toList_madeCells_one _ _;have h2:(madeCells #[z] n).size=n:=by rw[<-Array.length_toList,h1,List.length_replicate]
 exact⟨by rw[List.length_replicate,Nat.mul_one],.inr ⟨w.heap.size,n,_,rfl,hb,heap_alloc_new w _,Zr,Zl,by rw[h2,Nat.mul_one],by rw[h1,Nat.mul_one,List.take_of_length_le (by rw[List.length_replicate];exact Zr)]⟩⟩
theorem made_owns11'(w:World){base e n g:Nat}{z:Value}(hg:g=w.heap.size)(hb:base<=w.heap.size)(hn:n<=1000000):(w.alloc (.cells (madeCells #[z] n) e)).ownsRow base e 1 (.slice (some ⟨g,0,none⟩) n n) n (List.replicate n z):=by
 subst hg;exact made_owns11 w hb hn
theorem bool_made11{w:World}{base e g n:Nat}(h:w.ownsRow base e 1 (.slice (some ⟨g,0,none⟩) n n) n (List.replicate n (.bool false))):BoolF w base e g n (fun _=>false):=by
 unfold BoolF;have e2:(List.range n).map (fun _=>Value.bool false)=List.replicate n (.bool false):=by
  rw[List.map_const'];simp
 rw[e2];exact h
theorem apart_symm{a b:Option Nat}(h:a=none∨a≠b):b=none∨b≠a:=by
 cases b with
 |none=>exact Or.inl rfl
 |some x=>
  right
  rcases h with h|h
  ·rw[h];simp
  ·exact fun e=>h e.symm
theorem row_other{wr w7:World}{base e n:Nat}{p x' q:Value}{ys:List Value}{o:Obj}(hQ:wr.ownsRow base e 1 q n ys)(hd:p.ownBlock=none∨p.ownBlock≠q.ownBlock)(hg:(wr.alloc o).grownBy w7 p.ownBlock)(hb:x'.ownBlock=p.ownBlock∨x'.ownBlock=some (wr.alloc o).heap.size):
  w7.ownsRow base e 1 q n ys/\(x'.ownBlock=none∨x'.ownBlock≠q.ownBlock):=by
 refine⟨World.ownsRow.kept (World.ownsRow.alloc hQ o) hg (apart_symm hd),?_⟩
 rcases hb with h|h
 ·rw[h];exact hd
 ·right;rw[h];intro h2;have:=Zv hQ _ h2.symm;simp at this;omega
theorem lay_set11{R:List (List UInt8)}{p:List UInt8}{n r:Nat}(h:r<n):(mkL n (layF R p r)).set r (ro R r++[co p r])=mkL n (layF R p (r+1)):=by
 refine ro_ext (by rw[List.length_set,mkL_length,mkL_length]) fun i hi=>?_
 rw[List.length_set,mkL_length]at hi;rw[ro_set (by rw[mkL_length];exact h),ro_mkL hi,ro_mkL hi]
 by_cases e:i=r
 ·rw[if_pos e,e,layF_new]
 ·rw[if_neg e,layF_step e]
theorem step_append_rd210{P:Program}{w:World}{ops:Array Oper}{o:Oper}{a:Act}{K:Act->World->Prop}{Q:Exit->Act->World->Prop}{E:Prop}(hgd:o.guard=none)(s x:Operand)(t:TypeId)
  (ho:o.op= .call {callee:=.builtin .append,args:=#[s,x],argTypes:=#[t,t]})
  (base:Nat) (e:TypeId) (i:TypeInfo) (ht:P.underlying t=some (.slice e)) (hi:P.info? e=some i) (hz:i.zero=some (.int .u8 0)) (hsize:i.size=1) (hby:i.bytes=1)
  (v:Value) (n:Nat) (xs:List Value) (hs:a.eval s=v) (hown:w.ownsRow base e 1 v n xs) (va:Value) (p:List UInt8) (hx:a.eval x=va) (hr:Rd w va p) (hl:n+p.length<=1000000) (hbase:base<=w.heap.size)
  (h:∀v' w',w'.ownsRow base e 1 v' (n+p.length) (xs++p.map vb)->w.grownBy w' v.ownBlock->(v'.ownBlock=v.ownBlock∨v'.ownBlock=some w.heap.size)->K (a.put o.dst v') w'):
  if Region.wanted o (yielded ops a.tmps)=true then Oper.wp P o a w K Q else E:=by
 have hw:Region.wanted o (yielded ops a.tmps)=true:=by simp[Region.wanted,hgd]
 rw[if_pos hw];obtain⟨v',w',hrun,h2,h3,h4⟩:=run_append_rd2 w t o.type base e i ht hi hz hsize hby v n xs hown va p hr hl hbase;unfold Oper.wp execOp;simp only[ho,resolve,invoke,builtin,Sem.run_bind,Sem.run_pure,Result.andThen_ok,List.map_toArray,List.map_cons,List.map_nil,hs,hx,hrun];exact h v' w' h2 h3 h4
def MakesG10(w:World)(X:Int)(R:List (List UInt8))(P:List Nat)(e:Ending)(w':World):Prop:=∃va vd,e= .returned (.tuple #[va,vd,.int .i64 X])/\FarL w' w.heap.size va R/\OwnI w' w.heap.size 3 vd P/\Below w.heap.size w w'
theorem nilG10{w w':World}{x:Int}(b:Below w.heap.size w w'){X:Int}{R:List (List UInt8)}{P:List Nat}(h:X=x/\R=[]/\P=[]):MakesG10 w X R P (.returned (.tuple #[.slice none 0 0,.slice none 0 0,.int .i64 x])) w':=by
 obtain⟨rfl,rfl,rfl⟩:=h;exact⟨_,_,rfl,FarL.nil _ _,OwnI.nil _ _ _,b⟩
theorem info_bytes11:(Tryz.prog.info? 36).map (fun i=>(i.zero,i.size,i.bytes))=some (some (.slice none 0 0),1,24):=Zk
theorem wpList_append_bool2{P:Program}{wr:World}{ops:Array Oper}{rest:List Oper}{o:Oper}{a:Act}{Q:Exit->Act->World->Prop}(hgd:o.guard=none)(s xo:Operand)(t:TypeId)
  (ho:o.op= .call {callee:=.builtin .append,args:=#[s,xo],argTypes:=#[t,t]})
  (base e:Nat) (i:TypeInfo) (ht:P.underlying t=some (.slice e)) (hi:P.info? e=some i) (hz:i.zero=some (.bool false)) (hsize:i.size=1) (hby:i.bytes=1)
  (v:Value) (bs:List Bool) (hs:a.eval s=v) (hO:OwnB wr base e v bs) (z:Bool) (et c:Nat) (hxo:a.eval xo= .slice (some ⟨wr.heap.size,0,none⟩) 1 c) (hl:bs.length<=100000) (hbase:base<=wr.heap.size)
  (h:∀v' w2,OwnB w2 base e v' (bs++[z])->(wr.alloc (.cells #[.bool z] et)).grownBy w2 v.ownBlock->(v'.ownBlock=v.ownBlock∨v'.ownBlock=some (wr.alloc (.cells #[.bool z] et)).heap.size)->wpList P ops Q rest (a.put o.dst v') w2):wpList P ops Q (o::rest) a (wr.alloc (.cells #[.bool z] et)):=by
 refine wpList_plain hgd fun K hK=>?_
 obtain⟨v',w',hrun,h2,h3,_,h5⟩:=run_append_own_at (P:=P) (wr.alloc (.cells #[.bool z] et)) base t o.type e i (.bool false) 1 1 ht hi hz hsize hby rfl Zd v bs.length (bs.map Value.bool) (World.ownsRow.alloc hO _) ⟨wr.heap.size,0,none⟩ 1 c [.bool z] rfl (by intro j y hj;rw[add_at,Nat.zero_add];rcases j with _|j<;>simp at hj;subst hj;simp) (by intro y hy;simp at hy;rw[hy];rfl) Zl Zo Zm;unfold Oper.wp execOp;simp only[ho,resolve,invoke,builtin,Sem.run_bind,Sem.run_pure,Result.andThen_ok,List.map_toArray,List.map_cons,List.map_nil,hs,hxo,hrun];refine hK _ _ (h v' w' ?_ h3 h5);unfold OwnB;rw[List.length_append,List.map_append];exact h2
theorem z16_1{p:Prop} (h:p:=by
 go_simp;refine koH hK cxa fun hHeld=>?_
 clear hK K;refine rnH 11 fun K hK=>?_
 refine step_append_rd210 (by rfl) _ _ _ (by rfl) w3.heap.size 5 i0 Tryz.underlying36 hi hz0 hz1 hz2 (.slice ra9 (ro (rowsP k m hs L t) i).length rc9) (ro (rowsP k m hs L t) i).length ((ro (rowsP k m hs L t) i).map vb) (by rfl) (owns_later hox.out A1.out) _ [co (pR k m hs L t) i] (by rfl) (rd_lit (n:=1) [co (pR k m hs L t) i] rfl rfl Zd) Zm Zm ?_
 intro y7 w7 hx7 hg7 hb7;have hq7:=hput.out _ _ y7 (ro (rowsP k m hs L t) i++[co (pR k m hs L t) i]) A1.out hg7 (by unfold OwnP;rw[List.length_append,List.map_append];exact hx7) hb7 hPs2.out;obtain⟨c7,f7,o7,k7⟩:=hq7;obtain⟨ya,yc,rfl⟩:=owns_form hx7;have cx7:=(Zc (a:=⟨xb,xo+i,none⟩) (k7.block xb ⟨hvxb.out,hxbw.out⟩)).trans cx;have O7:=(Only.refl G w7).setCell i (.slice ya ((ro (rowsP k m hs L t) i).length+[co (pR k m hs L t) i].length) yc);have cx8:w7.cell? ⟨xb,xo+i,none⟩=some (.int .u8 ((co (pR k m hs L t) i).toNat:Nat)):=(O7.cell (p:=⟨xb,xo+i,none⟩) hxbG.out).symm.trans cx7;refine koH hK cx8 fun hHeld=>?_
 clear hK K;refine tkH 12 ?_
 refine rnH 13 fun K hK=>?_
 go_simp;refine koH hK cx7 fun hHeld=>?_
 clear hK K;refine wpAnyH_done Zk ?_ _
 rw[lay_set11 hir]at o7;have HO:Hid _:=o7;have HK:Hid (Keep (fun q=>(q<w3.heap.size∨q=H)∨(wo.heap.size<=q/\q<w8.heap.size)) w8 (w7.setCell ⟨G,i,none⟩ (.slice ya ((ro (rowsP k m hs L t) i).length+[co (pR k m hs L t) i].length) yc))):=hK9.trans (k7.mono fun q hq=>⟨hq,by have:=hPs.out q hq;omega⟩);clear o7 k7 hx7 hg7 hb7 c7 f7 cr fr cx hK9 hput hox cx7 cx8 O7 A1 hPs2 hHeld;go_wp2;go_roundw
 case rel=>exact⟨i+1,Zo,Zg,HO.out,HK.out⟩
 case measure=>simp[intOf];omega
 ):p:=h
theorem z16_4{p:Prop} (h:p:=by
 have h9:=row_other (n:=r+1) hx7 (apart_symm hq7.2) hg8 hb8;refine⟨?_,h9.2⟩
 show OwnP _ _ _ _ _
 unfold OwnP;rw[upto_length,hUv.out];exact h9.1
 ):p:=h
theorem rsh_main{k m s:Nat}{vh vl:Value}{hs:List Bool}{L:List (List UInt8)}{w:World}(h1:1<=k)(h2:k+m<=256)(hH:RdB w vh hs)(hL:Rs w vl L)(hs0:s=k+m)(p1:hs.length=s)(p2:L.length=s)(hsm:∀i,hb hs i=true->(ro L i).length<=300):Calls Tryz.prog 107 #[.int .i64 (k:Int),.int .i64 (m:Int),vh,vl] w (MakesG10 w (shX k m hs L) (shR k m hs L) (shP k m hs L)):=by
 have c:OkC (k:Int) (m:Int):=⟨Zo,Zo,Zo⟩;have HNo:Hid (oneX hs L= -1->_):=fun h=>sh_shard (k:=(k:Int)) (m:=(m:Int)) (hs:=hs) (L:=L) c (fun q=>q.2.2 h)
 have HMany:Hid (∀n t:Nat,oneX hs L=(n:Int)->t<n->pX k m hs L t≠0->_):=fun n t h3 ht hx=>sh_many c Zo Zo h3 ht hx
 have HOk:Hid (∀n:Nat,oneX hs L=(n:Int)->(∀t,t<n->pX k m hs L t=0)->_):=fun n h3 hx=>sh_ok c Zo Zo h3 hx
 have HT:Hid (∀t,_):=fun t=>pX_told (L:=L) (t:=t) h1 h2 (show hs.length=k+m by omega)
 obtain⟨i0,hi,hz0,hz1,hz2⟩:=info_parts info_u8;obtain⟨j0,hj,hy0,hy1,hy2⟩:=info_parts info_bool;obtain⟨l0,hl,hx0,hx1,hx2⟩:=info_parts info_int;obtain⟨r0,hrr,hr0,hr1,hr2⟩:=info_parts info_bytes11;obtain⟨za,zc,rfl⟩:=hH.form;obtain⟨ma,mc,rfl⟩:=hL.form;have g1:(k:Int)+(m:Int)=(s:Int):=Zo
 have gw:IntKind.i64.wrap (s:Int)=(s:Int):=Zw
 have hs256:s<=256:=Zo
 have q0:((s:Int)!=(s:Int))=false:=Zs
 have hs0':Hid _:=hs0;have p1':Hid _:=p1;have p2':Hid _:=p2;have hsm':Hid _:=hsm;rw[p1]at hH ⊢;rw[p2]at hL ⊢;clear hs0 p1 p2 hsm
 go_enter Tryz.func107,Tryz.ntmps107
 go_wp2_with fail
 refine(rccheck_ok _ c).mono ?_
 rintro e u1 ⟨rfl,rfl⟩;clear c
 go_wp2_with fail
 refine(rsized_any hH hL (by rw[p1'.out,p2'.out]) (by rw[p1'.out];omega)).mono ?_
 rintro e w3 ⟨rfl,B3⟩
 rcases oneX_cases hs L with e0|⟨n,e0,hn,hex⟩
 ·have EE:Hid _:=HNo.out e0;rw[e0];clear HNo HMany HOk HT hH hL e0;go_wp2;exact bodyPost_ret (v:=.tuple #[.slice none 0 0,.slice none 0 0,.int .i64 60]) (by simp[results,Tryz.results107,go_sem]) rfl (nilG10 B3 EE.out)
 ·have hn300:n<=300:=by
   obtain⟨i,hi⟩:=hex;rw[<-hn i hi];exact hsm'.out i hi
  have HMany2:Hid (∀t,t<n->pX k m hs L t≠0->_):=fun t=>HMany.out n t e0
  have HOk2:Hid ((∀t,t<n->pX k m hs L t=0)->_):=HOk.out n e0;have hn':Hid _:=hn;rw[e0];have hn0:¬(n:Int)<0:=Zo
  clear HNo HMany HOk e0 hn hex;have mk1:=run_make_row' (P:=Tryz.prog) 106 36 (.slice none 0 0) 24 Tryz.underlying106 info_bytes11 rfl .i64 .i64 s Zo Zo;have mk2:=run_make_row' (P:=Tryz.prog) 96 4 (.bool false) 1 Tryz.underlying96 info_bool rfl .i64 .i64 s Zo Zo
  go_wp2_with fail
  obtain⟨G,hG0⟩:∃G,Hid (G=w3.heap.size):=⟨_,rfl⟩;obtain⟨H,hH0⟩:∃H,Hid (H=w3.heap.size+1):=⟨_,rfl⟩;obtain⟨u6,hu6⟩:∃u6,u6=(w3.alloc (.cells (madeCells #[.slice none 0 0] s) 36)).alloc (.cells (madeCells #[.bool false] s) 4):=⟨_,rfl⟩;rw[<-hu6];rw[<-hH0.out,<-hG0.out];have hGH:G≠H:=by rw[hG0.out,hH0.out];omega
  have s6:u6.heap.size=w3.heap.size+2:=by rw[hu6];simp
  have B6:Below w3.heap.size w3 u6:=by rw[hu6];exact below_lit (below_lit Zf _) _
  have O6:OsP u6 w3.heap.size 36 5 (.slice (some ⟨G,0,none⟩) s s) (rowsP k m hs L 0) (fun q=>q<w3.heap.size∨q=H):=by
   rw[rowsP_zero,<-hs0'.out];refine OsP.blank (cs:=List.replicate s (.slice none 0 0)) ?_ (fun y hy=>List.eq_of_mem_replicate hy) (fun q hq=>by have h9:=hG0.out;rcases hq with h|h<;>omega)
   rw[hu6,hG0.out];exact World.ownsRow.alloc (made_owns11 w3 Zr Zo) _
  have F6:BoolF u6 w3.heap.size 4 H s (hurtP k m hs L 0):=by
   refine bool_made11 ?_
   rw[hu6,hH0.out];exact made_owns11' (w3.alloc (.cells (madeCells #[.slice none 0 0] s) 36)) Zs Zs Zo
  have hG5:w3.heap.size<=G/\G<w3.heap.size+2:=by have:=hG0.out;omega
  have hH5:w3.heap.size<=H/\H<w3.heap.size+2:=by have:=hH0.out;omega
  have s6':Hid (w3.heap.size+2<=u6.heap.size):=by show _<=_;omega
  have HB3:Hid _:=B3;have hH3:=hH.below B3;have hL3:=hL.below B3;clear hu6 mk1 mk2 hG0 hH0 s6 hH hL B3
  go_wp2_with fail
  go_loopw [15] (fun x wr=>∃r:Nat,r<=n/\x= .int .i64 (r:Int)/\Below w3.heap.size w3 wr/\OsP wr w3.heap.size 36 5 (.slice (some ⟨G,0,none⟩) s s) (rowsP k m hs L r) (fun q=>q<w3.heap.size∨q=H)/\BoolF wr w3.heap.size 4 H s (hurtP k m hs L r)/\Hid (∀t,t<r->pX k m hs L t=0)/\Hid (w3.heap.size+2<=wr.heap.size)) (fun x _=>n-(intOf x).toNat)
  case atStart=>exact⟨0,Zo,rfl,B6,O6,F6,fun t ht=>Zo,s6'⟩
  case round=>
   obtain⟨t,ht,rfl,hB,hO,hBo,hX,hsz⟩:=hrel;clear B6 O6 F6 s6'
   by_cases hlt:t<n
   ·have hlt':(t:Int)<(n:Int):=by omega
    obtain⟨wo,hwo⟩:∃wo,wo=wr:=⟨_,rfl⟩;subst hwo
    go_wp2_with fail
    go_loopw [16,17,18] (fun ow om i wz=>∃r:Nat,r<=s/\i= .int .i64 (r:Int)/\OwnP wz wo.heap.size 5 ow (upto (atF hs L t) r)/\OwnB wz wo.heap.size 4 om (notL hs r)/\Hid (ow.ownBlock=none∨ow.ownBlock≠om.ownBlock)/\Below wo.heap.size wo wz) (fun _ _ i _=>s-(intOf i).toNat)
    case atStart=>exact⟨0,Zo,rfl,World.ownsRow_nil _ _ _ _,OwnB.nil _ _ _,Or.inl rfl,Zf⟩
    case round=>
     obtain⟨r,hr,rfl,hP,hQ,hd,hB2⟩:=hrel;have hsz2:=hB2.size;have hpl:Hid _:=upto_length (atF hs L t) r;have hql:Hid _:=notL_length hs r;obtain⟨pa,pc,ep⟩:=owns_form hP;obtain⟨qa,qc,eq⟩:=hQ.form;rw[hpl.out]at ep;rw[hql.out]at eq;subst ep eq
     by_cases hrs:r<s
     ·have hrs':(r:Int)<(s:Int):=by omega
      have B8:=Below.next hB hB2;obtain⟨b1,o1,e1,_,k1⟩:=(hH3.below B8).at (show r<hs.length by rw[p1'.out];exact hrs);subst e1;obtain⟨b2,o2,xa,xc,e2,_,k2,r2⟩:=(hL3.below B8).at (show r<L.length by rw[p2'.out];exact hrs);subst e2;cases e:hb hs r with
      |true=>
       have hlr:=hn'.out r e;obtain⟨b3,o3,e3,_,k3⟩:=r2.byte (i:=t) (by rw[hlr];exact hlt);subst e3;rw[hlr]at k2;rw[e]at k1;clear r2 hlr;obtain⟨y,hy⟩:∃y:UInt8,Hid (y=co (ro L r) t):=⟨_,rfl⟩;have hy9:Hid (atF hs L t r=y):=by show atF hs L t r=y;rw[hy.out];unfold atF;rw[e];rfl
       rw[<-hy.out]at k3;have hPw:wr.ownsRow wo.heap.size 5 1 (.slice pa r pc) r ((upto (atF hs L t) r).map vb):=by have h9:=hP;unfold OwnP at h9;rw[hpl.out]at h9;exact h9
       have hPh:Hid _:=hPw;have hQh:Hid _:=hQ;have hH8:Hid _:=hH3;have hUv:Hid ((upto (atF hs L t) (r+1)).map vb=(upto (atF hs L t) r).map vb++[y].map vb):=by show _=_;rw[upto_vb_succ,hy9.out];rfl
       have hbo:Hid _:=e;clear hP hPw hQ e
       go_wp2_with (first
        |(at_builtin;refine wpList_append_rd2 _ rfl (.tmp 83) (.tmp 85) 36 rfl wo.heap.size 5 i0 Tryz.underlying36 hi hz0 hz1 hz2 (.slice pa r pc) r ((upto (atF hs L t) r).map vb) rfl (World.ownsRow.alloc hPh.out _) _ [y] rfl (rd_lit (n:=1) [y] rfl rfl Zd) Zm Zm ?_;intro x7 w7 hx7 hg7 hb7;go_loud (have hq7:=row_other hQh.out hd.out hg7 hb7;have hQ7:Hid (OwnB w7 wo.heap.size 4 (.slice qa r qc) (notL hs r)):=hq7.1;have B7:Below wo.heap.size wo w7:=((hB2.alloc hsz2 _).grown hg7 Zm (fun q hq=>(Zv hPh.out q hq).1));have k17:=(RdB.below (h:=hs) hH8.out (Below.next hB B7)).get (i:=r) (by rw[p1'.out];exact hrs);rw[hbo.out]at k17;have hsz7:=B7.size;obtain⟨xa7,xc7,ex7⟩:=owns_form hx7;subst ex7))
        |(at_builtin;go_loud (refine wpList_append_bool2 rfl (.tmp 87) (.tmp 93) 96 rfl wo.heap.size 4 j0 Tryz.underlying96 hj hy0 hy1 hy2 (.slice qa r qc) (notL hs r) rfl hQ7.out (!true) _ 1 rfl (by rw[hql.out];omega) hsz7 ?_);intro v8 w8 hv8 hg8 hb8))
       have HX:Hid (OwnP w8 wo.heap.size 5 (.slice xa7 (r+[y].length) xc7) (upto (atF hs L t) (r+1)))/\Hid (v8.ownBlock=none∨v8.ownBlock≠(Value.slice xa7 (r+[y].length) xc7).ownBlock):=by
        exact z16_4
       have HQ:Hid (OwnB w8 wo.heap.size 4 v8 (notL hs (r+1))):=by show OwnB _ _ _ _ _;rw[notL_succ,hbo.out];exact hv8
       have HD:Hid _:=apart_symm HX.2.out;have HP:=HX.1;have HB:Hid (Below wo.heap.size wo w8):=(B7.alloc hsz7 _).grown hg8 Zm (fun q hq=>(Zv hQ7.out q hq).1);clear HX hv8 hg8 hb8 hx7 hg7 hb7 hq7 hQ7 B7 k17 hPh hQh hd hB2;go_wp2;go_roundw
       case rel=>exact⟨r+1,Zo,Zg,HP.out,HQ.out,HD,HB.out⟩
       case measure=>simp[intOf];omega
      |false=>
       rw[e]at k1;clear r2 k2;have hy9:Hid (atF hs L t r=0):=by show atF hs L t r=0;unfold atF;rw[e];rfl
       have hPw:wr.ownsRow wo.heap.size 5 1 (.slice pa r pc) r ((upto (atF hs L t) r).map vb):=by have h9:=hP;unfold OwnP at h9;rw[hpl.out]at h9;exact h9
       have hPh:Hid _:=hPw;have hQh:Hid _:=hQ;have hH8:Hid _:=hH3;have hUv:Hid ((upto (atF hs L t) (r+1)).map vb=(upto (atF hs L t) r).map vb++[0].map vb):=by show _=_;rw[upto_vb_succ,hy9.out];rfl
       have hbo:Hid _:=e;clear hP hPw hQ e
       go_wp2_with (first
        |(at_builtin;refine wpList_append_rd2 _ rfl (.tmp 83) (.tmp 85) 36 rfl wo.heap.size 5 i0 Tryz.underlying36 hi hz0 hz1 hz2 (.slice pa r pc) r ((upto (atF hs L t) r).map vb) rfl (World.ownsRow.alloc hPh.out _) _ [0] rfl (rd_lit (n:=1) [0] rfl rfl Zd) Zm Zm ?_;intro x7 w7 hx7 hg7 hb7;go_loud (have hq7:=row_other hQh.out hd.out hg7 hb7;have hQ7:Hid (OwnB w7 wo.heap.size 4 (.slice qa r qc) (notL hs r)):=hq7.1;have B7:Below wo.heap.size wo w7:=((hB2.alloc hsz2 _).grown hg7 Zm (fun q hq=>(Zv hPh.out q hq).1));have k17:=(RdB.below (h:=hs) hH8.out (Below.next hB B7)).get (i:=r) (by rw[p1'.out];exact hrs);rw[hbo.out]at k17;have hsz7:=B7.size;obtain⟨xa7,xc7,ex7⟩:=owns_form hx7;subst ex7))
        |(at_builtin;go_loud (refine wpList_append_bool2 rfl (.tmp 87) (.tmp 93) 96 rfl wo.heap.size 4 j0 Tryz.underlying96 hj hy0 hy1 hy2 (.slice qa r qc) (notL hs r) rfl hQ7.out (!false) _ 1 rfl (by rw[hql.out];omega) hsz7 ?_);intro v8 w8 hv8 hg8 hb8))
       have HX:Hid (OwnP w8 wo.heap.size 5 (.slice xa7 (r+[0].length) xc7) (upto (atF hs L t) (r+1)))/\Hid (v8.ownBlock=none∨v8.ownBlock≠(Value.slice xa7 (r+[0].length) xc7).ownBlock):=by
        exact z16_4
       have HQ:Hid (OwnB w8 wo.heap.size 4 v8 (notL hs (r+1))):=by show OwnB _ _ _ _ _;rw[notL_succ,hbo.out];exact hv8
       have HD:Hid _:=apart_symm HX.2.out;have HP:=HX.1;have HB:Hid (Below wo.heap.size wo w8):=(B7.alloc hsz7 _).grown hg8 Zm (fun q hq=>(Zv hQ7.out q hq).1);clear HX hv8 hg8 hb8 hx7 hg7 hb7 hq7 hQ7 B7 k17 hPh hQh hd hB2;go_wp2;go_roundw
       case rel=>exact⟨r+1,Zo,Zg,HP.out,HQ.out,HD,HB.out⟩
       case measure=>simp[intOf];omega
     ·have hge:¬(r:Int)<(s:Int):=by omega
      have er:r=s:=Zo
      subst er;have RW:Rd wr (.slice pa r pc) (wdAt hs L (k+m) t):=by
       have h9:=Rd.owned hP;rw[hs0'.out]at h9 ⊢;exact h9
      have RB:RdB wr (.slice qa r qc) (notM hs):=by
       have h9:=hQ.rdB;have e9:notL hs r=notM hs:=by unfold notL notM;rw[p1'.out]
       rw[e9]at h9;exact h9
      have C1:=rword_any (k:=(k:Int)) (m:=(m:Int)) RW RB;clear hP hQ hd RW RB
      go_wp2_with fail
      refine C1.mono ?_
      rintro e w8 ⟨vx,vd,rfl,R8,O8,b8,f8⟩;have b78:=Below.next hB2 b8;have B8:=Below.next hB b78;have F8:=f8.mono hB2.size;have h7s:Hid (wo.heap.size<=wr.heap.size):=hB2.size;have EP:Hid (wdX (k:Int) (m:Int) (wdAt hs L (k+m) t) (notM hs)=pX k m hs L t/\wdR (k:Int) (m:Int) (wdAt hs L (k+m) t) (notM hs)=pR k m hs L t/\wdP (k:Int) (m:Int) (wdAt hs L (k+m) t) (notM hs)=pP k m hs L t):=⟨rfl,rfl,rfl⟩;rw[EP.out.2.1]at R8;rw[EP.out.2.2]at O8;rw[EP.out.1];obtain⟨xa,xc,rfl⟩:=R8.form;obtain⟨da,dc,rfl⟩:=O8.form;clear C1 b8 f8 hB2
      rcases HT.out t with⟨e1,e2,e3⟩|⟨e1,e2,e3,e4⟩
      ·have EE:Hid _:=HMany2.out t hlt (by rw[e1];decide);have HBB:Hid (Below u1.heap.size u1 w8):=Below.next HB3.out B8;rw[e1];clear e1 e2 e3 R8 O8 B8 b78 F8 hO hBo hB hX hH3 hL3;go_wp2;exact bodyPost_ret (v:=.tuple #[.slice none 0 0,.slice none 0 0,.int .i64 100]) (by simp[results,Tryz.results107,go_sem]) rfl (nilG10 HBB.out EE.out)
      ·have HX:Hid (∀t',t'<t+1->pX k m hs L t'=0):=fun t' ht'=>by
        by_cases q:t'=t
        ·rw[q];exact e1
        ·exact hX.out t' Zo
       rw[e1];have sz8:=b78.size;have szr:=hsz.out;have O8':OsP w8 w3.heap.size 36 5 (.slice (some ⟨G,0,none⟩) r r) (rowsP k m hs L t) (fun q=>(q<w3.heap.size∨q=H)∨(wo.heap.size<=q/\q<w8.heap.size)):=hO.later b78 (fun q hq=>by
        rcases hq with h|h
        ·exact Or.inl h
        ·exact Or.inr h.1)
       have hvx:Hid (∀x n' c',(Value.slice xa (pR k m hs L t).length xc)= .slice (some x) n' c'->((x.block<w3.heap.size∨x.block=H)∨(wo.heap.size<=x.block/\x.block<w8.heap.size))):=fun x n' c' e=>by
        obtain⟨bb,off,e9,h9,_⟩:=R8.byte (i:=0) (by rw[e2];omega);subst e9;simp at e;have h8:=F8 _ _ _ rfl;rw[<-e.1];exact Or.inr ⟨h8,h9⟩
       have hPs:Hid (∀q,((q<w3.heap.size∨q=H)∨(wo.heap.size<=q/\q<w8.heap.size))->q<w8.heap.size):=fun q hq=>by rcases hq with(h|h)|h<;>omega
       have O8l:OsP w8 w3.heap.size 36 5 (.slice (some ⟨G,0,none⟩) r r) (mkL r (layF (rowsP k m hs L t) (pR k m hs L t) 0)) (fun q=>(q<w3.heap.size∨q=H)∨(wo.heap.size<=q/\q<w8.heap.size)):=O8'.as (by rw[layF_zero,hs0'.out,<-rowsP_length k m hs L t,mkL_ro]);have hsmall:Hid (∀i,(ro (rowsP k m hs L t) i).length<=300):=fun i=>by
        rcases Nat.lt_or_ge i (k+m)with h|h
        ·rw[rowsP_ro h,upto_length];omega
        ·rw[ro_ge (by rw[rowsP_length];exact h)];simp
       have hBo8:BoolF w8 w3.heap.size 4 H r (hurtP k m hs L t):=owns_later hBo b78;have E2:Hid _:=e2;have E3:Hid _:=e3;have E4:Hid _:=e4;clear hO hBo F8 O8' e1 e2 e3 e4 hX hB;obtain⟨wi,hwi⟩:∃wi,wi=wr:=⟨_,rfl⟩;subst hwi
       go_wp2_with fail
       go_loopw [23] (fun x wz=>∃i:Nat,i<=r/\x= .int .i64 (i:Int)/\OsP wz w3.heap.size 36 5 (.slice (some ⟨G,0,none⟩) r r) (mkL r (layF (rowsP k m hs L t) (pR k m hs L t) i)) (fun q=>(q<w3.heap.size∨q=H)∨(wo.heap.size<=q/\q<w8.heap.size))/\Keep (fun q=>(q<w3.heap.size∨q=H)∨(wo.heap.size<=q/\q<w8.heap.size)) w8 wz) (fun x _=>r-(intOf x).toNat)
       case atStart=>exact⟨0,Zo,rfl,O8l,Keep.refl _ _⟩
       case round=>
        obtain⟨i,hi9,rfl,hO9,hK9⟩:=hrel;clear O8l;have hlenM:Hid ((mkL r (layF (rowsP k m hs L t) (pR k m hs L t) i)).length=r):=mkL_length _ _
        by_cases hir:i<r
        ·have hir':(i:Int)<(r:Int):=by omega
         have hsw:=hK9.size;obtain⟨xb,xo,ex,_,cx⟩:=(hK9.rd R8 hvx.out).byte (i:=i) (by rw[E2.out,<-hs0'.out];exact hir);subst ex;have hPx:=hvx.out _ _ _ rfl;have hvxb:Hid ((xb<w3.heap.size∨xb=H)∨(wo.heap.size<=xb/\xb<w8.heap.size)):=hPx;have hxbw:Hid (xb<wr.heap.size):=by have:=hPs.out xb hPx;show _<_;omega
         have hxbG:Hid (xb≠G):=by
          show xb≠G
          obtain⟨vals,_,_,hp9⟩:=hO9;intro e9;exact(hp9 xb hPx).1 (by rw[e9];rfl)
         obtain⟨x9,cr,fr,gb,gl,ox,hnl,hput0⟩:=hO9.spot (k:=i) (by rw[hlenM.out];exact hir);rw[ro_mkL hir,layF_old]at ox;have hl5:=hsmall.out i;have hput:Hid _:=hput0;obtain⟨ra9,rc9,e9⟩:=owns_form ox;subst e9;have A1:Hid (Below wr.heap.size wr (wr.drew.alloc (.cells #[.int .u8 ((co (pR k m hs L t) i).toNat:Nat)] 5))):=Zf.drew.alloc Zr _;have hPs2:Hid (∀q,((q<w3.heap.size∨q=H)∨(wo.heap.size<=q/\q<w8.heap.size))->q<(wr.drew.alloc (.cells #[.int .u8 ((co (pR k m hs L t) i).toNat:Nat)] 5)).heap.size):=fun q hq=>by have:=hPs.out q hq;have h8:(wr.drew.alloc (.cells #[.int .u8 ((co (pR k m hs L t) i).toNat:Nat)] 5)).heap.size=wr.heap.size+1:=by {show(World.alloc _ _).heap.size=_;simp};omega
         have cxa:(wr.drew.alloc (.cells #[.int .u8 ((co (pR k m hs L t) i).toNat:Nat)] 5)).cell? ⟨xb,xo+i,none⟩=some (.int .u8 ((co (pR k m hs L t) i).toNat:Nat)):=(A1.out.cell (p:=⟨xb,xo+i,none⟩) hxbw.out).trans cx;have hox:Hid _:=ox;have hE2:(i:Int)<((pR k m hs L t).length:Int):=by rw[E2.out,<-hs0'.out];exact hir'
         clear ox hO9 hput0 hnl hPx
         go_wp2_with fail
         --REGION
         refine wp_region_held_drew (S:=(fun wx=>wx.cell? ⟨xb,xo+i,none⟩=some (.int .u8 ((co (pR k m hs L t) i).toNat:Nat)))) Zk ?_ (fun hHeld=>?_)
         ·exact cx
         refine tkH 0 ?_
         refine tkH 1 ?_
         refine tkH 2 ?_
         refine tkH 3 ?_
         refine tkH 4 ?_
         refine tkH 6 ?_
         refine tkH 7 ?_
         refine tkH 8 ?_
         refine tkH 9 ?_
         refine rmH 5 10 (fun K hK=>?_) fun K hK=>?_
         ·go_simp;refine koH hK cx fun hHeld=>?_
          clear hK K;refine rnH 10 fun K hK=>?_
          exact z16_1
         ·go_simp;refine koH hK cxa fun hHeld=>?_
          clear hK K;refine rnH 5 fun K hK=>?_
          exact z16_1
         --REGION END
        ·have hge2:¬(i:Int)<(r:Int):=by omega
         have ei:i=r:=Zo
         have O9':OsP wr w3.heap.size 36 5 (.slice (some ⟨G,0,none⟩) r r) (rowsP k m hs L (t+1)) (fun q=>(q<w3.heap.size∨q=H)∨(wo.heap.size<=q/\q<w8.heap.size)):=hO9.as (by
          rw[ei,hs0'.out];refine ro_ext (by rw[mkL_length,rowsP_length]) fun j hj9=>?_
          rw[mkL_length]at hj9;rw[ro_mkL hj9];exact rowsP_next hj9)
         have O9i:OwnI wr wi.heap.size 3 (.slice da (pP k m hs L t).length dc) (pP k m hs L t):=hK9.owns O8 fun q hq=>by
          have h9:=Zv O8 q hq;have h8:=h7s.out;exact Or.inr ⟨Zo,h9.2⟩
         have B9:Below w3.heap.size w3 wr:=B8.trans (hK9.below fun q hq=>Or.inl (Or.inl hq));have hBo9:=hBo8.keep hK9 (Or.inl (Or.inr rfl));have hszl:Hid (w3.heap.size+2<=wr.heap.size):=by have:=hK9.size;show _<=_;omega
         have HD:Hid (∀j,j<(pP k m hs L t).length->∃qb,da=some ⟨qb,0,none⟩/\qb≠H/\wr.cell? ⟨qb,j,none⟩=some (.int .i64 (((pP k m hs L t).getD j 0:Nat):Int))):=fun j hj9=>by
          obtain⟨qb,q1,q2,q3,q4⟩:=O9i.cell hj9;have h8:=h7s.out;exact⟨qb,q1,Zo,q4⟩
         clear hO9 hK9 O8 R8 hBo8 B8 O9i hvx hsmall ei;obtain⟨wl,hwl⟩:∃wl,wl=wr:=⟨_,rfl⟩;subst hwl;obtain⟨D,hD9⟩:∃D,Hid (D=pP k m hs L t):=⟨_,rfl⟩;rw[<-hD9.out]at HD E3 E4 ⊢;have hE4:=E4.out
         go_wp2_with fail
         go_loopw [24] (fun x wz=>∃j:Nat,j<=D.length/\x= .int .i64 (j:Int)/\Only H wl wz/\BoolF wz w3.heap.size 4 H r (mrkF (hurtP k m hs L t) (D.take j))) (fun x _=>D.length-(intOf x).toNat)
         case atStart=>exact⟨0,Zo,rfl,Only.refl _ _,by have e9:mrkF (hurtP k m hs L t) (D.take 0)=hurtP k m hs L t:=by {funext q;simp[mrkF]};rw[e9];exact hBo9⟩
         case round=>
          obtain⟨j,hj9,rfl,ho,hBj⟩:=hrel;clear hBo9
          by_cases hjd:j<D.length
          ·have hjd':(j:Int)<(D.length:Int):=by omega
           obtain⟨qb,rfl,hqb,cq⟩:=HD.out j hjd;have cq2:=(ho.cell (p:=⟨qb,j,none⟩) hqb).trans cq;have hx9:=E3.out j hjd;rw[<-hs0'.out]at hx9;have E9:Hid _:=mrkF_step (f:=hurtP k m hs L t) (zs:=D) (r:=j) hjd;obtain⟨x,hxx⟩:∃x,Hid (x=D.getD j 0):=⟨_,rfl⟩;rw[<-hxx.out]at cq2 hx9 E9;have hx9':(x:Int)<(r:Int):=Zo
           have c9:=hBj.cell hx9;have f9:=hBj.free x;have HN:Hid (BoolF (World.setCell wr ⟨H,x,none⟩ (.bool true)) w3.heap.size 4 H r (mrkF (hurtP k m hs L t) (D.take (j+1)))):=hBj.store hx9 true fun q _=>E9.out q
           have HO:Hid (Only H wl (World.setCell wr ⟨H,x,none⟩ (.bool true))):=ho.setCell x _;clear hBj ho cq;go_wp2;go_roundw
           case rel=>exact⟨j+1,Zo,Zg,HO.out,HN.out⟩
           case measure=>simp[intOf];omega
          ·have hgd:¬(j:Int)<(D.length:Int):=by omega
           have ej:D.take j=D:=List.take_of_length_le Zo;rw[ej]at hBj;have HO:Hid (OsP wr w3.heap.size 36 5 (.slice (some ⟨G,0,none⟩) r r) (rowsP k m hs L (t+1)) (fun q=>q<w3.heap.size∨q=H)):=(O9'.only ho (Or.inl (Or.inr rfl))).less fun q hq=>Or.inl hq
           have HBo:Hid (BoolF wr w3.heap.size 4 H r (hurtP k m hs L (t+1))):=(by rw[hD9.out]at hBj;exact hBj:BoolF wr w3.heap.size 4 H r (hurtP k m hs L (t+1)));have HB:Hid (Below w3.heap.size w3 wr):=B9.trans (ho.below hH5.1);have HS:Hid (w3.heap.size+2<=wr.heap.size):=by have:=hszl.out;show _<=_;rw[ho.size];omega
           clear O9' ho hBj B9 ej HD hH3 hL3;go_wp2;go_roundw
           case rel=>exact⟨t+1,Zo,Zg,HB.out,HO.out,HBo.out,HX,HS⟩
           case measure=>simp[intOf];omega
   ·have hge:¬(t:Int)<(n:Int):=by omega
    have et:t=n:=Zo
    have EE:Hid _:=HOk2.out (fun t' ht'=>hX.out t' Zo);obtain⟨wo,hwo⟩:∃wo,wo=wr:=⟨_,rfl⟩;subst hwo;have HR:Hid (FarL wo u1.heap.size (.slice (some ⟨G,0,none⟩) s s) (shR (k:Int) (m:Int) hs L)):=by
     show FarL _ _ _ _
     rw[EE.out.2.1,<-et];exact⟨_,_,hO.os.base HB3.out.size⟩
    have EP:Hid (shP (k:Int) (m:Int) hs L=plc (hurtP k m hs L t) s):=by show _=_;rw[EE.out.2.2,et,hs0'.out]
    have HBr:Hid (Below u1.heap.size u1 wo):=Below.next HB3.out hB;clear hO hX et hB hH3 hL3
    go_wp2_with fail
    go_loopw [25,26] (fun o i wz=>∃r:Nat,r<=s/\i= .int .i64 (r:Int)/\OwnI wz wo.heap.size 3 o (plc (hurtP k m hs L t) r)/\Below wo.heap.size wo wz) (fun _ i _=>s-(intOf i).toNat)
    case atStart=>exact⟨0,Zo,rfl,OwnI.nil _ _ _,Zf⟩
    case round=>
     obtain⟨r,hr,rfl,hO,hB2⟩:=hrel;have hsz2:=hB2.size;have hnl:Hid ((plc (hurtP k m hs L t) r).length<=300):=by show _<=_;rw[plc_length];have:=cnt_le (hurtP k m hs L t) r;omega
     obtain⟨av,cv,rfl⟩:=hO.form
     by_cases hrs:r<s
     ·have hrs':(r:Int)<(s:Int):=by omega
      have c9:=(hB2.cell (p:=⟨H,r,none⟩) hBo.lt.2).trans (hBo.cell hrs);have E:=plc_succ (hurtP k m hs L t) r;cases e:hurtP k m hs L t r with
      |false=>
       rw[e]at c9 E;have E':Hid (plc (hurtP k m hs L t) (r+1)=plc (hurtP k m hs L t) r):=by show _=_;rw[E];simp
       clear e E;go_wp2;go_roundw
       case rel=>exact⟨r+1,Zo,Zg,by rw[E'.out];exact hO,hB2⟩
       case measure=>simp[intOf];omega
      |true=>
       rw[e]at c9 E;have E':Hid (plc (hurtP k m hs L t) (r+1)=plc (hurtP k m hs L t) r++[r]):=E;clear e E
       go_wp2_with (at_builtin;go_loud (refine wpList_append_int rfl (.tmp 150) (.tmp 152) 45 rfl wo.heap.size 3 l0 Tryz.underlying45 hl hx0 hx1 hx2 (.slice av (plc (hurtP k m hs L t) r).length cv) (plc (hurtP k m hs L t) r) rfl hO r _ 1 rfl (by have:=hnl.out;omega) hsz2 ?_);intro v' w9 hv2 hb2)
       have HO:Hid (OwnI w9 wo.heap.size 3 v' (plc (hurtP k m hs L t) (r+1))):=by show OwnI _ _ _ _ _;rw[E'.out];exact hv2
       have HB:Hid (Below wo.heap.size wo w9):=hB2.trans hb2;clear hO hv2 hb2 hB2 c9;go_wp2;go_roundw
       case rel=>exact⟨r+1,Zo,Zg,HO.out,HB.out⟩
       case measure=>simp[intOf];omega
     ·have hge2:¬(r:Int)<(s:Int):=by omega
      have er:r=s:=Zo
      rw[er,<-EP.out]at hO ⊢;have q9:¬(s:Int)<(s:Int):=Zo
      have HO:Hid (OwnI wr u1.heap.size 3 (.slice av (shP (k:Int) (m:Int) hs L).length cv) (shP (k:Int) (m:Int) hs L)):=ownsRow_base hO HBr.out.size;have HR9:Hid _:=HR.out.later hB2;have HB9:Hid _:=Below.next HBr.out hB2;clear hO hB2 er hBo;go_wp2;exact bodyPost_ret (v:=.tuple #[.slice (some ⟨G,0,none⟩) s s,.slice av (shP (k:Int) (m:Int) hs L).length cv,.int .i64 0]) (by simp[results,Tryz.results107,go_sem]) rfl ⟨_,_,by rw[EE.out.1],HR9.out,HO.out,HB9.out⟩
theorem z16_3{p:Prop} (h:p:=by
 go_enter Tryz.func107,Tryz.ntmps107
 go_wp2_with fail
 refine(rccheck_ok _ c).mono ?_
 rintro e u1 ⟨rfl,rfl⟩;clear c;go_wp2;exact bodyPost_ret (v:=.tuple #[.slice none 0 0,.slice none 0 0,.int .i64 60]) (by simp[results,Tryz.results107,go_sem]) rfl (nilG10 Zf EE.out)
 ):p:=h
theorem rsh_far{k m:Int}{vh vl:Value}{hs:List Bool}{L:List (List UInt8)}{w:World}(hH:RdB w vh hs)(hL:Rs w vl L)(hsm:∀i,hb hs i=true->(ro L i).length<=300):Calls Tryz.prog 107 #[.int .i64 k,.int .i64 m,vh,vl] w (MakesG10 w (shX k m hs L) (shR k m hs L) (shP k m hs L)):=by
 by_cases c:OkC k m
 ·obtain⟨k,m,rfl,rfl,h1,h2⟩:=c.nat;obtain⟨s,hs0⟩:∃s,Hid (s=k+m):=⟨_,rfl⟩;have g1:(k:Int)+(m:Int)=(s:Int):=by have:=hs0.out;omega
  have gw:IntKind.i64.wrap (s:Int)=(s:Int):=by have:=hs0.out;rw[IntKind.wrap_i64];omega
  by_cases p1:hs.length=s
  ·by_cases p2:L.length=s
   ·exact rsh_main h1 h2 hH hL hs0.out p1 p2 hsm
   ·have EE:Hid _:=sh_shard (hs:=hs) (L:=L) c (fun h=>p2 (by have:=h.2.1;omega));obtain⟨za,zc,rfl⟩:=hH.form;obtain⟨ma,mc,rfl⟩:=hL.form;have q1:((hs.length:Int)!=(s:Int))=false:=by simp[p1]
    have q2:((L.length:Int)!=(s:Int))=true:=Zm
    clear p1 p2 hH hL hsm;exact z16_3
  ·have EE:Hid _:=sh_shard (hs:=hs) (L:=L) c (fun h=>p1 (by have:=h.1;omega));obtain⟨za,zc,rfl⟩:=hH.form;obtain⟨ma,mc,rfl⟩:=hL.form;have q1:((hs.length:Int)!=(s:Int))=true:=by simp;omega
   clear p1 hH hL hsm;exact z16_3
 ·have EE:Hid _:=sh_bad (hs:=hs) (L:=L) c;obtain⟨za,zc,rfl⟩:=hH.form;obtain⟨ma,mc,rfl⟩:=hL.form;clear hH hL hsm
  go_enter Tryz.func107,Tryz.ntmps107
  go_wp2_with fail
  refine(rccheck_bad _ c).mono ?_
  rintro e u1 ⟨rfl,rfl⟩;clear c;go_wp2;exact bodyPost_ret (v:=.tuple #[.slice none 0 0,.slice none 0 0,.int .i64 50]) (by simp[results,Tryz.results107,go_sem]) rfl (nilG10 Zf EE.out)
theorem ints_ext{xs ys:List Int}(hl:xs.length=ys.length)(h:∀i,i<xs.length->xs.getD i 0=ys.getD i 0):xs=ys:=by
 refine List.ext_getElem hl fun i h1 h2=>?_
 have:=h i h1;simpa[List.getD,h1,h2]using this
theorem rints_any{va vb:Value}{xs ys:List Int}{w:World}(ha:RdI w va xs)(hb:RdI w vb ys)(hl:xs.length<=1000000)(hl2:ys.length<=1000000):
  Calls Tryz.prog 37 #[va,vb] w fun e w'=>e= .returned (.bool (decide (xs=ys)))/\Below w.heap.size w w':=by
 obtain⟨a1,c1,rfl⟩:=ha.form;obtain⟨a2,c2,rfl⟩:=hb.form
 by_cases hlen:xs.length=ys.length
 ·have hn:(((xs.length:Nat):Int)!=((ys.length:Nat):Int))=false:=by simp[hlen]
  have hlen':Hid _:=hlen;clear hlen
  go_enter Tryz.func37,Tryz.ntmps37
  go_wp2
  go_loopw [5] (fun i wr=>∃k:Nat,k<=xs.length/\i= .int .i64 k/\Hid (∀j,j<k->xs.getD j 0=ys.getD j 0)/\Below w.heap.size w wr) (fun i _=>xs.length-(intOf i).toNat)
  case atStart=>exact⟨0,Zo,rfl,fun j hj=>Zo,Zf⟩
  case round=>
   obtain⟨k,hk,rfl,hs,hB⟩:=hrel
   by_cases hlt:k<xs.length
   ·obtain⟨b1,o1,rfl,_,k1⟩:=(ha.below hB).at hlt;obtain⟨b2,o2,rfl,_,k2⟩:=(hb.below hB).at (show k<ys.length by have:=hlen'.out;omega);have hlt1:(k:Int)<(xs.length:Int):=by omega
    have hlt2:(k:Int)<(ys.length:Int):=by have:=hlen'.out;omega
    by_cases e:xs.getD k 0=ys.getD k 0
    ·have HS:Hid (∀j,j<k+1->xs.getD j 0=ys.getD j 0):=fun j hj=>by
      by_cases e2:j=k
      ·rw[e2];exact e
      ·exact hs.out j Zo
     rw[e]at k1;generalize ys.getD k 0=y at k1 k2;clear e hs ha hb
     go_wp2_with fail
     try go_quiet (fail)
     try go_wp2
     go_roundw
     case rel=>exact⟨k+1,Zo,Zg,HS,by first|exact hB|exact hB.drewN _⟩
     case measure=>simp[intOf];omega
    ·have hne:(xs.getD k 0 !=ys.getD k 0)=true:=bne_iff_ne.2 e;have E:Hid (decide (xs=ys)=false):=Zx fun q=>e (by rw[q])
     generalize ys.getD k 0=y at k2 hne;generalize xs.getD k 0=x at k1 hne;clear e hs ha hb
     go_wp2_with fail
     try go_quiet (fail)
     try go_wp2
     go_ret;exact⟨by rw[E.out];rfl,by first|exact hB|exact hB.drewN _⟩
   ·have hge:¬(k:Int)<(xs.length:Int):=by omega
    have E:Hid (decide (xs=ys)=true):=Zy (ints_ext hlen'.out fun i hi=>hs.out i Zo);clear hs ha hb;go_wp2;go_ret;exact⟨by rw[E.out];rfl,hB⟩
 ·have hn:(((xs.length:Nat):Int)!=((ys.length:Nat):Int))=true:=by simp;omega
  have E:Hid (decide (xs=ys)=false):=Zx fun q=>hlen (by rw[q])
  clear ha hb hlen
  go_enter Tryz.func37,Tryz.ntmps37
  go_wp2;go_ret;exact⟨by rw[E.out];rfl,Zf⟩
end Go.Proofs.YtddnfhfangfgeaaGreat.Gf
