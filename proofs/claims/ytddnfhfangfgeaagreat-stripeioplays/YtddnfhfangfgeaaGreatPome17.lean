/- JOINED: SeMath, SeCA, SeCC, SeRef. -/
import Derived.Test.YtddnfhfangfgeaaGreatPome5
import Derived.Laws.BytesArg
import Derived.Lib.SliceRun
set_option maxHeartbeats 4000000
set_option maxRecDepth 100000
namespace Go.Proofs.YtddnfhfangfgeaaGreat.Gf
set_option linter.unusedVariables false
set_option linter.unusedSimpArgs false
open Go.RowKit
def fo(n:Nat):List UInt8:=[UInt8.ofNat (n/16777216),UInt8.ofNat (n/65536),UInt8.ofNat (n/256),UInt8.ofNat n]
def nu(p:List UInt8):Nat:=(co p 0).toNat*16777216+(co p 1).toNat*65536+(co p 2).toNat*256+(co p 3).toNat
theorem fo_length(n:Nat):(fo n).length=4:=rfl
theorem nu_lt(p:List UInt8):nu p<4294967296:=by
 have h0:=(co p 0).toNat_lt;have h1:=(co p 1).toNat_lt;have h2:=(co p 2).toNat_lt;have h3:=(co p 3).toNat_lt;unfold nu;omega
theorem nu_fo{n:Nat}(h:n<4294967296):nu (fo n)=n:=by
 show(UInt8.ofNat (n/16777216)).toNat*16777216+(UInt8.ofNat (n/65536)).toNat*65536+(UInt8.ofNat (n/256)).toNat*256+(UInt8.ofNat n).toNat=n
 simp only[UInt8.toNat_ofNat'];omega
theorem four_of{p:List UInt8}(h:p.length=4):p=[co p 0,co p 1,co p 2,co p 3]:=by
 match p,h with
 |[a,b,c,d],_=>rfl
theorem z17_9{p:Prop} (h:p:=by
 apply UInt8.toNat_inj.1;rw[UInt8.toNat_ofNat'];unfold nu;omega
 ):p:=h
theorem fo_nu{p:List UInt8}(h:p.length=4):fo (nu p)=p:=by
 conv=>rhs;rw[four_of h]
 have h0:=(co p 0).toNat_lt;have h1:=(co p 1).toNat_lt;have h2:=(co p 2).toNat_lt;have h3:=(co p 3).toNat_lt;unfold fo;congr 1
 ·exact z17_9
 congr 1
 ·exact z17_9
 congr 1
 ·exact z17_9
 congr 1
 ·exact z17_9
def hdS(a e:Nat)(d:List UInt8):List UInt8:=fo a++(fo e++d)
def pkS(a e:Nat)(d:List UInt8):List UInt8:=hdS a e d++fo (more 0 (hdS a e d))
theorem hdS_length(a e:Nat)(d:List UInt8):(hdS a e d).length=d.length+8:=by
 unfold hdS;rw[List.length_append,List.length_append,fo_length,fo_length];omega
theorem pk_length(a e:Nat)(d:List UInt8):(pkS a e d).length=d.length+12:=by
 unfold pkS;rw[List.length_append,hdS_length,fo_length]
def epS(b:List UInt8):Nat:=nu ((b.drop 4).take 4)
def daS(b:List UInt8):List UInt8:=(b.drop 8).take (b.length-12)
theorem daS_length(b:List UInt8):(daS b).length=b.length-12:=by unfold daS;rw[List.length_take,List.length_drop];omega
theorem epS_lt(b:List UInt8):epS b<4294967296:=nu_lt _
theorem epS_pk{a e:Nat}(d:List UInt8)(he:e<4294967296):epS (pkS a e d)=e:=by
 unfold epS
 have:((pkS a e d).drop 4).take 4=fo e:=rfl
 rw[this,nu_fo he]
theorem daS_pk(a e:Nat)(d:List UInt8):daS (pkS a e d)=d:=by
 unfold daS;rw[pk_length,Nat.add_sub_cancel]
 have:(pkS a e d).drop 8=d++fo (more 0 (hdS a e d)):=rfl
 rw[this];exact List.take_left' rfl
theorem z17_11{p:Prop} (h:p:=by
 have e2:b.length-4=4+(4+(b.length-12)):=Zo
 rw[e2,List.take_add,List.take_add,List.drop_drop];rfl
 ):p:=h
theorem partsS{b:List UInt8}(h:12<=b.length):b=(b.take 4++((b.drop 4).take 4++daS b))++b.drop (b.length-4):=by
 have e1:b.take (b.length-4)=b.take 4++((b.drop 4).take 4++daS b):=by
  exact z17_11
 rw[<-e1,List.take_append_drop]
theorem aheadS{b:List UInt8}(h:12<=b.length):b.take (b.length-4)=b.take 4++((b.drop 4).take 4++daS b):=by
 exact z17_11
theorem pk_iff{b:List UInt8}{a:Nat}(h:12<=b.length)(ha:a<4294967296):pkS a (epS b) (daS b)=b↔(nu (b.take 4)=a/\nu (b.drop (b.length-4))=more 0 (b.take (b.length-4))):=by
 have l1:(b.take 4).length=4:=by rw[List.length_take];omega
 have l2:((b.drop 4).take 4).length=4:=by rw[List.length_take,List.length_drop];omega
 have l3:(b.drop (b.length-4)).length=4:=by rw[List.length_drop];omega
 have hp:=partsS h;have hh:=aheadS h;constructor
 ·intro e;have e1:pkS a (epS b) (daS b)=(b.take 4++((b.drop 4).take 4++daS b))++b.drop (b.length-4):=e.trans hp;unfold pkS at e1;have e2:=List.append_inj e1 (by rw[<-hh,hdS_length,daS_length,List.length_take];omega);have e3:fo a=b.take 4:=(List.append_inj e2.1 (by rw[fo_length,l1])).1;refine⟨by rw[<-e3,nu_fo ha],?_⟩;rw[<-e2.2,nu_fo (more_lt _ _),e2.1,hh]
 ·rintro⟨h1,h2⟩;have e1:hdS a (epS b) (daS b)=b.take (b.length-4):=by
   rw[hh];unfold hdS epS;rw[fo_nu l2,<-h1,fo_nu l1]
  unfold pkS;rw[e1,<-h2,fo_nu l3,List.take_append_drop]
def OkSe(a e:Int)(n:Nat):Prop:=(0<=a/\a<=2147483647)/\(0<=e/\e<=2147483647)/\n<=4096
instance (a e:Int)(n:Nat):Decidable (OkSe a e n):=inferInstanceAs (Decidable (_/\_/\_))
def paX(a e:Int)(d:List UInt8):Int:=if OkSe a e d.length then 0 else 1
def paR(a e:Int)(d:List UInt8):List UInt8:=if OkSe a e d.length then pkS a.toNat e.toNat d else []
theorem pa_ok{a e:Int}{d:List UInt8}(h:OkSe a e d.length):paX a e d=0/\paR a e d=pkS a.toNat e.toNat d:=⟨if_pos h,if_pos h⟩
theorem pa_not{a e:Int}{d:List UInt8}(h:¬OkSe a e d.length):paX a e d=1/\paR a e d=[]:=⟨if_neg h,if_neg h⟩
def OkUe(a:Int)(b:List UInt8):Prop:=12<=b.length/\OkSe a (epS b:Int) (daS b).length/\pkS a.toNat (epS b) (daS b)=b
instance (a:Int)(b:List UInt8):Decidable (OkUe a b):=inferInstanceAs (Decidable (_/\_/\_))
def upX(a:Int)(b:List UInt8):Int:=if OkUe a b then 0 else 110
def upN(a:Int)(b:List UInt8):Nat:=if OkUe a b then epS b else 0
def upD(a:Int)(b:List UInt8):List UInt8:=if OkUe a b then daS b else []
theorem up_ok{a:Int}{b:List UInt8}(h:OkUe a b):upX a b=0/\upN a b=epS b/\upD a b=daS b:=⟨if_pos h,if_pos h,if_pos h⟩
theorem up_not{a:Int}{b:List UInt8}(h:¬OkUe a b):upX a b=110/\upN a b=0/\upD a b=[]:=⟨if_neg h,if_neg h,if_neg h⟩
theorem okU_iff{a:Int}{b:List UInt8}:OkUe a b↔(12<=b.length/\b.length<=4108/\0<=a/\a<=2147483647/\nu (b.drop (b.length-4))=more 0 (b.take (b.length-4))/\nu (b.take 4)=a.toNat/\epS b<=2147483647):=by
 unfold OkUe OkSe;rw[daS_length];constructor
 ·rintro⟨h1,⟨h2,h3,h4⟩,h5⟩;have h6:=(pk_iff h1 Zo).1 h5;exact⟨h1,Zo,h2.1,h2.2,h6.2,h6.1,Zo⟩
 ·rintro⟨h1,h2,h3,h4,h5,h6,h7⟩;exact⟨h1,⟨⟨h3,h4⟩,⟨Zo,Zo⟩,Zo⟩,(pk_iff h1 Zo).2 ⟨h6,h5⟩⟩
theorem ok_pk{a e:Int}{d:List UInt8}(h:OkSe a e d.length):OkUe a (pkS a.toNat e.toNat d)/\epS (pkS a.toNat e.toNat d)=e.toNat/\daS (pkS a.toNat e.toNat d)=d:=by
 have h1:epS (pkS a.toNat e.toNat d)=e.toNat:=epS_pk d (by have:=h.2.1;omega);have h2:=daS_pk a.toNat e.toNat d;refine⟨⟨by rw[pk_length];omega,?_,by rw[h1,h2]⟩,h1,h2⟩;rw[h1,h2,show((e.toNat:Nat):Int)=e by have:=h.2.1;omega];exact h
theorem co_drop0(p:List UInt8)(n i:Nat):co (p.drop n) i=co p (n+i):=by unfold co;rw[List.getElem?_drop]
theorem pk_tells{a e o:Int}{d:List UInt8}{t:Nat}{y:UInt8}(h:OkSe a e d.length)(ht:t<(pkS a.toNat e.toNat d).length)(hy:y≠co (pkS a.toNat e.toNat d) t):¬OkUe o ((pkS a.toNat e.toNat d).set t y):=by
 intro hu;have hl:((pkS a.toNat e.toNat d).set t y).length=(pkS a.toNat e.toNat d).length:=List.length_set;have h1:=okU_iff.1 hu;have h2:=okU_iff.1 (ok_pk h).1;obtain⟨_,_,_,_,s1,_⟩:=h1;obtain⟨g1,_,_,_,s2,_⟩:=h2;rw[hl]at s1;obtain⟨b,hb⟩:∃b,b=pkS a.toNat e.toNat d:=⟨_,rfl⟩;rw[<-hb]at s1 s2 ht hy g1;have l3:(b.drop (b.length-4)).length=4:=by rw[List.length_drop];omega
 by_cases hc:t<b.length-4
 ·have e1:(b.set t y).drop (b.length-4)=b.drop (b.length-4):=by rw[List.drop_set,if_pos hc]
  have e2:(b.set t y).take (b.length-4)=(b.take (b.length-4)).set t y:=List.take_set;rw[e1,e2,s2]at s1;refine tells_set (L:=b.take (b.length-4)) (t:=t) (by rw[List.length_take];omega) (y:=y) ?_ s1.symm
  rw[co_take hc];exact hy
 ·have e1:(b.set t y).take (b.length-4)=b.take (b.length-4):=by rw[List.take_set_of_le Zo]
  rw[e1,<-s2]at s1;have l4:((b.set t y).drop (b.length-4)).length=4:=by rw[List.length_drop,List.length_set];omega
  have e2:(b.set t y).drop (b.length-4)=b.drop (b.length-4):=by rw[<-fo_nu l4,<-fo_nu l3,s1]
  have e3:=congrArg (fun z=>co z (t-(b.length-4))) e2;simp only[co_drop0]at e3;rw[show b.length-4+(t-(b.length-4))=t by omega,co_set y ht,if_pos rfl]at e3;exact hy e3
theorem z17_8{p:Prop} (h:p:=by
 have E:decide (0<=n/\n<=2147483647)=false:=Zx Zo;rw[E];clear E
 go_enter Tryz.func124,Tryz.ntmps124
 go_wp2;go_ret;exact⟨rfl,rfl⟩
 ):p:=h
theorem smay_any{n:Int}{w:World}:Calls Tryz.prog 124 #[.int .i64 n] w fun e w'=>e= .returned (.bool (decide (0<=n/\n<=2147483647)))/\w'=w:=by
 by_cases h0:0<=n
 ·have h0':n>=0:=h0
  by_cases h1:n<=2147483647
  ·have E:decide (0<=n/\n<=2147483647)=true:=Zy ⟨h0,h1⟩;rw[E];clear E
   go_enter Tryz.func124,Tryz.ntmps124
   go_wp2;go_ret;exact⟨rfl,rfl⟩
  ·exact z17_8
 ·have h0':¬n>=0:=h0;exact z17_8
theorem info1_u8s:(Tryz.prog.info? 5).map (·.size)=some 1:=by
 obtain⟨i0,hi,hz0,hz1,hz2⟩:=info_parts info_u8;rw[hi];simp[hz1]
theorem wrap_u8(m:Nat):IntKind.u8.wrap (m:Int)=(((UInt8.ofNat m).toNat:Nat):Int):=by
 rw[IntKind.wrap_u8,UInt8.toNat_ofNat'];omega
theorem z17_4{p:Prop} (h:p:=by
 clear hK K;refine tkH 17 ?_
 refine rnH 18 fun K hK=>?_
 go_simp;refine koH hK ((((Only.refl lb v3).setCell 0 _).cell (p:=⟨bb,0,none⟩) n3.symm).trans c2v) fun hHeld=>?_
 clear hK K;refine wpAnyH_done Zk ?_ _
 try simp only[List.getElem_toArray,List.getElem_cons_succ,List.getElem_cons_zero,Act.put,List.setIfInBounds_toArray,List.set_cons_zero,List.set_cons_succ]
 clear c1v c2v fzv hHeld;go_wp2
 go_end0
 exact⟨rfl,FW.out⟩
 ):p:=h
theorem z17_1{p:Prop} (h:p:=by
 refine rnH 16 fun K hK=>?_
 refine step_copy_rd rfl (.tmp 7) (.tmp 19) 36 36 rfl 5 Tryz.underlying36 info1_u8s rfl rfl RL hfl hdl RA Zo ?_
 intro v3 O3 R3;have c1v:=(O3.cell (p:=⟨lb,0,none⟩) n1).trans (c1a (.cells #[.int .u8 ((x0.toNat:Nat):Int),.int .u8 ((x1.toNat:Nat):Int),.int .u8 ((x2.toNat:Nat):Int),.int .u8 ((x3.toNat:Nat):Int)] 5));have c2v:=(O3.cell (p:=⟨bb,0,none⟩) n2).trans (c2a (.cells #[.int .u8 ((x0.toNat:Nat):Int),.int .u8 ((x1.toNat:Nat):Int),.int .u8 ((x2.toNat:Nat):Int),.int .u8 ((x3.toNat:Nat):Int)] 5));have fzv:=(O3.frozen (p:=⟨lb,0,none⟩) n1).trans (fza (.cells #[.int .u8 ((x0.toNat:Nat):Int),.int .u8 ((x1.toNat:Nat):Int),.int .u8 ((x2.toNat:Nat):Int),.int .u8 ((x3.toNat:Nat):Int)] 5));have FW:=FIN v3 O3 R3;clear FIN RL RA;refine koH hK c2v fun hHeld=>?_
 exact z17_4
 ):p:=h
theorem z17_3{p:Prop} (h:p:=by
 refine rmH 0 16 (fun K hK=>?_) fun K hK=>?_
 ·go_simp;refine koH hK Za fun hHeld=>?_
  clear hK K;exact z17_1
 ·refine step_copy_rd rfl (.tmp 7) (.tmp 19) 36 36 rfl 5 Tryz.underlying36 info1_u8s rfl rfl RL hfl hdl RA Zo ?_
  intro v3 O3 R3;have c1v:=(O3.cell (p:=⟨lb,0,none⟩) n1).trans (c1a (.cells #[.int .u8 ((x0.toNat:Nat):Int),.int .u8 ((x1.toNat:Nat):Int),.int .u8 ((x2.toNat:Nat):Int),.int .u8 ((x3.toNat:Nat):Int)] 5));have c2v:=(O3.cell (p:=⟨bb,0,none⟩) n2).trans (c2a (.cells #[.int .u8 ((x0.toNat:Nat):Int),.int .u8 ((x1.toNat:Nat):Int),.int .u8 ((x2.toNat:Nat):Int),.int .u8 ((x3.toNat:Nat):Int)] 5));have fzv:=(O3.frozen (p:=⟨lb,0,none⟩) n1).trans (fza (.cells #[.int .u8 ((x0.toNat:Nat):Int),.int .u8 ((x1.toNat:Nat):Int),.int .u8 ((x2.toNat:Nat):Int),.int .u8 ((x3.toNat:Nat):Int)] 5));have FW:=FIN v3 O3 R3;clear FIN RL RA;refine koH hK c2v fun hHeld=>?_
  clear hK K;refine rnH 0 fun K hK=>?_
  go_simp;refine koH hK Za fun hHeld=>?_
  exact z17_4
 ):p:=h
theorem z17_10{p:Prop} (h:p:=by
 clear hK K;refine rnH 2 fun K hK=>?_
 go_simp;refine koH hK Za fun hHeld=>?_
 clear hK K;refine tkH 3 ?_
 exact z17_1
 ):p:=h
theorem z17_13{p:Prop} (h:p:=by
 refine rnH 15 fun K hK=>?_
 go_simp;refine koH hK (c2a _) fun hHeld=>?_
 clear hK K;exact z17_1
 ):p:=h
theorem slay_any{w:World}{lb bb g L k n base:Nat}{f:Nat->UInt8}{u:Int}(hu:u=(n:Int))(c1:w.cell? ⟨lb,0,none⟩=some (.int .i64 (k:Int)))(c2:w.cell? ⟨bb,0,none⟩=some (.slice (some ⟨g,0,none⟩) L L))(fz:w.frozen? ⟨lb,0,none⟩=false)(hR:RowF w base 5 g L L f)(hk:k+4<=L)(hL:L<=5000)(l1:lb<w.heap.size)(l2:bb<w.heap.size)(n1:lb≠g)(n2:bb≠g)(n3:lb≠bb):
  Calls Tryz.prog 125 #[.int .u32 u,.pointer (some ⟨lb,0,none⟩),.pointer (some ⟨bb,0,none⟩)] w fun e w'=>e= .returned (.tuple #[])/\w'.cell? ⟨lb,0,none⟩=some (.int .i64 ((k+4:Nat):Int))/\w'.cell? ⟨bb,0,none⟩=some (.slice (some ⟨g,0,none⟩) L L)/\w'.frozen? ⟨lb,0,none⟩=false/\RowF w' base 5 g L L (putAt f k 4 (co (fo n)))/\TurnL [lb,g] w w':=by
 subst hu;obtain⟨x0,hx0⟩:∃x,Hid (x=UInt8.ofNat (n/16777216)):=⟨_,rfl⟩;obtain⟨x1,hx1⟩:∃x,Hid (x=UInt8.ofNat (n/65536)):=⟨_,rfl⟩;obtain⟨x2,hx2⟩:∃x,Hid (x=UInt8.ofNat (n/256)):=⟨_,rfl⟩;obtain⟨x3,hx3⟩:∃x,Hid (x=UInt8.ofNat n):=⟨_,rfl⟩;have q0:IntKind.u8.wrap ((n:Int)/16777216)=((x0.toNat:Nat):Int):=by rw[hx0.out];exact wrap_u8 (n/16777216)
 have q1:IntKind.u8.wrap ((n:Int)/65536)=((x1.toNat:Nat):Int):=by rw[hx1.out];exact wrap_u8 (n/65536)
 have q2:IntKind.u8.wrap ((n:Int)/256)=((x2.toNat:Nat):Int):=by rw[hx2.out];exact wrap_u8 (n/256)
 have q3:IntKind.u8.wrap (n:Int)=((x3.toNat:Nat):Int):=by rw[hx3.out];exact wrap_u8 n
 have hF:Hid (fo n=[x0,x1,x2,x3]):=by show _=_;rw[hx0.out,hx1.out,hx2.out,hx3.out];rfl
 rw[hF.out];clear hF hx0 hx1 hx2 hx3;have RL:Rd (w.drew.alloc (.cells #[.int .u8 ((x0.toNat:Nat):Int),.int .u8 ((x1.toNat:Nat):Int),.int .u8 ((x2.toNat:Nat):Int),.int .u8 ((x3.toNat:Nat):Int)] 5)) (.slice (some ⟨w.heap.size,0,none⟩) 4 4) [x0,x1,x2,x3]:=rd_lit (w:=w.drew) [x0,x1,x2,x3] rfl rfl Zd;have hfl:[x0,x1,x2,x3].length=4:=rfl;have RA:RowF (w.drew.alloc (.cells #[.int .u8 ((x0.toNat:Nat):Int),.int .u8 ((x1.toNat:Nat):Int),.int .u8 ((x2.toNat:Nat):Int),.int .u8 ((x3.toNat:Nat):Int)] 5)) base 5 g L L f:=hR.later ((Zf.drew).alloc Zr _);have c1a:∀o,(w.drew.alloc o).cell? ⟨lb,0,none⟩=some (.int .i64 (k:Int)):=fun o=>(World.cell?_alloc_past _ _ _ l1).trans c1
 have c2a:∀o,(w.drew.alloc o).cell? ⟨bb,0,none⟩=some (.slice (some ⟨g,0,none⟩) L L):=fun o=>(World.cell?_alloc_past _ _ _ l2).trans c2
 have fza:∀o,(w.drew.alloc o).frozen? ⟨lb,0,none⟩=false:=fun o=>(((Below.refl w.heap.size w).drew.alloc Zr o).frozen (p:=⟨lb,0,none⟩) l1).trans fz
 have hdl:4<=L-k:=Zo
 obtain⟨m,hm⟩:∃m,Hid (m=k+4):=⟨_,rfl⟩;rw[<-hm.out];have g0:(k:Int)+4=(m:Int):=by have:=hm.out;omega
 have gw:IntKind.i64.wrap (m:Int)=(m:Int):=by rw[IntKind.wrap_i64];have:=hm.out;omega
 clear hm;have g1:(k:Int)<=(L:Int):=Zo
 have g2:¬L=k:=Zo
 have g3:k<L:=Zo
 have FIN:∀v3,Only g (w.drew.alloc (.cells #[.int .u8 ((x0.toNat:Nat):Int),.int .u8 ((x1.toNat:Nat):Int),.int .u8 ((x2.toNat:Nat):Int),.int .u8 ((x3.toNat:Nat):Int)] 5)) v3->RowF v3 base 5 g L L (putAt f k 4 (co [x0,x1,x2,x3]))->Hid ((v3.setCell ⟨lb,0,none⟩ (.int .i64 (m:Int))).cell? ⟨lb,0,none⟩=some (.int .i64 (m:Int))/\(v3.setCell ⟨lb,0,none⟩ (.int .i64 (m:Int))).cell? ⟨bb,0,none⟩=some (.slice (some ⟨g,0,none⟩) L L)/\(v3.setCell ⟨lb,0,none⟩ (.int .i64 (m:Int))).frozen? ⟨lb,0,none⟩=false/\RowF (v3.setCell ⟨lb,0,none⟩ (.int .i64 (m:Int))) base 5 g L L (putAt f k 4 (co [x0,x1,x2,x3]))/\TurnL [lb,g] w (v3.setCell ⟨lb,0,none⟩ (.int .i64 (m:Int)))):=by
  intro v3 O3 R3;have c1v:=(O3.cell (p:=⟨lb,0,none⟩) n1).trans (c1a _);have c2v:=(O3.cell (p:=⟨bb,0,none⟩) n2).trans (c2a _);have fzv:=(O3.frozen (p:=⟨lb,0,none⟩) n1).trans (fza _);have OO:=(Only.refl lb v3).setCell 0 (.int .i64 (m:Int));have T1:TurnL [lb,g] w (w.drew.alloc (.cells #[.int .u8 ((x0.toNat:Nat):Int),.int .u8 ((x1.toNat:Nat):Int),.int .u8 ((x2.toNat:Nat):Int),.int .u8 ((x3.toNat:Nat):Int)] 5)):=Below.turnL ((Zf.drew).alloc Zr _) _;refine⟨by simp[go_sem,c1v],(OO.cell (p:=⟨bb,0,none⟩) n3.symm).trans c2v,by simp[go_sem,fzv],R3.only n1.symm OO,(T1.trans (O3.turnL Zs)).trans (OO.turnL Zs)⟩
 clear hR
 go_enter Tryz.func125,Tryz.ntmps125
 go_wp2
 --REGION
 refine wp_region_held_drew (S:=(fun wx=>wx.cell? ⟨bb,0,none⟩=some (.slice (some ⟨g,0,none⟩) L L))) Zk ?_ (fun hHeld=>?_)
 ·exact c2
 refine tkH 1 ?_
 refine tkH 4 ?_
 refine tkH 5 ?_
 refine tkH 6 ?_
 refine tkH 7 ?_
 refine tkH 8 ?_
 refine tkH 9 ?_
 refine tkH 10 ?_
 refine tkH 11 ?_
 refine tkH 12 ?_
 refine tkH 13 ?_
 refine tkH 14 ?_
 refine rtH 0 2 15 (fun K hK=>?_) (fun K hK=>?_) fun K hK=>?_
 ·go_simp;refine koH hK Za fun hHeld=>?_
  clear hK K;refine rmH 2 15 (fun K hK=>?_) fun K hK=>?_
  ·go_simp;refine koH hK Za fun hHeld=>?_
   clear hK K;refine tkH 3 ?_
   exact z17_13
  ·go_simp;refine koH hK (c2a _) fun hHeld=>?_
   exact z17_10
 ·go_simp;refine koH hK Za fun hHeld=>?_
  clear hK K;refine tkH 3 ?_
  refine rmH 0 15 (fun K hK=>?_) fun K hK=>?_
  ·go_simp;refine koH hK Za fun hHeld=>?_
   clear hK K;exact z17_13
  ·go_simp;refine koH hK (c2a _) fun hHeld=>?_
   clear hK K;exact z17_3
 ·go_simp;refine koH hK (c2a _) fun hHeld=>?_
  clear hK K;refine rmH 0 2 (fun K hK=>?_) fun K hK=>?_
  ·go_simp;refine koH hK Za fun hHeld=>?_
   exact z17_10
  ·go_simp;refine koH hK Za fun hHeld=>?_
   clear hK K;refine tkH 3 ?_
   exact z17_3
 --REGION END
def MakesS(w:World)(X:Int)(R:List UInt8)(e:Ending)(w':World):Prop:=∃v,e= .returned (.tuple #[v,.int .i64 X])/\Rd w' v R/\Below w.heap.size w w'
theorem RowF.partS{w:World}{base e g L C:Nat}{f:Nat->UInt8}(h:RowF w base e g L C f){c cap:Nat}(hc:0<c)(hl:c<=L)(hcap:c<=cap)(hm:cap<=maxLen):Rd w (.slice (some ⟨g,0,none⟩) c cap) (upto f c):=by
 refine Or.inr ⟨g,0,cap,fun e=>?_,by rw[upto_length],by rw[upto_length];exact hcap,hm,h.lt.2,fun i hi=>?_⟩
 ·have:=upto_length f c;rw[e]at this;simp at this;omega
 ·rw[upto_length]at hi;rw[co_upto_lt hi,Nat.zero_add];exact h.cell Zo
def Pre(f:Nat->UInt8)(r:List UInt8):Prop:=∀t,t<r.length->f t=co r t
theorem Pre.nil(f:Nat->UInt8):Pre f []:=fun t h=>by simp at h
theorem Pre.put{f:Nat->UInt8}{r:List UInt8}(h:Pre f r)(q:List UInt8){k n:Nat}(hk:k=r.length)(hn:n=q.length):Pre (putAt f k n (co q)) (r++q):=by
 subst hk hn;intro t ht;rw[List.length_append]at ht
 by_cases h1:t<r.length
 ·rw[putAt_out (Or.inl h1),co_append_lt h1];exact h t h1
 ·obtain⟨j,rfl⟩:=Nat.exists_eq_add_of_le (show r.length<=t by omega);rw[putAt_in Zo,co_append_ge Zo,Nat.add_sub_cancel_left]
theorem Pre.upto{f:Nat->UInt8}{r:List UInt8}(h:Pre f r){n:Nat}(hn:n=r.length):upto f n=r:=by
 subst hn;refine co_ext (upto_length _ _) fun i hi=>?_
 rw[upto_length]at hi;rw[co_upto_lt hi];exact h i hi
theorem z17_2{p:Prop} (h:p:=by
 clear hK K;refine tkH 6 ?_
 refine rnH 7 fun K hK=>?_
 go_simp;refine koH hK ((((Only.refl lb v3).setCell 0 _).cell (p:=⟨bb,0,none⟩) n3.symm).trans c2v) fun hHeld=>?_
 clear hK K;refine wpAnyH_done Zk ?_ _
 try simp only[List.getElem_toArray,List.getElem_cons_succ,List.getElem_cons_zero,Act.put,List.setIfInBounds_toArray,List.set_cons_zero,List.set_cons_succ]
 clear c1v c2v fzv hHeld c1 c2 fz O3 R3;obtain⟨c1,c2,fz,R5,T5⟩:=FW.out;clear FW;generalize v3.setCell ⟨lb,0,none⟩ (.int .i64 (M:Int))=w5 at*;generalize putAt f4 8 p.length (co p)=f5 at*;have RS:Rd w5 (.slice (some ⟨g,0,none⟩) M L) (hdS A E p):=by rw[<-HH.out];exact R5.partS Zo Zo Zo Zl
 have hsl:=hdS_length A E p;have hML':(M:Int)<=(L:Int):=Zo
 have s5:=T5.size
 go_wp2_with fail
 refine(csum_any RS Zo).mono ?_
 rintro e' w6 ⟨rfl,b6⟩;have R6:=R5.later b6;have d1:=(b6.cell (p:=⟨lb,0,none⟩) (show lb<w5.heap.size by omega)).trans c1;have d2:=(b6.cell (p:=⟨bb,0,none⟩) (show bb<w5.heap.size by omega)).trans c2;have dz:=(b6.frozen (p:=⟨lb,0,none⟩) (show lb<w5.heap.size by omega)).trans fz;have T6:TurnL [lb,g] w2 w6:=T5.trans (Below.turnL b6 _);have s6:=T6.size;clear RS R5 c1 c2 fz T5 b6 s5
 go_wp2_with fail
 refine(slay_any (n:=more 0 (hdS A E p)) rfl d1 d2 dz R6 Zo hL5 Zo Zo n1 n2 n3).mono ?_
 rintro e' w7 ⟨rfl,c1,c2,fz,R7,T7⟩;replace T7:=T6.trans T7;have HR:Hid (Rd w7 (.slice (some ⟨g,0,none⟩) L L) (pkS A E p)):=by
  have e1:upto (putAt f5 M 4 (co (fo (more 0 (hdS A E p))))) L=pkS A E p:=by
   have q1:=P5.put (fo (more 0 (hdS A E p))) (k:=M) (n:=4) (by simp[fo_length];omega) rfl;rw[q1.upto (by simp[fo_length];omega)];unfold pkS hdS;simp
  rw[<-e1];exact R7.rd
 have HB:Hid (Below wo.heap.size wo w7):=B2.trans (T7.below GB B2.size);clear d1 d2 dz R6 T6 c1 fz R7 T7 P5 HH;go_wp2
 go_ret2
 exact⟨_,rfl,HR.out,HB.out⟩
 ):p:=h
theorem z17_5{p:Prop} (h:p:=by
 refine rnH 5 fun K hK=>?_
 refine step_copy_rd rfl (.tmp 40) (.tmp 41) 36 36 rfl 5 Tryz.underlying36 info1_u8s rfl rfl RD rfl hdl RA Zo ?_
 intro v3 O3 R3;have c1v:=(O3.cell (p:=⟨lb,0,none⟩) n1).trans c1;have c2v:=(O3.cell (p:=⟨bb,0,none⟩) n2).trans c2;have fzv:=(O3.frozen (p:=⟨lb,0,none⟩) n1).trans fz;have FW:=FIN v3 O3 R3;clear FIN RD RA;refine koH hK c2v fun hHeld=>?_
 exact z17_2
 ):p:=h
theorem z17_12{p:Prop} (h:p:=by
 go_wp2
 go_ret2
 exact⟨_,rfl,rd_nil0,Zf⟩
 ):p:=h
theorem z17_7{p:Prop} (h:p:=by
 go_enter Tryz.func85,Tryz.ntmps85
 go_wp2_with fail
 refine smay_any.mono ?_
 rintro e' w' ⟨rfl,rfl⟩;rw[da]
 go_wp2_with fail
 refine smay_any.mono ?_
 rintro e' w' ⟨rfl,rfl⟩;rw[de];exact z17_12
 ):p:=h
theorem spack_any{a e:Int}{v:Value}{p:List UInt8}{w:World}(hp:Rd w v p):Calls Tryz.prog 85 #[.int .i64 a,.int .i64 e,v] w (MakesS w (paX a e p) (paR a e p)):=by
 obtain⟨va,vc,rfl⟩:=hp.form;have hmax:=hp.len;unfold maxLen at hmax
 by_cases ha:0<=a/\a<=2147483647
 ·have da:decide (0<=a/\a<=2147483647)=true:=Zy ha
  by_cases he:0<=e/\e<=2147483647
  ·have de:decide (0<=e/\e<=2147483647)=true:=Zy he
   by_cases hl:p.length<=4096
   ·rw[(pa_ok ⟨ha,he,hl⟩).1,(pa_ok ⟨ha,he,hl⟩).2];have hl':¬(p.length:Int)>4096:=by omega
    obtain⟨i0,hi,hz0,hz1,hz2⟩:=info_parts info_u8;obtain⟨L,hL⟩:∃L,Hid (L=12+p.length):=⟨_,rfl⟩;have g0:(12:Int)+(p.length:Int)=(L:Int):=by have:=hL.out;omega
    have gw:IntKind.i64.wrap (L:Int)=(L:Int):=by rw[IntKind.wrap_i64];have:=hL.out;omega
    have hL5:L<=5000:=by have:=hL.out;omega
    have hL4:12<=L:=by have:=hL.out;omega
    go_enter Tryz.func85,Tryz.ntmps85
    go_wp2_with fail
    refine smay_any.mono ?_
    rintro e' w' ⟨rfl,rfl⟩;rw[da]
    go_wp2_with fail
    refine smay_any.mono ?_
    rintro e' w' ⟨rfl,rfl⟩;rw[de];clear da de;obtain⟨wo,hwo⟩:∃wo,wo=w':=⟨_,rfl⟩;subst hwo;obtain⟨A,rfl⟩:∃A:Nat,a=(A:Int):=⟨a.toNat,Zo⟩;obtain⟨E,rfl⟩:∃E:Nat,e=(E:Int):=⟨e.toNat,Zo⟩;rw[Int.toNat_natCast,Int.toNat_natCast];have wA:IntKind.u32.wrap (A:Int)=(A:Int):=by rw[IntKind.wrap_u32];omega
    have wE:IntKind.u32.wrap (E:Int)=(E:Int):=by rw[IntKind.wrap_u32];omega
    go_wp2_with (at_make;go_loud (refine wpList_make_full _ rfl (.tmp 26) (.tmp 26) 36 rfl wo.heap.size 5 i0 (.int .u8 0) 1 Tryz.underlying36 hi hz0 hz1 _ _ _ _ L rfl rfl Zo Zo (by rw[hz2];omega) Zl Zr ?_);intro w1 hown1 hgrow1;have R1:=RowF.made hown1;have B1:Below wo.heap.size wo w1:=Zf.grown hgrow1 Zr (fun k h=>by cases h);clear hown1 hgrow1)
    obtain⟨g,hg⟩:∃g,g=wo.heap.size:=⟨_,rfl⟩;obtain⟨bb,hbb⟩:∃bb,bb=w1.heap.size:=⟨_,rfl⟩;obtain⟨lb,hlb⟩:∃lb,lb=w1.heap.size+1:=⟨_,rfl⟩;have hlt:=R1.lt.2;obtain⟨w2,hw2⟩:∃w2,w2=((w1.alloc (.cells #[.slice (some ⟨wo.heap.size,0,none⟩) L L] 36)).alloc (.cells #[.int .i64 0] 3)):=⟨_,rfl⟩;have D2:Below w1.heap.size w1 w2:=by rw[hw2];exact below_lit (below_lit Zf _) _
    have R2:RowF w2 wo.heap.size 5 wo.heap.size L L (fun _=>0):=R1.later D2;have s2:w2.heap.size=w1.heap.size+2:=by rw[hw2];simp
    have c1:w2.cell? ⟨lb,0,none⟩=some (.int .i64 ((0:Nat):Int)):=by rw[hw2,hlb];go_simp
    have c2:w2.cell? ⟨bb,0,none⟩=some (.slice (some ⟨g,0,none⟩) L L):=by rw[hw2,hbb,hg];go_simp
    have fz:w2.frozen? ⟨lb,0,none⟩=false:=by rw[hw2,hlb];go_simp
    have B2:Below wo.heap.size wo w2:=Below.step B1 D2;rw[<-hw2,<-hlb,<-hbb,<-hg];rw[<-hg]at R2;have n1:lb≠g:=Zo
    have n2:bb≠g:=Zo
    have n3:lb≠bb:=Zo
    have l1:lb<w2.heap.size:=Zo
    have l2:bb<w2.heap.size:=Zo
    have AP:ApartL [lb,g] (.slice va p.length vc):=hp.apartL (by intro x hx;simp at hx;omega);have R2p:=hp.below B2;have GB:∀x,x∈[lb,g]->wo.heap.size<=x:=by intro x hx;simp at hx;omega
    have PZ:Pre (fun _=>0) []:=Pre.nil _;clear hw2 s2 D2 R1 B1 hlt hg hbb hlb hp;refine(slay_any (n:=A) rfl c1 c2 fz R2 Zo hL5 l1 l2 n1 n2 n3).mono ?_
    rintro e' w3 ⟨rfl,d1,d2,dz,R3,T3⟩;have P3:Pre (putAt (fun _=>0) 0 4 (co (fo A))) ([]++fo A):=PZ.put (fo A) rfl rfl;have s3:=T3.size;clear c1 c2 fz R2 PZ;generalize putAt (fun _=>0) 0 4 (co (fo A))=f3 at*
    go_wp2_with fail
    refine(slay_any (n:=E) rfl d1 d2 dz R3 Zo hL5 Zo Zo n1 n2 n3).mono ?_
    rintro e' w4 ⟨rfl,c1,c2,fz,R4,T4⟩;have P4:Pre (putAt f3 (0+4) 4 (co (fo E))) (([]++fo A)++fo E):=P3.put (fo E) rfl rfl;replace T4:=T3.trans T4;have s4:=T4.size;clear d1 d2 dz R3 P3 T3 s3;generalize putAt f3 (0+4) 4 (co (fo E))=f4 at*;rw[show 0+4+4=8 from rfl]at c1;have RD:=(R2p.turnL AP T4).drewN 1;have RA:RowF w4.drew g 5 g L L f4:=R4.later Zf.drew;obtain⟨M,hM⟩:∃M,Hid (M=8+p.length):=⟨_,rfl⟩;have g5:(8:Int)+(p.length:Int)=(M:Int):=by have:=hM.out;omega
    have gw5:IntKind.i64.wrap (M:Int)=(M:Int):=by rw[IntKind.wrap_i64];have:=hM.out;omega
    have hML:M+4=L:=by have:=hM.out;have:=hL.out;omega
    have hM8:8<=M:=by have:=hM.out;omega
    have P5:Pre (putAt f4 8 p.length (co p)) (([]++fo A++fo E)++p):=P4.put p rfl rfl;have HH:Hid (upto (putAt f4 8 p.length (co p)) M=hdS A E p):=by
     show _=_
     rw[P5.upto (by rw[hM.out];simp[fo_length];omega)];unfold hdS;simp
    have hdl:p.length<=L-8:=by have:=hM.out;omega
    have g6:(8:Int)<=(L:Int):=Zo
    have g7:¬L=8:=Zo
    have g8:8<L:=Zo
    have hpl:8+p.length<=L:=by have:=hM.out;omega
    have FIN:∀v3,Only g w4.drew v3->RowF v3 g 5 g L L (putAt f4 8 p.length (co p))->Hid ((v3.setCell ⟨lb,0,none⟩ (.int .i64 (M:Int))).cell? ⟨lb,0,none⟩=some (.int .i64 (M:Int))/\(v3.setCell ⟨lb,0,none⟩ (.int .i64 (M:Int))).cell? ⟨bb,0,none⟩=some (.slice (some ⟨g,0,none⟩) L L)/\(v3.setCell ⟨lb,0,none⟩ (.int .i64 (M:Int))).frozen? ⟨lb,0,none⟩=false/\RowF (v3.setCell ⟨lb,0,none⟩ (.int .i64 (M:Int))) g 5 g L L (putAt f4 8 p.length (co p))/\TurnL [lb,g] w2 (v3.setCell ⟨lb,0,none⟩ (.int .i64 (M:Int)))):=by
     intro v3 O3 R3;have c1v:=(O3.cell (p:=⟨lb,0,none⟩) n1).trans c1;have c2v:=(O3.cell (p:=⟨bb,0,none⟩) n2).trans c2;have fzv:=(O3.frozen (p:=⟨lb,0,none⟩) n1).trans fz;have OO:=(Only.refl lb v3).setCell 0 (.int .i64 (M:Int));refine⟨by simp[go_sem,c1v],(OO.cell (p:=⟨bb,0,none⟩) n3.symm).trans c2v,by simp[go_sem,fzv],R3.only n1.symm OO,((T4.drew).trans (O3.turnL Zs)).trans (OO.turnL Zs)⟩
    clear R2p AP R4 hM P4 hL;go_wp2
    --REGION
    refine wp_region_held_drew (S:=(fun wx=>wx.cell? ⟨bb,0,none⟩=some (.slice (some ⟨g,0,none⟩) L L))) Zk ?_ (fun hHeld=>?_)
    ·exact c2
    refine tkH 1 ?_
    refine tkH 4 ?_
    refine rmH 0 2 (fun K hK=>?_) fun K hK=>?_
    ·go_simp;refine koH hK Za fun hHeld=>?_
     clear hK K;refine rnH 2 fun K hK=>?_
     go_simp;refine koH hK Za fun hHeld=>?_
     clear hK K;refine tkH 3 ?_
     exact z17_5
    ·go_simp;refine koH hK Za fun hHeld=>?_
     clear hK K;refine tkH 3 ?_
     refine rmH 0 5 (fun K hK=>?_) fun K hK=>?_
     ·go_simp;refine koH hK Za fun hHeld=>?_
      clear hK K;exact z17_5
     ·refine step_copy_rd rfl (.tmp 40) (.tmp 41) 36 36 rfl 5 Tryz.underlying36 info1_u8s rfl rfl RD rfl hdl RA Zo ?_
      intro v3 O3 R3;have c1v:=(O3.cell (p:=⟨lb,0,none⟩) n1).trans c1;have c2v:=(O3.cell (p:=⟨bb,0,none⟩) n2).trans c2;have fzv:=(O3.frozen (p:=⟨lb,0,none⟩) n1).trans fz;have FW:=FIN v3 O3 R3;clear FIN RD RA;refine koH hK c2v fun hHeld=>?_
      clear hK K;refine rnH 0 fun K hK=>?_
      go_simp;refine koH hK Za fun hHeld=>?_
      exact z17_2
 --REGION END
   ·rw[(pa_not (fun h=>hl h.2.2)).1,(pa_not (fun h=>hl h.2.2)).2];have hl':(p.length:Int)>4096:=by omega
    exact z17_7
  ·have de:decide (0<=e/\e<=2147483647)=false:=Zx he;rw[(pa_not (fun h=>he h.2.1)).1,(pa_not (fun h=>he h.2.1)).2];exact z17_7
 ·have da:decide (0<=a/\a<=2147483647)=false:=Zx ha;rw[(pa_not (fun h=>ha h.1)).1,(pa_not (fun h=>ha h.1)).2]
  go_enter Tryz.func85,Tryz.ntmps85
  go_wp2_with fail
  refine smay_any.mono ?_
  rintro e' w' ⟨rfl,rfl⟩;rw[da];exact z17_12
theorem rfour_any{n:Nat}{w:World}{u:Int}(hu:u=(n:Int)):Calls Tryz.prog 148 #[.int .u32 u] w fun e w'=>∃v,e= .returned v/\w'.ownsRow w.heap.size 5 1 v 4 ((fo n).map vb)/\Below w.heap.size w w':=by
 subst hu;obtain⟨x0,hx0⟩:∃x,Hid (x=UInt8.ofNat (n/16777216)):=⟨_,rfl⟩;obtain⟨x1,hx1⟩:∃x,Hid (x=UInt8.ofNat (n/65536)):=⟨_,rfl⟩;obtain⟨x2,hx2⟩:∃x,Hid (x=UInt8.ofNat (n/256)):=⟨_,rfl⟩;obtain⟨x3,hx3⟩:∃x,Hid (x=UInt8.ofNat n):=⟨_,rfl⟩;have q0:IntKind.u8.wrap ((n:Int)/16777216)=((x0.toNat:Nat):Int):=by rw[hx0.out];exact wrap_u8 (n/16777216)
 have q1:IntKind.u8.wrap ((n:Int)/65536)=((x1.toNat:Nat):Int):=by rw[hx1.out];exact wrap_u8 (n/65536)
 have q2:IntKind.u8.wrap ((n:Int)/256)=((x2.toNat:Nat):Int):=by rw[hx2.out];exact wrap_u8 (n/256)
 have q3:IntKind.u8.wrap (n:Int)=((x3.toNat:Nat):Int):=by rw[hx3.out];exact wrap_u8 n
 have hF:Hid (fo n=[x0,x1,x2,x3]):=by show _=_;rw[hx0.out,hx1.out,hx2.out,hx3.out];rfl
 rw[hF.out];clear hF hx0 hx1 hx2 hx3
 go_enter Tryz.func148,Tryz.ntmps148
 go_wp2;go_ret;exact⟨_,rfl,World.ownsRow_lit w #[vb x0,vb x1,vb x2,vb x3] 4 Zr Zd rfl,Zf.alloc Zr _⟩
theorem rnum_any{p:List UInt8}{w:World}{v:Value}(hp:Rd w v p)(hl:p.length=4):Calls Tryz.prog 150 #[v] w fun e w'=>e= .returned (.int .u32 ((nu p:Nat):Int))/\Below w.heap.size w w':=by
 rcases hp with⟨a',c',rfl,_⟩|⟨b,o,c,hp0,rfl,h1,h2,h3,hpc⟩
 ·simp at hl
 have c0:=hpc 0 Zo;have c1:=hpc 1 Zo;have c2:=hpc 2 Zo;have c3:=hpc 3 Zo;rw[Nat.add_zero]at c0;rw[hl];clear hpc;have HN:Hid (nu p=(co p 0).toNat*16777216+(co p 1).toNat*65536+(co p 2).toNat*256+(co p 3).toNat):=rfl;have b0:=(co p 0).toNat_lt;have b1:=(co p 1).toNat_lt;have b2:=(co p 2).toNat_lt;have b3:=(co p 3).toNat_lt;generalize co p 0=x0 at*;generalize co p 1=x1 at*;generalize co p 2=x2 at*;generalize co p 3=x3 at*;generalize nu p=N at*
 go_enter Tryz.func150,Tryz.ntmps150
 go_wp2
 go_region_held3 (fun wx=>wx.cell? ⟨b,o,none⟩=some (.int .u8 ((x0.toNat:Nat):Int))/\wx.cell? ⟨b,o+1,none⟩=some (.int .u8 ((x1.toNat:Nat):Int))/\wx.cell? ⟨b,o+2,none⟩=some (.int .u8 ((x2.toNat:Nat):Int))/\wx.cell? ⟨b,o+3,none⟩=some (.int .u8 ((x3.toNat:Nat):Int))) (first|exact⟨c0,c1,c2,c3⟩|assumption) (fail)
 go_wp2;go_ret;refine⟨ret_int ?_,Zf.drew⟩;rw[HN.out];simp only[IntKind.wrap_u32];omega
theorem ownsF{w:World}{base e n:Nat}{v:Value}{xs:List Value}(h:w.ownsRow base e 1 v n xs):∃a c,v= .slice a n c:=by
 obtain⟨_,⟨hv,hn⟩|⟨g,cap,cur,hv,_⟩⟩:=h
 ·exact⟨none,0,by rw[hv,hn]⟩
 ·exact⟨_,cap,hv⟩
theorem own_cat{w:World}{base e A E:Nat}{v:Value}{p:List UInt8}(h:w.ownsRow base e 1 v (8+p.length) ((fo A++fo E).map vb++p.map vb))(hl:(hdS A E p).length=p.length+8):w.ownsRow base e 1 v (hdS A E p).length ((hdS A E p).map vb):=by
 rw[hl,Nat.add_comm]
 have:(hdS A E p).map vb=(fo A++fo E).map vb++p.map vb:=by
  unfold hdS;simp
 rw[this];exact h
theorem z17_6{p:Prop} (h:p:=by
 go_enter Tryz.func104,Tryz.ntmps104
 exact z17_12
 ):p:=h
theorem rpack_any{a e:Int}{v:Value}{p:List UInt8}{w:World}(hp:Rd w v p)(hpl:p.length<=100000):Calls Tryz.prog 104 #[.int .i64 a,.int .i64 e,v] w (MakesS w (paX a e p) (paR a e p)):=by
 obtain⟨va,vc,rfl⟩:=hp.form
 by_cases ho:OkSe a e p.length
 ·rw[(pa_ok ho).1,(pa_ok ho).2];obtain⟨ha,he,hl⟩:=ho;have a1:¬a<0:=by omega
  have a2:¬a>2147483647:=Zo
  have e1:¬e<0:=Zo
  have e2:¬e>2147483647:=Zo
  have hl':¬(p.length:Int)>4096:=Zo
  obtain⟨i0,hi,hz0,hz1,hz2⟩:=info_parts info_u8;obtain⟨A,rfl⟩:∃A:Nat,a=(A:Int):=⟨a.toNat,Zo⟩;obtain⟨E,rfl⟩:∃E:Nat,e=(E:Int):=⟨e.toNat,Zo⟩;rw[Int.toNat_natCast,Int.toNat_natCast];have wA:IntKind.u32.wrap (A:Int)=(A:Int):=by rw[IntKind.wrap_u32];omega
  have wE:IntKind.u32.wrap (E:Int)=(E:Int):=by rw[IntKind.wrap_u32];omega
  go_enter Tryz.func104,Tryz.ntmps104
  go_wp2_with fail
  refine(rfour_any (n:=A) rfl).mono ?_
  rintro e' w1 ⟨v1,rfl,O1,B1⟩
  go_wp2_with fail
  refine(rfour_any (n:=E) rfl).mono ?_
  rintro e' w2 ⟨v2,rfl,O2,B2⟩;have R2:Rd w2 v2 (fo E):=Rd.owned O2;replace O1:=owns_later O1 B2;have C2:Below w.heap.size w w2:=Below.step B1 B2;clear B1 B2 O2;have hs2:=C2.size;obtain⟨k1,k2,rfl⟩:=ownsF O1;obtain⟨k3,k4,rfl⟩:=R2.form
  go_wp2_with (first
   |(at_builtin;refine wpList_append_rd _ rfl (.tmp 30) (.tmp 33) 36 rfl w.heap.size 5 i0 Tryz.underlying36 hi hz0 hz1 hz2 (.slice k1 4 k2) 4 _ rfl O1 (.slice k3 (fo E).length k4) (fo E) rfl R2 (by rw[fo_length];decide) hs2 ?_;intro v3 w3 O3 G3;have C3:Below w.heap.size w w3:=below_own C2 hs2 O1 G3;have hp3:Rd w3 (.slice va p.length vc) p:=hp.below C3;have hs3:=C3.size;replace O3:w3.ownsRow w.heap.size 5 1 v3 8 ((fo A++fo E).map vb):=O3;obtain⟨k5,k6,rfl⟩:=ownsF O3;clear O1 R2 G3)
   |(at_builtin;refine wpList_append_rd _ rfl (.tmp 34) (.tmp 35) 36 rfl w.heap.size 5 i0 Tryz.underlying36 hi hz0 hz1 hz2 (.slice k5 8 k6) 8 _ rfl O3 (.slice va p.length vc) p rfl hp3 Zo hs3 ?_;intro v4 w4 O4 G4;have C4:Below w.heap.size w w4:=below_own C3 hs3 O3 G4;have hs4:=C4.size;replace O4:w4.ownsRow w.heap.size 5 1 v4 (hdS A E p).length ((hdS A E p).map vb):=own_cat O4 (hdS_length A E p);obtain⟨k7,k8,rfl⟩:=ownsF O4;clear O3 hp3 G4)
   |fail)
  have R4:=Rd.owned O4;have hsl:Hid ((hdS A E p).length=p.length+8):=hdS_length A E p;refine(rsum_any R4 (by have:=hsl.out;omega)).mono ?_
  rintro e' w5 ⟨rfl,rfl⟩
  go_wp2_with fail
  refine(rfour_any (n:=more 0 (hdS A E p)) rfl).mono ?_
  rintro e' w6 ⟨v6,rfl,O6,B6⟩;have R6:Rd w6 v6 (fo (more 0 (hdS A E p))):=Rd.owned O6;have C6:Below w.heap.size w w6:=Below.step C4 B6;have hs6:=C6.size;replace O4:=owns_later O4 B6;obtain⟨k9,k10,rfl⟩:=R6.form;clear R4 O6 B6;generalize hfo:fo (more 0 (hdS A E p))=f4 at*;have HF:Hid (fo (more 0 (hdS A E p))=f4):=hfo;have hf4:Hid (f4.length=4):=by show _=_;rw[<-hfo];rfl
  clear hfo
  go_wp2_with (first
   |(at_builtin;refine wpList_append_rd _ rfl (.tmp 37) (.tmp 40) 36 rfl w.heap.size 5 i0 Tryz.underlying36 hi hz0 hz1 hz2 (.slice k7 (hdS A E p).length k8) (hdS A E p).length _ rfl O4 (.slice k9 f4.length k10) f4 rfl R6 (by have:=hsl.out;have:=hf4.out;omega) hs6 ?_;intro v7 w7 O7 G7;have C7:Hid (Below w.heap.size w w7):=below_own C6 hs6 O4 G7;have R7:Hid (Rd w7 v7 (pkS A E p)):=(by show Rd _ _ _;unfold pkS;rw[HF.out];refine Rd.owned (base:=w.heap.size) (e:=5) ?_;rw[List.length_append,List.map_append];exact O7);clear O4 R6 G7 O7)
   |fail)
  go_ret2
  exact⟨_,rfl,R7.out,C7.out⟩
 ·have hn:=ho;rw[(pa_not ho).1,(pa_not ho).2];unfold OkSe at hn
  by_cases a1:a<0
  ·exact z17_6
  by_cases a2:a>2147483647
  ·exact z17_6
  by_cases e1:e<0
  ·exact z17_6
  by_cases e2:e>2147483647
  ·exact z17_6
  have hl':(p.length:Int)>4096:=Zo
  clear hn ho;exact z17_6
end Go.Proofs.YtddnfhfangfgeaaGreat.Gf
