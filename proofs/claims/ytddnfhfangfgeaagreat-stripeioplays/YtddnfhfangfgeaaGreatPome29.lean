/- TEXTS JOINED: WdInts, SeMath. -/
import Derived.Test.YtddnfhfangfgeaaGreatPome15
set_option maxHeartbeats 1000000
set_option maxRecDepth 100000
namespace Go.Proofs.YtddnfhfangfgeaaGreat.Gf
set_option linter.unusedVariables false
set_option linter.unusedSimpArgs false
open Go.RowKit
theorem ints_ext{xs ys:List Int}(hl:xs.length=ys.length)(h:∀i,i<xs.length->xs.getD i 0=ys.getD i 0):xs=ys:=by
 refine List.ext_getElem hl fun i h1 h2=>?_
 have:=h i h1;simpa[List.getD,h1,h2]using this
theorem rints_any{va vb:Value}{xs ys:List Int}{w:World}(ha:RdI w va xs)(hb:RdI w vb ys)(hl:xs.length<=1000000)(hl2:ys.length<=1000000):
  Calls Tryz.prog 37 #[va,vb] w fun e w'=>e= .returned (.bool (decide (xs=ys)))/\Below w.heap.size w w':=by
 obtain⟨a1,c1,rfl⟩:=ha.form;obtain⟨a2,c2,rfl⟩:=hb.form
 by_cases hlen:xs.length=ys.length
 ·have hn:(((xs.length:Nat):Int)!=((ys.length:Nat):Int))=false:=by simp[hlen]
  have hlen':Hid _:=hlen;clear hlen
  go_enter Tryz.func37,Tryz.ntmps37
  go_wp2
  go_loopw [5] (fun i wr=>∃k:Nat,k<=xs.length/\i= .int .i64 k/\Hid (∀j,j<k->xs.getD j 0=ys.getD j 0)/\Below w.heap.size w wr) (fun i _=>xs.length-(intOf i).toNat)
  case atStart=>exact⟨0,by omega,rfl,fun j hj=>by omega,Below.refl _ _⟩
  case round=>
   obtain⟨k,hk,rfl,hs,hB⟩:=hrel
   by_cases hlt:k<xs.length
   ·obtain⟨b1,o1,rfl,_,k1⟩:=(ha.below hB).at hlt;obtain⟨b2,o2,rfl,_,k2⟩:=(hb.below hB).at (show k<ys.length by have:=hlen'.out;omega);have hlt1:(k:Int)<(xs.length:Int):=by omega
    have hlt2:(k:Int)<(ys.length:Int):=by have:=hlen'.out;omega
    by_cases e:xs.getD k 0=ys.getD k 0
    ·have HS:Hid (∀j,j<k+1->xs.getD j 0=ys.getD j 0):=fun j hj=>by
      by_cases e2:j=k
      ·rw[e2];exact e
      ·exact hs.out j (by omega)
     rw[e]at k1;generalize ys.getD k 0=y at k1 k2;clear e hs ha hb
     go_wp2_with fail
     try go_quiet (fail)
     try go_wp2
     go_roundw
     case rel=>exact⟨k+1,by omega,by go_num,HS,by first|exact hB|exact hB.drewN _⟩
     case measure=>simp[intOf];omega
    ·have hne:(xs.getD k 0 !=ys.getD k 0)=true:=bne_iff_ne.2 e;have E:Hid (decide (xs=ys)=false):=decide_eq_false fun q=>e (by rw[q])
     generalize ys.getD k 0=y at k2 hne;generalize xs.getD k 0=x at k1 hne;clear e hs ha hb
     go_wp2_with fail
     try go_quiet (fail)
     try go_wp2
     go_ret;exact⟨by rw[E.out];rfl,by first|exact hB|exact hB.drewN _⟩
   ·have hge:¬(k:Int)<(xs.length:Int):=by omega
    have E:Hid (decide (xs=ys)=true):=decide_eq_true (ints_ext hlen'.out fun i hi=>hs.out i (by omega));clear hs ha hb;go_wp2;go_ret;exact⟨by rw[E.out];rfl,hB⟩
 ·have hn:(((xs.length:Nat):Int)!=((ys.length:Nat):Int))=true:=by simp;omega
  have E:Hid (decide (xs=ys)=false):=decide_eq_false fun q=>hlen (by rw[q])
  clear ha hb hlen
  go_enter Tryz.func37,Tryz.ntmps37
  go_wp2;go_ret;exact⟨by rw[E.out];rfl,Below.refl _ _⟩
def fo(n:Nat):List UInt8:=[UInt8.ofNat (n/16777216),UInt8.ofNat (n/65536),UInt8.ofNat (n/256),UInt8.ofNat n]
def nu(p:List UInt8):Nat:=(co p 0).toNat*16777216+(co p 1).toNat*65536+(co p 2).toNat*256+(co p 3).toNat
theorem fo_length(n:Nat):(fo n).length=4:=rfl
theorem nu_lt(p:List UInt8):nu p<4294967296:=by
 have h0:=(co p 0).toNat_lt;have h1:=(co p 1).toNat_lt;have h2:=(co p 2).toNat_lt;have h3:=(co p 3).toNat_lt;unfold nu;omega
theorem nu_fo{n:Nat}(h:n<4294967296):nu (fo n)=n:=by
 show(UInt8.ofNat (n/16777216)).toNat*16777216+(UInt8.ofNat (n/65536)).toNat*65536+(UInt8.ofNat (n/256)).toNat*256+(UInt8.ofNat n).toNat=n
 simp only[UInt8.toNat_ofNat'];omega
theorem four_of{p:List UInt8}(h:p.length=4):p=[co p 0,co p 1,co p 2,co p 3]:=by
 match p,h with
 |[a,b,c,d],_=>rfl
theorem fo_nu{p:List UInt8}(h:p.length=4):fo (nu p)=p:=by
 conv=>rhs;rw[four_of h]
 have h0:=(co p 0).toNat_lt;have h1:=(co p 1).toNat_lt;have h2:=(co p 2).toNat_lt;have h3:=(co p 3).toNat_lt;unfold fo;congr 1
 ·apply UInt8.toNat_inj.1;rw[UInt8.toNat_ofNat'];unfold nu;omega
 congr 1
 ·apply UInt8.toNat_inj.1;rw[UInt8.toNat_ofNat'];unfold nu;omega
 congr 1
 ·apply UInt8.toNat_inj.1;rw[UInt8.toNat_ofNat'];unfold nu;omega
 congr 1
 ·apply UInt8.toNat_inj.1;rw[UInt8.toNat_ofNat'];unfold nu;omega
def hdS(a e:Nat)(d:List UInt8):List UInt8:=fo a++(fo e++d)
def pkS(a e:Nat)(d:List UInt8):List UInt8:=hdS a e d++fo (more 0 (hdS a e d))
theorem hdS_length(a e:Nat)(d:List UInt8):(hdS a e d).length=d.length+8:=by
 unfold hdS;rw[List.length_append,List.length_append,fo_length,fo_length];omega
theorem pk_length(a e:Nat)(d:List UInt8):(pkS a e d).length=d.length+12:=by
 unfold pkS;rw[List.length_append,hdS_length,fo_length]
def epS(b:List UInt8):Nat:=nu ((b.drop 4).take 4)
def daS(b:List UInt8):List UInt8:=(b.drop 8).take (b.length-12)
theorem daS_length(b:List UInt8):(daS b).length=b.length-12:=by unfold daS;rw[List.length_take,List.length_drop];omega
theorem epS_lt(b:List UInt8):epS b<4294967296:=nu_lt _
theorem epS_pk{a e:Nat}(d:List UInt8)(he:e<4294967296):epS (pkS a e d)=e:=by
 unfold epS
 have:((pkS a e d).drop 4).take 4=fo e:=rfl
 rw[this,nu_fo he]
theorem daS_pk(a e:Nat)(d:List UInt8):daS (pkS a e d)=d:=by
 unfold daS;rw[pk_length,Nat.add_sub_cancel]
 have:(pkS a e d).drop 8=d++fo (more 0 (hdS a e d)):=rfl
 rw[this];exact List.take_left' rfl
theorem partsS{b:List UInt8}(h:12<=b.length):b=(b.take 4++((b.drop 4).take 4++daS b))++b.drop (b.length-4):=by
 have e1:b.take (b.length-4)=b.take 4++((b.drop 4).take 4++daS b):=by
  have e2:b.length-4=4+(4+(b.length-12)):=by omega
  rw[e2,List.take_add,List.take_add,List.drop_drop];rfl
 rw[<-e1,List.take_append_drop]
theorem aheadS{b:List UInt8}(h:12<=b.length):b.take (b.length-4)=b.take 4++((b.drop 4).take 4++daS b):=by
 have e2:b.length-4=4+(4+(b.length-12)):=by omega
 rw[e2,List.take_add,List.take_add,List.drop_drop];rfl
theorem pk_iff{b:List UInt8}{a:Nat}(h:12<=b.length)(ha:a<4294967296):pkS a (epS b) (daS b)=b↔(nu (b.take 4)=a/\nu (b.drop (b.length-4))=more 0 (b.take (b.length-4))):=by
 have l1:(b.take 4).length=4:=by rw[List.length_take];omega
 have l2:((b.drop 4).take 4).length=4:=by rw[List.length_take,List.length_drop];omega
 have l3:(b.drop (b.length-4)).length=4:=by rw[List.length_drop];omega
 have hp:=partsS h;have hh:=aheadS h;constructor
 ·intro e;have e1:pkS a (epS b) (daS b)=(b.take 4++((b.drop 4).take 4++daS b))++b.drop (b.length-4):=e.trans hp;unfold pkS at e1;have e2:=List.append_inj e1 (by rw[<-hh,hdS_length,daS_length,List.length_take];omega);have e3:fo a=b.take 4:=(List.append_inj e2.1 (by rw[fo_length,l1])).1;refine⟨by rw[<-e3,nu_fo ha],?_⟩;rw[<-e2.2,nu_fo (more_lt _ _),e2.1,hh]
 ·rintro⟨h1,h2⟩;have e1:hdS a (epS b) (daS b)=b.take (b.length-4):=by
   rw[hh];unfold hdS epS;rw[fo_nu l2,<-h1,fo_nu l1]
  unfold pkS;rw[e1,<-h2,fo_nu l3,List.take_append_drop]
def OkSe(a e:Int)(n:Nat):Prop:=(0<=a/\a<=2147483647)/\(0<=e/\e<=2147483647)/\n<=4096
instance (a e:Int)(n:Nat):Decidable (OkSe a e n):=inferInstanceAs (Decidable (_/\_/\_))
def paX(a e:Int)(d:List UInt8):Int:=if OkSe a e d.length then 0 else 1
def paR(a e:Int)(d:List UInt8):List UInt8:=if OkSe a e d.length then pkS a.toNat e.toNat d else []
theorem pa_ok{a e:Int}{d:List UInt8}(h:OkSe a e d.length):paX a e d=0/\paR a e d=pkS a.toNat e.toNat d:=⟨if_pos h,if_pos h⟩
theorem pa_not{a e:Int}{d:List UInt8}(h:¬OkSe a e d.length):paX a e d=1/\paR a e d=[]:=⟨if_neg h,if_neg h⟩
def OkUe(a:Int)(b:List UInt8):Prop:=12<=b.length/\OkSe a (epS b:Int) (daS b).length/\pkS a.toNat (epS b) (daS b)=b
instance (a:Int)(b:List UInt8):Decidable (OkUe a b):=inferInstanceAs (Decidable (_/\_/\_))
def upX(a:Int)(b:List UInt8):Int:=if OkUe a b then 0 else 110
def upN(a:Int)(b:List UInt8):Nat:=if OkUe a b then epS b else 0
def upD(a:Int)(b:List UInt8):List UInt8:=if OkUe a b then daS b else []
theorem up_ok{a:Int}{b:List UInt8}(h:OkUe a b):upX a b=0/\upN a b=epS b/\upD a b=daS b:=⟨if_pos h,if_pos h,if_pos h⟩
theorem up_not{a:Int}{b:List UInt8}(h:¬OkUe a b):upX a b=110/\upN a b=0/\upD a b=[]:=⟨if_neg h,if_neg h,if_neg h⟩
theorem okU_iff{a:Int}{b:List UInt8}:OkUe a b↔(12<=b.length/\b.length<=4108/\0<=a/\a<=2147483647/\nu (b.drop (b.length-4))=more 0 (b.take (b.length-4))/\nu (b.take 4)=a.toNat/\epS b<=2147483647):=by
 unfold OkUe OkSe;rw[daS_length];constructor
 ·rintro⟨h1,⟨h2,h3,h4⟩,h5⟩;have h6:=(pk_iff h1 (by omega)).1 h5;exact⟨h1,by omega,h2.1,h2.2,h6.2,h6.1,by omega⟩
 ·rintro⟨h1,h2,h3,h4,h5,h6,h7⟩;exact⟨h1,⟨⟨h3,h4⟩,⟨by omega,by omega⟩,by omega⟩,(pk_iff h1 (by omega)).2 ⟨h6,h5⟩⟩
theorem ok_pk{a e:Int}{d:List UInt8}(h:OkSe a e d.length):OkUe a (pkS a.toNat e.toNat d)/\epS (pkS a.toNat e.toNat d)=e.toNat/\daS (pkS a.toNat e.toNat d)=d:=by
 have h1:epS (pkS a.toNat e.toNat d)=e.toNat:=epS_pk d (by have:=h.2.1;omega);have h2:=daS_pk a.toNat e.toNat d;refine⟨⟨by rw[pk_length];omega,?_,by rw[h1,h2]⟩,h1,h2⟩;rw[h1,h2,show((e.toNat:Nat):Int)=e by have:=h.2.1;omega];exact h
theorem co_drop0(p:List UInt8)(n i:Nat):co (p.drop n) i=co p (n+i):=by unfold co;rw[List.getElem?_drop]
theorem pk_tells{a e o:Int}{d:List UInt8}{t:Nat}{y:UInt8}(h:OkSe a e d.length)(ht:t<(pkS a.toNat e.toNat d).length)(hy:y≠co (pkS a.toNat e.toNat d) t):¬OkUe o ((pkS a.toNat e.toNat d).set t y):=by
 intro hu;have hl:((pkS a.toNat e.toNat d).set t y).length=(pkS a.toNat e.toNat d).length:=List.length_set;have h1:=okU_iff.1 hu;have h2:=okU_iff.1 (ok_pk h).1;obtain⟨_,_,_,_,s1,_⟩:=h1;obtain⟨g1,_,_,_,s2,_⟩:=h2;rw[hl]at s1;obtain⟨b,hb⟩:∃b,b=pkS a.toNat e.toNat d:=⟨_,rfl⟩;rw[<-hb]at s1 s2 ht hy g1;have l3:(b.drop (b.length-4)).length=4:=by rw[List.length_drop];omega
 by_cases hc:t<b.length-4
 ·have e1:(b.set t y).drop (b.length-4)=b.drop (b.length-4):=by rw[List.drop_set,if_pos hc]
  have e2:(b.set t y).take (b.length-4)=(b.take (b.length-4)).set t y:=List.take_set;rw[e1,e2,s2]at s1;refine tells_set (L:=b.take (b.length-4)) (t:=t) (by rw[List.length_take];omega) (y:=y) ?_ s1.symm
  rw[co_take hc];exact hy
 ·have e1:(b.set t y).take (b.length-4)=b.take (b.length-4):=by rw[List.take_set_of_le (by omega)]
  rw[e1,<-s2]at s1;have l4:((b.set t y).drop (b.length-4)).length=4:=by rw[List.length_drop,List.length_set];omega
  have e2:(b.set t y).drop (b.length-4)=b.drop (b.length-4):=by rw[<-fo_nu l4,<-fo_nu l3,s1]
  have e3:=congrArg (fun z=>co z (t-(b.length-4))) e2;simp only[co_drop0]at e3;rw[show b.length-4+(t-(b.length-4))=t by omega,co_set y ht,if_pos rfl]at e3;exact hy e3
end Go.Proofs.YtddnfhfangfgeaaGreat.Gf
