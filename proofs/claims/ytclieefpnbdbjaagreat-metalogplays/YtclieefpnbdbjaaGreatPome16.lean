/- JOINED: VsR, StCc, ReMath, ReSnap, ReObj, ReOL, ReBel, ReChk, ReCA, ReConv, ReGrM. -/
import Derived.Test.YtclieefpnbdbjaaGreatPome3
import Derived.Lib.SmallJoins
import Derived.Test.YtclieefpnbdbjaaGreatPome5
import Derived.Laws.IdiomStrings
import Derived.Laws.AppendOwn
set_option maxHeartbeats 2000000
set_option maxRecDepth 100000
namespace Go.Proofs.YtclieefpnbdbjaaGreat.Gf
set_option linter.unusedVariables false
set_option linter.unusedSimpArgs false
open Go.RowKit
structure Vs(w:World)(base T:Nat)(v:Value)(L:List (List UInt8))(vals:List Value):Prop where
 row:w.ownsRow base T 1 v L.length vals
 each:∀(i:Nat) (x:Value),vals[i]? =some x->Rd w x (ro L i)
 ap:∀(i:Nat) (x:Value),vals[i]? =some x->∀g,v.ownBlock=some g->Apart g x
section
variable {w w2:World} {base T:Nat} {v v' x:Value} {L:List (List UInt8)} {vals:List Value} {p:List UInt8}
theorem Vs.nil(w:World)(base T:Nat):Vs w base T (.slice none 0 0) [] []:=⟨World.ownsRow_nil _ _ _ _,fun i x h=>by simp at h,fun i x h=>by simp at h⟩
theorem Vs.below(h:Vs w base T v L vals)(hb:Below w.heap.size w w2):Vs w2 base T v L vals:=⟨owns_later h.row hb,fun i x hx=>(h.each i x hx).below hb,h.ap⟩
theorem Vs.len(h:Vs w base T v L vals):vals.length=L.length:=by have:=h.row.1;omega
theorem Vs.form(h:Vs w base T v L vals):∃a c,v= .slice a L.length c:=by
 obtain⟨_,⟨hv,hn⟩|⟨g,cap,cur,hv,_⟩⟩:=h.row
 ·rw[hn];exact⟨_,_,hv⟩
 ·exact⟨_,_,hv⟩
theorem Vs.rs(h:Vs w base T v L vals):Rs w v L:=by
 have hlen:=h.len;have hv':=h.row;obtain⟨_,⟨e,hn⟩|⟨g,cap,cur,e,hg,hh,hc,hm,hs,ht⟩⟩:=h.row
 ·subst e
  have:L=[]:=List.length_eq_zero_iff.1 hn
  subst this;exact rs_none
 ·subst e;refine⟨some ⟨g,0,none⟩,cap,rfl,hc,hm,nofun,fun i hi=>?_⟩;have hx:vals[i]? =some vals[i]:=List.getElem?_eq_getElem Zo
  refine⟨g,0,vals[i],rfl,(Array.getElem?_eq_some_iff.1 hh).1,?_,h.each i _ hx⟩;rw[Nat.zero_add,World.ownsRow.cellAt hv' i Zo,hx]
theorem Rd.grownV{y:Value}{q:List UInt8}{r:Option Nat}(h:Rd w y q)(g:w.grownBy w2 r)(ha:∀k,r=some k->Apart k y):Rd w2 y q:=by
 cases r with
 |none=>exact h.below (Zf.grown g Zr (fun k h=>by cases h))
 |some k=>exact h.grown g (ha k rfl)
theorem Vs.push(h:Vs w base T v L vals)(hx:Rd w x p)(hxa:∀g,v.ownBlock=some g->Apart g x)(hr:w2.ownsRow base T 1 v' (L.length+1) (vals++[x]))(g:w.grownBy w2 v.ownBlock)(e:v'.ownBlock=v.ownBlock∨v'.ownBlock=some w.heap.size):Vs w2 base T v' (L++[p]) (vals++[x]):=by
 have hlen:=h.len;have at_end:∀(i:Nat) (y:Value),(vals++[x])[i]? =some y->(vals[i]? =some y/\i<vals.length)∨(i=vals.length/\y=x):=fun i y hy=>by
  by_cases hi:i<vals.length
  ·rw[List.getElem?_append_left hi]at hy;exact Or.inl ⟨hy,hi⟩
  ·rw[List.getElem?_append_right Zo]at hy
   have:i-vals.length=0:=by
    rcases Nat.eq_zero_or_pos (i-vals.length)with e|e
    ·exact e
    ·rw[List.getElem?_eq_none Zm]at hy;cases hy
   rw[this]at hy;simp at hy;exact Or.inr ⟨Zo,hy.symm⟩
 have far:∀y q,Rd w y q->(∀k,v.ownBlock=some k->Apart k y)->∀k,v'.ownBlock=some k->Apart k y:=fun y q hy ha k hk=>by
  rcases e with e|e
  ·rw[e]at hk;exact ha k hk
  ·rw[e]at hk;simp at hk;exact hy.apart Zo
 refine⟨by rw[List.length_append];exact hr,fun i y hy=>?_,fun i y hy=>?_⟩
 ·rcases at_end i y hy with⟨e1,hi⟩|⟨rfl,rfl⟩
  ·rw[ro_append_left Zo];exact(h.each i y e1).grownV g (h.ap i y e1)
  ·rw[ro_append_right Zo,hlen,Nat.sub_self];exact hx.grownV g hxa
 ·rcases at_end i y hy with⟨e1,hi⟩|⟨rfl,rfl⟩
  ·exact far y _ (h.each i y e1) (h.ap i y e1)
  ·exact far y _ hx hxa
end
theorem zeroCells_u8(k:Nat):Builtin.zeroCells #[Value.int .u8 0] k=(List.replicate k (Value.int .u8 0)).toArray:=by
 apply Array.ext';unfold Builtin.zeroCells;simp only[Array.toList_map,Array.toList_range];refine List.ext_getElem Zs fun i h1 h2=>?_
 simp[Nat.mod_one]
theorem info_u8c:(Tryz.prog.info? 5).map (fun i=>(i.zero,i.size,i.bytes))=some (some (.int .u8 0),1,1):=Zk
theorem growb_any{n:Nat}{w:World}(hl:n<=1000000){x:Int}(hx:x=(n:Int)):Calls Tryz.prog 184 #[.slice none 0 0,.int .i64 x] w fun e w'=>∃v,e= .returned v/\w'.ownsRow w.heap.size 5 1 v 0 []/\Below w.heap.size w w':=by
 subst hx;have hb8:Tryz.t5.bytes=1:=Zk
 have h1:¬(281474976710656:Int)<(n:Int)*(Tryz.t5.bytes:Int):=by
  have:∀q:Nat,q=1->¬(281474976710656:Int)<(n:Int)*(q:Int):=fun q hq=>by subst hq;omega
  exact this _ hb8
 have hnn:¬(n:Int)<0:=Zo
 by_cases h0:n=0
 ·subst h0;clear hb8
  go_enter Tryz.func184,Tryz.ntmps184
  go_wp2;go_ret;exact⟨_,rfl,World.ownsRow_nil _ _ _ _,Zf⟩
 ·have hpos:0<n:=by omega
  have h2:¬(281474976710656:Nat)<Builtin.nextslicecap n 0*Tryz.t5.bytes:=by
   have h3:=growslice_fits (need:=n) (old:=0) (bytes:=1) Zo Zo
   have:∀q:Nat,q=1->¬(281474976710656:Nat)<Builtin.nextslicecap n 0*q:=fun q hq=>by subst hq;omega
   exact this _ hb8
  clear hb8;have hge:=grownCap_ge w n 0 5;have hle:=grownCap_le_maxLen w n 0 5 Zl;unfold grownCap at hge hle
  go_enter Tryz.func184,Tryz.ntmps184
  go_wp2
  all_goals try omega
  go_ret;refine⟨_,rfl,⟨rfl,.inr ⟨w.heap.size,_,_,rfl,Zr,heap_alloc_new w _,Zz,hle,?_,rfl⟩⟩,?_⟩
  ·rw[zeroCells_u8,zeroCells_u8];simp;omega
  ·exact(Zf.alloc Zr _).drew
theorem flat_take15{L:List (List UInt8)}{r:Nat}(h:r<L.length):(L.take (r+1)).flatten=(L.take r).flatten++ro L r:=by
 rw[List.take_add_one,List.flatten_append,ro_some h];simp
theorem flat_mono{L:List (List UInt8)}(r:Nat):(L.take r).flatten.length<=L.flatten.length:=by
 have:=congrArg (fun M=>M.flatten.length) (List.take_append_drop r L);simp only[List.flatten_append,List.length_append]at this;omega
theorem ccatb_any{w:World}{v:Value}{L:List (List UInt8)}(hR:Rs w v L)(hl:L.flatten.length<=1000000)(hl2:L.length<=1000):
  Calls Tryz.prog 157 #[v] w fun e w'=>∃v',e= .returned v'/\w'.ownsRow w.heap.size 5 1 v' L.flatten.length (L.flatten.map vb)/\Below w.heap.size w w':=by
 obtain⟨i0,hi,hz0,hz1,hz2⟩:=info_parts info_u8c;obtain⟨a1,c1,rfl⟩:=hR.form;obtain⟨N,hN⟩:∃N,Hid (N=L.flatten.length):=⟨_,rfl⟩;have hN6:N<=1000000:=by rw[hN.out];exact hl
 have n2:¬(N:Int)<0:=Zo
 have HR:Hid (Rs w (.slice a1 L.length c1) L):=hR;obtain⟨FL,hFL⟩:∃FL,Hid (FL=L.flatten):=⟨_,rfl⟩;rw[<-hFL.out];clear hR hl
 go_enter Tryz.func157,Tryz.ntmps157
 go_wp2_with fail
 go_loopw [3,11] (fun s i wr=>∃r:Nat,r<=L.length/\i= .int .i64 (r:Int)/\s= .int .i64 (((L.take r).flatten.length:Nat):Int)/\wr=w) (fun _ i _=>L.length-(intOf i).toNat)
 case atStart=>exact⟨0,Zo,rfl,rfl,rfl⟩
 case round=>
  obtain⟨r,hr,rfl,rfl,rfl⟩:=hrel
  by_cases hlt:r<L.length
  ·have hlt':(r:Int)<(L.length:Int):=by omega
   have g1:IntKind.i64.wrap ((r:Int)+1)=((r+1:Nat):Int):=Zw
   obtain⟨xb,xo,xa,xc,rfl,_,cx,Rx⟩:=HR.out.at hlt;obtain⟨LN,hLN⟩:∃LN,Hid (LN=(ro L r).length):=⟨_,rfl⟩;obtain⟨S0,hS0⟩:∃S0,Hid (S0=(L.take r).flatten.length):=⟨_,rfl⟩;obtain⟨S1,hS1⟩:∃S1,Hid (S1=(L.take (r+1)).flatten.length):=⟨_,rfl⟩;have eS:S0+LN=S1:=by rw[hS0.out,hLN.out,hS1.out,flat_take15 hlt,List.length_append]
   have bS:S1<=1000000:=by rw[hS1.out];have:=flat_mono (L:=L) (r+1);have:=hN.out;omega
   have w1:IntKind.i64.wrap ((S0:Int)+(LN:Int))=(S1:Int):=Zw
   have n1:¬(S1:Int)<0:=Zo
   have HE:Hid (S0+LN=S1):=eS;rw[<-hLN.out]at cx Rx;rw[<-hS0.out];clear Rx eS;go_wp2;go_roundw
   case rel=>exact⟨r+1,Zo,Zg,by rw[<-hS1.out],by first|rfl|trivial⟩
   case measure=>simp[intOf];omega
  ·obtain rfl:r=L.length:=by omega
   have hlt':¬(L.length:Int)<(L.length:Int):=Zo
   obtain⟨wo,hwo⟩:∃wo,wo=wr:=⟨_,rfl⟩;subst hwo;rw[List.take_of_length_le Zr,<-hN.out]
   go_wp2_with fail
   refine(growb_any (n:=N) Zo rfl).mono ?_
   rintro e u1 ⟨v,rfl,O1,B1⟩;obtain⟨av,cv,rfl⟩:=owns_form O1;have HB0:Hid (Below wo.heap.size wo u1):=B1;have HO1:Hid (u1.ownsRow wo.heap.size 5 1 (.slice av 0 cv) (L.take 0).flatten.length ((L.take 0).flatten.map vb)):=O1;clear B1 O1
   go_wp2_with fail
   go_loopw [6,27] (fun o i wz=>∃r:Nat,r<=L.length/\i= .int .i64 (r:Int)/\wz.ownsRow wo.heap.size 5 1 o (L.take r).flatten.length ((L.take r).flatten.map vb)/\Below wo.heap.size wo wz) (fun _ i _=>L.length-(intOf i).toNat)
   case atStart=>exact⟨0,Zo,rfl,HO1.out,HB0.out⟩
   case round=>
    obtain⟨r,hr,rfl,hO,hB⟩:=hrel;clear HB0 HO1;have hsz:=hB.size;obtain⟨DD,hDD⟩:∃DD,Hid (DD=(L.take r).flatten):=⟨_,rfl⟩;rw[<-hDD.out]at hO;obtain⟨da,dc,rfl⟩:=owns_form hO
    by_cases hlt:r<L.length
    ·have hlt':(r:Int)<(L.length:Int):=by omega
     have g1:IntKind.i64.wrap ((r:Int)+1)=((r+1:Nat):Int):=Zw
     obtain⟨xb,xo,xa,xc,rfl,_,cx,Rx⟩:=(HR.out.below hB).at hlt;obtain⟨LN,hLN⟩:∃LN,Hid (LN=(ro L r).length):=⟨_,rfl⟩;rw[<-hLN.out]at cx Rx;have hl9:Hid (DD.length+(ro L r).length<=1000000):=by
      have q1:=flat_mono (L:=L) (r+1);rw[flat_take15 hlt,List.length_append,<-hDD.out]at q1
      show _<=_
      have:=hN.out;omega
     go_wp2_with (at_builtin;go_loud (refine wpList_append_rd _ rfl (.tmp 31) (.tmp 32) 42 rfl wo.heap.size 5 i0 Tryz.underlying42 hi hz0 hz1 hz2 (.slice da DD.length dc) DD.length (DD.map vb) rfl hO (.slice xa LN xc) (ro L r) rfl Rx hl9.out hsz ?_);intro v5 w5 h5 g5)
     have H5:Hid (w5.ownsRow wo.heap.size 5 1 v5 (L.take (r+1)).flatten.length ((L.take (r+1)).flatten.map vb)):=by
      show World.ownsRow _ _ _ _ _ _ _
      rw[flat_take15 hlt,List.length_append,List.map_append,<-hDD.out];exact h5
     have B5:Hid (Below wo.heap.size wo w5):=hB.grown g5 hsz (fun q hq=>(Zv hO q hq).1);clear hO h5 g5 cx Rx hB;go_wp2;go_roundw
     case rel=>exact⟨r+1,Zo,Zg,H5.out,B5.out⟩
     case measure=>simp[intOf];omega
    ·obtain rfl:r=L.length:=by omega
     have hlt':¬(L.length:Int)<(L.length:Int):=Zo
     have e9:Hid ((L.take L.length).flatten=L.flatten):=by show _=_;rw[List.take_of_length_le Zr]
     have FO:Hid (wr.ownsRow wo.heap.size 5 1 (.slice da DD.length dc) FL.length (FL.map vb)):=by
      show World.ownsRow _ _ _ _ _ _ _
      rw[hFL.out,<-e9.out,<-hDD.out];exact hO
     have FB:Hid (Below wo.heap.size wo wr):=hB;clear hO hB e9;go_wp2
     try rw[Exit.noGoto_ret]
     go_ret;exact⟨_,rfl,FO.out,FB.out⟩
def tw(n:Nat):List UInt8:=[UInt8.ofNat (n/256),UInt8.ofNat n]
def un(p:List UInt8):Nat:=256*(co p 0).toNat+(co p 1).toNat
theorem tw_length(n:Nat):(tw n).length=2:=rfl
theorem un_lt(p:List UInt8):un p<65536:=by
 have h0:=(co p 0).toNat_lt;have h1:=(co p 1).toNat_lt;unfold un;omega
theorem un_tw{n:Nat}(h:n<65536)(r:List UInt8):un (tw n++r)=n:=by
 show 256*(UInt8.ofNat (n/256)).toNat+(UInt8.ofNat n).toNat=n
 simp only[UInt8.toNat_ofNat'];omega
theorem tw_un{p:List UInt8}(h:p.length=2):tw (un p)=p:=by
 match p,h with
 |[a,b],_=>
  have ha:=a.toNat_lt;have hb:=b.toNat_lt;have e1:(256*a.toNat+b.toNat)/256=a.toNat:=Zo
  show[UInt8.ofNat ((256*a.toNat+b.toNat)/256),UInt8.ofNat (256*a.toNat+b.toNat)]=[a,b]
  rw[e1,UInt8.ofNat_toNat];congr 2;apply UInt8.toNat_inj.1;simp only[UInt8.toNat_ofNat'];omega
structure RcS where
 kind:Int
 key:List UInt8
 len:Int
 st:List Int
def OkR(r:RcS):Prop:=(r.kind=1∨r.kind=2)/\1<=r.key.length/\r.key.length<=64/\0<=r.len/\r.len<=2147483647/\r.st.length<=256/\(∀s∈r.st,0<=s/\s<256)/\(r.kind=2->r.len=0/\r.st.length=0)
instance (r:RcS):Decidable (OkR r):=inferInstanceAs (Decidable (_/\_/\_/\_/\_/\_/\_/\_))
def stB:List Int->List UInt8
 |[]=>[]
 |s::l=>tw s.toNat++stB l
theorem stB_length(l:List Int):(stB l).length=2*l.length:=by
 induction l with
 |nil=>rfl
 |cons s l ih=>show(tw s.toNat++stB l).length=_;rw[List.length_append,ih,tw_length,List.length_cons];omega
theorem stB_append(l m:List Int):stB (l++m)=stB l++stB m:=by
 induction l with
 |nil=>rfl
 |cons s l ih=>show tw s.toNat++stB (l++m)=tw s.toNat++stB l++stB m;rw[ih,List.append_assoc]
def stN:Nat->List UInt8->List Int
 |0,_=>[]
 |n+1,b=>(un b:Int)::stN n (b.drop 2)
theorem stN_length(n:Nat)(b:List UInt8):(stN n b).length=n:=by
 induction n generalizing b with
 |zero=>rfl
 |succ n ih=>show((un b:Int)::stN n (b.drop 2)).length=_;rw[List.length_cons,ih]
theorem stN_stB(l:List Int)(h:∀s∈l,0<=s/\s<256)(r:List UInt8):stN l.length (stB l++r)=l:=by
 induction l with
 |nil=>rfl
 |cons s l ih=>
  have hs:=h s (List.mem_cons_self ..)
  show(un (tw s.toNat++stB l++r):Int)::stN l.length ((tw s.toNat++stB l++r).drop 2)=s::l
  rw[List.append_assoc,un_tw Zo];rw[show(tw s.toNat++(stB l++r)).drop 2=stB l++r from rfl,ih fun x hx=>h x (List.mem_cons_of_mem _ hx)];congr 1;omega
theorem stB_stN{n:Nat}{b:List UInt8}(h:2*n<=b.length):stB (stN n b)=b.take (2*n):=by
 induction n generalizing b with
 |zero=>rfl
 |succ n ih=>
  show tw ((un b:Int)).toNat++stB (stN n (b.drop 2))=_
  rw[ih (by rw[List.length_drop];omega),Int.toNat_natCast]
  match b,h with
  |x::y::b,h=>
   show tw (un [x,y])++List.take (2*n) b=_
   rw[tw_un rfl,show 2*(n+1)=2*n+1+1 by omega,List.take_succ_cons,List.take_succ_cons];rfl
def enR(r:RcS):List UInt8:=UInt8.ofNat r.kind.toNat::UInt8.ofNat r.key.length::(r.key++(fo r.len.toNat++(tw r.st.length++stB r.st)))
theorem enR_length(r:RcS):(enR r).length=8+r.key.length+2*r.st.length:=by
 unfold enR;simp only[List.length_cons,List.length_append,fo_length,tw_length,stB_length];omega
def raR(b:List UInt8):RcS:=⟨((co b 0).toNat:Nat),(b.drop 2).take (co b 1).toNat,(nu ((b.drop 2).drop (co b 1).toNat):Nat),stN (un (((b.drop 2).drop (co b 1).toNat).drop 4)) ((((b.drop 2).drop (co b 1).toNat).drop 4).drop 2)⟩
def LnR(b:List UInt8):Prop:=2<=b.length/\8+(co b 1).toNat+2*un (((b.drop 2).drop (co b 1).toNat).drop 4)<=b.length
instance (b:List UInt8):Decidable (LnR b):=inferInstanceAs (Decidable (_/\_))
def reR(b:List UInt8):List UInt8:=b.drop (8+(co b 1).toNat+2*un (((b.drop 2).drop (co b 1).toNat).drop 4))
def NxR(b:List UInt8):Prop:=LnR b/\OkR (raR b)
instance (b:List UInt8):Decidable (NxR b):=inferInstanceAs (Decidable (_/\_))
theorem nu_fo_app{n:Nat}(h:n<4294967296)(r:List UInt8):nu (fo n++r)=n:=by
 show nu (fo n)=n
 exact nu_fo h
theorem nx_en{r:RcS}(h:OkR r)(rest:List UInt8):NxR (enR r++rest)/\raR (enR r++rest)=r/\reR (enR r++rest)=rest:=by
 obtain⟨h1,h2,h3,h4,h5,h6,h7,h8⟩:=h;obtain⟨k,y,n,st⟩:=r;simp only at h1 h2 h3 h4 h5 h6 h7 h8;have c1:(co (enR ⟨k,y,n,st⟩++rest) 1).toNat=y.length:=by
  show(UInt8.ofNat y.length).toNat=_
  rw[UInt8.toNat_ofNat'];omega
 have c0:(((co (enR ⟨k,y,n,st⟩++rest) 0).toNat:Nat):Int)=k:=by
  show(((UInt8.ofNat k.toNat).toNat:Nat):Int)=_
  rw[UInt8.toNat_ofNat'];omega
 have d2:(enR ⟨k,y,n,st⟩++rest).drop 2=y++(fo n.toNat++(tw st.length++(stB st++rest))):=by
  show(y++(fo n.toNat++(tw st.length++stB st)))++rest=_
  simp only[List.append_assoc]
 have d3:(y++(fo n.toNat++(tw st.length++(stB st++rest)))).drop y.length=fo n.toNat++(tw st.length++(stB st++rest)):=List.drop_left;have d4:(fo n.toNat++(tw st.length++(stB st++rest))).drop 4=tw st.length++(stB st++rest):=rfl;have d5:(tw st.length++(stB st++rest)).drop 2=stB st++rest:=rfl;have er:raR (enR ⟨k,y,n,st⟩++rest)=⟨k,y,n,st⟩:=by
  unfold raR;rw[c0,c1,d2,d3,d4,d5,un_tw Zo,stN_stB st h7,nu_fo_app Zo,List.take_left];congr 1;omega
 refine⟨⟨⟨?_,?_⟩,?_⟩,er,?_⟩
 ·rw[List.length_append,enR_length];omega
 ·rw[c1,d2,d3,d4,un_tw Zo,List.length_append,enR_length]
  show 8+y.length+2*st.length<=8+y.length+2*st.length+rest.length
  omega
 ·rw[er];exact⟨h1,h2,h3,h4,h5,h6,h7,h8⟩
 ·unfold reR;rw[c1,d2,d3,d4,un_tw Zo];have:=enR_length ⟨k,y,n,st⟩;simp only at this;rw[<-this,List.drop_left]
theorem nu_take{z:List UInt8}(h:4<=z.length):nu (z.take 4)=nu z:=by
 rcases z with _|⟨a,_|⟨b,_|⟨c,_|⟨d,z⟩⟩⟩⟩
 ·simp at h
 ·simp at h
 ·simp at h
 ·simp at h
 ·rfl
theorem un_take{z:List UInt8}(h:2<=z.length):un (z.take 2)=un z:=by
 rcases z with _|⟨a,_|⟨b,z⟩⟩
 ·simp at h
 ·simp at h
 ·rfl
theorem nx_back{b:List UInt8}(h:NxR b):b=enR (raR b)++reR b:=by
 obtain⟨x,y,c,rfl⟩:∃x y c,b=x::y::c:=by
  have l1:=h.1.1
  rcases b with _|⟨x,_|⟨y,c⟩⟩
  ·simp at l1
  ·simp at l1
  ·exact⟨x,y,c,rfl⟩
 have l2:=h.1.2;clear h;have hl:=y.toNat_lt;obtain⟨C,hC⟩:∃C,C=un ((c.drop y.toNat).drop 4):=⟨_,rfl⟩;have l3:8+y.toNat+2*C<=c.length+2:=by rw[hC];exact l2
 clear l2
 show x::y::c=enR ⟨(x.toNat:Nat),c.take y.toNat,(nu (c.drop y.toNat):Nat),stN (un ((c.drop y.toNat).drop 4)) (((c.drop y.toNat).drop 4).drop 2)⟩++(x::y::c).drop (8+y.toNat+2*un ((c.drop y.toNat).drop 4))
 rw[<-hC];have l2:=l3;clear l3;have f1:c.drop y.toNat=(c.drop y.toNat).take 4++((c.drop y.toNat).drop 4):=(List.take_append_drop _ _).symm;have l4:((c.drop y.toNat).take 4).length=4:=by rw[List.length_take,List.length_drop];omega
 have f2:fo (nu (c.drop y.toNat))=(c.drop y.toNat).take 4:=by
  rw[<-nu_take (by rw[List.length_drop];omega)];exact fo_nu l4
 have l5:(((c.drop y.toNat).drop 4).take 2).length=2:=by rw[List.length_take,List.length_drop,List.length_drop];omega
 have f3:tw C=((c.drop y.toNat).drop 4).take 2:=by
  rw[hC,<-un_take (by rw[List.length_drop,List.length_drop];omega)];exact tw_un l5
 have f4:stB (stN C (((c.drop y.toNat).drop 4).drop 2))=(((c.drop y.toNat).drop 4).drop 2).take (2*C):=stB_stN (by rw[List.length_drop,List.length_drop,List.length_drop];omega);unfold enR;simp only[stN_length,Int.toNat_natCast,f2,f3,f4];have g1:(c.take y.toNat).length=y.toNat:=by rw[List.length_take];omega
 rw[g1,UInt8.ofNat_toNat,UInt8.ofNat_toNat]
 show x::y::c=x::y::((c.take y.toNat++(List.take 4 (c.drop y.toNat)++(List.take 2 (List.drop 4 (c.drop y.toNat))++List.take (2*C) (List.drop 2 (List.drop 4 (c.drop y.toNat))))))++List.drop (8+y.toNat+2*C) (x::y::c))
 congr 2;have g2:List.drop (8+y.toNat+2*C) (x::y::c)=(((c.drop y.toNat).drop 4).drop 2).drop (2*C):=by
  rw[List.drop_drop,List.drop_drop,List.drop_drop,show 8+y.toNat+2*C=(y.toNat+(4+(2+2*C)))+1+1 by omega,List.drop_succ_cons,List.drop_succ_cons]
 rw[g2];simp only[List.append_assoc,List.take_append_drop]
def IsR(b:List UInt8):Prop:=NxR b/\reR b=[]
instance (b:List UInt8):Decidable (IsR b):=inferInstanceAs (Decidable (_/\_))
theorem isR_en{r:RcS}(h:OkR r):IsR (enR r)/\raR (enR r)=r:=by
 have:=nx_en h [];rw[List.append_nil]at this;exact⟨⟨this.1,this.2.2⟩,this.2.1⟩
theorem isR_back{b:List UInt8}(h:IsR b):OkR (raR b)/\enR (raR b)=b:=by
 have:=nx_back h.1;rw[h.2,List.append_nil]at this;exact⟨h.1.2,this.symm⟩
structure ObS where
 key:List UInt8
 len:Int
 ep:Int
 st:List Int
instance:Inhabited ObS:=⟨⟨[],0,0,[]⟩⟩
def putR(o:ObS):RcS:=⟨1,o.key,o.len,o.st⟩
def OkO(o:ObS):Prop:=OkR (putR o)/\0<=o.ep/\o.ep<=2147483647
def upK(a b:List UInt8):Bool:= !(Op.bytesLess b a||b==a)
def cntO:List ObS->Nat
 |[]=>0
 |o::l=>o.st.length+cntO l
theorem cntO_append(l m:List ObS):cntO (l++m)=cntO l+cntO m:=by
 induction l with
 |nil=>exact(Nat.zero_add _).symm
 |cons o l ih=>show o.st.length+cntO (l++m)=o.st.length+cntO l+cntO m;rw[ih,Nat.add_assoc]
def MayL(l:List ObS):Prop:=l.length<=64/\(∀i,i<l.length->OkO (l.getD i default)/\(0<i->upK (l.getD (i-1) default).key (l.getD i default).key=true))/\cntO l<=256
theorem MayL.all{l:List ObS}(h:MayL l){o:ObS}(ho:o∈l):OkO o:=by
 obtain⟨i,hi,rfl⟩:=List.getElem_of_mem ho;have:=(h.2.1 i hi).1;rwa[List.getD_eq_getElem?_getD,List.getElem?_eq_getElem hi]at this
def obB(o:ObS):List UInt8:=fo o.ep.toNat++enR (putR o)
theorem obB_length(o:ObS):(obB o).length=12+o.key.length+2*o.st.length:=by
 unfold obB;rw[List.length_append,fo_length,enR_length]
 show 4+(8+o.key.length+2*o.st.length)=_
 omega
def obsB:List ObS->List UInt8
 |[]=>[]
 |o::l=>obB o++obsB l
theorem obsB_append(l m:List ObS):obsB (l++m)=obsB l++obsB m:=by
 induction l with
 |nil=>rfl
 |cons o l ih=>show obB o++obsB (l++m)=obB o++obsB l++obsB m;rw[ih,List.append_assoc]
theorem obsB_le{l:List ObS}(h:∀o∈l,OkO o):(obsB l).length<=76*l.length+2*cntO l:=by
 induction l with
 |nil=>exact Zr
 |cons o l ih=>
  have h1:=ih fun x hx=>h x (List.mem_cons_of_mem _ hx)
  have h2:o.key.length<=64:=(h o (List.mem_cons_self ..)).1.2.2.1
  show(obB o++obsB l).length<=76*(l.length+1)+2*(o.st.length+cntO l)
  rw[List.length_append,obB_length];omega
def snB(l:List ObS):List UInt8:=tw l.length++obsB l
theorem snB_le{l:List ObS}(h:MayL l):(snB l).length<=5378:=by
 have h1:=obsB_le fun o ho=>h.all ho
 have h2:=h.1;have h3:=h.2.2;unfold snB;rw[List.length_append,tw_length];omega
def snP(l:List ObS):List (List UInt8):=[(snB l).take 4096,(snB l).drop 4096]
def NxO(b:List UInt8):Prop:=4<=b.length/\NxR (b.drop 4)/\nu b<=2147483647/\(raR (b.drop 4)).kind=1
instance (b:List UInt8):Decidable (NxO b):=inferInstanceAs (Decidable (_/\_/\_/\_))
def raO(b:List UInt8):ObS:=⟨(raR (b.drop 4)).key,(raR (b.drop 4)).len,(nu b:Nat),(raR (b.drop 4)).st⟩
def reO(b:List UInt8):List UInt8:=reR (b.drop 4)
theorem ob_en{o:ObS}(h:OkO o)(r:List UInt8):NxO (obB o++r)/\raO (obB o++r)=o/\reO (obB o++r)=r:=by
 obtain⟨h1,h2,h3⟩:=h;have d:(obB o++r).drop 4=enR (putR o)++r:=by
  show((fo o.ep.toNat++enR (putR o))++r).drop 4=_
  rw[List.append_assoc];rfl
 have e:nu (obB o++r)=o.ep.toNat:=by
  show nu ((fo o.ep.toNat++enR (putR o))++r)=_
  rw[List.append_assoc];exact nu_fo_app Zo _
 obtain⟨n1,n2,n3⟩:=nx_en h1 r;refine⟨⟨?_,by rw[d];exact n1,by rw[e];omega,by rw[d,n2];rfl⟩,?_,by unfold reO;rw[d];exact n3⟩
 ·rw[List.length_append,obB_length];omega
 ·unfold raO;rw[d,n2,e];obtain⟨k,n,p,s⟩:=o;simp only at h2 ⊢
  show(⟨k,n,((p.toNat:Nat):Int),s⟩:ObS)=_
  rw[Int.toNat_of_nonneg h2]
theorem ob_back{b:List UInt8}(h:NxO b):OkO (raO b)/\b=obB (raO b)++reO b:=by
 obtain⟨h1,h2,h3,h4⟩:=h;have ep:putR (raO b)=raR (b.drop 4):=by
  show(⟨1,(raR (b.drop 4)).key,(raR (b.drop 4)).len,(raR (b.drop 4)).st⟩:RcS)=_
  rw[<-h4]
 have l4:(b.take 4).length=4:=by rw[List.length_take];omega
 refine⟨⟨by rw[ep];exact h2.2,Int.natCast_nonneg _,by show((nu b:Nat):Int)<=_;omega⟩,?_⟩;unfold obB reO;rw[ep,List.append_assoc,<-nx_back h2]
 show b=fo ((nu b:Nat):Int).toNat++b.drop 4
 rw[Int.toNat_natCast,<-nu_take h1,fo_nu l4,List.take_append_drop]
def unO:Nat->List UInt8->Option (List ObS×List UInt8)
 |0,b=>some ([],b)
 |n+1,b=>if NxO b then (unO n (reO b)).map (fun x=>(raO b::x.1,x.2))else none
theorem un_en{l:List ObS}(h:∀o∈l,OkO o)(r:List UInt8):unO l.length (obsB l++r)=some (l,r):=by
 induction l with
 |nil=>rfl
 |cons o l ih=>
  have e:=ob_en (h o (List.mem_cons_self ..)) (obsB l++r)
  show(if NxO ((obB o++obsB l)++r)then (unO l.length (reO ((obB o++obsB l)++r))).map (fun x=>(raO ((obB o++obsB l)++r)::x.1,x.2))else none)=_
  rw[List.append_assoc,if_pos e.1,e.2.1,e.2.2,ih fun x hx=>h x (List.mem_cons_of_mem _ hx)];rfl
theorem un_back{n:Nat}{b:List UInt8}{l:List ObS}{r:List UInt8}(h:unO n b=some (l,r)):l.length=n/\(∀o∈l,OkO o)/\b=obsB l++r:=by
 induction n generalizing b l r with
 |zero=>
  have h:some (([]:List ObS),b)=some (l,r):=h;simp only[Option.some.injEq,Prod.mk.injEq]at h;obtain⟨rfl,rfl⟩:=h;exact⟨rfl,fun o ho=>(by cases ho),rfl⟩
 |succ n ih=>
  unfold unO at h
  by_cases hn:NxO b
  ·rw[if_pos hn]at h
   rcases hu:unO n (reO b)with _|⟨l',r'⟩
   ·rw[hu]at h;cases h
   ·rw[hu]at h;simp only[Option.map_some,Option.some.injEq,Prod.mk.injEq]at h;obtain⟨rfl,rfl⟩:=h;obtain⟨i1,i2,i3⟩:=ih hu;have e:=ob_back hn;refine⟨by rw[List.length_cons,i1],fun o ho=>?_,?_⟩
    ·rcases List.mem_cons.1 ho with rfl|ho
     ·exact e.1
     ·exact i2 o ho
    ·show b=(obB (raO b)++obsB l')++r'
     rw[List.append_assoc,<-i3];exact e.2
  ·rw[if_neg hn]at h;cases h
def CutP(p q:List UInt8):Prop:=p.length<=4096/\q.length<=4096/\(q=[]∨p.length=4096)
theorem cut_of{b:List UInt8}(h:b.length<=8192):CutP (b.take 4096) (b.drop 4096):=by
 refine⟨by rw[List.length_take];omega,by rw[List.length_drop];omega,?_⟩
 by_cases hb:b.length<=4096
 ·exact Or.inl (List.drop_eq_nil_of_le hb)
 ·exact Or.inr (by rw[List.length_take];omega)
theorem cut_back{p q:List UInt8}(h:CutP p q):(p++q).take 4096=p/\(p++q).drop 4096=q:=by
 rcases h.2.2 with rfl|e
 ·rw[List.append_nil];exact⟨List.take_of_length_le h.1,List.drop_eq_nil_of_le h.1⟩
 ·rw[<-e];exact⟨List.take_left,List.drop_left⟩
def IsP(L:List (List UInt8))(l:List ObS):Prop:=∃p q,L=[p,q]/\CutP p q/\2<=(p++q).length/\unO (un (p++q)) ((p++q).drop 2)=some (l,[])/\MayL l
theorem isP_sn{l:List ObS}(h:MayL l):IsP (snP l) l:=by
 have hb:=snB_le h;refine⟨_,_,rfl,cut_of Zo,?_,?_,h⟩
 ·rw[List.take_append_drop];unfold snB;rw[List.length_append,tw_length];omega
 ·rw[List.take_append_drop];unfold snB;have:=h.1;rw[un_tw Zo]
  show unO l.length (obsB l)=_
  have e:=un_en (fun o ho=>h.all ho) [];rwa[List.append_nil]at e
theorem isP_back{L:List (List UInt8)}{l:List ObS}(h:IsP L l):MayL l/\L=snP l:=by
 obtain⟨p,q,rfl,hc,h2,hu,hm⟩:=h;refine⟨hm,?_⟩;obtain⟨u1,u2,u3⟩:=un_back hu;have l2:((p++q).take 2).length=2:=by rw[List.length_take];omega
 have e:snB l=p++q:=by
  unfold snB;rw[u1,<-un_take h2,tw_un l2];rw[List.append_nil]at u3;rw[<-u3,List.take_append_drop]
 obtain⟨c1,c2⟩:=cut_back hc;unfold snP;rw[e,c1,c2]
theorem isP_one{L:List (List UInt8)}{l m:List ObS}(h:IsP L l)(h':IsP L m):l=m:=by
 obtain⟨p,q,rfl,-,-,hu,-⟩:=h;obtain⟨p',q',e,-,-,hu',-⟩:=h';simp only[List.cons.injEq,and_true]at e;obtain⟨rfl,rfl⟩:=e;rw[hu]at hu';simp only[Option.some.injEq,Prod.mk.injEq,and_true]at hu';exact hu'
open Go.ChangeShapes
def sv(y:List UInt8):Value:=.string ⟨y.toArray⟩
structure RcV where
 r:RcS
 vs:Value
def aggR(c:RcV):Value:=.agg #[.int .i64 c.r.kind,sv c.r.key,.int .i64 c.r.len,c.vs]
structure RcV.In(w:World)(c:RcV):Prop where
 wk:(Lit.int .i64 c.r.kind).wf=true
 wl:(Lit.int .i64 c.r.len).wf=true
 ky:c.r.key.length<=maxLen
 rs:RdI w c.vs c.r.st
 wi:∀z∈c.r.st,(Lit.int .i64 z).wf=true
theorem RcV.In.below{w w':World}{c:RcV}(h:c.In w)(hb:Below w.heap.size w w'):c.In w':=⟨h.wk,h.wl,h.ky,h.rs.below hb,h.wi⟩
structure ObV where
 o:ObS
 vs:Value
instance:Inhabited ObV:=⟨⟨default,.slice none 0 0⟩⟩
structure ObAt(w:World)(b off:Nat)(c:ObV):Prop where
 c0:w.cell? ⟨b,off,none⟩=some (sv c.o.key)
 c1:w.cell? ⟨b,off+1,none⟩=some (.int .i64 c.o.len)
 c2:w.cell? ⟨b,off+2,none⟩=some (.int .i64 c.o.ep)
 c3:w.cell? ⟨b,off+3,none⟩=some c.vs
 wl:(Lit.int .i64 c.o.len).wf=true
 we:(Lit.int .i64 c.o.ep).wf=true
 ky:c.o.key.length<=maxLen
 rs:RdI w c.vs c.o.st
 wi:∀z∈c.o.st,(Lit.int .i64 z).wf=true
theorem ObAt.below{w w':World}{b off:Nat}{c:ObV}(h:ObAt w b off c)(hb:b<w.heap.size)(hw:Below w.heap.size w w'):ObAt w' b off c:=
 ⟨(hw.cell (p:=⟨b,off,none⟩) hb).trans h.c0,(hw.cell (p:=⟨b,off+1,none⟩) hb).trans h.c1,(hw.cell (p:=⟨b,off+2,none⟩) hb).trans h.c2,(hw.cell (p:=⟨b,off+3,none⟩) hb).trans h.c3,h.wl,h.we,h.ky,h.rs.below hw,h.wi⟩
def RdO(w:World)(v:Value)(L:List ObV):Prop:=
 (∃ao cap,L=[]/\v= .slice ao 0 cap)∨(∃b off cap,L≠[]/\v= .slice (some ⟨b,off,none⟩) L.length cap/\L.length<=maxLen/\b<w.heap.size/\∀i,i<L.length->ObAt w b (off+i*4) (L.getD i default))
theorem RdO.below{w w':World}{v:Value}{L:List ObV}(h:RdO w v L)(hb:Below w.heap.size w w'):RdO w' v L:=by
 rcases h with h|⟨b,off,cap,h1,h2,h3,h5,h6⟩
 ·exact Or.inl h
 ·exact Or.inr ⟨b,off,cap,h1,h2,h3,Zu h5 hb.size,fun i hi=>(h6 i hi).below h5 hb⟩
theorem RdO.form{w:World}{v:Value}{L:List ObV}(h:RdO w v L):∃a c,v= .slice a L.length c:=by
 rcases h with⟨a,c,rfl,rfl⟩|⟨b,off,c,_,rfl,_⟩
 ·exact⟨a,c,rfl⟩
 ·exact⟨_,c,rfl⟩
theorem four16{cs:List Value}(h:cs.length=4):∃v0 v1 v2 v3,cs=[v0,v1,v2,v3]:=by
 match cs,h with
 |[a,b,c,d],_=>exact⟨a,b,c,d,rfl⟩
section
variable {H:Type} {enc:TypeId×Value->H} {P:Program} {w:World} {base:Nat} {held:Bool}
theorem open_ints16{t si:TypeId}{fuel:Nat}{v:Value}{x:DataW H×List MemPlace}(t5:P.underlying t=some (.slice si))(ti:P.underlying si=some (.int .i64))(ci:P.cellsOf si=1)(q5:DataW.trod enc P w base (fun _=>true) held fuel t [v]=some x):∃pk,RdI w v pk/\∀z∈pk,(Lit.int .i64 z).wf=true:=by
 rcases open_ints t5 ti ci q5 with⟨hcs,_⟩|⟨x5,l5,c5,zs,hcs,_,hl5,hm5,hz,_,hcell,hwz⟩
 ·simp at hcs;subst hcs;exact⟨[],Or.inl ⟨none,0,rfl,rfl⟩,Zs⟩
 ·simp at hcs;subst hcs;exact rdI_row2 (Or.inr ⟨x5,rfl,hl5,hm5,by simpa using hz,hcell,hwz⟩)
theorem open_objs{t e si:TypeId}{f0 f1 f2 f3:Field}{fuel:Nat}{cs:List Value}{x:DataW H×List MemPlace}(ht:P.underlying t=some (.slice e))(he:P.underlying e=some (.struct #[f0,f1,f2,f3]))(ce:P.cellsOf e=4)
  (o0:f0.offset=0) (o1:f1.offset=1) (o2:f2.offset=2) (o3:f3.offset=3)
  (t0:P.underlying f0.type=some .string) (t1:P.underlying f1.type=some (.int .i64)) (t2:P.underlying f2.type=some (.int .i64)) (t3:P.underlying f3.type=some (.slice si)) (ti:P.underlying si=some (.int .i64)) (ci:P.cellsOf si=1)
  (n0:P.cellsOf f0.type=1) (n1:P.cellsOf f1.type=1) (n2:P.cellsOf f2.type=1) (n3:P.cellsOf f3.type=1)
  (h:DataW.trod enc P w base (fun _=>true) held fuel t cs=some x):∃a len cap L,cs=[.slice a len cap]/\len=L.length/\RdO w (.slice a len cap) L:=by
 rcases Go.Deep.open_slice ht h with⟨rfl,_⟩|⟨a,len,cap,m,n,D,Pl,rfl,hb,hl,hm,hmm,rfl,hx⟩
 ·exact⟨none,0,0,[],rfl,rfl,Or.inl ⟨none,0,rfl,rfl⟩⟩
 simp only[if_true]at hmm
 by_cases hl0:len=0
 ·subst hl0;exact⟨some a,0,cap,[],rfl,rfl,Or.inl ⟨_,_,rfl,rfl⟩⟩
 obtain⟨bb,off,spot⟩:=a;have hspot:spot=none:=by
  obtain⟨cs',h1,_⟩:=hx 0 Zo;rw[ce]at h1;have hc:=World.cells?_some h1;have h2:=hc.2.2 0 Zo;obtain⟨v,hv⟩:∃v,cs'[0]? =some v:=⟨cs'[0]'Zo,List.getElem?_eq_getElem Zo⟩
  rw[hv]at h2;have:=World.cell?_spot h2;simpa[Addr.add]using this
 subst hspot;have each:∀i,i<len->∃c:ObV,ObAt w bb (off+i*4) c:=by
  intro i hi;obtain⟨cs',h1,h2⟩:=hx i Zo;obtain⟨xs,n',_,_,hlen,hxl,hf⟩:=DataW.trod_struct he h2;rw[ce]at hlen h1;obtain⟨v0,v1,v2,v3,rfl⟩:=four16 hlen;have hxl':xs.length=4:=hxl;have g:∀k,k<4->∃y,xs[k]? =some y:=fun k hk=>⟨xs[k],List.getElem?_eq_getElem Zo⟩
  obtain⟨y0,e0⟩:=g 0 Zo;obtain⟨y1,e1⟩:=g 1 Zo;obtain⟨y2,e2⟩:=g 2 Zo;obtain⟨y3,e3⟩:=g 3 Zo;have q0:=hf 0 f0 rfl;have q1:=hf 1 f1 rfl;have q2:=hf 2 f2 rfl;have q3:=hf 3 f3 rfl;rw[o0,n0,e0]at q0;rw[o1,n1,e1]at q1;rw[o2,n2,e2]at q2;rw[o3,n3,e3]at q3;obtain⟨s,r0,_,ls⟩:=DataW.trod_string t0 q0;obtain⟨z1,r1,_,w1⟩:=DataW.trod_int t1 q1;obtain⟨z2,r2,_,w2⟩:=DataW.trod_int t2 q2;simp at r0 r1 r2;subst r0 r1 r2;obtain⟨hbase,_,hc⟩:=World.cells?_some h1;have kk:∀k,k<4->w.cell? ⟨bb,off+i*4+k,none⟩=[Value.string s,.int .i64 z1,.int .i64 z2,v3][k]? :=by
   intro k hk;have:=hc k hk;rw[Go.Deep.add_add,add_at,<-Nat.add_assoc]at this;exact this
  obtain⟨pk,hvk,hwk⟩:=open_ints16 t3 ti ci q3;exact⟨⟨⟨s.data.toList,z1,z2,pk⟩,v3⟩,kk 0 Zo,kk 1 Zo,kk 2 Zo,kk 3 Zo,w1,w2,by simpa using ls,hvk,hwk⟩
 obtain⟨F,hF⟩:=Go.Deep.choose_lt each;have hlen:((List.range len).map F).length=len:=Zs
 refine⟨some ⟨bb,off,none⟩,len,cap,(List.range len).map F,rfl,hlen.symm,?_⟩;have hc0:=(hF 0 Zo).c0;have hbw:bb<w.heap.size:=by
  unfold World.cell? at hc0
  by_cases hb:bb<w.heap.size
  ·exact hb
  ·rw[Array.getElem?_eq_none (by show w.heap.size<=bb;omega)]at hc0;cases hc0
 refine Or.inr ⟨bb,off,cap,fun e=>by rw[e]at hlen;simp at hlen;omega,by rw[hlen],by rw[hlen];omega,hbw,fun i hi=>?_⟩;rw[hlen]at hi;have e1:((List.range len).map F).getD i default=F i:=by simp[List.getD,hi]
 rw[e1];exact hF i hi
end
end Go.Proofs.YtclieefpnbdbjaaGreat.Gf
namespace Go.Proofs.YtclieefpnbdbjaaGreat.Gf
set_option linter.unusedVariables false
set_option linter.unusedSimpArgs false
open Go.RowKit
theorem lessK(a b:List UInt8):Op.bytesLess a b=upK a b:=by
 unfold upK
 induction a generalizing b with
 |nil=>
  cases b with
  |nil=>rfl
  |cons y b=>rfl
 |cons x a ih=>
  cases b with
  |nil=>rfl
  |cons y b=>
   unfold Op.bytesLess;rw[ih b]
   by_cases e:x=y
   ·subst e;simp
   ·have e':¬y=x:=fun q=>e q.symm
    by_cases l:x<y
    ·have l':¬y<x:=fun q=>by have:=UInt8.lt_asymm l;exact this q
     simp[e,e',l,l']
    ·have l':y<x:=by
      have h1:x.toNat≠y.toNat:=fun q=>e (UInt8.toNat_inj.1 q)
      have h2:¬x.toNat<y.toNat:=fun q=>l (UInt8.lt_iff_toNat_lt.2 q)
      exact UInt8.lt_iff_toNat_lt.2 Zo
     simp[e,e',l,l']
def oL(L:List ObV):List ObS:=L.map ObV.o
theorem oL_getD(L:List ObV)(i:Nat):(oL L).getD i default=(L.getD i default).o:=by
 unfold oL
 by_cases h:i<L.length
 ·simp[List.getD,h]
 ·simp[List.getD,Nat.le_of_not_lt h];rfl
theorem oL_length(L:List ObV):(oL L).length=L.length:=by simp[oL]
def Up16(L:List ObV)(r:Nat):Prop:=∀i,i<r->OkO (L.getD i default).o/\(0<i->upK (L.getD (i-1) default).o.key (L.getD i default).o.key=true)
theorem up_step{L:List ObV}{r:Nat}(h:Up16 L r)(h1:OkO (L.getD r default).o)(h2:0<r->upK (L.getD (r-1) default).o.key (L.getD r default).o.key=true):Up16 L (r+1):=fun i hi=>by
 by_cases e:i=r
 ·subst e;exact⟨h1,h2⟩
 ·exact h i Zo
theorem may_up{L:List ObV}:MayL (oL L)↔L.length<=64/\Up16 L L.length/\cntO (oL L)<=256:=by
 unfold MayL Up16;rw[oL_length];simp only[oL_getD]
theorem cnt_take{L:List ObV}{r:Nat}(h:r<L.length):cntO ((oL L).take (r+1))=cntO ((oL L).take r)+(L.getD r default).o.st.length:=by
 have h':r<(oL L).length:=by rw[oL_length];exact h
 rw[List.take_succ_eq_append_getElem h',cntO_append]
 show _+((oL L)[r].st.length+0)=_
 have e:(oL L)[r]=(L.getD r default).o:=by
  rw[<-oL_getD,List.getD_eq_getElem?_getD,List.getElem?_eq_getElem h'];rfl
 rw[e];omega
theorem belR(w:World)(o:Obj):Below w.heap.size w (w.alloc o):=Zf.alloc Zr o
theorem _root_.Go.RowKit.Below.step16{B:Nat}{a b c:World}(h:Below B a b)(k:Below b.heap.size b c)(hB:B<=b.heap.size):Below B a c:=h.trans (k.mono hB)
def chR(r:RcS):Int:=if OkR r then 0 else 1
theorem RdI.at16{w:World}{a:Option Addr}{n c:Nat}{zs:List Int}(h:RdI w (.slice a n c) zs){i:Nat}(hi:i<zs.length):∃b off,a=some ⟨b,off,none⟩/\w.cell? ⟨b,off+i,none⟩=some (.int .i64 (zs.getD i 0)):=by
 rcases h with⟨a',c',rfl,_⟩|⟨b,off,c',h1,e,h2,h3,h4⟩
 ·simp at hi
 ·simp at e;obtain⟨rfl,_⟩:=e;exact⟨b,off,rfl,h4 i hi⟩
theorem ch_not{kd ln:Int}{ky:List UInt8}{st:List Int}{r:Nat}(hr:r<st.length)(h:st.getD r 0<0∨st.getD r 0>=256):chR ⟨kd,ky,ln,st⟩=1:=if_neg fun q=>by
 have e:st.getD r 0=st[r]:=by rw[List.getD_eq_getElem?_getD,List.getElem?_eq_getElem hr];rfl
 have:=q.2.2.2.2.2.2.1 st[r] (List.getElem_mem hr);omega
theorem ch_all{st:List Int}(h:∀j,j<st.length->0<=st.getD j 0/\st.getD j 0<256):∀s∈st,0<=s/\s<256:=fun s hs=>by
 obtain⟨i,hi,rfl⟩:=List.getElem_of_mem hs;have e:st.getD i 0=st[i]:=by rw[List.getD_eq_getElem?_getD,List.getElem?_eq_getElem hi];rfl
 rw[<-e];exact h i hi
def OkN(n:Int):Prop:=0<=n/\n<=2147483647
instance (n:Int):Decidable (OkN n):=inferInstanceAs (Decidable (_/\_))
def OkT16(st:List Int):Prop:=st.length<=256/\∀s∈st,0<=s/\s<256
instance (st:List Int):Decidable (OkT16 st):=inferInstanceAs (Decidable (_/\_))
theorem may16_any{n:Int}{w:World}{x:Bool}(hx:decide (OkN n)=x):Calls Tryz.prog 75 #[.int .i64 n] w fun e w'=>e= .returned (.bool x)/\w'=w:=by
 by_cases h0:0<=n
 ·by_cases h1:n<=2147483647
  ·obtain rfl:x=true:=hx.symm.trans (Zy ⟨h0,h1⟩);clear hx;have h0':n>=0:=h0
   go_enter Tryz.func75,Tryz.ntmps75
   go_wp2;go_ret;exact⟨rfl,rfl⟩
  ·obtain rfl:x=false:=hx.symm.trans (Zx fun q=>h1 q.2);clear hx;have h0':n>=0:=h0
   go_enter Tryz.func75,Tryz.ntmps75
   go_wp2;go_ret;exact⟨rfl,rfl⟩
 ·obtain rfl:x=false:=hx.symm.trans (Zx fun q=>h0 q.1);clear hx;have h0':¬n>=0:=h0
  go_enter Tryz.func75,Tryz.ntmps75
  go_wp2;go_ret;exact⟨rfl,rfl⟩
theorem are16_any{st:List Int}{v:Value}{w:World}(h:RdI w v st){x:Bool}(hx:decide (OkT16 st)=x):Calls Tryz.prog 76 #[v] w fun e w'=>e= .returned (.bool x)/\w'=w:=by
 obtain⟨a,cp,rfl⟩:=h.form;have HX:Hid (decide (OkT16 st)=x):=hx;clear hx
 by_cases h6:(st.length:Int)>256
 ·obtain rfl:x=false:=HX.out.symm.trans (Zx fun q=>by have:=q.1;omega);clear HX h
  go_enter Tryz.func76,Tryz.ntmps76
  go_wp2;go_ret;exact⟨rfl,rfl⟩
 go_enter Tryz.func76,Tryz.ntmps76
 go_wp2
 go_loopw [10] (fun i wr=>∃r:Nat,r<=st.length/\i= .int .i64 (r:Int)/\wr=w/\Hid (∀j,j<r->0<=st.getD j 0/\st.getD j 0<256)) (fun i _=>st.length-(intOf i).toNat)
 case atStart=>exact⟨0,Zz,rfl,rfl,fun j hj=>absurd hj (Nat.not_lt_zero _)⟩
 case round=>
  obtain⟨r,hr,rfl,rfl,hall⟩:=hrel
  by_cases hlt:r<st.length
  ·have hlt':(r:Int)<(st.length:Int):=by omega
   have hrl:(r:Int)<=(st.length:Int):=Zo
   obtain⟨b,off,e,cz⟩:=h.at16 hlt;subst e;have N1:Hid (st.getD r 0<0∨st.getD r 0>=256->decide (OkT16 st)=false):=fun q=>Zx fun k=>by
    have e:st.getD r 0=st[r]:=by rw[List.getD_eq_getElem?_getD,List.getElem?_eq_getElem hlt];rfl
    have:=k.2 st[r] (List.getElem_mem hlt);omega
   have hall2:Hid (0<=st.getD r 0->st.getD r 0<256->∀j,j<r+1->0<=st.getD j 0/\st.getD j 0<256):=fun h0 h1 j hj=>by
    by_cases e:j=r
    ·rw[e];exact⟨h0,h1⟩
    ·exact hall.out j Zo
   generalize st.getD r 0=z at cz N1 hall2
   by_cases z0:z<0
   ·obtain rfl:x=false:=HX.out.symm.trans (N1.out (Or.inl z0));clear N1 hall2 hall HX;go_wp2;go_ret;exact⟨rfl,rfl⟩
   by_cases z1:z>=256
   ·obtain rfl:x=false:=HX.out.symm.trans (N1.out (Or.inr z1));clear N1 hall2 hall HX;go_wp2;go_ret;exact⟨rfl,rfl⟩
   ·have H3:Hid _:=hall2.out Zo Zo;clear N1 hall2 hall;go_wp2;go_roundw
    case rel=>exact⟨r+1,Zo,Zg,by first|rfl|trivial,H3.out⟩
    case measure=>simp[intOf];omega
  ·obtain rfl:r=st.length:=by omega
   have hge:¬(st.length:Int)<(st.length:Int):=Zo
   obtain rfl:x=true:=HX.out.symm.trans (Zy ⟨Zo,ch_all hall.out⟩);clear hall hlt HX;go_wp2;go_ret;exact⟨rfl,rfl⟩
theorem chR_parts{kd ln:Int}{ky:List UInt8}{st:List Int}(h1:1<=ky.length)(h2:ky.length<=64)(h3:OkN ln)(h4:OkT16 st):chR ⟨kd,ky,ln,st⟩=if kd=1∨kd=2/\ln=0/\st.length=0 then 0 else 1:=by
 unfold chR
 by_cases q:kd=1∨kd=2/\ln=0/\st.length=0
 ·rw[if_pos q,if_pos];refine⟨by simp only;omega,h1,h2,h3.1,h3.2,h4.1,h4.2,fun e=>?_⟩;simp only at e;simp only;omega
 ·rw[if_neg q,if_neg];rintro⟨k1,-,-,-,-,-,-,k8⟩;simp only at k1 k8;apply q
  rcases k1 with k1|k1
  ·exact Or.inl k1
  ·exact Or.inr ⟨k1,k8 k1⟩
theorem chk16_any{w:World}{c:RcV}(h:c.In w){x:Int}(hx:chR c.r=x):Calls Tryz.prog 25 #[aggR c] w fun e w'=>e= .returned (.int .i64 x)/\Below w.heap.size w w':=by
 obtain⟨⟨kd,ky,ln,st⟩,vs⟩:=c;have HR:=h.rs;obtain⟨a,cp,e⟩:=HR.form;simp only at e HR hx;subst e;clear h;have HX:Hid (chR ⟨kd,ky,ln,st⟩=x):=hx;clear hx
 show Calls Tryz.prog 25 #[.agg #[.int .i64 kd,.string ⟨ky.toArray⟩,.int .i64 ln,.slice a st.length cp]] w _
 obtain⟨w1,hw1⟩:∃w1,w1=w.alloc (.cells #[.int .i64 kd,.string ⟨ky.toArray⟩,.int .i64 ln,.slice a st.length cp] 38):=⟨_,rfl⟩;have B1:Below w.heap.size w w1:=by rw[hw1];exact belR _ _
 have c0:w1.cell? ⟨w.heap.size,0,none⟩=some (.int .i64 kd):=by rw[hw1,World.cell?_alloc_new];rfl
 have c1:w1.cell? ⟨w.heap.size,1,none⟩=some (.string ⟨ky.toArray⟩):=by rw[hw1,World.cell?_alloc_new];rfl
 have c2:w1.cell? ⟨w.heap.size,2,none⟩=some (.int .i64 ln):=by rw[hw1,World.cell?_alloc_new];rfl
 have c3:w1.cell? ⟨w.heap.size,3,none⟩=some (.slice a st.length cp):=by rw[hw1,World.cell?_alloc_new];rfl
 have HR1:=HR.below B1;clear HR
 by_cases h1:(ky.length:Int)>=1
 rotate_left
 ·obtain rfl:x=1:=HX.out.symm.trans (if_neg fun q=>by have:=q.2.1;simp only at this;omega);clear HX HR1
  go_enter Tryz.func25,Tryz.ntmps25
  go_wp2_with fail
  rw[<-hw1];clear hw1;go_ret;exact⟨rfl,B1⟩
 by_cases h2:(ky.length:Int)<=64
 rotate_left
 ·obtain rfl:x=1:=HX.out.symm.trans (if_neg fun q=>by have:=q.2.2.1;simp only at this;omega);clear HX HR1
  go_enter Tryz.func25,Tryz.ntmps25
  go_wp2_with fail
  rw[<-hw1];clear hw1;go_ret;exact⟨rfl,B1⟩
 by_cases h3:OkN ln
 rotate_left
 ·obtain rfl:x=1:=HX.out.symm.trans (if_neg fun q=>h3 ⟨q.2.2.2.1,q.2.2.2.2.1⟩);clear HX HR1
  go_enter Tryz.func25,Tryz.ntmps25
  go_wp2_with fail
  rw[<-hw1];clear hw1;refine(may16_any (Zx h3)).mono ?_
  rintro _ _ ⟨rfl,rfl⟩;go_wp2;go_ret;exact⟨rfl,B1⟩
 by_cases h4:OkT16 st
 rotate_left
 ·obtain rfl:x=1:=HX.out.symm.trans (if_neg fun q=>h4 ⟨q.2.2.2.2.2.1,q.2.2.2.2.2.2.1⟩);clear HX;have K4:=are16_any HR1 (Zx h4)
  go_enter Tryz.func25,Tryz.ntmps25
  go_wp2_with fail
  rw[<-hw1];clear hw1;refine(may16_any (Zy h3)).mono ?_
  rintro _ _ ⟨rfl,rfl⟩
  go_wp2_with fail
  refine K4.mono ?_
  rintro _ _ ⟨rfl,rfl⟩;clear K4;go_wp2;go_ret;exact⟨rfl,B1⟩
 have HY:Hid _:=(chR_parts (kd:=kd) Zo Zo h3 h4).symm.trans HX.out;have K4:=are16_any HR1 (Zy h4);clear HX HR1
 go_enter Tryz.func25,Tryz.ntmps25
 go_wp2_with fail
 rw[<-hw1];clear hw1;refine(may16_any (Zy h3)).mono ?_
 rintro _ _ ⟨rfl,rfl⟩
 go_wp2_with fail
 refine K4.mono ?_
 rintro _ _ ⟨rfl,rfl⟩;clear K4 h3 h4 h1 h2
 by_cases k1:kd=1
 ·obtain rfl:x=0:=HY.out.symm.trans (if_pos (Or.inl k1));clear HY;subst k1;go_wp2;go_ret;exact⟨rfl,B1⟩
 by_cases k2:kd=2
 rotate_left
 ·obtain rfl:x=1:=HY.out.symm.trans (if_neg Zo);clear HY;go_wp2;go_ret;exact⟨rfl,B1⟩
 by_cases k3:ln=0
 rotate_left
 ·obtain rfl:x=1:=HY.out.symm.trans (if_neg Zo);clear HY;subst k2;go_wp2;go_ret;exact⟨rfl,B1⟩
 by_cases k4:(st.length:Int)=0
 ·obtain rfl:x=0:=HY.out.symm.trans (if_pos Zo);clear HY;subst k2 k3;go_wp2;go_ret;exact⟨rfl,B1⟩
 ·obtain rfl:x=1:=HY.out.symm.trans (if_neg Zo);clear HY;subst k2 k3;go_wp2;go_ret;exact⟨rfl,B1⟩
theorem conv_key(W:World)(y:List UInt8)(h:y.length<=maxLen):∃c U,(convert 9 42 (.string ⟨y.toArray⟩)).run Tryz.prog W= .ok (.slice (some ⟨W.heap.size,0,none⟩) y.length c) U/\Rd U (.slice (some ⟨W.heap.size,0,none⟩) y.length c) y/\Below W.heap.size W U/\W.heap.size<U.heap.size:=by
 obtain⟨c,hc⟩:∃c,c=grownCap W y.length 0 5:=⟨_,rfl⟩;have r:=run_bytes_of_string (P:=Tryz.prog) W 9 42 5 ⟨y.toArray⟩ Tryz.underlying9 Tryz.underlying42 Tryz.underlying5;have e:(⟨y.toArray⟩:ByteArray).size=y.length:=by show y.toArray.size=_;simp
 rw[e,<-hc]at r;have c1:y.length<=c:=by rw[hc];exact grownCap_ge _ _ _ _
 have c2:c<=maxLen:=by rw[hc];exact grownCap_le_maxLen _ _ _ _ h
 have B:Below W.heap.size W (W.drew.alloc (.cells (bytesRow ⟨y.toArray⟩ c) 5 ((bytesRow ⟨y.toArray⟩ c).size,(bytesRow ⟨y.toArray⟩ c).size+1))):=((Below.refl _ W).drew).alloc Zr _;have s:W.heap.size<(W.drew.alloc (.cells (bytesRow ⟨y.toArray⟩ c) 5 ((bytesRow ⟨y.toArray⟩ c).size,(bytesRow ⟨y.toArray⟩ c).size+1))).heap.size:=by
  show W.heap.size<(W.heap.push _).size
  rw[Array.size_push];exact Nat.lt_succ_self _
 refine⟨c,_,r,?_,B,s⟩
 by_cases h0:y=[]
 ·subst h0;exact Or.inl ⟨_,c,rfl,rfl,c2,fun q=>by cases q⟩
 ·refine Or.inr ⟨W.heap.size,0,c,h0,rfl,c1,c2,s,fun i hi=>?_⟩;rw[Nat.zero_add];refine(World.cell?_alloc_mark W.drew _ _ _ i).trans ?_
  have hi':i<y.toArray.size:=by simpa using hi
  rw[bytesRow_at ⟨y.toArray⟩ c i hi']
  have:(⟨y.toArray⟩:ByteArray).data[i]=co y i:=by
   show y.toArray[i]=co y i
   unfold co;simp[List.getD_eq_getElem?_getD,List.getElem?_eq_getElem hi]
  rw[this]
theorem conv_str16{w:World}{v:Value}{p:List UInt8}(h:Rd w v p):(convert 42 9 v).run Tryz.prog w= .ok (.string ⟨p.toArray⟩) w:=by
 rcases h with⟨ao,cap,rfl,rfl,_,_⟩|⟨b,off,cap,h0,rfl,h1,h2,h3,h4⟩
 ·rw[run_convert_bytes_string w 42 9 5 ao 0 cap Tryz.underlying42 Tryz.underlying5 Tryz.underlying9];cases ao with
  |none=>simp[Conv.bytesToString];rfl
  |some a=>
   have hl:=run_loadCells_list (P:=Tryz.prog) w a [] (fun j v hj=>by simp at hj);rw[run_bytesToString w a 0 cap [] hl];rfl
 ·refine run_convert_bytes_back w 42 9 5 ⟨b,off,none⟩ cap p Tryz.underlying42 Tryz.underlying5 Tryz.underlying9 (fun j hj=>?_);rw[add_at,h4 j hj]
  have:co p j=p[j]:=by
   unfold co;simp[List.getD_eq_getElem?_getD,List.getElem?_eq_getElem hj]
  rw[this]
structure Gro(w:World)(v:Value)(w':World)(v':Value):Prop where
 gr:w.grownBy w' v.ownBlock
 pl:v'.ownBlock=v.ownBlock∨∃k,v'.ownBlock=some k/\w.heap.size<=k
theorem Gro.refl(w:World)(v:Value):Gro w v w v:=⟨World.grownBy.refl _ _,Or.inl rfl⟩
theorem Gro.of{w w':World}{v v':Value}(h:w.grownBy w' v.ownBlock)(k:v'.ownBlock=v.ownBlock∨v'.ownBlock=some w.heap.size):Gro w v w' v':=
 ⟨h,k.imp id fun e=>⟨_,e,Zr⟩⟩
theorem Gro.trans{a b c:World}{u v x:Value}(h:Gro a u b v)(k:Gro b v c x):Gro a u c x:=by
 refine⟨⟨k.gr.os.trans h.gr.os,k.gr.tape.trans h.gr.tape,k.gr.output.trans h.gr.output,Nat.le_trans h.gr.size k.gr.size,fun i hi hne=>?_⟩,?_⟩
 ·refine(k.gr.block i (Zu hi h.gr.size) fun e=>?_).trans (h.gr.block i hi hne)
  rcases h.pl with q|⟨j,q,hj⟩
  ·exact hne (e.trans q)
  ·rw[q]at e;simp at e;omega
 ·rcases k.pl with q|⟨j,q,hj⟩
  ·rcases h.pl with r|⟨j,r,hj⟩
   ·exact Or.inl (q.trans r)
   ·exact Or.inr ⟨j,q.trans r,hj⟩
  ·exact Or.inr ⟨j,q,Nat.le_trans h.gr.size hj⟩
theorem Gro.bel{w w':World}(v:Value)(h:Below w.heap.size w w'):Gro w v w' v:=⟨⟨h.os,h.tape,h.output,h.size,fun k hk _=>h.block k hk⟩,Or.inl rfl⟩
theorem Gro.cell{w w':World}{v v':Value}(h:Gro w v w' v'){p:Addr}(hp:p.block<w.heap.size)(hn:v.ownBlock≠some p.block):w'.cell? p=w.cell? p:=Zc (w:=w) (h.gr.block p.block hp fun e=>hn e.symm)
theorem Gro.frozen{w w':World}{v v':Value}(h:Gro w v w' v'){p:Addr}(hp:p.block<w.heap.size)(hn:v.ownBlock≠some p.block):w'.frozen? p=w.frozen? p:=World.frozen?_of_block (w:=w) (h.gr.block p.block hp fun e=>hn e.symm)
theorem Gro.ne{w w':World}{v v':Value}(h:Gro w v w' v'){b:Nat}(hb:b<w.heap.size)(hn:v.ownBlock≠some b):v'.ownBlock≠some b:=by
 rcases h.pl with q|⟨j,q,hj⟩
 ·rw[q];exact hn
 ·rw[q];intro e;simp at e;omega
theorem Gro.below{B e n:Nat}{w0 w w':World}{v v':Value}{xs:List Value}(h:Gro w v w' v')(hB:Below B w0 w)(hs:B<=w.heap.size)(ho:w.ownsRow B e 1 v n xs):Below B w0 w':=
 hB.grown h.gr hs fun q hq=>(Zv ho q hq).1
theorem own_ne{w:World}{B e n:Nat}{v:Value}{xs:List Value}(ho:w.ownsRow B e 1 v n xs){b:Nat}(hb:w.heap.size<=b):v.ownBlock≠some b:=fun e=>by
 have:=(Zv ho b e).2;omega
theorem cat16{w:World}{base e:Nat}{v:Value}{p q:List UInt8}(h:w.ownsRow base e 1 v (p.length+q.length) (p.map vb++q.map vb)):OwnP w base e v (p++q):=by
 unfold OwnP;rw[List.length_append,List.map_append];exact h
theorem set4{w:World}{g:Nat}{a b c d x0 x1 x2 x3:Value}(m0:w.cell? ⟨g,0,none⟩=some x0)(m1:w.cell? ⟨g,1,none⟩=some x1)(m2:w.cell? ⟨g,2,none⟩=some x2)(m3:w.cell? ⟨g,3,none⟩=some x3):
  Only g w ((((w.setCell ⟨g,0,none⟩ a).setCell ⟨g,1,none⟩ b).setCell ⟨g,2,none⟩ c).setCell ⟨g,3,none⟩ d)/\((((w.setCell ⟨g,0,none⟩ a).setCell ⟨g,1,none⟩ b).setCell ⟨g,2,none⟩ c).setCell ⟨g,3,none⟩ d).cell? ⟨g,0,none⟩=some a/\((((w.setCell ⟨g,0,none⟩ a).setCell ⟨g,1,none⟩ b).setCell ⟨g,2,none⟩ c).setCell ⟨g,3,none⟩ d).cell? ⟨g,1,none⟩=some b/\((((w.setCell ⟨g,0,none⟩ a).setCell ⟨g,1,none⟩ b).setCell ⟨g,2,none⟩ c).setCell ⟨g,3,none⟩ d).cell? ⟨g,2,none⟩=some c/\((((w.setCell ⟨g,0,none⟩ a).setCell ⟨g,1,none⟩ b).setCell ⟨g,2,none⟩ c).setCell ⟨g,3,none⟩ d).cell? ⟨g,3,none⟩=some d:=by
 refine⟨((((Only.refl _ _).setCell _ _).setCell _ _).setCell _ _).setCell _ _,?_,?_,?_,?_⟩
 ·rw[World.cell?_setCell_other _ _ _ _ Zs,World.cell?_setCell_other _ _ _ _ Zs,World.cell?_setCell_other _ _ _ _ Zs,World.cell?_setCell_same _ _ _ m0]
 ·rw[World.cell?_setCell_other _ _ _ _ Zs,World.cell?_setCell_other _ _ _ _ Zs,World.cell?_setCell_same _ _ _ ((World.cell?_setCell_other _ _ _ _ Zs).trans m1)]
 ·rw[World.cell?_setCell_other _ _ _ _ Zs,World.cell?_setCell_same _ _ _ ((World.cell?_setCell_other _ _ _ _ Zs).trans ((World.cell?_setCell_other _ _ _ _ Zs).trans m2))]
 ·exact World.cell?_setCell_same _ _ _ ((World.cell?_setCell_other _ _ _ _ Zs).trans ((World.cell?_setCell_other _ _ _ _ Zs).trans ((World.cell?_setCell_other _ _ _ _ Zs).trans m3)))
end Go.Proofs.YtclieefpnbdbjaaGreat.Gf
