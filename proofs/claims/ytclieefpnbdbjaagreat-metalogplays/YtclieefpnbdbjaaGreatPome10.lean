/- JOINED: DkRc, DkRd, DkRe, DkRf. -/
import Derived.Test.YtclieefpnbdbjaaGreatPome9
import Derived.Deep.RegionLaw
import Derived.Test.YtclieefpnbdbjaaGreatPome6
set_option maxHeartbeats 2000000
set_option maxRecDepth 100000
namespace Go.Proofs.YtclieefpnbdbjaaGreat.Gf
set_option linter.unusedVariables false
set_option linter.unusedSimpArgs false
open Go.RowKit
def FindD(w:World)(T:List TH)(x:Int)(e:Ending)(w':World):Prop:=w'=w/\((e= .returned (.int .i64 (-1))/\lookL (bareT T) x=none)∨∃k:Nat,e= .returned (.int .i64 (k:Int))/\k<T.length/\lookL (bareT T) x=some (T.getD k default).2.1)
theorem find_any{w:World}{v:Value}{T:List TH}(hT:RdT w v T){x:Int}:Calls Tryz.prog 173 #[v,.int .i64 x] w (FindD w T x):=by
 have lt:=hT.len;obtain⟨aa,ca,rfl⟩:=hT.form
 go_enter Tryz.func173,Tryz.ntmps173
 go_wp2
 go_loopw [5] (fun i wr=>∃k:Nat,k<=T.length/\i= .int .i64 (k:Int)/\Hid (∀j,j<k->(T.getD j default).1≠x)/\Hid (wr=w)) (fun i _=>T.length-(intOf i).toNat)
 case atStart=>exact⟨0,Zz,rfl,fun j hj=>Zo,rfl⟩
 case round=>
  obtain⟨k,hk,rfl,hs,hd⟩:=hrel;have hT':RdT wr (.slice aa T.length ca) T:=by rw[hd.out];exact hT
  clear hT
  by_cases hlt:k<T.length
  ·have hlt':(k:Int)<(T.length:Int):=by omega
   have g1:IntKind.i64.wrap ((k:Int)+1)=((k+1:Nat):Int):=Zw
   obtain⟨b,off,rfl,c0,c1,r1⟩:=hT'.at hlt
   by_cases e:(T.getD k default).1=x
   ·have HL:Hid (lookL (bareT T) x=some (T.getD k default).2.1):=look_at hlt hs.out e;have z1:((T.getD k default).1==x)=true:=beq_iff_eq.2 e;obtain⟨t1,ht⟩:∃t,t=(T.getD k default).1:=⟨_,rfl⟩;rw[<-ht]at c0 z1;clear ht hs hT' e r1 c1;go_wp2;go_ret;exact⟨hd.out,Or.inr ⟨k,rfl,hlt,HL.out⟩⟩
   ·have z1:((T.getD k default).1==x)=false:=Zq.2 e;have HS:Hid (∀j,j<k+1->(T.getD j default).1≠x):=fun j hj=>by
     by_cases e2:j=k
     ·rw[e2];exact e
     ·exact hs.out j Zo
    obtain⟨t1,ht⟩:∃t,t=(T.getD k default).1:=⟨_,rfl⟩;rw[<-ht]at c0 z1;clear ht hs hT' e r1 c1;go_wp2;go_roundw
    case rel=>exact⟨k+1,Zo,Zg,HS,hd⟩
    case measure=>simp[intOf];omega
  ·have hge:¬(k:Int)<(T.length:Int):=by omega
   have HL:Hid (lookL (bareT T) x=none):=look_none (fun j hj=>hs.out j Zo);clear hs hT';go_wp2;go_ret;exact⟨hd.out,Or.inl ⟨rfl,HL.out⟩⟩
theorem z10_2{p:Prop} (h:p:=by
 have zp:¬p.length=0:=Zo
 have zp':((p.length:Int)==0)=false:=Zq.2 Zo;have jl1:(j:Int)<(p.length:Int):=Zo
 have jl0:(0:Int)<=(j:Int):=Zo
 clear O9 B9 hv9 hg9 B1 O1 hp1 hp hCh hy0 hy1 hg hi hz0 hz1 hz2 hsz
 go_big_region
 go_wp2;go_ret;exact⟨_,rfl,FIN.out⟩
 ):p:=h
theorem z10_4{p:Prop} (h:p:=by
 refine⟨World.ownsRow.drew ?_,(B9.trans (set_below hg j _)).drew⟩;have h3:=owns_set (j:=j) O9 y1;rw[hCh.out,<-hy1.out];rw[List.length_set]at h3;exact h3
 ):p:=h
theorem z10_8{p:Prop} (h:p:=by
 rw[World.ownsRow.cellAt O9 j Zo,List.getElem?_map,List.getElem?_eq_getElem hjl,co_lt hjl];rfl
 ):p:=h
theorem changed_any{w:World}{v:Value}{p:List UInt8}(hp:Rd w v p)(h1:1<=p.length)(h2:p.length<=100000){at_:Int}(hat:(Lit.int .i64 at_).wf=true)(y:UInt8):
  Calls Tryz.prog 178 #[v,.int .i64 at_,.int .u8 ((y.toNat:Nat):Int)] w fun e w'=>∃v',e= .returned v'/\w'.ownsRow w.heap.size 5 1 v' p.length ((chB p at_ y).map vb)/\Below w.heap.size w w':=by
 obtain⟨aa,ca,rfl⟩:=hp.form;obtain⟨i0,hi,hz0,hz1,hz2⟩:=info_parts info_u8;have B1:Below w.heap.size w (w.alloc (.cells #[] 5)):=belA _ _;have O1:=own_new12 w 5;have hp1:=hp.below B1;have hsz:w.heap.size<=(w.alloc (.cells #[] 5)).heap.size:=B1.size;obtain⟨j,hj⟩:∃j,Hid (j=atN at_ p.length):=⟨_,rfl⟩;have hjl:j<p.length:=by rw[hj.out];exact Nat.mod_lt _ Zo
 have hCh:Hid (chB p at_ y=p.set j (co p j^^^y)):=by show _=_;unfold chB;rw[hj.out]
 by_cases hneg:at_<0
 ·obtain⟨M,hM⟩:∃M:Nat,at_= -((M:Int)+1):=⟨(-(at_+1)).toNat,Zo⟩;have hb:=bounds_i64 hat;have hjM:j=M%p.length:=by rw[hj.out];unfold atN;rw[if_pos hneg];congr 1;omega
  have Z1:wrap64 (at_+1)= -(M:Int):=by unfold wrap64;omega
  have Z2:wrap64 (M:Int)=(M:Int):=by unfold wrap64;omega
  have Tm:((M:Int)).tmod (p.length:Int)=(j:Int):=by rw[hjM];exact(Int.ofNat_tmod M p.length).symm
  clear hjM hM hb hat hj
  go_enter Tryz.func178,Tryz.ntmps178
  go_wp2_with (at_builtin;go_loud (refine wpList_append_rd _ rfl (.tmp 13) (.tmp 14) 42 rfl w.heap.size 5 i0 Tryz.underlying42 hi hz0 hz1 hz2 (.slice (some ⟨w.heap.size,0,none⟩) 0 0) 0 [] rfl O1 (.slice aa p.length ca) p rfl hp1 Zo hsz ?_);intro v' w9 hv9 hg9)
  have O9:w9.ownsRow w.heap.size 5 1 v' p.length (p.map vb):=by rw[Nat.zero_add,List.nil_append]at hv9;exact hv9
  have B9:Below w.heap.size w w9:=B1.grown hg9 hsz (fun q hq=>by cases hq;exact Zr);obtain⟨g9,c9,rfl,hg,_⟩:=owns_formD O9 Zo;have cj:w9.cell? ⟨g9,j,none⟩=some (.int .u8 (((co p j).toNat:Nat):Int)):=by
   exact z10_8
  have fj:w9.frozen? ⟨g9,j,none⟩=false:=World.ownsRow.frozenAt O9 j;obtain⟨y0,hy0⟩:∃y,Hid (y=co p j):=⟨_,rfl⟩;obtain⟨y1,hy1⟩:∃z,Hid (z=co p j^^^y):=⟨_,rfl⟩;have X:bits .xor .u8 (((co p j).toNat:Nat):Int) ((y.toNat:Nat):Int)=((y1.toNat:Nat):Int):=by rw[hy1.out];exact xor_u8 _ _
  rw[<-hy0.out]at cj X;have FIN:Hid ((w9.setCell ⟨g9,j,none⟩ (.int .u8 ((y1.toNat:Nat):Int))).drew.ownsRow w.heap.size 5 1 (.slice (some ⟨g9,0,none⟩) p.length c9) p.length ((chB p at_ y).map vb)/\Below w.heap.size w (w9.setCell ⟨g9,j,none⟩ (.int .u8 ((y1.toNat:Nat):Int))).drew):=by
   exact z10_4
  exact z10_2
 ·obtain⟨M,hM⟩:∃M:Nat,at_=(M:Int):=⟨at_.toNat,Zo⟩;have hjM:j=M%p.length:=by rw[hj.out];unfold atN;rw[if_neg hneg];congr 1;omega
  have Tm:((M:Int)).tmod (p.length:Int)=(j:Int):=by rw[hjM];exact(Int.ofNat_tmod M p.length).symm
  subst hM;clear hjM hat hj
  go_enter Tryz.func178,Tryz.ntmps178
  go_wp2_with (at_builtin;go_loud (refine wpList_append_rd _ rfl (.tmp 13) (.tmp 14) 42 rfl w.heap.size 5 i0 Tryz.underlying42 hi hz0 hz1 hz2 (.slice (some ⟨w.heap.size,0,none⟩) 0 0) 0 [] rfl O1 (.slice aa p.length ca) p rfl hp1 Zo hsz ?_);intro v' w9 hv9 hg9)
  have O9:w9.ownsRow w.heap.size 5 1 v' p.length (p.map vb):=by rw[Nat.zero_add,List.nil_append]at hv9;exact hv9
  have B9:Below w.heap.size w w9:=B1.grown hg9 hsz (fun q hq=>by cases hq;exact Zr);obtain⟨g9,c9,rfl,hg,_⟩:=owns_formD O9 Zo;have cj:w9.cell? ⟨g9,j,none⟩=some (.int .u8 (((co p j).toNat:Nat):Int)):=by
   exact z10_8
  have fj:w9.frozen? ⟨g9,j,none⟩=false:=World.ownsRow.frozenAt O9 j;obtain⟨y0,hy0⟩:∃y,Hid (y=co p j):=⟨_,rfl⟩;obtain⟨y1,hy1⟩:∃z,Hid (z=co p j^^^y):=⟨_,rfl⟩;have X:bits .xor .u8 (((co p j).toNat:Nat):Int) ((y.toNat:Nat):Int)=((y1.toNat:Nat):Int):=by rw[hy1.out];exact xor_u8 _ _
  rw[<-hy0.out]at cj X;have FIN:Hid ((w9.setCell ⟨g9,j,none⟩ (.int .u8 ((y1.toNat:Nat):Int))).drew.ownsRow w.heap.size 5 1 (.slice (some ⟨g9,0,none⟩) p.length c9) p.length ((chB p (M:Int) y).map vb)/\Below w.heap.size w (w9.setCell ⟨g9,j,none⟩ (.int .u8 ((y1.toNat:Nat):Int))).drew):=by
   exact z10_4
  exact z10_2
structure RefIn(w:World)(rb:Nat)(vl vw:Value)(Tl Tw:List TH)(H:Nat->Prop)(d:DkS):Prop where
 c0:w.cell? ⟨rb,0,none⟩=some (.int .i64 (d.s:Int))
 c1:w.cell? ⟨rb,1,none⟩=some vl
 c2:w.cell? ⟨rb,2,none⟩=some vw
 c3:w.cell? ⟨rb,3,none⟩=some (.bool d.dead)
 f1:w.frozen? ⟨rb,1,none⟩=false
 f2:w.frozen? ⟨rb,2,none⟩=false
 f3:w.frozen? ⟨rb,3,none⟩=false
 el:bareT Tl=heldL d.last d.s
 ew:bareT Tw=heldL d.wait d.s
 tl:ToldT w H vl Tl
 tw:ToldT w H vw Tw
 kl:CapOk vl
 kw:CapOk vw
 hr:H rb
 lt:∀k,H k->k<w.heap.size
 s2:d.s<=4096
def RefAt(w:World)(rb:Nat)(H:Nat->Prop)(d:DkS):Prop:=∃vl vw Tl Tw,RefIn w rb vl vw Tl Tw H d
def LeavesR(w:World)(rb:Nat)(H:Nat->Prop)(d':DkS)(x:Value)(e:Ending)(w':World):Prop:=e= .returned x/\RefAt w' rb H d'/\TurnG (fun k=>k=rb) w w'
section
variable {w w':World} {rb:Nat} {vl vw:Value} {Tl Tw:List TH} {H:Nat->Prop} {d:DkS}
theorem RefIn.len_l(h:RefIn w rb vl vw Tl Tw H d):Tl.length<=4096:=by
 rw[<-bareT_length,h.el];exact Nat.le_trans (heldL_length _ _) h.s2
theorem RefIn.len_w(h:RefIn w rb vl vw Tl Tw H d):Tw.length<=4096:=by
 rw[<-bareT_length,h.ew];exact Nat.le_trans (heldL_length _ _) h.s2
theorem RefIn.below(h:RefIn w rb vl vw Tl Tw H d)(hb:Below w.heap.size w w'):RefIn w' rb vl vw Tl Tw H d:=
 have l:=h.lt rb h.hr
 ⟨(hb.cell (p:=⟨rb,0,none⟩) l).trans h.c0,(hb.cell (p:=⟨rb,1,none⟩) l).trans h.c1,(hb.cell (p:=⟨rb,2,none⟩) l).trans h.c2,(hb.cell (p:=⟨rb,3,none⟩) l).trans h.c3,
  (hb.frozen (p:=⟨rb,1,none⟩) l).trans h.f1,(hb.frozen (p:=⟨rb,2,none⟩) l).trans h.f2,(hb.frozen (p:=⟨rb,3,none⟩) l).trans h.f3,h.el,h.ew,h.tl.below hb,h.tw.below hb,h.kl,h.kw,h.hr,fun k hk=>Zu (h.lt k hk) hb.size,h.s2⟩
theorem RefAt.below(h:RefAt w rb H d)(hb:Below w.heap.size w w'):RefAt w' rb H d:=by
 obtain⟨vl,vw,Tl,Tw,h⟩:=h;exact⟨vl,vw,Tl,Tw,h.below hb⟩
theorem setR_grew(hr:H rb)(j:Nat)(v:Value):Grew H w H (w.setCell ⟨rb,j,none⟩ v):=Grew.of_turn (Only.turnG ((Only.refl rb w).setCell j v) hr)
theorem RefIn.setW(h:RefIn w rb vl vw Tl Tw H d){v:Value}{T:List TH}{f:Int->Option (List UInt8)}(ht:ToldT w H v T)(hk:CapOk v)(he:bareT T=heldL f d.s):RefIn (w.setCell ⟨rb,2,none⟩ v) rb vl v Tl T H {d with wait:=f}:=by
 have g:=setR_grew (w:=w) h.hr 2 v;have c2:=h.c2;have f1:=h.f1;have f2:=h.f2;have f3:=h.f3;refine⟨?_,?_,?_,?_,by simp[go_sem,f1],by simp[go_sem,f2],by simp[go_sem,f3],h.el,he,h.tl.grew g,ht.grew g,h.kl,hk,h.hr,fun k hk=>by simpa using h.lt k hk,h.s2⟩
 ·rw[<-h.c0];simp[go_sem]
 ·rw[<-h.c1];simp[go_sem]
 ·simp[go_sem,c2]
 ·rw[<-h.c3];simp[go_sem]
theorem RefIn.setL(h:RefIn w rb vl vw Tl Tw H d){v:Value}{T:List TH}{f:Int->Option (List UInt8)}(ht:ToldT w H v T)(hk:CapOk v)(he:bareT T=heldL f d.s):RefIn (w.setCell ⟨rb,1,none⟩ v) rb v vw T Tw H {d with last:=f}:=by
 have g:=setR_grew (w:=w) h.hr 1 v;have c1:=h.c1;have f1:=h.f1;have f2:=h.f2;have f3:=h.f3;refine⟨?_,?_,?_,?_,by simp[go_sem,f1],by simp[go_sem,f2],by simp[go_sem,f3],he,h.ew,ht.grew g,h.tw.grew g,hk,h.kw,h.hr,fun k hk=>by simpa using h.lt k hk,h.s2⟩
 ·rw[<-h.c0];simp[go_sem]
 ·simp[go_sem,c1]
 ·rw[<-h.c2];simp[go_sem]
 ·rw[<-h.c3];simp[go_sem]
theorem RefIn.setD(h:RefIn w rb vl vw Tl Tw H d)(x:Bool):RefIn (w.setCell ⟨rb,3,none⟩ (.bool x)) rb vl vw Tl Tw H {d with dead:=x}:=by
 have g:=setR_grew (w:=w) h.hr 3 (.bool x);have c3:=h.c3;have f1:=h.f1;have f2:=h.f2;have f3:=h.f3;refine⟨?_,?_,?_,?_,by simp[go_sem,f1],by simp[go_sem,f2],by simp[go_sem,f3],h.el,h.ew,h.tl.grew g,h.tw.grew g,h.kl,h.kw,h.hr,fun k hk=>by simpa using h.lt k hk,h.s2⟩
 ·rw[<-h.c0];simp[go_sem]
 ·rw[<-h.c1];simp[go_sem]
 ·rw[<-h.c2];simp[go_sem]
 ·simp[go_sem,c3]
theorem told_nil(w:World)(H:Nat->Prop):ToldT w H (.slice none 0 0) []:=⟨Or.inl ⟨none,0,rfl,rfl⟩,ApartG.nil _ _ _,fun t ht=>by cases ht⟩
theorem cap_nil:CapOk (.slice none 0 0):=fun a n c e=>by simp at e;obtain⟨rfl,rfl,rfl⟩:=e;exact⟨Zr,fun _=>rfl⟩
theorem turnR_set(j:Nat)(v:Value):TurnG (fun k=>k=rb) w (w.setCell ⟨rb,j,none⟩ v):=Only.turnG ((Only.refl rb w).setCell j v) rfl
theorem z10_5{p:Prop} (h:p:=by
 rw[e];clear e
 go_enter Tryz.func170,Tryz.ntmps170
 go_wp2;go_ret;exact⟨rfl,rfl⟩
 ):p:=h
theorem rfault_any(h:RefIn w rb vl vw Tl Tw H d){a:Int}:Calls Tryz.prog 170 #[.pointer (some ⟨rb,0,none⟩),.int .i64 a] w fun e w'=>e= .returned (.int .i64 (faX d a))/\w'=w:=by
 have c0:=h.c0;have c3:=h.c3;clear h;cases hd:d.dead with
 |true=>
  have e:=faX_dead hd a;rw[hd]at c3;rw[e];clear e
  go_enter Tryz.func170,Tryz.ntmps170
  go_wp2;go_ret;exact⟨rfl,rfl⟩
 |false=>
  rw[hd]at c3
  by_cases h0:0<=a
  ·have h0':¬a<0:=by omega
   by_cases h1:a<(d.s:Int)
   ·have e:=faX_ok hd ⟨h0,h1⟩;have h1':¬a>=(d.s:Int):=by omega
    exact z10_5
   ·have e:=faX_out hd (a:=a) (fun h=>h1 h.2);have h1':a>=(d.s:Int):=by omega
    exact z10_5
  ·have e:=faX_out hd (a:=a) (fun h=>h0 h.1);have h0':a<0:=by omega
   exact z10_5
theorem rfail_any(h:RefIn w rb vl vw Tl Tw H d):Calls Tryz.prog 147 #[.pointer (some ⟨rb,0,none⟩)] w (LeavesR w rb H (faS d) (.tuple #[])):=by
 have I1:=h.setD true;have I2:=I1.setL (told_nil _ H) cap_nil (f:=noneI) (by rw[heldL_none];rfl);have I3:=I2.setW (told_nil _ H) cap_nil (f:=noneI) (by rw[heldL_none];rfl);have FIN:Hid (RefAt (((w.setCell ⟨rb,3,none⟩ (.bool true)).setCell ⟨rb,1,none⟩ (.slice none 0 0)).setCell ⟨rb,2,none⟩ (.slice none 0 0)) rb H (faS d)/\TurnG (fun k=>k=rb) w (((w.setCell ⟨rb,3,none⟩ (.bool true)).setCell ⟨rb,1,none⟩ (.slice none 0 0)).setCell ⟨rb,2,none⟩ (.slice none 0 0))):=⟨⟨_,_,_,_,I3⟩,((turnR_set 3 _).trans (turnR_set 1 _)).trans (turnR_set 2 _)⟩;have c1:=h.c1;have c2:=h.c2;have c3:=h.c3;have f1:=h.f1;have f2:=h.f2;have f3:=h.f3;clear I1 I2 I3 h
 go_enter Tryz.func147,Tryz.ntmps147
 go_wp2
 go_end0
 exact⟨rfl,FIN.out⟩
theorem rrepl_any(h:RefIn w rb vl vw Tl Tw H d):Calls Tryz.prog 148 #[.pointer (some ⟨rb,0,none⟩)] w (LeavesR w rb H (reS d) (.tuple #[])):=by
 have I1:=h.setD false;have I2:=I1.setL (told_nil _ H) cap_nil (f:=noneI) (by rw[heldL_none];rfl);have I3:=I2.setW (told_nil _ H) cap_nil (f:=noneI) (by rw[heldL_none];rfl);have FIN:Hid (RefAt (((w.setCell ⟨rb,3,none⟩ (.bool false)).setCell ⟨rb,1,none⟩ (.slice none 0 0)).setCell ⟨rb,2,none⟩ (.slice none 0 0)) rb H (reS d)/\TurnG (fun k=>k=rb) w (((w.setCell ⟨rb,3,none⟩ (.bool false)).setCell ⟨rb,1,none⟩ (.slice none 0 0)).setCell ⟨rb,2,none⟩ (.slice none 0 0))):=⟨⟨_,_,_,_,I3⟩,((turnR_set 3 _).trans (turnR_set 1 _)).trans (turnR_set 2 _)⟩;have c1:=h.c1;have c2:=h.c2;have c3:=h.c3;have f1:=h.f1;have f2:=h.f2;have f3:=h.f3;clear I1 I2 I3 h
 go_enter Tryz.func148,Tryz.ntmps148
 go_wp2
 go_end0
 exact⟨rfl,FIN.out⟩
end
theorem rnew_any{w:World}{n:Int}(h1:1<=n)(h2:n<=4096):Calls Tryz.prog 34 #[.int .i64 n] w fun e w'=>e= .returned (.tuple #[.pointer (some ⟨w.heap.size,0,none⟩),.int .i64 0])/\w'=w.alloc (.cells #[.int .i64 n,.slice none 0 0,.slice none 0 0,.bool false] 105):=by
 have g1:¬n<1:=Zo
 have g2:¬n>4096:=Zo
 go_enter Tryz.func34,Tryz.ntmps34
 go_wp2;refine bodyPost_ret (v:=.tuple #[.pointer (some ⟨w.heap.size,0,none⟩),.int .i64 0]) (by simp[results,Tryz.results34,go_sem]) rfl ?_
 exact⟨rfl,rfl⟩
theorem run_append_b{P:Program}(w:World)(t ty:TypeId)(base:Nat)(e:TypeId)(i:TypeInfo)(ht:P.underlying t=some (.slice e))(hi:P.info? e=some i)(hz:i.zero=some (.int .u8 0))(hsize:i.size=1)(hby:i.bytes=1)
  (v:Value) (n:Nat) (xs:List Value) (hown:w.ownsRow base e 1 v n xs) (va:Value) (p:List UInt8) (hr:Rd w va p) (hl:n+p.length<=1000000) (hbase:base<=w.heap.size):
  ∃v' w',(Builtin.append_ #[t,t] ty #[v,va]).run P w= .ok v' w'/\w'.ownsRow base e 1 v' (n+p.length) (xs++p.map vb)/\w.grownBy w' v.ownBlock:=by
 rcases hr with⟨ao,cap,rfl,rfl,hc,hn⟩|⟨b,off,cap,hp0,rfl,h1,h2,h3,hpc⟩
 ·rcases ao with _|ad
  ·have:=hn rfl;subst this;exact⟨v,w,run_append_owned_none (P:=P) (w:=w) base t ty e i 1 ht hi v n xs hown,by simpa using hown,World.grownBy.refl _ _⟩
  ·obtain⟨v',w',hr,h2,h3,_⟩:=run_append_own_at (P:=P) w base t ty e i (.int .u8 0) 1 1 ht hi hz hsize hby rfl Zd v n xs hown ad 0 cap [] rfl (by intro j u hj;simp at hj) (by intro u hu;simp at hu) Zl Zo hbase;exact⟨v',w',hr,by simpa using h2,h3⟩
 ·obtain⟨v',w',hr,h2,h3,_⟩:=run_append_own_at (P:=P) w base t ty e i (.int .u8 0) 1 1 ht hi hz hsize hby rfl Zd v n xs hown ⟨b,off,none⟩ p.length cap ((p.take p.length).map vb) Zs (news_of hpc) (vb_one _) Zl Zo hbase;exact⟨v',w',hr,by simpa using h2,h3⟩
theorem step_append_b{P:Program}{w:World}{ops:Array Oper}{o:Oper}{a:Act}{K:Act->World->Prop}{Q:Exit->Act->World->Prop}{E:Prop}(hgd:o.guard=none)(s x:Operand)(t:TypeId)
  (ho:o.op= .call {callee:=.builtin .append,args:=#[s,x],argTypes:=#[t,t]})
  (base:Nat) (e:TypeId) (i:TypeInfo) (ht:P.underlying t=some (.slice e)) (hi:P.info? e=some i) (hz:i.zero=some (.int .u8 0)) (hsize:i.size=1) (hby:i.bytes=1)
  (v:Value) (n:Nat) (xs:List Value) (hs:a.eval s=v) (hown:w.ownsRow base e 1 v n xs) (va:Value) (p:List UInt8) (hx:a.eval x=va) (hr:Rd w va p) (hl:n+p.length<=1000000) (hbase:base<=w.heap.size)
  (h:∀v' w',w'.ownsRow base e 1 v' (n+p.length) (xs++p.map vb)->w.grownBy w' v.ownBlock->K (a.put o.dst v') w'):
  if Region.wanted o (yielded ops a.tmps)=true then Oper.wp P o a w K Q else E:=by
 have hw:Region.wanted o (yielded ops a.tmps)=true:=by simp[Region.wanted,hgd]
 rw[if_pos hw];obtain⟨v',w',hrun,h2,h3⟩:=run_append_b w t o.type base e i ht hi hz hsize hby v n xs hown va p hr hl hbase;unfold Oper.wp execOp;simp only[ho,resolve,invoke,builtin,Sem.run_bind,Sem.run_pure,Result.andThen_ok,List.map_toArray,List.map_cons,List.map_nil,hs,hx,hrun];exact h v' w' h2 h3
section
variable {w w':World} {rb:Nat} {vl vw:Value} {Tl Tw:List TH} {H:Nat->Prop} {d:DkS}
def WithH(w:World)(H:Nat->Prop)(f:Int->Option (List UInt8))(s:Nat)(e:Ending)(w':World):Prop:=∃v T,e= .returned v/\ToldT w' H v T/\CapOk v/\bareT T=heldL f s/\Below w.heap.size w w'
theorem with_is{v:Value}{T:List TH}{f:Int->Option (List UInt8)}{s:Nat}(ht:ToldT w H v T)(hc:CapOk v)(he:bareT T=heldL f s)(hs:s<=4096)(hl:∀k,H k->k<w.heap.size){x:Int}(h0:0<=x)(h1:x<(s:Int)){p:List UInt8}{vb:Value}(hp:Told w H vb p):
  Calls Tryz.prog 171 #[v,.agg #[.int .i64 x,vb]] w (WithH w H (putB f x p) s):=by
 obtain⟨k0,k1,hk,hlo,hhi,hb⟩:=with_place he h0 h1 p vb;have hlen:T.length<=4096:=by rw[<-bareT_length,he];exact Nat.le_trans (heldL_length _ _) hs
 refine(with_any ht.rd hc hp.rd Zo k0 k1 hk hlo hhi).mono ?_
 rintro e w' ⟨v',rfl,hrow,hbel⟩;have hmem:∀t∈T.take k0++(x,p,vb)::T.drop k1,(t∈T∨t=(x,p,vb)):=by
  intro t ht2
  rcases List.mem_append.1 ht2 with h|h
  ·exact Or.inl (List.mem_of_mem_take h)
  ·rcases List.mem_cons.1 h with h|h
   ·exact Or.inr h
   ·exact Or.inl (List.mem_of_mem_drop h)
 have hlen2:(T.take k0++(x,p,vb)::T.drop k1).length<=100000:=Zm
 refine⟨v',_,rfl,⟨rdT_row hrow (fun t ht2=>?_) hlen2,?_,fun t ht2=>?_⟩,cap_row hrow,hb,hbel⟩
 ·rcases hmem t ht2 with h|h
  ·exact(ht.rd.each t h).below hbel
  ·rw[h];exact hp.rd.below hbel
 ·intro y n c e;right;intro hg;have h2:=row_at hrow (g:=y.block) (by rw[e];rfl);have h3:=hl _ hg;omega
 ·rcases hmem t ht2 with h|h
  ·exact ht.each t h
  ·rw[h];exact hp.ap
theorem z10_3{p:Prop} (h:p:=by
 go_enter Tryz.func132,Tryz.ntmps132
 go_wp2_with fail
 refine K.mono ?_
 rintro _ wq ⟨rfl,hwq⟩;rw[hwq];clear hwq wq K;go_wp2;go_ret;exact⟨rfl,FIN.out⟩
 ):p:=h
theorem rwrite_any(h:RefIn w rb vl vw Tl Tw H d){a:Int}{v:Value}{p:List UInt8}(hp:Rd w v p):
  Calls Tryz.prog 132 #[.pointer (some ⟨rb,0,none⟩),.int .i64 a,v] w (LeavesR w rb H (wrS d a p) (.int .i64 (wrX d a p))):=by
 have K:=rfault_any h (a:=a);have hpl:=hp.len;obtain⟨ad,cp,rfl⟩:=hp.form;obtain⟨i0,hi,hz0,hz1,hz2⟩:=info_parts info_u8
 by_cases hf:faX d a=0
 ·by_cases hb:OkB p
  ·have eX:wrX d a p=0:=by unfold wrX;rw[if_pos hf,if_pos hb]
   obtain⟨hb1,hb2⟩:=hb;have q0:¬(p.length:Int)<1:=Zo
   have q3:¬(p.length:Int)>4108:=Zo
   have c2:=h.c2;rw[eX];rw[hf]at K
   go_enter Tryz.func132,Tryz.ntmps132
   go_wp2_with fail
   refine K.mono ?_
   rintro _ wq ⟨rfl,hwq⟩;rw[hwq];clear hwq wq
   go_wp2_with fail
   obtain⟨fz1,fz2,fz3⟩:=faX_zero hf;have bA:Below w.heap.size w (w.alloc (.cells #[] 5)).drew:=(belA _ _).drew;have oA:(w.alloc (.cells #[] 5)).drew.ownsRow w.heap.size 5 1 (.slice (some ⟨w.heap.size,0,none⟩) 0 0) 0 []:=World.ownsRow.drew (own_new12 w 5);have pA:=hp.below bA;have hl0:0+p.length<=1000000:=Zo
   have c0:=h.c0;have c0A:=(h.below bA).c0;have c2A:=(h.below bA).c2;have eS:{d with wait:=putB d.wait a p}=wrS d a p:=by unfold wrS;rw[if_pos ⟨hf,hb1,hb2⟩]
   clear K eX
   go_region_law (first
    |(refine step_append_b rfl (.tmp 28) (.tmp 29) 42 rfl w.heap.size 5 i0 Tryz.underlying42 hi hz0 hz1 hz2 (.slice (some ⟨w.heap.size,0,none⟩) 0 0) 0 [] rfl oA _ p rfl pA hl0 bA.size ?_;intro v4 w4 h4 g4;have C4:Below w.heap.size w w4:=bA.grown g4 bA.size (fun q hq=>by cases hq;exact Zr);have I4:=h.below C4;have O4:w4.ownsRow w.heap.size 5 1 v4 p.length (p.map vb):=(by rw[Nat.zero_add,List.nil_append]at h4;exact h4);have T4:Told w4 H v4 p:=⟨Rd.owned O4,ApartG.own O4 h.lt⟩;have c04:=I4.c0;have c24:=I4.c2;obtain⟨a4,k4,rfl⟩:=owns_slice O4)
    |(go_simp;go_at_call 171;(refine(with_is I4.tw h.kw h.ew h.s2 I4.lt fz2 fz3 T4).mono ?_);rintro _ w5 ⟨v5,T5,rfl,t5,k5,e5,b5⟩;have I5:=I4.below b5;have c05:=I5.c0;have c25:=I5.c2;have f25:=I5.f2;have I6:=I5.setW t5 k5 e5;have c06:=I6.c0;have B5:=C4.step12 b5 C4.size;obtain⟨a5,m5,rfl⟩:=t5.rd.form;dsimp only))
   all_goals
    have FIN:Hid (RefAt (w5.setCell ⟨rb,2,none⟩ (.slice a5 T5.length m5)) rb H (wrS d a p)/\TurnG (fun k=>k=rb) w (w5.setCell ⟨rb,2,none⟩ (.slice a5 T5.length m5))):=⟨⟨_,_,_,_,by rw[<-eS];exact I6⟩,(Below.turnG B5 _).trans (turnR_set 2 _)⟩;clear I6 c06 c05 c25 f25 I5 b5 t5 k5 e5 B5 c04 c24 T4 O4 I4 C4 g4 h4 h hp pA oA bA c0 c0A c2A c2 eS;go_wp2;go_ret;exact⟨rfl,FIN.out⟩
  ·have eX:wrX d a p=1:=by unfold wrX;rw[if_pos hf,if_neg hb]
   have eS:wrS d a p=d:=by unfold wrS;rw[if_neg (fun h=>hb h.2)]
   have FIN:Hid (RefAt w rb H (wrS d a p)/\TurnG (fun k=>k=rb) w w):=by
    show _/\_
    rw[eS];exact⟨⟨_,_,_,_,h⟩,TurnG.refl _ _⟩
   rw[eX];rw[hf]at K;clear eX eS h hp
   by_cases g1:p.length<1
   ·have q0:(p.length:Int)<1:=by omega
    exact z10_3
   ·have q0:¬(p.length:Int)<1:=by omega
    have q3:(p.length:Int)>4108:=by have:¬(1<=p.length/\p.length<=4108):=hb;omega
    exact z10_3
 ·have eX:wrX d a p=faX d a:=by unfold wrX;rw[if_neg hf]
  have eS:wrS d a p=d:=by unfold wrS;rw[if_neg (fun h=>hf h.1)]
  have FIN:Hid (RefAt w rb H (wrS d a p)/\TurnG (fun k=>k=rb) w w):=by
   show _/\_
   rw[eS];exact⟨⟨_,_,_,_,h⟩,TurnG.refl _ _⟩
  rw[eX];obtain⟨x,hx⟩:∃x,x=faX d a:=⟨_,rfl⟩;rw[<-hx]at hf K ⊢;clear eX eS h hp hx;have q1:(x==0)=false:=Zq.2 hf;exact z10_3
def TellsR(w:World)(x:Int)(p:List UInt8)(e:Ending)(w':World):Prop:=∃v,e= .returned (.tuple #[v,.int .i64 x])/\Rd w' v p/\Below w.heap.size w w'
def TellsF(w:World)(x:Int)(p:List UInt8)(e:Ending)(w':World):Prop:=∃v,e= .returned (.tuple #[v,.int .i64 x])/\Rd w' v p/\FarV w v/\Below w.heap.size w w'
theorem TellsF.r{w w':World}{x:Int}{p:List UInt8}{e:Ending}(h:TellsF w x p e w'):TellsR w x p e w':=by
 obtain⟨v,h1,h2,_,h3⟩:=h;exact⟨v,h1,h2,h3⟩
theorem ref_look(h:RefIn w rb vl vw Tl Tw H d)(ok:d.Ok)(x:Int):lookL (bareT Tw) x=d.wait x/\lookL (bareT Tl) x=d.last x:=by
 rw[h.ew,h.el];exact⟨lookL_held ok.iw x,lookL_held ok.il x⟩
theorem z10_1{p:Prop} (h:p:=by
 go_wp2_with (first|(at_builtin;go_loud (refine wpList_append_rd _ rfl _ _ 42 rfl w.heap.size 5 i0 Tryz.underlying42 hi hz0 hz1 hz2 (.slice (some ⟨w.heap.size,0,none⟩) 0 0) 0 [] rfl oA (.slice ta t2.length tc) t2 rfl r9 hl9 bA.size ?_);intro v4 w4 h4 g4))
 have FIN:Hid (Rd w4 v4 t2/\FarV w v4/\Below w.heap.size w w4):=by
  rw[Nat.zero_add,List.nil_append]at h4;exact⟨Rd.owned h4,FarV.own h4,bA.grown g4 bA.size (fun q hq=>by cases hq;exact Zr)⟩
 clear h4 g4 oA r9;go_wp2;refine bodyPost_ret (v:=.tuple #[v4,.int .i64 0]) (by simp[results,Tryz.results135,go_sem]) rfl ?_
 exact⟨_,rfl,by rw[<-HT2.out];exact FIN.out⟩
 ):p:=h
theorem z10_6{p:Prop} (h:p:=by
 have e:=x1;unfold World.cell? at e
 by_cases hb:b<w.heap.size
 ·exact hb
 ·rw[Array.getElem?_eq_none (by show w.heap.size<=b;omega)]at e;cases e
 ):p:=h
theorem z10_7{p:Prop} (h:p:=by
 exact⟨_,rfl,Or.inl ⟨none,0,rfl,rfl,Zz,fun _=>rfl⟩,FarV.nil _ _ _,Zf⟩
 ):p:=h
theorem rread_far(h:RefIn w rb vl vw Tl Tw H d)(ok:d.Ok){a:Int}:Calls Tryz.prog 135 #[.pointer (some ⟨rb,0,none⟩),.int .i64 a] w (TellsF w (faX d a) (rdB d a)):=by
 have K:=rfault_any h (a:=a);obtain⟨i0,hi,hz0,hz1,hz2⟩:=info_parts info_u8;have c1:=h.c1;have c2:=h.c2;have KW:=find_any h.tw.rd (x:=a);have KL:=find_any h.tl.rd (x:=a);obtain⟨LW,LL⟩:=ref_look h ok a
 by_cases hf:faX d a=0
 ·have eR:rdB d a=(atD d a).getD []:=by unfold rdB;rw[if_pos hf]
  rw[hf]at K ⊢;rw[eR];obtain⟨aw,cw,rfl⟩:=h.tw.rd.form;obtain⟨al,cl,rfl⟩:=h.tl.rd.form;cases hw:d.wait a with
  |some p=>
   have eA:(atD d a).getD []=p:=by unfold atD;rw[hw];rfl
   rw[eA];rw[hw]at LW
   go_enter Tryz.func135,Tryz.ntmps135
   go_wp2_with fail
   refine K.mono ?_
   rintro _ wq ⟨rfl,hwq⟩;rw[hwq];clear hwq wq K
   go_wp2_with fail
   refine KW.mono ?_
   rintro _ wq ⟨hwq,⟨rfl,e1⟩|⟨k,rfl,hk,e1⟩⟩
   ·rw[LW]at e1;cases e1
   ·rw[hwq];rw[LW]at e1;cases e1;clear hwq wq KW KL;obtain⟨b,off,rfl,x0,x1,r1⟩:=h.tw.rd.at hk;have hkw:=h.len_w;have hk':(k:Int)<(Tw.length:Int):=by omega
    have hk0:(k:Int)>=0:=Zo
    have hin:(Tw.getD k default).2.1.length<=100000:=by
     have h5:=ok.iw a _ hw;omega
    obtain⟨t3,ht3⟩:∃t,t=(Tw.getD k default).2.2:=⟨_,rfl⟩;obtain⟨t2,ht2⟩:∃t,t=(Tw.getD k default).2.1:=⟨_,rfl⟩;rw[<-ht3]at x1 r1;rw[<-ht2]at r1 hin;obtain⟨ta,tc,rfl⟩:=r1.form;have bA:Below w.heap.size w (w.alloc (.cells #[] 5)):=belA _ _;have HT2:Hid _:=ht2;have oA:=own_new12 w 5;have I1:=h.below bA;have y2:=I1.c2;have hlt:b<w.heap.size:=by
     exact z10_6
    have y9:=(bA.cell (p:=⟨b,off+k*2+1,none⟩) hlt).trans x1;have r9:=r1.below bA;have hl9:0+t2.length<=1000000:=Zo
    clear h LW LL hw x0 x1 r1 I1 ht3 ht2 eR eA;exact z10_1
  |none=>
   rw[hw]at LW;cases hl:d.last a with
   |some p=>
    have eA:(atD d a).getD []=p:=by unfold atD;rw[hw,hl];rfl
    rw[eA];rw[hl]at LL
    go_enter Tryz.func135,Tryz.ntmps135
    go_wp2_with fail
    refine K.mono ?_
    rintro _ wq ⟨rfl,hwq⟩;rw[hwq];clear hwq wq K
    go_wp2_with fail
    refine KW.mono ?_
    rintro _ wq ⟨hwq,⟨rfl,e1⟩|⟨k,rfl,hk,e1⟩⟩
    ·rw[hwq];clear hwq wq KW e1
     go_wp2_with fail
     refine KL.mono ?_
     rintro _ wq ⟨hwq,⟨rfl,e1⟩|⟨k,rfl,hk,e1⟩⟩
     ·rw[LL]at e1;cases e1
     ·rw[hwq];rw[LL]at e1;cases e1;clear hwq wq KL;obtain⟨b,off,rfl,x0,x1,r1⟩:=h.tl.rd.at hk;have hkw:=h.len_l;have hk':(k:Int)<(Tl.length:Int):=by omega
      have hk0:(k:Int)>=0:=Zo
      have hin:(Tl.getD k default).2.1.length<=100000:=by
       have h5:=ok.il a _ hl;omega
      obtain⟨t3,ht3⟩:∃t,t=(Tl.getD k default).2.2:=⟨_,rfl⟩;obtain⟨t2,ht2⟩:∃t,t=(Tl.getD k default).2.1:=⟨_,rfl⟩;rw[<-ht3]at x1 r1;rw[<-ht2]at r1 hin;obtain⟨ta,tc,rfl⟩:=r1.form;have bA:Below w.heap.size w (w.alloc (.cells #[] 5)):=belA _ _;have HT2:Hid _:=ht2;have oA:=own_new12 w 5;have I1:=h.below bA;have y1:=I1.c1;have hlt:b<w.heap.size:=by
       exact z10_6
      have y9:=(bA.cell (p:=⟨b,off+k*2+1,none⟩) hlt).trans x1;have r9:=r1.below bA;have hl9:0+t2.length<=1000000:=Zo
      clear h LW LL hw x0 x1 r1 I1 ht3 ht2 eR eA hl;exact z10_1
    ·rw[LW]at e1;cases e1
   |none=>
    have eA:(atD d a).getD []=[]:=by unfold atD;rw[hw,hl];rfl
    rw[eA];rw[hl]at LL
    go_enter Tryz.func135,Tryz.ntmps135
    go_wp2_with fail
    refine K.mono ?_
    rintro _ wq ⟨rfl,hwq⟩;rw[hwq];clear hwq wq K
    go_wp2_with fail
    refine KW.mono ?_
    rintro _ wq ⟨hwq,⟨rfl,e1⟩|⟨k,rfl,hk,e1⟩⟩
    ·rw[hwq];clear hwq wq KW e1
     go_wp2_with fail
     refine KL.mono ?_
     rintro _ wq ⟨hwq,⟨rfl,e1⟩|⟨k,rfl,hk,e1⟩⟩
     ·rw[hwq];clear hwq wq KL e1;go_wp2;refine bodyPost_ret (v:=.tuple #[.slice none 0 0,.int .i64 0]) (by simp[results,Tryz.results135,go_sem]) rfl ?_
      exact z10_7
     ·rw[LL]at e1;cases e1
    ·rw[LW]at e1;cases e1
 ·have eR:rdB d a=[]:=by unfold rdB;rw[if_neg hf]
  rw[eR];obtain⟨x,hx⟩:∃x,x=faX d a:=⟨_,rfl⟩;rw[<-hx]at hf K ⊢;clear eR h hx KW KL;have q1:(x==0)=false:=Zq.2 hf
  go_enter Tryz.func135,Tryz.ntmps135
  go_wp2_with fail
  refine K.mono ?_
  rintro _ wq ⟨rfl,hwq⟩;rw[hwq];clear hwq wq K;go_wp2;refine bodyPost_ret (v:=.tuple #[.slice none 0 0,.int .i64 x]) (by simp[results,Tryz.results135,go_sem]) rfl ?_
  exact z10_7
end
def putsL(f:Int->Option (List UInt8))(M:List (Int×List UInt8)):Int->Option (List UInt8):=M.foldl (fun f t=>putB f t.1 t.2) f
theorem putsL_none{M:List (Int×List UInt8)}{y:Int}(h:∀t∈M,t.1≠y)(f:Int->Option (List UInt8)):putsL f M y=f y:=by
 induction M generalizing f with
 |nil=>rfl
 |cons t M ih=>
  show putsL (putB f t.1 t.2) M y=f y
  rw[ih (fun u hu=>h u (List.mem_cons_of_mem _ hu))];exact if_neg (fun e=>h t (List.mem_cons_self ..) e.symm)
theorem putsL_some{M:List (Int×List UInt8)}(hs:Sorted12 M){y:Int}{b:List UInt8}(h:(y,b)∈M)(f:Int->Option (List UInt8)):putsL f M y=some b:=by
 induction M generalizing f with
 |nil=>cases h
 |cons t M ih=>
  obtain⟨h1,h2⟩:=List.pairwise_cons.1 hs
  show putsL (putB f t.1 t.2) M y=some b
  rcases List.mem_cons.1 h with e|h3
  ·subst e;rw[putsL_none (fun u hu=>by have:=h1 u hu;simp at this;omega)];exact if_pos rfl
  ·exact ih h2 h3 _
theorem puts_all{f:Int->Option (List UInt8)}{g:Int->Option (List UInt8)}{s:Nat}(hg:InS s g)(y:Int):putsL f (heldL g s) y=overB g f y:=by
 unfold overB;cases hy:g y with
 |some b=>exact putsL_some (heldL_sorted g s) (heldL_mem.2 ⟨(hg y b hy).1,(hg y b hy).2.1,hy⟩) f
 |none=>
  refine putsL_none (fun t ht e=>?_) f;have:=(heldL_mem (x:=t.1) (b:=t.2)).1 ht;rw[e,hy]at this;cases this.2.2
theorem held_only(g:Int->Option (List UInt8))(K:List Int)(s:Nat):(heldL g s).filter (fun t=>decide (t.1∈K))=heldL (onlyB g K) s:=by
 refine sorted_ext ((heldL_sorted g s).filter _) (heldL_sorted _ _) fun z=>?_
 obtain⟨y,q⟩:=z;rw[List.mem_filter,heldL_mem,heldL_mem];unfold onlyB
 by_cases h:y∈K
 ·simp[h]
 ·simp[h]
theorem puts_snoc(f:Int->Option (List UInt8))(M:List (Int×List UInt8))(t:Int×List UInt8):putsL f (M++[t])=putB (putsL f M) t.1 t.2:=by unfold putsL;rw[List.foldl_append];rfl
theorem take_snoc{M:List (Int×List UInt8)}{i:Nat}(h:i<M.length):M.take (i+1)=M.take i++[M[i]]:=by rw[List.take_add_one,List.getElem?_eq_getElem h];rfl
section
variable {w w':World} {rb:Nat} {vl vw:Value} {Tl Tw:List TH} {H:Nat->Prop} {d:DkS}
def FlR(w0:World)(rb:Nat)(vw:Value)(Tw:List TH)(H:Nat->Prop)(d:DkS)(f:Int->Option (List UInt8))(wr:World):Prop:=∃vl Tl,RefIn wr rb vl vw Tl Tw H {d with last:=f}/\TurnG (fun k=>k=rb) w0 wr
theorem RefIn.entry(h:RefIn w rb vl vw Tl Tw H d){i:Nat}(hi:i<Tw.length):∃hi2:i<(heldL d.wait d.s).length,(heldL d.wait d.s)[i]=((Tw.getD i default).1,(Tw.getD i default).2.1)/\0<=(Tw.getD i default).1/\(Tw.getD i default).1<(d.s:Int):=by
 have hi2:i<(heldL d.wait d.s).length:=by rw[<-h.ew,bareT_length];exact hi
 have hi3:i<(bareT Tw).length:=by rw[bareT_length];exact hi
 have e:(heldL d.wait d.s)[i]=(bareT Tw)[i]:=by simp only[h.ew]
 rw[bare_at hi3]at e;have hm:((Tw.getD i default).1,(Tw.getD i default).2.1)∈heldL d.wait d.s:=by rw[<-e];exact List.getElem_mem hi2
 have:=heldL_mem.1 hm;exact⟨hi2,e,this.1,this.2.1⟩
theorem rflush_any(h:RefIn w rb vl vw Tl Tw H d)(ok:d.Ok):Calls Tryz.prog 134 #[.pointer (some ⟨rb,0,none⟩)] w (LeavesR w rb H (flS d) (.int .i64 (flX d))):=by
 have c3:=h.c3;cases hd:d.dead with
 |true=>
  have e1:flX d=120:=if_pos hd;have FIN:Hid (RefAt w rb H (flS d)/\TurnG (fun k=>k=rb) w w):=by
   show _/\_
   rw[show flS d=d from if_pos hd];exact⟨⟨_,_,_,_,h⟩,TurnG.refl _ _⟩
  rw[hd]at c3;rw[e1];clear e1 h
  go_enter Tryz.func134,Tryz.ntmps134
  go_wp2;go_ret;exact⟨rfl,FIN.out⟩
 |false=>
  have e1:flX d=0:=by unfold flX;rw[if_neg (by rw[hd];decide)]
  rw[hd]at c3;rw[e1];have START:Hid (FlR w rb vw Tw H d (putsL d.last ((heldL d.wait d.s).take 0)) w):=⟨vl,Tl,h,TurnG.refl _ _⟩;have ENT:Hid (∀i,i<Tw.length->∃hi2:i<(heldL d.wait d.s).length,(heldL d.wait d.s)[i]=((Tw.getD i default).1,(Tw.getD i default).2.1)/\0<=(Tw.getD i default).1/\(Tw.getD i default).1<(d.s:Int)):=fun i hi=>h.entry hi
  have hlw:=h.len_w;obtain⟨aw,cw,rfl⟩:=h.tw.rd.form;have hel:Hid (Tw.length=(heldL d.wait d.s).length):=by show _=_;rw[<-h.ew,bareT_length]
  clear h
  go_enter Tryz.func134,Tryz.ntmps134
  go_wp2
  go_loopw [3] (fun i wr=>∃k:Nat,k<=Tw.length/\i= .int .i64 (k:Int)/\FlR w rb (.slice aw Tw.length cw) Tw H d (putsL d.last ((heldL d.wait d.s).take k)) wr) (fun i _=>Tw.length-(intOf i).toNat)
  case atStart=>exact⟨0,Zz,rfl,START.out⟩
  case round=>
   obtain⟨k,hk,rfl,vl,Tl,hI,hT⟩:=hrel;clear START;have c2:=hI.c2
   by_cases hlt:k<Tw.length
   ·have hlt':(k:Int)<(Tw.length:Int):=by omega
    have g1:IntKind.i64.wrap ((k:Int)+1)=((k+1:Nat):Int):=Zw
    obtain⟨hi2,e2,e3,e4⟩:=ENT.out k hlt;obtain⟨b,off,rfl,x0,x1,r1⟩:=hI.tw.rd.at hlt;have c1:=hI.c1;have f1:=hI.f1;have HN:Hid (putB (putsL d.last ((heldL d.wait d.s).take k)) (Tw.getD k default).1 (Tw.getD k default).2.1=putsL d.last ((heldL d.wait d.s).take (k+1))):=by
     show _=_
     rw[take_snoc hi2,puts_snoc,e2]
    have tm:=getD_mem12 hlt;have TB:Told wr H (Tw.getD k default).2.2 (Tw.getD k default).2.1:=⟨r1,hI.tw.each _ tm⟩;obtain⟨f,hf⟩:∃f,f=putsL d.last ((heldL d.wait d.s).take k):=⟨_,rfl⟩;rw[<-hf]at hI HN;obtain⟨t,ht⟩:∃t,t=Tw.getD k default:=⟨_,rfl⟩;rw[<-ht]at x0 x1 TB HN e3 e4;obtain⟨q1,q2,q3⟩:=t;simp only at x0 x1 TB e3 e4;obtain⟨qa,qc,rfl⟩:=TB.rd.form;obtain⟨al,cl,rfl⟩:=hI.tl.rd.form;clear r1 e2 hf ht tm c3;have bD:Below wr.heap.size wr wr.drew:=Zf.drew;have I0:=hI.below bD;have TB0:=TB.below bD;have hTl:Hid (TurnG (fun k=>k=rb) w wr):=hT;clear hT
    go_wp2_with fail
    go_region_law (first
     |(go_simp;go_at_call 171;(refine(with_is I0.tl I0.kl I0.el I0.s2 I0.lt e3 e4 TB0).mono ?_);rintro _ w5 ⟨v5,T5,rfl,t5,k5,e5,b5⟩;have I5:=I0.below b5;have c15:=I5.c1;have f15:=I5.f1;have I6:=I5.setL t5 k5 e5;have B5:=bD.step12 b5 bD.size;obtain⟨a5,m5,rfl⟩:=t5.rd.form;dsimp only))
    all_goals
     have E3:Hid (FlR w rb (.slice (some ⟨b,off,none⟩) Tw.length cw) Tw H d (putsL d.last ((heldL d.wait d.s).take (k+1))) (w5.setCell ⟨rb,1,none⟩ (.slice a5 T5.length m5))):=⟨_,_,by rw[<-HN.out];exact I6,(hTl.out.trans (Below.turnG B5 _)).trans (turnR_set 1 _)⟩;clear I6 c15 f15 I5 b5 t5 k5 e5 B5 I0 TB0 hI TB x0 x1 c1 f1 c2 bD hTl HN;go_wp2;go_roundw
     case rel=>exact⟨k+1,Zo,Zg,E3.out⟩
     case measure=>simp[intOf];omega
   ·have hge:¬(k:Int)<(Tw.length:Int):=by omega
    have hk':k=Tw.length:=Zo
    have f2:=hI.f2;have I6:=hI.setW (told_nil _ H) cap_nil (f:=noneI) (by rw[heldL_none];rfl);have eS:({({d with last:=putsL d.last ((heldL d.wait d.s).take k)}:DkS)with wait:=noneI}:DkS)=flS d:=by
     rw[hk',hel.out,List.take_length];unfold flS;rw[if_neg (by rw[hd];decide),DkS.mk.injEq];exact⟨rfl,funext fun y=>puts_all ok.iw y,rfl,rfl⟩
    have FIN:Hid (RefAt (wr.setCell ⟨rb,2,none⟩ (.slice none 0 0)) rb H (flS d)/\TurnG (fun k=>k=rb) w (wr.setCell ⟨rb,2,none⟩ (.slice none 0 0))):=⟨⟨_,_,_,_,by rw[<-eS];exact I6⟩,hT.trans (turnR_set 2 _)⟩;clear I6 eS hI hT ENT hel hk' c3;go_wp2;go_ret;exact⟨rfl,FIN.out⟩
theorem rcrash_any(h:RefIn w rb vl vw Tl Tw H d)(ok:d.Ok){v:Value}{K:List Int}(hK:RdI w v K)(hA:ApartG (fun k=>k=rb) v)(hl:K.length<=9223372036854775807):Calls Tryz.prog 146 #[.pointer (some ⟨rb,0,none⟩),v] w (LeavesR w rb H (crS d K) (.tuple #[])):=by
 obtain⟨ad,cp,rfl⟩:=hK.form;have START:Hid (FlR w rb vw Tw H d (putsL d.last (((heldL d.wait d.s).take 0).filter (fun t=>decide (t.1∈K)))) w):=⟨vl,Tl,h,TurnG.refl _ _⟩;have ENT:Hid (∀i,i<Tw.length->∃hi2:i<(heldL d.wait d.s).length,(heldL d.wait d.s)[i]=((Tw.getD i default).1,(Tw.getD i default).2.1)/\0<=(Tw.getD i default).1/\(Tw.getD i default).1<(d.s:Int)):=fun i hi=>h.entry hi
 have hcell:Hid (∀W,TurnG (fun k=>k=rb) w W->∀k,k<K.length->∃b o,ad=some ⟨b,o,none⟩/\W.cell? ⟨b,o+k,none⟩=some (.int .i64 (K.getD k 0))):=by
  intro W hW k hk
  rcases hK with⟨_,_,h1,_⟩|⟨b,o,c,h1,h2,h3,h4,h5⟩
  ·rw[h1]at hk;simp at hk
  ·have e:ad=some ⟨b,o,none⟩:=by simp at h2;exact h2.1
   refine⟨b,o,e,?_⟩;rw[<-h5 k hk];refine hW.cell (p:=⟨b,o+k,none⟩) h4 ?_
   rcases hA _ _ _ h2 with h6|h6
   ·omega
   ·exact h6
 have hlw:=h.len_w;obtain⟨aw,cw,rfl⟩:=h.tw.rd.form;have hel:Hid (Tw.length=(heldL d.wait d.s).length):=by show _=_;rw[<-h.ew,bareT_length]
 clear h hK hA
 go_enter Tryz.func146,Tryz.ntmps146
 go_wp2
 go_loopw [4] (fun i wr=>∃k:Nat,k<=Tw.length/\i= .int .i64 (k:Int)/\FlR w rb (.slice aw Tw.length cw) Tw H d (putsL d.last (((heldL d.wait d.s).take k).filter (fun t=>decide (t.1∈K)))) wr) (fun i _=>Tw.length-(intOf i).toNat)
 case atStart=>exact⟨0,Zz,rfl,START.out⟩
 case round=>
  obtain⟨k,hk,rfl,vl,Tl,hI,hT⟩:=hrel;clear START;have c2:=hI.c2
  by_cases hlt:k<Tw.length
  ·have hlt':(k:Int)<(Tw.length:Int):=by omega
   have g1:IntKind.i64.wrap ((k:Int)+1)=((k+1:Nat):Int):=Zw
   obtain⟨hi2,e2,e3,e4⟩:=ENT.out k hlt;obtain⟨b,off,rfl,x0,x1,r1⟩:=hI.tw.rd.at hlt;have HN:Hid (putsL d.last (((heldL d.wait d.s).take (k+1)).filter (fun t=>decide (t.1∈K)))=if (Tw.getD k default).1∈K then putB (putsL d.last (((heldL d.wait d.s).take k).filter (fun t=>decide (t.1∈K)))) (Tw.getD k default).1 (Tw.getD k default).2.1 else putsL d.last (((heldL d.wait d.s).take k).filter (fun t=>decide (t.1∈K)))):=by
    show _=_
    rw[take_snoc hi2,List.filter_append,e2]
    by_cases hm:(Tw.getD k default).1∈K
    ·rw[if_pos hm,List.filter_cons_of_pos (by simpa using hm),List.filter_nil,puts_snoc]
    ·rw[if_neg hm,List.filter_cons_of_neg (by simpa using hm),List.filter_nil,List.append_nil]
   have tm:=getD_mem12 hlt;have TB:Told wr H (Tw.getD k default).2.2 (Tw.getD k default).2.1:=⟨r1,hI.tw.each _ tm⟩;obtain⟨f,hf⟩:∃f,f=putsL d.last (((heldL d.wait d.s).take k).filter (fun t=>decide (t.1∈K))):=⟨_,rfl⟩;rw[<-hf]at hI HN;obtain⟨t,ht⟩:∃t,t=Tw.getD k default:=⟨_,rfl⟩;rw[<-ht]at x0 x1 TB HN e3 e4;obtain⟨q1,q2,q3⟩:=t;simp only at x0 x1 TB e3 e4 HN;obtain⟨qa,qc,rfl⟩:=TB.rd.form;obtain⟨al,cl,rfl⟩:=hI.tl.rd.form;obtain⟨wo,hwo⟩:∃x,x=wr:=⟨wr,rfl⟩;subst hwo;have hck:Hid (∀k,k<K.length->∃b o,ad=some ⟨b,o,none⟩/\wo.cell? ⟨b,o+k,none⟩=some (.int .i64 (K.getD k 0))):=hcell.out _ hT;have hTl:Hid (TurnG (fun k=>k=rb) w wo):=hT;have HI:Hid (RefIn wo rb (.slice al Tl.length cl) (.slice (some ⟨b,off,none⟩) Tw.length cw) Tl Tw H {d with last:=f}):=hI;have HTB:Hid (Told wo H (.slice qa q2.length qc) q2):=TB;clear r1 e2 hf ht tm hT hI TB;go_wp2
   go_loopw [5,6] (fun kp i wx=>∃j:Nat,j<=K.length/\i= .int .i64 (j:Int)/\kp= .bool (decide (q1∈K.take j))/\∃m,Hid (wx=wo.drewN m)) (fun _ i _=>K.length-(intOf i).toNat)
   case atStart=>exact⟨0,Zz,rfl,Zs,0,rfl⟩
   case round=>
    obtain⟨j,hj,rfl,rfl,m,hwx⟩:=hrel;have z2:wr.cell? ⟨rb,2,none⟩=some (.slice (some ⟨b,off,none⟩) Tw.length cw):=by rw[hwx.out];exact c2
    have z0:wr.cell? ⟨b,off+k*2,none⟩=some (.int .i64 q1):=by rw[hwx.out];exact x0
    have z1:wr.cell? ⟨b,off+k*2+1,none⟩=some (.slice qa q2.length qc):=by rw[hwx.out];exact x1
    by_cases hjl:j<K.length
    ·have hjl':(j:Int)<(K.length:Int):=by omega
     have g2:IntKind.i64.wrap ((j:Int)+1)=((j+1:Nat):Int):=Zw
     obtain⟨bk,okk,rfl,cj⟩:=hck.out j hjl;have cj':wr.cell? ⟨bk,okk+j,none⟩=some (.int .i64 (K.getD j 0)):=by rw[hwx.out];exact cj
     have M:=mem_take hjl q1;have HM:Hid (decide (q1∈K.take (j+1))=(decide (q1∈K.take j)||(K.getD j 0==q1))):=M;clear M hck cj c2 x0 x1;cases hm:decide (q1∈K.take j)with
     |true=>
      rw[hm]at HM;go_wp2
      go_quiet (fail)
      go_wp2;go_roundw
      case rel=>exact⟨j+1,Zo,Zg,by rw[HM.out];rfl,_,by show _=_;rw[hwx.out,World.drewN_drewN]⟩
      case measure=>simp[intOf];omega
     |false=>
      rw[hm]at HM;obtain⟨z,hz⟩:∃z,z=K.getD j 0:=⟨_,rfl⟩;rw[<-hz]at cj' HM;clear hz;cases hq:(z==q1)with
      |true=>
       rw[hq]at HM;have hq':=beq_iff_eq.1 hq;go_wp2
       go_quiet (fail)
       go_wp2;go_roundw
       case rel=>exact⟨j+1,Zo,Zg,by rw[HM.out];simp[hq'],_,by show _=_;rw[hwx.out,World.drewN_drewN]⟩
       case measure=>simp[intOf];omega
      |false=>
       rw[hq]at HM;go_wp2
       go_quiet (fail)
       go_wp2;go_roundw
       case rel=>exact⟨j+1,Zo,Zg,by rw[HM.out];rfl,_,by show _=_;rw[hwx.out,World.drewN_drewN]⟩
       case measure=>simp[intOf];omega
    ·have hjl':¬(j:Int)<(K.length:Int):=by omega
     have hjK:j=K.length:=Zo
     rw[hjK,List.take_length];rw[hjK]at hjl';clear hjK hjl hj hck;have bW:Below wo.heap.size wo wr:=by rw[hwx.out];exact Zf.drewN _
     have I1:=HI.out.below bW;have TB:=HTB.out.below bW;have hT1:=hTl.out.trans (Below.turnG bW _);have hTw:Hid (TurnG (fun k=>k=rb) w wr):=hT1;clear hT1 hTl HI HTB hwx bW c2 x0 x1
     by_cases hm:q1∈K
     ·rw[Zy hm];rw[if_pos hm]at HN;have c1:=I1.c1;have f1:=I1.f1;have bD:Below wr.heap.size wr wr.drew:=Zf.drew;have I0:=I1.below bD;have TB0:=TB.below bD
      go_wp2_with fail
      go_region_law (first
       |(go_simp;go_at_call 171;(refine(with_is I0.tl I0.kl I0.el I0.s2 I0.lt e3 e4 TB0).mono ?_);rintro _ w5 ⟨v5,T5,rfl,t5,k5,e5,b5⟩;have I5:=I0.below b5;have c15:=I5.c1;have f15:=I5.f1;have I6:=I5.setL t5 k5 e5;have B5:=bD.step12 b5 bD.size;obtain⟨a5,m5,rfl⟩:=t5.rd.form;dsimp only))
      all_goals
       have E3:Hid (FlR w rb (.slice (some ⟨b,off,none⟩) Tw.length cw) Tw H d (putsL d.last (((heldL d.wait d.s).take (k+1)).filter (fun t=>decide (t.1∈K)))) (w5.setCell ⟨rb,1,none⟩ (.slice a5 T5.length m5))):=⟨_,_,by rw[HN.out];exact I6,(hTw.out.trans (Below.turnG B5 _)).trans (turnR_set 1 _)⟩;clear I6 c15 f15 I5 b5 t5 k5 e5 B5 I0 TB0 I1 TB z0 z1 z2 c1 f1 bD hTw HN;go_wp2;go_roundw
       case rel=>exact⟨k+1,Zo,Zg,E3.out⟩
       case measure=>simp[intOf];omega
     ·rw[Zx hm];rw[if_neg hm]at HN;have E3:Hid (FlR w rb (.slice (some ⟨b,off,none⟩) Tw.length cw) Tw H d (putsL d.last (((heldL d.wait d.s).take (k+1)).filter (fun t=>decide (t.1∈K)))) wr):=⟨_,_,by rw[HN.out];exact I1,hTw.out⟩;clear I1 TB z0 z1 z2 hTw HN;go_wp2;go_roundw
      case rel=>exact⟨k+1,Zo,Zg,E3.out⟩
      case measure=>simp[intOf];omega
  ·have hge:¬(k:Int)<(Tw.length:Int):=by omega
   have hk':k=Tw.length:=Zo
   have f2:=hI.f2;have I6:=hI.setW (told_nil _ H) cap_nil (f:=noneI) (by rw[heldL_none];rfl);have eS:({({d with last:=putsL d.last (((heldL d.wait d.s).take k).filter (fun t=>decide (t.1∈K)))}:DkS)with wait:=noneI}:DkS)=crS d K:=by
    rw[hk',hel.out,List.take_length,held_only];unfold crS;rw[DkS.mk.injEq];exact⟨rfl,funext fun y=>puts_all (onlyB_in ok.iw K) y,rfl,rfl⟩
   have FIN:Hid (RefAt (wr.setCell ⟨rb,2,none⟩ (.slice none 0 0)) rb H (crS d K)/\TurnG (fun k=>k=rb) w (wr.setCell ⟨rb,2,none⟩ (.slice none 0 0))):=⟨⟨_,_,_,_,by rw[<-eS];exact I6⟩,hT.trans (turnR_set 2 _)⟩;clear I6 eS hI hT ENT hel hk' hcell;go_wp2
   go_end0
   exact⟨rfl,FIN.out⟩
end
end Go.Proofs.YtclieefpnbdbjaaGreat.Gf
