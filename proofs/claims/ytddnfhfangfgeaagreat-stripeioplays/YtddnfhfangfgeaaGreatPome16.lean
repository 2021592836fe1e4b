/- TEXTS JOINED: ErRefE, ErOut. -/
import Derived.Test.YtddnfhfangfgeaaGreatPome15
import Derived.Test.YtddnfhfangfgeaaGreatPome6
import Derived.Test.YtddnfhfangfgeaaGreatPome10
set_option maxHeartbeats 8000000
set_option maxRecDepth 100000
namespace Go.Proofs.YtddnfhfangfgeaaGreat.Gf
set_option linter.unusedVariables false
set_option linter.unusedSimpArgs false
open Go.RowKit
theorem rdec_ok{k m:Nat}{va vl:Value}{h:List Bool}{L:List (List UInt8)}{w:World}(h1:1<=k)(h2:k+m<=256)(hH:RdB w va h)(hL:Rs w vl L)(hok:OkH k m h L)(hS:SmallH h L)(hf:k<=(thr h h.length).length){x y:Int}(hx:x=(k:Int))(hy:y=(m:Int)):
  Calls Tryz.prog 210 #[.int .i64 x,.int .i64 y,va,vl] w (MakesRs w 0 (encL m k (parF k) (decD k (invF k (pl7 h)) (pl7 h) L))):=by
 subst hx hy;obtain⟨i0,hi,hz0,hz1,hz2⟩:=info_parts info_u8;obtain⟨i1,hj,hy0,hy1,hy2⟩:=info_parts info_shard;obtain⟨a1,c1,rfl⟩:=hH.form;obtain⟨a2,c2,rfl⟩:=hL.form;obtain⟨s,hs⟩:∃s,Hid (s=k+m):=⟨_,rfl⟩;have g1:(k:Int)+(m:Int)=(s:Int):=by have:=hs.out;omega
 have gw:IntKind.i64.wrap (s:Int)=(s:Int):=by have:=hs.out;rw[IntKind.wrap_i64];omega
 have gk:IntKind.i64.wrap (k:Int)=(k:Int):=by rw[IntKind.wrap_i64];omega
 have p1:Hid (h.length=s):=by show _=_;have:=hok.1;omega
 have p2:Hid (L.length=s):=by show _=_;have:=hok.2.1;omega
 have E:Hid (EvenH h L):=hok.2.2;have q0:((s:Int)!=(s:Int))=false:=by simp
 have hs3:Hid (s<=256):=by rw[hs.out];exact h2
 have hf':Hid _:=hf;have hin:Hid (∀i,i<k->pl7 h i<s):=fun i hi=>by have:=(pl7_in (h:=h) (i:=i) (by omega)).1;rw[p1.out]at this;exact this
 have hth:Hid (∀i,i<k->hb h (pl7 h i)=true):=fun i hi=>(pl7_in (by omega)).2
 have hns:Hid (¬IsSing k (rowsF k (pl7 h))):=gen_inv h2 (by rw[p1.out,hs.out]) hf;have hZ:Hid ((toI (pls7 h k)).length=k):=by show _=_;rw[toI_length];exact pls7_length hf
 have hall:Hid (AllIn s (toI (pls7 h k))):=fun i hi=>by
  rw[hZ.out]at hi;have:=hin.out i hi;rw[toI_getD,pls7_getD hi];omega
 obtain⟨n0,hn0⟩:∃n0,Hid (n0=(ro L (pl7 h 0)).length):=⟨_,rfl⟩;have hn3:n0<=300:=by rw[hn0.out];exact hS.2 _ (hth.out 0 (by omega))
 have hlen:Hid (∀i,i<k->(ro L (pl7 h i)).length=n0):=fun i hi=>by rw[hn0.out];exact E.out _ _ (hth.out i hi) (hth.out 0 (by omega))
 clear hok hS hf;rw[p1.out]at hH ⊢;rw[p2.out]at hL ⊢
 go_enter Tryz.func210,Tryz.ntmps210
 go_wp2_with fail
 refine(rgen_ok (k:=k) (m:=m) _ h1 h2 rfl rfl).mono ?_
 rintro e w2 ⟨vs,rfl,hR,b2⟩;obtain⟨sa,sc,rfl⟩:=hR.form;obtain⟨N,hN⟩:∃N,Hid (N=(flat (k+m) k (genF k)).length):=⟨_,rfl⟩;rw[<-hN.out]at hR ⊢;rw[show((k+m:Nat):Int)=(s:Int) by rw[hs.out]];have A2:Below w2.heap.size w2 (w2.alloc (.cells #[.int .i64 (s:Int),.int .i64 (k:Int),.slice sa N sc] 148)):=(Below.refl _ _).alloc (Nat.le_refl _) _;have B2:Below w.heap.size w (w2.alloc (.cells #[.int .i64 (s:Int),.int .i64 (k:Int),.slice sa N sc] 148)):=below_lit b2 _;have X2:=Box.new w2 (s:Int) (k:Int) (.slice sa N sc) 148;have l2:w2.heap.size<(w2.alloc (.cells #[.int .i64 (s:Int),.int .i64 (k:Int),.slice sa N sc] 148)).heap.size:=by simp
 have hH2:=hH.below B2;have hL2:=hL.below B2;have hR2:=hR.below A2;clear hR b2 hH hL A2
 go_wp2_with fail
 refine(rthere_any hH2 hL2 (by rw[p1.out,p2.out]) (by rw[p1.out];have:=hs3.out;omega)).mono ?_
 rintro e w4 (⟨_,v4,rfl,hO4,b4⟩|⟨he,_⟩);rotate_left
 ·exact absurd E.out he
 generalize w2.alloc (.cells #[.int .i64 (s:Int),.int .i64 (k:Int),.slice sa N sc] 148)=w3 at*;have B4:=Below.next B2 b4;have hL4:=hL2.below b4;have hR4:=hR2.below b4;have X4:=X2.below l2 b4;have l4:w2.heap.size<w4.heap.size:=Nat.lt_of_lt_of_le l2 b4.size;obtain⟨pa,pc,rfl⟩:=hO4.form;have hcap:=hO4.cap;obtain⟨g,rfl,hg,_,_⟩:=hO4.cell (i:=0) (by have:=hf'.out;omega);have hP4:=(hO4.rd (by have:=thr_len h h.length;rw[p1.out]at this;have:=hs3.out;rw[p1.out];omega)).first (k:=k) hf'.out (by omega)
 rw[show(thr h h.length).take k=pls7 h k from rfl]at hP4;have hge:¬(((thr h h.length).length:Nat):Int)<(k:Int):=by have:=hf'.out;omega
 have hkc:(k:Int)<=(pc:Int):=by have:=hf'.out;omega
 have hkc':k<=pc:=by omega
 have hpm:=hcap.2;unfold maxLen at hpm;generalize (thr h h.length).length=n7 at*;have x40:=X4.c0;have x41:=X4.c1;have x42:=X4.c2;have k1:OkM (s:Int) (k:Int) (flat (k+m) k (genF k)):=okM_mk hs3.out (by omega) (by rw[flat_length,hs.out]);clear hO4 hH2 hL2 hR2 B2 b4 X2 l2 hcap
 go_wp2_with fail
 refine(rpick_ok (r:=s) (c:=k) (zs:=toI (pls7 h k)) ⟨_,rfl,hR4⟩ hP4 k1 (by rw[hZ.out];omega)).mono ?_
 rintro e w5 (⟨_,vp,rfl,hP,b5⟩|⟨hno,_⟩);rotate_left
 ·exact absurd hall.out hno
 rw[hZ.out]at hP ⊢;have B5:=Below.next B4 b5;have hL5:=hL4.below b5;have hP5:=hP4.below b5;obtain⟨qa,qc,rfl⟩:=hP.form;obtain⟨M,hM⟩:∃M,Hid (M=(flat k k (pickF k (flat (k+m) k (genF k)) (toI (pls7 h k)))).length):=⟨_,rfl⟩;rw[<-hM.out]at hP ⊢;have A5:Below w5.heap.size w5 (w5.alloc (.cells #[.int .i64 (k:Int),.int .i64 (k:Int),.slice qa M qc] 148)):=(Below.refl _ _).alloc (Nat.le_refl _) _;have B6:Below w.heap.size w (w5.alloc (.cells #[.int .i64 (k:Int),.int .i64 (k:Int),.slice qa M qc] 148)):=below_lit B5 _;have hL6:=hL5.below A5;have hP6:=hP5.below A5;have hQ6:=hP.below A5;have kk:OkM (k:Int) (k:Int) (flat k k (pickF k (flat (k+m) k (genF k)) (toI (pls7 h k)))):=okM_mk (by omega) (by omega) (by rw[flat_length]);clear hL4 hP4 hR4 B4 b5 hL5 hP5 hP A5 B5 X4 l4 x40 x41 x42 k1
 go_wp2_with fail
 refine(rinvm_ok (n:=k) ⟨_,rfl,hQ6⟩ kk).mono ?_
 have cong:Hid (∀i j,i<k->j<k->en k (flat k k (pickF k (flat (k+m) k (genF k)) (toI (pls7 h k)))) i j=rowsF k (pl7 h) i j):=fun i j hi hj=>by
  rw[en_flat _ hi hj];exact pick_gen hi hj (by rw[<-hs.out];exact hin.out i hi)
 rintro e w7 (⟨V,hV,vi7,rfl,hR7,b7⟩|⟨hsg,_⟩);rotate_left
 ·exact absurd (hsg.congr cong.out) hns.out
 have hV':Hid (IsInv k (rowsF k (pl7 h)) V):=hV.congr cong.out (fun _ _ _ _=>rfl);rw[invF_flat hV'.out]at hR7;clear hV hV' cong kk hQ6 hns hall;obtain⟨W,hW⟩:∃W,Hid (W=invF k (pl7 h)):=⟨_,rfl⟩;rw[<-hW.out]at hR7 ⊢;generalize w5.alloc (.cells #[.int .i64 (k:Int),.int .i64 (k:Int),.slice qa M qc] 148)=w6 at*;have B7:=Below.next B6 b7;have hL7:=hL6.below b7;have hP7:=hP6.below b7;obtain⟨ia,ic,rfl⟩:=hR7.form;obtain⟨I,hI⟩:∃I,Hid (I=(flat k k W).length):=⟨_,rfl⟩;have hIk:Hid (I=k*k):=by show _=_;rw[hI.out,flat_length]
 rw[<-hI.out]at hR7 ⊢;have A7:Below w7.heap.size w7 (w7.alloc (.cells #[.int .i64 (k:Int),.int .i64 (k:Int),.slice ia I ic] 148)):=(Below.refl _ _).alloc (Nat.le_refl _) _;have B8:Below w.heap.size w (w7.alloc (.cells #[.int .i64 (k:Int),.int .i64 (k:Int),.slice ia I ic] 148)):=below_lit B7 _;have X8:=Box.new w7 (k:Int) (k:Int) (.slice ia I ic) 148;have l8:w7.heap.size<(w7.alloc (.cells #[.int .i64 (k:Int),.int .i64 (k:Int),.slice ia I ic] 148)).heap.size:=by simp
 have hL8:=hL7.below A7;have hP8:=hP7.below A7;have hR8:=hR7.below A7;clear hL6 hP6 B6 b7 hL7 hP7 hR7 A7 B7;go_wp2;generalize w7.alloc (.cells #[.int .i64 (k:Int),.int .i64 (k:Int),.slice ia I ic] 148)=w8 at*;obtain⟨B,hBB⟩:∃B,Hid (B=w8.heap.size):=⟨_,rfl⟩;have hto:∀{W':World},Below B w8 W'->Below w8.heap.size w8 W':=fun q=>by rw[<-hBB.out];exact q
 have HX:Hid (∀wr,Below B w8 wr->wr.cell? ⟨w7.heap.size,2,none⟩=some (.slice ia I ic)):=fun wr hb=>(X8.below l8 (hto hb)).c2
 have HP:Hid (∀wr,Below B w8 wr->∀i,i<k->wr.cell? ⟨g,i,none⟩=some (.int .i64 ((pl7 h i:Nat):Int))):=fun wr hb i hi=>by
  have:=(hP8.below (hto hb)).get (i:=i) (by rw[hZ.out];exact hi);rwa[toI_getD,pls7_getD hi,Nat.zero_add]at this
 have HA:Hid (∀wr,Below B w8 wr->Rd wr (.slice ia I ic) (flat k k W)):=fun wr hb=>hR8.below (hto hb)
 obtain⟨db,doff,dc,eL,hdb,hdc,hdm⟩:=hL8.somewhere (by rw[p2.out];omega);simp at eL;obtain⟨eL,_,_⟩:=eL;subst eL;have HD:Hid (∀wr,Below B w8 wr->∀i,i<k->∃xa xc,wr.cell? ⟨db,doff+pl7 h i,none⟩=some (.slice xa n0 xc)/\Rd wr (.slice xa n0 xc) (ro L (pl7 h i))):=fun wr hb i hi=>by
  obtain⟨xa,xc,q1,q2⟩:=(hL8.below (hto hb)).get (i:=pl7 h i) (by rw[p2.out];exact hin.out i hi);rw[hlen.out i hi]at q1 q2;exact⟨xa,xc,q1,q2⟩
 have hsB:Hid (w.heap.size<=B):=by rw[hBB.out];exact B8.size
 have HB8:Hid _:=B8;clear X8 hL8 hP8 hR8 B8 hto
 go_loopw [18,19] (fun o i wr=>∃r:Nat,r<=k/\i= .int .i64 (r:Int)/\Os wr B 36 5 o (mkL r (dsh k W (pl7 h) L))/\Below B w8 wr) (fun _ i _=>k-(intOf i).toNat)
 case atStart=>exact⟨0,by omega,rfl,Os.nil _ _ _ _,Below.refl _ _⟩
 case round=>
  obtain⟨r,hr,rfl,hO,hB⟩:=hrel;obtain⟨wo,hwo⟩:∃wo,wo=wr:=⟨_,rfl⟩;subst hwo;have hszr:B<=wo.heap.size:=by rw[hBB.out];exact hB.size
  by_cases hlt:r<k
  ·have hlt':(r:Int)<(k:Int):=by omega
   obtain⟨av,cv,ev⟩:=hO.form;rw[mkL_length]at ev;subst ev;have hO':Hid _:=hO;have hB':Hid _:=hB;clear hO hB;go_wp2
   go_loopw [20,21] (fun q i w9=>∃t:Nat,t<=n0/\i= .int .i64 (t:Int)/\w9.ownsRow wo.heap.size 5 1 q t ((upto (dwd W (pl7 h) L r k) t).map vb)/\Below wo.heap.size wo w9) (fun _ i _=>n0-(intOf i).toNat)
   case atStart=>exact⟨0,by omega,rfl,World.ownsRow_nil _ _ _ _,Below.refl _ _⟩
   case round=>
    obtain⟨t,ht,rfl,hsO,b9⟩:=hrel;obtain⟨w9,hw9⟩:∃w9,w9=wr:=⟨_,rfl⟩;subst hw9;have hB9:Below B w8 w9:=hB'.out.trans (b9.mono hszr);have hs9:wo.heap.size<=w9.heap.size:=b9.size;obtain⟨ya,yc,c0,_⟩:=HD.out _ hB9 0 (by omega);have cp0:=HP.out _ hB9 0 (by omega);have hi0:=hin.out 0 (by omega);obtain⟨t0,ht0⟩:∃t0,Hid (t0=pl7 h 0):=⟨_,rfl⟩;rw[<-ht0.out]at c0 cp0 hi0;have hi0':(t0:Int)<(s:Int):=by omega
    have h0k:(0:Int)<(k:Int):=by omega
    obtain⟨ra,rc,es⟩:=owns_form hsO;subst es
    by_cases hlt3:t<n0
    ·have hlt3':(t:Int)<(n0:Int):=by omega
     have hs':Hid _:=hsO;have b9':Hid _:=b9;have hB9':Hid _:=hB9;clear hsO b9 hB9;go_wp2
     go_loopw [22,23] (fun xx i wr=>∃c:Nat,c<=k/\i= .int .i64 (c:Int)/\xx= .int .u8 ((dwd W (pl7 h) L r c t).toNat:Nat)/\∃nd,wr=w9.drewN nd) (fun _ i _=>k-(intOf i).toNat)
     case atStart=>exact⟨0,by omega,rfl,rfl,0,rfl⟩
     case round=>
      obtain⟨c,hc,rfl,rfl,nd,hd0⟩:=hrel
      by_cases hlt4:c<k
      ·have hlt4':(c:Int)<(k:Int):=by omega
       have hBw:Below B w8 wr:=by rw[hd0];exact hB9'.out.drewN nd
       have hd:Hid (wr=w9.drewN nd):=hd0;have x2:=HX.out _ hBw;have cpc:=HP.out _ hBw c hlt4;obtain⟨za,zc,cz,rz⟩:=HD.out _ hBw c hlt4;have hic:=hin.out c hlt4;obtain⟨zb,zo,ez,_,dz⟩:=rz.byte (i:=t) (by rw[hlen.out c hlt4];exact hlt3);subst ez;obtain⟨T,hT⟩:∃T,Hid (T=r*k+c):=⟨_,rfl⟩;have hTN:T<I:=by rw[hT.out,hIk.out];exact place_lt hlt hlt4
       have hNs:I<=65536:=by rw[hIk.out];exact mul_small (by omega) (by omega)
       obtain⟨o',ho'⟩:∃o',Hid (o'=r*k):=⟨_,rfl⟩;have hoT:o'+c=T:=by rw[ho'.out,hT.out]
       have v0:(r:Int)*(k:Int)=(o':Int):=by rw[ho'.out];exact_mod_cast rfl
       have v3:(o':Int)+(c:Int)=(T:Int):=by omega
       have v1:IntKind.i64.wrap (o':Int)=(o':Int):=by rw[IntKind.wrap_i64];omega
       have v2:IntKind.i64.wrap (T:Int)=(T:Int):=by rw[IntKind.wrap_i64];omega
       obtain⟨ab,ao,eva,hab,ca⟩:=(HA.out _ hBw).byte (i:=T) (by rw[flat_length,<-hIk.out];exact hTN);have eT:co (flat k k W) T=W r c:=by rw[hT.out];exact en_flat W hlt hlt4
       rw[eT]at ca;subst eva;have hTN':(T:Int)<(I:Int):=by omega
       have E1:=xor_u8 (dwd W (pl7 h) L r c t) (mu (W r c) (co (ro L (pl7 h c)) t));have HE:Hid (((dwd W (pl7 h) L r c t).toNat^^^(mu (W r c) (co (ro L (pl7 h c)) t)).toNat:Nat)=(dwd W (pl7 h) L r (c+1) t).toNat):=by show _=_;rw[dwd_succ,UInt8.toNat_xor]
       obtain⟨tc,htc⟩:∃tc,Hid (tc=pl7 h c):=⟨_,rfl⟩;rw[<-htc.out]at cpc cz hic;have hic':(tc:Int)<(s:Int):=by omega
       clear hd0 hoT eT rz hBw c0 cp0;go_wp2
       go_quiet ((go_at_call 146;go_loud (exact Calls.quiet_of_same (rmu6_at (W r c) (co (ro L (pl7 h c)) t) rfl rfl))))
       go_wp2;go_roundw
       case rel=>exact⟨c+1,by omega,by go_num,by rw[HE.out],_,by show _=_;rw[hd.out,World.drewN_drewN]⟩
       case measure=>simp[intOf];omega
      ·have hge4:¬(c:Int)<(k:Int):=by omega
       have ec:c=k:=by omega
       subst ec;have hs10:wr.ownsRow wo.heap.size 5 1 (.slice ra t rc) t ((upto (dwd W (pl7 h) L r c) t).map vb):=by rw[hd0];exact hs'.out
       have B10:Hid (Below wo.heap.size wo wr):=by show Below _ _ _;rw[hd0];exact b9'.out.drewN nd
       have hs10':wo.heap.size<=wr.heap.size:=B10.out.size;clear hd0 hs' b9' hB9' c0 cp0
       go_wp2_with (at_builtin;go_loud (refine wpList_append_rd2 _ rfl (.tmp 119) (.tmp 121) 36 rfl wo.heap.size 5 i0 Tryz.underlying36 hi hz0 hz1 hz2 (.slice ra t rc) t _ rfl (World.ownsRow.alloc hs10 _) _ [dwd W (pl7 h) L r c t] rfl (rd_lit (n:=1) [dwd W (pl7 h) L r c t] rfl rfl (by decide)) (by simp;omega) (by simp;omega) ?_);intro x' w10 hx10 hg10 hb10)
       have HN:Hid (w10.ownsRow wo.heap.size 5 1 x' (t+1) ((upto (dwd W (pl7 h) L r c) (t+1)).map vb)):=(by rw[upto_vb_succ];exact hx10:w10.ownsRow wo.heap.size 5 1 x' (t+1) ((upto (dwd W (pl7 h) L r c) (t+1)).map vb));have HB10:Hid (Below wo.heap.size wo w10):=(B10.out.alloc hs10' _).grown hg10 (by simp;omega) (fun q hq=>(World.ownsRow.lt hs10 q hq).1);clear hx10 hg10 hb10 hs10 B10;go_wp2;go_roundw
       case rel=>exact⟨t+1,by omega,by go_num,HN.out,HB10.out⟩
       case measure=>simp[intOf];omega
    ·have hge3:¬(t:Int)<(n0:Int):=by omega
     have et:t=n0:=by omega
     have hx9:OwnP w9 B 5 (.slice ra t rc) (dsh k W (pl7 h) L r):=by
      unfold OwnP dsh;rw[upto_length,<-hn0.out,<-et];exact ownsRow_base hsO hszr
     have hb1:∀q,(Value.slice ra t rc).ownBlock=some q->wo.heap.size<=q:=fun q hq=>(World.ownsRow.lt hsO q hq).1
     clear hsO et
     go_wp2_with (at_builtin;go_loud (refine wpList_append_os rfl (.tmp 123) (.tmp 125) 106 rfl B 36 i1 Tryz.underlying106 hj hy0 hy1 hy2 5 (.slice av r cv) (mkL r (dsh k W (pl7 h) L)) rfl hO'.out b9 (.slice ra t rc) (dsh k W (pl7 h) L r) hx9 hb1 _ 1 rfl (by rw[mkL_length];omega) hszr ?_);intro v' w11 hv11 hb11 _ _)
     have HOn:Hid (Os w11 B 36 5 v' (mkL (r+1) (dsh k W (pl7 h) L))):=by
      show Os _ _ _ _ _ _
      rw[mkL_succ];exact hv11
     have HBn:Hid (Below B w8 w11):=hB'.out.trans hb11;clear hv11 hb11 hx9 hb1 hB9 b9 hO' hB' c0 cp0;go_wp2;go_roundw
     case rel=>exact⟨r+1,by omega,by go_num,HOn.out,HBn.out⟩
     case measure=>simp[intOf];omega
  ·have hge5:¬(r:Int)<(k:Int):=by omega
   have er:r=k:=by omega
   subst er;have HR:Rs wo u18 (decD r W (pl7 h) L):=hO.rs;have BB:Below w.heap.size w wo:=Below.trans HB8.out (hB.mono hsB.out);obtain⟨oa,oc,ev⟩:=HR.form;rw[decD_length]at ev;subst ev;clear hO hB HX HP HA HD
   go_wp2_with fail
   refine(renc_ok h1 h2 HR (decD_length _ _ _ _) (decD_even h1) (decD_small (by omega) (by rw[<-hn0.out];exact hn3)) rfl rfl).mono ?_
   rintro e w12 ⟨v12,rfl,hR12,b12⟩;obtain⟨fa,fc,rfl⟩:=hR12.form;have HBn:Hid (Below w.heap.size w w12):=Below.next BB b12;generalize (encL m r (parF r) (decD r W (pl7 h) L)).length=oL at*;clear b12 BB HR;go_wp2;exact bodyPost_ret (v:=.tuple #[.slice fa oL fc,.int .i64 0]) (by simp[results,Tryz.results210,go_sem]) rfl ⟨_,rfl,by rw[<-hW.out];exact hR12,HBn.out⟩
theorem rdec_any{k m:Int}{va vl:Value}{h:List Bool}{L:List (List UInt8)}{w:World}(hH:RdB w va h)(hL:Rs w vl L)(hS:SmallH h L):
  Calls Tryz.prog 210 #[.int .i64 k,.int .i64 m,va,vl] w (MakesRs w (decX k m h L) (decR k m h L)):=by
 rcases dec_cases k m h L with c|⟨c,d⟩|⟨c,d,f⟩|⟨c,d,f⟩
 ·rw[(decX_bad c).1,(decX_bad c).2];exact rdec_bad c
 ·rw[(decX_shard c d).1,(decX_shard c d).2];obtain⟨k,m,rfl,rfl,h1,h2⟩:=c.nat;exact rdec_shard h1 h2 hH hL d rfl rfl
 ·rw[(decX_few c d f).1,(decX_few c d f).2];obtain⟨k,m,rfl,rfl,h1,h2⟩:=c.nat;exact rdec_few h1 h2 hH hL d (by omega) rfl rfl
 ·obtain⟨k,m,rfl,rfl,h1,h2⟩:=c.nat;rw[(decX_ok c d (by omega)).1,(decX_ok c d (by omega)).2];exact rdec_ok h1 h2 hH hL d hS (by omega) rfl rfl
def BoolF(w:World)(base e g n:Nat)(f:Nat->Bool):Prop:=w.ownsRow base e 1 (.slice (some ⟨g,0,none⟩) n n) n ((List.range n).map fun i=>Value.bool (f i))
theorem BoolF.made{w:World}{base e g n:Nat}(h:w.ownsRow base e 1 (.slice (some ⟨g,0,none⟩) n n) n (madeCells (Value.cells (.bool false)) (n*1)).toList):BoolF w base e g n (fun _=>false):=by
 unfold BoolF;have e1:(madeCells (Value.cells (.bool false)) (n*1)).toList=List.replicate n (.bool false):=by
  rw[Nat.mul_one];exact toList_madeCells_one _ _
 rw[e1]at h;have e2:(List.range n).map (fun _=>Value.bool false)=List.replicate n (.bool false):=by
  rw[List.map_const'];simp
 rw[e2];exact h
theorem BoolF.cell{w:World}{base e g n:Nat}{f:Nat->Bool}(h:BoolF w base e g n f){j:Nat}(hj:j<n):w.cell? ⟨g,j,none⟩=some (.bool (f j)):=by
 rw[World.ownsRow.cellAt h j (by omega),List.getElem?_map,List.getElem?_range hj];rfl
theorem BoolF.free{w:World}{base e g n:Nat}{f:Nat->Bool}(h:BoolF w base e g n f)(j:Nat):w.frozen? ⟨g,j,none⟩=false:=World.ownsRow.frozenAt h j
theorem BoolF.lt{w:World}{base e g n:Nat}{f:Nat->Bool}(h:BoolF w base e g n f):base<=g/\g<w.heap.size:=World.ownsRow.lt h g rfl
theorem BoolF.store{w:World}{base e g n:Nat}{f f':Nat->Bool}(h:BoolF w base e g n f){j:Nat}(hj:j<n)(x:Bool)(hf:∀t,t<n->f' t=if t=j then x else f t):BoolF (w.setCell ⟨g,j,none⟩ (.bool x)) base e g n f':=by
 have e1:=(World.ownsRow.stored h j (.bool x)).1;unfold BoolF;have e2:((List.range n).map fun i=>Value.bool (f i)).set j (.bool x)=(List.range n).map fun i=>Value.bool (f' i):=by
  refine List.ext_getElem (by simp) fun t h1 h2=>?_
  simp at h2;rw[List.getElem_set]
  by_cases e:t=j
  ·subst e;simp[hf t h2]
  ·rw[if_neg fun h:j=t=>e h.symm];simp[hf t h2,e]
 rw[<-e2];exact e1
theorem BoolF.rdB{w:World}{base e g n:Nat}{f:Nat->Bool}(h:BoolF w base e g n f)(hn:n<=1000000):RdB w (.slice (some ⟨g,0,none⟩) n n) ((List.range n).map f):=by
 have hl:((List.range n).map f).length=n:=by simp
 refine⟨some ⟨g,0,none⟩,n,by rw[hl],by rw[hl];exact Nat.le_refl _,by unfold maxLen;omega,nofun,fun i hi=>?_⟩;rw[hl]at hi;refine⟨g,0,rfl,h.lt.2,?_⟩;rw[Nat.zero_add,h.cell hi];simp[hb,List.getD,hi]
end Go.Proofs.YtddnfhfangfgeaaGreat.Gf
