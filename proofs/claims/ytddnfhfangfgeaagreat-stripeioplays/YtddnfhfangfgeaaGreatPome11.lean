/- JOINED: BkCB, BkOne, BkCC, BkEn. -/
import Derived.Test.YtddnfhfangfgeaaGreatPome10
import Derived.WalkMore
set_option maxHeartbeats 4000000
set_option maxRecDepth 100000
namespace Go.Proofs.YtddnfhfangfgeaaGreat.Gf
set_option linter.unusedVariables false
set_option linter.unusedSimpArgs false
open Go.RowKit
theorem OwnP.row{w:World}{base base' u g:Nat}{p:List UInt8}(h:RowF w base u g p.length p.length (co p))(hb:base'<=base):OwnP w base' u (.slice (some ⟨g,0,none⟩) p.length p.length) p:=by
 have:=h.base hb;unfold RowF at this;rw[upto_co]at this;exact this
theorem OwnP.rowF{w:World}{base u g n:Nat}{f:Nat->UInt8}(h:RowF w base u g n n f):OwnP w base u (.slice (some ⟨g,0,none⟩) n n) (upto f n):=by
 unfold OwnP;rw[upto_length];exact h
theorem z11_2{p:Prop} (h:p:=by
 case measure=>simp[intOf];omega
 ):p:=h
theorem encd_far{w:World}{b:Nat}{vs v:Value}{L:List (List UInt8)}(m k:Nat)(F:Mx)(hF:FieldAt w b)(hA:Rd w vs (flat m k F))(h1:1<=k)(h2:k+m<=256)(h:Rs w v L)(hL:L.length=k)(hE:Even L)(hS:Small L){x y:Int}(hx:x=(m:Int))(hy:y=(k:Int)):
  Calls Tryz.prog 130 #[.pointer (some ⟨b,0,none⟩),.agg #[.int .i64 x,.int .i64 y,vs],v] w fun e w'=>∃v',e= .returned v'/\FarL w' w.heap.size v' (encL m k F L)/\Below w.heap.size w w':=by
 subst hx hy;obtain⟨i0,hi,hz0,hz1,hz2⟩:=info_parts info_u8;obtain⟨i1,hj,hy0,hy1,hy2⟩:=info_parts info_shard;obtain⟨db,doff,dc,rfl,hdb,hdc,hdm⟩:=h.somewhere Zo;have hLh:Hid (L.length=k):=hL;rw[hL]at h ⊢;clear hL;obtain⟨N,hN⟩:∃N,Hid (N=(flat m k F).length):=⟨_,rfl⟩;obtain⟨va,vc,rfl⟩:=hA.form;rw[<-hN.out]at hA ⊢;have hNm:Hid (N=m*k):=by show _=_;rw[hN.out,flat_length]
 have B0:Below w.heap.size w (w.alloc (.cells #[.int .i64 (m:Int),.int .i64 (k:Int),.slice va N vc] 148)):=(Below.refl _ _).alloc (Nat.le_refl _) _;have X0:=Box.new w (m:Int) (k:Int) (.slice va N vc) 148;have s0:(w.alloc (.cells #[.int .i64 (m:Int),.int .i64 (k:Int),.slice va N vc] 148)).heap.size=w.heap.size+1:=Zs
 have gk:(k:Int)+(m:Int)=((k+m:Nat):Int):=Zo
 have gw:IntKind.i64.wrap ((k+m:Nat):Int)=((k+m:Nat):Int):=Zw
 obtain⟨K,hK⟩:∃K,Hid (K=k+m):=⟨_,rfl⟩;have hK2:K<=256:=by have:=hK.out;omega
 rw[<-hK.out]at gk gw
 go_enter Tryz.func130,Tryz.ntmps130
 go_wp2_with (at_make;go_loud (refine wpList_make_own _ rfl _ (.tmp 19) 106 rfl (w.alloc (.cells #[.int .i64 (m:Int),.int .i64 (k:Int),.slice va N vc] 148)).heap.size 36 i1 (.slice none 0 0) 1 Tryz.underlying106 hj hy0 hy1 _ _ _ K rfl rfl rfl (by rw[hy2];omega) Zl (Nat.le_refl _) ?_);intro w1 hown1 hgrow1)
 generalize w.alloc (.cells #[.int .i64 (m:Int),.int .i64 (k:Int),.slice va N vc] 148)=w0 at*;have HO1:Hid (Os w1 w0.heap.size 36 5 (.slice (some ⟨w0.heap.size,0,none⟩) 0 K) []):=⟨[],hown1,RowsO.nil _ _ _ _ _⟩;have HB1:Hid (Below w0.heap.size w0 w1):=(Below.refl _ _).grown hgrow1 (Nat.le_refl _) (fun q hq=>by cases hq);clear hown1 hgrow1;obtain⟨B,hBB⟩:∃B,Hid (B=w0.heap.size):=⟨_,rfl⟩;have hsB:w.heap.size<B:=by rw[hBB.out];omega
 rw[<-hBB.out]at HO1;rw[<-s0,<-hBB.out];have h0:=h.below B0;have hA0:=hA.below B0;have hF0:=hF.below B0;rw[<-hBB.out]at HB1;have X1:∀wr,Below B w0 wr->Box wr w.heap.size (m:Int) (k:Int) (.slice va N vc):=fun wr hb=>X0.below hsB hb
 have D1:∀wr,Below B w0 wr->Rs wr (.slice (some ⟨db,doff,none⟩) k dc) L:=fun wr hb=>h0.below (by rw[<-hBB.out];exact hb)
 have A1:∀wr,Below B w0 wr->Rd wr (.slice va N vc) (flat m k F):=fun wr hb=>hA0.below (by rw[<-hBB.out];exact hb)
 have F1:∀wr,Below B w0 wr->FieldAt wr b:=fun wr hb=>hF0.below (by rw[<-hBB.out];exact hb)
 have HX:Hid _:=X1;have HD:Hid _:=D1;have HA:Hid _:=A1;have HF:Hid _:=F1;have HB0:Hid (Below w.heap.size w w0):=B0;have hbB:b<B:=by have:=hF.lt;omega
 have hdB:db<B:=Zo
 have hsz:B<=w1.heap.size:=by rw[hBB.out];exact HB1.out.size
 clear X1 D1 A1 F1 h0 hA0 hF0 h hA hF X0 B0 s0;have hS1:=hS.1;have hSk:Hid (∀i,(ro L i).length<=300):=hS.2;have hEv:Hid (Even L):=hE;clear hS hE hN;go_wp2
 go_loopw [7,23] (fun o i wr=>∃c:Nat,c<=k/\i= .int .i64 c/\Os wr B 36 5 o (L.take c)/\Below B w0 wr) (fun _ i _=>k-(intOf i).toNat)
 case atStart=>exact⟨0,Zo,rfl,HO1.out,HB1.out⟩
 case round=>
  obtain⟨c,hc,rfl,hO,hB⟩:=hrel;clear HO1 HB1;have hszr:B<=wr.heap.size:=by rw[hBB.out];exact hB.size
  by_cases hlt:c<k
  ·have hlL:c<L.length:=by rw[hLh.out];exact hlt
   obtain⟨xa,xc,c1,r1⟩:=(HD.out _ hB).get hlL;have hlt':(c:Int)<(k:Int):=Zo
   have hln:=hSk.out c;obtain⟨p,hp⟩:∃p,Hid (p=ro L c):=⟨_,rfl⟩;have HT:Hid (L.take (c+1)=L.take c++[p]):=by show _=_;rw[hp.out];exact take_next hlL
   have HL:Hid ((L.take c).length=c):=by show _=_;rw[List.length_take];omega
   rw[<-hp.out]at c1 r1 hln;obtain⟨av,cv,ev⟩:=hO.form;rw[HL.out]at ev;subst ev;have hdw:db<wr.heap.size:=Zo
   clear hp
   go_wp2_with fail
   refine(cop_any r1 Zo).mono ?_
   rintro e w5 ⟨g,rfl,hg,hR,b5⟩
   go_wp2_with (at_builtin;go_loud (refine wpList_append_os rfl (.tmp 27) (.tmp 30) 106 rfl B 36 i1 Tryz.underlying106 hj hy0 hy1 hy2 5 (.slice av c cv) (L.take c) rfl hO b5 (.slice (some ⟨g,0,none⟩) p.length p.length) p (OwnP.row hR hszr) (by intro q hq;cases hq;exact hg) _ 1 rfl (by rw[HL.out];omega) hszr ?_);intro v' w6 hv6 hb6 _ _)
   rw[<-HT.out]at hv6;have HBn:Hid (Below B w0 w6):=hB.trans hb6;have HOn:Hid (Os w6 B 36 5 v' (L.take (c+1))):=hv6;clear hB hb6 hv6 hO hR b5 c1 r1;go_roundw
   case rel=>exact⟨c+1,Zo,Zg,HOn.out,HBn.out⟩
   exact z11_2
  ·have hge:¬(c:Int)<(k:Int):=by omega
   have e:L.take c=L:=by rw[show c=L.length by rw[hLh.out];omega,List.take_length]
   rw[e]at hO;clear e
   go_wp2_with fail
   refine(add0_any _).mono ?_
   rintro e w6 ⟨fb,rfl,cf,hfb,hfl,b6⟩;have hO6:=hO.later b6;have hB6:Below B w0 w6:=hB.trans (b6.mono hszr);have ho6:Hid (u7.ownBlock≠some fb):=by
    obtain⟨vals,hv,_⟩:=hO;intro e;have:=(World.ownsRow.lt hv _ e).2;omega
   clear hO hB b6;have x0:=(HX.out _ hB6).c0;go_wp2;clear x0
   go_loopw [7,37] (fun o i wr=>∃r:Nat,r<=m/\i= .int .i64 r/\Os wr B 36 5 o (L++mkL r (parR k F L))/\Below B w0 wr/\wr.cell? ⟨fb,0,none⟩=some (.pointer (some ⟨b,0,none⟩))/\fb<wr.heap.size/\o.ownBlock≠some fb) (fun _ i _=>m-(intOf i).toNat)
   case atStart=>exact⟨0,Zo,rfl,by simpa[mkL]using hO6,hB6,cf,hfl,ho6.out⟩
   case round=>
    clear hO6 hB6 cf hfl ho6 hszr hfb;obtain⟨r,hr,rfl,hO,hB,cf,hfl,hof⟩:=hrel;obtain⟨wo,hwo⟩:∃wo,wo=wr:=⟨_,rfl⟩;subst hwo;have hszr:B<=wo.heap.size:=by rw[hBB.out];exact hB.size
    by_cases hlt2:r<m
    ·have hlt2':(r:Int)<(m:Int):=by omega
     have h0L:0<L.length:=by rw[hLh.out];omega
     obtain⟨ya,yc,c0,r0⟩:=(HD.out _ hB).get h0L;rw[Nat.add_zero]at c0;obtain⟨n,hn⟩:∃n,Hid (n=(ro L 0).length):=⟨_,rfl⟩;have hn3:n<=300:=by rw[hn.out];exact hSk.out 0
     rw[<-hn.out]at c0 r0;have h0k:(0:Int)<(k:Int):=Zo
     have hdw:db<wo.heap.size:=Zo
     have hbw:b<wo.heap.size:=Zo
     have hBg:B<=wo.heap.size:=hszr;have HLen:Hid ((L++mkL r (parR k F L)).length=k+r):=by show _=_;rw[List.length_append,mkL_length,hLh.out]
     obtain⟨av,cv,ev⟩:=hO.form;rw[HLen.out]at ev;subst ev;clear r0
     go_wp2_with (at_make;go_loud (refine wpList_make_full _ rfl (.tmp 43) (.tmp 43) 36 rfl B 5 i0 (.int .u8 0) 1 Tryz.underlying36 hi hz0 hz1 _ _ _ _ n rfl rfl Zo Zo (by rw[hz2];omega) Zl hszr ?_);intro w7 hown7 hgrow7)
     have R7:=RowF.made hown7;have b7:Below wo.heap.size wo w7:=(Below.refl _ _).grown hgrow7 (Nat.le_refl _) (fun q hq=>by cases hq);clear hown7 hgrow7 c0;obtain⟨g,hg⟩:∃g,Hid (g=wo.heap.size):=⟨_,rfl⟩;rw[<-hg.out]at R7;rw[<-hg.out];have hgB:B<=g:=by rw[hg.out];exact hszr
     have hgr:wo.heap.size<=g:=by rw[hg.out];exact Nat.le_refl _
     have hbg:b≠g:=Zo
     have hfg:fb≠g:=by have:=hg.out;omega
     have cf7:=(b7.cell (p:=⟨fb,0,none⟩) hfl).trans cf;have hfl7:fb<w7.heap.size:=Nat.lt_of_lt_of_le hfl b7.size;have hB7:Below B w0 w7:=hB.trans (b7.mono hszr);have HW:Hid (∀j,j<k->∃xa xc,wo.cell? ⟨db,doff+j,none⟩=some (.slice xa (ro L j).length xc)/\Rd wo (.slice xa (ro L j).length xc) (ro L j)):=fun j hj=>(HD.out _ hB).get (by rw[hLh.out];exact hj)
     have hO':Hid _:=hO;clear hO
     go_loopw [47] (fun i w8=>∃j:Nat,j<=k/\i= .int .i64 j/\Only g w7 w8/\RowF w8 B 5 g n n (wd F L r j)) (fun i _=>k-(intOf i).toNat)
     case atStart=>exact⟨0,Zo,rfl,Only.refl _ _,R7⟩
     case round=>
      obtain⟨w8,hw8⟩:∃w8,w8=wr:=⟨_,rfl⟩;subst hw8;clear R7;obtain⟨j,hj2,rfl,hO8,R8⟩:=hrel;have hB8:Below B w0 w8:=hB7.trans (hO8.below hgB);have b8:Below wo.heap.size wo w8:=b7.trans (hO8.below hgr)
      by_cases hlt3:j<k
      ·have hlt3':(j:Int)<(k:Int):=by omega
       obtain⟨xa,xc,cj,rj⟩:=HW.out j hlt3;have hap:Apart g (.slice xa (ro L j).length xc):=rj.apart hgr;have cj8:=(b8.cell (p:=⟨db,doff+j,none⟩) hdw).trans cj;have rj8:=rj.below b8;have X8:=HX.out _ hB8;have x1:=X8.c1;have x2:=X8.c2;obtain⟨T,hT⟩:∃T,Hid (T=r*k+j):=⟨_,rfl⟩;have hTN:T<N:=by rw[hT.out,hNm.out];exact place_lt hlt2 hlt3
       have hNs:N<=65536:=by rw[hNm.out];exact mul_small Zo Zo
       obtain⟨o',ho'⟩:∃o',Hid (o'=r*k):=⟨_,rfl⟩;have hoT:o'+j=T:=by rw[ho'.out,hT.out]
       have g1:(r:Int)*(k:Int)=(o':Int):=by rw[ho'.out];exact_mod_cast rfl
       have g2:(o':Int)+(j:Int)=(T:Int):=Zo
       have v1:IntKind.i64.wrap (o':Int)=(o':Int):=Zw
       have v2:IntKind.i64.wrap (T:Int)=(T:Int):=Zw
       obtain⟨ab,ao,eva,hab,ca⟩:=(HA.out _ hB8).byte (i:=T) (by rw[flat_length,<-hNm.out];exact hTN);have eT:co (flat m k F) T=F r j:=by rw[hT.out];exact en_flat F hlt2 hlt3
       rw[eT]at ca;subst eva;have hTN':(T:Int)<(N:Int):=Zo
       have hlen:(ro L j).length=n:=by rw[hn.out];exact hEv.out j (by rw[hLh.out];exact hlt3)
       rw[hlen]at cj8 rj8 hap;have hF8:=HF.out _ hB8;have cf8:=(hO8.cell (p:=⟨fb,0,none⟩) hfg).trans cf7;have hfl8:fb<w8.heap.size:=by rw[hO8.size];exact hfl7
       have hlen':Hid _:=hlen;have hO8':Hid _:=hO8;have R8':Hid _:=R8;clear hlen cj rj X8 hB8 b8 eT hoT cf7 cf hO8 R8
       go_wp2_with fail
       refine(add1_any (F r j) hF8 hbg cf8 hfg hfl8 R8'.out rj8 hap hlen'.out Zo rfl).mono ?_
       rintro e w9 ⟨rfl,hO9,hR9⟩;have HN1:Hid (RowF w9 B 5 g n n (wd F L r (j+1))):=hR9.congr fun t ht=>by rw[wd_succ];exact if_pos ht
       have HN2:Hid (Only g w7 w9):=hO8'.out.trans hO9;clear hO9 hR9 hF8 rj8 hap cj8 ca x1 x2 cf8 hfl8 hO8' R8';go_wp2;go_roundw
       case rel=>exact⟨j+1,Zo,Zg,HN2.out,HN1.out⟩
       exact z11_2
      ·have hge3:¬(j:Int)<(k:Int):=by omega
       have ej:j=k:=Zo
       rw[ej]at R8;clear ej;have hx8:=OwnP.rowF R8;have eP:upto (wd F L r k) n=parR k F L r:=by rw[hn.out];rfl
       rw[eP]at hx8;have cf8:=(hO8.cell (p:=⟨fb,0,none⟩) hfg).trans cf7;have hfl8:fb<w8.heap.size:=by rw[hO8.size];exact hfl7
       have hS8:wo.heap.size<w8.heap.size:=by have:=R8.lt.2;omega
       clear R8 cf7 cf eP
       go_wp2_with (at_builtin;go_loud (refine wpList_append_os rfl (.tmp 67) (.tmp 69) 106 rfl B 36 i1 Tryz.underlying106 hj hy0 hy1 hy2 5 (.slice av (k+r) cv) (L++mkL r (parR k F L)) rfl hO'.out b8 (.slice (some ⟨g,0,none⟩) n n) (parR k F L r) hx8 (by intro q hq;cases hq;exact hgr) _ 1 rfl (by rw[HLen.out];omega) hszr ?_);intro v' w9 hv9 hb9 hq9 hf9)
       have HOn:Hid (Os w9 B 36 5 v' (L++mkL (r+1) (parR k F L))):=by
        show Os _ _ _ _ _ _
        rw[mkL_succ,<-List.append_assoc];exact hv9
       have HBn:Hid (Below B w0 w9):=hB.trans hb9;have HCn:Hid (w9.cell? ⟨fb,0,none⟩=some (.pointer (some ⟨b,0,none⟩))):=(World.cell?_of_block (w:=w8) (a:=⟨fb,0,none⟩) (hq9 fb hfl8 hof)).trans cf8;have HFn:Hid (v'.ownBlock≠some fb):=hf9 fb hfl8 hof;have HLn:Hid (fb<w9.heap.size):=Nat.lt_of_lt_of_le hfl hb9.size;clear hv9 hb9 hq9 hf9 hx8 cf8 hfl8 hB8 b8 hO8 hB hB7 b7 hO' hof;go_wp2;go_roundw
       case rel=>exact⟨r+1,Zo,Zg,HOn.out,HBn.out,HCn.out,HLn.out,HFn.out⟩
       exact z11_2
    ·have hge2:¬(r:Int)<(m:Int):=by omega
     have er:r=m:=Zo
     rw[er]at hO;have HR:Hid (FarL wo w.heap.size u7 (encL m k F L)):=⟨_,_,hO.base Zo⟩;have HBn:Hid (Below w.heap.size w wo):=HB0.out.trans (hB.mono Zo);clear hO hB cf hof er;go_wp2;go_ret;exact⟨_,rfl,HR.out,HBn.out⟩
def fl(L:List (List UInt8)):Int:=if L.length=0 then-1 else (((ro L 0).length:Nat):Int)
theorem fl_pos{L:List (List UInt8)}(h:0<L.length):fl L=(((ro L 0).length:Nat):Int):=if_neg Zo
theorem even_nil:Even []:=fun i hi=>by simp at hi
theorem Even.push{L:List (List UInt8)}{p:List UInt8}(h:Even L)(hp:0<L.length->p.length=(ro L 0).length):Even (L++[p]):=by
 intro i hi;rw[List.length_append]at hi;simp at hi
 by_cases h0:L.length=0
 ·have:L=[]:=List.length_eq_zero_iff.1 h0
  subst this;rw[show i=0 by simp at hi;omega]
 ·rw[ro_append_left (i:=0) Zo]
  by_cases e:i<L.length
  ·rw[ro_append_left e];exact h i e
  ·rw[ro_append_right Zo,show i-L.length=0 by omega];exact hp Zo
theorem fl_push{L:List (List UInt8)}{p:List UInt8}:fl (L++[p])=if L.length=0 then ((p.length:Nat):Int)else fl L:=by
 rw[fl_pos Zs]
 by_cases h0:L.length=0
 ·rw[if_pos h0]
  have:L=[]:=List.length_eq_zero_iff.1 h0
  subst this;rfl
 ·rw[if_neg h0,ro_append_left Zo,fl_pos Zo]
theorem Even.left{L M:List (List UInt8)}(h:Even (L++M)):Even L:=fun i hi=>by
 have:=h i (by rw[List.length_append];omega);rwa[ro_append_left hi,ro_append_left Zo]at this
theorem take_push{M:List (List UInt8)}{k:Nat}(h:k<M.length):M.take (k+1)=M.take k++[ro M k]:=by
 rw[List.take_add_one,ro_some h];rfl
theorem not_even{L M:List (List UInt8)}{k:Nat}(hk:k<M.length)(h0:0<(L++M.take k).length)(hne:(ro M k).length≠(ro (L++M.take k) 0).length):¬Even (L++M):=by
 intro h;have h1:=h (L.length+k) (by rw[List.length_append];omega);rw[ro_append_right Zo,show L.length+k-L.length=k by omega]at h1;apply hne;rw[h1]
 have:L++M=(L++M.take k)++M.drop k:=by rw[List.append_assoc,List.take_append_drop]
 rw[this,ro_append_left h0]
def ahead(A B:List (List UInt8))(c:Nat):List (List UInt8):=if c=0 then []else if c=1 then A else A++B
def nth(A B:List (List UInt8))(c:Nat):List (List UInt8):=if c=0 then A else B
theorem ahead_step{A B:List (List UInt8)}{c:Nat}(h:c<2):ahead A B c++nth A B c=ahead A B (c+1):=by
 rcases c with _|_|c
 ·rfl
 ·rfl
 ·omega
theorem ahead_all{A B:List (List UInt8)}{c:Nat}(h:c<2)(hE:Even (A++B)):Even (ahead A B c++nth A B c):=by
 rw[ahead_step h]
 rcases c with _|_|c
 ·exact hE.left
 ·exact hE
 ·omega
theorem z11_1{p:Prop} (h:p:=by
 go_wp2
 go_round
 case rel=>exact⟨k+1,Zo,Zg,rfl,by rw[e2.out],e3⟩
 exact z11_2
 ):p:=h
theorem one_any{v0 v1:Value}{A B:List (List UInt8)}{w:World}{g:Nat}(hA:Rs w v0 A)(hB:Rs w v1 B)(k0:w.cell? ⟨g,0,none⟩=some v0)(k1:w.cell? ⟨g,1,none⟩=some v1):
  Calls Tryz.prog 160 #[.slice (some ⟨g,0,none⟩) 2 2] w fun e w'=>e= .returned (.bool (decide (Even (A++B))))/\w'=w:=by
 have hN:Hid (∀c,c<2->∃a n,n=(nth A B c).length/\∃cap,w.cell? ⟨g,c,none⟩=some (.slice a n cap)/\Rs w (.slice a n cap) (nth A B c)):=by
  intro c hc
  rcases c with _|_|c
  ·obtain⟨a,cap,rfl⟩:=hA.form;exact⟨a,_,rfl,cap,k0,hA⟩
  ·obtain⟨a,cap,rfl⟩:=hB.form;exact⟨a,_,rfl,cap,k1,hB⟩
  ·omega
 clear hA hB k0 k1
 go_enter Tryz.func160,Tryz.ntmps160
 go_wp2;go_step3;go_wp2;go_step3;go_wp2
 go_loop [3,4,11] (fun x s i=>∃c:Nat,c<=2/\i= .int .i64 c/\s= .bool true/\x= .int .i64 (fl (ahead A B c))/\Hid (Even (ahead A B c))) (fun _ _ i=>2-(intOf i).toNat)
 case atStart=>exact⟨0,Zo,rfl,rfl,rfl,even_nil⟩
 case round=>
  obtain⟨c,hc,rfl,rfl,rfl,hE⟩:=hrel
  by_cases hlt:c<2
  ·obtain⟨a,n,hn,cap,kc,hM⟩:=hN.out c hlt;obtain⟨M,hMM⟩:∃M,Hid (M=nth A B c):=⟨_,rfl⟩;obtain⟨J,hJ⟩:∃J,Hid (J=ahead A B c):=⟨_,rfl⟩;rw[<-hMM.out]at hM hn;rw[<-hJ.out]at hE ⊢;subst hn;have hml:=hM.len;unfold maxLen at hml;have hlt':(c:Int)<2:=by omega
   go_wp2
   go_loop [3,4,17] (fun x s i=>∃k:Nat,k<=M.length/\i= .int .i64 k/\s= .bool true/\x= .int .i64 (fl (J++M.take k))/\Hid (Even (J++M.take k))) (fun _ _ i=>M.length-(intOf i).toNat)
   case atStart=>exact⟨0,Zo,rfl,rfl,Zs,by simpa using hE⟩
   case round=>
    obtain⟨k,hk,rfl,rfl,rfl,hE2⟩:=hrel;clear hE
    by_cases hkm:k<M.length
    ·obtain⟨b,off,xa,xc,rfl,hb,c1,r1⟩:=hM.at hkm;have hkm':(k:Int)<(M.length:Int):=by omega
     by_cases h0:(J++M.take k).length=0
     ·have e1:fl (J++M.take k)= -1:=if_pos h0;have e2:Hid (fl (J++M.take (k+1))=(((ro M k).length:Nat):Int)):=by
       show _=_
       rw[take_push hkm,<-List.append_assoc,fl_push,if_pos h0]
      have e3:Hid (Even (J++M.take (k+1))):=by
       show Even _
       rw[take_push hkm,<-List.append_assoc];exact hE2.out.push fun h=>Zo
      rw[e1];clear e1 h0 hE2 hM r1;exact z11_1
     ·have e1:fl (J++M.take k)=(((ro (J++M.take k) 0).length:Nat):Int):=fl_pos Zo;have hneg:¬(((ro (J++M.take k) 0).length:Nat):Int)<0:=by omega
      by_cases e:(ro M k).length=(ro (J++M.take k) 0).length
      ·have e2:Hid (fl (J++M.take (k+1))=(((ro (J++M.take k) 0).length:Nat):Int)):=by
        show _=_
        rw[take_push hkm,<-List.append_assoc,fl_push,if_neg h0,e1]
       have e3:Hid (Even (J++M.take (k+1))):=by
        show Even _
        rw[take_push hkm,<-List.append_assoc];exact hE2.out.push fun h=>e
       rw[e1];generalize (ro (J++M.take k) 0).length=f0 at*;have hb:(((ro M k).length:Int)!=(f0:Int))=false:=by simp[e]
       clear e1 h0 hE2 hM r1 e;exact z11_1
      ·have E:Hid (decide (Even (A++B))=false):=by
        refine decide_eq_false fun h=>?_
        have:=ahead_all hlt h;rw[<-hJ.out,<-hMM.out]at this;exact not_even hkm Zo e this
       rw[e1];generalize (ro (J++M.take k) 0).length=f0 at*;have hb:(((ro M k).length:Int)!=(f0:Int))=true:=Zm
       clear e1 h0 hE2 hM r1 e;go_wp2;go_ret;exact⟨by rw[E.out];rfl,rfl⟩
    ·have hge:¬(k:Int)<(M.length:Int):=by omega
     have hkk:k=M.length:=Zo
     have e2:Hid (J++M.take k=ahead A B (c+1)):=by
      show _=_
      rw[hkk,List.take_length,hJ.out,hMM.out];exact ahead_step hlt
     rw[e2.out]at hE2 ⊢;clear hM hkk;go_wp2
     go_round
     case rel=>exact⟨c+1,Zo,Zg,rfl,rfl,hE2⟩
     exact z11_2
  ·have hge:¬(c:Int)<2:=by omega
   have E:Hid (decide (Even (A++B))=true):=by
    rw[show c=2 by omega]at hE;exact decide_eq_true hE.out
   clear hN hE;go_wp2;go_ret;exact⟨by rw[E.out];rfl,rfl⟩
def OkS(A B:List (List UInt8))(many:Int):Prop:=(A.length:Int)=many/\Even (A++B)
theorem chkd_ok{b:Nat}{k m:Nat}{many:Int}{v vo:Value}{A B:List (List UInt8)}{w:World}(hF:FieldAt w b)(h1:1<=k)(h2:k+m<=256)(hA:Rs w v A)(hB:Rs w vo B)(h:OkS A B many){x y:Int}(hx:x=(k:Int))(hy:y=(m:Int)):
  Calls Tryz.prog 129 #[.pointer (some ⟨b,0,none⟩),.int .i64 x,.int .i64 y,.int .i64 many,v,vo] w (MakesM w m k (parF k)):=by
 subst hx hy;obtain⟨a1,c1,rfl⟩:=hA.form;obtain⟨a2,c2,rfl⟩:=hB.form
 go_enter Tryz.func129,Tryz.ntmps129
 have A0:Below w.heap.size w (w.alloc (.cells #[.int .i64 0,.int .i64 0,.slice none 0 0] 148)):=(Below.refl _ _).alloc (Nat.le_refl _) _
 go_wp2_with fail
 refine(cpar_at k m (hF.below A0) h1 h2 rfl rfl).mono ?_
 rintro e w2 ⟨g,M,rfl,hg,hR,b2⟩;simp at hg;have X3:Box w2 w.heap.size 0 0 (.slice none 0 0):=Below.box b2 Zn (Box.new w 0 0 (.slice none 0 0) 148);have F3:Free w2 w.heap.size:=Below.free b2 Zn (Free.new w #[.int .i64 0,.int .i64 0,.slice none 0 0] 148);have hs2:w.heap.size<w2.heap.size:=by have:=b2.size;simp at this;omega
 have B2:Below w.heap.size w w2:=Below.next A0 b2;have hA2:=hA.below B2;have hB2:=hB.below B2;clear hF A0 b2 hA hB;have x30:=X3.c0;have x31:=X3.c1;have x32:=X3.c2;have f30:=F3.f0;have f31:=F3.f1;have f32:=F3.f2;have hE:Hid (decide (Even (A++B))=true):=decide_eq_true h.2;have hb:((A.length:Int)!=many)=false:=by simp[h.1]
 clear h
 go_wp2_with fail
 refine(one_any (A:=A) (B:=B) (hA2.below (by repeat (first|exact Below.refl _ _|apply below_lit))) (hB2.below (by repeat (first|exact Below.refl _ _|apply below_lit))) Zs Zs).mono ?_
 rintro e w3 ⟨rfl,rfl⟩;rw[hE.out];clear hA2 hB2;go_wp2;have O1:Only w.heap.size w2 (((w2.setCell ⟨w.heap.size,0,none⟩ (.int .i64 (m:Int))).setCell ⟨w.heap.size,1,none⟩ (.int .i64 (k:Int))).setCell ⟨w.heap.size,2,none⟩ (.slice (some ⟨g,0,none⟩) M M)):=
  (((Only.refl _ _).setCell 0 _).setCell 1 _).setCell 2 _
 have R2:=hR.only (apart_block (g:=w.heap.size) Zo) O1;have B3:=B2.trans (O1.below (Nat.le_refl _));have s3:=O1.size;refine bodyPost_ret (v:=.tuple #[.agg #[.int .i64 (m:Int),.int .i64 (k:Int),.slice (some ⟨g,0,none⟩) M M],.int .i64 0]) (by simp[results,Tryz.results129,go_sem,x30,x31,x32,f30,f31,f32,hs2]) rfl ⟨_,rfl,R2.below (by repeat (first|exact Below.refl _ _|apply below_lit)),by repeat (first|exact B3|apply below_lit)⟩
theorem enc_far{b:Nat}{k m:Nat}{v:Value}{L:List (List UInt8)}{w:World}(hF:FieldAt w b)(h1:1<=k)(h2:k+m<=256)(h:Rs w v L)(hL:L.length=k)(hE:Even L)(hS:Small L){x y:Int}(hx:x=(k:Int))(hy:y=(m:Int)):
  Calls Tryz.prog 89 #[.pointer (some ⟨b,0,none⟩),.int .i64 x,.int .i64 y,v] w (MakesFar w 0 (encL m k (parF k) L)):=by
 subst hx hy
 go_enter Tryz.func89,Tryz.ntmps89
 go_wp2_with fail
 refine(chkd_ok hF h1 h2 h rs_none (B:=[]) ⟨by rw[hL],by rw[List.append_nil];exact hE⟩ rfl rfl).mono ?_
 rintro e w2 ⟨vs,rfl,hR,b2⟩;have A2:Below w2.heap.size w2 (w2.alloc (.cells #[.int .i64 (m:Int),.int .i64 (k:Int),vs] 148)):=(Below.refl _ _).alloc (Nat.le_refl _) _;have B2:Below w.heap.size w (w2.alloc (.cells #[.int .i64 (m:Int),.int .i64 (k:Int),vs] 148)):=below_lit b2 _;have HD:=encd_far m k (parF k) (hF.below B2) (hR.below A2) h1 h2 (h.below B2) hL hE hS rfl rfl;obtain⟨va,vc,rfl⟩:=hR.form;obtain⟨da,dc,rfl⟩:=h.form;clear hF h hR hE hS b2 A2 hL
 go_wp2_with fail
 refine HD.mono ?_
 rintro e w3 ⟨v',rfl,hR3,b3⟩;replace hR3:=hR3.rebase B2.size;have HB:Hid _:=Below.next B2 b3;clear HD b3 B2;obtain⟨xa,xc,rfl⟩:=hR3.form;go_wp2;exact bodyPost_ret (v:=.tuple #[.slice xa (encL m k (parF k) L).length xc,.int .i64 0]) (by simp[results,Tryz.results89,go_sem]) rfl ⟨_,rfl,hR3,HB.out⟩
end Go.Proofs.YtddnfhfangfgeaaGreat.Gf
