/- JOINED: WdCE, WdOs, WdCG, WdCH. -/
import Derived.Test.YtddnfhfangfgeaaGreatPome14
import Derived.Test.YtddnfhfangfgeaaGreatPome12
set_option maxHeartbeats 4000000
set_option maxRecDepth 100000
namespace Go.Proofs.YtddnfhfangfgeaaGreat.Gf
set_option linter.unusedVariables false
set_option linter.unusedSimpArgs false
open Go.RowKit
def Makes10(w:World)(X:Int)(R:List UInt8)(P:List Nat)(e:Ending)(w':World):Prop:=∃va vd,e= .returned (.tuple #[va,vd,.int .i64 X])/\Rd w' va R/\OwnI w' w.heap.size 3 vd P/\Below w.heap.size w w'/\Far w.heap.size va
theorem key_small{s known:List UInt8}{X:Int}{A O:List UInt8}(h:KeyAns s known X A O)(hs:s.length<=256)(hk:known.length<=257):A.length<=257/\O.length<=1000:=by
 rcases h with⟨_,_,rfl,rfl⟩|⟨_,t,L,hl,_,rfl,rfl⟩|⟨_,_,_,rfl,rfl⟩
 ·simp
 ·have hf:=hl.few;refine⟨by rw[upto_length];omega,?_⟩;unfold evaL;rw[mk_length];have:=deg_le (fun i=>conv L (keP s known) (s.length+i)) (t+1+(known.length+s.length));omega
 ·simp
theorem der_small{p q:List UInt8}{a b:Nat}(hp:p.length<=a)(hq:q.length<=b):(mulP p q).length<=a+b/\(derP (mulP p q)).length<=a+b:=by
 have h1:(mulP p q).length<=p.length+q.length:=by unfold mulP;rw[mk_length];exact deg_le _ _
 have h2:(derP (mulP p q)).length<=(mulP p q).length:=by
  have:(derP (mulP p q)).length<=(mulP p q).length:=by
   unfold derP;rw[mk_length];exact deg_le _ _
  exact this
 omega
theorem key_all{k m:Nat}{z:List UInt8}{ms:List Bool}{X:Int}{A O:List UInt8}(h2:k+m<=256)(he:cnt (hb ms) (k+m)<=m)(hK:KeyAns (upto (synF k m (co z)) m) (locL (ptsL (plc (hb ms) (k+m)))) X A O):
  (X≠0->¬IsNear k m z ms)/\(cnt (rtF A (hb ms)) (k+m)+1<A.length->¬IsNear k m z ms)/\
  (X=0->A.length<=cnt (rtF A (hb ms)) (k+m)+1->Near k m (co z) (hb ms) (rtW k m (co z) A O (derP (mulP A (locL (ptsL (plc (hb ms) (k+m)))))) (hb ms))/\plc (rtF A (hb ms)) (k+m)=plc (wrg (co z) (rtW k m (co z) A O (derP (mulP A (locL (ptsL (plc (hb ms) (k+m)))))) (hb ms)) (hb ms)) (k+m))/\
  A.length<=257/\O.length<=1000/\(X=0∨X=100):=by
 have hl:=key_small hK (by rw[upto_length];omega) (by unfold locL ptsL;rw[locN_length,List.length_map,plc_length];omega);refine⟨fun hx ⟨c,hc⟩=>hx (near_roots h2 hc hK).1,fun hx ⟨c,hc⟩=>?_,fun hx hr=>?_,hl.1,hl.2,?_⟩
 ·have:=(near_roots h2 hc hK).2.2;omega
 ·subst hx;exact⟨(roots_near h2 hK hr).1,roots_told h2 hK hr⟩
 ·rcases hK with⟨b,_⟩|⟨_,_,_,_,h,_⟩|⟨_,_,h,_⟩
  ·exfalso;unfold BadK ptsL at b;rw[find_norm,upto_length,List.length_map,plc_length]at b;omega
  ·exact Or.inl h
  ·exact Or.inr h
def fixF(z d:Nat->UInt8)(L:List Nat)(t:Nat):UInt8:=z t^^^(if t∈L then d t else 0)
theorem fix_zero(z d:Nat->UInt8):fixF z d []=z:=by funext t;simp[fixF]
theorem take_next10{L:List Nat}{r:Nat}(hr:r<L.length):L.take (r+1)=L.take r++[L.getD r 0]:=by
 rw[List.take_add_one,List.getElem?_eq_getElem hr];simp[List.getD,hr]
theorem fix_new{L:List Nat}{r:Nat}(hn:L.Nodup)(hr:r<L.length):L.getD r 0 ∉ L.take r:=by
 intro h;obtain⟨j,hj,e⟩:=List.getElem_of_mem h;rw[List.length_take]at hj;rw[List.getElem_take]at e;have e2:L.getD r 0=L[r]:=by simp[List.getD,hr]
 rw[e2]at e;have:=List.pairwise_iff_getElem.1 hn j r Zo hr Zo;exact this e
theorem fix_step{z d:Nat->UInt8}{L:List Nat}{r:Nat}(hn:L.Nodup)(hr:r<L.length)(t:Nat):fixF z d (L.take (r+1)) t=if t=L.getD r 0 then z (L.getD r 0)^^^d (L.getD r 0)else fixF z d (L.take r) t:=by
 unfold fixF;rw[take_next10 hr]
 by_cases e:t=L.getD r 0
 ·rw[if_pos e,e,if_pos Zs]
 ·rw[if_neg e];simp only[List.mem_append,List.mem_singleton,e,or_false]
theorem fix_old{z d:Nat->UInt8}{L:List Nat}{r:Nat}(hn:L.Nodup)(hr:r<L.length):fixF z d (L.take r) (L.getD r 0)=z (L.getD r 0):=by
 unfold fixF;rw[if_neg (fix_new hn hr),x_zero]
theorem fix_nodup{p q:Nat->Bool}{n:Nat}(h:∀i,q i=true->p i=false):(plc p n++plc q n).Nodup:=by
 rw[List.nodup_append];exact⟨plc_nodup p n,plc_nodup q n,fun a ha b hb hab=>by
  subst hab;have:=h a (plc_mem.1 hb).2;rw[(plc_mem.1 ha).2]at this;cases this⟩
theorem fix_end{k m:Nat}{z:Nat->UInt8}{A O D:List UInt8}{ms:Nat->Bool}{t:Nat}(ht:t<k+m):fixF z (dfF k m O D) (plc ms (k+m)++plc (rtF A ms) (k+m)) t=rtW k m z A O D ms t:=by
 unfold fixF rtW;congr 1
 have:t∈plc ms (k+m)++plc (rtF A ms) (k+m)↔(rtF A ms t||ms t)=true:=by
  rw[List.mem_append,plc_mem,plc_mem,Bool.or_eq_true];constructor
  ·rintro(h|h)
   ·exact Or.inr h.2
   ·exact Or.inl h.2
  ·rintro(h|h)
   ·exact Or.inr ⟨ht,h⟩
   ·exact Or.inl ⟨ht,h⟩
 by_cases h:t∈plc ms (k+m)++plc (rtF A ms) (k+m)
 ·rw[if_pos h,if_pos (this.1 h)]
 ·rw[if_neg h,if_neg fun q=>h (this.2 q)]
theorem fix_in{p q:Nat->Bool}{n i:Nat}(hi:i<(plc p n++plc q n).length):(plc p n++plc q n).getD i 0<n:=by
 rcases List.mem_append.1 (getD_mem hi)with h|h
 ·exact(plc_mem.1 h).1
 ·exact(plc_mem.1 h).1
theorem Df10.only{w u W:World}{b fb sb wb eb g:Nat}{vs vw ve:Value}(h:Df10 w b fb sb wb eb vs vw ve)(hb:Below w.heap.size w u)(ho:Only g u W)(hg:w.heap.size<=g):Df10 W b fb sb wb eb vs vw ve:=by
 have l1:=h.lf;have l2:=h.ls;have l3:=h.lw;have l4:=h.le;have hs:=hb.size;have hs2:=ho.size;exact⟨(ho.cell (p:=⟨fb,0,none⟩) (show fb≠g by omega)).trans ((hb.cell (p:=⟨fb,0,none⟩) l1).trans h.cf),(ho.cell (p:=⟨sb,0,none⟩) (show sb≠g by omega)).trans ((hb.cell (p:=⟨sb,0,none⟩) l2).trans h.cs),(ho.cell (p:=⟨wb,0,none⟩) (show wb≠g by omega)).trans ((hb.cell (p:=⟨wb,0,none⟩) l3).trans h.cw),(ho.cell (p:=⟨eb,0,none⟩) (show eb≠g by omega)).trans ((hb.cell (p:=⟨eb,0,none⟩) l4).trans h.ce),Zo,Zo,Zo,Zo⟩
theorem erig1_any{w:World}{b b1 gb mb fb kb nb sb wb k m:Nat}{vg vn vm vw v:Value}{z:List UInt8}{ms:List Bool}(hF:FieldAt w b)(hR:Rt10 w b gb mb fb kb nb sb wb (k:Int) (m:Int) vg vn vm vw)
  (hG:OwnI w b1 3 vg (plc (hb ms) (k+m))) (hN:Rd w vn (locL (ptsL (plc (hb ms) (k+m))))) (hM:RdB w vm ms) (hW:Rd w vw (upto (wtF k m) (k+m))) (hz:Rd w v z) (h1:1<=k) (h2:k+m<=256) (hzl:z.length=k+m) (hml:ms.length=k+m):
  Calls Tryz.prog 167 #[v,.pointer (some ⟨gb,0,none⟩),.pointer (some ⟨mb,0,none⟩),.pointer (some ⟨fb,0,none⟩),.pointer (some ⟨kb,0,none⟩),.pointer (some ⟨nb,0,none⟩),.pointer (some ⟨sb,0,none⟩),.pointer (some ⟨wb,0,none⟩)] w (Makes10 w (wdX k m z ms) (wdR k m z ms) (wdP k m z ms)):=by
 have okc:OkC (k:Int) (m:Int):=⟨Zo,Zo,Zo⟩;have okw:OkW (k:Int) (m:Int) z ms:=⟨Zo,Zo⟩;have HMany:Hid (¬IsNear k m z ms->wdX k m z ms=100/\wdR k m z ms=[]/\wdP k m z ms=[]):=fun h=>wd_many okc okw h
 have HOk:Hid (∀c,Near k m (co z) (hb ms) c->wdX k m z ms=0/\wdR k m z ms=upto c (k+m)/\wdP k m z ms=plc (wrg (co z) c (hb ms)) (k+m)):=fun c h=>wd_ok okc okw h
 clear okc okw;have HKey:Hid (cnt (hb ms) (k+m)<=m->∀X A O,KeyAns (upto (synF k m (co z)) m) (locL (ptsL (plc (hb ms) (k+m)))) X A O->_):=fun h X A O hK=>key_all h2 h hK
 have hge:cnt (hb ms) (k+m)<=k+m:=cnt_le _ _;have hgl:(plc (hb ms) (k+m)).length=cnt (hb ms) (k+m):=plc_length _ _;have hnl:(locL (ptsL (plc (hb ms) (k+m)))).length=cnt (hb ms) (k+m)+1:=by unfold locL ptsL;rw[locN_length,List.length_map,plc_length]
 have hgm:Hid (∀i,i<(plc (hb ms) (k+m)).length->(plc (hb ms) (k+m)).getD i 0<k+m/\hb ms ((plc (hb ms) (k+m)).getD i 0)=true):=fun i hi=>plc_mem.1 (getD_mem hi)
 have hgn:Hid ((plc (hb ms) (k+m)).Nodup/\∀i,i<k+m->(i∈plc (hb ms) (k+m)↔hb ms i=true)):=⟨plc_nodup _ _,fun i hi=>by rw[plc_mem];exact⟨fun h=>h.2,fun h=>⟨hi,h⟩⟩⟩;obtain⟨ga,gc,eg⟩:=hG.form;obtain⟨na,nc,en⟩:=hN.form;subst eg en;obtain⟨Z,hZ⟩:∃Z,Hid (Z=plc (hb ms) (k+m)):=⟨_,rfl⟩;rw[<-hZ.out]at hG hN hgl hnl hgm hgn HKey hR;obtain⟨KN,hKN⟩:∃KN,Hid (KN=locL (ptsL Z)):=⟨_,rfl⟩;rw[<-hKN.out]at hN hnl HKey hR;obtain⟨ma,mc,rfl⟩:=hM.form;obtain⟨wa,wc,rfl⟩:=hW.form;obtain⟨WS,hWS⟩:∃WS,Hid (WS=upto (wtF k m) (k+m)):=⟨_,rfl⟩;rw[<-hWS.out]at hW hR;obtain⟨za,zc,rfl⟩:=hz.form;have hzl':Hid _:=hzl;have hml':Hid _:=hml;have hgl':Hid _:=hgl;have hnl':Hid _:=hnl;have h300:Z.length<=256:=Zo
 have h301:KN.length<=257:=Zo
 have cg:=hR.cg;have cm:=hR.cm
 by_cases hmany:m<Z.length
 ·have hq:(Z.length:Int)>(m:Int):=by omega
  obtain⟨e1,e2,e3⟩:=HMany.out (fun ⟨c,hc⟩=>by have:=hc.few;omega);rw[e1,e2,e3];clear hF hG hN hM hW hz e1 e2 e3 HMany HOk hmany hR hzl hml hgl hnl hge
  go_enter Tryz.func167,Tryz.ntmps167
  go_wp2;exact bodyPost_ret (v:=.tuple #[.slice none 0 0,.slice none 0 0,.int .i64 100]) (by simp[results,Tryz.results167,go_sem]) rfl ⟨_,_,rfl,rd9_nil _,OwnI.nil _ _ _,Zf,far_none⟩
 ·have hq:¬(Z.length:Int)>(m:Int):=by omega
  have HK2:=HKey.out Zo;have HK1:Hid _:=HK2;clear HK2 HKey hgl hnl hge hmany hzl hml;have cf:=hR.cf;have ck:=hR.ck
  go_enter Tryz.func167,Tryz.ntmps167
  go_wp2_with fail
  clear cf ck cm cg hq;refine(sof_ok hF h1 h2 hz hzl'.out rfl rfl).mono ?_
  rintro e u1 ⟨vs,rfl,S1,B1⟩;obtain⟨sa,sc,rfl⟩:=S1.form;rw[upto_length]at S1 ⊢;have cf1:=(hR.below B1).cf;have cn1:=(hR.below B1).cn
  go_wp2_with fail
  clear cf1 cn1;refine(ksol_any (hF.below B1) S1 (hN.below B1) (by rw[upto_length];omega) Zo).mono ?_
  rintro e u2 ⟨X,A,O,va,vo,HK,rfl,Ra,Ro,b2⟩;obtain⟨K1,K2,K3,K4,K5,K6⟩:=HK1.out X A O HK;have B2:=Below.next B1 b2;clear HK HK1 S1 b2 B1;obtain⟨aa,ac,rfl⟩:=Ra.form;obtain⟨oa,oc,rfl⟩:=Ro.form
  by_cases hX:X=0
  ·subst hX;have K2':Hid _:=K2;have K3':Hid _:=K3 rfl;clear K1 K2 K3 K6;have cf2:=(hR.below B2).cf;have cs2:=(hR.below B2).cs
   go_wp2_with fail
   clear cf2 cs2;refine(ert_any (hF.below B2) Ra (hM.below B2) (by rw[hml'.out];omega) Zo).mono ?_
   rintro e u3 ⟨vr,rfl,O3,b3⟩;rw[hml'.out]at O3;have hrl:Hid ((plc (rtF A (hb ms)) (k+m)).length=cnt (rtF A (hb ms)) (k+m)):=plc_length _ _;have hr300:(plc (rtF A (hb ms)) (k+m)).length<=256:=by rw[hrl.out];have:=cnt_le (rtF A (hb ms)) (k+m);omega
   obtain⟨ra,rc,rfl⟩:=O3.form;rw[<-hrl.out]at K2' K3';obtain⟨V,hV⟩:∃V,Hid (V=plc (rtF A (hb ms)) (k+m)):=⟨_,rfl⟩;rw[<-hV.out]at O3 hrl hr300 K2' K3' ⊢;have B3:=Below.next B2 b3
   by_cases hfew:V.length+1<A.length
   ·have hq:(V.length:Int)<(A.length:Int)-1:=by omega
    have EE:Hid _:=HMany.out (K2'.out hfew);clear hfew HOk HMany hF hR hG hN hM hW hz Ra Ro O3 K2' K3' B2 b3;go_wp2;exact bodyPost_ret (v:=.tuple #[.slice none 0 0,.slice none 0 0,.int .i64 100]) (by simp[results,Tryz.results167,go_sem]) rfl ⟨_,_,by rw[EE.out.1],by rw[EE.out.2.1];exact rd9_nil _,by rw[EE.out.2.2];exact OwnI.nil _ _ _,B3,far_none⟩
   ·have hq:¬(V.length:Int)<(A.length:Int)-1:=by omega
    obtain⟨k1,k2⟩:=K3'.out Zo;obtain⟨e1,e2,e3⟩:=HOk.out _ k1;rw[<-k2]at e3;have EE:Hid _:=And.intro e1 (And.intro e2 e3);clear e1 e2 e3 k1 k2 HOk HMany K2' K3' hfew;have Ra3:=Ra.below b3;have Ro3:=Ro.below b3;have hs2:Hid (w.heap.size<=u2.heap.size):=B2.size;clear Ra Ro b3 B2;obtain⟨D,hD⟩:∃D,Hid (D=derP (mulP A KN)):=⟨_,rfl⟩;rw[<-hD.out]at EE;have hDl:Hid (D.length<=1000):=by show _<=_;rw[hD.out];have:=(der_small (p:=A) (q:=KN) K4 h301).2;omega
    have hR3:=hR.below B3;have F3:=hF.below B3;have N3:=hN.below B3;have HC1:∀W,Below u3.heap.size u3 W->Calls Tryz.prog 173 #[.pointer (some ⟨b,0,none⟩),.slice aa A.length ac,.slice na KN.length nc] W fun e w'=>∃v,e= .returned v/\Rd w' v (mulP A KN)/\Below W.heap.size W w':=fun W h=>(pmul_any (F3.below h) (Ra3.below h) (N3.below h) Zo Zo).mono fun e w' ⟨v,h1,h2,h3⟩=>⟨v,h1,h2,h3⟩
    have HC2:∀W v,Rd W v (mulP A KN)->Calls Tryz.prog 172 #[v] W fun e w'=>∃v,e= .returned v/\Rd w' v D/\Below W.heap.size W w':=fun W v r=>(pderiv_any r (by have:=(der_small (p:=A) (q:=KN) K4 h301).1;omega)).mono fun e w' ⟨v,h1,h2,h3⟩=>⟨v,h1,by rw[hD.out];exact h2,h3⟩
    have P1:=And.intro hR3.cf (And.intro hR3.cw hR3.cn);have Q1:Hid (∀W,Below u3.heap.size u3 W->W.cell? ⟨fb,0,none⟩=some (.pointer (some ⟨b,0,none⟩))/\W.cell? ⟨wb,0,none⟩=some (.slice wa WS.length wc)/\W.cell? ⟨nb,0,none⟩=some (.slice na KN.length nc)):=fun W h=>⟨(hR3.below h).cf,(hR3.below h).cw,(hR3.below h).cn⟩
    clear F3 N3 hR3
    go_wp2_with fail
    go_region_held3 (fun wx=>wx.cell? ⟨fb,0,none⟩=some (.pointer (some ⟨b,0,none⟩))/\wx.cell? ⟨wb,0,none⟩=some (.slice wa WS.length wc)/\wx.cell? ⟨nb,0,none⟩=some (.slice na KN.length nc)) (first|exact P1|exact Q1.out _ (by first|assumption|exact Zf|exact Zf.drew)) (first
     |((go_at_call 173;go_loud (refine(HC1 _ (by first|exact Zf|exact Zf.drew)).mono ?_);rintro e w9 ⟨v9,rfl,R9,B9⟩;obtain⟨a9,c9,rfl⟩:=R9.form;have C9:Below u3.heap.size u3 w9:=Below.next Zf.drew B9))
     |((go_at_call 172;go_loud (refine(HC2 _ _ R9).mono ?_);rintro e w8 ⟨v8,rfl,R8,B8⟩;obtain⟨a8,c8,rfl⟩:=R8.form;have C8:Below u3.heap.size u3 w8:=Below.next C9 B8))
     |((go_at_call 171;go_loud (refine(edif_any _).mono ?_);rintro e w7 ⟨fq,sq,wq,eq,rfl,HD7,B7⟩;have C7:Below u3.heap.size u3 w7:=Below.next C8 B7)))
    have R7:=R8.below B7;clear R9 B9 C9 R8 B8 C8 B7 HC1 HC2 P1 Q1;have B7:=Below.next B3 C7;have Ro7:=Ro3.below C7;have O7:OwnI w7 u2.heap.size 3 (.slice ra V.length rc) V:=owns_later O3 C7;clear Ro3 Ra3 O3 C7 B3;have z0:0<z.length:=by rw[hzl'.out];omega
    go_wp2_with fail
    refine(clone_any (hz.below B7) (by rw[hzl'.out];omega) z0).mono ?_
    rintro e u8 ⟨g,gcap,rfl,R8,b8⟩;have B8:=Below.next B7 b8;have cg8:=(hR.below B8).cg;have s8:=b8.size
    go_wp2_with fail
    obtain⟨x0,hx0⟩:∃x0,Hid (x0=u8.heap.size):=⟨_,rfl⟩;obtain⟨u9,hu9⟩:∃u9,u9=u8.alloc (.cells #[.slice ga Z.length gc,.slice ra V.length rc] 45):=⟨_,rfl⟩;have b9:Below u8.heap.size u8 u9:=by rw[hu9];exact Zf.alloc Zr _
    have k91:u9.cell? ⟨x0,0,none⟩=some (.slice ga Z.length gc):=by rw[hu9,hx0.out];go_simp
    have k92:u9.cell? ⟨x0,1,none⟩=some (.slice ra V.length rc):=by rw[hu9,hx0.out];go_simp
    have l9:x0<u9.heap.size:=by rw[hu9,hx0.out];simp
    rw[<-hu9,<-hx0.out];have b79:=Below.next b8 b9;have B9:=Below.next B8 b9;refine(ccat_any k91 k92 l9 (owns_later hG B9) (owns_later O7 b79) Zo Zo).mono ?_
    rintro e u ⟨vc,rfl,OC,bC⟩;have BU:=Below.next B9 bC;have b7u:=Below.next b79 bC;have b8u:=Below.next b9 bC;obtain⟨qa,qc,rfl⟩:=OC.form;have hg7:=R8.lt;have hgx:Hid (g<x0):=by show _<_;rw[hx0.out];exact hg7.2
    have hOC:Hid (∀i,i<(Z++V).length->∃qb,qa=some ⟨qb,0,none⟩/\qb≠g/\u.cell? ⟨qb,i,none⟩=some (.int .i64 (((Z++V).getD i 0:Nat):Int))):=fun i hi=>by
     obtain⟨qb,e1,_,e3,e4⟩:=OC.cell hi;have:=hgx.out;exact⟨qb,e1,Zo,e4⟩
    have RU:RowF u w7.heap.size 5 g z.length gcap (co z):=by
     exact owns_later R8 b8u
    have HD:Hid (∀W,Only g u W->∀i,i<k+m->Calls Tryz.prog 200 #[.int .i64 (i:Int),.pointer (some ⟨fq,0,none⟩),.pointer (some ⟨sq,0,none⟩),.pointer (some ⟨wq,0,none⟩),.pointer (some ⟨eq,0,none⟩)] W fun e w'=>e= .returned (.int .u8 (((dfF k m O D i).toNat:Nat):Int))/\∃n,w'=W.drewN n):=fun W ho i hi=>
     edif1_any ((hF.below BU).only (by have:=hF.lt;have:=B7.size;omega) ho) (HD7.only b7u ho hg7.1) ((R7.below b7u).only (R7.apart hg7.1) ho) (by have:=((hW.below B7).below b7u).only ((hW.below B7).apart hg7.1) ho;rw[hWS.out]at this ⊢;exact this) ((Ro7.below b7u).only (Ro7.apart hg7.1) ho) hi h2 hDl.out K5 rfl
    have HV:Hid (OwnI u w.heap.size 3 (.slice ra V.length rc) V):=ownsRow_base (owns_later O7 b7u) hs2.out;have HVb:Hid ((Value.slice ra V.length rc).ownBlock=none∨(Value.slice ra V.length rc).ownBlock≠some g):=block_apart (s:=w7.heap.size) (fun k hk=>(Zv O7 k hk).2) (fun k e=>by cases e;exact hg7.1);have hwg:Hid (w.heap.size<=g):=Nat.le_trans B7.size hg7.1;have hnd:Hid (Z++V).Nodup:=by show(Z++V).Nodup;rw[hZ.out,hV.out];exact fix_nodup fun i=>rtF_not
    have hin:Hid (∀i,i<(Z++V).length->(Z++V).getD i 0<z.length):=fun i hi=>by rw[hzl'.out];rw[hZ.out,hV.out]at hi ⊢;exact fix_in hi
    have hend:Hid (∀t,t<z.length->fixF (co z) (dfF k m O D) (Z++V) t=rtW k m (co z) A O D (hb ms) t):=fun t ht=>by rw[hzl'.out]at ht;rw[hZ.out,hV.out];exact fix_end ht
    have hLl:(Z++V).length<=1000:=by rw[List.length_append];omega
    obtain⟨L,hL⟩:∃L,L=Z++V:=⟨_,rfl⟩;rw[<-hL]at hOC hnd hin hend hLl ⊢;have BU':Hid _:=BU;clear hL OC k91 k92 l9 hu9 cg8 hx0 b9 b79 B9 bC B8 b8 R7 Ro7 O7 HD7 hF hR hG hN hM hW R8 b8u b7u B7 BU hgx
    go_wp2_with fail
    go_loopw [71] (fun x wr=>∃i:Nat,i<=L.length/\x= .int .i64 i/\Only g u wr/\RowF wr w7.heap.size 5 g z.length gcap (fixF (co z) (dfF k m O D) (L.take i))) (fun x _=>L.length-(intOf x).toNat)
    case atStart=>exact⟨0,Zo,rfl,Only.refl _ _,by rw[List.take_zero,fix_zero];exact RU⟩
    case round=>
     obtain⟨i,hi,rfl,hO,hRw⟩:=hrel
     by_cases hlt:i<L.length
     ·have hlt':(i:Int)<(L.length:Int):=by omega
      obtain⟨qb,rfl,hqg,cq⟩:=hOC.out i hlt;have cq2:=(hO.cell (p:=⟨qb,i,none⟩) hqg).trans cq;have hxl:=hin.out i hlt;have E1:=fix_old (z:=co z) (d:=dfF k m O D) hnd.out hlt;have E2:Hid _:=fix_step (z:=co z) (d:=dfF k m O D) hnd.out hlt;obtain⟨x,hx⟩:∃x,Hid (x=L.getD i 0):=⟨_,rfl⟩;rw[<-hx.out]at cq2 hxl E1 E2;have hxl':(x:Int)<(z.length:Int):=Zo
      have c1:=hRw.cell hxl;rw[E1]at c1;have f1:=hRw.unfrozen x;obtain⟨d,hd⟩:∃d,Hid (d=dfF k m O D x):=⟨_,rfl⟩;have HCx:∀n,Calls Tryz.prog 200 #[.int .i64 (x:Int),.pointer (some ⟨fq,0,none⟩),.pointer (some ⟨sq,0,none⟩),.pointer (some ⟨wq,0,none⟩),.pointer (some ⟨eq,0,none⟩)] (wr.drewN n) fun e w'=>e= .returned (.int .u8 ((d.toNat:Nat):Int))/\∃n',w'=(wr.drewN n).drewN n':=fun n=>by
       rw[hd.out];exact HD.out (wr.drewN n) (hO.drewN n) x (by rw[<-hzl'.out];exact hxl)
      have E:=xor_u8 (co z x) d;have HN:Hid (RowF (wr.setCell ⟨g,x,none⟩ (.int .u8 (((co z x).toNat^^^d.toNat:Nat):Int))) w7.heap.size 5 g z.length gcap (fixF (co z) (dfF k m O D) (L.take (i+1)))):=by
       rw[<-UInt8.toNat_xor];exact hRw.store hxl _ fun s=>by rw[hd.out];exact E2.out s
      have HO:Hid (Only g u (wr.setCell ⟨g,x,none⟩ (.int .u8 (((co z x).toNat^^^d.toNat:Nat):Int)))):=hO.setCell x _;clear hRw cq hO RU E1 E2;go_wp2
      go_region_with ((go_at_call 200;refine(HCx _).mono ?_;rintro e w' ⟨rfl,d',rfl⟩))
      all_goals go_wp2
      all_goals
       go_roundw
       case rel=>exact⟨i+1,Zo,Zg,HO.out.drewN _,HN.out.drewN _⟩
       case measure=>simp[intOf];omega
     ·have hge:¬(i:Int)<(L.length:Int):=by omega
      have ei:i=L.length:=Zo
      rw[ei,List.take_length]at hRw;clear ei RU;have HRd:Hid (Rd wr (.slice (some ⟨g,0,none⟩) z.length gcap) (upto (rtW k m (co z) A O D (hb ms)) (k+m))):=by
       show Rd _ _ _
       have:=(hRw.congr hend.out).rd;rw[hzl'.out]at this ⊢;exact this
      have HVw:Hid (OwnI wr w.heap.size 3 (.slice ra V.length rc) V):=World.ownsRow.kept HV.out hO.grown HVb.out;have HBw:Hid (Below w.heap.size w wr):=BU'.out.trans (hO.below hwg.out);clear hRw hO;go_wp2;exact bodyPost_ret (v:=.tuple #[.slice (some ⟨g,0,none⟩) z.length gcap,.slice ra V.length rc,.int .i64 0]) (by simp[results,Tryz.results167,go_sem]) rfl ⟨_,_,by rw[EE.out.1],by rw[EE.out.2.1];exact HRd.out,by rw[EE.out.2.2];exact HVw.out,HBw.out,far_some hwg.out⟩
  ·have hx:(X !=0)=true:=by simp[hX]
   have EE:Hid _:=HMany.out (K1 hX);have EX:Hid (X=100):=K6.resolve_left hX;clear K6 HOk HMany hF hR hG hN hM hW hz Ra Ro K1 K2 K3 hX;go_wp2;exact bodyPost_ret (v:=.tuple #[.slice none 0 0,.slice none 0 0,.int .i64 X]) (by simp[results,Tryz.results167,go_sem]) rfl ⟨_,_,by rw[EE.out.1,EX.out],by rw[EE.out.2.1];exact rd9_nil _,by rw[EE.out.2.2];exact OwnI.nil _ _ _,B2,far_none⟩
structure Keep(P:Nat->Prop)(w w':World):Prop where
 os:w'.os=w.os
 tape:w'.tape=w.tape
 output:w'.output=w.output
 size:w.heap.size<=w'.heap.size
 block:∀q,P q->w'.heap[q]? =w.heap[q]?
theorem Keep.refl(P:Nat->Prop)(w:World):Keep P w w:=⟨rfl,rfl,rfl,Zr,fun _ _=>rfl⟩
theorem Keep.trans{P:Nat->Prop}{a b c:World}(h:Keep P a b)(k:Keep P b c):Keep P a c:=
 ⟨k.os.trans h.os,k.tape.trans h.tape,k.output.trans h.output,Nat.le_trans h.size k.size,fun q hq=>(k.block q hq).trans (h.block q hq)⟩
theorem Keep.mono{P Q:Nat->Prop}{w w':World}(h:Keep P w w')(k:∀q,Q q->P q):Keep Q w w':=⟨h.os,h.tape,h.output,h.size,fun q hq=>h.block q (k q hq)⟩
theorem Keep.below{P:Nat->Prop}{B:Nat}{w w':World}(h:Keep P w w')(k:∀q,q<B->P q):Below B w w':=⟨h.os,h.tape,h.output,h.size,fun q hq=>h.block q (k q hq)⟩
theorem Keep.rd{P:Nat->Prop}{w w':World}{v:Value}{p:List UInt8}(h:Keep P w w')(r:Rd w v p)(hv:∀x n c,v= .slice (some x) n c->P x.block):Rd w' v p:=by
 rcases r with r|⟨b,off,cap,h1,h2,h3,h4,h5,h6⟩
 ·exact Or.inl r
 ·exact Or.inr ⟨b,off,cap,h1,h2,h3,h4,Zu h5 h.size,fun i hi=>(Zc (w:=w) (a:=⟨b,off+i,none⟩) (h.block b (hv _ _ _ h2))).trans (h6 i hi)⟩
theorem Keep.owns{P:Nat->Prop}{w w':World}{base e n:Nat}{v:Value}{xs:List Value}(h:Keep P w w')(r:w.ownsRow base e 1 v n xs)(hv:∀q,v.ownBlock=some q->P q):w'.ownsRow base e 1 v n xs:=by
 obtain⟨h0,⟨e1,e2⟩|⟨g,cap,cur,e1,hg,hh,hc⟩⟩:=r
 ·exact⟨h0,Or.inl ⟨e1,e2⟩⟩
 ·subst e1;exact⟨h0,Or.inr ⟨g,cap,cur,rfl,hg,(h.block g (hv g rfl)).trans hh,hc⟩⟩
def OsP(w:World)(base T u:Nat)(v:Value)(L:List (List UInt8))(P:Nat->Prop):Prop:=
 ∃vals,w.ownsRow base T 1 v L.length vals/\RowsO w base u v vals (ro L)/\∀q,P q->v.ownBlock≠some q/\∀(i:Nat) (x:Value),vals[i]? =some x->x.ownBlock≠some q
theorem OsP.os{w:World}{base T u:Nat}{v:Value}{L:List (List UInt8)}{P:Nat->Prop}(h:OsP w base T u v L P):Os w base T u v L:=by
 obtain⟨vals,h1,h2,_⟩:=h;exact⟨vals,h1,h2⟩
theorem OsP.as{w:World}{base T u:Nat}{v:Value}{L M:List (List UInt8)}{P:Nat->Prop}(h:OsP w base T u v L P)(e:L=M):OsP w base T u v M P:=e▸h
theorem OsP.later{w w':World}{base T u:Nat}{v:Value}{L:List (List UInt8)}{P Q:Nat->Prop}(h:OsP w base T u v L P)(hb:Below w.heap.size w w')(hQ:∀q,Q q->P q∨w.heap.size<=q):OsP w' base T u v L Q:=by
 obtain⟨vals,hv,hr,hp⟩:=h;refine⟨vals,owns_later hv hb,⟨fun i x hx=>owns_later (hr.own i x hx) hb,hr.diff,hr.out⟩,fun q hq=>?_⟩
 rcases hQ q hq with h1|h1
 ·exact hp q h1
 ·refine⟨fun e=>?_,fun i x hx e=>?_⟩
  ·have:=Zv hv q e;omega
  ·have:=(hr.own i x hx).lt e;omega
theorem OsP.less{w:World}{base T u:Nat}{v:Value}{L:List (List UInt8)}{P Q:Nat->Prop}(h:OsP w base T u v L P)(hQ:∀q,Q q->P q):OsP w base T u v L Q:=by
 obtain⟨vals,hv,hr,hp⟩:=h;exact⟨vals,hv,hr,fun q hq=>hp q (hQ q hq)⟩
theorem OsP.only{w w':World}{base T u g:Nat}{v:Value}{L:List (List UInt8)}{P:Nat->Prop}(h:OsP w base T u v L P)(ho:Only g w w')(hg:P g):OsP w' base T u v L P:=by
 obtain⟨vals,hv,hr,hp⟩:=h;obtain⟨h1,h2⟩:=hp g hg;exact⟨vals,World.ownsRow.kept hv ho.grown (Or.inr h1),⟨fun i x hx=>World.ownsRow.kept (hr.own i x hx) ho.grown (Or.inr (h2 i x hx)),hr.diff,hr.out⟩,hp⟩
theorem OsP.spot{wr:World}{base T u G n C:Nat}{L:List (List UInt8)}{P:Nat->Prop}(h:OsP wr base T u (.slice (some ⟨G,0,none⟩) n C) L P){k:Nat}(hk:k<L.length):
  ∃x,wr.cell? ⟨G,k,none⟩=some x/\wr.frozen? ⟨G,k,none⟩=false/\base<=G/\G<wr.heap.size/\OwnP wr base u x (ro L k)/\n=L.length/\
   ∀(w6 w7:World) (x':Value) (p:List UInt8),Below wr.heap.size wr w6->w6.grownBy w7 x.ownBlock->OwnP w7 base u x' p->(x'.ownBlock=x.ownBlock∨x'.ownBlock=some w6.heap.size)->(∀q,P q->q<w6.heap.size)->
    w7.cell? ⟨G,k,none⟩=some x/\w7.frozen? ⟨G,k,none⟩=false/\OsP (w7.setCell ⟨G,k,none⟩ x') base T u (.slice (some ⟨G,0,none⟩) n C) (L.set k p) P/\Keep (fun q=>P q/\q<wr.heap.size) wr (w7.setCell ⟨G,k,none⟩ x'):=by
 obtain⟨vals,hv,hr,hp⟩:=h;have hl:vals.length=L.length:=by have:=hv.1;omega
 have hx:vals[k]? =some vals[k]:=List.getElem?_eq_getElem Zo
 have hG:=Zv hv G rfl;have hn:n=L.length:=by
  obtain⟨_,⟨e,_⟩|⟨g,cap,cur,e,_⟩⟩:=hv<;>simp at e;exact e.2.1
 subst hn;refine⟨vals[k],by rw[World.ownsRow.cellAt hv k Zo,hx],World.ownsRow.frozenAt hv k,hG.1,hG.2,hr.own k _ hx,rfl,fun w6 w7 x' p hB hg ho hb hP=>?_⟩;obtain⟨c7,f7⟩:=RowsO.outer hr hv hx hk hB hg;obtain⟨h1,h2⟩:=RowsO.put (row':=ro (L.set k p)) hr hv hx hB hg (by rw[ro_set hk,if_pos rfl];exact ho) hb (fun i hi=>by rw[ro_set hk,if_neg hi]);refine⟨c7,f7,⟨vals.set k x',by rw[List.length_set];exact h1,h2,fun q hq=>⟨(hp q hq).1,fun i y hy=>?_⟩⟩,?_⟩
 ·by_cases e:i=k
  ·subst e;rw[List.getElem?_set_self Zo]at hy;cases hy
   rcases hb with e2|e2
   ·rw[e2];exact(hp q hq).2 i _ hx
   ·rw[e2];intro e3;cases e3;have:=hP _ hq;omega
  ·rw[List.getElem?_set_ne (fun h=>e h.symm)]at hy;exact(hp q hq).2 i y hy
 ·have O:=(Only.refl G w7).setCell k x';refine⟨O.os.trans (hg.os.trans hB.os),O.tape.trans (hg.tape.trans hB.tape),O.output.trans (hg.output.trans hB.output),by rw[O.size];exact Nat.le_trans hB.size hg.size,fun q hq=>?_⟩;have hq1:q≠G:=fun e=>(hp q hq.1).1 (by rw[e];rfl)
  rw[O.block q hq1,hg.block q (by have:=hB.size;omega) (fun e=>(hp q hq.1).2 k _ hx e.symm),hB.block q hq.2]
theorem OsP.blank{w:World}{base T u G n:Nat}{cs:List Value}{P:Nat->Prop}(hv:w.ownsRow base T 1 (.slice (some ⟨G,0,none⟩) n n) n cs)(hc:∀y∈cs,y= .slice none 0 0)(hP:∀q,P q->q≠G):OsP w base T u (.slice (some ⟨G,0,none⟩) n n) (mkL n (fun _=>[])) P:=by
 have h:=Os.blank (u:=u) hv hc;have hl:cs.length=n:=by have:=hv.1;omega
 refine⟨cs,by rw[mkL_length];exact hv,⟨fun i x hx=>?_,fun i j x y hx _ _=>?_,fun i x hx=>?_⟩,fun q hq=>⟨fun e=>hP q hq (by cases e;rfl),fun i x hx e=>?_⟩⟩
 ·have hi:i<n:=by
   rcases Nat.lt_or_ge i cs.length with h|h
   ·omega
   ·rw[List.getElem?_eq_none h]at hx;cases hx
  rw[ro_mkL hi,hc x (List.mem_of_getElem? hx)];exact World.ownsRow_nil _ _ _ _
 ·left;rw[hc x (List.mem_of_getElem? hx)];rfl
 ·left;rw[hc x (List.mem_of_getElem? hx)];rfl
 ·rw[hc x (List.mem_of_getElem? hx)]at e;cases e
theorem BoolF.keep{P:Nat->Prop}{w w':World}{base e g n:Nat}{f:Nat->Bool}(h:BoolF w base e g n f)(k:Keep P w w')(hg:P g):BoolF w' base e g n f:=k.owns h fun q hq=>by cases hq;exact hg
def flZ(Z:List Nat)(L:List (List UInt8))(r:Nat):Int:=if r=0 then-1 else (((ro L (Z.getD 0 0)).length:Nat):Int)
theorem eonl_any{va vb:Value}{h:List Bool}{L:List (List UInt8)}{w:World}(hH:RdB w va h)(hL:Rs w vb L)(hlen:h.length=L.length)(hl:h.length<=300):Calls Tryz.prog 134 #[va,vb] w fun e w'=>e= .returned (.int .i64 (oneX h L))/\Below w.heap.size w w':=by
 obtain⟨a,c,rfl⟩:=hH.form;obtain⟨a',c',rfl⟩:=hL.form;have hlen':Hid _:=hlen;clear hlen
 go_enter Tryz.func134,Tryz.ntmps134
 go_wp2_with fail
 refine(epl_any hH hl).mono ?_
 rintro e u ⟨v,rfl,O1,B1⟩;obtain⟨ga,gc,rfl⟩:=O1.form;have hL1:=hL.below B1;obtain⟨Z,hZ⟩:∃Z,Hid (Z=plc (hb h) h.length):=⟨_,rfl⟩;rw[<-hZ.out]at O1 ⊢;clear hH hL;have hin:Hid (∀j,j<Z.length->Z.getD j 0<L.length/\hb h (Z.getD j 0)=true):=fun j hj=>by
  rw[hZ.out]at hj ⊢;have hm:=plc_mem.1 (getD_mem hj);exact⟨by rw[<-hlen'.out];exact hm.1,hm.2⟩
 have HP:Hid (∀j,j<Z.length->∃qb,ga=some ⟨qb,0,none⟩/\u.cell? ⟨qb,j,none⟩=some (.int .i64 ((Z.getD j 0:Nat):Int))):=fun j hj=>by
  obtain⟨qb,e1,_,_,e4⟩:=O1.cell hj;exact⟨qb,e1,e4⟩
 have HB:Hid _:=B1;have hZl:Z.length<=300:=by rw[hZ.out,plc_length];have:=cnt_le (hb h) h.length;omega
 clear O1 B1
 go_wp2_with fail
 go_loop [5,11] (fun x i=>∃r:Nat,r<=Z.length/\i= .int .i64 (r:Int)/\x= .int .i64 (flZ Z L r)/\Hid (∀j,j<r->(ro L (Z.getD j 0)).length=(ro L (Z.getD 0 0)).length)) (fun _ i=>Z.length-(intOf i).toNat)
 case atStart=>exact⟨0,Zo,rfl,rfl,fun j hj=>Zo⟩
 case round=>
  obtain⟨r,hr,rfl,rfl,hI⟩:=hrel
  by_cases hlt:r<Z.length
  ·have hlt':(r:Int)<(Z.length:Int):=by omega
   obtain⟨qb,rfl,cq⟩:=HP.out r hlt;obtain⟨hx,hbx⟩:=hin.out r hlt;have hl1:=hL1.len;unfold maxLen at hl1;obtain⟨bb,off,xa,xc,rfl,_,cl,rl⟩:=hL1.at hx;have hll:=rl.len;unfold maxLen at hll
   by_cases r0:r=0
   ·subst r0;have E0:flZ Z L 0= -1:=rfl;have E1:Hid (flZ Z L 1=(((ro L (Z.getD 0 0)).length:Nat):Int)):=rfl;have HI:Hid (∀j,j<0+1->(ro L (Z.getD j 0)).length=(ro L (Z.getD 0 0)).length):=fun j hj=>by rw[show j=0 by omega]
    rw[E0];obtain⟨x,hxx⟩:∃x,Hid (x=Z.getD 0 0):=⟨_,rfl⟩;rw[<-hxx.out]at cq hx cl rl E1 hll;obtain⟨l,hl9⟩:∃l,Hid (l=(ro L x).length):=⟨_,rfl⟩;rw[<-hl9.out]at cl rl E1 hll;have hx':(x:Int)<(L.length:Int):=Zo
    clear rl hbx E0 hI;go_wp2
    go_round
    case rel=>exact⟨1,Zo,Zg,by rw[E1.out],HI⟩
    case measure=>simp[intOf];omega
   ·have E0:flZ Z L r=(((ro L (Z.getD 0 0)).length:Nat):Int):=if_neg r0;have E1:Hid (flZ Z L (r+1)=(((ro L (Z.getD 0 0)).length:Nat):Int)):=if_neg Zo;rw[E0];have h0b:=(hin.out 0 Zo).2
    by_cases e:(ro L (Z.getD r 0)).length=(ro L (Z.getD 0 0)).length
    ·have HI:Hid (∀j,j<r+1->(ro L (Z.getD j 0)).length=(ro L (Z.getD 0 0)).length):=fun j hj=>by
      by_cases ej:j=r
      ·rw[ej];exact e
      ·exact hI.out j Zo
     rw[e]at cl rl hll;obtain⟨x,hxx⟩:∃x,Hid (x=Z.getD r 0):=⟨_,rfl⟩;rw[<-hxx.out]at cq hx cl;have hx':(x:Int)<(L.length:Int):=Zo
     have hn0:¬((ro L (Z.getD 0 0)).length:Int)<0:=Zo
     clear rl hbx E0 hI e h0b hll;go_wp2
     go_round
     case rel=>exact⟨r+1,Zo,Zg,by rw[E1.out],HI⟩
     case measure=>simp[intOf];omega
    ·have EX:Hid (oneX h L= -1):=oneX_odd hbx h0b e;obtain⟨x,hxx⟩:∃x,Hid (x=Z.getD r 0):=⟨_,rfl⟩;rw[<-hxx.out]at cq hx cl e;obtain⟨l,hl9⟩:∃l,Hid (l=(ro L (Z.getD 0 0)).length):=⟨_,rfl⟩;obtain⟨l2,hl8⟩:∃l2,Hid (l2=(ro L x).length):=⟨_,rfl⟩;rw[<-hl9.out]at e ⊢;rw[<-hl8.out]at e cl;have hx':(x:Int)<(L.length:Int):=by omega
     have hn0:¬(l:Int)<0:=Zo
     have hq:((l2:Int)!=(l:Int))=true:=Zm
     clear rl hbx E0 hI e h0b hll E1;go_wp2
     try rw[Exit.noGoto_ret]
     go_ret;exact⟨by rw[EX.out];rfl,HB.out⟩
  ·have hge:¬(r:Int)<(Z.length:Int):=by omega
   have er:r=Z.length:=Zo
   have EX:Hid (oneX h L=flZ Z L r):=by
    show _=_
    have hmem:∀i,hb h i=true->i∈Z:=fun i hi=>by rw[hZ.out];exact plc_mem.2 ⟨hb_in hi,hi⟩
    by_cases h0:Z.length=0
    ·have:Z=[]:=List.length_eq_zero_iff.1 h0
     rw[er,h0,oneX_none (fun ⟨i,hi⟩=>by have:=hmem i hi;rw[‹Z=[]›]at this;simp at this)];rfl
    ·rw[show flZ Z L r=(((ro L (Z.getD 0 0)).length:Nat):Int)from if_neg Zo];refine oneX_ok ⟨_,(hin.out 0 Zo).2⟩ fun i hi=>?_
     obtain⟨j,hj,e⟩:=List.getElem_of_mem (hmem i hi);have:=hI.out j Zo;rw[show Z.getD j 0=i by simp[List.getD,hj,e]]at this;exact this
   clear hI er;generalize flZ Z L r=fz at*;go_wp2
   try rw[Exit.noGoto_ret]
   go_ret;exact⟨by rw[EX.out];rfl,HB.out⟩
def watF(h:List Bool)(L:List (List UInt8))(t:Nat)(Z:List Nat)(r i:Nat):UInt8:=if i∈Z.take r then co (ro L i) t else 0
theorem watF_all{h:List Bool}{L:List (List UInt8)}{t:Nat}{Z:List Nat}{i:Nat}:watF h L t Z Z.length i=if i∈Z then co (ro L i) t else 0:=by unfold watF;rw[List.take_length]
theorem watF_step{h:List Bool}{L:List (List UInt8)}{t:Nat}{Z:List Nat}{r:Nat}(hr:r<Z.length)(i:Nat):watF h L t Z (r+1) i=if i=Z.getD r 0 then co (ro L (Z.getD r 0)) t else watF h L t Z r i:=by
 have e:Z.take (r+1)=Z.take r++[Z.getD r 0]:=by
  rw[List.take_add_one,List.getElem?_eq_getElem hr];simp[List.getD,hr]
 unfold watF;rw[e]
 by_cases q:i=Z.getD r 0
 ·rw[if_pos q,q,if_pos Zs]
 ·rw[if_neg q];simp only[List.mem_append,List.mem_singleton,q,or_false]
theorem ewat_any{va vb:Value}{h:List Bool}{L:List (List UInt8)}{w:World}{t:Nat}(hH:RdB w va h)(hL:Rs w vb L)(hlen:h.length=L.length)(hl:h.length<=300)(ht:∀i,hb h i=true->t<(ro L i).length){x:Int}(hx:x=(t:Int)):Calls Tryz.prog 137 #[va,vb,.int .i64 x] w fun e w'=>∃v,e= .returned v/\Rd w' v (wdAt h L L.length t)/\Below w.heap.size w w':=by
 subst hx;obtain⟨a,c,rfl⟩:=hH.form;obtain⟨a',c',rfl⟩:=hL.form;obtain⟨i0,hi,hz0,hz1,hz2⟩:=info_parts info_u8;have hlen':Hid _:=hlen;have hl2:L.length<=300:=Zo
 have ht':Hid _:=ht;clear hlen ht;obtain⟨n,hn⟩:∃n,Hid (n=L.length):=⟨_,rfl⟩;rw[<-hn.out]at hl2 ⊢
 go_enter Tryz.func137,Tryz.ntmps137
 go_wp2_with (at_make;go_loud (refine wpList_make_full _ rfl (.tmp 11) (.tmp 11) 36 rfl w.heap.size 5 i0 (.int .u8 0) 1 Tryz.underlying36 hi hz0 hz1 _ _ _ _ n rfl rfl Zo Zo (by rw[hz2];omega) Zl Zr ?_);intro w1 hown1 hgrow1)
 have R1:RowF w1 w.heap.size 5 w.heap.size n n (fun _=>0):=RowF.made hown1;have B1:Below w.heap.size w w1:=Zf.grown hgrow1 Zr (fun k h=>by cases h);clear hown1 hgrow1
 go_wp2_with fail
 refine(epl_any (hH.below B1) hl).mono ?_
 rintro e u ⟨v,rfl,O1,b1⟩;obtain⟨ga,gc,rfl⟩:=O1.form;obtain⟨Z,hZ⟩:∃Z,Hid (Z=plc (hb h) h.length):=⟨_,rfl⟩;rw[<-hZ.out]at O1 ⊢;have g1:=R1.lt.2;have hin:Hid (∀j,j<Z.length->Z.getD j 0<n/\hb h (Z.getD j 0)=true):=fun j hj=>by
  rw[hZ.out]at hj ⊢;have hm:=plc_mem.1 (getD_mem hj);exact⟨by rw[hn.out,<-hlen'.out];exact hm.1,hm.2⟩
 have HP:Hid (∀j,j<Z.length->∃qb,ga=some ⟨qb,0,none⟩/\qb≠w.heap.size/\u.cell? ⟨qb,j,none⟩=some (.int .i64 ((Z.getD j 0:Nat):Int))):=fun j hj=>by
  obtain⟨qb,e1,_,e3,e4⟩:=O1.cell hj;exact⟨qb,e1,Zo,e4⟩
 have HB:Hid _:=Below.next B1 b1;have R3:RowF u w.heap.size 5 w.heap.size n n (fun _=>0):=owns_later R1 b1;have R2:RowF u w.heap.size 5 w.heap.size n n (watF h L t Z 0):=R3.congr fun i hi=>by simp[watF]
 have hZl:Z.length<=300:=by rw[hZ.out,plc_length];have:=cnt_le (hb h) h.length;omega
 clear O1 B1 b1 R1 hH R3
 go_wp2_with fail
 go_loopw [16] (fun x wr=>∃i:Nat,i<=Z.length/\x= .int .i64 i/\Only w.heap.size u wr/\RowF wr w.heap.size 5 w.heap.size n n (watF h L t Z i)) (fun x _=>Z.length-(intOf x).toNat)
 case atStart=>exact⟨0,Zo,rfl,Only.refl _ _,R2⟩
 case round=>
  obtain⟨r,hr,rfl,hO,hRw⟩:=hrel;clear R2;have hB:Below w.heap.size w wr:=HB.out.trans (hO.below Zr)
  by_cases hlt:r<Z.length
  ·have hlt':(r:Int)<(Z.length:Int):=by omega
   obtain⟨qb,rfl,hqg,cq⟩:=HP.out r hlt;have cq2:=(hO.cell (p:=⟨qb,r,none⟩) hqg).trans cq;obtain⟨hx,hbx⟩:=hin.out r hlt;have E:=watF_step (h:=h) (L:=L) (t:=t) (Z:=Z) hlt;have htl:=ht'.out _ hbx;obtain⟨bb,off,xa,xc,rfl,_,cl,rl⟩:=(hL.below hB).at (by rw[<-hn.out];exact hx);obtain⟨x,hxx⟩:∃x,Hid (x=Z.getD r 0):=⟨_,rfl⟩;rw[<-hxx.out]at cq2 hx E htl cl rl;obtain⟨b3,o3,rfl,_,cb⟩:=rl.byte htl;obtain⟨l,hl9⟩:∃l,Hid (l=(ro L x).length):=⟨_,rfl⟩;rw[<-hl9.out]at cl htl;have hx':(x:Int)<(n:Int):=Zo
   have htl':(t:Int)<(l:Int):=Zo
   have c1:=hRw.cell hx;have f1:=hRw.unfrozen x;have HN:Hid (RowF (wr.setCell ⟨w.heap.size,x,none⟩ (.int .u8 ((co (ro L x) t).toNat:Nat))) w.heap.size 5 w.heap.size n n (watF h L t Z (r+1))):=hRw.store hx _ fun s=>E s
   have HO:Hid (Only w.heap.size u (wr.setCell ⟨w.heap.size,x,none⟩ (.int .u8 ((co (ro L x) t).toNat:Nat)))):=hO.setCell x _;clear hRw hO rl E cq hbx hB hL;go_wp2;go_roundw
   case rel=>exact⟨r+1,Zo,Zg,HO.out,HN.out⟩
   case measure=>simp[intOf];omega
  ·have hge:¬(r:Int)<(Z.length:Int):=by omega
   have er:r=Z.length:=Zo
   have HR:Hid (Rd wr (.slice (some ⟨w.heap.size,0,none⟩) n n) (wdAt h L n t)):=by
    show Rd _ _ _
    have:=(hRw.congr (f':=atF h L t) (fun i hi=>by
     rw[er,watF_all];unfold atF;have hm:i∈Z↔hb h i=true:=by rw[hZ.out,plc_mem];exact⟨fun q=>q.2,fun q=>⟨hb_in q,q⟩⟩
     by_cases q:hb h i=true
     ·rw[if_pos (hm.2 q),if_pos q]
     ·rw[if_neg (fun e=>q (hm.1 e)),if_neg q])).rd
    exact this
   clear hRw er hL;go_wp2
   try rw[Exit.noGoto_ret]
   go_ret;exact⟨_,rfl,HR.out,hB⟩
theorem lay_set{R:List (List UInt8)}{p:List UInt8}{n r:Nat}(h:r<n):(mkL n (layF R p r)).set r (ro R r++[co p r])=mkL n (layF R p (r+1)):=by
 refine ro_ext (by rw[List.length_set,mkL_length,mkL_length]) fun i hi=>?_
 rw[List.length_set,mkL_length]at hi;rw[ro_set (by rw[mkL_length];exact h),ro_mkL hi,ro_mkL hi]
 by_cases e:i=r
 ·rw[if_pos e,e,layF_new]
 ·rw[if_neg e,layF_step e]
theorem elay_any{vw:Value}{w:World}{base G n C:Nat}{p:List UInt8}{R:List (List UInt8)}{P:Nat->Prop}(hR:OsP w base 36 5 (.slice (some ⟨G,0,none⟩) n C) R P)(hP:∀q,P q->q<w.heap.size)(hp:Rd w vw p)(hv:∀x n c,vw= .slice (some x) n c->P x.block)(hpl:p.length=n)(hRl:R.length=n)(hn:n<=300)(hsm:∀i,(ro R i).length<=100000)(hbw:base<=w.heap.size):
  Calls Tryz.prog 138 #[.slice (some ⟨G,0,none⟩) n C,vw] w fun e w'=>e= .returned (.tuple #[])/\OsP w' base 36 5 (.slice (some ⟨G,0,none⟩) n C) (mkL n (layF R p n)) P/\Keep P w w':=by
 obtain⟨i0,hi,hz0,hz1,hz2⟩:=info_parts info_u8;obtain⟨a,c,rfl⟩:=hp.form;rw[hpl]at hp hv ⊢;have hpl':Hid _:=hpl;have hRl':Hid _:=hRl;have hsm':Hid _:=hsm;have hP':Hid _:=hP;have hv':Hid _:=hv;have R0:OsP w base 36 5 (.slice (some ⟨G,0,none⟩) n C) (mkL n (layF R p 0)) P:=hR.as (by rw[layF_zero,<-hRl,mkL_ro]);clear hR hpl hRl hsm hP hv
 go_enter Tryz.func138,Tryz.ntmps138
 go_wp2_with fail
 go_loopw [8] (fun x wr=>∃r:Nat,r<=n/\x= .int .i64 (r:Int)/\OsP wr base 36 5 (.slice (some ⟨G,0,none⟩) n C) (mkL n (layF R p r)) P/\Keep P w wr) (fun x _=>n-(intOf x).toNat)
 case atStart=>exact⟨0,Zo,rfl,R0,Keep.refl _ _⟩
 case round=>
  obtain⟨r,hr,rfl,hO,hK⟩:=hrel;clear R0;have hlen:Hid ((mkL n (layF R p r)).length=n):=mkL_length _ _
  by_cases hlt:r<n
  ·have hlt':(r:Int)<(n:Int):=by omega
   obtain⟨bb,off,rfl,_,cb⟩:=(hK.rd hp hv'.out).byte (i:=r) (by rw[hpl'.out];exact hlt);obtain⟨x,cx,fx,gb,gl,ox,hnl,hput⟩:=hO.spot (k:=r) (by rw[hlen.out];exact hlt);rw[ro_mkL hlt,layF_old]at ox;have hl5:=hsm'.out r;have hput':Hid _:=hput;obtain⟨xa,xc,rfl⟩:=owns_form ox;have hsw:=hK.size;have A1:Hid (Below wr.heap.size wr (wr.alloc (.cells #[.int .u8 ((co p r).toNat:Nat)] 5))):=Zf.alloc Zr _;have hPs:Hid (∀q,P q->q<(wr.alloc (.cells #[.int .u8 ((co p r).toNat:Nat)] 5)).heap.size):=fun q hq=>by have:=hP'.out q hq;simp;omega
   have hox:Hid _:=ox;clear ox hO hput hnl
   go_wp2_with (at_builtin;go_loud (refine wpList_append_rd2 _ rfl (.tmp 18) (.tmp 20) 36 rfl base 5 i0 Tryz.underlying36 hi hz0 hz1 hz2 (.slice xa (ro R r).length xc) (ro R r).length ((ro R r).map vb) rfl (owns_later hox.out A1.out) _ [co p r] rfl (rd_lit (n:=1) [co p r] rfl rfl Zd) Zm Zm ?_);intro x' w7 hx7 hg7 hb7;have hq7:=hput'.out _ _ x' (ro R r++[co p r]) A1.out hg7 (by unfold OwnP;rw[List.length_append,List.map_append];exact hx7) hb7 hPs.out;obtain⟨c7,f7,o7,k7⟩:=hq7;obtain⟨ya,yc,rfl⟩:=owns_form hx7)
   rw[lay_set hlt]at o7;have HO:Hid _:=o7;have HK:Hid (Keep P w (w7.setCell ⟨G,r,none⟩ (.slice ya ((ro R r).length+[co p r].length) yc))):=hK.trans (k7.mono fun q hq=>⟨hq,by have:=hP'.out q hq;omega⟩);clear o7 k7 hx7 hg7 hb7 c7 f7 cx fx cb hK hput' hox
   try go_wp2
   go_roundw
   case rel=>exact⟨r+1,Zo,Zg,HO.out,HK.out⟩
   case measure=>simp[intOf];omega
  ·have hge:¬(r:Int)<(n:Int):=by omega
   have er:r=n:=Zo
   rw[er]at hO;clear er hp;go_wp2
   go_end0
   exact⟨rfl,hO,hK⟩
def MakesF10(w:World)(X:Int)(R:List (List UInt8))(P:List Nat)(e:Ending)(w':World):Prop:=∃va vd,e= .returned (.tuple #[va,vd,.int .i64 X])/\FarL w' w.heap.size va R/\OwnI w' w.heap.size 3 vd P/\Below w.heap.size w w'
theorem nilF10{w w':World}{x:Int}(b:Below w.heap.size w w'){X:Int}{R:List (List UInt8)}{P:List Nat}(h:X=x/\R=[]/\P=[]):MakesF10 w X R P (.returned (.tuple #[.slice none 0 0,.slice none 0 0,.int .i64 x])) w':=by
 obtain⟨rfl,rfl,rfl⟩:=h;exact⟨_,_,rfl,FarL.nil _ _,OwnI.nil _ _ _,b⟩
theorem info_bytes10:(Tryz.prog.info? 36).map (fun i=>(i.zero,i.size,i.bytes))=some (some (.slice none 0 0),1,24):=Zk
theorem made_owns(w:World){base e n:Nat}{z:Value}(hb:base<=w.heap.size)(hn:n<=1000000):(w.alloc (.cells (madeCells #[z] n) e)).ownsRow base e 1 (.slice (some ⟨w.heap.size,0,none⟩) n n) n (List.replicate n z):=by
 have h1:(madeCells #[z] n).toList=List.replicate n z:=toList_madeCells_one _ _;have h2:(madeCells #[z] n).size=n:=by rw[<-Array.length_toList,h1,List.length_replicate]
 exact⟨by rw[List.length_replicate,Nat.mul_one],.inr ⟨w.heap.size,n,_,rfl,hb,heap_alloc_new w _,Zr,Zl,by rw[h2,Nat.mul_one],by rw[h1,Nat.mul_one,List.take_of_length_le (by rw[List.length_replicate];exact Zr)]⟩⟩
theorem made_owns'(w:World){base e n g:Nat}{z:Value}(hg:g=w.heap.size)(hb:base<=w.heap.size)(hn:n<=1000000):(w.alloc (.cells (madeCells #[z] n) e)).ownsRow base e 1 (.slice (some ⟨g,0,none⟩) n n) n (List.replicate n z):=by
 subst hg;exact made_owns w hb hn
theorem bool_made{w:World}{base e g n:Nat}(h:w.ownsRow base e 1 (.slice (some ⟨g,0,none⟩) n n) n (List.replicate n (.bool false))):BoolF w base e g n (fun _=>false):=by
 unfold BoolF;have e2:(List.range n).map (fun _=>Value.bool false)=List.replicate n (.bool false):=by
  rw[List.map_const'];simp
 rw[e2];exact h
theorem esh_bad{b:Nat}{k m:Int}{vh vl:Value}{hs:List Bool}{L:List (List UInt8)}{w:World}(h:¬OkC k m)(hH:RdB w vh hs)(hL:Rs w vl L):Calls Tryz.prog 94 #[.pointer (some ⟨b,0,none⟩),.int .i64 k,.int .i64 m,vh,vl] w (MakesF10 w (shX k m hs L) (shR k m hs L) (shP k m hs L)):=by
 have EE:Hid _:=sh_bad (hs:=hs) (L:=L) h;obtain⟨za,zc,rfl⟩:=hH.form;obtain⟨ma,mc,rfl⟩:=hL.form;clear hH hL
 go_enter Tryz.func94,Tryz.ntmps94
 go_wp2_with fail
 go_step3
 go_wp2_with fail
 refine(wts_bad w h).mono ?_
 rintro e w2 ⟨vs,rfl,hR,b2⟩;obtain⟨sa,sc,rfl⟩:=hR.form;clear hR h;go_wp2
 try rw[Exit.noGoto_ret]
 exact bodyPost_ret (v:=.tuple #[.slice none 0 0,.slice none 0 0,.int .i64 50]) (by simp[results,Tryz.results94,go_sem]) rfl (nilF10 b2 EE.out)
theorem z15_2{p:Prop} (h:p:=by
 go_enter Tryz.func94,Tryz.ntmps94
 go_wp2_with fail
 go_step3
 go_wp2_with fail
 refine W1.mono ?_
 rintro e w2 ⟨vs,rfl,hR,b2⟩;obtain⟨sa,sc,rfl⟩:=hR.form;clear hR W1;go_wp2
 try rw[Exit.noGoto_ret]
 exact bodyPost_ret (v:=.tuple #[.slice none 0 0,.slice none 0 0,.int .i64 60]) (by simp[results,Tryz.results94,go_sem]) rfl (nilF10 b2 EE.out)
 ):p:=h
theorem esh_lens{b k m s:Nat}{vh vl:Value}{hs:List Bool}{L:List (List UInt8)}{w:World}(hF:FieldAt w b)(h1:1<=k)(h2:k+m<=256)(hH:RdB w vh hs)(hL:Rs w vl L)(hs0:s=k+m)(hne:hs.length≠s∨L.length≠s):Calls Tryz.prog 94 #[.pointer (some ⟨b,0,none⟩),.int .i64 (k:Int),.int .i64 (m:Int),vh,vl] w (MakesF10 w (shX k m hs L) (shR k m hs L) (shP k m hs L)):=by
 have c:OkC (k:Int) (m:Int):=⟨Zo,Zo,Zo⟩;have EE:Hid _:=sh_shard (hs:=hs) (L:=L) c (fun h=>by have h1:=h.1;have h2:=h.2.1;rcases hne with e|e<;>omega);obtain⟨za,zc,rfl⟩:=hH.form;obtain⟨ma,mc,rfl⟩:=hL.form;have g1:(k:Int)+(m:Int)=(s:Int):=Zo
 have gw:IntKind.i64.wrap (s:Int)=(s:Int):=Zw
 have W1:=wts_ok (w:=w) hF h1 h2 rfl rfl;have hs0':Hid _:=hs0;clear hF hs0 hH hL c
 by_cases p1:hs.length=s
 ·have q1:((hs.length:Int)!=(s:Int))=false:=by simp[p1]
  have p2:L.length≠s:=hne.resolve_left (fun h=>h p1);have q2:((L.length:Int)!=(s:Int))=true:=Zm
  clear p1 p2 hne;exact z15_2
 ·have q1:((hs.length:Int)!=(s:Int))=true:=by simp;omega
  clear p1 hne;exact z15_2
theorem z15_1{p:Prop} (h:p:=by
 clear hu6
 --BODY
 have hG5:w5.heap.size<=G/\G<w5.heap.size+2:=by have:=hG0.out;omega
 have hH5:w5.heap.size<=H/\H<w5.heap.size+2:=by have:=hH0.out;omega
 have s6':Hid (w5.heap.size+2<=u6.heap.size):=by show _<=_;omega
 have HA:Hid (∀W,Below w5.heap.size w5 W->∀v t,Rd W v (wdAt hs L (k+m) t)->Calls Tryz.prog 167 #[v,.pointer (some ⟨gb,0,none⟩),.pointer (some ⟨mb,0,none⟩),.pointer (some ⟨fb,0,none⟩),.pointer (some ⟨kb,0,none⟩),.pointer (some ⟨nb,0,none⟩),.pointer (some ⟨sb,0,none⟩),.pointer (some ⟨wb,0,none⟩)] W (Makes10 W (pX k m hs L t) (pR k m hs L t) (pP k m hs L t))):=fun W h v t r=>
  erig1_any ((hF.below B5).below h) (T5.below h) (owns_later O5 h) (N5.below h) (M5.below h) (by have:=R5.below h;rw[hWS.out]at this ⊢;exact this) r h1 h2 (wdAt_length _ _ _ _) (by rw[hnl.out];exact hs0'.out)
 have HWd:Hid (∀W,Below w5.heap.size w5 W->∀t,t<n->Calls Tryz.prog 137 #[.slice za s zc,.slice ma s mc,.int .i64 (t:Int)] W fun e w'=>∃v,e= .returned v/\Rd w' v (wdAt hs L (k+m) t)/\Below W.heap.size W w'):=fun W h t ht=>by
  have:=ewat_any ((hH.below B5).below h) ((hL.below B5).below h) (by rw[p1'.out,p2'.out]) (by rw[p1'.out];omega) (t:=t) (fun i hi=>by rw[hn'.out i hi];exact ht) rfl;rw[p2'.out,hs0'.out]at this;rw[hs0'.out];exact this
 have HB5:Hid _:=B5;clear mk1 mk2 hG0 hH0 s6 hF hH hL T5 O5 N5 M5 R5 B5
 go_wp2_with fail
 go_step3
 go_wp2_with fail
 go_loopw [14,68] (fun er x wr=>∃r:Nat,r<=n/\er= .int .i64 0/\x= .int .i64 (r:Int)/\Below w5.heap.size w5 wr/\OsP wr w5.heap.size 36 5 (.slice (some ⟨G,0,none⟩) s s) (rowsP k m hs L r) (fun q=>q<w5.heap.size∨q=H)/\BoolF wr w5.heap.size 4 H s (hurtP k m hs L r)/\Hid (∀t,t<r->pX k m hs L t=0)/\Hid (w5.heap.size+2<=wr.heap.size)) (fun _ x _=>n-(intOf x).toNat)
 case atStart=>exact⟨0,Zo,rfl,rfl,B6,O6,F6,fun t ht=>Zo,s6'⟩
 case round=>
  obtain⟨r,hr,rfl,rfl,hB,hO,hBo,hX,hsz⟩:=hrel;clear B6 O6 F6 s6'
  by_cases hlt:r<n
  ·have hlt':(r:Int)<(n:Int):=by omega
   have C1:=HWd.out wr hB r hlt
   go_wp2_with fail
   refine C1.mono ?_
   rintro e w7 ⟨vw,rfl,R7,b7⟩;have B7:Below w5.heap.size w5 w7:=Below.next hB b7;have C2:=HA.out w7 B7 vw r R7;obtain⟨va,vc,rfl⟩:=R7.form;clear C1
   go_wp2_with fail
   refine C2.mono ?_
   rintro e w8 ⟨vx,vd,rfl,R8,O8,b8,f8⟩;obtain⟨xa,xc,rfl⟩:=R8.form;obtain⟨da,dc,rfl⟩:=O8.form;have B8:=Below.next B7 b8;have b78:=Below.next b7 b8;have F8:=f8.mono b7.size;have h7s:Hid (wr.heap.size<=w7.heap.size):=b7.size;clear C2 R7 b7 b8 f8 B7
   rcases HT.out r with⟨e1,e2,e3⟩|⟨e1,e2,e3,e4⟩
   ·have EE:Hid _:=HMany2.out r hlt (by rw[e1];decide);have HBB:Hid (Below w.heap.size w w8):=Below.next HB5.out B8;rw[e1];clear e1 e2 e3 R8 O8 B8 b78 F8 hO hBo hB hX;go_wp2;rw[Exit.noGoto_ret];exact bodyPost_ret (v:=.tuple #[.slice none 0 0,.slice none 0 0,.int .i64 100]) (by simp[results,Tryz.results94,go_sem]) rfl (nilF10 HBB.out EE.out)
   ·have HX:Hid (∀t,t<r+1->pX k m hs L t=0):=fun t ht=>by
     by_cases q:t=r
     ·rw[q];exact e1
     ·exact hX.out t Zo
    rw[e1];have sz8:=b78.size;have szr:=hsz.out;have O8':OsP w8 w5.heap.size 36 5 (.slice (some ⟨G,0,none⟩) s s) (rowsP k m hs L r) (fun q=>(q<w5.heap.size∨q=H)∨(wr.heap.size<=q/\q<w8.heap.size)):=hO.later b78 (fun q hq=>by
     rcases hq with h|h
     ·exact Or.inl h
     ·exact Or.inr h.1)
    have C3:=elay_any O8' (fun q hq=>by rcases hq with(h|h)|h<;>omega) R8 (fun x n' c' e=>by
     obtain⟨bb,off,e9,h9,_⟩:=R8.byte (i:=0) (by rw[e2];omega);subst e9;simp at e;have h8:=F8 _ _ _ rfl;rw[<-e.1];exact Or.inr ⟨h8,h9⟩) (by rw[e2,hs0'.out]) (by rw[rowsP_length,hs0'.out]) Zo (fun i=>by
     rcases Nat.lt_or_ge i (k+m)with h|h
     ·rw[rowsP_ro h,upto_length];omega
     ·rw[ro_ge (by rw[rowsP_length];exact h)];simp) Zo
    have hBo8:BoolF w8 w5.heap.size 4 H s (hurtP k m hs L r):=owns_later hBo b78;have h77:wr.heap.size<=w7.heap.size:=h7s.out;have E2:Hid _:=e2;have E3:Hid _:=e3;have E4:Hid _:=e4;clear hO hBo hB F8 R8 O8' e1 e2 e3 e4
    go_wp2_with fail
    refine C3.mono ?_
    rintro e w9 ⟨rfl,O9,K9⟩;have O9':OsP w9 w5.heap.size 36 5 (.slice (some ⟨G,0,none⟩) s s) (rowsP k m hs L (r+1)) (fun q=>(q<w5.heap.size∨q=H)∨(wr.heap.size<=q/\q<w8.heap.size)):=O9.as (by
     rw[hs0'.out];refine ro_ext (by rw[mkL_length,rowsP_length]) fun i hi=>?_
     rw[mkL_length]at hi;rw[ro_mkL hi];exact rowsP_next hi)
    have O9i:OwnI w9 w7.heap.size 3 (.slice da (pP k m hs L r).length dc) (pP k m hs L r):=K9.owns O8 fun q hq=>by
     have:=Zv O8 q hq;exact Or.inr ⟨Zo,this.2⟩
    have B9:Below w5.heap.size w5 w9:=B8.trans (K9.below fun q hq=>Or.inl (Or.inl hq));have hBo9:=hBo8.keep K9 (Or.inl (Or.inr rfl));have C4:=emark_any (O9i.rd (by have:=E4.out;omega)) (by have:=E4.out;omega) (by rw[hs0'.out];exact E3.out) hBo9 (fun b9 off9 m9 c9 e9=>by
     simp at e9;have h9:=Zv O9i b9 (by
      obtain⟨_,⟨q1,_⟩|⟨gq,capq,curq,q1,_⟩⟩:=O9i
      ·simp at q1;rw[q1.1]at e9;simp at e9
      ·simp at q1;rw[q1.1]at e9;simp at e9;rw[q1.1];simp[Value.ownBlock];exact e9.1.1)
     omega)
    have K9s:=K9.size;clear C3 O9 hBo8 O8 K9 B8
    go_wp2_with fail
    refine C4.mono ?_
    rintro e w10 ⟨rfl,ho,hB10⟩;have HO:Hid (OsP w10 w5.heap.size 36 5 (.slice (some ⟨G,0,none⟩) s s) (rowsP k m hs L (r+1)) (fun q=>q<w5.heap.size∨q=H)):=(O9'.only ho (Or.inl (Or.inr rfl))).less fun q hq=>Or.inl hq
    have HBo:Hid (BoolF w10 w5.heap.size 4 H s (hurtP k m hs L (r+1))):=hB10;have HB:Hid (Below w5.heap.size w5 w10):=B9.trans (ho.below hH5.1);have HS:Hid (w5.heap.size+2<=w10.heap.size):=by show _<=_;rw[ho.size];omega
    clear C4 ho hB10 O9' hBo9 O9i B9 b78;go_wp2;go_roundw
    case rel=>exact⟨r+1,Zo,rfl,Zg,HB.out,HO.out,HBo.out,HX,HS⟩
    case measure=>simp[intOf];omega
  ·have hge:¬(r:Int)<(n:Int):=by omega
   have er:r=n:=Zo
   have EE:Hid _:=HOk2.out (fun t ht=>hX.out t Zo);have C1:=epl_any (hBo.rdB Zo) Zm;have hl9:Hid (((List.range s).map (hurtP k m hs L r)).length=s):=by show _=_;simp
   have hp9:Hid (plc (hb ((List.range s).map (hurtP k m hs L r))) s=shP (k:Int) (m:Int) hs L):=by
    show _=_
    rw[EE.out.2.2,er,<-hs0'.out];exact List.filter_congr fun i hi=>by have:=List.mem_range.1 hi;simp[hb,List.getD,this]
   have HR:Hid (FarL wr w.heap.size (.slice (some ⟨G,0,none⟩) s s) (shR (k:Int) (m:Int) hs L)):=by
    show FarL _ _ _ _
    rw[EE.out.2.1,<-er];exact⟨_,_,hO.os.base HB5.out.size⟩
   have HBr:Hid _:=Below.next HB5.out hB;clear hO hBo hX er hB
   go_wp2_with fail
   refine C1.mono ?_
   rintro e w7 ⟨vd,rfl,O7,b7⟩;rw[hl9.out,hp9.out]at O7;obtain⟨da,dc,rfl⟩:=O7.form;have HO:Hid (OwnI w7 w.heap.size 3 (.slice da (shP (k:Int) (m:Int) hs L).length dc) (shP (k:Int) (m:Int) hs L)):=ownsRow_base O7 HBr.out.size;have HR7:Hid _:=HR.out.later b7;have HB7:Hid _:=Below.next HBr.out b7;clear C1 O7 b7;go_wp2
   try rw[Exit.noGoto_ret]
   exact bodyPost_ret (v:=.tuple #[.slice (some ⟨G,0,none⟩) s s,.slice da (shP (k:Int) (m:Int) hs L).length dc,.int .i64 0]) (by simp[results,Tryz.results94,go_sem]) rfl ⟨_,_,by rw[EE.out.1],HR7.out,HO.out,HB7.out⟩
 ):p:=h
theorem esh_main{b k m s:Nat}{vh vl:Value}{hs:List Bool}{L:List (List UInt8)}{w:World}(hF:FieldAt w b)(h1:1<=k)(h2:k+m<=256)(hH:RdB w vh hs)(hL:Rs w vl L)(hs0:s=k+m)(p1:hs.length=s)(p2:L.length=s)(hsm:∀i,hb hs i=true->(ro L i).length<=300):Calls Tryz.prog 94 #[.pointer (some ⟨b,0,none⟩),.int .i64 (k:Int),.int .i64 (m:Int),vh,vl] w (MakesF10 w (shX k m hs L) (shR k m hs L) (shP k m hs L)):=by
 have c:OkC (k:Int) (m:Int):=⟨Zo,Zo,Zo⟩;have HNo:Hid (oneX hs L= -1->_):=fun h=>sh_shard (k:=(k:Int)) (m:=(m:Int)) (hs:=hs) (L:=L) c (fun q=>q.2.2 h)
 have HMany:Hid (∀n t:Nat,oneX hs L=(n:Int)->t<n->pX k m hs L t≠0->_):=fun n t h3 ht hx=>sh_many c Zo Zo h3 ht hx
 have HOk:Hid (∀n:Nat,oneX hs L=(n:Int)->(∀t,t<n->pX k m hs L t=0)->_):=fun n h3 hx=>sh_ok c Zo Zo h3 hx
 have HT:Hid (∀t,_):=fun t=>pX_told (L:=L) (t:=t) h1 h2 (show hs.length=k+m by omega)
 obtain⟨za,zc,rfl⟩:=hH.form;obtain⟨ma,mc,rfl⟩:=hL.form;have g1:(k:Int)+(m:Int)=(s:Int):=Zo
 have gw:IntKind.i64.wrap (s:Int)=(s:Int):=Zw
 have W1:=wts_ok (w:=w) hF h1 h2 rfl rfl;have hs256:s<=256:=Zo
 have hs0':Hid _:=hs0;have p1':Hid _:=p1;have p2':Hid _:=p2;have hsm':Hid _:=hsm;rw[p1]at hH ⊢;rw[p2]at hL ⊢;clear hs0 c p1 p2 hsm
 go_enter Tryz.func94,Tryz.ntmps94
 go_wp2_with fail
 go_step3
 go_wp2_with fail
 refine W1.mono ?_
 rintro e w2 ⟨vs,rfl,hR,b2⟩;obtain⟨sa,sc,rfl⟩:=hR.form;clear W1
 go_wp2_with fail
 refine(eonl_any (hH.below b2) (hL.below b2) (by rw[p1'.out,p2'.out]) (by rw[p1'.out];omega)).mono ?_
 rintro e w3 ⟨rfl,b3⟩;have B3:=Below.next b2 b3;have R3:=hR.below b3;clear b2 b3 hR
 rcases oneX_cases hs L with e0|⟨n,e0,hn,hex⟩
 ·have EE:Hid _:=HNo.out e0;rw[e0];clear HNo HMany HOk HT R3 hF hH hL e0;go_wp2
  try rw[Exit.noGoto_ret]
  exact bodyPost_ret (v:=.tuple #[.slice none 0 0,.slice none 0 0,.int .i64 60]) (by simp[results,Tryz.results94,go_sem]) rfl (nilF10 B3 EE.out)
 ·have hn300:n<=300:=by
   obtain⟨i,hi⟩:=hex;rw[<-hn i hi];exact hsm'.out i hi
  have HMany2:Hid (∀t,t<n->pX k m hs L t≠0->_):=fun t=>HMany.out n t e0
  have HOk2:Hid ((∀t,t<n->pX k m hs L t=0)->_):=HOk.out n e0;have hn':Hid _:=hn;rw[e0];have hn0:¬(n:Int)<0:=Zo
  clear HNo HMany HOk e0 hn hex;obtain⟨WS,hWS⟩:∃WS,Hid (WS=upto (wtF k m) (k+m)):=⟨_,rfl⟩;rw[<-hWS.out]at R3 ⊢
  go_wp2_with fail
  refine(eopp_any (hH.below B3) (by rw[p1'.out];omega)).mono ?_
  rintro e w4 ⟨vo,rfl,M4,b4⟩;obtain⟨oa,oc,rfl⟩:=M4.form;have hnl:Hid ((notM hs).length=s):=by show _=_;rw[notM_length,p1'.out]
  rw[hnl.out]at M4 ⊢;have B4:=Below.next B3 b4;have R4:=R3.below b4;clear R3 b4 B3
  go_wp2_with fail
  refine(erig_any (hF.below B4) R4 M4 (by rw[hnl.out];omega)).mono ?_
  rintro e w5 ⟨gb,mb,fb,kb,nb,sb,wb,vg,vn,rfl,T5,O5,N5,b5⟩;rw[hnl.out,hs0'.out]at O5 N5;have B5:=Below.next B4 b5;have R5:=R4.below b5;have M5:=M4.below b5;clear R4 M4 b5 B4;have mk1:=run_make_row' (P:=Tryz.prog) 106 36 (.slice none 0 0) 24 Tryz.underlying106 info_bytes10 rfl .i64 .i64 s Zo Zo;have mk2:=run_make_row' (P:=Tryz.prog) 96 4 (.bool false) 1 Tryz.underlying96 info_bool10 rfl .i64 .i64 s Zo Zo
  go_wp2_with fail
  go_region
  ·--ORDER A
   obtain⟨G,hG0⟩:∃G,Hid (G=w5.heap.size):=⟨_,rfl⟩;obtain⟨H,hH0⟩:∃H,Hid (H=w5.heap.size+1):=⟨_,rfl⟩;obtain⟨u6,hu6⟩:∃u6,u6=((w5.alloc (.cells (madeCells #[.slice none 0 0] s) 36)).alloc (.cells (madeCells #[.bool false] s) 4)).drew:=⟨_,rfl⟩;rw[<-hu6];rw[<-hH0.out,<-hG0.out];have hGH:G≠H:=by rw[hG0.out,hH0.out];omega
   have s6:u6.heap.size=w5.heap.size+2:=by rw[hu6];show(World.alloc _ _).heap.size=_;simp
   have B6:Below w5.heap.size w5 u6:=by rw[hu6];exact(below_lit (below_lit Zf _) _).drew
   have O6:OsP u6 w5.heap.size 36 5 (.slice (some ⟨G,0,none⟩) s s) (rowsP k m hs L 0) (fun q=>q<w5.heap.size∨q=H):=by
    rw[rowsP_zero,<-hs0'.out];refine OsP.blank (cs:=List.replicate s (.slice none 0 0)) ?_ (fun y hy=>List.eq_of_mem_replicate hy) (fun q hq=>by have h9:=hG0.out;rcases hq with h|h<;>omega)
    rw[hu6,hG0.out];exact World.ownsRow.alloc (made_owns w5 Zr Zo) _
   have F6:BoolF u6 w5.heap.size 4 H s (hurtP k m hs L 0):=by
    refine bool_made ?_
    rw[hu6,hH0.out];exact made_owns' (w5.alloc (.cells (madeCells #[.slice none 0 0] s) 36)) Zs Zs Zo
   exact z15_1
  ·--ORDER B
   obtain⟨G,hG0⟩:∃G,Hid (G=w5.heap.size+1):=⟨_,rfl⟩;obtain⟨H,hH0⟩:∃H,Hid (H=w5.heap.size):=⟨_,rfl⟩;obtain⟨u6,hu6⟩:∃u6,u6=((w5.alloc (.cells (madeCells #[.bool false] s) 4)).alloc (.cells (madeCells #[.slice none 0 0] s) 36)).drew:=⟨_,rfl⟩;rw[<-hu6];rw[<-hG0.out,<-hH0.out];have hGH:G≠H:=by rw[hG0.out,hH0.out];omega
   have s6:u6.heap.size=w5.heap.size+2:=by rw[hu6];show(World.alloc _ _).heap.size=_;simp
   have B6:Below w5.heap.size w5 u6:=by rw[hu6];exact(below_lit (below_lit Zf _) _).drew
   have O6:OsP u6 w5.heap.size 36 5 (.slice (some ⟨G,0,none⟩) s s) (rowsP k m hs L 0) (fun q=>q<w5.heap.size∨q=H):=by
    rw[rowsP_zero,<-hs0'.out];refine OsP.blank (cs:=List.replicate s (.slice none 0 0)) ?_ (fun y hy=>List.eq_of_mem_replicate hy) (fun q hq=>by have h9:=hG0.out;rcases hq with h|h<;>omega)
    rw[hu6,hG0.out];exact made_owns' (w5.alloc (.cells (madeCells #[.bool false] s) 4)) Zs Zs Zo
   have F6:BoolF u6 w5.heap.size 4 H s (hurtP k m hs L 0):=by
    refine bool_made ?_
    rw[hu6,hH0.out];exact World.ownsRow.alloc (made_owns w5 Zr Zo) _
   exact z15_1
theorem esh_far{b:Nat}{k m:Int}{vh vl:Value}{hs:List Bool}{L:List (List UInt8)}{w:World}(hF:FieldAt w b)(hH:RdB w vh hs)(hL:Rs w vl L)(hsm:∀i,hb hs i=true->(ro L i).length<=300):Calls Tryz.prog 94 #[.pointer (some ⟨b,0,none⟩),.int .i64 k,.int .i64 m,vh,vl] w (MakesF10 w (shX k m hs L) (shR k m hs L) (shP k m hs L)):=by
 by_cases c:OkC k m
 ·obtain⟨k,m,rfl,rfl,h1,h2⟩:=c.nat
  by_cases p1:hs.length=k+m
  ·by_cases p2:L.length=k+m
   ·exact esh_main hF h1 h2 hH hL rfl p1 p2 hsm
   ·exact esh_lens hF h1 h2 hH hL rfl (Or.inr p2)
  ·exact esh_lens hF h1 h2 hH hL rfl (Or.inl p1)
 ·exact esh_bad c hH hL
end Go.Proofs.YtddnfhfangfgeaaGreat.Gf
