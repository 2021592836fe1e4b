/- JOINED: WdCH, WdRefW. -/
import Derived.Test.YtddnfhfangfgeaaGreatPome19
set_option maxHeartbeats 4000000
set_option maxRecDepth 100000
namespace Go.Proofs.YtddnfhfangfgeaaGreat.Gf
set_option linter.unusedVariables false
set_option linter.unusedSimpArgs false
open Go.RowKit
def MakesF10(w:World)(X:Int)(R:List (List UInt8))(P:List Nat)(e:Ending)(w':World):Prop:=∃va vd,e= .returned (.tuple #[va,vd,.int .i64 X])/\FarL w' w.heap.size va R/\OwnI w' w.heap.size 3 vd P/\Below w.heap.size w w'
theorem nilF10{w w':World}{x:Int}(b:Below w.heap.size w w'){X:Int}{R:List (List UInt8)}{P:List Nat}(h:X=x/\R=[]/\P=[]):MakesF10 w X R P (.returned (.tuple #[.slice none 0 0,.slice none 0 0,.int .i64 x])) w':=by
 obtain⟨rfl,rfl,rfl⟩:=h;exact⟨_,_,rfl,FarL.nil _ _,OwnI.nil _ _ _,b⟩
theorem info_bytes10:(Tryz.prog.info? 36).map (fun i=>(i.zero,i.size,i.bytes))=some (some (.slice none 0 0),1,24):=Zk
theorem made_owns(w:World){base e n:Nat}{z:Value}(hb:base<=w.heap.size)(hn:n<=1000000):(w.alloc (.cells (madeCells #[z] n) e)).ownsRow base e 1 (.slice (some ⟨w.heap.size,0,none⟩) n n) n (List.replicate n z):=by
 have h1:(madeCells #[z] n).toList=List.replicate n z:=toList_madeCells_one _ _;have h2:(madeCells #[z] n).size=n:=by rw[<-Array.length_toList,h1,List.length_replicate]
 exact⟨by rw[List.length_replicate,Nat.mul_one],.inr ⟨w.heap.size,n,_,rfl,hb,heap_alloc_new w _,Nat.le_refl _,Zl,by rw[h2,Nat.mul_one],by rw[h1,Nat.mul_one,List.take_of_length_le (by rw[List.length_replicate];exact Nat.le_refl _)]⟩⟩
theorem made_owns'(w:World){base e n g:Nat}{z:Value}(hg:g=w.heap.size)(hb:base<=w.heap.size)(hn:n<=1000000):(w.alloc (.cells (madeCells #[z] n) e)).ownsRow base e 1 (.slice (some ⟨g,0,none⟩) n n) n (List.replicate n z):=by
 subst hg;exact made_owns w hb hn
theorem bool_made{w:World}{base e g n:Nat}(h:w.ownsRow base e 1 (.slice (some ⟨g,0,none⟩) n n) n (List.replicate n (.bool false))):BoolF w base e g n (fun _=>false):=by
 unfold BoolF;have e2:(List.range n).map (fun _=>Value.bool false)=List.replicate n (.bool false):=by
  rw[List.map_const'];simp
 rw[e2];exact h
theorem esh_bad{b:Nat}{k m:Int}{vh vl:Value}{hs:List Bool}{L:List (List UInt8)}{w:World}(h:¬OkC k m)(hH:RdB w vh hs)(hL:Rs w vl L):Calls Tryz.prog 94 #[.pointer (some ⟨b,0,none⟩),.int .i64 k,.int .i64 m,vh,vl] w (MakesF10 w (shX k m hs L) (shR k m hs L) (shP k m hs L)):=by
 have EE:Hid _:=sh_bad (hs:=hs) (L:=L) h;obtain⟨za,zc,rfl⟩:=hH.form;obtain⟨ma,mc,rfl⟩:=hL.form;clear hH hL
 go_enter Tryz.func94,Tryz.ntmps94
 go_wp2_with fail
 go_step3
 go_wp2_with fail
 refine(wts_bad w h).mono ?_
 rintro e w2 ⟨vs,rfl,hR,b2⟩;obtain⟨sa,sc,rfl⟩:=hR.form;clear hR h;go_wp2
 try rw[Exit.noGoto_ret]
 exact bodyPost_ret (v:=.tuple #[.slice none 0 0,.slice none 0 0,.int .i64 50]) (by simp[results,Tryz.results94,go_sem]) rfl (nilF10 b2 EE.out)
theorem z20_2{p:Prop} (h:p:=by
 go_enter Tryz.func94,Tryz.ntmps94
 go_wp2_with fail
 go_step3
 go_wp2_with fail
 refine W1.mono ?_
 rintro e w2 ⟨vs,rfl,hR,b2⟩;obtain⟨sa,sc,rfl⟩:=hR.form;clear hR W1;go_wp2
 try rw[Exit.noGoto_ret]
 exact bodyPost_ret (v:=.tuple #[.slice none 0 0,.slice none 0 0,.int .i64 60]) (by simp[results,Tryz.results94,go_sem]) rfl (nilF10 b2 EE.out)
 ):p:=h
theorem esh_lens{b k m s:Nat}{vh vl:Value}{hs:List Bool}{L:List (List UInt8)}{w:World}(hF:FieldAt w b)(h1:1<=k)(h2:k+m<=256)(hH:RdB w vh hs)(hL:Rs w vl L)(hs0:s=k+m)(hne:hs.length≠s∨L.length≠s):Calls Tryz.prog 94 #[.pointer (some ⟨b,0,none⟩),.int .i64 (k:Int),.int .i64 (m:Int),vh,vl] w (MakesF10 w (shX k m hs L) (shR k m hs L) (shP k m hs L)):=by
 have c:OkC (k:Int) (m:Int):=⟨Zo,Zo,Zo⟩;have EE:Hid _:=sh_shard (hs:=hs) (L:=L) c (fun h=>by have h1:=h.1;have h2:=h.2.1;rcases hne with e|e<;>omega);obtain⟨za,zc,rfl⟩:=hH.form;obtain⟨ma,mc,rfl⟩:=hL.form;have g1:(k:Int)+(m:Int)=(s:Int):=Zo
 have gw:IntKind.i64.wrap (s:Int)=(s:Int):=Zw
 have W1:=wts_ok (w:=w) hF h1 h2 rfl rfl;have hs0':Hid _:=hs0;clear hF hs0 hH hL c
 by_cases p1:hs.length=s
 ·have q1:((hs.length:Int)!=(s:Int))=false:=by simp[p1]
  have p2:L.length≠s:=hne.resolve_left (fun h=>h p1);have q2:((L.length:Int)!=(s:Int))=true:=Zm
  clear p1 p2 hne;exact z20_2
 ·have q1:((hs.length:Int)!=(s:Int))=true:=by simp;omega
  clear p1 hne;exact z20_2
theorem z20_1{p:Prop} (h:p:=by
 clear hu6
 --BODY
 have hG5:w5.heap.size<=G/\G<w5.heap.size+2:=by have:=hG0.out;omega
 have hH5:w5.heap.size<=H/\H<w5.heap.size+2:=by have:=hH0.out;omega
 have s6':Hid (w5.heap.size+2<=u6.heap.size):=by show _<=_;omega
 have HA:Hid (∀W,Below w5.heap.size w5 W->∀v t,Rd W v (wdAt hs L (k+m) t)->Calls Tryz.prog 167 #[v,.pointer (some ⟨gb,0,none⟩),.pointer (some ⟨mb,0,none⟩),.pointer (some ⟨fb,0,none⟩),.pointer (some ⟨kb,0,none⟩),.pointer (some ⟨nb,0,none⟩),.pointer (some ⟨sb,0,none⟩),.pointer (some ⟨wb,0,none⟩)] W (Makes10 W (pX k m hs L t) (pR k m hs L t) (pP k m hs L t))):=fun W h v t r=>
  erig1_any ((hF.below B5).below h) (T5.below h) (owns_later O5 h) (N5.below h) (M5.below h) (by have:=R5.below h;rw[hWS.out]at this ⊢;exact this) r h1 h2 (wdAt_length _ _ _ _) (by rw[hnl.out];exact hs0'.out)
 have HWd:Hid (∀W,Below w5.heap.size w5 W->∀t,t<n->Calls Tryz.prog 137 #[.slice za s zc,.slice ma s mc,.int .i64 (t:Int)] W fun e w'=>∃v,e= .returned v/\Rd w' v (wdAt hs L (k+m) t)/\Below W.heap.size W w'):=fun W h t ht=>by
  have:=ewat_any ((hH.below B5).below h) ((hL.below B5).below h) (by rw[p1'.out,p2'.out]) (by rw[p1'.out];omega) (t:=t) (fun i hi=>by rw[hn'.out i hi];exact ht) rfl;rw[p2'.out,hs0'.out]at this;rw[hs0'.out];exact this
 have HB5:Hid _:=B5;clear mk1 mk2 hG0 hH0 s6 hF hH hL T5 O5 N5 M5 R5 B5
 go_wp2_with fail
 go_step3
 go_wp2_with fail
 go_loopw [14,68] (fun er x wr=>∃r:Nat,r<=n/\er= .int .i64 0/\x= .int .i64 (r:Int)/\Below w5.heap.size w5 wr/\OsP wr w5.heap.size 36 5 (.slice (some ⟨G,0,none⟩) s s) (rowsP k m hs L r) (fun q=>q<w5.heap.size∨q=H)/\BoolF wr w5.heap.size 4 H s (hurtP k m hs L r)/\Hid (∀t,t<r->pX k m hs L t=0)/\Hid (w5.heap.size+2<=wr.heap.size)) (fun _ x _=>n-(intOf x).toNat)
 case atStart=>exact⟨0,Zo,rfl,rfl,B6,O6,F6,fun t ht=>Zo,s6'⟩
 case round=>
  obtain⟨r,hr,rfl,rfl,hB,hO,hBo,hX,hsz⟩:=hrel;clear B6 O6 F6 s6'
  by_cases hlt:r<n
  ·have hlt':(r:Int)<(n:Int):=by omega
   have C1:=HWd.out wr hB r hlt
   go_wp2_with fail
   refine C1.mono ?_
   rintro e w7 ⟨vw,rfl,R7,b7⟩;have B7:Below w5.heap.size w5 w7:=Below.next hB b7;have C2:=HA.out w7 B7 vw r R7;obtain⟨va,vc,rfl⟩:=R7.form;clear C1
   go_wp2_with fail
   refine C2.mono ?_
   rintro e w8 ⟨vx,vd,rfl,R8,O8,b8,f8⟩;obtain⟨xa,xc,rfl⟩:=R8.form;obtain⟨da,dc,rfl⟩:=O8.form;have B8:=Below.next B7 b8;have b78:=Below.next b7 b8;have F8:=f8.mono b7.size;have h7s:Hid (wr.heap.size<=w7.heap.size):=b7.size;clear C2 R7 b7 b8 f8 B7
   rcases HT.out r with⟨e1,e2,e3⟩|⟨e1,e2,e3,e4⟩
   ·have EE:Hid _:=HMany2.out r hlt (by rw[e1];decide);have HBB:Hid (Below w.heap.size w w8):=Below.next HB5.out B8;rw[e1];clear e1 e2 e3 R8 O8 B8 b78 F8 hO hBo hB hX;go_wp2;rw[Exit.noGoto_ret];exact bodyPost_ret (v:=.tuple #[.slice none 0 0,.slice none 0 0,.int .i64 100]) (by simp[results,Tryz.results94,go_sem]) rfl (nilF10 HBB.out EE.out)
   ·have HX:Hid (∀t,t<r+1->pX k m hs L t=0):=fun t ht=>by
     by_cases q:t=r
     ·rw[q];exact e1
     ·exact hX.out t Zo
    rw[e1];have sz8:=b78.size;have szr:=hsz.out;have O8':OsP w8 w5.heap.size 36 5 (.slice (some ⟨G,0,none⟩) s s) (rowsP k m hs L r) (fun q=>(q<w5.heap.size∨q=H)∨(wr.heap.size<=q/\q<w8.heap.size)):=hO.later b78 (fun q hq=>by
     rcases hq with h|h
     ·exact Or.inl h
     ·exact Or.inr h.1)
    have C3:=elay_any O8' (fun q hq=>by rcases hq with(h|h)|h<;>omega) R8 (fun x n' c' e=>by
     obtain⟨bb,off,e9,h9,_⟩:=R8.byte (i:=0) (by rw[e2];omega);subst e9;simp at e;have h8:=F8 _ _ _ rfl;rw[<-e.1];exact Or.inr ⟨h8,h9⟩) (by rw[e2,hs0'.out]) (by rw[rowsP_length,hs0'.out]) Zo (fun i=>by
     rcases Nat.lt_or_ge i (k+m)with h|h
     ·rw[rowsP_ro h,upto_length];omega
     ·rw[ro_ge (by rw[rowsP_length];exact h)];simp) Zo
    have hBo8:BoolF w8 w5.heap.size 4 H s (hurtP k m hs L r):=owns_later hBo b78;have h77:wr.heap.size<=w7.heap.size:=h7s.out;have E2:Hid _:=e2;have E3:Hid _:=e3;have E4:Hid _:=e4;clear hO hBo hB F8 R8 O8' e1 e2 e3 e4
    go_wp2_with fail
    refine C3.mono ?_
    rintro e w9 ⟨rfl,O9,K9⟩;have O9':OsP w9 w5.heap.size 36 5 (.slice (some ⟨G,0,none⟩) s s) (rowsP k m hs L (r+1)) (fun q=>(q<w5.heap.size∨q=H)∨(wr.heap.size<=q/\q<w8.heap.size)):=O9.as (by
     rw[hs0'.out];refine ro_ext (by rw[mkL_length,rowsP_length]) fun i hi=>?_
     rw[mkL_length]at hi;rw[ro_mkL hi];exact rowsP_next hi)
    have O9i:OwnI w9 w7.heap.size 3 (.slice da (pP k m hs L r).length dc) (pP k m hs L r):=K9.owns O8 fun q hq=>by
     have:=World.ownsRow.lt O8 q hq;exact Or.inr ⟨Zo,this.2⟩
    have B9:Below w5.heap.size w5 w9:=B8.trans (K9.below fun q hq=>Or.inl (Or.inl hq));have hBo9:=hBo8.keep K9 (Or.inl (Or.inr rfl));have C4:=emark_any (O9i.rd (by have:=E4.out;omega)) (by have:=E4.out;omega) (by rw[hs0'.out];exact E3.out) hBo9 (fun b9 off9 m9 c9 e9=>by
     simp at e9;have h9:=World.ownsRow.lt O9i b9 (by
      obtain⟨_,⟨q1,_⟩|⟨gq,capq,curq,q1,_⟩⟩:=O9i
      ·simp at q1;rw[q1.1]at e9;simp at e9
      ·simp at q1;rw[q1.1]at e9;simp at e9;rw[q1.1];simp[Value.ownBlock];exact e9.1.1)
     omega)
    have K9s:=K9.size;clear C3 O9 hBo8 O8 K9 B8
    go_wp2_with fail
    refine C4.mono ?_
    rintro e w10 ⟨rfl,ho,hB10⟩;have HO:Hid (OsP w10 w5.heap.size 36 5 (.slice (some ⟨G,0,none⟩) s s) (rowsP k m hs L (r+1)) (fun q=>q<w5.heap.size∨q=H)):=(O9'.only ho (Or.inl (Or.inr rfl))).less fun q hq=>Or.inl hq
    have HBo:Hid (BoolF w10 w5.heap.size 4 H s (hurtP k m hs L (r+1))):=hB10;have HB:Hid (Below w5.heap.size w5 w10):=B9.trans (ho.below hH5.1);have HS:Hid (w5.heap.size+2<=w10.heap.size):=by show _<=_;rw[ho.size];omega
    clear C4 ho hB10 O9' hBo9 O9i B9 b78;go_wp2;go_roundw
    case rel=>exact⟨r+1,Zo,rfl,Zg,HB.out,HO.out,HBo.out,HX,HS⟩
    case measure=>simp[intOf];omega
  ·have hge:¬(r:Int)<(n:Int):=by omega
   have er:r=n:=Zo
   have EE:Hid _:=HOk2.out (fun t ht=>hX.out t Zo);have C1:=epl_any (hBo.rdB Zo) Zm;have hl9:Hid (((List.range s).map (hurtP k m hs L r)).length=s):=by show _=_;simp
   have hp9:Hid (plc (hb ((List.range s).map (hurtP k m hs L r))) s=shP (k:Int) (m:Int) hs L):=by
    show _=_
    rw[EE.out.2.2,er,<-hs0'.out];exact List.filter_congr fun i hi=>by have:=List.mem_range.1 hi;simp[hb,List.getD,this]
   have HR:Hid (FarL wr w.heap.size (.slice (some ⟨G,0,none⟩) s s) (shR (k:Int) (m:Int) hs L)):=by
    show FarL _ _ _ _
    rw[EE.out.2.1,<-er];exact⟨_,_,hO.os.base HB5.out.size⟩
   have HBr:Hid _:=Below.next HB5.out hB;clear hO hBo hX er hB
   go_wp2_with fail
   refine C1.mono ?_
   rintro e w7 ⟨vd,rfl,O7,b7⟩;rw[hl9.out,hp9.out]at O7;obtain⟨da,dc,rfl⟩:=O7.form;have HO:Hid (OwnI w7 w.heap.size 3 (.slice da (shP (k:Int) (m:Int) hs L).length dc) (shP (k:Int) (m:Int) hs L)):=ownsRow_base O7 HBr.out.size;have HR7:Hid _:=HR.out.later b7;have HB7:Hid _:=Below.next HBr.out b7;clear C1 O7 b7;go_wp2
   try rw[Exit.noGoto_ret]
   exact bodyPost_ret (v:=.tuple #[.slice (some ⟨G,0,none⟩) s s,.slice da (shP (k:Int) (m:Int) hs L).length dc,.int .i64 0]) (by simp[results,Tryz.results94,go_sem]) rfl ⟨_,_,by rw[EE.out.1],HR7.out,HO.out,HB7.out⟩
 ):p:=h
theorem esh_main{b k m s:Nat}{vh vl:Value}{hs:List Bool}{L:List (List UInt8)}{w:World}(hF:FieldAt w b)(h1:1<=k)(h2:k+m<=256)(hH:RdB w vh hs)(hL:Rs w vl L)(hs0:s=k+m)(p1:hs.length=s)(p2:L.length=s)(hsm:∀i,hb hs i=true->(ro L i).length<=300):Calls Tryz.prog 94 #[.pointer (some ⟨b,0,none⟩),.int .i64 (k:Int),.int .i64 (m:Int),vh,vl] w (MakesF10 w (shX k m hs L) (shR k m hs L) (shP k m hs L)):=by
 have c:OkC (k:Int) (m:Int):=⟨Zo,Zo,Zo⟩;have HNo:Hid (oneX hs L= -1->_):=fun h=>sh_shard (k:=(k:Int)) (m:=(m:Int)) (hs:=hs) (L:=L) c (fun q=>q.2.2 h)
 have HMany:Hid (∀n t:Nat,oneX hs L=(n:Int)->t<n->pX k m hs L t≠0->_):=fun n t h3 ht hx=>sh_many c Zo Zo h3 ht hx
 have HOk:Hid (∀n:Nat,oneX hs L=(n:Int)->(∀t,t<n->pX k m hs L t=0)->_):=fun n h3 hx=>sh_ok c Zo Zo h3 hx
 have HT:Hid (∀t,_):=fun t=>pX_told (L:=L) (t:=t) h1 h2 (show hs.length=k+m by omega)
 obtain⟨za,zc,rfl⟩:=hH.form;obtain⟨ma,mc,rfl⟩:=hL.form;have g1:(k:Int)+(m:Int)=(s:Int):=Zo
 have gw:IntKind.i64.wrap (s:Int)=(s:Int):=Zw
 have W1:=wts_ok (w:=w) hF h1 h2 rfl rfl;have hs256:s<=256:=Zo
 have hs0':Hid _:=hs0;have p1':Hid _:=p1;have p2':Hid _:=p2;have hsm':Hid _:=hsm;rw[p1]at hH ⊢;rw[p2]at hL ⊢;clear hs0 c p1 p2 hsm
 go_enter Tryz.func94,Tryz.ntmps94
 go_wp2_with fail
 go_step3
 go_wp2_with fail
 refine W1.mono ?_
 rintro e w2 ⟨vs,rfl,hR,b2⟩;obtain⟨sa,sc,rfl⟩:=hR.form;clear W1
 go_wp2_with fail
 refine(eonl_any (hH.below b2) (hL.below b2) (by rw[p1'.out,p2'.out]) (by rw[p1'.out];omega)).mono ?_
 rintro e w3 ⟨rfl,b3⟩;have B3:=Below.next b2 b3;have R3:=hR.below b3;clear b2 b3 hR
 rcases oneX_cases hs L with e0|⟨n,e0,hn,hex⟩
 ·have EE:Hid _:=HNo.out e0;rw[e0];clear HNo HMany HOk HT R3 hF hH hL e0;go_wp2
  try rw[Exit.noGoto_ret]
  exact bodyPost_ret (v:=.tuple #[.slice none 0 0,.slice none 0 0,.int .i64 60]) (by simp[results,Tryz.results94,go_sem]) rfl (nilF10 B3 EE.out)
 ·have hn300:n<=300:=by
   obtain⟨i,hi⟩:=hex;rw[<-hn i hi];exact hsm'.out i hi
  have HMany2:Hid (∀t,t<n->pX k m hs L t≠0->_):=fun t=>HMany.out n t e0
  have HOk2:Hid ((∀t,t<n->pX k m hs L t=0)->_):=HOk.out n e0;have hn':Hid _:=hn;rw[e0];have hn0:¬(n:Int)<0:=Zo
  clear HNo HMany HOk e0 hn hex;obtain⟨WS,hWS⟩:∃WS,Hid (WS=upto (wtF k m) (k+m)):=⟨_,rfl⟩;rw[<-hWS.out]at R3 ⊢
  go_wp2_with fail
  refine(eopp_any (hH.below B3) (by rw[p1'.out];omega)).mono ?_
  rintro e w4 ⟨vo,rfl,M4,b4⟩;obtain⟨oa,oc,rfl⟩:=M4.form;have hnl:Hid ((notM hs).length=s):=by show _=_;rw[notM_length,p1'.out]
  rw[hnl.out]at M4 ⊢;have B4:=Below.next B3 b4;have R4:=R3.below b4;clear R3 b4 B3
  go_wp2_with fail
  refine(erig_any (hF.below B4) R4 M4 (by rw[hnl.out];omega)).mono ?_
  rintro e w5 ⟨gb,mb,fb,kb,nb,sb,wb,vg,vn,rfl,T5,O5,N5,b5⟩;rw[hnl.out,hs0'.out]at O5 N5;have B5:=Below.next B4 b5;have R5:=R4.below b5;have M5:=M4.below b5;clear R4 M4 b5 B4;have mk1:=run_make_row' (P:=Tryz.prog) 106 36 (.slice none 0 0) 24 Tryz.underlying106 info_bytes10 rfl .i64 .i64 s Zo Zo;have mk2:=run_make_row' (P:=Tryz.prog) 96 4 (.bool false) 1 Tryz.underlying96 info_bool10 rfl .i64 .i64 s Zo Zo
  go_wp2_with fail
  go_region
  ·--ORDER A
   obtain⟨G,hG0⟩:∃G,Hid (G=w5.heap.size):=⟨_,rfl⟩;obtain⟨H,hH0⟩:∃H,Hid (H=w5.heap.size+1):=⟨_,rfl⟩;obtain⟨u6,hu6⟩:∃u6,u6=((w5.alloc (.cells (madeCells #[.slice none 0 0] s) 36)).alloc (.cells (madeCells #[.bool false] s) 4)).drew:=⟨_,rfl⟩;rw[<-hu6];rw[<-hH0.out,<-hG0.out];have hGH:G≠H:=by rw[hG0.out,hH0.out];omega
   have s6:u6.heap.size=w5.heap.size+2:=by rw[hu6];show(World.alloc _ _).heap.size=_;simp
   have B6:Below w5.heap.size w5 u6:=by rw[hu6];exact(below_lit (below_lit (Below.refl _ _) _) _).drew
   have O6:OsP u6 w5.heap.size 36 5 (.slice (some ⟨G,0,none⟩) s s) (rowsP k m hs L 0) (fun q=>q<w5.heap.size∨q=H):=by
    rw[rowsP_zero,<-hs0'.out];refine OsP.blank (cs:=List.replicate s (.slice none 0 0)) ?_ (fun y hy=>List.eq_of_mem_replicate hy) (fun q hq=>by have h9:=hG0.out;rcases hq with h|h<;>omega)
    rw[hu6,hG0.out];exact World.ownsRow.alloc (made_owns w5 (Nat.le_refl _) Zo) _
   have F6:BoolF u6 w5.heap.size 4 H s (hurtP k m hs L 0):=by
    refine bool_made ?_
    rw[hu6,hH0.out];exact made_owns' (w5.alloc (.cells (madeCells #[.slice none 0 0] s) 36)) Zs Zs Zo
   exact z20_1
  ·--ORDER B
   obtain⟨G,hG0⟩:∃G,Hid (G=w5.heap.size+1):=⟨_,rfl⟩;obtain⟨H,hH0⟩:∃H,Hid (H=w5.heap.size):=⟨_,rfl⟩;obtain⟨u6,hu6⟩:∃u6,u6=((w5.alloc (.cells (madeCells #[.bool false] s) 4)).alloc (.cells (madeCells #[.slice none 0 0] s) 36)).drew:=⟨_,rfl⟩;rw[<-hu6];rw[<-hG0.out,<-hH0.out];have hGH:G≠H:=by rw[hG0.out,hH0.out];omega
   have s6:u6.heap.size=w5.heap.size+2:=by rw[hu6];show(World.alloc _ _).heap.size=_;simp
   have B6:Below w5.heap.size w5 u6:=by rw[hu6];exact(below_lit (below_lit (Below.refl _ _) _) _).drew
   have O6:OsP u6 w5.heap.size 36 5 (.slice (some ⟨G,0,none⟩) s s) (rowsP k m hs L 0) (fun q=>q<w5.heap.size∨q=H):=by
    rw[rowsP_zero,<-hs0'.out];refine OsP.blank (cs:=List.replicate s (.slice none 0 0)) ?_ (fun y hy=>List.eq_of_mem_replicate hy) (fun q hq=>by have h9:=hG0.out;rcases hq with h|h<;>omega)
    rw[hu6,hG0.out];exact made_owns' (w5.alloc (.cells (madeCells #[.bool false] s) 4)) Zs Zs Zo
   have F6:BoolF u6 w5.heap.size 4 H s (hurtP k m hs L 0):=by
    refine bool_made ?_
    rw[hu6,hH0.out];exact World.ownsRow.alloc (made_owns w5 (Nat.le_refl _) Zo) _
   exact z20_1
theorem esh_far{b:Nat}{k m:Int}{vh vl:Value}{hs:List Bool}{L:List (List UInt8)}{w:World}(hF:FieldAt w b)(hH:RdB w vh hs)(hL:Rs w vl L)(hsm:∀i,hb hs i=true->(ro L i).length<=300):Calls Tryz.prog 94 #[.pointer (some ⟨b,0,none⟩),.int .i64 k,.int .i64 m,vh,vl] w (MakesF10 w (shX k m hs L) (shR k m hs L) (shP k m hs L)):=by
 by_cases c:OkC k m
 ·obtain⟨k,m,rfl,rfl,h1,h2⟩:=c.nat
  by_cases p1:hs.length=k+m
  ·by_cases p2:L.length=k+m
   ·exact esh_main hF h1 h2 hH hL rfl p1 p2 hsm
   ·exact esh_lens hF h1 h2 hH hL rfl (Or.inr p2)
  ·exact esh_lens hF h1 h2 hH hL rfl (Or.inl p1)
 ·exact esh_bad c hH hL
def MakesW10(w:World)(X:Int)(R:List UInt8)(P:List Nat)(e:Ending)(w':World):Prop:=∃va vd,e= .returned (.tuple #[va,vd,.int .i64 X])/\Rd w' va R/\OwnI w' w.heap.size 3 vd P/\Below w.heap.size w w'/\Far w.heap.size va
theorem nilW10{w w':World}{x:Int}(b:Below w.heap.size w w'){X:Int}{R:List UInt8}{P:List Nat}(h:X=x/\R=[]/\P=[]):MakesW10 w X R P (.returned (.tuple #[.slice none 0 0,.slice none 0 0,.int .i64 x])) w':=by
 obtain⟨rfl,rfl,rfl⟩:=h;exact⟨_,_,rfl,Or.inl ⟨none,0,rfl,rfl,Nat.zero_le _,fun _=>rfl⟩,OwnI.nil _ _ _,b,far_none⟩
def gW10(v:Value)(w:World)(i:Nat):Nat:=
 match v with
 | .slice (some a) _ _=>(intOf ((w.cell? ⟨a.block,i,none⟩).getD undef)).toNat
 |_=>0
def mea10(s r:Nat)(o:Value)(mo:Value)(w:World):Nat:=
 match mo with
 | .bool true=>(s+1)^r-rkF s (gW10 o w) r
 |_=>0
theorem mea_t(s r:Nat)(o:Value)(w:World):mea10 s r o (.bool true) w=(s+1)^r-rkF s (gW10 o w) r:=rfl
theorem mea_f(s r:Nat)(o:Value)(w:World):mea10 s r o (.bool false) w=0:=rfl
theorem rk_congr{n:Nat}{g h:Nat->Nat}{t:Nat}(e:∀i,i<t->g i=h i):rkF n g t=rkF n h t:=by
 induction t with
 |zero=>rfl
 |succ t ih=>rw[rkF,rkF,ih fun i hi=>e i Zo,e t Zo]
theorem rk_own{w:World}{base e n t:Nat}{v:Value}{g:Nat->Nat}(h:OwnI w base e v (stL g t)):rkF n (gW10 v w) t=rkF n g t:=by
 obtain⟨a,c,rfl⟩:=h.form;refine rk_congr fun i hi=>?_
 obtain⟨q,rfl,_,_,hc⟩:=h.cell (i:=i) (by rw[stL_length];exact hi);rw[stL_getD hi]at hc
 show(intOf ((w.cell? ⟨q,i,none⟩).getD undef)).toNat=g i
 rw[hc];simp[intOf]
theorem rword_main{k m s:Nat}{v vm:Value}{z:List UInt8}{ms:List Bool}{w:World}(h1:1<=k)(h2:k+m<=256)(hz:Rd w v z)(hM:RdB w vm ms)(hs0:s=k+m)(p1:z.length=s)(p2:ms.length=s):
  Calls Tryz.prog 152 #[.int .i64 (k:Int),.int .i64 (m:Int),v,vm] w (MakesW10 w (wdX k m z ms) (wdR k m z ms) (wdP k m z ms)):=by
 have ok:OkC (k:Int) (m:Int):=⟨Zo,Zo,Zo⟩;obtain⟨i0,hi,hz0,hz1,hz2⟩:=info_parts info_int;obtain⟨za,zc,rfl⟩:=hz.form;obtain⟨ma,mc,rfl⟩:=hM.form;have g1:(k:Int)+(m:Int)=(s:Int):=Zo
 have gw:IntKind.i64.wrap (s:Int)=(s:Int):=Zw
 have q1:((z.length:Int)!=(s:Int))=false:=by simp[p1]
 have q2:((ms.length:Int)!=(s:Int))=false:=by simp[p2]
 have p1':Hid _:=p1;have p2':Hid _:=p2;have hs0':Hid _:=hs0;clear p1 p2 hs0
 go_enter Tryz.func152,Tryz.ntmps152
 go_wp2_with fail
 refine(rccheck_ok _ ok).mono ?_
 rintro e u1 ⟨rfl,rfl⟩
 go_wp2_with fail
 refine(rcnt_any hM).mono ?_
 rintro e u2 ⟨rfl,rfl⟩;obtain⟨e0,he0⟩:∃e0,Hid (e0=cnt (hb ms) ms.length):=⟨_,rfl⟩;rw[<-he0.out];have he2:e0<=256:=by rw[he0.out];have:=cnt_le (hb ms) ms.length;have:=p2'.out;have:=hs0'.out;omega
 go_wp2_with fail
 go_loopw [13] (fun x wr=>∃t:Nat,t<=m+1/\x= .int .i64 (t:Int)/\Below u2.heap.size u2 wr/\Hid (∀t' g,t'<t->Inc s t' g->Vain k m z ms t' g)) (fun x _=>m+1-(intOf x).toNat)
 case atStart=>exact⟨0,Zo,rfl,Below.refl _ _,fun t' g h=>Zo⟩
 case round=>
  obtain⟨t,ht,rfl,hB,hV⟩:=hrel;have gt1:IntKind.i64.wrap (2*(t:Int))=2*(t:Int):=Zw
  have gt2:IntKind.i64.wrap (2*(t:Int)+(e0:Int))=2*(t:Int)+(e0:Int):=Zw
  by_cases hle:2*t+e0<=m
  ·have hle':2*(t:Int)+(e0:Int)<=(m:Int):=by omega
   obtain⟨wo,hwo⟩:∃wo,wo=wr:=⟨_,rfl⟩;subst hwo
   go_wp2_with fail
   go_loopw [14,15] (fun o i wz=>∃r:Nat,r<=t/\i= .int .i64 (r:Int)/\OwnI wz u2.heap.size 3 o (stL (fun j=>j) r)/\Below u2.heap.size u2 wz) (fun _ i _=>t-(intOf i).toNat)
   case atStart=>exact⟨0,Zo,rfl,OwnI.nil _ _ _,hB⟩
   case round=>
    obtain⟨r,hr,rfl,hO,hB2⟩:=hrel;have hsz:=hB2.size;have hsl:Hid _:=stL_length (fun j=>j) r;obtain⟨av,cv,ev⟩:=hO.form;rw[hsl.out]at ev;subst ev
    by_cases hlt:r<t
    ·have hlt':(r:Int)<(t:Int):=by omega
     have E':Hid _:=stL_succ (fun j=>j) r;clear hz hM hB
     go_wp2_with (at_builtin;go_loud (refine wpList_append_int rfl (.tmp 57) (.tmp 59) 45 rfl u2.heap.size 3 i0 Tryz.underlying45 hi hz0 hz1 hz2 (.slice av r cv) (stL (fun j=>j) r) rfl hO r _ 1 rfl (by rw[hsl.out];omega) hsz ?_);intro v' w9 hv2 hb2)
     have HO:Hid (OwnI w9 u2.heap.size 3 v' (stL (fun j=>j) (r+1))):=by show OwnI _ _ _ _ _;rw[E'.out];exact hv2
     have HB:Hid (Below u2.heap.size u2 w9):=hB2.trans hb2;clear hO hv2 hb2 hB2;go_wp2;go_roundw
     case rel=>exact⟨r+1,Zo,Zg,HO.out,HB.out⟩
     case measure=>simp[intOf];omega
    ·have hge:¬(r:Int)<(t:Int):=by omega
     have er:r=t:=Zo
     subst er;obtain⟨wp,hwp⟩:∃wp,wp=wr:=⟨_,rfl⟩;subst hwp;have hrs:r<=s:=by have:=hs0'.out;omega
     go_wp2_with fail
     go_loopw [14,16] (fun o mo wz=>Below u2.heap.size u2 wz/\((mo= .bool true/\∃g,Hid (Inc s r g)/\OwnI wz u2.heap.size 3 o (stL g r)/\Hid (∀T,Inc s r T->Lx r T g->Vain k m z ms r T))∨(mo= .bool false/\(∃oa on oc,o= .slice oa on oc)/\Hid (∀T,Inc s r T->Vain k m z ms r T)))) (fun o mo wz=>mea10 s r o mo wz)
     case atStart=>exact⟨hB2,Or.inl ⟨rfl,fun j=>j,first_inc hrs,hO,fun T hT hl=>absurd hl (nx_first hT)⟩⟩
     case round=>
      clear hO;obtain⟨hB3,⟨rfl,g,hI,hO,hT⟩|⟨rfl,⟨oa,on,oc,rfl⟩,hT⟩⟩:=hrel
      ·have hlen:Hid _:=stL_length g r;obtain⟨av,cv,ev⟩:=hO.form;rw[hlen.out]at ev;subst ev;have R1:=hO.rd (by rw[hlen.out];omega);have hrk:Hid (rkF s (gW10 (.slice av r cv) wr) r=rkF s g r):=rk_own hO;have hlt9:Hid (rkF s g r<(s+1)^r):=rk_lt fun i hi=>Nat.le_of_lt (hI.out.lt i hi)
       have C1:=rtried_any (T:=stL g r) h1 h2 (by rw[p1'.out,hs0'.out]) (by rw[p2'.out,hs0'.out]) (hz.below hB3) (hM.below hB3) R1 (fun i hi9=>by rw[hlen.out]at hi9;rw[stL_getD hi9,<-hs0'.out];exact hI.out.lt i hi9) (by rw[hlen.out,<-hs0'.out,<-p2'.out,<-he0.out];omega) rfl rfl
       by_cases hd:cnt (tryW k m z ms (stL g r)) (k+m)<=(stL g r).length
       ·rw[decide_eq_true hd]at C1;have hN:=try_near h1 h2 (show ms.length=k+m by rw[p2'.out,hs0'.out]) (show z.length=k+m by rw[p1'.out,hs0'.out]) (T:=stL g r) (by rw[hlen.out,<-hs0'.out,<-p2'.out,<-he0.out];exact hle) hd;have hW:=wd_ok ok ⟨by rw[p1'.out,g1],by rw[p2'.out,g1]⟩ hN;have hLe:=try_len h1 (hs:=wth ms (stL g r)) (z:=z) (by rw[wth_length,p2'.out,hs0'.out]) (by rw[p1'.out,hs0'.out]) (wth_there (by rw[p2'.out,hs0'.out]) (by rw[hlen.out,<-hs0'.out,<-p2'.out,<-he0.out];omega));have EE:Hid (wdX k m z ms=0/\wdR k m z ms=tryL k m (wth ms (stL g r)) z/\wdP k m z ms=plc (tryW k m z ms (stL g r)) (k+m)):=⟨hW.1,hW.2.1.trans (by rw[<-hLe];exact upto_co _),hW.2.2⟩;clear hW hLe hN hd hT hV hI hrk hlt9 R1 hO hz hM hB2 hB
        go_wp2_with fail
        refine C1.mono ?_
        rintro e w9 ⟨va,vd,rfl,Ra,Rd9,b9,f9⟩;obtain⟨aa,ac,rfl⟩:=Ra.form;obtain⟨da,dc,rfl⟩:=Rd9.form;have HR:Hid (Rd w9 _ _/\OwnI w9 u2.heap.size 3 _ _/\Below u2.heap.size u2 w9/\Far u2.heap.size _):=And.intro Ra (And.intro (ownsRow_base Rd9 hB3.size) (And.intro (Below.next hB3 b9) (f9.mono hB3.size)));clear f9 Ra Rd9 b9 hB3 C1;go_wp2;exact bodyPost_ret (v:=.tuple #[.slice aa (tryL k m (wth ms (stL g r)) z).length ac,.slice da (plc (tryW k m z ms (stL g r)) (k+m)).length dc,.int .i64 0]) (by simp[results,Tryz.results152,go_sem]) rfl ⟨_,_,by rw[EE.out.1],by rw[EE.out.2.1];exact HR.out.1,by rw[EE.out.2.2];exact HR.out.2.1,HR.out.2.2.1,HR.out.2.2.2⟩
       ·rw[decide_eq_false hd]at C1;have HVn:Hid (Vain k m z ms r g):=by
         show r<cnt (tryW k m z ms (stL g r)) (k+m)
         rw[hlen.out]at hd;omega
        clear hd
        go_wp2_with fail
        refine C1.mono ?_
        rintro e w9 ⟨va,vd,rfl,Ra,Rd9,b9,f9⟩;obtain⟨aa,ac,rfl⟩:=Ra.form;obtain⟨da,dc,rfl⟩:=Rd9.form;have hO9:OwnI w9 u2.heap.size 3 (.slice av r cv) (stL g r):=owns_later hO b9;have B9:=Below.next hB3 b9;clear f9 Ra Rd9 b9 C1 R1 hO;generalize (tryL k m (wth ms (stL g r)) z).length=n1;generalize (plc (tryW k m z ms (stL g r)) (k+m)).length=n2;have C2:=rnext_any hO9 hI.out Zo Zo (x:=(s:Int)) rfl
        go_wp2_with fail
        refine C2.mono ?_
        rintro e w8 ⟨b8,h8⟩;have B8:=Below.next B9 b8
        rcases h8 with⟨i,hi1,hi2,hi3,v8,rfl,O8⟩|⟨hi3,rfl⟩
        ·have O8':OwnI w8 u2.heap.size 3 v8 (stL (nxF g i) r):=ownsRow_base O8 B9.size;obtain⟨na,nc,ev⟩:=O8'.form;rw[stL_length]at ev;subst ev;have HI:Hid _:=nx_inc hI.out hi1 hi2;have HT:Hid _:=tried_next (Bad:=Vain k m z ms r) hi1 hi3 (fun a b e h=>h.congr e) hT.out HVn.out;have HRk:Hid (rkF s (gW10 (.slice na r nc) w8) r=rkF s (nxF g i) r):=rk_own O8';have HLt:Hid (rkF s g r<rkF s (nxF g i) r):=rk_lx (fun j hj=>Nat.le_of_lt (hI.out.lt j hj)) (nx_lx hi1);have HL2:Hid (rkF s (nxF g i) r<(s+1)^r):=rk_lt fun j hj=>Nat.le_of_lt (HI.out.lt j hj)
         have HO:Hid _:=O8';have HB:Hid _:=B8;clear O8 O8' C2 b8 B8 B9 hO9 hi1 hi2 hi3 hT hI;go_wp2;go_roundw
         case rel=>exact⟨HB.out,Or.inl ⟨rfl,_,HI,HO.out,HT⟩⟩
         case measure=>
          show mea10 s r (.slice na r nc) (.bool true) w8<mea10 s r (.slice av r cv) (.bool true) wr
          rw[mea_t,mea_t,HRk.out,hrk.out];have:=HLt.out;have:=HL2.out;omega
        ·have HT:Hid _:=tried_all (Bad:=Vain k m z ms r) hi3 (fun a b e h=>h.congr e) hT.out HVn.out;have HB:Hid _:=B8;clear C2 b8 B8 B9 hO9 hi3 hT hI;go_wp2;go_roundw
         case rel=>exact⟨HB.out,Or.inr ⟨rfl,⟨_,_,_,rfl⟩,HT⟩⟩
         case measure=>
          show mea10 s r (.slice none 0 0) (.bool false) w8<mea10 s r (.slice av r cv) (.bool true) wr
          rw[mea_t,mea_f,hrk.out];have:=hlt9.out;omega
      ·have HV:Hid (∀t' g,t'<r+1->Inc s t' g->Vain k m z ms t' g):=fun t' g h hi9=>by
        by_cases q:t'=r
        ·rw[q]at hi9 ⊢;exact hT.out g hi9
        ·exact hV.out t' g Zo hi9
       clear hT hV hz hM hB2 hB;go_wp2;go_roundw
       case rel=>exact⟨r+1,Zo,Zg,hB3,HV⟩
       case measure=>simp[intOf];omega
  ·have hle':¬2*(t:Int)+(e0:Int)<=(m:Int):=by omega
   have EE:Hid _:=wd_many (z:=z) (ms:=ms) ok ⟨by rw[p1'.out,g1],by rw[p2'.out,g1]⟩ (vain_none h1 h2 (by rw[p2'.out,hs0'.out]) (by rw[p1'.out,hs0'.out]) (fun t' g h hi=>by
    refine hV.out t' g ?_ (by rw[hs0'.out];exact hi)
    rw[<-hs0'.out,<-p2'.out,<-he0.out]at h;omega))
   clear hV hz hM;go_wp2;exact bodyPost_ret (v:=.tuple #[.slice none 0 0,.slice none 0 0,.int .i64 100]) (by simp[results,Tryz.results152,go_sem]) rfl (nilW10 hB EE.out)
theorem z20_3{p:Prop} (h:p:=by
 go_enter Tryz.func152,Tryz.ntmps152
 go_wp2_with fail
 refine(rccheck_ok _ c).mono ?_
 rintro e u1 ⟨rfl,rfl⟩;clear c;go_wp2;exact bodyPost_ret (v:=.tuple #[.slice none 0 0,.slice none 0 0,.int .i64 60]) (by simp[results,Tryz.results152,go_sem]) rfl (nilW10 (Below.refl _ _) EE.out)
 ):p:=h
theorem rword_any{k m:Int}{v vm:Value}{z:List UInt8}{ms:List Bool}{w:World}(hz:Rd w v z)(hM:RdB w vm ms):Calls Tryz.prog 152 #[.int .i64 k,.int .i64 m,v,vm] w (MakesW10 w (wdX k m z ms) (wdR k m z ms) (wdP k m z ms)):=by
 by_cases c:OkC k m
 ·obtain⟨k,m,rfl,rfl,h1,h2⟩:=c.nat;obtain⟨s,hs⟩:∃s,Hid (s=k+m):=⟨_,rfl⟩
  by_cases p1:z.length=s
  ·by_cases p2:ms.length=s
   ·exact rword_main h1 h2 hz hM hs.out p1 p2
   ·have EE:Hid _:=wd_shard (z:=z) (ms:=ms) c (fun h=>p2 (by have:=h.2;have:=hs.out;omega));obtain⟨za,zc,rfl⟩:=hz.form;obtain⟨ma,mc,rfl⟩:=hM.form;have g1:(k:Int)+(m:Int)=(s:Int):=by have:=hs.out;omega
    have gw:IntKind.i64.wrap (s:Int)=(s:Int):=by have:=hs.out;rw[IntKind.wrap_i64];omega
    have q1:((z.length:Int)!=(s:Int))=false:=by simp[p1]
    have q2:((ms.length:Int)!=(s:Int))=true:=Zm
    clear p1 p2 hz hM;exact z20_3
  ·have EE:Hid _:=wd_shard (z:=z) (ms:=ms) c (fun h=>p1 (by have:=h.1;have:=hs.out;omega));obtain⟨za,zc,rfl⟩:=hz.form;obtain⟨ma,mc,rfl⟩:=hM.form;have g1:(k:Int)+(m:Int)=(s:Int):=by have:=hs.out;omega
   have gw:IntKind.i64.wrap (s:Int)=(s:Int):=by have:=hs.out;rw[IntKind.wrap_i64];omega
   have q1:((z.length:Int)!=(s:Int))=true:=Zm
   clear p1 hz hM;exact z20_3
 ·have EE:Hid _:=wd_bad (z:=z) (ms:=ms) c;obtain⟨za,zc,rfl⟩:=hz.form;obtain⟨ma,mc,rfl⟩:=hM.form;clear hz hM
  go_enter Tryz.func152,Tryz.ntmps152
  go_wp2_with fail
  refine(rccheck_bad _ c).mono ?_
  rintro e u1 ⟨rfl,rfl⟩;clear c;go_wp2;exact bodyPost_ret (v:=.tuple #[.slice none 0 0,.slice none 0 0,.int .i64 50]) (by simp[results,Tryz.results152,go_sem]) rfl (nilW10 (Below.refl _ _) EE.out)
end Go.Proofs.YtddnfhfangfgeaaGreat.Gf
