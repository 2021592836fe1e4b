/- TEXTS JOINED: WdOs, WdCG. -/
import Derived.Test.YtddnfhfangfgeaaGreatPome24
set_option maxHeartbeats 2000000
set_option maxRecDepth 100000
namespace Go.Proofs.YtddnfhfangfgeaaGreat.Gf
set_option linter.unusedVariables false
set_option linter.unusedSimpArgs false
open Go.RowKit
structure Keep(P:Nat->Prop)(w w':World):Prop where
 os:w'.os=w.os
 tape:w'.tape=w.tape
 output:w'.output=w.output
 size:w.heap.size<=w'.heap.size
 block:∀q,P q->w'.heap[q]? =w.heap[q]?
theorem Keep.refl(P:Nat->Prop)(w:World):Keep P w w:=⟨rfl,rfl,rfl,Nat.le_refl _,fun _ _=>rfl⟩
theorem Keep.trans{P:Nat->Prop}{a b c:World}(h:Keep P a b)(k:Keep P b c):Keep P a c:=
 ⟨k.os.trans h.os,k.tape.trans h.tape,k.output.trans h.output,Nat.le_trans h.size k.size,fun q hq=>(k.block q hq).trans (h.block q hq)⟩
theorem Keep.mono{P Q:Nat->Prop}{w w':World}(h:Keep P w w')(k:∀q,Q q->P q):Keep Q w w':=⟨h.os,h.tape,h.output,h.size,fun q hq=>h.block q (k q hq)⟩
theorem Keep.below{P:Nat->Prop}{B:Nat}{w w':World}(h:Keep P w w')(k:∀q,q<B->P q):Below B w w':=⟨h.os,h.tape,h.output,h.size,fun q hq=>h.block q (k q hq)⟩
theorem Keep.rd{P:Nat->Prop}{w w':World}{v:Value}{p:List UInt8}(h:Keep P w w')(r:Rd w v p)(hv:∀x n c,v= .slice (some x) n c->P x.block):Rd w' v p:=by
 rcases r with r|⟨b,off,cap,h1,h2,h3,h4,h5,h6⟩
 ·exact Or.inl r
 ·exact Or.inr ⟨b,off,cap,h1,h2,h3,h4,Nat.lt_of_lt_of_le h5 h.size,fun i hi=>(World.cell?_of_block (w:=w) (a:=⟨b,off+i,none⟩) (h.block b (hv _ _ _ h2))).trans (h6 i hi)⟩
theorem Keep.owns{P:Nat->Prop}{w w':World}{base e n:Nat}{v:Value}{xs:List Value}(h:Keep P w w')(r:w.ownsRow base e 1 v n xs)(hv:∀q,v.ownBlock=some q->P q):w'.ownsRow base e 1 v n xs:=by
 obtain⟨h0,⟨e1,e2⟩|⟨g,cap,cur,e1,hg,hh,hc⟩⟩:=r
 ·exact⟨h0,Or.inl ⟨e1,e2⟩⟩
 ·subst e1;exact⟨h0,Or.inr ⟨g,cap,cur,rfl,hg,(h.block g (hv g rfl)).trans hh,hc⟩⟩
def OsP(w:World)(base T u:Nat)(v:Value)(L:List (List UInt8))(P:Nat->Prop):Prop:=
 ∃vals,w.ownsRow base T 1 v L.length vals/\RowsO w base u v vals (ro L)/\∀q,P q->v.ownBlock≠some q/\∀(i:Nat) (x:Value),vals[i]? =some x->x.ownBlock≠some q
theorem OsP.os{w:World}{base T u:Nat}{v:Value}{L:List (List UInt8)}{P:Nat->Prop}(h:OsP w base T u v L P):Os w base T u v L:=by
 obtain⟨vals,h1,h2,_⟩:=h;exact⟨vals,h1,h2⟩
theorem OsP.as{w:World}{base T u:Nat}{v:Value}{L M:List (List UInt8)}{P:Nat->Prop}(h:OsP w base T u v L P)(e:L=M):OsP w base T u v M P:=e▸h
theorem OsP.later{w w':World}{base T u:Nat}{v:Value}{L:List (List UInt8)}{P Q:Nat->Prop}(h:OsP w base T u v L P)(hb:Below w.heap.size w w')(hQ:∀q,Q q->P q∨w.heap.size<=q):OsP w' base T u v L Q:=by
 obtain⟨vals,hv,hr,hp⟩:=h;refine⟨vals,owns_later hv hb,⟨fun i x hx=>owns_later (hr.own i x hx) hb,hr.diff,hr.out⟩,fun q hq=>?_⟩
 rcases hQ q hq with h1|h1
 ·exact hp q h1
 ·refine⟨fun e=>?_,fun i x hx e=>?_⟩
  ·have:=World.ownsRow.lt hv q e;omega
  ·have:=(hr.own i x hx).lt e;omega
theorem OsP.less{w:World}{base T u:Nat}{v:Value}{L:List (List UInt8)}{P Q:Nat->Prop}(h:OsP w base T u v L P)(hQ:∀q,Q q->P q):OsP w base T u v L Q:=by
 obtain⟨vals,hv,hr,hp⟩:=h;exact⟨vals,hv,hr,fun q hq=>hp q (hQ q hq)⟩
theorem OsP.only{w w':World}{base T u g:Nat}{v:Value}{L:List (List UInt8)}{P:Nat->Prop}(h:OsP w base T u v L P)(ho:Only g w w')(hg:P g):OsP w' base T u v L P:=by
 obtain⟨vals,hv,hr,hp⟩:=h;obtain⟨h1,h2⟩:=hp g hg;exact⟨vals,World.ownsRow.kept hv ho.grown (Or.inr h1),⟨fun i x hx=>World.ownsRow.kept (hr.own i x hx) ho.grown (Or.inr (h2 i x hx)),hr.diff,hr.out⟩,hp⟩
theorem OsP.spot{wr:World}{base T u G n C:Nat}{L:List (List UInt8)}{P:Nat->Prop}(h:OsP wr base T u (.slice (some ⟨G,0,none⟩) n C) L P){k:Nat}(hk:k<L.length):
  ∃x,wr.cell? ⟨G,k,none⟩=some x/\wr.frozen? ⟨G,k,none⟩=false/\base<=G/\G<wr.heap.size/\OwnP wr base u x (ro L k)/\n=L.length/\
   ∀(w6 w7:World) (x':Value) (p:List UInt8),Below wr.heap.size wr w6->w6.grownBy w7 x.ownBlock->OwnP w7 base u x' p->(x'.ownBlock=x.ownBlock∨x'.ownBlock=some w6.heap.size)->(∀q,P q->q<w6.heap.size)->
    w7.cell? ⟨G,k,none⟩=some x/\w7.frozen? ⟨G,k,none⟩=false/\OsP (w7.setCell ⟨G,k,none⟩ x') base T u (.slice (some ⟨G,0,none⟩) n C) (L.set k p) P/\Keep (fun q=>P q/\q<wr.heap.size) wr (w7.setCell ⟨G,k,none⟩ x'):=by
 obtain⟨vals,hv,hr,hp⟩:=h;have hl:vals.length=L.length:=by have:=hv.1;omega
 have hx:vals[k]? =some vals[k]:=List.getElem?_eq_getElem (by omega)
 have hG:=World.ownsRow.lt hv G rfl;have hn:n=L.length:=by
  obtain⟨_,⟨e,_⟩|⟨g,cap,cur,e,_⟩⟩:=hv<;>simp at e;exact e.2.1
 subst hn;refine⟨vals[k],by rw[World.ownsRow.cellAt hv k (by omega),hx],World.ownsRow.frozenAt hv k,hG.1,hG.2,hr.own k _ hx,rfl,fun w6 w7 x' p hB hg ho hb hP=>?_⟩;obtain⟨c7,f7⟩:=RowsO.outer hr hv hx hk hB hg;obtain⟨h1,h2⟩:=RowsO.put (row':=ro (L.set k p)) hr hv hx hB hg (by rw[ro_set hk,if_pos rfl];exact ho) hb (fun i hi=>by rw[ro_set hk,if_neg hi]);refine⟨c7,f7,⟨vals.set k x',by rw[List.length_set];exact h1,h2,fun q hq=>⟨(hp q hq).1,fun i y hy=>?_⟩⟩,?_⟩
 ·by_cases e:i=k
  ·subst e;rw[List.getElem?_set_self (by omega)]at hy;cases hy
   rcases hb with e2|e2
   ·rw[e2];exact(hp q hq).2 i _ hx
   ·rw[e2];intro e3;cases e3;have:=hP _ hq;omega
  ·rw[List.getElem?_set_ne (fun h=>e h.symm)]at hy;exact(hp q hq).2 i y hy
 ·have O:=(Only.refl G w7).setCell k x';refine⟨O.os.trans (hg.os.trans hB.os),O.tape.trans (hg.tape.trans hB.tape),O.output.trans (hg.output.trans hB.output),by rw[O.size];exact Nat.le_trans hB.size hg.size,fun q hq=>?_⟩;have hq1:q≠G:=fun e=>(hp q hq.1).1 (by rw[e];rfl)
  rw[O.block q hq1,hg.block q (by have:=hB.size;omega) (fun e=>(hp q hq.1).2 k _ hx e.symm),hB.block q hq.2]
theorem OsP.blank{w:World}{base T u G n:Nat}{cs:List Value}{P:Nat->Prop}(hv:w.ownsRow base T 1 (.slice (some ⟨G,0,none⟩) n n) n cs)(hc:∀y∈cs,y= .slice none 0 0)(hP:∀q,P q->q≠G):OsP w base T u (.slice (some ⟨G,0,none⟩) n n) (mkL n (fun _=>[])) P:=by
 have h:=Os.blank (u:=u) hv hc;have hl:cs.length=n:=by have:=hv.1;omega
 refine⟨cs,by rw[mkL_length];exact hv,⟨fun i x hx=>?_,fun i j x y hx _ _=>?_,fun i x hx=>?_⟩,fun q hq=>⟨fun e=>hP q hq (by cases e;rfl),fun i x hx e=>?_⟩⟩
 ·have hi:i<n:=by
   rcases Nat.lt_or_ge i cs.length with h|h
   ·omega
   ·rw[List.getElem?_eq_none h]at hx;cases hx
  rw[ro_mkL hi,hc x (List.mem_of_getElem? hx)];exact World.ownsRow_nil _ _ _ _
 ·left;rw[hc x (List.mem_of_getElem? hx)];rfl
 ·left;rw[hc x (List.mem_of_getElem? hx)];rfl
 ·rw[hc x (List.mem_of_getElem? hx)]at e;cases e
theorem BoolF.keep{P:Nat->Prop}{w w':World}{base e g n:Nat}{f:Nat->Bool}(h:BoolF w base e g n f)(k:Keep P w w')(hg:P g):BoolF w' base e g n f:=k.owns h fun q hq=>by cases hq;exact hg
def flZ(Z:List Nat)(L:List (List UInt8))(r:Nat):Int:=if r=0 then-1 else (((ro L (Z.getD 0 0)).length:Nat):Int)
theorem eonl_any{va vb:Value}{h:List Bool}{L:List (List UInt8)}{w:World}(hH:RdB w va h)(hL:Rs w vb L)(hlen:h.length=L.length)(hl:h.length<=300):Calls Tryz.prog 134 #[va,vb] w fun e w'=>e= .returned (.int .i64 (oneX h L))/\Below w.heap.size w w':=by
 obtain⟨a,c,rfl⟩:=hH.form;obtain⟨a',c',rfl⟩:=hL.form;have hlen':Hid _:=hlen;clear hlen
 go_enter Tryz.func134,Tryz.ntmps134
 go_wp2_with fail
 refine(epl_any hH hl).mono ?_
 rintro e u ⟨v,rfl,O1,B1⟩;obtain⟨ga,gc,rfl⟩:=O1.form;have hL1:=hL.below B1;obtain⟨Z,hZ⟩:∃Z,Hid (Z=plc (hb h) h.length):=⟨_,rfl⟩;rw[<-hZ.out]at O1 ⊢;clear hH hL;have hin:Hid (∀j,j<Z.length->Z.getD j 0<L.length/\hb h (Z.getD j 0)=true):=fun j hj=>by
  rw[hZ.out]at hj ⊢;have hm:=plc_mem.1 (getD_mem hj);exact⟨by rw[<-hlen'.out];exact hm.1,hm.2⟩
 have HP:Hid (∀j,j<Z.length->∃qb,ga=some ⟨qb,0,none⟩/\u.cell? ⟨qb,j,none⟩=some (.int .i64 ((Z.getD j 0:Nat):Int))):=fun j hj=>by
  obtain⟨qb,e1,_,_,e4⟩:=O1.cell hj;exact⟨qb,e1,e4⟩
 have HB:Hid _:=B1;have hZl:Z.length<=300:=by rw[hZ.out,plc_length];have:=cnt_le (hb h) h.length;omega
 clear O1 B1
 go_wp2_with fail
 go_loop [5,11] (fun x i=>∃r:Nat,r<=Z.length/\i= .int .i64 (r:Int)/\x= .int .i64 (flZ Z L r)/\Hid (∀j,j<r->(ro L (Z.getD j 0)).length=(ro L (Z.getD 0 0)).length)) (fun _ i=>Z.length-(intOf i).toNat)
 case atStart=>exact⟨0,by omega,rfl,rfl,fun j hj=>by omega⟩
 case round=>
  obtain⟨r,hr,rfl,rfl,hI⟩:=hrel
  by_cases hlt:r<Z.length
  ·have hlt':(r:Int)<(Z.length:Int):=by omega
   obtain⟨qb,rfl,cq⟩:=HP.out r hlt;obtain⟨hx,hbx⟩:=hin.out r hlt;have hl1:=hL1.len;unfold maxLen at hl1;obtain⟨bb,off,xa,xc,rfl,_,cl,rl⟩:=hL1.at hx;have hll:=rl.len;unfold maxLen at hll
   by_cases r0:r=0
   ·subst r0;have E0:flZ Z L 0= -1:=rfl;have E1:Hid (flZ Z L 1=(((ro L (Z.getD 0 0)).length:Nat):Int)):=rfl;have HI:Hid (∀j,j<0+1->(ro L (Z.getD j 0)).length=(ro L (Z.getD 0 0)).length):=fun j hj=>by rw[show j=0 by omega]
    rw[E0];obtain⟨x,hxx⟩:∃x,Hid (x=Z.getD 0 0):=⟨_,rfl⟩;rw[<-hxx.out]at cq hx cl rl E1 hll;obtain⟨l,hl9⟩:∃l,Hid (l=(ro L x).length):=⟨_,rfl⟩;rw[<-hl9.out]at cl rl E1 hll;have hx':(x:Int)<(L.length:Int):=by omega
    clear rl hbx E0 hI;go_wp2
    go_round
    case rel=>exact⟨1,by omega,by go_num,by rw[E1.out],HI⟩
    case measure=>simp[intOf];omega
   ·have E0:flZ Z L r=(((ro L (Z.getD 0 0)).length:Nat):Int):=if_neg r0;have E1:Hid (flZ Z L (r+1)=(((ro L (Z.getD 0 0)).length:Nat):Int)):=if_neg (by omega);rw[E0];have h0b:=(hin.out 0 (by omega)).2
    by_cases e:(ro L (Z.getD r 0)).length=(ro L (Z.getD 0 0)).length
    ·have HI:Hid (∀j,j<r+1->(ro L (Z.getD j 0)).length=(ro L (Z.getD 0 0)).length):=fun j hj=>by
      by_cases ej:j=r
      ·rw[ej];exact e
      ·exact hI.out j (by omega)
     rw[e]at cl rl hll;obtain⟨x,hxx⟩:∃x,Hid (x=Z.getD r 0):=⟨_,rfl⟩;rw[<-hxx.out]at cq hx cl;have hx':(x:Int)<(L.length:Int):=by omega
     have hn0:¬((ro L (Z.getD 0 0)).length:Int)<0:=by omega
     clear rl hbx E0 hI e h0b hll;go_wp2
     go_round
     case rel=>exact⟨r+1,by omega,by go_num,by rw[E1.out],HI⟩
     case measure=>simp[intOf];omega
    ·have EX:Hid (oneX h L= -1):=oneX_odd hbx h0b e;obtain⟨x,hxx⟩:∃x,Hid (x=Z.getD r 0):=⟨_,rfl⟩;rw[<-hxx.out]at cq hx cl e;obtain⟨l,hl9⟩:∃l,Hid (l=(ro L (Z.getD 0 0)).length):=⟨_,rfl⟩;obtain⟨l2,hl8⟩:∃l2,Hid (l2=(ro L x).length):=⟨_,rfl⟩;rw[<-hl9.out]at e ⊢;rw[<-hl8.out]at e cl;have hx':(x:Int)<(L.length:Int):=by omega
     have hn0:¬(l:Int)<0:=by omega
     have hq:((l2:Int)!=(l:Int))=true:=by simp;omega
     clear rl hbx E0 hI e h0b hll E1;go_wp2
     try rw[Exit.noGoto_ret]
     go_ret;exact⟨by rw[EX.out];rfl,HB.out⟩
  ·have hge:¬(r:Int)<(Z.length:Int):=by omega
   have er:r=Z.length:=by omega
   have EX:Hid (oneX h L=flZ Z L r):=by
    show _=_
    have hmem:∀i,hb h i=true->i∈Z:=fun i hi=>by rw[hZ.out];exact plc_mem.2 ⟨hb_in hi,hi⟩
    by_cases h0:Z.length=0
    ·have:Z=[]:=List.length_eq_zero_iff.1 h0
     rw[er,h0,oneX_none (fun ⟨i,hi⟩=>by have:=hmem i hi;rw[‹Z=[]›]at this;simp at this)];rfl
    ·rw[show flZ Z L r=(((ro L (Z.getD 0 0)).length:Nat):Int)from if_neg (by omega)];refine oneX_ok ⟨_,(hin.out 0 (by omega)).2⟩ fun i hi=>?_
     obtain⟨j,hj,e⟩:=List.getElem_of_mem (hmem i hi);have:=hI.out j (by omega);rw[show Z.getD j 0=i by simp[List.getD,hj,e]]at this;exact this
   clear hI er;generalize flZ Z L r=fz at*;go_wp2
   try rw[Exit.noGoto_ret]
   go_ret;exact⟨by rw[EX.out];rfl,HB.out⟩
def watF(h:List Bool)(L:List (List UInt8))(t:Nat)(Z:List Nat)(r i:Nat):UInt8:=if i∈Z.take r then co (ro L i) t else 0
theorem watF_all{h:List Bool}{L:List (List UInt8)}{t:Nat}{Z:List Nat}{i:Nat}:watF h L t Z Z.length i=if i∈Z then co (ro L i) t else 0:=by unfold watF;rw[List.take_length]
theorem watF_step{h:List Bool}{L:List (List UInt8)}{t:Nat}{Z:List Nat}{r:Nat}(hr:r<Z.length)(i:Nat):watF h L t Z (r+1) i=if i=Z.getD r 0 then co (ro L (Z.getD r 0)) t else watF h L t Z r i:=by
 have e:Z.take (r+1)=Z.take r++[Z.getD r 0]:=by
  rw[List.take_add_one,List.getElem?_eq_getElem hr];simp[List.getD,hr]
 unfold watF;rw[e]
 by_cases q:i=Z.getD r 0
 ·rw[if_pos q,q,if_pos (by simp)]
 ·rw[if_neg q];simp only[List.mem_append,List.mem_singleton,q,or_false]
theorem ewat_any{va vb:Value}{h:List Bool}{L:List (List UInt8)}{w:World}{t:Nat}(hH:RdB w va h)(hL:Rs w vb L)(hlen:h.length=L.length)(hl:h.length<=300)(ht:∀i,hb h i=true->t<(ro L i).length){x:Int}(hx:x=(t:Int)):Calls Tryz.prog 137 #[va,vb,.int .i64 x] w fun e w'=>∃v,e= .returned v/\Rd w' v (wdAt h L L.length t)/\Below w.heap.size w w':=by
 subst hx;obtain⟨a,c,rfl⟩:=hH.form;obtain⟨a',c',rfl⟩:=hL.form;obtain⟨i0,hi,hz0,hz1,hz2⟩:=info_parts info_u8;have hlen':Hid _:=hlen;have hl2:L.length<=300:=by omega
 have ht':Hid _:=ht;clear hlen ht;obtain⟨n,hn⟩:∃n,Hid (n=L.length):=⟨_,rfl⟩;rw[<-hn.out]at hl2 ⊢
 go_enter Tryz.func137,Tryz.ntmps137
 go_wp2_with (at_make;go_loud (refine wpList_make_full _ rfl (.tmp 11) (.tmp 11) 36 rfl w.heap.size 5 i0 (.int .u8 0) 1 Tryz.underlying36 hi hz0 hz1 _ _ _ _ n rfl rfl (by omega) (by omega) (by rw[hz2];omega) (by unfold maxLen;omega) (Nat.le_refl _) ?_);intro w1 hown1 hgrow1)
 have R1:RowF w1 w.heap.size 5 w.heap.size n n (fun _=>0):=RowF.made hown1;have B1:Below w.heap.size w w1:=(Below.refl _ _).grown hgrow1 (Nat.le_refl _) (fun k h=>by cases h);clear hown1 hgrow1
 go_wp2_with fail
 refine(epl_any (hH.below B1) hl).mono ?_
 rintro e u ⟨v,rfl,O1,b1⟩;obtain⟨ga,gc,rfl⟩:=O1.form;obtain⟨Z,hZ⟩:∃Z,Hid (Z=plc (hb h) h.length):=⟨_,rfl⟩;rw[<-hZ.out]at O1 ⊢;have g1:=R1.lt.2;have hin:Hid (∀j,j<Z.length->Z.getD j 0<n/\hb h (Z.getD j 0)=true):=fun j hj=>by
  rw[hZ.out]at hj ⊢;have hm:=plc_mem.1 (getD_mem hj);exact⟨by rw[hn.out,<-hlen'.out];exact hm.1,hm.2⟩
 have HP:Hid (∀j,j<Z.length->∃qb,ga=some ⟨qb,0,none⟩/\qb≠w.heap.size/\u.cell? ⟨qb,j,none⟩=some (.int .i64 ((Z.getD j 0:Nat):Int))):=fun j hj=>by
  obtain⟨qb,e1,_,e3,e4⟩:=O1.cell hj;exact⟨qb,e1,by omega,e4⟩
 have HB:Hid _:=Below.next B1 b1;have R3:RowF u w.heap.size 5 w.heap.size n n (fun _=>0):=owns_later R1 b1;have R2:RowF u w.heap.size 5 w.heap.size n n (watF h L t Z 0):=R3.congr fun i hi=>by simp[watF]
 have hZl:Z.length<=300:=by rw[hZ.out,plc_length];have:=cnt_le (hb h) h.length;omega
 clear O1 B1 b1 R1 hH R3
 go_wp2_with fail
 go_loopw [16] (fun x wr=>∃i:Nat,i<=Z.length/\x= .int .i64 i/\Only w.heap.size u wr/\RowF wr w.heap.size 5 w.heap.size n n (watF h L t Z i)) (fun x _=>Z.length-(intOf x).toNat)
 case atStart=>exact⟨0,by omega,rfl,Only.refl _ _,R2⟩
 case round=>
  obtain⟨r,hr,rfl,hO,hRw⟩:=hrel;clear R2;have hB:Below w.heap.size w wr:=HB.out.trans (hO.below (Nat.le_refl _))
  by_cases hlt:r<Z.length
  ·have hlt':(r:Int)<(Z.length:Int):=by omega
   obtain⟨qb,rfl,hqg,cq⟩:=HP.out r hlt;have cq2:=(hO.cell (p:=⟨qb,r,none⟩) hqg).trans cq;obtain⟨hx,hbx⟩:=hin.out r hlt;have E:=watF_step (h:=h) (L:=L) (t:=t) (Z:=Z) hlt;have htl:=ht'.out _ hbx;obtain⟨bb,off,xa,xc,rfl,_,cl,rl⟩:=(hL.below hB).at (by rw[<-hn.out];exact hx);obtain⟨x,hxx⟩:∃x,Hid (x=Z.getD r 0):=⟨_,rfl⟩;rw[<-hxx.out]at cq2 hx E htl cl rl;obtain⟨b3,o3,rfl,_,cb⟩:=rl.byte htl;obtain⟨l,hl9⟩:∃l,Hid (l=(ro L x).length):=⟨_,rfl⟩;rw[<-hl9.out]at cl htl;have hx':(x:Int)<(n:Int):=by omega
   have htl':(t:Int)<(l:Int):=by omega
   have c1:=hRw.cell hx;have f1:=hRw.unfrozen x;have HN:Hid (RowF (wr.setCell ⟨w.heap.size,x,none⟩ (.int .u8 ((co (ro L x) t).toNat:Nat))) w.heap.size 5 w.heap.size n n (watF h L t Z (r+1))):=hRw.store hx _ fun s=>E s
   have HO:Hid (Only w.heap.size u (wr.setCell ⟨w.heap.size,x,none⟩ (.int .u8 ((co (ro L x) t).toNat:Nat)))):=hO.setCell x _;clear hRw hO rl E cq hbx hB hL;go_wp2;go_roundw
   case rel=>exact⟨r+1,by omega,by go_num,HO.out,HN.out⟩
   case measure=>simp[intOf];omega
  ·have hge:¬(r:Int)<(Z.length:Int):=by omega
   have er:r=Z.length:=by omega
   have HR:Hid (Rd wr (.slice (some ⟨w.heap.size,0,none⟩) n n) (wdAt h L n t)):=by
    show Rd _ _ _
    have:=(hRw.congr (f':=atF h L t) (fun i hi=>by
     rw[er,watF_all];unfold atF;have hm:i∈Z↔hb h i=true:=by rw[hZ.out,plc_mem];exact⟨fun q=>q.2,fun q=>⟨hb_in q,q⟩⟩
     by_cases q:hb h i=true
     ·rw[if_pos (hm.2 q),if_pos q]
     ·rw[if_neg (fun e=>q (hm.1 e)),if_neg q])).rd
    exact this
   clear hRw er hL;go_wp2
   try rw[Exit.noGoto_ret]
   go_ret;exact⟨_,rfl,HR.out,hB⟩
theorem lay_set{R:List (List UInt8)}{p:List UInt8}{n r:Nat}(h:r<n):(mkL n (layF R p r)).set r (ro R r++[co p r])=mkL n (layF R p (r+1)):=by
 refine ro_ext (by rw[List.length_set,mkL_length,mkL_length]) fun i hi=>?_
 rw[List.length_set,mkL_length]at hi;rw[ro_set (by rw[mkL_length];exact h),ro_mkL hi,ro_mkL hi]
 by_cases e:i=r
 ·rw[if_pos e,e,layF_new]
 ·rw[if_neg e,layF_step e]
theorem elay_any{vw:Value}{w:World}{base G n C:Nat}{p:List UInt8}{R:List (List UInt8)}{P:Nat->Prop}(hR:OsP w base 36 5 (.slice (some ⟨G,0,none⟩) n C) R P)(hP:∀q,P q->q<w.heap.size)(hp:Rd w vw p)(hv:∀x n c,vw= .slice (some x) n c->P x.block)(hpl:p.length=n)(hRl:R.length=n)(hn:n<=300)(hsm:∀i,(ro R i).length<=100000)(hbw:base<=w.heap.size):
  Calls Tryz.prog 138 #[.slice (some ⟨G,0,none⟩) n C,vw] w fun e w'=>e= .returned (.tuple #[])/\OsP w' base 36 5 (.slice (some ⟨G,0,none⟩) n C) (mkL n (layF R p n)) P/\Keep P w w':=by
 obtain⟨i0,hi,hz0,hz1,hz2⟩:=info_parts info_u8;obtain⟨a,c,rfl⟩:=hp.form;rw[hpl]at hp hv ⊢;have hpl':Hid _:=hpl;have hRl':Hid _:=hRl;have hsm':Hid _:=hsm;have hP':Hid _:=hP;have hv':Hid _:=hv;have R0:OsP w base 36 5 (.slice (some ⟨G,0,none⟩) n C) (mkL n (layF R p 0)) P:=hR.as (by rw[layF_zero,<-hRl,mkL_ro]);clear hR hpl hRl hsm hP hv
 go_enter Tryz.func138,Tryz.ntmps138
 go_wp2_with fail
 go_loopw [8] (fun x wr=>∃r:Nat,r<=n/\x= .int .i64 (r:Int)/\OsP wr base 36 5 (.slice (some ⟨G,0,none⟩) n C) (mkL n (layF R p r)) P/\Keep P w wr) (fun x _=>n-(intOf x).toNat)
 case atStart=>exact⟨0,by omega,rfl,R0,Keep.refl _ _⟩
 case round=>
  obtain⟨r,hr,rfl,hO,hK⟩:=hrel;clear R0;have hlen:Hid ((mkL n (layF R p r)).length=n):=mkL_length _ _
  by_cases hlt:r<n
  ·have hlt':(r:Int)<(n:Int):=by omega
   obtain⟨bb,off,rfl,_,cb⟩:=(hK.rd hp hv'.out).byte (i:=r) (by rw[hpl'.out];exact hlt);obtain⟨x,cx,fx,gb,gl,ox,hnl,hput⟩:=hO.spot (k:=r) (by rw[hlen.out];exact hlt);rw[ro_mkL hlt,layF_old]at ox;have hl5:=hsm'.out r;have hput':Hid _:=hput;obtain⟨xa,xc,rfl⟩:=owns_form ox;have hsw:=hK.size;have A1:Hid (Below wr.heap.size wr (wr.alloc (.cells #[.int .u8 ((co p r).toNat:Nat)] 5))):=(Below.refl _ _).alloc (Nat.le_refl _) _;have hPs:Hid (∀q,P q->q<(wr.alloc (.cells #[.int .u8 ((co p r).toNat:Nat)] 5)).heap.size):=fun q hq=>by have:=hP'.out q hq;simp;omega
   have hox:Hid _:=ox;clear ox hO hput hnl
   go_wp2_with (at_builtin;go_loud (refine wpList_append_rd2 _ rfl (.tmp 18) (.tmp 20) 36 rfl base 5 i0 Tryz.underlying36 hi hz0 hz1 hz2 (.slice xa (ro R r).length xc) (ro R r).length ((ro R r).map vb) rfl (owns_later hox.out A1.out) _ [co p r] rfl (rd_lit (n:=1) [co p r] rfl rfl (by decide)) (by simp;omega) (by simp;omega) ?_);intro x' w7 hx7 hg7 hb7;have hq7:=hput'.out _ _ x' (ro R r++[co p r]) A1.out hg7 (by unfold OwnP;rw[List.length_append,List.map_append];exact hx7) hb7 hPs.out;obtain⟨c7,f7,o7,k7⟩:=hq7;obtain⟨ya,yc,rfl⟩:=owns_form hx7)
   rw[lay_set hlt]at o7;have HO:Hid _:=o7;have HK:Hid (Keep P w (w7.setCell ⟨G,r,none⟩ (.slice ya ((ro R r).length+[co p r].length) yc))):=hK.trans (k7.mono fun q hq=>⟨hq,by have:=hP'.out q hq;omega⟩);clear o7 k7 hx7 hg7 hb7 c7 f7 cx fx cb hK hput' hox
   try go_wp2
   go_roundw
   case rel=>exact⟨r+1,by omega,by go_num,HO.out,HK.out⟩
   case measure=>simp[intOf];omega
  ·have hge:¬(r:Int)<(n:Int):=by omega
   have er:r=n:=by omega
   rw[er]at hO;clear er hp;go_wp2
   go_end0
   exact⟨rfl,hO,hK⟩
end Go.Proofs.YtddnfhfangfgeaaGreat.Gf
