/- TEXTS JOINED: WdCD, WdCE. -/
import Derived.Test.YtddnfhfangfgeaaGreatPome24
import Derived.Test.YtddnfhfangfgeaaGreatPome21
set_option maxHeartbeats 4000000
set_option maxRecDepth 100000
namespace Go.Proofs.YtddnfhfangfgeaaGreat.Gf
set_option linter.unusedVariables false
set_option linter.unusedSimpArgs false
open Go.RowKit
structure Rt10(w:World)(b gb mb fb kb nb sb wb:Nat)(k m:Int)(vg vn vm vw:Value):Prop where
 cg:w.cell? ⟨gb,0,none⟩=some vg
 cm:w.cell? ⟨mb,0,none⟩=some (.int .i64 m)
 cf:w.cell? ⟨fb,0,none⟩=some (.pointer (some ⟨b,0,none⟩))
 ck:w.cell? ⟨kb,0,none⟩=some (.int .i64 k)
 cn:w.cell? ⟨nb,0,none⟩=some vn
 cs:w.cell? ⟨sb,0,none⟩=some vm
 cw:w.cell? ⟨wb,0,none⟩=some vw
 lt:gb<w.heap.size/\mb<w.heap.size/\fb<w.heap.size/\kb<w.heap.size/\nb<w.heap.size/\sb<w.heap.size/\wb<w.heap.size
theorem Rt10.below{w w':World}{b gb mb fb kb nb sb wb:Nat}{k m:Int}{vg vn vm vw:Value}(h:Rt10 w b gb mb fb kb nb sb wb k m vg vn vm vw)(hb:Below w.heap.size w w'):Rt10 w' b gb mb fb kb nb sb wb k m vg vn vm vw:=by
 obtain⟨l1,l2,l3,l4,l5,l6,l7⟩:=h.lt;have hs:=hb.size;exact⟨(hb.cell (p:=⟨gb,0,none⟩) l1).trans h.cg,(hb.cell (p:=⟨mb,0,none⟩) l2).trans h.cm,(hb.cell (p:=⟨fb,0,none⟩) l3).trans h.cf,(hb.cell (p:=⟨kb,0,none⟩) l4).trans h.ck,(hb.cell (p:=⟨nb,0,none⟩) l5).trans h.cn,(hb.cell (p:=⟨sb,0,none⟩) l6).trans h.cs,(hb.cell (p:=⟨wb,0,none⟩) l7).trans h.cw,by omega,by omega,by omega,by omega,by omega,by omega,by omega⟩
theorem rd_not{W:World}{v:Value}{p:List UInt8}{q:Nat}(h:Rd W v p)(hq:∀i x,W.cell? ⟨q,i,none⟩≠some (.int .u8 x)):Apart q v:=by
 intro a m c e;subst e
 by_cases hm:m=0
 ·exact Or.inl hm
 ·right;obtain⟨_,_,e2⟩:=h.form;simp at e2;obtain⟨b,off,e3,_,e4⟩:=h.byte (i:=0) (by omega);simp at e3;subst e3;intro e5;subst e5;exact hq _ _ e4
theorem erig_any{b:Nat}{k m:Int}{vw vm:Value}{ws:List UInt8}{ms:List Bool}{w:World}(hF:FieldAt w b)(hw:Rd w vw ws)(hm:RdB w vm ms)(hl:ms.length<=256):
  Calls Tryz.prog 135 #[.pointer (some ⟨b,0,none⟩),.int .i64 k,.int .i64 m,vw,vm] w fun e w'=>∃gb mb fb kb nb sb wb vg vn,e= .returned (.func (.func 167) #[] #[.pointer (some ⟨gb,0,none⟩),.pointer (some ⟨mb,0,none⟩),.pointer (some ⟨fb,0,none⟩),.pointer (some ⟨kb,0,none⟩),.pointer (some ⟨nb,0,none⟩),.pointer (some ⟨sb,0,none⟩),.pointer (some ⟨wb,0,none⟩)])/\
   Rt10 w' b gb mb fb kb nb sb wb k m vg vn vm vw/\OwnI w' w.heap.size 3 vg (plc (hb ms) ms.length)/\Rd w' vn (locL (ptsL (plc (hb ms) ms.length)))/\Below w.heap.size w w':=by
 obtain⟨a1,c1,rfl⟩:=hw.form;obtain⟨a2,c2,rfl⟩:=hm.form
 go_enter Tryz.func135,Tryz.ntmps135
 go_wp2_with fail
 obtain⟨u0,hu0⟩:∃u0,u0=(((((w.alloc (.cells #[.pointer (some ⟨b,0,none⟩)] 26)).alloc (.cells #[.int .i64 k] 3)).alloc (.cells #[.int .i64 m] 3)).alloc (.cells #[.slice a1 ws.length c1] 36)).alloc (.cells #[.slice a2 ms.length c2] 96)):=⟨_,rfl⟩;rw[<-hu0];obtain⟨x0,hx0⟩:∃x0,Hid (x0=w.heap.size):=⟨_,rfl⟩;have B0:Below w.heap.size w u0:=by rw[hu0];repeat (first|exact Below.refl _ _|apply below_lit)
 have cf:u0.cell? ⟨x0,0,none⟩=some (.pointer (some ⟨b,0,none⟩)):=by rw[hu0,hx0.out];go_simp
 have ck:u0.cell? ⟨x0+1,0,none⟩=some (.int .i64 k):=by rw[hu0,hx0.out];go_simp
 have cm:u0.cell? ⟨x0+1+1,0,none⟩=some (.int .i64 m):=by rw[hu0,hx0.out];go_simp
 have cw:u0.cell? ⟨x0+1+1+1,0,none⟩=some (.slice a1 ws.length c1):=by rw[hu0,hx0.out];go_simp
 have cs:u0.cell? ⟨x0+1+1+1+1,0,none⟩=some (.slice a2 ms.length c2):=by rw[hu0,hx0.out];go_simp
 have hsz0:u0.heap.size=x0+5:=by rw[hu0,hx0.out];simp
 have hm0:=hm.below B0;have hF0:=hF.below B0;rw[<-hx0.out];clear hu0 hm hF hw;refine(epl_any hm0 (by omega)).mono ?_
 rintro e u1 ⟨vg,rfl,O1,B1⟩;obtain⟨ga,gc,rfl⟩:=O1.form;have hl1:Hid ((plc (hb ms) ms.length).length<=300):=by show _<=_;rw[plc_length];have:=cnt_le (hb ms) ms.length;omega
 have hl2:Hid (∀i,i<(plc (hb ms) ms.length).length->(plc (hb ms) ms.length).getD i 0<256):=fun i hi=>by have:=(plc_mem.1 (getD_mem hi)).1;omega
 obtain⟨Z,hZ⟩:∃Z,Z=plc (hb ms) ms.length:=⟨_,rfl⟩;rw[<-hZ]at O1 hl1 hl2 ⊢;have HZ:Hid _:=hZ;clear hZ;have s1:=B1.size;have R1:=(O1.rd (by have:=hl1.out;omega));have A1:Below u1.heap.size u1 (u1.alloc (.cells #[.slice ga Z.length gc] 45)):=(Below.refl _ _).alloc (Nat.le_refl _) _;have cf1:=(A1.cell (p:=⟨x0,0,none⟩) (show x0<u1.heap.size by omega)).trans ((B1.cell (p:=⟨x0,0,none⟩) (show x0<u0.heap.size by omega)).trans cf);obtain⟨G,hG⟩:∃G,Hid (G=u1.heap.size):=⟨_,rfl⟩;obtain⟨u2,hu2⟩:∃u2,u2=u1.alloc (.cells #[.slice ga Z.length gc] 45):=⟨_,rfl⟩;have cg2:u2.cell? ⟨G,0,none⟩=some (.slice ga Z.length gc):=by rw[hu2,hG.out];go_simp
 have s2:u2.heap.size=G+1:=by rw[hu2,hG.out];simp
 rw[<-hu2]at A1 cf1;have B2:Below u0.heap.size u0 u2:=Below.next B1 A1;have s3:x0+5<=G:=by have:=hG.out;omega
 have P1:=And.intro cf1 cg2;have Q1:Hid (∀W,Below u2.heap.size u2 W->W.cell? ⟨x0,0,none⟩=some (.pointer (some ⟨b,0,none⟩))/\W.cell? ⟨G,0,none⟩=some (.slice ga Z.length gc)):=fun W h=>⟨(h.cell (p:=⟨x0,0,none⟩) (show x0<u2.heap.size by omega)).trans cf1,(h.cell (p:=⟨G,0,none⟩) (show G<u2.heap.size by omega)).trans cg2⟩
 have R2:=R1.below A1;have F2:=hF0.below B2;have HC1:∀W,Below u2.heap.size u2 W->Calls Tryz.prog 166 #[.slice ga Z.length gc] W fun e w'=>∃v,e= .returned v/\Rd w' v (ptsL Z)/\Below W.heap.size W w':=fun W h=>ept_any (R2.below h) hl1.out hl2.out
 have HC2:∀W v,Below u2.heap.size u2 W->Rd W v (ptsL Z)->Calls Tryz.prog 165 #[.pointer (some ⟨b,0,none⟩),v] W fun e w'=>∃v',e= .returned v'/\Rd w' v' (locL (ptsL Z))/\Below W.heap.size W w':=fun W v h r=>kloc_any (F2.below h) r (by rw[ptsL_length];exact hl1.out)
 have FIN:∀W0 W q a8 c8,Below u2.heap.size u2 W0->Below u2.heap.size u2 W->q<W.heap.size->u2.heap.size<=q->W.cell? ⟨q,0,none⟩=some (.slice none 0 0)->(∀i x,W.cell? ⟨q,i,none⟩≠some (.int .u8 x))->Rd W (.slice a8 (locL (ptsL Z)).length c8) (locL (ptsL Z))->
   ((W.setCell ⟨q,0,none⟩ (.slice a8 (locL (ptsL Z)).length c8)).cell? ⟨x0,0,none⟩=some (.pointer (some ⟨b,0,none⟩))/\(W.setCell ⟨q,0,none⟩ (.slice a8 (locL (ptsL Z)).length c8)).cell? ⟨G,0,none⟩=some (.slice ga Z.length gc))/\
   ∃gb mb fb kb nb sb wb vg vn,Ending.returned (.func (.func 167) #[] #[.pointer (some ⟨G,0,none⟩),.pointer (some ⟨x0+1+1,0,none⟩),.pointer (some ⟨x0,0,none⟩),.pointer (some ⟨x0+1,0,none⟩),.pointer (some ⟨q,0,none⟩),.pointer (some ⟨x0+1+1+1+1,0,none⟩),.pointer (some ⟨x0+1+1+1,0,none⟩)])= .returned (.func (.func 167) #[] #[.pointer (some ⟨gb,0,none⟩),.pointer (some ⟨mb,0,none⟩),.pointer (some ⟨fb,0,none⟩),.pointer (some ⟨kb,0,none⟩),.pointer (some ⟨nb,0,none⟩),.pointer (some ⟨sb,0,none⟩),.pointer (some ⟨wb,0,none⟩)])/\
   Rt10 (W.setCell ⟨q,0,none⟩ (.slice a8 (locL (ptsL Z)).length c8)) b gb mb fb kb nb sb wb k m vg vn (.slice a2 ms.length c2) (.slice a1 ws.length c1)/\OwnI (W.setCell ⟨q,0,none⟩ (.slice a8 (locL (ptsL Z)).length c8)) w.heap.size 3 vg Z/\Rd (W.setCell ⟨q,0,none⟩ (.slice a8 (locL (ptsL Z)).length c8)) vn (locL (ptsL Z))/\Below w.heap.size w (W.setCell ⟨q,0,none⟩ (.slice a8 (locL (ptsL Z)).length c8)):=by
  intro W0 W q a8 c8 h0 h hq hqu kq kn hR;have hb:Below u2.heap.size u2 (W.setCell ⟨q,0,none⟩ (.slice a8 (locL (ptsL Z)).length c8)):=h.setCell (p:=⟨q,0,none⟩) hqu _;have hb0:Below u0.heap.size u0 (W.setCell ⟨q,0,none⟩ (.slice a8 (locL (ptsL Z)).length c8)):=Below.next B2 hb;have hap:Apart q (.slice a8 (locL (ptsL Z)).length c8):=rd_not hR kn;have hR2:=hR.only hap ((Only.refl q W).setCell 0 (.slice a8 (locL (ptsL Z)).length c8));have hl:=hb.size;obtain⟨t1,t2⟩:=Q1.out _ hb;refine⟨⟨t1,t2⟩,G,x0+1+1,x0,x0+1,q,x0+1+1+1+1,x0+1+1+1,_,_,rfl,⟨t2,(hb0.cell (p:=⟨x0+1+1,0,none⟩) (show x0+1+1<u0.heap.size by omega)).trans cm,t1,(hb0.cell (p:=⟨x0+1,0,none⟩) (show x0+1<u0.heap.size by omega)).trans ck,World.cell?_setCell_same W ⟨q,0,none⟩ _ kq,(hb0.cell (p:=⟨x0+1+1+1+1,0,none⟩) (show x0+1+1+1+1<u0.heap.size by omega)).trans cs,(hb0.cell (p:=⟨x0+1+1+1,0,none⟩) (show x0+1+1+1<u0.heap.size by omega)).trans cw,by omega,by omega,by omega,by omega,?_,by omega,by omega⟩,?_,hR2,B0.trans (hb0.mono B0.size)⟩
  ·simpa using hq
  ·exact ownsRow_base (owns_later O1 (Below.next A1 hb)) (by have:=B0.size;omega)
 have D0:Below u2.heap.size u2 u2.drew:=(Below.refl _ _).drew;have D1:Below u2.heap.size u2 (u2.drew.alloc (.cells #[.slice none 0 0] 36)):=below_lit D0 _;clear R2 F2 R1 cf1 hF0 hm0 cg2 A1 O1 B2 B1 B0 cf ck cm cw cs s2
 go_wp2_with fail
 rw[<-hu2,<-hG.out];clear hu2
 --REGION
 refine wp_region_held_drew (S:=(fun wx=>wx.cell? ⟨x0,0,none⟩=some (.pointer (some ⟨b,0,none⟩))/\wx.cell? ⟨G,0,none⟩=some (.slice ga Z.length gc))) (by kernel_rfl) ?_ (fun hHeld=>?_)
 ·exact P1
 refine wpAnyH_take (i:=0) (v:=?_) rfl (by kernel_rfl) (by kernel_rfl) (by kernel_rfl) (fun _ _ _ h=>h) (Or.inl ⟨by rfl,?_⟩) (by assumption) ?_
 rotate_left
 ·intro w hSw;(try dsimp only at hSw);go_simp;try with_reducible rfl
 try simp only[Act.put,List.setIfInBounds_toArray,List.set_cons_zero,List.set_cons_succ]
 refine wpAnyH_take (i:=1) (v:=?_) rfl (by kernel_rfl) (by kernel_rfl) (by kernel_rfl) (fun _ _ _ h=>h) (Or.inl ⟨by rfl,?_⟩) (by assumption) ?_
 rotate_left
 ·intro w hSw;(try dsimp only at hSw);go_simp;try with_reducible rfl
 try simp only[Act.put,List.setIfInBounds_toArray,List.set_cons_zero,List.set_cons_succ]
 refine wpAnyH_ready (rs:=[2,4]) (by kernel_rfl) (by simp) ?_
 refine AllReadyH.cons rfl (fun K hK=>?_) (AllReadyH.cons rfl (fun K hK=>?_) AllReadyH.nil)
 ·go_simp;refine(HC1 _ (by first|assumption|exact D0|exact D1|exact below_lit C9 _|exact below_lit C8 _)).mono ?_
  rintro e w9 ⟨v9,rfl,R9,B9⟩;obtain⟨a9,c9,rfl⟩:=R9.form;have C9:Below u2.heap.size u2 w9:=by first|exact Below.next D0 B9|exact Below.next D1 B9
  have R9a:=R9.below ((Below.refl _ _).alloc (Nat.le_refl _) (.cells #[.slice none 0 0] 36))
  try go_simp
  refine hK.out _ _ ?_ (fun hHeld=>?_)
  ·exact Q1.out _ C9
  clear hK K
  try simp only[Act.put,List.setIfInBounds_toArray,List.set_cons_zero,List.set_cons_succ]
  refine wpAnyH_ready (rs:=[3,4]) (by kernel_rfl) (by simp) ?_
  refine AllReadyH.cons rfl (fun K hK=>?_) (AllReadyH.cons rfl (fun K hK=>?_) AllReadyH.nil)
  ·go_simp;refine(HC2 _ _ (by first|assumption|exact D0|exact D1|exact below_lit C9 _|exact below_lit C8 _) (by assumption)).mono ?_
   rintro e w8 ⟨v8,rfl,R8,B8⟩;obtain⟨a8,c8,rfl⟩:=R8.form;have C8:Below u2.heap.size u2 w8:=by first|exact Below.next C9 B8|exact Below.next (below_lit C9 _) B8
   try go_simp
   refine hK.out _ _ ?_ (fun hHeld=>?_)
   ·exact Q1.out _ C8
   clear hK K
   try simp only[Act.put,List.setIfInBounds_toArray,List.set_cons_zero,List.set_cons_succ]
   refine wpAnyH_ready (rs:=[4]) (by kernel_rfl) (by simp) ?_
   refine AllReadyH.cons rfl (fun K hK=>?_) AllReadyH.nil;go_simp;refine hK.out _ _ ?_ (fun hHeld=>?_)
   ·exact Q1.out _ (by first|assumption|exact D0|exact D1|exact below_lit C9 _|exact below_lit C8 _)
   clear hK K
   try simp only[Act.put,List.setIfInBounds_toArray,List.set_cons_zero,List.set_cons_succ]
   have kq:(w8.alloc (.cells #[.slice none 0 0] 36)).cell? ⟨w8.heap.size,0,none⟩=some (.slice none 0 0):=by go_simp
   have kf:(w8.alloc (.cells #[.slice none 0 0] 36)).frozen? ⟨w8.heap.size,0,none⟩=false:=by go_simp
   have FW:=FIN w8 (w8.alloc (.cells #[.slice none 0 0] 36)) w8.heap.size a8 c8 C8 (below_lit C8 _) (by simp) (by have:=C8.size;omega) kq (fun i x=>by rw[World.cell?_alloc_new];rcases i with _|i<;>simp) (R8.below ((Below.refl _ _).alloc (Nat.le_refl _) _));rw[World.setCell_alloc_new]at FW;simp only[List.setIfInBounds_toArray,List.set_cons_zero]at FW;clear HC1 HC2 FIN;refine wpAnyH_ready (rs:=[5]) (by kernel_rfl) (by simp) ?_
   refine AllReadyH.cons rfl (fun K hK=>?_) AllReadyH.nil;go_simp;refine hK.out _ _ ?_ (fun hHeld=>?_)
   ·exact FW.1
   clear hK K;refine wpAnyH_done (by kernel_rfl) ?_ _
   have FW2:Hid _:=FW.2;clear FW
   try simp only[Act.put,List.setIfInBounds_toArray,List.set_cons_zero,List.set_cons_succ]
   go_wp2;go_ret;rw[<-HZ.out];exact FW2.out
  ·go_simp;refine hK.out _ _ ?_ (fun hHeld=>?_)
   ·exact Q1.out _ (by first|assumption|exact D0|exact D1|exact below_lit C9 _|exact below_lit C8 _)
   clear hK K
   try simp only[Act.put,List.setIfInBounds_toArray,List.set_cons_zero,List.set_cons_succ]
   refine wpAnyH_ready (rs:=[3]) (by kernel_rfl) (by simp) ?_
   refine AllReadyH.cons rfl (fun K hK=>?_) AllReadyH.nil;go_simp;refine(HC2 _ _ (by first|assumption|exact D0|exact D1|exact below_lit C9 _|exact below_lit C8 _) (by assumption)).mono ?_
   rintro e w8 ⟨v8,rfl,R8,B8⟩;obtain⟨a8,c8,rfl⟩:=R8.form;have C8:Below u2.heap.size u2 w8:=by first|exact Below.next C9 B8|exact Below.next (below_lit C9 _) B8
   try go_simp
   refine hK.out _ _ ?_ (fun hHeld=>?_)
   ·exact Q1.out _ C8
   clear hK K
   try simp only[Act.put,List.setIfInBounds_toArray,List.set_cons_zero,List.set_cons_succ]
   have lq:w9.heap.size<(w9.alloc (.cells #[.slice none 0 0] 36)).heap.size:=by simp
   have kq:=(B8.cell (p:=⟨w9.heap.size,0,none⟩) lq).trans (show(w9.alloc (.cells #[.slice none 0 0] 36)).cell? ⟨w9.heap.size,0,none⟩=some (.slice none 0 0) by go_simp);have kf:=(B8.frozen (p:=⟨w9.heap.size,0,none⟩) lq).trans (show(w9.alloc (.cells #[.slice none 0 0] 36)).frozen? ⟨w9.heap.size,0,none⟩=false by go_simp);have FW:=FIN w8 w8 w9.heap.size a8 c8 C8 C8 (Nat.lt_of_lt_of_le lq B8.size) (by have:=C9.size;omega) kq (fun i x=>by rw[B8.cell (p:=⟨w9.heap.size,i,none⟩) lq,World.cell?_alloc_new];rcases i with _|i<;>simp) R8;clear HC1 HC2 FIN;refine wpAnyH_ready (rs:=[5]) (by kernel_rfl) (by simp) ?_
   refine AllReadyH.cons rfl (fun K hK=>?_) AllReadyH.nil;go_simp;refine hK.out _ _ ?_ (fun hHeld=>?_)
   ·exact FW.1
   clear hK K;refine wpAnyH_done (by kernel_rfl) ?_ _
   have FW2:Hid _:=FW.2;clear FW
   try simp only[Act.put,List.setIfInBounds_toArray,List.set_cons_zero,List.set_cons_succ]
   go_wp2;go_ret;rw[<-HZ.out];exact FW2.out
 ·go_simp;refine hK.out _ _ ?_ (fun hHeld=>?_)
  ·exact Q1.out _ (by first|assumption|exact D0|exact D1|exact below_lit C9 _|exact below_lit C8 _)
  clear hK K
  try simp only[Act.put,List.setIfInBounds_toArray,List.set_cons_zero,List.set_cons_succ]
  refine wpAnyH_ready (rs:=[2]) (by kernel_rfl) (by simp) ?_
  refine AllReadyH.cons rfl (fun K hK=>?_) AllReadyH.nil;go_simp;refine(HC1 _ (by first|assumption|exact D0|exact D1|exact below_lit C9 _|exact below_lit C8 _)).mono ?_
  rintro e w9 ⟨v9,rfl,R9,B9⟩;obtain⟨a9,c9,rfl⟩:=R9.form;have C9:Below u2.heap.size u2 w9:=by first|exact Below.next D0 B9|exact Below.next D1 B9
  have R9a:=R9.below ((Below.refl _ _).alloc (Nat.le_refl _) (.cells #[.slice none 0 0] 36))
  try go_simp
  refine hK.out _ _ ?_ (fun hHeld=>?_)
  ·exact Q1.out _ C9
  clear hK K
  try simp only[Act.put,List.setIfInBounds_toArray,List.set_cons_zero,List.set_cons_succ]
  refine wpAnyH_ready (rs:=[3]) (by kernel_rfl) (by simp) ?_
  refine AllReadyH.cons rfl (fun K hK=>?_) AllReadyH.nil;go_simp;refine(HC2 _ _ (by first|assumption|exact D0|exact D1|exact below_lit C9 _|exact below_lit C8 _) (by assumption)).mono ?_
  rintro e w8 ⟨v8,rfl,R8,B8⟩;obtain⟨a8,c8,rfl⟩:=R8.form;have C8:Below u2.heap.size u2 w8:=by first|exact Below.next C9 B8|exact Below.next (below_lit C9 _) B8
  try go_simp
  refine hK.out _ _ ?_ (fun hHeld=>?_)
  ·exact Q1.out _ C8
  clear hK K
  try simp only[Act.put,List.setIfInBounds_toArray,List.set_cons_zero,List.set_cons_succ]
  have lq:u2.heap.size<(u2.drew.alloc (.cells #[.slice none 0 0] 36)).heap.size:=by simp
  have lq9:u2.heap.size<w9.heap.size:=Nat.lt_of_lt_of_le lq B9.size;have kq:=(B8.cell (p:=⟨u2.heap.size,0,none⟩) lq9).trans ((B9.cell (p:=⟨u2.heap.size,0,none⟩) lq).trans (show(u2.drew.alloc (.cells #[.slice none 0 0] 36)).cell? ⟨u2.heap.size,0,none⟩=some (.slice none 0 0) by go_simp));have kf:=(B8.frozen (p:=⟨u2.heap.size,0,none⟩) lq9).trans ((B9.frozen (p:=⟨u2.heap.size,0,none⟩) lq).trans (show(u2.drew.alloc (.cells #[.slice none 0 0] 36)).frozen? ⟨u2.heap.size,0,none⟩=false by go_simp));have FW:=FIN w8 w8 u2.heap.size a8 c8 C8 C8 (Nat.lt_of_lt_of_le lq9 B8.size) (Nat.le_refl _) kq (fun i x=>by rw[B8.cell (p:=⟨u2.heap.size,i,none⟩) lq9,B9.cell (p:=⟨u2.heap.size,i,none⟩) lq];show(u2.alloc (.cells #[.slice none 0 0] 36)).cell? ⟨u2.heap.size,i,none⟩≠_;rw[World.cell?_alloc_new];rcases i with _|i<;>simp) R8;clear HC1 HC2 FIN;refine wpAnyH_ready (rs:=[5]) (by kernel_rfl) (by simp) ?_
  refine AllReadyH.cons rfl (fun K hK=>?_) AllReadyH.nil;go_simp;refine hK.out _ _ ?_ (fun hHeld=>?_)
  ·exact FW.1
  clear hK K;refine wpAnyH_done (by kernel_rfl) ?_ _
  have FW2:Hid _:=FW.2;clear FW
  try simp only[Act.put,List.setIfInBounds_toArray,List.set_cons_zero,List.set_cons_succ]
  go_wp2;go_ret;rw[<-HZ.out];exact FW2.out
 --REGION END
def Makes10(w:World)(X:Int)(R:List UInt8)(P:List Nat)(e:Ending)(w':World):Prop:=∃va vd,e= .returned (.tuple #[va,vd,.int .i64 X])/\Rd w' va R/\OwnI w' w.heap.size 3 vd P/\Below w.heap.size w w'/\Far w.heap.size va
theorem key_small{s known:List UInt8}{X:Int}{A O:List UInt8}(h:KeyAns s known X A O)(hs:s.length<=256)(hk:known.length<=257):A.length<=257/\O.length<=1000:=by
 rcases h with⟨_,_,rfl,rfl⟩|⟨_,t,L,hl,_,rfl,rfl⟩|⟨_,_,_,rfl,rfl⟩
 ·simp
 ·have hf:=hl.few;refine⟨by rw[upto_length];omega,?_⟩;unfold evaL;rw[mk_length];have:=deg_le (fun i=>conv L (keP s known) (s.length+i)) (t+1+(known.length+s.length));omega
 ·simp
theorem der_small{p q:List UInt8}{a b:Nat}(hp:p.length<=a)(hq:q.length<=b):(mulP p q).length<=a+b/\(derP (mulP p q)).length<=a+b:=by
 have h1:(mulP p q).length<=p.length+q.length:=by unfold mulP;rw[mk_length];exact deg_le _ _
 have h2:(derP (mulP p q)).length<=(mulP p q).length:=by
  have:(derP (mulP p q)).length<=(mulP p q).length:=by
   unfold derP;rw[mk_length];exact deg_le _ _
  exact this
 omega
theorem key_all{k m:Nat}{z:List UInt8}{ms:List Bool}{X:Int}{A O:List UInt8}(h2:k+m<=256)(he:cnt (hb ms) (k+m)<=m)(hK:KeyAns (upto (synF k m (co z)) m) (locL (ptsL (plc (hb ms) (k+m)))) X A O):
  (X≠0->¬IsNear k m z ms)/\(cnt (rtF A (hb ms)) (k+m)+1<A.length->¬IsNear k m z ms)/\
  (X=0->A.length<=cnt (rtF A (hb ms)) (k+m)+1->Near k m (co z) (hb ms) (rtW k m (co z) A O (derP (mulP A (locL (ptsL (plc (hb ms) (k+m)))))) (hb ms))/\plc (rtF A (hb ms)) (k+m)=plc (wrg (co z) (rtW k m (co z) A O (derP (mulP A (locL (ptsL (plc (hb ms) (k+m)))))) (hb ms)) (hb ms)) (k+m))/\
  A.length<=257/\O.length<=1000/\(X=0∨X=100):=by
 have hl:=key_small hK (by rw[upto_length];omega) (by unfold locL ptsL;rw[locN_length,List.length_map,plc_length];omega);refine⟨fun hx ⟨c,hc⟩=>hx (near_roots h2 hc hK).1,fun hx ⟨c,hc⟩=>?_,fun hx hr=>?_,hl.1,hl.2,?_⟩
 ·have:=(near_roots h2 hc hK).2.2;omega
 ·subst hx;exact⟨(roots_near h2 hK hr).1,roots_told h2 hK hr⟩
 ·rcases hK with⟨b,_⟩|⟨_,_,_,_,h,_⟩|⟨_,_,h,_⟩
  ·exfalso;unfold BadK ptsL at b;rw[find_norm,upto_length,List.length_map,plc_length]at b;omega
  ·exact Or.inl h
  ·exact Or.inr h
def fixF(z d:Nat->UInt8)(L:List Nat)(t:Nat):UInt8:=z t^^^(if t∈L then d t else 0)
theorem fix_zero(z d:Nat->UInt8):fixF z d []=z:=by funext t;simp[fixF]
theorem take_next10{L:List Nat}{r:Nat}(hr:r<L.length):L.take (r+1)=L.take r++[L.getD r 0]:=by
 rw[List.take_add_one,List.getElem?_eq_getElem hr];simp[List.getD,hr]
theorem fix_new{L:List Nat}{r:Nat}(hn:L.Nodup)(hr:r<L.length):L.getD r 0 ∉ L.take r:=by
 intro h;obtain⟨j,hj,e⟩:=List.getElem_of_mem h;rw[List.length_take]at hj;rw[List.getElem_take]at e;have e2:L.getD r 0=L[r]:=by simp[List.getD,hr]
 rw[e2]at e;have:=List.pairwise_iff_getElem.1 hn j r (by omega) hr (by omega);exact this e
theorem fix_step{z d:Nat->UInt8}{L:List Nat}{r:Nat}(hn:L.Nodup)(hr:r<L.length)(t:Nat):fixF z d (L.take (r+1)) t=if t=L.getD r 0 then z (L.getD r 0)^^^d (L.getD r 0)else fixF z d (L.take r) t:=by
 unfold fixF;rw[take_next10 hr]
 by_cases e:t=L.getD r 0
 ·rw[if_pos e,e,if_pos (by simp)]
 ·rw[if_neg e];simp only[List.mem_append,List.mem_singleton,e,or_false]
theorem fix_old{z d:Nat->UInt8}{L:List Nat}{r:Nat}(hn:L.Nodup)(hr:r<L.length):fixF z d (L.take r) (L.getD r 0)=z (L.getD r 0):=by
 unfold fixF;rw[if_neg (fix_new hn hr),x_zero]
theorem fix_nodup{p q:Nat->Bool}{n:Nat}(h:∀i,q i=true->p i=false):(plc p n++plc q n).Nodup:=by
 rw[List.nodup_append];exact⟨plc_nodup p n,plc_nodup q n,fun a ha b hb hab=>by
  subst hab;have:=h a (plc_mem.1 hb).2;rw[(plc_mem.1 ha).2]at this;cases this⟩
theorem fix_end{k m:Nat}{z:Nat->UInt8}{A O D:List UInt8}{ms:Nat->Bool}{t:Nat}(ht:t<k+m):fixF z (dfF k m O D) (plc ms (k+m)++plc (rtF A ms) (k+m)) t=rtW k m z A O D ms t:=by
 unfold fixF rtW;congr 1
 have:t∈plc ms (k+m)++plc (rtF A ms) (k+m)↔(rtF A ms t||ms t)=true:=by
  rw[List.mem_append,plc_mem,plc_mem,Bool.or_eq_true];constructor
  ·rintro(h|h)
   ·exact Or.inr h.2
   ·exact Or.inl h.2
  ·rintro(h|h)
   ·exact Or.inr ⟨ht,h⟩
   ·exact Or.inl ⟨ht,h⟩
 by_cases h:t∈plc ms (k+m)++plc (rtF A ms) (k+m)
 ·rw[if_pos h,if_pos (this.1 h)]
 ·rw[if_neg h,if_neg fun q=>h (this.2 q)]
theorem fix_in{p q:Nat->Bool}{n i:Nat}(hi:i<(plc p n++plc q n).length):(plc p n++plc q n).getD i 0<n:=by
 rcases List.mem_append.1 (getD_mem hi)with h|h
 ·exact(plc_mem.1 h).1
 ·exact(plc_mem.1 h).1
theorem Df10.only{w u W:World}{b fb sb wb eb g:Nat}{vs vw ve:Value}(h:Df10 w b fb sb wb eb vs vw ve)(hb:Below w.heap.size w u)(ho:Only g u W)(hg:w.heap.size<=g):Df10 W b fb sb wb eb vs vw ve:=by
 have l1:=h.lf;have l2:=h.ls;have l3:=h.lw;have l4:=h.le;have hs:=hb.size;have hs2:=ho.size;exact⟨(ho.cell (p:=⟨fb,0,none⟩) (show fb≠g by omega)).trans ((hb.cell (p:=⟨fb,0,none⟩) l1).trans h.cf),(ho.cell (p:=⟨sb,0,none⟩) (show sb≠g by omega)).trans ((hb.cell (p:=⟨sb,0,none⟩) l2).trans h.cs),(ho.cell (p:=⟨wb,0,none⟩) (show wb≠g by omega)).trans ((hb.cell (p:=⟨wb,0,none⟩) l3).trans h.cw),(ho.cell (p:=⟨eb,0,none⟩) (show eb≠g by omega)).trans ((hb.cell (p:=⟨eb,0,none⟩) l4).trans h.ce),by omega,by omega,by omega,by omega⟩
theorem erig1_any{w:World}{b b1 gb mb fb kb nb sb wb k m:Nat}{vg vn vm vw v:Value}{z:List UInt8}{ms:List Bool}(hF:FieldAt w b)(hR:Rt10 w b gb mb fb kb nb sb wb (k:Int) (m:Int) vg vn vm vw)
  (hG:OwnI w b1 3 vg (plc (hb ms) (k+m))) (hN:Rd w vn (locL (ptsL (plc (hb ms) (k+m))))) (hM:RdB w vm ms) (hW:Rd w vw (upto (wtF k m) (k+m))) (hz:Rd w v z) (h1:1<=k) (h2:k+m<=256) (hzl:z.length=k+m) (hml:ms.length=k+m):
  Calls Tryz.prog 167 #[v,.pointer (some ⟨gb,0,none⟩),.pointer (some ⟨mb,0,none⟩),.pointer (some ⟨fb,0,none⟩),.pointer (some ⟨kb,0,none⟩),.pointer (some ⟨nb,0,none⟩),.pointer (some ⟨sb,0,none⟩),.pointer (some ⟨wb,0,none⟩)] w (Makes10 w (wdX k m z ms) (wdR k m z ms) (wdP k m z ms)):=by
 have okc:OkC (k:Int) (m:Int):=⟨by omega,by omega,by omega⟩;have okw:OkW (k:Int) (m:Int) z ms:=⟨by omega,by omega⟩;have HMany:Hid (¬IsNear k m z ms->wdX k m z ms=100/\wdR k m z ms=[]/\wdP k m z ms=[]):=fun h=>wd_many okc okw h
 have HOk:Hid (∀c,Near k m (co z) (hb ms) c->wdX k m z ms=0/\wdR k m z ms=upto c (k+m)/\wdP k m z ms=plc (wrg (co z) c (hb ms)) (k+m)):=fun c h=>wd_ok okc okw h
 clear okc okw;have HKey:Hid (cnt (hb ms) (k+m)<=m->∀X A O,KeyAns (upto (synF k m (co z)) m) (locL (ptsL (plc (hb ms) (k+m)))) X A O->_):=fun h X A O hK=>key_all h2 h hK
 have hge:cnt (hb ms) (k+m)<=k+m:=cnt_le _ _;have hgl:(plc (hb ms) (k+m)).length=cnt (hb ms) (k+m):=plc_length _ _;have hnl:(locL (ptsL (plc (hb ms) (k+m)))).length=cnt (hb ms) (k+m)+1:=by unfold locL ptsL;rw[locN_length,List.length_map,plc_length]
 have hgm:Hid (∀i,i<(plc (hb ms) (k+m)).length->(plc (hb ms) (k+m)).getD i 0<k+m/\hb ms ((plc (hb ms) (k+m)).getD i 0)=true):=fun i hi=>plc_mem.1 (getD_mem hi)
 have hgn:Hid ((plc (hb ms) (k+m)).Nodup/\∀i,i<k+m->(i∈plc (hb ms) (k+m)↔hb ms i=true)):=⟨plc_nodup _ _,fun i hi=>by rw[plc_mem];exact⟨fun h=>h.2,fun h=>⟨hi,h⟩⟩⟩;obtain⟨ga,gc,eg⟩:=hG.form;obtain⟨na,nc,en⟩:=hN.form;subst eg en;obtain⟨Z,hZ⟩:∃Z,Hid (Z=plc (hb ms) (k+m)):=⟨_,rfl⟩;rw[<-hZ.out]at hG hN hgl hnl hgm hgn HKey hR;obtain⟨KN,hKN⟩:∃KN,Hid (KN=locL (ptsL Z)):=⟨_,rfl⟩;rw[<-hKN.out]at hN hnl HKey hR;obtain⟨ma,mc,rfl⟩:=hM.form;obtain⟨wa,wc,rfl⟩:=hW.form;obtain⟨WS,hWS⟩:∃WS,Hid (WS=upto (wtF k m) (k+m)):=⟨_,rfl⟩;rw[<-hWS.out]at hW hR;obtain⟨za,zc,rfl⟩:=hz.form;have hzl':Hid _:=hzl;have hml':Hid _:=hml;have hgl':Hid _:=hgl;have hnl':Hid _:=hnl;have h300:Z.length<=256:=by omega
 have h301:KN.length<=257:=by omega
 have cg:=hR.cg;have cm:=hR.cm
 by_cases hmany:m<Z.length
 ·have hq:(Z.length:Int)>(m:Int):=by omega
  obtain⟨e1,e2,e3⟩:=HMany.out (fun ⟨c,hc⟩=>by have:=hc.few;omega);rw[e1,e2,e3];clear hF hG hN hM hW hz e1 e2 e3 HMany HOk hmany hR hzl hml hgl hnl hge
  go_enter Tryz.func167,Tryz.ntmps167
  go_wp2;exact bodyPost_ret (v:=.tuple #[.slice none 0 0,.slice none 0 0,.int .i64 100]) (by simp[results,Tryz.results167,go_sem]) rfl ⟨_,_,rfl,rd9_nil _,OwnI.nil _ _ _,Below.refl _ _,far_none⟩
 ·have hq:¬(Z.length:Int)>(m:Int):=by omega
  have HK2:=HKey.out (by omega);have HK1:Hid _:=HK2;clear HK2 HKey hgl hnl hge hmany hzl hml;have cf:=hR.cf;have ck:=hR.ck
  go_enter Tryz.func167,Tryz.ntmps167
  go_wp2_with fail
  clear cf ck cm cg hq;refine(sof_ok hF h1 h2 hz hzl'.out rfl rfl).mono ?_
  rintro e u1 ⟨vs,rfl,S1,B1⟩;obtain⟨sa,sc,rfl⟩:=S1.form;rw[upto_length]at S1 ⊢;have cf1:=(hR.below B1).cf;have cn1:=(hR.below B1).cn
  go_wp2_with fail
  clear cf1 cn1;refine(ksol_any (hF.below B1) S1 (hN.below B1) (by rw[upto_length];omega) (by omega)).mono ?_
  rintro e u2 ⟨X,A,O,va,vo,HK,rfl,Ra,Ro,b2⟩;obtain⟨K1,K2,K3,K4,K5,K6⟩:=HK1.out X A O HK;have B2:=Below.next B1 b2;clear HK HK1 S1 b2 B1;obtain⟨aa,ac,rfl⟩:=Ra.form;obtain⟨oa,oc,rfl⟩:=Ro.form
  by_cases hX:X=0
  ·subst hX;have K2':Hid _:=K2;have K3':Hid _:=K3 rfl;clear K1 K2 K3 K6;have cf2:=(hR.below B2).cf;have cs2:=(hR.below B2).cs
   go_wp2_with fail
   clear cf2 cs2;refine(ert_any (hF.below B2) Ra (hM.below B2) (by rw[hml'.out];omega) (by omega)).mono ?_
   rintro e u3 ⟨vr,rfl,O3,b3⟩;rw[hml'.out]at O3;have hrl:Hid ((plc (rtF A (hb ms)) (k+m)).length=cnt (rtF A (hb ms)) (k+m)):=plc_length _ _;have hr300:(plc (rtF A (hb ms)) (k+m)).length<=256:=by rw[hrl.out];have:=cnt_le (rtF A (hb ms)) (k+m);omega
   obtain⟨ra,rc,rfl⟩:=O3.form;rw[<-hrl.out]at K2' K3';obtain⟨V,hV⟩:∃V,Hid (V=plc (rtF A (hb ms)) (k+m)):=⟨_,rfl⟩;rw[<-hV.out]at O3 hrl hr300 K2' K3' ⊢;have B3:=Below.next B2 b3
   by_cases hfew:V.length+1<A.length
   ·have hq:(V.length:Int)<(A.length:Int)-1:=by omega
    have EE:Hid _:=HMany.out (K2'.out hfew);clear hfew HOk HMany hF hR hG hN hM hW hz Ra Ro O3 K2' K3' B2 b3;go_wp2;exact bodyPost_ret (v:=.tuple #[.slice none 0 0,.slice none 0 0,.int .i64 100]) (by simp[results,Tryz.results167,go_sem]) rfl ⟨_,_,by rw[EE.out.1],by rw[EE.out.2.1];exact rd9_nil _,by rw[EE.out.2.2];exact OwnI.nil _ _ _,B3,far_none⟩
   ·have hq:¬(V.length:Int)<(A.length:Int)-1:=by omega
    obtain⟨k1,k2⟩:=K3'.out (by omega);obtain⟨e1,e2,e3⟩:=HOk.out _ k1;rw[<-k2]at e3;have EE:Hid _:=And.intro e1 (And.intro e2 e3);clear e1 e2 e3 k1 k2 HOk HMany K2' K3' hfew;have Ra3:=Ra.below b3;have Ro3:=Ro.below b3;have hs2:Hid (w.heap.size<=u2.heap.size):=B2.size;clear Ra Ro b3 B2;obtain⟨D,hD⟩:∃D,Hid (D=derP (mulP A KN)):=⟨_,rfl⟩;rw[<-hD.out]at EE;have hDl:Hid (D.length<=1000):=by show _<=_;rw[hD.out];have:=(der_small (p:=A) (q:=KN) K4 h301).2;omega
    have hR3:=hR.below B3;have F3:=hF.below B3;have N3:=hN.below B3;have HC1:∀W,Below u3.heap.size u3 W->Calls Tryz.prog 173 #[.pointer (some ⟨b,0,none⟩),.slice aa A.length ac,.slice na KN.length nc] W fun e w'=>∃v,e= .returned v/\Rd w' v (mulP A KN)/\Below W.heap.size W w':=fun W h=>(pmul_any (F3.below h) (Ra3.below h) (N3.below h) (by omega) (by omega)).mono fun e w' ⟨v,h1,h2,h3⟩=>⟨v,h1,h2,h3⟩
    have HC2:∀W v,Rd W v (mulP A KN)->Calls Tryz.prog 172 #[v] W fun e w'=>∃v,e= .returned v/\Rd w' v D/\Below W.heap.size W w':=fun W v r=>(pderiv_any r (by have:=(der_small (p:=A) (q:=KN) K4 h301).1;omega)).mono fun e w' ⟨v,h1,h2,h3⟩=>⟨v,h1,by rw[hD.out];exact h2,h3⟩
    have P1:=And.intro hR3.cf (And.intro hR3.cw hR3.cn);have Q1:Hid (∀W,Below u3.heap.size u3 W->W.cell? ⟨fb,0,none⟩=some (.pointer (some ⟨b,0,none⟩))/\W.cell? ⟨wb,0,none⟩=some (.slice wa WS.length wc)/\W.cell? ⟨nb,0,none⟩=some (.slice na KN.length nc)):=fun W h=>⟨(hR3.below h).cf,(hR3.below h).cw,(hR3.below h).cn⟩
    clear F3 N3 hR3
    go_wp2_with fail
    go_region_held3 (fun wx=>wx.cell? ⟨fb,0,none⟩=some (.pointer (some ⟨b,0,none⟩))/\wx.cell? ⟨wb,0,none⟩=some (.slice wa WS.length wc)/\wx.cell? ⟨nb,0,none⟩=some (.slice na KN.length nc)) (first|exact P1|exact Q1.out _ (by first|assumption|exact Below.refl _ _|exact(Below.refl _ _).drew)) (first
     |((go_at_call 173;go_loud (refine(HC1 _ (by first|exact Below.refl _ _|exact(Below.refl _ _).drew)).mono ?_);rintro e w9 ⟨v9,rfl,R9,B9⟩;obtain⟨a9,c9,rfl⟩:=R9.form;have C9:Below u3.heap.size u3 w9:=Below.next (Below.refl _ _).drew B9))
     |((go_at_call 172;go_loud (refine(HC2 _ _ R9).mono ?_);rintro e w8 ⟨v8,rfl,R8,B8⟩;obtain⟨a8,c8,rfl⟩:=R8.form;have C8:Below u3.heap.size u3 w8:=Below.next C9 B8))
     |((go_at_call 171;go_loud (refine(edif_any _).mono ?_);rintro e w7 ⟨fq,sq,wq,eq,rfl,HD7,B7⟩;have C7:Below u3.heap.size u3 w7:=Below.next C8 B7)))
    have R7:=R8.below B7;clear R9 B9 C9 R8 B8 C8 B7 HC1 HC2 P1 Q1;have B7:=Below.next B3 C7;have Ro7:=Ro3.below C7;have O7:OwnI w7 u2.heap.size 3 (.slice ra V.length rc) V:=owns_later O3 C7;clear Ro3 Ra3 O3 C7 B3;have z0:0<z.length:=by rw[hzl'.out];omega
    go_wp2_with fail
    refine(clone_any (hz.below B7) (by rw[hzl'.out];omega) z0).mono ?_
    rintro e u8 ⟨g,gcap,rfl,R8,b8⟩;have B8:=Below.next B7 b8;have cg8:=(hR.below B8).cg;have s8:=b8.size
    go_wp2_with fail
    obtain⟨x0,hx0⟩:∃x0,Hid (x0=u8.heap.size):=⟨_,rfl⟩;obtain⟨u9,hu9⟩:∃u9,u9=u8.alloc (.cells #[.slice ga Z.length gc,.slice ra V.length rc] 45):=⟨_,rfl⟩;have b9:Below u8.heap.size u8 u9:=by rw[hu9];exact(Below.refl _ _).alloc (Nat.le_refl _) _
    have k91:u9.cell? ⟨x0,0,none⟩=some (.slice ga Z.length gc):=by rw[hu9,hx0.out];go_simp
    have k92:u9.cell? ⟨x0,1,none⟩=some (.slice ra V.length rc):=by rw[hu9,hx0.out];go_simp
    have l9:x0<u9.heap.size:=by rw[hu9,hx0.out];simp
    rw[<-hu9,<-hx0.out];have b79:=Below.next b8 b9;have B9:=Below.next B8 b9;refine(ccat_any k91 k92 l9 (owns_later hG B9) (owns_later O7 b79) (by omega) (by omega)).mono ?_
    rintro e u ⟨vc,rfl,OC,bC⟩;have BU:=Below.next B9 bC;have b7u:=Below.next b79 bC;have b8u:=Below.next b9 bC;obtain⟨qa,qc,rfl⟩:=OC.form;have hg7:=R8.lt;have hgx:Hid (g<x0):=by show _<_;rw[hx0.out];exact hg7.2
    have hOC:Hid (∀i,i<(Z++V).length->∃qb,qa=some ⟨qb,0,none⟩/\qb≠g/\u.cell? ⟨qb,i,none⟩=some (.int .i64 (((Z++V).getD i 0:Nat):Int))):=fun i hi=>by
     obtain⟨qb,e1,_,e3,e4⟩:=OC.cell hi;have:=hgx.out;exact⟨qb,e1,by omega,e4⟩
    have RU:RowF u w7.heap.size 5 g z.length gcap (co z):=by
     exact owns_later R8 b8u
    have HD:Hid (∀W,Only g u W->∀i,i<k+m->Calls Tryz.prog 200 #[.int .i64 (i:Int),.pointer (some ⟨fq,0,none⟩),.pointer (some ⟨sq,0,none⟩),.pointer (some ⟨wq,0,none⟩),.pointer (some ⟨eq,0,none⟩)] W fun e w'=>e= .returned (.int .u8 (((dfF k m O D i).toNat:Nat):Int))/\∃n,w'=W.drewN n):=fun W ho i hi=>
     edif1_any ((hF.below BU).only (by have:=hF.lt;have:=B7.size;omega) ho) (HD7.only b7u ho hg7.1) ((R7.below b7u).only (R7.apart hg7.1) ho) (by have:=((hW.below B7).below b7u).only ((hW.below B7).apart hg7.1) ho;rw[hWS.out]at this ⊢;exact this) ((Ro7.below b7u).only (Ro7.apart hg7.1) ho) hi h2 hDl.out K5 rfl
    have HV:Hid (OwnI u w.heap.size 3 (.slice ra V.length rc) V):=ownsRow_base (owns_later O7 b7u) hs2.out;have HVb:Hid ((Value.slice ra V.length rc).ownBlock=none∨(Value.slice ra V.length rc).ownBlock≠some g):=block_apart (s:=w7.heap.size) (fun k hk=>(World.ownsRow.lt O7 k hk).2) (fun k e=>by cases e;exact hg7.1);have hwg:Hid (w.heap.size<=g):=Nat.le_trans B7.size hg7.1;have hnd:Hid (Z++V).Nodup:=by show(Z++V).Nodup;rw[hZ.out,hV.out];exact fix_nodup fun i=>rtF_not
    have hin:Hid (∀i,i<(Z++V).length->(Z++V).getD i 0<z.length):=fun i hi=>by rw[hzl'.out];rw[hZ.out,hV.out]at hi ⊢;exact fix_in hi
    have hend:Hid (∀t,t<z.length->fixF (co z) (dfF k m O D) (Z++V) t=rtW k m (co z) A O D (hb ms) t):=fun t ht=>by rw[hzl'.out]at ht;rw[hZ.out,hV.out];exact fix_end ht
    have hLl:(Z++V).length<=1000:=by rw[List.length_append];omega
    obtain⟨L,hL⟩:∃L,L=Z++V:=⟨_,rfl⟩;rw[<-hL]at hOC hnd hin hend hLl ⊢;have BU':Hid _:=BU;clear hL OC k91 k92 l9 hu9 cg8 hx0 b9 b79 B9 bC B8 b8 R7 Ro7 O7 HD7 hF hR hG hN hM hW R8 b8u b7u B7 BU hgx
    go_wp2_with fail
    go_loopw [71] (fun x wr=>∃i:Nat,i<=L.length/\x= .int .i64 i/\Only g u wr/\RowF wr w7.heap.size 5 g z.length gcap (fixF (co z) (dfF k m O D) (L.take i))) (fun x _=>L.length-(intOf x).toNat)
    case atStart=>exact⟨0,by omega,rfl,Only.refl _ _,by rw[List.take_zero,fix_zero];exact RU⟩
    case round=>
     obtain⟨i,hi,rfl,hO,hRw⟩:=hrel
     by_cases hlt:i<L.length
     ·have hlt':(i:Int)<(L.length:Int):=by omega
      obtain⟨qb,rfl,hqg,cq⟩:=hOC.out i hlt;have cq2:=(hO.cell (p:=⟨qb,i,none⟩) hqg).trans cq;have hxl:=hin.out i hlt;have E1:=fix_old (z:=co z) (d:=dfF k m O D) hnd.out hlt;have E2:Hid _:=fix_step (z:=co z) (d:=dfF k m O D) hnd.out hlt;obtain⟨x,hx⟩:∃x,Hid (x=L.getD i 0):=⟨_,rfl⟩;rw[<-hx.out]at cq2 hxl E1 E2;have hxl':(x:Int)<(z.length:Int):=by omega
      have c1:=hRw.cell hxl;rw[E1]at c1;have f1:=hRw.unfrozen x;obtain⟨d,hd⟩:∃d,Hid (d=dfF k m O D x):=⟨_,rfl⟩;have HCx:∀n,Calls Tryz.prog 200 #[.int .i64 (x:Int),.pointer (some ⟨fq,0,none⟩),.pointer (some ⟨sq,0,none⟩),.pointer (some ⟨wq,0,none⟩),.pointer (some ⟨eq,0,none⟩)] (wr.drewN n) fun e w'=>e= .returned (.int .u8 ((d.toNat:Nat):Int))/\∃n',w'=(wr.drewN n).drewN n':=fun n=>by
       rw[hd.out];exact HD.out (wr.drewN n) (hO.drewN n) x (by rw[<-hzl'.out];exact hxl)
      have E:=xor_u8 (co z x) d;have HN:Hid (RowF (wr.setCell ⟨g,x,none⟩ (.int .u8 (((co z x).toNat^^^d.toNat:Nat):Int))) w7.heap.size 5 g z.length gcap (fixF (co z) (dfF k m O D) (L.take (i+1)))):=by
       rw[<-UInt8.toNat_xor];exact hRw.store hxl _ fun s=>by rw[hd.out];exact E2.out s
      have HO:Hid (Only g u (wr.setCell ⟨g,x,none⟩ (.int .u8 (((co z x).toNat^^^d.toNat:Nat):Int)))):=hO.setCell x _;clear hRw cq hO RU E1 E2;go_wp2
      go_region_with ((go_at_call 200;refine(HCx _).mono ?_;rintro e w' ⟨rfl,d',rfl⟩))
      all_goals go_wp2
      all_goals
       go_roundw
       case rel=>exact⟨i+1,by omega,by go_num,HO.out.drewN _,HN.out.drewN _⟩
       case measure=>simp[intOf];omega
     ·have hge:¬(i:Int)<(L.length:Int):=by omega
      have ei:i=L.length:=by omega
      rw[ei,List.take_length]at hRw;clear ei RU;have HRd:Hid (Rd wr (.slice (some ⟨g,0,none⟩) z.length gcap) (upto (rtW k m (co z) A O D (hb ms)) (k+m))):=by
       show Rd _ _ _
       have:=(hRw.congr hend.out).rd;rw[hzl'.out]at this ⊢;exact this
      have HVw:Hid (OwnI wr w.heap.size 3 (.slice ra V.length rc) V):=World.ownsRow.kept HV.out hO.grown HVb.out;have HBw:Hid (Below w.heap.size w wr):=BU'.out.trans (hO.below hwg.out);clear hRw hO;go_wp2;exact bodyPost_ret (v:=.tuple #[.slice (some ⟨g,0,none⟩) z.length gcap,.slice ra V.length rc,.int .i64 0]) (by simp[results,Tryz.results167,go_sem]) rfl ⟨_,_,by rw[EE.out.1],by rw[EE.out.2.1];exact HRd.out,by rw[EE.out.2.2];exact HVw.out,HBw.out,far_some hwg.out⟩
  ·have hx:(X !=0)=true:=by simp[hX]
   have EE:Hid _:=HMany.out (K1 hX);have EX:Hid (X=100):=K6.resolve_left hX;clear K6 HOk HMany hF hR hG hN hM hW hz Ra Ro K1 K2 K3 hX;go_wp2;exact bodyPost_ret (v:=.tuple #[.slice none 0 0,.slice none 0 0,.int .i64 X]) (by simp[results,Tryz.results167,go_sem]) rfl ⟨_,_,by rw[EE.out.1,EX.out],by rw[EE.out.2.1];exact rd9_nil _,by rw[EE.out.2.2];exact OwnI.nil _ _ _,B2,far_none⟩
end Go.Proofs.YtddnfhfangfgeaaGreat.Gf
