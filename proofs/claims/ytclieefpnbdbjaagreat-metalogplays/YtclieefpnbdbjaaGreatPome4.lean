/- JOINED: FoRef, SeCA. -/
import Derived.Laws.AppendOwn
import Derived.Test.YtclieefpnbdbjaaGreatPome3
set_option maxHeartbeats 4000000
set_option maxRecDepth 100000
namespace Go.Proofs.YtclieefpnbdbjaaGreat.Gf
set_option linter.unusedVariables false
set_option linter.unusedSimpArgs false
open Go.RowKit
theorem rfour_any{n:Nat}{w:World}{u:Int}(hu:u=(n:Int)):Calls Tryz.prog 137 #[.int .u32 u] w fun e w'=>∃v,e= .returned v/\w'.ownsRow w.heap.size 5 1 v 4 ((fo n).map vb)/\Below w.heap.size w w':=by
 subst hu;obtain⟨x0,hx0⟩:∃x,Hid (x=UInt8.ofNat (n/16777216)):=⟨_,rfl⟩;obtain⟨x1,hx1⟩:∃x,Hid (x=UInt8.ofNat (n/65536)):=⟨_,rfl⟩;obtain⟨x2,hx2⟩:∃x,Hid (x=UInt8.ofNat (n/256)):=⟨_,rfl⟩;obtain⟨x3,hx3⟩:∃x,Hid (x=UInt8.ofNat n):=⟨_,rfl⟩;have q0:IntKind.u8.wrap ((n:Int)/16777216)=((x0.toNat:Nat):Int):=by rw[hx0.out];exact wrap_u8 (n/16777216)
 have q1:IntKind.u8.wrap ((n:Int)/65536)=((x1.toNat:Nat):Int):=by rw[hx1.out];exact wrap_u8 (n/65536)
 have q2:IntKind.u8.wrap ((n:Int)/256)=((x2.toNat:Nat):Int):=by rw[hx2.out];exact wrap_u8 (n/256)
 have q3:IntKind.u8.wrap (n:Int)=((x3.toNat:Nat):Int):=by rw[hx3.out];exact wrap_u8 n
 have hF:Hid (fo n=[x0,x1,x2,x3]):=by show _=_;rw[hx0.out,hx1.out,hx2.out,hx3.out];rfl
 rw[hF.out];clear hF hx0 hx1 hx2 hx3
 go_enter Tryz.func137,Tryz.ntmps137
 go_wp2;go_ret;exact⟨_,rfl,World.ownsRow_lit w #[vb x0,vb x1,vb x2,vb x3] 4 Zr Zd rfl,Zf.alloc Zr _⟩
theorem rnumL_any{p:List UInt8}{w:World}{v:Value}(hp:Rd w v p)(hl:4<=p.length):Calls Tryz.prog 177 #[v] w fun e w'=>e= .returned (.int .u32 ((nu p:Nat):Int))/\Below w.heap.size w w':=by
 rcases hp with⟨a',c',rfl,_⟩|⟨b,o,c,hp0,rfl,h1,h2,h3,hpc⟩
 ·simp at hl
 have c0:=hpc 0 Zo;have c1:=hpc 1 Zo;have c2:=hpc 2 Zo;have c3:=hpc 3 Zo;rw[Nat.add_zero]at c0;have k0:(0:Int)<(p.length:Int):=Zo
 have k1:(1:Int)<(p.length:Int):=Zo
 have k2:(2:Int)<(p.length:Int):=Zo
 have k3:(3:Int)<(p.length:Int):=Zo
 have n1:1<p.length:=Zo
 have n2:2<p.length:=Zo
 have n3:3<p.length:=Zo
 have n0:0<p.length:=Zo
 clear hpc;have HN:Hid (nu p=(co p 0).toNat*16777216+(co p 1).toNat*65536+(co p 2).toNat*256+(co p 3).toNat):=rfl;have b0:=(co p 0).toNat_lt;have b1:=(co p 1).toNat_lt;have b2:=(co p 2).toNat_lt;have b3:=(co p 3).toNat_lt;generalize co p 0=x0 at*;generalize co p 1=x1 at*;generalize co p 2=x2 at*;generalize co p 3=x3 at*;generalize nu p=N at*
 go_enter Tryz.func177,Tryz.ntmps177
 go_wp2
 go_region_held3 (fun wx=>wx.cell? ⟨b,o,none⟩=some (.int .u8 ((x0.toNat:Nat):Int))/\wx.cell? ⟨b,o+1,none⟩=some (.int .u8 ((x1.toNat:Nat):Int))/\wx.cell? ⟨b,o+2,none⟩=some (.int .u8 ((x2.toNat:Nat):Int))/\wx.cell? ⟨b,o+3,none⟩=some (.int .u8 ((x3.toNat:Nat):Int))) (first|exact⟨c0,c1,c2,c3⟩|assumption) (fail)
 go_wp2;go_ret;refine⟨ret_int ?_,Zf.drew⟩;rw[HN.out];simp only[IntKind.wrap_u32];omega
theorem rnum_any{p:List UInt8}{w:World}{v:Value}(hp:Rd w v p)(hl:p.length=4):Calls Tryz.prog 177 #[v] w fun e w'=>e= .returned (.int .u32 ((nu p:Nat):Int))/\Below w.heap.size w w':=rnumL_any hp Zo
theorem z4_4{p:Prop} (h:p:=by
 have E:decide (0<=n/\n<=2147483647)=false:=Zx Zo;rw[E];clear E
 go_enter Tryz.func152,Tryz.ntmps152
 go_wp2;go_ret;exact⟨rfl,rfl⟩
 ):p:=h
theorem smay_any{n:Int}{w:World}:Calls Tryz.prog 152 #[.int .i64 n] w fun e w'=>e= .returned (.bool (decide (0<=n/\n<=2147483647)))/\w'=w:=by
 by_cases h0:0<=n
 ·have h0':n>=0:=h0
  by_cases h1:n<=2147483647
  ·have E:decide (0<=n/\n<=2147483647)=true:=Zy ⟨h0,h1⟩;rw[E];clear E
   go_enter Tryz.func152,Tryz.ntmps152
   go_wp2;go_ret;exact⟨rfl,rfl⟩
  ·exact z4_4
 ·have h0':¬n>=0:=h0;exact z4_4
theorem info1_u8s:(Tryz.prog.info? 5).map (·.size)=some 1:=by
 obtain⟨i0,hi,hz0,hz1,hz2⟩:=info_parts info_u8;rw[hi];simp[hz1]
theorem z4_3{p:Prop} (h:p:=by
 clear hK K;refine tkH 17 ?_
 refine rnH 18 fun K hK=>?_
 go_simp;refine koH hK ((((Only.refl lb v3).setCell 0 _).cell (p:=⟨bb,0,none⟩) n3.symm).trans c2v) fun hHeld=>?_
 clear hK K;refine wpAnyH_done Zk ?_ _
 try simp only[List.getElem_toArray,List.getElem_cons_succ,List.getElem_cons_zero,Act.put,List.setIfInBounds_toArray,List.set_cons_zero,List.set_cons_succ]
 clear c1v c2v fzv hHeld;go_wp2
 go_end0
 exact⟨rfl,FW.out⟩
 ):p:=h
theorem z4_1{p:Prop} (h:p:=by
 refine rnH 16 fun K hK=>?_
 refine step_copy_rd rfl (.tmp 7) (.tmp 19) 42 42 rfl 5 Tryz.underlying42 info1_u8s rfl rfl RL hfl hdl RA Zo ?_
 intro v3 O3 R3;have c1v:=(O3.cell (p:=⟨lb,0,none⟩) n1).trans (c1a (.cells #[.int .u8 ((x0.toNat:Nat):Int),.int .u8 ((x1.toNat:Nat):Int),.int .u8 ((x2.toNat:Nat):Int),.int .u8 ((x3.toNat:Nat):Int)] 5));have c2v:=(O3.cell (p:=⟨bb,0,none⟩) n2).trans (c2a (.cells #[.int .u8 ((x0.toNat:Nat):Int),.int .u8 ((x1.toNat:Nat):Int),.int .u8 ((x2.toNat:Nat):Int),.int .u8 ((x3.toNat:Nat):Int)] 5));have fzv:=(O3.frozen (p:=⟨lb,0,none⟩) n1).trans (fza (.cells #[.int .u8 ((x0.toNat:Nat):Int),.int .u8 ((x1.toNat:Nat):Int),.int .u8 ((x2.toNat:Nat):Int),.int .u8 ((x3.toNat:Nat):Int)] 5));have FW:=FIN v3 O3 R3;clear FIN RL RA;refine koH hK c2v fun hHeld=>?_
 exact z4_3
 ):p:=h
theorem z4_2{p:Prop} (h:p:=by
 refine rmH 0 16 (fun K hK=>?_) fun K hK=>?_
 ·go_simp;refine koH hK Za fun hHeld=>?_
  clear hK K;exact z4_1
 ·refine step_copy_rd rfl (.tmp 7) (.tmp 19) 42 42 rfl 5 Tryz.underlying42 info1_u8s rfl rfl RL hfl hdl RA Zo ?_
  intro v3 O3 R3;have c1v:=(O3.cell (p:=⟨lb,0,none⟩) n1).trans (c1a (.cells #[.int .u8 ((x0.toNat:Nat):Int),.int .u8 ((x1.toNat:Nat):Int),.int .u8 ((x2.toNat:Nat):Int),.int .u8 ((x3.toNat:Nat):Int)] 5));have c2v:=(O3.cell (p:=⟨bb,0,none⟩) n2).trans (c2a (.cells #[.int .u8 ((x0.toNat:Nat):Int),.int .u8 ((x1.toNat:Nat):Int),.int .u8 ((x2.toNat:Nat):Int),.int .u8 ((x3.toNat:Nat):Int)] 5));have fzv:=(O3.frozen (p:=⟨lb,0,none⟩) n1).trans (fza (.cells #[.int .u8 ((x0.toNat:Nat):Int),.int .u8 ((x1.toNat:Nat):Int),.int .u8 ((x2.toNat:Nat):Int),.int .u8 ((x3.toNat:Nat):Int)] 5));have FW:=FIN v3 O3 R3;clear FIN RL RA;refine koH hK c2v fun hHeld=>?_
  clear hK K;refine rnH 0 fun K hK=>?_
  go_simp;refine koH hK Za fun hHeld=>?_
  exact z4_3
 ):p:=h
theorem z4_5{p:Prop} (h:p:=by
 clear hK K;refine rnH 2 fun K hK=>?_
 go_simp;refine koH hK Za fun hHeld=>?_
 clear hK K;refine tkH 3 ?_
 exact z4_1
 ):p:=h
theorem z4_6{p:Prop} (h:p:=by
 refine rnH 15 fun K hK=>?_
 go_simp;refine koH hK (c2a _) fun hHeld=>?_
 clear hK K;exact z4_1
 ):p:=h
theorem slay_any{w:World}{lb bb g L k n base:Nat}{f:Nat->UInt8}{u:Int}(hu:u=(n:Int))(c1:w.cell? ⟨lb,0,none⟩=some (.int .i64 (k:Int)))(c2:w.cell? ⟨bb,0,none⟩=some (.slice (some ⟨g,0,none⟩) L L))(fz:w.frozen? ⟨lb,0,none⟩=false)(hR:RowF w base 5 g L L f)(hk:k+4<=L)(hL:L<=5000)(l1:lb<w.heap.size)(l2:bb<w.heap.size)(n1:lb≠g)(n2:bb≠g)(n3:lb≠bb):
  Calls Tryz.prog 153 #[.int .u32 u,.pointer (some ⟨lb,0,none⟩),.pointer (some ⟨bb,0,none⟩)] w fun e w'=>e= .returned (.tuple #[])/\w'.cell? ⟨lb,0,none⟩=some (.int .i64 ((k+4:Nat):Int))/\w'.cell? ⟨bb,0,none⟩=some (.slice (some ⟨g,0,none⟩) L L)/\w'.frozen? ⟨lb,0,none⟩=false/\RowF w' base 5 g L L (putAt f k 4 (co (fo n)))/\TurnL [lb,g] w w':=by
 subst hu;obtain⟨x0,hx0⟩:∃x,Hid (x=UInt8.ofNat (n/16777216)):=⟨_,rfl⟩;obtain⟨x1,hx1⟩:∃x,Hid (x=UInt8.ofNat (n/65536)):=⟨_,rfl⟩;obtain⟨x2,hx2⟩:∃x,Hid (x=UInt8.ofNat (n/256)):=⟨_,rfl⟩;obtain⟨x3,hx3⟩:∃x,Hid (x=UInt8.ofNat n):=⟨_,rfl⟩;have q0:IntKind.u8.wrap ((n:Int)/16777216)=((x0.toNat:Nat):Int):=by rw[hx0.out];exact wrap_u8 (n/16777216)
 have q1:IntKind.u8.wrap ((n:Int)/65536)=((x1.toNat:Nat):Int):=by rw[hx1.out];exact wrap_u8 (n/65536)
 have q2:IntKind.u8.wrap ((n:Int)/256)=((x2.toNat:Nat):Int):=by rw[hx2.out];exact wrap_u8 (n/256)
 have q3:IntKind.u8.wrap (n:Int)=((x3.toNat:Nat):Int):=by rw[hx3.out];exact wrap_u8 n
 have hF:Hid (fo n=[x0,x1,x2,x3]):=by show _=_;rw[hx0.out,hx1.out,hx2.out,hx3.out];rfl
 rw[hF.out];clear hF hx0 hx1 hx2 hx3;have RL:Rd (w.drew.alloc (.cells #[.int .u8 ((x0.toNat:Nat):Int),.int .u8 ((x1.toNat:Nat):Int),.int .u8 ((x2.toNat:Nat):Int),.int .u8 ((x3.toNat:Nat):Int)] 5)) (.slice (some ⟨w.heap.size,0,none⟩) 4 4) [x0,x1,x2,x3]:=rd_lit (w:=w.drew) [x0,x1,x2,x3] rfl rfl Zd;have hfl:[x0,x1,x2,x3].length=4:=rfl;have RA:RowF (w.drew.alloc (.cells #[.int .u8 ((x0.toNat:Nat):Int),.int .u8 ((x1.toNat:Nat):Int),.int .u8 ((x2.toNat:Nat):Int),.int .u8 ((x3.toNat:Nat):Int)] 5)) base 5 g L L f:=hR.later ((Zf.drew).alloc Zr _);have c1a:∀o,(w.drew.alloc o).cell? ⟨lb,0,none⟩=some (.int .i64 (k:Int)):=fun o=>(World.cell?_alloc_past _ _ _ l1).trans c1
 have c2a:∀o,(w.drew.alloc o).cell? ⟨bb,0,none⟩=some (.slice (some ⟨g,0,none⟩) L L):=fun o=>(World.cell?_alloc_past _ _ _ l2).trans c2
 have fza:∀o,(w.drew.alloc o).frozen? ⟨lb,0,none⟩=false:=fun o=>(((Below.refl w.heap.size w).drew.alloc Zr o).frozen (p:=⟨lb,0,none⟩) l1).trans fz
 have hdl:4<=L-k:=Zo
 obtain⟨m,hm⟩:∃m,Hid (m=k+4):=⟨_,rfl⟩;rw[<-hm.out];have g0:(k:Int)+4=(m:Int):=by have:=hm.out;omega
 have gw:IntKind.i64.wrap (m:Int)=(m:Int):=by rw[IntKind.wrap_i64];have:=hm.out;omega
 clear hm;have g1:(k:Int)<=(L:Int):=Zo
 have g2:¬L=k:=Zo
 have g3:k<L:=Zo
 have FIN:∀v3,Only g (w.drew.alloc (.cells #[.int .u8 ((x0.toNat:Nat):Int),.int .u8 ((x1.toNat:Nat):Int),.int .u8 ((x2.toNat:Nat):Int),.int .u8 ((x3.toNat:Nat):Int)] 5)) v3->RowF v3 base 5 g L L (putAt f k 4 (co [x0,x1,x2,x3]))->Hid ((v3.setCell ⟨lb,0,none⟩ (.int .i64 (m:Int))).cell? ⟨lb,0,none⟩=some (.int .i64 (m:Int))/\(v3.setCell ⟨lb,0,none⟩ (.int .i64 (m:Int))).cell? ⟨bb,0,none⟩=some (.slice (some ⟨g,0,none⟩) L L)/\(v3.setCell ⟨lb,0,none⟩ (.int .i64 (m:Int))).frozen? ⟨lb,0,none⟩=false/\RowF (v3.setCell ⟨lb,0,none⟩ (.int .i64 (m:Int))) base 5 g L L (putAt f k 4 (co [x0,x1,x2,x3]))/\TurnL [lb,g] w (v3.setCell ⟨lb,0,none⟩ (.int .i64 (m:Int)))):=by
  intro v3 O3 R3;have c1v:=(O3.cell (p:=⟨lb,0,none⟩) n1).trans (c1a _);have c2v:=(O3.cell (p:=⟨bb,0,none⟩) n2).trans (c2a _);have fzv:=(O3.frozen (p:=⟨lb,0,none⟩) n1).trans (fza _);have OO:=(Only.refl lb v3).setCell 0 (.int .i64 (m:Int));have T1:TurnL [lb,g] w (w.drew.alloc (.cells #[.int .u8 ((x0.toNat:Nat):Int),.int .u8 ((x1.toNat:Nat):Int),.int .u8 ((x2.toNat:Nat):Int),.int .u8 ((x3.toNat:Nat):Int)] 5)):=Below.turnL ((Zf.drew).alloc Zr _) _;refine⟨by simp[go_sem,c1v],(OO.cell (p:=⟨bb,0,none⟩) n3.symm).trans c2v,by simp[go_sem,fzv],R3.only n1.symm OO,(T1.trans (O3.turnL Zs)).trans (OO.turnL Zs)⟩
 clear hR
 go_enter Tryz.func153,Tryz.ntmps153
 go_wp2
 --REGION
 refine wp_region_held_drew (S:=(fun wx=>wx.cell? ⟨bb,0,none⟩=some (.slice (some ⟨g,0,none⟩) L L))) Zk ?_ (fun hHeld=>?_)
 ·exact c2
 refine tkH 1 ?_
 refine tkH 4 ?_
 refine tkH 5 ?_
 refine tkH 6 ?_
 refine tkH 7 ?_
 refine tkH 8 ?_
 refine tkH 9 ?_
 refine tkH 10 ?_
 refine tkH 11 ?_
 refine tkH 12 ?_
 refine tkH 13 ?_
 refine tkH 14 ?_
 refine rtH 0 2 15 (fun K hK=>?_) (fun K hK=>?_) fun K hK=>?_
 ·go_simp;refine koH hK Za fun hHeld=>?_
  clear hK K;refine rmH 2 15 (fun K hK=>?_) fun K hK=>?_
  ·go_simp;refine koH hK Za fun hHeld=>?_
   clear hK K;refine tkH 3 ?_
   exact z4_6
  ·go_simp;refine koH hK (c2a _) fun hHeld=>?_
   exact z4_5
 ·go_simp;refine koH hK Za fun hHeld=>?_
  clear hK K;refine tkH 3 ?_
  refine rmH 0 15 (fun K hK=>?_) fun K hK=>?_
  ·go_simp;refine koH hK Za fun hHeld=>?_
   clear hK K;exact z4_6
  ·go_simp;refine koH hK (c2a _) fun hHeld=>?_
   clear hK K;exact z4_2
 ·go_simp;refine koH hK (c2a _) fun hHeld=>?_
  clear hK K;refine rmH 0 2 (fun K hK=>?_) fun K hK=>?_
  ·go_simp;refine koH hK Za fun hHeld=>?_
   exact z4_5
  ·go_simp;refine koH hK Za fun hHeld=>?_
   clear hK K;refine tkH 3 ?_
   exact z4_2
 --REGION END
end Go.Proofs.YtclieefpnbdbjaaGreat.Gf
