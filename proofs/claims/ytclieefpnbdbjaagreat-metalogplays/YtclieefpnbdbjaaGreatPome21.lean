/- JOINED: ReRefN, ReRefU, ReRefD. -/
import Derived.Test.YtclieefpnbdbjaaGreatPome20
import Derived.Test.YtclieefpnbdbjaaGreatPome19
set_option maxHeartbeats 4000000
set_option maxRecDepth 100000
namespace Go.Proofs.YtclieefpnbdbjaaGreat.Gf
set_option linter.unusedVariables false
set_option linter.unusedSimpArgs false
open Go.RowKit
def NextR16(w:World)(v:Value)(p:List UInt8)(e:Ending)(w':World):Prop:=
 (NxR p/\∃(c:RcV) (a:Option Addr) (m q:Nat),e= .returned (.tuple #[aggR c,.slice a m q,.bool true])/\c.r=raR p/\c.In w'/\(∀k,c.vs.ownBlock=some k->w.heap.size<=k/\k<w'.heap.size)/\(∀W,Rd W v p->Rd W (.slice a m q) (reR p))/\Below w.heap.size w w')∨
 (¬NxR p/\∃(k n:Int) (y:List UInt8) (va a:Option Addr) (vn vc m q:Nat),e= .returned (.tuple #[.agg #[.int .i64 k,.string ⟨y.toArray⟩,.int .i64 n,.slice va vn vc],.slice a m q,.bool false])/\Below w.heap.size w w')
theorem NextR16.no{w:World}{v:Value}{p:List UInt8}{w':World}(h:¬NxR p)(b:Below w.heap.size w w'):NextR16 w v p (.returned (.tuple #[.agg #[.int .i64 0,.string ⟨#[]⟩,.int .i64 0,.slice none 0 0],.slice none 0 0,.bool false])) w':=Or.inr ⟨h,0,0,[],none,none,0,0,0,0,rfl,b⟩
theorem w64_in{n:Int}(h0:0<=n)(h1:n<65536):wrap64 n=n:=by unfold wrap64;omega
theorem nx_bad{p:Prop} (h:p:=by
 go_wp2;exact bodyPost_ret (v:=.tuple #[.agg #[.int .i64 0,.string ⟨#[]⟩,.int .i64 0,.slice none 0 0],.slice none 0 0,.bool false]) (by simp[results,Tryz.results143,go_sem]) rfl (NextR16.no N.out FIN.out)):p:=h
theorem two_wrap{n:Int}(h0:0<=n)(h1:n<4294967296):wrap64 n=n/\IntKind.i64.wrap n=n:=⟨by unfold wrap64;omega,Zw⟩
theorem un_at(q:List UInt8)(r:Nat):un (q.drop (2*r))=256*(co q (2*r)).toNat+(co q (2*r+1)).toNat:=by
 show 256*(co (q.drop (2*r)) 0).toNat+(co (q.drop (2*r)) 1).toNat=_
 rw[co_drop,co_drop,Nat.add_zero]
theorem nx_tail{p:Prop} (h:p:=by
 refine rnH 18 fun K hK=>?_
 refine step_append_z (w:=wr.drew) (z:=(z:Int)) rfl (.tmp 85) (.tmp 101) rfl rfl rfl gd.own rfl rfl (by rw[ls];omega) (Nat.le_trans gd.tn.size Zr) ?_
 intro v5 w5 o5 G5;have g5:=gd.grow G5 o5;obtain⟨y3,y4⟩:=gd.spot G5;have SK:=SB _ G5;rw[<-EZ.out]at g5;obtain⟨a5,n5,ev⟩:=owns_form o5;rw[List.length_append,ls,List.length_singleton]at ev;subst ev;have SL:(w5.setCell ⟨w1.heap.size,3,none⟩ (.slice a5 (r+1) n5)).cell? ⟨b9,o9+s,none⟩=some (.int .u8 (t6:Int))/\(w5.setCell ⟨w1.heap.size,3,none⟩ (.slice a5 (r+1) n5)).cell? ⟨b9,o9+(s+1),none⟩=some (.int .u8 (t7:Int)):=⟨(World.cell?_setCell_far _ _ _ _ ne9).trans SK.1,(World.cell?_setCell_far _ _ _ _ ne9).trans SK.2⟩;clear o5 G5 gd;refine koH hK SK fun hHeld=>?_
 clear hK K;refine tkH 19 ?_
 refine rnH 20 fun K hK=>?_
 go_simp;refine koH hK SL fun hHeld=>?_
 clear hK K;refine wpAnyH_done Zk ?_ _
 go_wp2;go_roundw
 case rel=>exact⟨r+1,_,Zo,Zg,g5⟩
 case measure=>simp[intOf];omega):p:=h
theorem nx_fail{p:Prop} (h:p:=by
 obtain⟨W,hW⟩:∃W,W=(((w4.setCell ⟨w.heap.size,0,none⟩ (.int .i64 0)).setCell ⟨w.heap.size,1,none⟩ (.string ⟨#[]⟩)).setCell ⟨w.heap.size,2,none⟩ (.int .i64 0)).setCell ⟨w.heap.size,3,none⟩ (.slice none 0 0):=⟨_,rfl⟩;obtain⟨OA,n0,n1,n2,n3⟩:=set4 (a:=.int .i64 0) (b:=.string ⟨#[]⟩) (c:=.int .i64 0) (d:=.slice none 0 0) m0 m1 m2 m3;rw[<-hW]at OA n0 n1 n2 n3;have FIN:Hid (Below w.heap.size w W):=(AF.out w4 gn4.tn).2.trans (OA.below Zr);clear OA gn4 AF RW EL ER;go_wp2;rw[<-hW];clear hW;exact bodyPost_ret (v:=.tuple #[.agg #[.int .i64 0,.string ⟨#[]⟩,.int .i64 0,.slice none 0 0],.slice none 0 0,.bool false]) (by simp[results,Tryz.results143,go_sem,n0,n1,n2,n3]) rfl (NextR16.no N.out FIN.out)):p:=h
theorem rnxt16_any{w:World}{v:Value}{p:List UInt8}(R:Rd w v p)(hp:p.length<=100000):Calls Tryz.prog 143 #[v] w (NextR16 w v p):=by
 obtain⟨a,cp,ev⟩:=R.form;subst ev;obtain⟨w1,hw1⟩:∃w1,w1=w.alloc (.cells #[.int .i64 0,.string ⟨#[]⟩,.int .i64 0,.slice none 0 0] 38):=⟨_,rfl⟩;have B1:Below w.heap.size w w1:=by rw[hw1];exact belR _ _
 have FIN:Hid (Below w.heap.size w (w.alloc (.cells #[.int .i64 0,.string ⟨#[]⟩,.int .i64 0,.slice none 0 0] 38))):=belR _ _
 by_cases l2:(p.length:Int)<2
 ·have N:Hid (¬NxR p):=fun q=>by have:=q.1.1;omega
  clear R hw1 B1
  go_enter Tryz.func143,Tryz.ntmps143
  exact nx_bad
 have R1:=R.below B1;obtain⟨b,off,ea,hb,z1⟩:=R1.byte (i:=1) Zo;subst ea;rw[hw1]at z1;obtain⟨N,hN⟩:∃N:Nat,Hid (N=(co p 1).toNat):=⟨_,rfl⟩;have N0:N<256:=by rw[hN.out];exact(co p 1).toNat_lt
 rw[<-hN.out]at z1;have g1:wrap64 (N:Int)=(N:Int):=by unfold wrap64;omega
 by_cases l8:(p.length:Int)<2+(N:Int)+6
 ·have N:Hid (¬NxR p):=fun q=>by have:=q.1.2;rw[<-hN.out]at this;omega
  clear R R1 B1 hw1
  go_enter Tryz.func143,Tryz.ntmps143
  exact nx_bad
 have l8':8+N<=p.length:=Zo
 have hp0:0<p.length:=Zo
 obtain⟨b',off',eb,_,z0⟩:=R1.byte (i:=0) Zo;simp at eb;obtain⟨rfl,rfl⟩:=eb;rw[Nat.add_zero]at z0;obtain⟨K0,hK0⟩:∃K0:Nat,Hid (K0=(co p 0).toNat):=⟨_,rfl⟩;have K00:K0<256:=by rw[hK0.out];exact(co p 0).toNat_lt
 rw[<-hK0.out]at z0;have g0:wrap64 (K0:Int)=(K0:Int):=by unfold wrap64;omega
 have g0':IntKind.i64.wrap (K0:Int)=(K0:Int):=Zw
 have hcap:=(rd_cap R1).2;have g2:IntKind.i64.wrap (2+(N:Int))=2+(N:Int):=Zw
 have E4:∀W,(Instr.slice 42 (.slice (some ⟨b,off,none⟩) p.length cp) (some (.int .i64 2)) (some (.int .i64 (2+(N:Int)))) none).run Tryz.prog W=_:=fun W=>cut_lh16 W (some ⟨b,off,none⟩) (n:=p.length) (c:=cp) (lo:=2) (hi:=2+N) Zo Zo
 have M4:=R1.mid16 (lo:=2) (hi:=2+N) Zo Zo;obtain⟨am,ham⟩:∃am,am=(if cp=2 then some (⟨b,off,none⟩:Addr)else (some (⟨b,off,none⟩:Addr)).map (·.add 2)):=⟨_,rfl⟩;rw[<-ham]at M4;simp only[<-ham]at E4;rw[show 2+N-2=N by omega]at M4 E4;obtain⟨cm,hcm⟩:∃cm,cm=cp-2:=⟨_,rfl⟩;rw[<-hcm]at M4;simp only[<-hcm]at E4;clear ham hcm;obtain⟨y,hy⟩:∃y,Hid (y=(p.drop 2).take N):=⟨_,rfl⟩;rw[<-hy.out]at M4;have ly:y.length=N:=by rw[hy.out,List.length_take,List.length_drop];omega
 have z1':w1.cell? ⟨b,off+1,none⟩=some (.int .u8 (N:Int)):=by rw[hw1];exact z1
 have SB:∀W,Below w1.heap.size w1 W->W.cell? ⟨b,off,none⟩=some (.int .u8 (K0:Int))/\(convert 42 9 (.slice am N cm)).run Tryz.prog W= .ok (.string ⟨y.toArray⟩) W:=fun W q=>⟨(q.cell (p:=⟨b,off,none⟩) hb).trans z0,conv_str16 (M4.below q)⟩
 have D0:Below w1.heap.size w1 w1.drew:=Zf.drew
 go_enter Tryz.func143,Tryz.ntmps143
 go_wp2_with fail
 rw[<-hw1];have S1:Hid (w1.heap.size=w.heap.size+1):=by show _=_;rw[hw1];simp
 have cA:Hid (∀j,w1.cell? ⟨w.heap.size,j,none⟩= #[Value.int .i64 0,.string ⟨#[]⟩,.int .i64 0,.slice none 0 0][j]?):=fun j=>by rw[hw1,World.cell?_alloc_new]
 have fA:Hid (∀j,w1.frozen? ⟨w.heap.size,j,none⟩=false):=fun j=>by rw[hw1];simp[go_sem]
 clear hw1 z1;have SW:=SB _ D0;refine wp_region_held_drew (S:=fun wx=>wx.cell? ⟨b,off,none⟩=some (.int .u8 (K0:Int))/\(convert 42 9 (.slice am N cm)).run Tryz.prog wx= .ok (.string ⟨y.toArray⟩) wx) Zk SW (fun hHeld=>?_);refine tkH 0 ?_
 refine tkH 1 ?_
 refine tkH 2 ?_
 refine tkH 3 ?_
 refine tkH 4 ?_
 refine tkH 5 ?_
 refine tkH 6 ?_
 refine tkH 7 ?_
 refine tkH 8 ?_
 refine tkH 9 ?_
 refine rnH 10 fun K hK=>?_
 go_simp;refine koH hK (SB _ (D0.alloc D0.size _)) fun hHeld=>?_
 clear hK K;refine rnH 11 fun K hK=>?_
 go_simp;obtain⟨w2,hw2⟩:∃w2,w2=(w1.alloc (.cells #[.int .i64 (K0:Int),.string ⟨y.toArray⟩,.int .i64 0,.slice none 0 0] 38)).drew:=⟨_,rfl⟩;have B2:Below w1.heap.size w1 w2:=by rw[hw2];exact(belR _ _).drew
 have S2:Hid (w2.heap.size=w1.heap.size+1):=by show _=_;rw[hw2];simp
 have gn:GotN w2 w1.heap.size w2 (K0:Int) y 0 (.slice none 0 0) []:=by
  have c:∀j,w2.cell? ⟨w1.heap.size,j,none⟩= #[Value.int .i64 (K0:Int),.string ⟨y.toArray⟩,.int .i64 0,.slice none 0 0][j]? :=fun j=>by rw[hw2];exact World.cell?_alloc_new _ _ _ _
  exact⟨c 0,c 1,c 2,c 3,fun j=>by rw[hw2];simp[go_sem],OwnZ.nil _ _ _,Turn.refl _ _,by have:=S2.out;omega⟩
 have SF:w2.cell? ⟨b,off,none⟩=some (.int .u8 (K0:Int))/\(convert 42 9 (.slice am N cm)).run Tryz.prog w2= .ok (.string ⟨y.toArray⟩) w2:=SB _ B2;rw[<-hw2];clear hw2;refine koH hK SF fun hHeld=>?_
 clear hK K SF hHeld SB SW D0 M4 E4;refine wpAnyH_done Zk ?_ _
 have R2:=R1.below B2;have g3:IntKind.i64.wrap (6+(N:Int))=6+(N:Int):=Zw
 have E5:∀W,(Instr.slice 42 (.slice (some ⟨b,off,none⟩) p.length cp) (some (.int .i64 (2+(N:Int)))) (some (.int .i64 (6+(N:Int)))) none).run Tryz.prog W=_:=fun W=>cut_lh16 W (some ⟨b,off,none⟩) (n:=p.length) (c:=cp) (lo:=2+N) (hi:=6+N) Zo Zo
 have M5:=R2.mid16 (lo:=2+N) (hi:=6+N) Zo Zo;obtain⟨a5,ha5⟩:∃a5,a5=(if cp=2+N then some (⟨b,off,none⟩:Addr)else (some (⟨b,off,none⟩:Addr)).map (·.add (2+N))):=⟨_,rfl⟩;rw[<-ha5]at M5;simp only[<-ha5]at E5;rw[show 6+N-(2+N)=4 by omega]at M5 E5;generalize cp-(2+N)=c5 at M5 E5;clear ha5;obtain⟨q3,hq3⟩:∃q3,Hid (q3=p.drop (2+N)):=⟨_,rfl⟩;have l3:q3.length=p.length-(2+N):=by rw[hq3.out,List.length_drop]
 rw[<-hq3.out]at M5;have KN:=rnum_any M5 (by rw[List.length_take];omega);rw[nu_take Zo]at KN;clear M5
 go_wp2_with fail
 refine KN.mono ?_
 rintro _ w3 ⟨rfl,B3⟩;clear KN E5;obtain⟨L0,hL0⟩:∃L0:Nat,Hid (L0=nu q3):=⟨_,rfl⟩;have L00:L0<4294967296:=by rw[hL0.out];exact nu_lt _
 rw[<-hL0.out];have gn3:=gn.below B3;have R3:=R2.below B3;clear gn R2;obtain⟨b6,o6,e6,_,c6⟩:=R3.byte (i:=6+N) Zo;simp at e6;obtain⟨rfl,rfl⟩:=e6;obtain⟨b7,o7,e7,_,c7⟩:=R3.byte (i:=7+N) Zo;simp at e7;obtain⟨rfl,rfl⟩:=e7;have EC:Hid (un (p.drop (6+N))=256*(co p (6+N)).toNat+(co p (7+N)).toNat):=by
  show 256*(co (p.drop (6+N)) 0).toNat+(co (p.drop (6+N)) 1).toNat=_
  rw[co_drop,co_drop,show 6+N+1=7+N by omega,Nat.add_zero]
 have x6:(co p (6+N)).toNat<256:=(co p (6+N)).toNat_lt;have x7:(co p (7+N)).toNat<256:=(co p (7+N)).toNat_lt;generalize (co p (6+N)).toNat=t6 at c6 EC x6;generalize (co p (7+N)).toNat=t7 at c7 EC x7;obtain⟨C,hC6⟩:∃C:Nat,C=256*t6+t7:=⟨_,rfl⟩;have hC:Hid (C=un (p.drop (6+N))):=hC6.trans EC.out.symm;have eC:256*(t6:Int)+(t7:Int)=(C:Int):=by rw[hC6,Int.natCast_add,Int.natCast_mul];rfl
 have C0:C<65536:=Zo
 clear hC6;have h6:IntKind.i64.wrap (t6:Int)=(t6:Int):=Zw
 have h7:IntKind.i64.wrap (t7:Int)=(t7:Int):=Zw
 have h8:IntKind.i64.wrap (256*(t6:Int))=256*(t6:Int):=Zw
 have h9:IntKind.i64.wrap (C:Int)=(C:Int):=Zw
 have g7:IntKind.i64.wrap (7+(N:Int))=7+(N:Int):=Zw
 have i6:6+(N:Int)<(p.length:Int):=Zo
 have i7:7+(N:Int)<(p.length:Int):=Zo
 obtain⟨h6',h7'⟩:wrap64 (t6:Int)=(t6:Int)/\wrap64 (t7:Int)=(t7:Int):=⟨w64_in Zo Zo,w64_in Zo Zo⟩;clear EC
 go_wp2_with fail
 go_quiet (fail)
 have gn4:=gn3.below (show Below w3.heap.size w3 (w3.drewN nq)from Zf.drewN nq);have R4:=R3.below (show Below w3.heap.size w3 (w3.drewN nq)from Zf.drewN nq);have BW:Below w2.heap.size w2 (w3.drewN nq):=B3.drewN nq;generalize w3.drewN nq=w4 at gn4 R4 BW;clear gn3 R3 B3 c6 c7 h6 h7 h8 h6' h7' eC i6 i7 g7 x6 x7;have g8:IntKind.i64.wrap (8+(N:Int))=8+(N:Int):=Zw
 have E8:∀W,(Instr.slice 42 (.slice (some ⟨b,off,none⟩) p.length cp) (some (.int .i64 (8+(N:Int)))) none none).run Tryz.prog W=_:=fun W=>cut_lo16 W (some ⟨b,off,none⟩) (n:=p.length) (c:=cp) (k:=8+N) Zo
 have M8:=R.rest16 (k:=8+N) Zo;have A8:=fun (W:World) (q:Rd W (.slice (some ⟨b,off,none⟩) p.length cp) p)=>q.rest16 (k:=8+N) Zo
 obtain⟨a8,ha8⟩:∃a8,a8=(if cp=8+N then some (⟨b,off,none⟩:Addr)else (some (⟨b,off,none⟩:Addr)).map (·.add (8+N))):=⟨_,rfl⟩;rw[<-ha8]at M8 A8;simp only[<-ha8]at E8;generalize cp-(8+N)=c8 at M8 A8 E8;clear ha8;obtain⟨q5,hq5⟩:∃q5,Hid (q5=p.drop (8+N)):=⟨_,rfl⟩;have l5:Hid (q5.length=p.length-(8+N)):=by show _=_;rw[hq5.out,List.length_drop]
 rw[<-hq5.out]at M8 A8;rw[<-l5.out]at M8 A8 E8;have EL:Hid (LnR p↔2*C<=q5.length):=by
  show LnR p↔_
  unfold LnR;rw[<-hN.out,List.drop_drop,List.drop_drop,show 2+(N+4)=6+N by omega,<-hC.out,l5.out];omega
 have ER:Hid (raR p=⟨(K0:Int),y,(L0:Int),stN C q5⟩/\reR p=q5.drop (2*C)):=by
  refine⟨?_,?_⟩
  ·unfold raR;rw[<-hN.out,<-hK0.out,<-hy.out,List.drop_drop,<-hq3.out,<-hL0.out,hq3.out,List.drop_drop,show 2+N+4=6+N by omega,<-hC.out,List.drop_drop,show 6+N+2=8+N by omega,<-hq5.out]
  ·unfold reR;rw[<-hN.out,List.drop_drop,List.drop_drop,show 2+(N+4)=6+N by omega,<-hC.out,hq5.out,List.drop_drop]
 have AF:Hid (∀W,Turn w1.heap.size w2 W->(∀j,W.cell? ⟨w.heap.size,j,none⟩= #[Value.int .i64 0,.string ⟨#[]⟩,.int .i64 0,.slice none 0 0][j]?/\W.frozen? ⟨w.heap.size,j,none⟩=false)/\Below w.heap.size w W):=by
  intro W t;have s1:=S1.out;have s2:=S2.out;have la:w.heap.size<w2.heap.size:=Zo
  have ne:w.heap.size≠w1.heap.size:=Zo
  exact⟨fun j=>⟨(t.cell (p:=⟨w.heap.size,j,none⟩) la ne).trans ((B2.cell (p:=⟨w.heap.size,j,none⟩) (by show w.heap.size<_;omega)).trans (cA.out j)),(t.frozen (p:=⟨w.heap.size,j,none⟩) la ne).trans ((B2.frozen (p:=⟨w.heap.size,j,none⟩) (by show w.heap.size<_;omega)).trans (fA.out j))⟩,(B1.step16 B2 B1.size).trans (t.below Zo Zo)⟩
 have RW:Hid (∀W,Turn w1.heap.size w2 W->Rd W (.slice a8 q5.length c8) q5):=by
  intro W t;exact M8.below (AF.out W t).2
 have HM8:Hid (Rd w (.slice a8 q5.length c8) q5):=M8;have HA8:Hid (∀W,Rd W (.slice (some ⟨b,off,none⟩) p.length cp) p->Rd W (.slice a8 q5.length c8) q5):=A8;clear A8;have E8':∀W,(Instr.slice 42 (.slice (some ⟨b,off,none⟩) p.length cp) (some (.int .i64 (8+(N:Int)))) none none).run Tryz.prog W= .ok (.slice a8 q5.length c8) W:=E8;obtain⟨kA,-⟩:=AF.out w4 gn4.tn;obtain⟨m0,f0⟩:=kA 0;obtain⟨m1,f1⟩:=kA 1;obtain⟨m2,f2⟩:=kA 2;obtain⟨m3,f3⟩:=kA 3;simp at m0 m1 m2 m3;have e2C:IntKind.i64.wrap (2*(C:Int))=2*(C:Int):=Zw
 clear kA g0 g0' g1 g2 g3 R1 R4 M8 R E8 h9 hb z0 z1' hK0 hL0 hq3 hq5 hC hN hy
 by_cases hL:(L0:Int)>2147483647
 ·have N:Hid (¬NxR p):=fun q=>by
   have h:=q.2.2.2.2.2.1;rw[ER.out.1]at h;exact absurd h (by show ¬(L0:Int)<=_;omega)
  exact nx_fail
 by_cases hl:(q5.length:Int)<2*(C:Int)
 ·have N:Hid (¬NxR p):=fun q=>by have:=EL.out.1 q.1;omega
  exact nx_fail
 have HLn:Hid (LnR p):=EL.out.2 Zo;have hl2:2*C<=q5.length:=Zo
 have k2:=gn4.c2;have fz2:=gn4.fz 2;have gn5:=gn4.put2 (L0:Int);have L5:Hid (q5.length<=100000):=by show _<=_;rw[l5.out];omega
 obtain⟨w32,w32'⟩:=two_wrap (n:=(L0:Int)) Zo Zo;clear m0 m1 m2 m3 f0 f1 f2 f3 gn4 EL
 go_wp2_with fail
 clear k2 fz2 w32 w32' E8'
 go_loopw [10] (fun i wr=>∃(r:Nat) (v:Value),r<=C/\i= .int .i64 (r:Int)/\GotN w2 w1.heap.size wr (K0:Int) y (L0:Int) v (stN r q5)) (fun i _=>C-(intOf i).toNat)
 case atStart=>exact⟨0,_,Zz,rfl,gn5⟩
 case round=>
  clear gn5;obtain⟨r,v,hr,rfl,g⟩:=hrel;obtain⟨va,vc,ev⟩:=owns_form g.own;subst ev;have ls:(stN r q5).length=r:=stN_length _ _
  by_cases hlt:r<C
  ·have hlt':(r:Int)<(C:Int):=by omega
   have gd:=g.below (show Below wr.heap.size wr wr.drew from Zf.drew);have Rq:=RW.out _ gd.tn;obtain⟨b9,o9,e9,hb9,c6⟩:=Rq.byte (i:=2*r) Zo;obtain⟨b8,o8,e8,_,c7⟩:=Rq.byte (i:=2*r+1) Zo;obtain⟨bw,ow,ew,nW,_⟩:=HM8.out.byte (i:=2*r) Zo;rw[e9]at ew;simp at ew;obtain⟨rfl,rfl⟩:=ew;rw[e9]at e8;simp at e8;obtain⟨rfl,rfl⟩:=e8;subst e9;have EU:=un_at q5 r;have EZ0:=stN_succ r q5;rw[EU]at EZ0;obtain⟨s,hs⟩:∃s,s=2*r:=⟨_,rfl⟩;rw[<-hs]at c6 c7 EZ0;have x6:(co q5 s).toNat<256:=(co q5 s).toNat_lt;have x7:(co q5 (s+1)).toNat<256:=(co q5 (s+1)).toNat_lt;generalize (co q5 s).toNat=t6 at c6 EZ0 x6;generalize (co q5 (s+1)).toNat=t7 at c7 EZ0 x7;obtain⟨z,hz⟩:∃z:Nat,z=256*t6+t7:=⟨_,rfl⟩;rw[<-hz]at EZ0;have EZ:Hid (stN (r+1) q5=stN r q5++[(z:Int)]):=EZ0;have eC:256*(t6:Int)+(t7:Int)=(z:Int):=by rw[hz,Int.natCast_add,Int.natCast_mul];rfl
   have ne9:w1.heap.size≠b9:=by have:=S1.out;omega
   have j0:2*(r:Int)=(s:Int):=Zo
   have j1:IntKind.i64.wrap (s:Int)=(s:Int):=Zw
   have j2:IntKind.i64.wrap ((s:Int)+1)=(s:Int)+1:=Zw
   have j3:IntKind.i64.wrap (256*(t6:Int))=256*(t6:Int):=Zw
   have j4:IntKind.i64.wrap (z:Int)=(z:Int):=Zw
   have j5:(s:Int)<(q5.length:Int):=Zo
   have j6:(s:Int)+1<(q5.length:Int):=Zo
   have j9:(0:Int)<=(s:Int)+1:=Zo
   have j7:s<q5.length:=Zo
   have j8:s+1<q5.length:=Zo
   obtain⟨h6,h6'⟩:=two_wrap (n:=(t6:Int)) Zo Zo;have h7a:(0:Int)<=(t7:Int)/\(t7:Int)<4294967296:=⟨Int.natCast_nonneg _,Int.ofNat_lt.2 (Zu x7 Zd)⟩;obtain⟨h7,h7'⟩:=two_wrap h7a.1 h7a.2;rw[ls]at gd;have SB:∀W {v'},Gro wr.drew (.slice va r vc) W v'->W.cell? ⟨b9,o9+s,none⟩=some (.int .u8 (t6:Int))/\W.cell? ⟨b9,o9+(s+1),none⟩=some (.int .u8 (t7:Int)):=fun W v' G=>by
    have nb:(Value.slice va r vc).ownBlock≠some b9:=fun e=>by
     have a1:=(Zv gd.own b9 e).1;have a2:=S2.out;have a3:=S1.out;clear h6 h6' h7 h7';omega
    exact⟨(G.cell (p:=⟨b9,o9+s,none⟩) hb9 nb).trans c6,(G.cell (p:=⟨b9,o9+(s+1),none⟩) hb9 nb).trans c7⟩
   have k3:wr.drew.cell? ⟨w1.heap.size,3,none⟩=some (.slice va r vc):=gd.c3;have lG:w1.heap.size<wr.drew.heap.size:=Zu gd.lg gd.tn.size;have k4:∀o,(wr.drew.alloc o).cell? ⟨w1.heap.size,3,none⟩=some (.slice va r vc):=fun o=>(World.cell?_alloc_past _ _ _ lG).trans k3
   have k4':∀o,(wr.alloc o).drew.cell? ⟨w1.heap.size,3,none⟩=some (.slice va r vc):=fun o=>k4 o
   have SA:∀o,(wr.drew.alloc o).cell? ⟨b9,o9+s,none⟩=some (.int .u8 (t6:Int))/\(wr.drew.alloc o).cell? ⟨b9,o9+(s+1),none⟩=some (.int .u8 (t7:Int)):=fun o=>SB _ (Gro.bel _ (belR _ _))
   clear Rq g EU hz EZ0 h7a hs
   go_wp2_with fail
   refine wp_region_held_drew (S:=fun wx=>wx.cell? ⟨b9,o9+s,none⟩=some (.int .u8 (t6:Int))/\wx.cell? ⟨b9,o9+(s+1),none⟩=some (.int .u8 (t7:Int))) Zk ⟨c6,c7⟩ (fun hHeld=>?_);refine tkH 0 ?_
   refine tkH 2 ?_
   refine tkH 3 ?_
   refine tkH 4 ?_
   refine tkH 5 ?_
   refine tkH 6 ?_
   refine tkH 7 ?_
   refine tkH 8 ?_
   refine tkH 9 ?_
   refine tkH 10 ?_
   refine tkH 11 ?_
   refine tkH 12 ?_
   refine tkH 13 ?_
   refine tkH 14 ?_
   refine tkH 15 ?_
   refine tkH 16 ?_
   refine rmH 1 17 (fun K hK=>?_) fun K hK=>?_
   ·go_simp;refine koH hK hHeld fun hHeld=>?_
    clear hK K;refine rnH 17 fun K hK=>?_
    go_simp;refine koH hK (SA _) fun hHeld=>?_
    clear hK K;exact nx_tail
   ·go_simp;refine koH hK (SA _) fun hHeld=>?_
    clear hK K;refine rnH 1 fun K hK=>?_
    go_simp;refine koH hK hHeld fun hHeld=>?_
    clear hK K;exact nx_tail
  ·obtain rfl:r=C:=by omega
   have hge:¬(r:Int)<(r:Int):=Zo
   obtain⟨k0,k1,k2,k3⟩:=And.intro g.c0 (And.intro g.c1 (And.intro g.c2 g.c3));have IN:RcV.In wr ⟨⟨(K0:Int),y,(L0:Int),stN r q5⟩,.slice va (stN r q5).length vc⟩:=⟨wf64 (by show _<=(K0:Int);omega) (by show(K0:Int)<=_;omega),wf64 (by show _<=(L0:Int);omega) (by show(L0:Int)<=_;omega),by show y.length<=_;unfold maxLen;omega,g.own.rd (by rw[ls];omega),stN_wf _ _⟩;have LG:w1.heap.size<wr.heap.size:=Zu g.lg g.tn.size;have KC:=rchk16_any IN rfl;have FRr:Hid (∀k,(Value.slice va (stN r q5).length vc).ownBlock=some k->w.heap.size<k/\k<wr.heap.size):=fun k hk=>by
    have a1:=Zv g.own k hk;have a2:=S1.out;have a3:=S2.out;omega
   rw[ls]at k3 KC FRr IN
   go_wp2_with fail
   refine KC.mono ?_
   rintro _ w6 ⟨rfl,B6⟩;clear KC;have gn6:=g.below B6;have Rq:=RW.out _ gn6.tn;obtain⟨kA,BA⟩:=AF.out w6 gn6.tn;obtain⟨m0,f0⟩:=kA 0;obtain⟨m1,f1⟩:=kA 1;obtain⟨m2,f2⟩:=kA 2;obtain⟨m3,f3⟩:=kA 3;simp at m0 m1 m2 m3;obtain⟨k0,k1,k2,k3⟩:=And.intro gn6.c0 (And.intro gn6.c1 (And.intro gn6.c2 gn6.c3));rw[ls]at k3;have EE:∀W,(Instr.slice 42 (.slice a8 q5.length c8) (some (.int .i64 (2*(r:Int)))) none none).run Tryz.prog W=_:=fun W=>cut_lo16 W a8 (n:=q5.length) (c:=c8) (k:=2*r) Zo
   have MM:=fun (W:World) (q:Rd W (.slice (some ⟨b,off,none⟩) p.length cp) p)=>(HA8.out W q).rest16 (k:=2*r) Zo
   obtain⟨aR,haR⟩:∃aR,aR=(if c8=2*r then a8 else a8.map (·.add (2*r))):=⟨_,rfl⟩;rw[<-haR]at MM;simp only[<-haR]at EE;generalize q5.length-2*r=nR at MM EE;generalize c8-2*r=cR at MM EE;have EE':∀W,(Instr.slice 42 (.slice a8 q5.length c8) (some (.int .i64 (2*(r:Int)))) none none).run Tryz.prog W= .ok (.slice aR nR cR) W:=EE;clear haR EE;obtain⟨W,hW⟩:∃W,W=(((w6.setCell ⟨w.heap.size,0,none⟩ (.int .i64 (K0:Int))).setCell ⟨w.heap.size,1,none⟩ (.string ⟨y.toArray⟩)).setCell ⟨w.heap.size,2,none⟩ (.int .i64 (L0:Int))).setCell ⟨w.heap.size,3,none⟩ (.slice va r vc):=⟨_,rfl⟩;obtain⟨OA,n0,n1,n2,n3⟩:=set4 (a:=.int .i64 (K0:Int)) (b:=.string ⟨y.toArray⟩) (c:=.int .i64 (L0:Int)) (d:=.slice va r vc) m0 m1 m2 m3;rw[<-hW]at OA n0 n1 n2 n3;obtain⟨X,hX⟩:∃X:Bool,Hid (X=true↔NxR p)/\(chR ⟨(K0:Int),y,(L0:Int),stN r q5⟩=0↔X=true)/\(X=false->chR ⟨(K0:Int),y,(L0:Int),stN r q5⟩=1):=by
    by_cases o:OkR ⟨(K0:Int),y,(L0:Int),stN r q5⟩
    ·exact⟨true,⟨fun _=>⟨HLn.out,by rw[ER.out.1];exact o⟩,fun _=>rfl⟩,⟨fun _=>rfl,fun _=>if_pos o⟩,fun q=>by cases q⟩
    ·exact⟨false,⟨fun q=>(by cases q),fun q=>absurd (by have:=q.2;rwa[ER.out.1]at this) o⟩,⟨fun q=>(by rw[show chR ⟨(K0:Int),y,(L0:Int),stN r q5⟩=1 from if_neg o]at q;cases q),fun q=>by cases q⟩,fun _=>if_neg o⟩
   have BW2:Below w.heap.size w W:=BA.trans (OA.below Zr);have SF:∀wx,Only w.heap.size w6 wx->wx.cell? ⟨w1.heap.size,0,none⟩=some (.int .i64 (K0:Int))/\wx.cell? ⟨w1.heap.size,1,none⟩=some (.string ⟨y.toArray⟩)/\wx.cell? ⟨w1.heap.size,2,none⟩=some (.int .i64 (L0:Int))/\wx.cell? ⟨w1.heap.size,3,none⟩=some (.slice va r vc):=by
    have ne:w1.heap.size≠w.heap.size:=by have:=S1.out;omega
    exact fun wx o=>⟨(o.cell (p:=⟨w1.heap.size,0,none⟩) ne).trans k0,(o.cell (p:=⟨w1.heap.size,1,none⟩) ne).trans k1,(o.cell (p:=⟨w1.heap.size,2,none⟩) ne).trans k2,(o.cell (p:=⟨w1.heap.size,3,none⟩) ne).trans k3⟩
   have FIN:Hid (NextR16 w (.slice (some ⟨b,off,none⟩) p.length cp) p (.returned (.tuple #[.agg #[.int .i64 (K0:Int),.string ⟨y.toArray⟩,.int .i64 (L0:Int),.slice va r vc],.slice aR nR cR,.bool X])) W.drew):=by
    have OW:OwnZ W w2.heap.size 3 (.slice va (stN r q5).length vc) (stN r q5):=gn6.own.only OA (by have:=S1.out;have:=S2.out;omega);cases X with
    |true=>
     refine Or.inl ⟨hX.1.out.1 rfl,⟨⟨(K0:Int),y,(L0:Int),stN r q5⟩,.slice va r vc⟩,aR,nR,cR,rfl,ER.out.1.symm,⟨IN.wk,IN.wl,IN.ky,?_,IN.wi⟩,?_,?_,BW2.drew⟩
     ·have h:=OW.rd (by rw[ls];omega);rw[ls]at h;exact h.below Zf.drew
     ·intro k hk;have a1:=FRr.out k hk;have a2:=B6.size
      show _/\k<W.heap.size
      rw[OA.size];omega
     ·rw[ER.out.2];exact MM
    |false=>exact Or.inr ⟨fun q=>(by have:=hX.1.out.2 q;cases this),_,_,_,_,_,_,_,_,_,rfl,BW2.drew⟩
   have HXX:(chR ⟨(K0:Int),y,(L0:Int),stN r q5⟩==0)=X:=by
    cases X with
    |true=>rw[hX.2.1.2 rfl];rfl
    |false=>rw[hX.2.2 rfl];rfl
   have SW2:W.drew.cell? ⟨w1.heap.size,0,none⟩=some (.int .i64 (K0:Int))/\W.drew.cell? ⟨w1.heap.size,1,none⟩=some (.string ⟨y.toArray⟩)/\W.drew.cell? ⟨w1.heap.size,2,none⟩=some (.int .i64 (L0:Int))/\W.drew.cell? ⟨w1.heap.size,3,none⟩=some (.slice va r vc):=SF W OA;have d0:W.drew.cell? ⟨w.heap.size,0,none⟩=some (.int .i64 (K0:Int)):=n0;have d1:W.drew.cell? ⟨w.heap.size,1,none⟩=some (.string ⟨y.toArray⟩):=n1;have d2:W.drew.cell? ⟨w.heap.size,2,none⟩=some (.int .i64 (L0:Int)):=n2;have d3:W.drew.cell? ⟨w.heap.size,3,none⟩=some (.slice va r vc):=n3;generalize chR ⟨(K0:Int),y,(L0:Int),stN r q5⟩=x0 at HXX;clear hX IN OA BW2 BA Rq MM gn6 g ER RW AF
   go_wp2_with fail
   refine wp_region_held_drew (S:=fun wx=>wx.cell? ⟨w1.heap.size,0,none⟩=some (.int .i64 (K0:Int))/\wx.cell? ⟨w1.heap.size,1,none⟩=some (.string ⟨y.toArray⟩)/\wx.cell? ⟨w1.heap.size,2,none⟩=some (.int .i64 (L0:Int))/\wx.cell? ⟨w1.heap.size,3,none⟩=some (.slice va r vc)) Zk ⟨k0,k1,k2,k3⟩ (fun hHeld=>?_);refine tkH 0 ?_
   refine tkH 1 ?_
   refine tkH 2 ?_
   refine tkH 3 ?_
   refine tkH 4 ?_
   refine tkH 5 ?_
   refine tkH 6 ?_
   refine rnH 7 fun K hK=>?_
   go_simp;rw[<-hW];refine koH hK SW2 fun hHeld=>?_
   clear hK K;refine tkH 8 ?_
   refine tkH 9 ?_
   refine wpAnyH_done Zk ?_ _
   clear hW;go_wp2;exact bodyPost_ret (v:=.tuple #[.agg #[.int .i64 (K0:Int),.string ⟨y.toArray⟩,.int .i64 (L0:Int),.slice va r vc],.slice aR nR cR,.bool X]) (by simp[results,Tryz.results143,go_sem,d0,d1,d2,d3]) rfl FIN.out
theorem un_bad{p:Prop} (h:p:=by
 go_wp2;exact bodyPost_ret (v:=.tuple #[.slice none 0 0,.int .i64 160]) (by simp[results,Tryz.results145,go_sem]) rfl (Or.inr ⟨N.out,rfl,FIN.out⟩)):p:=h
theorem isP_two{p q B:List UInt8}(h:CutP p q)(e:B=p++q)(l:List ObS):IsP [p,q] l↔2<=B.length/\unO (un B) (B.drop 2)=some (l,[])/\MayL l:=by
 subst e;constructor
 ·rintro⟨p',q',e,h1,h2,h3,h4⟩;simp only[List.cons.injEq,and_true]at e;obtain⟨rfl,rfl⟩:=e;exact⟨h2,h3,h4⟩
 ·rintro⟨h2,h3,h4⟩;exact⟨p,q,rfl,h,h2,h3,h4⟩
theorem z21_1{p:Prop} (h:p:=by
 clear R0 R1 hB NC FIN
 go_wp2_with (at_builtin;(refine wpList_append_rd2 _ rfl (.tmp 48) (.tmp 52) 42 rfl w.heap.size 5 i0 Tryz.underlying42 hi hz0 hz1 hz2 _ _ _ rfl hO _ _ rfl R1' lpq BW.size ?_);intro v7 w7 h7 g7 e7;have o7:=cat16 h7;have C7:=BW.grown g7 BW.size (fun q hq=>(Zv hO q hq).1);clear h7 g7 e7 hO)
 have C8:Hid (Below w.heap.size w w7):=C7;go_roundw
 case rel=>exact⟨2,by first|rfl|go_num,C8,Or.inr (Or.inr ⟨rfl,o7,Y⟩)⟩
 case measure=>simp[intOf]
 ):p:=h
theorem runs16_far{w:World}{v:Value}{P:List (List UInt8)}(h:Rs w v P):Calls Tryz.prog 145 #[v] w (UnP16F w P):=by
 obtain⟨a,cp,rfl⟩:=h.form
 by_cases h2:P.length=2
 rotate_left
 ·have h2':¬(P.length:Int)=2:=by omega
  have N:Hid (∀l,¬IsP P l):=fun l ⟨p,q,e,_⟩=>h2 (by rw[e];rfl)
  have FIN:Hid (Below w.heap.size w w):=Zf;clear h
  go_enter Tryz.func145,Tryz.ntmps145
  exact un_bad
 obtain⟨p,q,rfl⟩:∃p q,P=[p,q]:=by
  match P,h2 with
  |[p,q],_=>exact⟨p,q,rfl⟩
 clear h2;obtain⟨b,off,xa,xc,rfl,hb,c0,r0⟩:=h.at (i:=0) Zs;obtain⟨b',off',ya,yc,e,_,c1,r1⟩:=h.at (i:=1) Zs;simp at e;obtain⟨rfl,rfl⟩:=e;have z0:w.cell? ⟨b,off,none⟩=some (.slice xa p.length xc):=c0;have z1:w.cell? ⟨b,off+1,none⟩=some (.slice ya q.length yc):=c1;have R0:Rd w (.slice xa p.length xc) p:=r0;have R1:Rd w (.slice ya q.length yc) q:=r1
 show Calls Tryz.prog 145 #[.slice (some ⟨b,off,none⟩) 2 cp] w _
 clear c0 c1 r0 r1 h;obtain⟨i0,hi,hz0,hz1,hz2⟩:=info_parts info_u8
 go_enter Tryz.func145,Tryz.ntmps145
 go_wp2_with fail
 go_loopw [4,5] (fun bv i wr=>∃r:Nat,i= .int .i64 (r:Int)/\Hid (Below w.heap.size w wr)/\((r=0/\bv= .slice none 0 0)∨(r=1/\OwnP wr w.heap.size 5 bv p/\Hid (p.length<=4096))∨(r=2/\OwnP wr w.heap.size 5 bv (p++q)/\Hid (CutP p q)))) (fun _ i _=>2-(intOf i).toNat)
 case atStart=>exact⟨0,rfl,Zf,Or.inl ⟨rfl,rfl⟩⟩
 case round=>
  obtain⟨r,rfl,hB,⟨rfl,rfl⟩|⟨rfl,hO,hm⟩|⟨rfl,hO,hC⟩⟩:=hrel
  ·have y0:wr.cell? ⟨b,off,none⟩=some (.slice xa p.length xc):=(hB.out.cell (p:=⟨b,off,none⟩) hb).trans z0
   by_cases hm:(p.length:Int)>4096
   ·have N:Hid (∀l,¬IsP [p,q] l):=fun l ⟨p',q',e,k,_⟩=>by
     simp only[List.cons.injEq,and_true]at e;obtain⟨rfl,rfl⟩:=e;have:=k.1;omega
    have FIN:=hB;clear R0 R1 hB;exact un_bad
   ·have R0':=R0.below hB.out;have BW:=hB.out;have on:wr.ownsRow w.heap.size 5 1 (.slice none 0 0) 0 []:=World.ownsRow_nil _ _ _ _;have hm':Hid (p.length<=4096):=by show _<=_;omega
    have lp:0+p.length<=1000000:=Zo
    clear R0 R1 hB
    go_wp2_with (at_builtin;(refine wpList_append_rd2 _ rfl (.tmp 48) (.tmp 52) 42 rfl w.heap.size 5 i0 Tryz.underlying42 hi hz0 hz1 hz2 _ _ _ rfl on _ _ rfl R0' lp BW.size ?_);intro v7 w7 h7 g7 e7;have o7:=(show OwnP w7 w.heap.size 5 v7 p by have:=h7;rw[Nat.zero_add,List.nil_append]at this;exact this);have C7:=BW.grown g7 BW.size (fun q hq=>(Zv on q hq).1);clear h7 g7 e7 on)
    have C8:Hid (Below w.heap.size w w7):=C7;go_roundw
    case rel=>exact⟨1,by first|rfl|go_num,C8,Or.inr (Or.inl ⟨rfl,o7,hm'⟩)⟩
    case measure=>simp[intOf]
  ·have y0:wr.cell? ⟨b,off,none⟩=some (.slice xa p.length xc):=(hB.out.cell (p:=⟨b,off,none⟩) hb).trans z0;have y1:wr.cell? ⟨b,off+1,none⟩=some (.slice ya q.length yc):=(hB.out.cell (p:=⟨b,off+1,none⟩) hb).trans z1;have NC:Hid (¬CutP p q->∀l,¬IsP [p,q] l):=fun n l ⟨p',q',e,k,_⟩=>by
    simp only[List.cons.injEq,and_true]at e;obtain⟨rfl,rfl⟩:=e;exact n k
   have FIN:=hB;obtain⟨oa,oc,rfl⟩:=owns_form hO
   by_cases hn:(q.length:Int)>4096
   ·have N:Hid (∀l,¬IsP [p,q] l):=NC.out fun k=>by have:=k.2.1;omega
    clear R0 R1 hB NC hO;exact un_bad
   have R1':=R1.below hB.out;have BW:=hB.out;have lpq:p.length+q.length<=1000000:=by have:=hm.out;omega
   by_cases h0:(q.length:Int)>0
   ·by_cases hf:(p.length:Int)<4096
    ·have N:Hid (∀l,¬IsP [p,q] l):=NC.out fun k=>by
      rcases k.2.2 with k|k
      ·rw[k]at h0;simp at h0
      ·omega
     clear R0 R1 hB NC hO R1' BW;exact un_bad
    ·have Y:Hid (CutP p q):=⟨hm.out,Zo,Or.inr (by have:=hm.out;omega)⟩;exact z21_1
   ·have Y:Hid (CutP p q):=⟨hm.out,Zo,Or.inl (List.length_eq_zero_iff.1 Zo)⟩;exact z21_1
  ·obtain⟨B,eB⟩:∃B,Hid (B=p++q):=⟨_,rfl⟩;have IP:Hid (∀l,IsP [p,q] l↔2<=B.length/\unO (un B) (B.drop 2)=some (l,[])/\MayL l):=isP_two hC.out eB.out;have lB:B.length<=8192:=by rw[eB.out,List.length_append];have:=hC.out.1;have:=hC.out.2.1;omega
   rw[<-eB.out]at hO;have R:Rd wr _ B:=Rd.owned hO;obtain⟨oa,oc,rfl⟩:=owns_form hO;clear hO R0 R1 z0 z1 eB hC;have FIN:=hB
   by_cases l2:(B.length:Int)<2
   ·have N:Hid (∀l,¬IsP [p,q] l):=fun l k=>by have:=((IP.out l).1 k).1;omega
    clear R hB;exact un_bad
   obtain⟨b0,o0,e0,_,c6⟩:=R.byte (i:=0) Zo;subst e0;obtain⟨b1,o1,e1,_,c7⟩:=R.byte (i:=1) Zo;simp at e1;obtain⟨rfl,rfl⟩:=e1;rw[Nat.add_zero]at c6;have EC:Hid (un B=256*(co B 0).toNat+(co B 1).toNat):=rfl;have x6:(co B 0).toNat<256:=(co B 0).toNat_lt;have x7:(co B 1).toNat<256:=(co B 1).toNat_lt;generalize (co B 0).toNat=t6 at c6 EC x6;generalize (co B 1).toNat=t7 at c7 EC x7;obtain⟨C,hC6⟩:∃C:Nat,C=256*t6+t7:=⟨_,rfl⟩;have hC:Hid (C=un B):=hC6.trans EC.out.symm;have eC:256*(t6:Int)+(t7:Int)=(C:Int):=by rw[hC6,Int.natCast_add,Int.natCast_mul];rfl
   have C0:C<65536:=Zo
   clear hC6;have h6:IntKind.i64.wrap (t6:Int)=(t6:Int):=Zw
   have h7:IntKind.i64.wrap (t7:Int)=(t7:Int):=Zw
   have h8:IntKind.i64.wrap (256*(t6:Int))=256*(t6:Int):=Zw
   have h9:IntKind.i64.wrap (C:Int)=(C:Int):=Zw
   have i6:(0:Int)<(B.length:Int):=Zo
   have i7:(1:Int)<(B.length:Int):=Zo
   have i6':0<B.length:=Zo
   have i7':1<B.length:=Zo
   obtain⟨h6',h7'⟩:wrap64 (t6:Int)=(t6:Int)/\wrap64 (t7:Int)=(t7:Int):=⟨w64_in Zo Zo,w64_in Zo Zo⟩;clear EC
   go_wp2_with fail
   go_quiet (fail)
   have Rb:=R.below (show Below wr.heap.size wr (wr.drewN nq)from Zf.drewN nq);have BA:Below w.heap.size w (wr.drewN nq):=hB.out.drewN nq;generalize wr.drewN nq=wb at Rb BA;clear R hB FIN c6 c7 h6 h7 h8 h9 h6' h7' eC i6 i7 i6' i7' x6 x7;have E2:∀W,(Instr.slice 42 (.slice (some ⟨b0,o0,none⟩) B.length oc) (some (.int .i64 2)) none none).run Tryz.prog W=_:=fun W=>cut_lo16 W (some ⟨b0,o0,none⟩) (n:=B.length) (c:=oc) (k:=2) Zo
   have M2:=Rb.rest16 (k:=2) Zo;obtain⟨a2,ha2⟩:∃a2,a2=(if oc=2 then some (⟨b0,o0,none⟩:Addr)else (some (⟨b0,o0,none⟩:Addr)).map (·.add 2)):=⟨_,rfl⟩;rw[<-ha2]at M2;simp only[<-ha2]at E2;generalize oc-2=c2 at M2 E2;generalize B.length-2=n2 at M2 E2;clear ha2 Rb;have lB2:(B.drop 2).length<=8192:=by rw[List.length_drop];omega
   go_wp2_with fail
   go_loopw [4,7,8] (fun bv ov i wr=>∃(r:Nat) (L:List ObV) (s:List UInt8) (u:Value),r<=C/\i= .int .i64 (r:Int)/\bv=u/\Rd wb u s/\OwnO wr wb.heap.size ov L/\Hid (unO r (B.drop 2)=some (oL L,s))/\Hid (Below wb.heap.size wb wr)/\Hid (∀c∈L,c.o.st.length<=1000000)) (fun _ _ i _=>C-(intOf i).toNat)
   case atStart=>exact⟨0,[],B.drop 2,_,Zz,rfl,rfl,M2,OwnO.nil _ _,rfl,Zf,fun c hc=>by cases hc⟩
   case round=>
    clear M2 E2
    rename_i wo _ _ _ _
    obtain⟨r,L,s,u,hr,rfl,rfl,hu,hO,hU,hB,hS⟩:=hrel;have ls:s.length<=8192:=Nat.le_trans (unO_rest hU.out).1 lB2;have ll:Hid (L.length=r):=by have:=(unO_rest hU.out).2;rwa[oL_length]at this
    obtain⟨la,lc,rfl⟩:=(hO.rd (by have:=ll.out;omega)).form;obtain⟨ua,uc,rfl⟩:=hu.form;have BF:=BA.step16 hB.out BA.size
    by_cases hlt:r<C
    ·have hlt':(r:Int)<(C:Int):=by omega
     have NN:Hid (¬NxO s->∀l,¬IsP [p,q] l):=fun n l k=>by
      have k2:=((IP.out l).1 k).2.1;rw[<-hC.out]at k2;exact un_cut hU.out hlt n k2
     by_cases l4:(s.length:Int)<4
     ·have N:Hid (∀l,¬IsP [p,q] l):=NN.out fun k=>by have:=k.1;omega
      have FIN:Hid (Below w.heap.size w wr):=BF;clear hO hU hS hu hB;exact un_bad
     have KN:=rnumL_any (hu.below hB.out) Zo;have vb:Hid (∀k,(Value.slice la L.length lc).ownBlock=some k->wb.heap.size<=k/\k<wr.heap.size):=Zv hO.row
     go_wp2_with fail
     refine KN.mono ?_
     rintro _ w3 ⟨rfl,B3⟩;clear KN;obtain⟨E0,hE0⟩:∃E0:Nat,Hid (E0=nu s):=⟨_,rfl⟩;have E00:E0<4294967296:=by rw[hE0.out];exact nu_lt _
     rw[<-hE0.out];have E4:∀W,(Instr.slice 42 (.slice ua s.length uc) (some (.int .i64 4)) none none).run Tryz.prog W=_:=fun W=>cut_lo16 W ua (n:=s.length) (c:=uc) (k:=4) Zo
     have M4:=hu.rest16 (k:=4) Zo;obtain⟨a4,ha4⟩:∃a4,a4=(if uc=4 then ua else ua.map (·.add 4)):=⟨_,rfl⟩;rw[<-ha4]at M4;simp only[<-ha4]at E4;generalize uc-4=c4 at M4 E4;generalize s.length-4=n4 at M4 E4;clear ha4;have BB3:=hB.out.step16 B3 hB.out.size;have BF3:=BF.step16 B3 BF.size;have l5:(s.drop 4).length<=100000:=by rw[List.length_drop];omega
     have KX:=rnxt16_any (M4.below BB3) l5;have s3:=B3.size;have HM4:Hid (Rd wb (.slice a4 n4 c4) (s.drop 4)):=M4;have O3:=hO.later B3;clear M4 hO hu hB B3 BF
     go_wp2_with fail
     refine KX.mono ?_
     rintro _ w5 (⟨hn,c,ra,rm,rq,rfl,hc,hj,hf,Rr,B5⟩|⟨hn,k,n,y,va,ra,vn,vc,rm,rq,rfl,B5⟩);rotate_left
     ·have N:Hid (∀l,¬IsP [p,q] l):=NN.out fun k=>hn k.2.1
      have FIN:Hid (Below w.heap.size w (w5.alloc (.cells #[.int .i64 k,.string ⟨y.toArray⟩,.int .i64 n,.slice va vn vc] 38))):=(BF3.step16 B5 BF3.size).step16 (belR _ _) (Nat.le_trans BF3.size B5.size);clear KX hn O3 B5 BF3 BB3 NN hU hS;exact un_bad
     clear KX;obtain⟨⟨kd,ky,ln,st⟩,vs⟩:=c;obtain⟨va,vc,ev⟩:=hj.rs.form;simp only at ev hc;subst ev;rw[show aggR ⟨⟨kd,ky,ln,st⟩,.slice va st.length vc⟩= .agg #[.int .i64 kd,.string ⟨ky.toArray⟩,.int .i64 ln,.slice va st.length vc]from rfl];have HR:Hid (raR (s.drop 4)=⟨kd,ky,ln,st⟩):=hc.symm;have HX:Hid (NxO s↔((E0:Int)<=2147483647/\kd=1)):=by
      show _↔_
      unfold NxO;rw[HR.out,<-hE0.out];exact⟨fun k=>⟨by have:=k.2.2.1;omega,k.2.2.2⟩,fun k=>⟨Zo,hn,Zo,k.2⟩⟩
     have HO:Hid (raO s=⟨ky,ln,(E0:Int),st⟩):=by
      show _=_
      unfold raO;rw[HR.out,<-hE0.out]
     have B6:Below w5.heap.size w5 (w5.alloc (.cells #[.int .i64 kd,.string ⟨ky.toArray⟩,.int .i64 ln,.slice va st.length vc] 38)):=belR _ _;have FIN:Hid (Below w.heap.size w (w5.alloc (.cells #[.int .i64 kd,.string ⟨ky.toArray⟩,.int .i64 ln,.slice va st.length vc] 38))):=(BF3.step16 B5 BF3.size).step16 B6 (Nat.le_trans BF3.size B5.size)
     by_cases ge:(E0:Int)>2147483647
     ·have N:Hid (∀l,¬IsP [p,q] l):=NN.out fun k=>by have:=(HX.out.1 k).1;omega
      clear hn O3 B5 BF3 BB3 NN hU hS hj hf Rr hc B6;exact un_bad
     have d1:decide ((E0:Int)>2147483647)=false:=Zx ge;have d2:decide (2147483647<(E0:Int))=false:=Zx ge
     by_cases gk:kd=1
     rotate_left
     ·have N:Hid (∀l,¬IsP [p,q] l):=NN.out fun k=>gk (HX.out.1 k).2
      clear hn O3 B5 BF3 BB3 NN hU hS hj hf Rr hc B6;exact un_bad
     subst gk;have hx:NxO s:=HX.out.2 ⟨Zo,rfl⟩;have HU2:Hid (unO (r+1) (B.drop 2)=some (oL (L++[⟨⟨ky,ln,(E0:Int),st⟩,.slice va st.length vc⟩]),reR (s.drop 4))):=by
      show _=_
      rw[unO_snoc hU.out,if_pos hx,HO.out]
      show some (oL L++[_],reR (s.drop 4))=some ((L++[_]).map ObV.o,reR (s.drop 4))
      rw[List.map_append];rfl
     have HS2:Hid (∀d∈L++[(⟨⟨ky,ln,(E0:Int),st⟩,.slice va st.length vc⟩:ObV)],d.o.st.length<=1000000):=fun d hd=>by
      rcases List.mem_append.1 hd with hd|hd
      ·exact hS.out d hd
      ·simp only[List.mem_singleton]at hd;subst hd;have h1:=raO_stU s;rw[HO.out]at h1
       show st.length<=_
       exact Nat.le_trans (Nat.le_of_lt h1) Zd
     obtain⟨w6,hw6⟩:∃w6,w6=w5.alloc (.cells #[.int .i64 1,.string ⟨ky.toArray⟩,.int .i64 ln,.slice va st.length vc] 38):=⟨_,rfl⟩;rw[<-hw6]at B6 FIN;have O6:=O3.later (B5.step16 B6 B5.size);have HA:∀k,(Value.slice va st.length vc).ownBlock=some k->wb.heap.size<=k/\k<w6.heap.size/\(Value.slice la L.length lc).ownBlock≠some k:=fun k hk=>⟨by have:=(hf k hk).1;have:=BB3.size;omega,Zu (hf k hk).2 B6.size,fun e=>by have:=(hf k hk).1;have:=(vb.out k e).2;omega⟩
     have hj6:=hj.below B6;have OK6:ObOk w6 ⟨⟨ky,ln,(E0:Int),st⟩,.slice va st.length vc⟩:=⟨hj6.wl,wf64 (by show _<=(E0:Int);omega) (by show(E0:Int)<=_;omega),hj6.ky,hj6.rs,hj6.wi⟩;have s6:wb.heap.size<=w6.heap.size:=Nat.le_trans BB3.size (Nat.le_trans B5.size B6.size);have BB6:Below wb.heap.size wb w6:=(BB3.step16 B5 BB3.size).step16 B6 (Nat.le_trans BB3.size B5.size);have RN:Hid (Rd wb (.slice ra rm rq) (reR (s.drop 4))):=Rr wb HM4.out;have lo:=(Zv O6.row);clear hn O3 B5 BF3 BB3 NN hU hS hj hf Rr hc B6 hj6 HX HO HR FIN;have sz6:w6.heap.size=w5.heap.size+1:=by rw[hw6];simp
     obtain⟨q1,q2⟩:=two_wrap (n:=(E0:Int)) Zo Zo
     go_wp2_with (at_builtin;(refine wpList_append_o (w:=w6) (c:=⟨⟨ky,ln,(E0:Int),st⟩,.slice va st.length vc⟩) rfl (.tmp 97) (.tmp 107) rfl rfl rfl O6 OK6 HA rfl (by rw[hw6];rfl) (by rw[sz6]) (by have:=ll.out;omega) s6 ?_);intro v7 w7 o7 G7;have B7:=BB6.grown G7.gr BB6.size (fun q hq=>(lo q hq).1);clear G7 O6 OK6 HA BB6 lo)
     clear q1 q2;have B8:Hid (Below wb.heap.size wb w7):=B7;go_roundw
     case rel=>exact⟨r+1,_,_,_,Zo,Zg,rfl,RN.out,o7,HU2,B8,HS2⟩
     case measure=>simp[intOf];omega
    ·obtain rfl:r=C:=by omega
     have hge:¬(r:Int)<(r:Int):=Zo
     have RO:=hO.far (N:=w.heap.size) (by have:=ll.out;omega) BA.size;have K:=rmay16_any RO.1 (fun i hi=>hS.out _ (by rw[List.getD_eq_getElem?_getD,List.getElem?_eq_getElem hi];exact List.getElem_mem hi));have HU:Hid (unO (un B) (B.drop 2)=some (oL L,s)):=by rw[<-hC.out];exact hU
     clear hU hO hu
     go_wp2_with fail
     refine K.mono ?_
     rintro _ w3 ⟨x,rfl,hx,B3⟩;have HX:Hid (x=true↔MayL (oL L)):=hx;clear K hx;have FIN:Hid (Below w.heap.size w w3):=BF.step16 B3 BF.size;have LE:Hid (∀l,IsP [p,q] l->l=oL L/\s=[]):=fun l k=>by
      have h1:=((IP.out l).1 k).2.1;rw[HU.out]at h1;simp only[Option.some.injEq,Prod.mk.injEq]at h1;exact⟨h1.1.symm,h1.2⟩
     cases x with
     |false=>
      have N:Hid (∀l,¬IsP [p,q] l):=fun l k=>by
       have h1:=((IP.out l).1 k).2.2;rw[(LE.out l k).1]at h1;have:=HX.out.2 h1;cases this
      clear RO B3 BF;exact un_bad
     |true=>
      by_cases h0:(s.length:Int)>0
      ·have N:Hid (∀l,¬IsP [p,q] l):=fun l k=>by
        have h1:=(LE.out l k).2;rw[h1]at h0;simp at h0
       clear RO B3 BF;exact un_bad
      ·have h00:s=[]:=List.length_eq_zero_iff.1 Zo;have FN:Hid (UnP16F w [p,q] (.returned (.tuple #[.slice la L.length lc,.int .i64 0])) w3):=Or.inl ⟨L,_,(IP.out _).2 ⟨Zo,by rw[HU.out,h00],HX.out.1 rfl⟩,rfl,RO.below B3,FIN.out⟩;clear RO B3 BF h00;go_wp2;exact bodyPost_ret (v:=.tuple #[.slice la L.length lc,.int .i64 0]) (by simp[results,Tryz.results145,go_sem]) rfl FN.out
theorem RdI.onlyD{g:Nat}{w w':World}{v:Value}{zs:List Int}(h:RdI w v zs)(hne:v.ownBlock≠some g)(o:Only g w w'):RdI w' v zs:=by
 rcases h with h|⟨b,off,cap,h1,rfl,h3,h5,h6⟩
 ·exact Or.inl h
 ·have hb:b≠g:=fun e=>hne (by rw[e];rfl)
  exact Or.inr ⟨b,off,cap,h1,rfl,h3,by rw[o.size];exact h5,fun i hi=>(o.cell (p:=⟨b,off+i,none⟩) hb).trans (h6 i hi)⟩
theorem de_fail{p:Prop} (h:p:=by
 obtain⟨W,hW⟩:∃W,W=(((w3.setCell ⟨w.heap.size,0,none⟩ (.int .i64 0)).setCell ⟨w.heap.size,1,none⟩ (.string ⟨#[]⟩)).setCell ⟨w.heap.size,2,none⟩ (.int .i64 0)).setCell ⟨w.heap.size,3,none⟩ (.slice none 0 0):=⟨_,rfl⟩;obtain⟨m0,m1,m2,m3⟩:=And.intro (cA.out 0).1 (And.intro (cA.out 1).1 (And.intro (cA.out 2).1 (cA.out 3).1));obtain⟨f0,f1,f2,f3⟩:=And.intro (cA.out 0).2 (And.intro (cA.out 1).2 (And.intro (cA.out 2).2 (cA.out 3).2));simp at m0 m1 m2 m3;obtain⟨OA,n0,n1,n2,n3⟩:=set4 (a:=.int .i64 0) (b:=.string ⟨#[]⟩) (c:=.int .i64 0) (d:=.slice none 0 0) m0 m1 m2 m3;rw[<-hW]at OA n0 n1 n2 n3;have HX1:=HX.out;have HR1:=HR.out;rw[if_neg nI.out]at HX1 HR1;subst HX1 HR1;have FIN:Hid (MakesD16 w 160 noR (.returned (.tuple #[.agg #[.int .i64 0,.string ⟨#[]⟩,.int .i64 0,.slice none 0 0],.int .i64 160])) W):=⟨⟨noR,.slice none 0 0⟩,rfl,rfl,noR_in _,T3.trans (OA.below Zr),fun k hk=>by cases hk⟩;rw[hw3]at m0 m1 m2 m3 f0 f1 f2 f3 hW;clear OA T3 cA hw3;go_wp2;rw[<-hW];clear hW;exact bodyPost_ret (v:=.tuple #[.agg #[.int .i64 0,.string ⟨#[]⟩,.int .i64 0,.slice none 0 0],.int .i64 160]) (by simp[results,Tryz.results95,go_sem,n0,n1,n2,n3]) rfl FIN.out):p:=h
theorem rdec16_any{w:World}{v:Value}{p:List UInt8}(R:Rd w v p)(hp:p.length<=100000){X:Int}(hX:(if IsR p then (0:Int)else 160)=X){r:RcS}(hr:(if IsR p then raR p else noR)=r):Calls Tryz.prog 95 #[v] w (MakesD16 w X r):=by
 obtain⟨a,cp,e⟩:=R.form;subst e;obtain⟨w1,hw1⟩:∃w1,w1=w.alloc (.cells #[.int .i64 0,.string ⟨#[]⟩,.int .i64 0,.slice none 0 0] 38):=⟨_,rfl⟩;have B1:Below w.heap.size w w1:=by rw[hw1];exact belR _ _
 have s1:w.heap.size<w1.heap.size:=by rw[hw1];show w.heap.size<(w.heap.push _).size;rw[Array.size_push];exact Nat.lt_succ_self _
 have cA1:Hid (∀W,Below w1.heap.size w1 W->∀j,W.cell? ⟨w.heap.size,j,none⟩= #[Value.int .i64 0,.string ⟨#[]⟩,.int .i64 0,.slice none 0 0][j]?/\W.frozen? ⟨w.heap.size,j,none⟩=false):=fun W b j=>⟨(b.cell (p:=⟨w.heap.size,j,none⟩) s1).trans (by rw[hw1,World.cell?_alloc_new]),(b.frozen (p:=⟨w.heap.size,j,none⟩) s1).trans (by rw[hw1];simp[go_sem])⟩
 have HX:Hid ((if IsR p then (0:Int)else 160)=X):=hX;have HR:Hid ((if IsR p then raR p else noR)=r):=hr;have R1:Hid (Rd w1 (.slice a p.length cp) p):=R.below B1;have K:=rnxt16_any R1.out hp;clear hX hr R
 go_enter Tryz.func95,Tryz.ntmps95
 go_wp2_with fail
 rw[<-hw1];clear hw1;refine K.mono ?_
 rintro _ w2 (⟨hn,c,ra,rm,rq,rfl,hc,hi,hf,Rr,B2⟩|⟨hn,k,n,y,va,ra,vn,vc,rm,rq,rfl,B2⟩);rotate_left
 ·obtain⟨w3,hw3⟩:∃w3,w3=w2.alloc (.cells #[.int .i64 k,.string ⟨y.toArray⟩,.int .i64 n,.slice va vn vc] 38):=⟨_,rfl⟩;have B3:Below w1.heap.size w1 w3:=B2.step16 (by rw[hw3];exact belR _ _) B2.size;have T3:=B1.step16 B3 B1.size;have cA:Hid (∀j,w3.cell? ⟨w.heap.size,j,none⟩= #[Value.int .i64 0,.string ⟨#[]⟩,.int .i64 0,.slice none 0 0][j]?/\w3.frozen? ⟨w.heap.size,j,none⟩=false):=cA1.out _ B3;have nI:Hid (¬IsR p):=fun q=>hn q.1
  clear K B2 B3 cA1 hn;exact de_fail
 clear K;obtain⟨⟨kd,ky,ln,st⟩,vs⟩:=c;obtain⟨va,vc,ev⟩:=hi.rs.form;simp only at ev hc;subst ev;rw[show aggR ⟨⟨kd,ky,ln,st⟩,.slice va st.length vc⟩= .agg #[.int .i64 kd,.string ⟨ky.toArray⟩,.int .i64 ln,.slice va st.length vc]from rfl];obtain⟨w3,hw3⟩:∃w3,w3=w2.alloc (.cells #[.int .i64 kd,.string ⟨ky.toArray⟩,.int .i64 ln,.slice va st.length vc] 38):=⟨_,rfl⟩;have b3:Below w2.heap.size w2 w3:=by rw[hw3];exact belR _ _
 have B3:Below w1.heap.size w1 w3:=B2.step16 b3 B2.size;have T3:=B1.step16 B3 B1.size;have cA:Hid (∀j,w3.cell? ⟨w.heap.size,j,none⟩= #[Value.int .i64 0,.string ⟨#[]⟩,.int .i64 0,.slice none 0 0][j]?/\w3.frozen? ⟨w.heap.size,j,none⟩=false):=cA1.out _ B3;have i3:=hi.below b3;have lr:=(rd_cap (Rr _ R1.out)).1;have EN:Hid (IsR p↔rm=0):=⟨fun q=>by rw[lr,q.2];rfl,fun q=>⟨hn,List.length_eq_zero_iff.1 Zo⟩⟩;clear B2 cA1 hi b3 lr Rr
 by_cases h0:(rm:Int)>0
 ·have nI:Hid (¬IsR p):=fun q=>by have:=EN.out.1 q;omega
  clear B3 EN i3 hn hf hc;exact de_fail
 have yI:Hid (IsR p):=EN.out.2 Zo;have HX1:=HX.out;have HR1:=HR.out;rw[if_pos yI.out]at HX1 HR1;subst HX1 HR1;have g0:w3.cell? ⟨w2.heap.size,0,none⟩=some (.int .i64 kd):=by rw[hw3,World.cell?_alloc_new];rfl
 have g1:w3.cell? ⟨w2.heap.size,1,none⟩=some (.string ⟨ky.toArray⟩):=by rw[hw3,World.cell?_alloc_new];rfl
 have g2:w3.cell? ⟨w2.heap.size,2,none⟩=some (.int .i64 ln):=by rw[hw3,World.cell?_alloc_new];rfl
 have g3:w3.cell? ⟨w2.heap.size,3,none⟩=some (.slice va st.length vc):=by rw[hw3,World.cell?_alloc_new];rfl
 obtain⟨m0,m1,m2,m3⟩:=And.intro (cA.out 0).1 (And.intro (cA.out 1).1 (And.intro (cA.out 2).1 (cA.out 3).1));obtain⟨f0,f1,f2,f3⟩:=And.intro (cA.out 0).2 (And.intro (cA.out 1).2 (And.intro (cA.out 2).2 (cA.out 3).2));simp at m0 m1 m2 m3;obtain⟨W,hW⟩:∃W,W=(((w3.setCell ⟨w.heap.size,0,none⟩ (.int .i64 kd)).setCell ⟨w.heap.size,1,none⟩ (.string ⟨ky.toArray⟩)).setCell ⟨w.heap.size,2,none⟩ (.int .i64 ln)).setCell ⟨w.heap.size,3,none⟩ (.slice va st.length vc):=⟨_,rfl⟩;obtain⟨OA,n0,n1,n2,n3⟩:=set4 (a:=.int .i64 kd) (b:=.string ⟨ky.toArray⟩) (c:=.int .i64 ln) (d:=.slice va st.length vc) m0 m1 m2 m3;rw[<-hW]at OA n0 n1 n2 n3;have FIN:Hid (MakesD16 w 0 (raR p) (.returned (.tuple #[.agg #[.int .i64 kd,.string ⟨ky.toArray⟩,.int .i64 ln,.slice va st.length vc],.int .i64 0])) W):=⟨⟨⟨kd,ky,ln,st⟩,.slice va st.length vc⟩,rfl,hc,⟨i3.wk,i3.wl,i3.ky,i3.rs.onlyD (fun e=>by have:=(hf _ e).1;omega) OA,i3.wi⟩,T3.trans (OA.below Zr),fun k hk=>by have:=(hf k hk).1;omega⟩;rw[hw3]at g0 g1 g2 g3 m0 m1 m2 m3 f0 f1 f2 f3 hW;clear OA T3 cA B3 i3 hf hw3;go_wp2;rw[<-hW];clear hW;exact bodyPost_ret (v:=.tuple #[.agg #[.int .i64 kd,.string ⟨ky.toArray⟩,.int .i64 ln,.slice va st.length vc],.int .i64 0]) (by simp[results,Tryz.results95,go_sem,n0,n1,n2,n3]) rfl FIN.out
end Go.Proofs.YtclieefpnbdbjaaGreat.Gf
