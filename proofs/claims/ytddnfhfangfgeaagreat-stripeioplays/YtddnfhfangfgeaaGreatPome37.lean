/- JOINED: StCB, StPa, StPb, StCT. -/
import Derived.Test.YtddnfhfangfgeaaGreatPome36
import Derived.Test.YtddnfhfangfgeaaGreatPome31
import Derived.RangeFuncBox
import Derived.RangeFuncLeaves
import Derived.RangeFuncNested
import Derived.RangeFuncBound
import Derived.RangeFuncCalls
import Derived.Shelf.RegionOpen
import Derived.OwnWalkIn
import Derived.TacticsInMore
import Derived.LoopNIn
import Derived.LoopIn
import Derived.Test.YtddnfhfangfgeaaGreatPome11
set_option maxHeartbeats 4000000
set_option maxRecDepth 100000
namespace Go.Proofs.YtddnfhfangfgeaaGreat.Gf
set_option linter.unusedVariables false
set_option linter.unusedSimpArgs false
open Go.RowKit
theorem pupto_any{w:World}{n:Nat}(hn:n<=1000):Calls Tryz.prog 54 #[.int .i64 (n:Int)] w (MadeRow w 3 n (fun i=>.int .i64 (i:Int))):=by
 have mk1:=run_make_row' (P:=Tryz.prog) 45 3 (.int .i64 0) 8 Tryz.underlying45 info_int13 rfl .i64 .i64 n Zo Zo;obtain⟨u,hu⟩:∃u,u=w.alloc (Obj.cells (madeCells #[Value.int .i64 0] n) 3):=⟨_,rfl⟩;have hub:Below w.heap.size w u:=by rw[hu];exact belA _ _
 have hur:u.rowIs w.heap.size 3 n (fun _=>.int .i64 0):=by rw[hu];exact World.rowIs_made _ _ _ _
 have mk2:=mk1 w;obtain⟨g,hg⟩:∃g,Hid (g=w.heap.size):=⟨_,rfl⟩;rw[<-hu,<-hg.out]at mk2;rw[<-hg.out]at hur;clear mk1 hu
 go_enter Tryz.func54,Tryz.ntmps54
 go_wp2;have START:Hid (u.rowIs g 3 n (fun j=>if j<0 then .int .i64 (j:Int)else .int .i64 0)/\Below w.heap.size w u):=⟨hur,hub⟩;clear mk2 hub hur
 go_loopw [9] (fun i wr=>∃k:Nat,k<=n/\i= .int .i64 (k:Int)/\wr.rowIs g 3 n (fun j=>if j<k then .int .i64 (j:Int)else .int .i64 0)/\Below w.heap.size w wr) (fun i _=>n-(intOf i).toNat)
 case atStart=>exact⟨0,Nat.zero_le _,rfl,START.out⟩
 case round=>
  clear START;obtain⟨k,hk,rfl,hr,hb⟩:=hrel
  by_cases hlt:k<n
  ·have hlt':(k:Int)<(n:Int):=by omega
   have g1:IntKind.i64.wrap ((k:Int)+1)=((k+1:Nat):Int):=Zw
   have cq:=hr.cell hlt;have fq:=hr.frozen k;have E2:Hid ((wr.setCell ⟨g,k,none⟩ (.int .i64 (k:Int))).rowIs g 3 n (fun j=>if j<k+1 then .int .i64 (j:Int)else .int .i64 0)/\Below w.heap.size w (wr.setCell ⟨g,k,none⟩ (.int .i64 (k:Int)))):=by
    refine⟨(hr.set k (.int .i64 (k:Int))).congr fun j hj=>?_,hb.setCell (by rw[hg.out];exact Nat.le_refl _) _⟩
    by_cases e:j=k
    ·rw[if_pos e,if_pos Zo,e]
    ·rw[if_neg e]
     by_cases e2:j<k
     ·rw[if_pos e2,if_pos Zo]
     ·rw[if_neg e2,if_neg Zo]
   clear hr hb;go_wp2;go_roundw
   case rel=>exact⟨k+1,Zo,Zg,E2.out⟩
   case measure=>simp[intOf];omega
  ·have hlt':¬(k:Int)<(n:Int):=by omega
   have hkn:Hid (k=n):=by show k=n;omega
   have FIN:Hid (wr.rowIs g 3 n (fun j=>.int .i64 (j:Int))/\w.heap.size<=g/\Below w.heap.size w wr):=⟨hr.congr fun j hj=>if_pos (by have:=hkn.out;omega),by rw[hg.out];exact Nat.le_refl _,hb⟩;clear hr hb;go_wp2;go_ret;exact⟨g,rfl,FIN.out⟩
def MakesP15(w:World)(L:List UInt8)(b:Bool)(e:Ending)(w':World):Prop:=∃v,e= .returned (.tuple #[v,.bool b])/\Rd w' v L/\FarV w v/\Below w.heap.size w w'
section
variable {w:World} {pa pf:Option Addr} {g:GeoS} {st ep:Int}
theorem punpack_any(hg:g.Wf)(hst:(Lit.int .i64 st).wf=true){v:Value}{p:List UInt8}(hp:Rd w v p)(hl:p.length<=100000){F:Bool}{L:List UInt8}
  (hF:decide (upX (stG g st) p=0/\((upN (stG g st) p:Nat):Int)=ep/\(((upD (stG g st) p).length:Nat):Int)=g.z)=F) (hL:(if F=true then upD (stG g st) p else [])=L):
  Calls Tryz.prog 132 #[aggP pa pf g st ep,v] w (MakesP15 w L F):=by
 obtain⟨at_,t0⟩:∃x,Hid (x=stG g st):=⟨_,rfl⟩;rw[<-t0.out]at hF hL;have KP:=fun W=>@pplace_any W pa pf g st ep hg hst _ t0.out.symm
 have KU:=fun W (hr:Rd W v p)=>sunpack_far (a:=at_) hr hl
 obtain⟨X,hX⟩:∃X,Hid (X=upX at_ p):=⟨_,rfl⟩;obtain⟨N,hN⟩:∃N,Hid (N=upN at_ p):=⟨_,rfl⟩;obtain⟨D,hD⟩:∃D,Hid (D=upD at_ p):=⟨_,rfl⟩;rw[<-hX.out,<-hN.out,<-hD.out]at hF KU;rw[<-hD.out]at hL;clear t0 hX hN hD;obtain⟨k,m,z,s,t,o⟩:=g;simp only at hF;have LA:=spot_laid w pa pf ⟨k,m,z,s,t,o⟩ st ep 103;unfold aggP at KP ⊢;simp only[cellsP]at KP LA ⊢;have F0:=(LA _ (Below.refl _ _)).2;obtain⟨x0,x1,x2,x3,x4,x5,x6,x7,x8,x9⟩:=(LA _ (Below.refl _ _)).1.all;simp only at x0 x1 x2 x3 x4 x5 x6 x7 x8 x9;obtain⟨va,vc,rfl⟩:=hp.form
 by_cases h1:X=0
 rotate_left
 ·rw[decide_eq_false (fun q=>h1 q.1)]at hF;subst hF;rw[if_neg Zd]at hL;subst hL
  go_enter Tryz.func132,Tryz.ntmps132
  go_wp2_with fail
  refine(KP _).mono ?_
  rintro _ w1 ⟨rfl,B1⟩;obtain⟨S1,F1⟩:=LA _ B1;clear x0 x1 x2 x3 x4 x5 x6 x7 x8 x9;obtain⟨x0,x1,x2,x3,x4,x5,x6,x7,x8,x9⟩:=S1.all;simp only at x0 x1 x2 x3 x4 x5 x6 x7 x8 x9
  go_wp2_with fail
  refine(KU _ (hp.below F1)).mono ?_
  rintro _ w2 ⟨vd,rfl,R2,V2,B2⟩;have FB:Hid (Below w.heap.size w w2):=F1.stepL B2 F1.size;obtain⟨da,dc,rfl⟩:=R2.form;clear x0 x1 x2 x3 x4 x5 x6 x7 x8 x9 S1 F1 B1 B2 R2 V2 LA KP KU F0;go_wp2;refine bodyPost_ret (v:=.tuple #[.slice none 0 0,.bool false]) (by simp[results,Tryz.results132,go_sem]) rfl ?_
  exact⟨_,rfl,rd_nil0,FarV.nil _ _ _,FB.out⟩
 subst h1
 by_cases h2:(N:Int)=ep
 rotate_left
 ·rw[decide_eq_false (fun q=>h2 q.2.1)]at hF;subst hF;rw[if_neg Zd]at hL;subst hL;have h2':((N:Int)!=ep)=true:=by simp[h2]
  go_enter Tryz.func132,Tryz.ntmps132
  go_wp2_with fail
  refine(KP _).mono ?_
  rintro _ w1 ⟨rfl,B1⟩;obtain⟨S1,F1⟩:=LA _ B1;clear x0 x1 x2 x3 x4 x5 x6 x7 x8 x9;obtain⟨x0,x1,x2,x3,x4,x5,x6,x7,x8,x9⟩:=S1.all;simp only at x0 x1 x2 x3 x4 x5 x6 x7 x8 x9
  go_wp2_with fail
  refine(KU _ (hp.below F1)).mono ?_
  rintro _ w2 ⟨vd,rfl,R2,V2,B2⟩;have FB:Hid (Below w.heap.size w w2):=F1.stepL B2 F1.size;obtain⟨da,dc,rfl⟩:=R2.form;have S2:=(LA _ (B1.stepL B2 B1.size)).1;clear x0 x1 x2 x3 x4 x5 x6 x7 x8 x9 S1 F1 B1 B2 R2 V2 LA KP KU F0;obtain⟨x0,x1,x2,x3,x4,x5,x6,x7,x8,x9⟩:=S2.all;simp only at x0 x1 x2 x3 x4 x5 x6 x7 x8 x9;go_wp2;refine bodyPost_ret (v:=.tuple #[.slice none 0 0,.bool false]) (by simp[results,Tryz.results132,go_sem]) rfl ?_
  exact⟨_,rfl,rd_nil0,FarV.nil _ _ _,FB.out⟩
 subst h2
 by_cases h3:(D.length:Int)=z
 rotate_left
 ·rw[decide_eq_false (fun q=>h3 q.2.2)]at hF;subst hF;rw[if_neg Zd]at hL;subst hL;have h3':((D.length:Int)!=z)=true:=by simp[h3]
  go_enter Tryz.func132,Tryz.ntmps132
  go_wp2_with fail
  refine(KP _).mono ?_
  rintro _ w1 ⟨rfl,B1⟩;obtain⟨S1,F1⟩:=LA _ B1;clear x0 x1 x2 x3 x4 x5 x6 x7 x8 x9;obtain⟨x0,x1,x2,x3,x4,x5,x6,x7,x8,x9⟩:=S1.all;simp only at x0 x1 x2 x3 x4 x5 x6 x7 x8 x9
  go_wp2_with fail
  refine(KU _ (hp.below F1)).mono ?_
  rintro _ w2 ⟨vd,rfl,R2,V2,B2⟩;have FB:Hid (Below w.heap.size w w2):=F1.stepL B2 F1.size;obtain⟨da,dc,rfl⟩:=R2.form;have S2:=(LA _ (B1.stepL B2 B1.size)).1;clear x0 x1 x2 x3 x4 x5 x6 x7 x8 x9 S1 F1 B1 B2 R2 V2 LA KP KU F0;obtain⟨x0,x1,x2,x3,x4,x5,x6,x7,x8,x9⟩:=S2.all;simp only at x0 x1 x2 x3 x4 x5 x6 x7 x8 x9;go_wp2;refine bodyPost_ret (v:=.tuple #[.slice none 0 0,.bool false]) (by simp[results,Tryz.results132,go_sem]) rfl ?_
  exact⟨_,rfl,rd_nil0,FarV.nil _ _ _,FB.out⟩
 rw[decide_eq_true ⟨rfl,rfl,h3⟩]at hF;subst hF;rw[if_pos rfl]at hL;subst hL;have h3':((D.length:Int)!=z)=false:=by simp[h3]
 subst h3
 go_enter Tryz.func132,Tryz.ntmps132
 go_wp2_with fail
 refine(KP _).mono ?_
 rintro _ w1 ⟨rfl,B1⟩;obtain⟨S1,F1⟩:=LA _ B1;clear x0 x1 x2 x3 x4 x5 x6 x7 x8 x9;obtain⟨x0,x1,x2,x3,x4,x5,x6,x7,x8,x9⟩:=S1.all;simp only at x0 x1 x2 x3 x4 x5 x6 x7 x8 x9
 go_wp2_with fail
 refine(KU _ (hp.below F1)).mono ?_
 rintro _ w2 ⟨vd,rfl,R2,V2,B2⟩;have FB:Hid (Below w.heap.size w w2):=F1.stepL B2 F1.size;have FV:Hid (FarV w vd):=fun x n c e=>(V2 x n c e).imp id fun q=>Nat.le_trans F1.size q
 obtain⟨da,dc,rfl⟩:=R2.form;have HR:Hid _:=R2;have S2:=(LA _ (B1.stepL B2 B1.size)).1;clear x0 x1 x2 x3 x4 x5 x6 x7 x8 x9 S1 F1 B1 B2 R2 V2 LA KP KU F0;obtain⟨x0,x1,x2,x3,x4,x5,x6,x7,x8,x9⟩:=S2.all;simp only at x0 x1 x2 x3 x4 x5 x6 x7 x8 x9;go_wp2;refine bodyPost_ret (v:=.tuple #[.slice da D.length dc,.bool true]) (by simp[results,Tryz.results132,go_sem]) rfl ?_
 exact⟨_,rfl,HR.out,FV.out,FB.out⟩
end
end Go.Proofs.YtddnfhfangfgeaaGreat.Gf
namespace Go.Proofs.YtddnfhfangfgeaaGreat.Gf
set_option linter.unusedVariables false
set_option linter.unusedSimpArgs false
open Go.RowKit Go.Shelf
attribute [local go_sem] Oper.semAt_some
def ptV(b off z cap j:Nat):Value:=.slice (some ⟨b,off+j*z,none⟩) z (cap-j*z)
def uptoF{K:Nat}(k:Nat)(h:k<=K):List (Fin K):=(List.range k).attach.map fun j=>⟨j.1,Nat.lt_of_lt_of_le (List.mem_range.1 j.2) h⟩
theorem uptoF_length{K k:Nat}(h:k<=K):(uptoF k h).length=k:=by simp[uptoF]
theorem uptoF_val{K k:Nat}(h:k<=K):(uptoF k h).map (·.1)=List.range k:=by
 unfold uptoF;rw[List.map_map];exact List.attach_map_subtype_val _
theorem uptoF_succ{K k:Nat}(h:k+1<=K):uptoF (k+1) h=uptoF k Zo++[⟨k,h⟩]:=by
 have inj:∀x y:Fin K,x.1=y.1->x=y:=fun a b e=>Fin.ext e
 refine(List.map_inj_right inj).1 ?_
 rw[List.map_append];have e1:=uptoF_val h;have e2:=uptoF_val (K:=K) (k:=k) Zo;rw[e1,e2,List.range_succ];rfl
def KpT(Bd Bs:Nat)(W W':World):Prop:=W'.cell? ⟨Bd,0,none⟩=W.cell? ⟨Bd,0,none⟩/\W'.cell? ⟨Bs,0,none⟩=W.cell? ⟨Bs,0,none⟩
theorem KpT.refl(Bd Bs:Nat)(W:World):KpT Bd Bs W W:=⟨rfl,rfl⟩
theorem KpT.trans{Bd Bs:Nat}{A B C:World}(h:KpT Bd Bs A B)(k:KpT Bd Bs B C):KpT Bd Bs A C:=⟨k.1.trans h.1,k.2.trans h.2⟩
theorem cell_put{W:World}{l b j:Nat}{o':Obj}(h:b≠l):(W.putObj l o').cell? ⟨b,j,none⟩=W.cell? ⟨b,j,none⟩:=World.cell?_of_block (w:=W) (World.putObj_heap_other h)
theorem parts1_in(F:Fence)(n:Nat)(h1:F.fn 128)(hro:F.round=none)(hn:1<=n)(l Bd Bs b off z K cap N:Nat)(hz:1<=z)(hN:Hid (N=K*z))(hc:N<=cap)(hsm:N<=1000000)(J Jx:List (Fin K)->World->Prop)
  (hY:∀pre x W,J pre W->pre.length<K->YieldAt F (n-1) Tryz.prog l #[ptV b off z cap x.1] W fun e W'=>
   (e= .returned (.bool true)/\J (pre++[x]) W'/\KpT Bd Bs W W')∨(e= .returned (.bool false)/\Jx (pre++[x]) W'))
  (W:World) (cD:W.cell? ⟨Bd,0,none⟩=some (.slice (some ⟨b,off,none⟩) N cap)) (cS:W.cell? ⟨Bs,0,none⟩=some (.int .i64 (z:Int))) (h0:J [] W):
  CallsIn F n Tryz.prog 128 #[.func (.yield l) #[] #[],.pointer (some ⟨Bd,0,none⟩),.pointer (some ⟨Bs,0,none⟩)] W fun e W'=>(∃v,e= .returned v)/\
   ((∃ys,ys=uptoF K (Nat.le_refl _)/\J ys W')∨(∃pre,True/\Jx pre W')):=by
 refine callsIn_of_wp Tryz.func128 rfl h1 ?_ hro
 simp only[Tryz.ntmps128,List.size_toArray,List.length_cons,List.length_nil,Nat.reduceAdd,Nat.reduceSub,Array.replicate_succ,Array.replicate_zero,List.push_toArray,List.append_toArray,List.nil_append,List.cons_append];have KpR:Hid (∀wr,KpT Bd Bs W wr->wr.cell? ⟨Bd,0,none⟩=some (.slice (some ⟨b,off,none⟩) N cap)/\wr.cell? ⟨Bs,0,none⟩=some (.int .i64 (z:Int))):=fun wr h=>⟨h.1.trans cD,h.2.trans cS⟩
 gi_wp2
 gi_loopw [4] (fun i wr=>∃(k:Nat) (h:k<=K),i= .int .i64 ((k*z:Nat):Int)/\J (uptoF k h) wr/\KpT Bd Bs W wr) (fun i _=>N-(intOf i).toNat)
 case atStart=>exact⟨0,Nat.zero_le _,Zs,h0,KpT.refl _ _ _⟩
 case round=>
  obtain⟨k,hk,rfl,hJs,hKp⟩:=hrel;obtain⟨cd,cs⟩:=KpR.out wr hKp;obtain⟨lo,hlo⟩:∃lo,Hid (lo=k*z):=⟨_,rfl⟩;rw[<-hlo.out]
  by_cases hlt:k<K
  ·obtain⟨hi,hhi⟩:∃hi,Hid (hi=(k+1)*z):=⟨_,rfl⟩;have e1:Hid (lo+z=hi):=by show _=_;rw[hlo.out,hhi.out,Nat.add_mul,Nat.one_mul]
   have e2:hi<=N:=by rw[hhi.out,hN.out];exact Nat.mul_le_mul_right _ hlt
   obtain⟨fn,tmps,assign,body,hy,hR⟩:=hY _ ⟨k,hlt⟩ wr hJs (by rw[uptoF_length];exact hlt);have ep:ptV b off z cap k= .slice (some ⟨b,off+lo,none⟩) z (cap-lo):=by unfold ptV;rw[<-hlo.out]
   dsimp only at hy;rw[ep]at hy;have e3:=e1.out;have g0:(lo:Int)<(N:Int):=Zo
   have g1:IntKind.i64.wrap ((lo:Int)+(z:Int))=(hi:Int):=Zw
   have g2:(lo:Int)<=(hi:Int):=Zo
   have g3:lo<=hi:=Zo
   have g4:hi<=cap:=Zo
   have g5:(hi:Int)<=(cap:Int):=Zo
   have g6:lo<cap:=Zo
   have g7:¬cap=lo:=Zo
   have g8:hi-lo=z:=Zo
   clear e3
   gi_wp2
   refine hR.mono ?_
   rintro e W3 (⟨rfl,hJ3,hk3⟩|⟨rfl,hJx3⟩)
   ·obtain⟨cd3,cs3⟩:=KpR.out W3 (hKp.trans hk3);have HK3:Hid (KpT Bd Bs W W3):=hKp.trans hk3;have HJ3:Hid (J (uptoF (k+1) hlt) W3):=by show J _ _;rw[uptoF_succ];exact hJ3
    have e3:=e1.out;clear hy hR hJs hKp hJ3 hk3 cd cs ep
    gi_wp2
    go_roundw
    case rel=>exact⟨k+1,hlt,by rw[<-hhi.out],HJ3.out,HK3.out⟩
    case measure=>simp[intOf];omega
   ·clear hy hR hJs hKp cd cs ep
    gi_wp2
    refine bodyPost_ret (results_none rfl _ _ _) rfl ?_
    exact⟨⟨_,rfl⟩,.inr ⟨_,trivial,hJx3⟩⟩
  ·obtain rfl:k=K:=by omega
   have e4:lo=N:=by rw[hlo.out,hN.out]
   subst e4;have g0:¬(lo:Int)<(lo:Int):=Zo
   gi_wp2
   go_end0
   exact⟨⟨_,rfl⟩,.inl (by first|exact hJs|exact⟨_,rfl,hJs⟩)⟩
theorem parts_in(F:Fence)(n:Nat)(h1:F.fn 88)(hro:F.round=none)(a:Option Addr)(len cap:Nat)(z:Int)(w:World):
  CallsIn F n Tryz.prog 88 #[.slice a len cap,.int .i64 z] w fun e w'=>e= .returned (.func (.func 128) #[] #[.pointer (some ⟨w.heap.size,0,none⟩),.pointer (some ⟨w.heap.size+1,0,none⟩)])/\w'=(w.alloc (.cells #[.slice a len cap] 36)).alloc (.cells #[.int .i64 z] 3):=by
 refine callsIn_of_wp Tryz.func88 rfl h1 ?_ hro
 simp only[Tryz.ntmps88,List.size_toArray,List.length_cons,List.length_nil,Nat.reduceAdd,Nat.reduceSub,Array.replicate_succ,Array.replicate_zero,List.push_toArray,List.append_toArray,List.nil_append,List.cons_append]
 gi_wp2
 go_ret;exact⟨rfl,rfl⟩
theorem parts_stops(F:Fence)(n:Nat)(h1:F.fn 128)(hro:F.round=none)(hn:1<=n)(Bd Bs b off z K cap N:Nat)(hz:1<=z)(hN:Hid (N=K*z))(hc:N<=cap)(hsm:N<=1000000)(w:World)(hBd:Bd<w.heap.size)(hBs:Bs<w.heap.size)
  (cD:w.cell? ⟨Bd,0,none⟩=some (.slice (some ⟨b,off,none⟩) N cap)) (cS:w.cell? ⟨Bs,0,none⟩=some (.int .i64 (z:Int))):
  SeqStopsK F n Tryz.prog 128 #[.pointer (some ⟨Bd,0,none⟩),.pointer (some ⟨Bs,0,none⟩)] (fun x:Fin K=>#[ptV b off z cap x.1]) (KpT Bd Bs) (fun ys=>ys=uptoF K (Nat.le_refl _)) (fun _=>True) K w:=fun l J Jx W hW _ _ hY h0=>
 parts1_in F n h1 hro hn l Bd Bs b off z K cap N hz hN hc hsm J Jx hY W ((hW.cell (p:=⟨Bd,0,none⟩) hBd).trans cD) ((hW.cell (p:=⟨Bs,0,none⟩) hBs).trans cS) h0
theorem ownFrom_turn{β:Type}{B:Nat}{G:Nat->Prop}{w0:World}(hB:w0.heap.size<=B):OwnFrom B (fun (_:β) W=>TurnG G w0 W):=fun _ W W' row hs hg hr=>
 ⟨hg.os.trans hs.os,hg.tape.trans hs.tape,hg.output.trans hs.output,Nat.le_trans hs.size hg.size,fun k hk hGk=>(hg.block k (Nat.lt_of_lt_of_le hk hs.size) (fun e=>by have:=(hr k e.symm).1;omega)).trans (hs.block k hk hGk)⟩
theorem FarL.putObj{w:World}{base:Nat}{v:Value}{L:List (List UInt8)}(h:FarL w base v L){l:Nat}{o:Obj}(o':Obj)(hl:w.heap[l]? =some o)(ho:o.isCells=false):FarL (w.putObj l o') base v L:=by
 obtain⟨T,u,vals,hv,hr⟩:=h;exact⟨T,u,vals,ownsRow_putObj hv o' hl ho,⟨fun i x hx=>ownsRow_putObj (hr.own i x hx) o' hl ho,hr.diff,hr.out⟩⟩
theorem part_rd{w:World}{b off cap:Nat}{D:List UInt8}(h:Rd w (.slice (some ⟨b,off,none⟩) D.length cap) D){z K j:Nat}(hz:1<=z)(hl:D.length=K*z)(hj:j<K):Rd w (ptV b off z cap j) ((D.drop (j*z)).take z):=by
 have h1:(j+1)*z<=K*z:=Nat.mul_le_mul_right _ hj;rw[Nat.add_mul,Nat.one_mul]at h1
 rcases h with⟨a,c0,e,_⟩|⟨b',off',c0,h1',h2,h3,h4,h5,h6⟩
 ·rw[e]at hl;simp at hl;omega
 ·simp at h2;obtain⟨⟨rfl,rfl⟩,rfl⟩:=h2;have hll:((D.drop (j*z)).take z).length=z:=by rw[List.length_take,List.length_drop];omega
  refine Or.inr ⟨b,off+j*z,cap-j*z,fun e=>by rw[e]at hll;simp at hll;omega,by unfold ptV;rw[hll],by rw[hll];omega,Zo,h5,fun i hi=>?_⟩;rw[hll]at hi;rw[co_take hi,co_drop0,Nat.add_assoc];exact h6 (j*z+i) Zo
theorem parts_rs{w:World}{base T:Nat}{v:Value}{b off cap z K:Nat}{D:List UInt8}(hrow:w.ownsRow base T 1 v K ((List.range K).map (ptV b off z cap)))(hK:1<=K)(hr:∀j,j<K->Rd w (ptV b off z cap j) ((D.drop (j*z)).take z)):Rs w v (mkL K (fun j=>(D.drop (j*z)).take z)):=by
 have hl:(mkL K (fun j=>(D.drop (j*z)).take z)).length=K:=mkL_length _ _;have hv':=hrow;obtain⟨_,⟨e,hn⟩|⟨g,cap',cur,e,hg,hh,hc,hm,hs,ht⟩⟩:=hrow
 ·omega
 ·subst e;refine⟨some ⟨g,0,none⟩,cap',by rw[hl],by rw[hl];exact hc,hm,nofun,fun i hi=>?_⟩;rw[hl]at hi;refine⟨g,0,ptV b off z cap i,rfl,(Array.getElem?_eq_some_iff.1 hh).1,?_,by rw[ro_mkL hi];exact hr i hi⟩;rw[Nat.zero_add,World.ownsRow.cellAt hv' i Zo];simp[hi]
attribute [local go_sem] Oper.semAt_some
theorem info_bytes15c:(Tryz.prog.info? 36).map (fun i=>(i.zero,i.size,i.bytes))=some (some (.slice none 0 0),1,24):=Zk
theorem own_step{W1 W w1:World}{Bo:Nat}{t e:TypeId}{v v':Value}{k m:Nat}{xs ys:List Value}{tmp:Obj}(hT:TurnG (fun k=>k=Bo) W1 W)(hBo:Bo<W1.heap.size)(hte:t≠e)(hv:Boxed W Bo t v)(hrow:W.ownsRow W1.heap.size e 1 v k xs)(hown':w1.ownsRow W1.heap.size e 1 v' m ys)(hgrow:(W.alloc tmp).grownBy w1 v.ownBlock):
  Boxed w1 Bo t v/\Boxed (w1.setCell ⟨Bo,0,none⟩ v') Bo t v'/\(w1.setCell ⟨Bo,0,none⟩ v').ownsRow W1.heap.size e 1 v' m ys/\KeepsOthers W (w1.setCell ⟨Bo,0,none⟩ v')/\TurnG (fun k=>k=Bo) W1 (w1.setCell ⟨Bo,0,none⟩ v')/\∀j,j<W1.heap.size->j≠Bo->(w1.setCell ⟨Bo,0,none⟩ v').heap[j]? =W.heap[j]? :=by
 have hsz:=hT.size;obtain⟨q1,q2,q3,q4,q5⟩:=hv.appended hte (ownsRow_base hrow (Nat.le_of_lt hBo)) Zo (Nat.le_refl _) (ownsRow_base hown' (Nat.le_of_lt hBo)) hgrow;have keep:∀j,j<W1.heap.size->j≠Bo->(w1.setCell ⟨Bo,0,none⟩ v').heap[j]? =W.heap[j]? :=fun j hj hne=>by
  rw[Below.heap_setCell w1 ⟨Bo,0,none⟩ v' j hne,hgrow.block j Zm (fun e=>by have:=(World.ownsRow.lt hrow j e.symm).1;omega)];exact((Below.refl W.heap.size W).alloc (Nat.le_refl _) tmp).block j Zo
 refine⟨q1,q2,hown'.kept (grownBy_setCell' w1 Bo v') (.inr (q1.not_row hte hown').symm),q4,⟨q5.os.trans hT.os,q5.tape.trans hT.tape,q5.output.trans hT.output,Nat.le_trans hsz q5.size,fun j hj hne=>(keep j hj hne).trans (hT.block j hj hne)⟩,keep⟩
theorem pshof_any{w:World}{pa:Option Addr}{fb:Nat}(hF:FieldAt w fb){g:GeoS}(hok:okG g)(hz:g.z<=300){st ep:Int}{v:Value}{D:List UInt8}(hp:Rd w v D)(hD:LenT g D):
  Calls Tryz.prog 53 #[aggP pa (some ⟨fb,0,none⟩) g st ep,v] w fun e w'=>∃v',e= .returned v'/\FarL w' w.heap.size v' (shT g D)/\Below w.heap.size w w':=by
 have zz:=okG_nat hok;have hln:=hD.nat hok;have hev:=parT_even hD hok;have hfs:=parT_first hD hok;have hrw:=fun i (hi:i<g.k.toNat)=>parT_row hD hok hi
 obtain⟨i0,hi,hz0,hz1,hz2⟩:=info_parts info_bytes15c;obtain⟨K,hK⟩:∃K,Hid (K=g.k.toNat):=⟨_,rfl⟩;obtain⟨z0,hz9⟩:∃z0,Hid (z0=g.z.toNat):=⟨_,rfl⟩;obtain⟨N,hN⟩:∃N,Hid (N=D.length):=⟨_,rfl⟩;have hNK:Hid (N=K*z0):=by show _=_;rw[hN.out,hK.out,hz9.out];exact hln
 have bK:1<=K/\K<=32:=by rw[hK.out];have:=zz.2.2.2.2.1;unfold nT at this;omega
 have bz:1<=z0/\z0<=300:=by rw[hz9.out];omega
 have bN:1<=N/\N<=1000000:=by
  have h1:1*1<=K*z0:=Nat.mul_le_mul bK.1 bz.1;have h2:K*z0<=32*300:=Nat.mul_le_mul bK.2 bz.2;have:=hNK.out;omega
 obtain⟨b,off,cap,rfl,hcap⟩:∃b off cap,v= .slice (some ⟨b,off,none⟩) N cap/\N<=cap:=by
  rcases hp with⟨a,c,e,_⟩|⟨b,off,cap,_,e,h3,_⟩
  ·have:=hN.out;rw[e]at this;simp at this;omega
  ·rw[hN.out];exact⟨b,off,cap,e,h3⟩
 have HP:Hid (Rd w (.slice (some ⟨b,off,none⟩) D.length cap) D):=by show Rd _ _ _;rw[<-hN.out];exact hp
 have PR:Hid (∀W,(∀j,j<K->Rd W (ptV b off z0 cap j) ((D.drop (j*z0)).take z0))->FieldAt W fb->∀vv,(∃base,W.ownsRow base 36 1 vv K ((List.range K).map (ptV b off z0 cap)))->Calls Tryz.prog 89 #[.pointer (some ⟨fb,0,none⟩),.int .i64 g.k,.int .i64 g.m,vv] W (MakesFar W 0 (shT g D))):=fun W hr hf vv ⟨base,ho⟩=>by
  have hrs:=parts_rs ho bK.1 hr;rw[hK.out,hz9.out]at hrs;have:=enc_far (k:=g.k.toNat) (m:=g.m.toNat) hf zz.2.2.2.1 (by have:=zz.2.2.2.2.1;unfold nT at this;omega) hrs (mkL_length _ _) hev ⟨by rw[mkL_length];have:=zz.2.2.2.2.1;unfold nT at this;omega,fun i=>by
   by_cases hi:i<g.k.toNat
   ·have:=hrw i hi;unfold parT at this;rw[this];omega
   ·rw[ro_ge (by rw[mkL_length];omega)];simp⟩ zz.1.symm zz.2.1.symm
  exact this
 have ez:g.z=(z0:Int):=by rw[hz9.out];exact zz.2.2.1.symm
 obtain⟨SH,hSH⟩:∃SH,Hid (SH=shT g D):=⟨_,rfl⟩;rw[<-hSH.out]at PR ⊢;clear zz hln hev hfs hrw hz hok hD hp hSH;obtain⟨k,m,z,s,t,o⟩:=g;simp only at ez PR;subst ez;unfold aggP;simp only[cellsP];refine(callsIn_wide (n:=6)).1 ?_
 refine callsIn_of_wp_marks Tryz.func53 rfl trivial ?_ rfl
 simp only[Tryz.ntmps53,List.size_toArray,List.length_cons,List.length_nil,Nat.reduceAdd,Nat.reduceSub,Array.replicate_succ,Array.replicate_zero,List.push_toArray,List.append_toArray,List.nil_append,List.cons_append];have L0:=(spot_new w pa (some ⟨fb,0,none⟩) ⟨k,m,(z0:Int),s,t,o⟩ st ep 103).all;simp only[cellsP]at L0;obtain⟨x0,x1,x2,x3,x4,x5,x6,x7,x8,x9⟩:=L0
 gi_wp2_with (refine⟨trivial,?_⟩;gi_at_call 88;refine(parts_in Fence.wide _ trivial rfl _ _ _ _ _).mono ?_;rintro e w' ⟨rfl,rfl⟩)
 clear x0 x1 x2 x3 x4 x5 x6 x7 x8 x9;obtain⟨W1,hW1⟩:∃W1,W1=((((w.alloc (.cells #[.pointer pa,.pointer (some ⟨fb,0,none⟩),.int .i64 k,.int .i64 m,.int .i64 (z0:Int),.int .i64 s,.int .i64 t,.int .i64 o,.int .i64 st,.int .i64 ep] 103)).alloc (.cells #[.slice none 0 0] 106)).alloc (.cells #[.slice (some ⟨b,off,none⟩) N cap] 36)).alloc (.cells #[.int .i64 (z0:Int)] 3)):=⟨_,rfl⟩;have sz:W1.heap.size=w.heap.size+1+1+1+1:=by rw[hW1];simp
 have bO:Boxed W1 (w.heap.size+1) 106 (.slice none 0 0):=by
  rw[hW1];have q:=Boxed.new (w.alloc (.cells #[.pointer pa,.pointer (some ⟨fb,0,none⟩),.int .i64 k,.int .i64 m,.int .i64 (z0:Int),.int .i64 s,.int .i64 t,.int .i64 o,.int .i64 st,.int .i64 ep] 103)) 106 (.slice none 0 0);rw[World.size_alloc]at q;exact(q.alloc _).alloc _
 have SP:SpotAt W1 w.heap.size pa (some ⟨fb,0,none⟩) ⟨k,m,(z0:Int),s,t,o⟩ st ep:=by
  have q:=spot_new w pa (some ⟨fb,0,none⟩) ⟨k,m,(z0:Int),s,t,o⟩ st ep 103;simp only[cellsP]at q;rw[hW1];exact q.below (B:=w.heap.size+1) Zo ((((Below.refl _ _).alloc Zs _).alloc Zs _).alloc Zs _)
 have cD:W1.cell? ⟨w.heap.size+1+1,0,none⟩=some (.slice (some ⟨b,off,none⟩) N cap):=by
  rw[hW1];have q:=Boxed.new ((w.alloc (.cells #[.pointer pa,.pointer (some ⟨fb,0,none⟩),.int .i64 k,.int .i64 m,.int .i64 (z0:Int),.int .i64 s,.int .i64 t,.int .i64 o,.int .i64 st,.int .i64 ep] 103)).alloc (.cells #[.slice none 0 0] 106)) 36 (.slice (some ⟨b,off,none⟩) N cap);rw[World.size_alloc,World.size_alloc]at q;exact(q.alloc _).cell
 have cS:W1.cell? ⟨w.heap.size+1+1+1,0,none⟩=some (.int .i64 (z0:Int)):=by
  rw[hW1];have q:=Boxed.new (((w.alloc (.cells #[.pointer pa,.pointer (some ⟨fb,0,none⟩),.int .i64 k,.int .i64 m,.int .i64 (z0:Int),.int .i64 s,.int .i64 t,.int .i64 o,.int .i64 st,.int .i64 ep] 103)).alloc (.cells #[.slice none 0 0] 106)).alloc (.cells #[.slice (some ⟨b,off,none⟩) N cap] 36)) 3 (.int .i64 (z0:Int));rw[World.size_alloc,World.size_alloc,World.size_alloc]at q;exact q.cell
 have B0:Below w.heap.size w W1:=by
  rw[hW1];exact((((Below.refl _ _).alloc (Nat.le_refl _) _).alloc Zs _).alloc (by simp;try omega) _).alloc (by simp;try omega) _
 rw[<-hW1];clear hW1;refine wpIn_rangeFunc_ownG (α:=Fin K) rfl Zd (gf:=128) (lb:=#[.pointer (some ⟨w.heap.size+1+1,0,none⟩),.pointer (some ⟨w.heap.size+1+1+1,0,none⟩)]) rfl trivial (enters_of Tryz.func128 Zk rfl)
  (parts_stops Fence.wide _ trivial rfl Zd (w.heap.size+1+1) (w.heap.size+1+1+1) b off z0 K cap N bz.1 hNK hcap bN.2 W1 Zo Zo cD cS) (fun h k=>h.trans k) (fun W l o o' hl ho h1 h2=>⟨cell_put Zo,cell_put Zo⟩) (Below.refl _ _) (fun _=>rfl)
  (fun pre W=>(∃v,Boxed W (w.heap.size+1) 106 v/\W.ownsRow W1.heap.size 36 1 v pre.length (pre.map fun x=>ptV b off z0 cap x.1)/\True)/\TurnG (fun k=>k=w.heap.size+1) W1 W)
  (fun _ _ _=>False)
  (OwnFrom.and (Own.from (holdsRow_own W1.heap.size (w.heap.size+1) 106 36 1 (fun pre:List (Fin K)=>pre.length) (fun pre:List (Fin K)=>pre.map fun x=>ptV b off z0 cap x.1) (fun (pre:List (Fin K)) v=>True)) _) (ownFrom_turn (Nat.le_refl _)))
  (fun _ _ _ _ _ hs _ _=>hs)
  ⟨⟨_,bO,World.ownsRow_nil _ _ _ _,trivial⟩,TurnG.refl _ _⟩
  (fun x=>{tmps:=#[.agg #[.pointer pa,.pointer (some ⟨fb,0,none⟩),.int .i64 k,.int .i64 m,.int .i64 (z0:Int),.int .i64 s,.int .i64 t,.int .i64 o,.int .i64 st,.int .i64 ep],.slice (some ⟨b,off,none⟩) N cap,.pointer (some ⟨w.heap.size,0,none⟩),undef,.slice none 0 0,.pointer (some ⟨w.heap.size+1,0,none⟩),.slice (some ⟨b,off+x.1*z0,none⟩) z0 (cap-x.1*z0),undef,undef,.slice (some ⟨b,off,none⟩) N cap,.pointer (some ⟨w.heap.size,2,none⟩),.pointer (some ⟨w.heap.size,4,none⟩),.int .i64 (z0:Int),.func (.func 128) #[] #[.pointer (some ⟨w.heap.size+1+1,0,none⟩),.pointer (some ⟨w.heap.size+1+1+1,0,none⟩)],.slice (some ⟨b,off+x.1*z0,none⟩) z0 (cap-x.1*z0),undef,undef,undef,undef,undef,undef,undef,undef,undef,undef,undef,undef,undef,undef,undef,undef,undef,undef],defers:=[]}) ?assign ?body ?done ?stop
 case assign=>
  intro l x W K hK
  gi_wp2
  exact hK
 case body=>
  rintro l pre x W ⟨⟨v,hv,hrow,_⟩,hT⟩ hlt;have hc:=hv.cell;have hsz:=hT.size;obtain⟨y,hy⟩:∃y,Hid (y=off+x.1*z0):=⟨_,rfl⟩;obtain⟨c9,hc9⟩:∃c9,Hid (c9=cap-x.1*z0):=⟨_,rfl⟩;rw[<-hy.out,<-hc9.out];have ev:ptV b off z0 cap x.1= .slice (some ⟨b,y,none⟩) z0 c9:=by unfold ptV;rw[hy.out,hc9.out]
  gi_wp2_with (gi_at_builtin;refine wpListIn_append_own _ rfl _ _ 106 rfl W1.heap.size 36 i0 (.slice none 0 0) 1 24 Tryz.underlying106 hi hz0 hz1 hz2 rfl Zd _ _ _ rfl (hrow.alloc _) ⟨W.heap.size,0,none⟩ 1 1 [.slice (some ⟨b,y,none⟩) z0 c9] rfl rfl (cell_one_new _ _ _) (by simp[Value.oneCell']) Zl Zo Zm ?_;intro v' w1 hown' hgrow _;obtain⟨g',cap',rfl⟩:=ownsRow_succ hown';obtain⟨hv1,hv2,hr2,hk2,ht2,hkp⟩:=own_step hT Zo Zd hv hrow hown' hgrow;have hc1:=hv1.cell;have hf1:=hv1.frozen)
  refine⟨hk2.from _,⟨World.cell?_of_block (w:=W) (hkp (w.heap.size+1+1) Zo Zo),World.cell?_of_block (w:=W) (hkp (w.heap.size+1+1+1) Zo Zo)⟩,⟨_,hv2,?_,trivial⟩,ht2⟩;rw[List.length_append,List.map_append,List.map_cons,List.map_nil,ev];exact hr2
 case done=>
  rintro Dd ys W hDd rfl ⟨⟨v,hv,hrow,_⟩,hT⟩ hK;have SPW:=SP.turn Zo hT;obtain⟨x0,x1,x2,x3,x4,x5,x6,x7,x8,x9⟩:=SPW.all;simp only at x0 x1 x2 x3 x4 x5 x6 x7 x8 x9;have hc:=hv.cell;have BW:Below w.heap.size w W:=B0.trans (hT.below (fun q e=>Zo) Zo);have FW:FieldAt W fb:=hF.belowF BW;have RW:∀j,j<K->Rd W (ptV b off z0 cap j) ((D.drop (j*z0)).take z0):=fun j hj=>part_rd (HP.out.below BW) bz.1 (by rw[<-hN.out];exact hNK.out) hj
  have hrow2:W.ownsRow W1.heap.size 36 1 v K ((List.range K).map (ptV b off z0 cap)):=by
   have e1:(uptoF K (Nat.le_refl K)).map (fun x=>ptV b off z0 cap x.1)=(List.range K).map (ptV b off z0 cap):=by
    rw[<-uptoF_val (Nat.le_refl K),List.map_map];rfl
   rw[uptoF_length,e1]at hrow;exact hrow
  have KE:=PR.out W RW FW v ⟨_,hrow2⟩;obtain⟨va,vc,rfl⟩:=owns_form hrow2
  gi_wp2_with (refine⟨trivial,?_⟩;gi_at_call 89;refine(callsIn_wide.2 KE).mono ?_;rintro e w2 ⟨vs,rfl,R2,b2⟩;obtain⟨sa,sc,rfl⟩:=R2.form)
  have hK2:w2.heap[Dd]? =some (.deferred (some [])):=(b2.block Dd (Array.getElem?_eq_some_iff.1 hK).1).trans hK
  refine⟨Zs,.inl ⟨_,_,rfl,run_takeDeferred hK2,?_⟩⟩;refine⟨_,results_tmp rfl _ _ _,_,rfl,(R2.rebase BW.size).putObj _ hK2 rfl,?_⟩;exact(BW.stepL b2 BW.size).trans (belowK_b (w:=w) (Nat.le_refl _) w2 Dd _ _ Zo hK2 rfl rfl)
 case stop=>
  rintro Dd c pre W _ _ h _;exact h.elim
end Go.Proofs.YtddnfhfangfgeaaGreat.Gf
namespace Go.Proofs.YtddnfhfangfgeaaGreat.Gf
set_option linter.unusedVariables false
set_option linter.unusedSimpArgs false
open Go.RowKit
theorem two_laid(w:World)(pa pf:Option Addr)(g:GeoS)(st ep:Int)(e1 e2:Nat):∀W,Below ((w.alloc (.cells (cellsG g) e1)).alloc (.cells (cellsP pa pf g st ep) e2)).heap.size ((w.alloc (.cells (cellsG g) e1)).alloc (.cells (cellsP pa pf g st ep) e2)) W->SpotAt W (w.heap.size+1) pa pf g st ep/\GeoAt W w.heap.size g/\Below w.heap.size w W:=fun W hW=>by
 have s1:=(spot_laid (w.alloc (.cells (cellsG g) e1)) pa pf g st ep e2 W hW).1;rw[World.size_alloc]at s1;have g0:=(geo_laid w g e1 _ (Below.refl _ _)).1;have g1:=g0.below (w':=W) Zs ((belL (w.alloc (.cells (cellsG g) e1)) (.cells (cellsP pa pf g st ep) e2)).trans (hW.mono Zs));exact⟨s1,g1,(belL w _).trans (((belL (w.alloc (.cells (cellsG g) e1)) (.cells (cellsP pa pf g st ep) e2)).mono Zs).trans (hW.mono Zm))⟩
theorem rfX_geo{g:GeoS}{bs:List Bool}(h:¬okG g):rfX g bs=50:=if_neg h
theorem rfX_bad{g:GeoS}{bs:List Bool}(h:okG g)(hb:false∈bs):rfX g bs=1:=by unfold rfX;rw[if_pos h,if_pos hb]
theorem rfX_ok{g:GeoS}{bs:List Bool}(h:okG g)(hb:¬false∈bs):rfX g bs=0:=by unfold rfX;rw[if_pos h,if_neg hb]
theorem lenT_wrap{k m z s t o:Int}(h:okG ⟨k,m,z,s,t,o⟩):IntKind.i64.wrap (k*z)=k*z:=by
 obtain⟨h1,h2,h3,h4,h5,_⟩:=h;simp only at h1 h2 h3 h4 h5;have a1:0<=k*z:=Int.mul_nonneg Zo Zo;have a2:k*z<=32*4096:=Int.mul_le_mul Zo Zo Zo Zo;rw[IntKind.wrap_i64];omega
theorem rf_two{g:GeoS}{st ep:Int}:rfX g [decide (0<=st/\st<g.s),decide (0<=ep/\ep<=2147483647)]=ckT g st ep:=by
 by_cases h:okG g
 ·by_cases hT:OkT g st ep
  ·rw[ckT_ok hT,rfX_ok h];rw[decide_eq_true ⟨hT.2.1,hT.2.2.1⟩,decide_eq_true ⟨hT.2.2.2.1,hT.2.2.2.2⟩];simp
  ·rw[ckT_arg h hT,rfX_bad h]
   by_cases h1:0<=st/\st<g.s
   ·rw[decide_eq_false (p:=0<=ep/\ep<=2147483647) (fun q=>hT ⟨h,h1.1,h1.2,q.1,q.2⟩)];simp
   ·rw[decide_eq_false h1];simp
 ·rw[ckT_geo h,rfX_geo h]
theorem swrite_any{w:World}{ab fb:Nat}{GA:Nat->Prop}{a:ArS}(h:ArAt w ab GA a)(hF:FieldAt w fb){g:GeoS}(hg:g.Wf){st ep:Int}(hst:(Lit.int .i64 st).wf=true){v:Value}{D:List UInt8}(hp:Rd w v D)(hz:okG g->g.z<=300):
  Calls Tryz.prog 18 #[.pointer (some ⟨ab,0,none⟩),.pointer (some ⟨fb,0,none⟩),aggG g,.int .i64 st,.int .i64 ep,v] w (LeavesA w ab GA (swS a g st ep D) (.int .i64 (swX a g st ep D))):=by
 obtain⟨b1,hb1⟩:∃b,Hid (decide (0<=st/\st<g.s)=b):=⟨_,rfl⟩;obtain⟨b2,hb2⟩:∃b,Hid (decide (0<=ep/\ep<=2147483647)=b):=⟨_,rfl⟩;have KS:=fun W=>@piss_any W (some ⟨ab,0,none⟩) (some ⟨fb,0,none⟩) g st ep b1 hb1.out
 have KE:=fun W=>@pise_any W (some ⟨ab,0,none⟩) (some ⟨fb,0,none⟩) g st ep b2 hb2.out
 have KF:=fun W (vv:Value) (bs:List Bool) (hr:RdB W vv bs) (hl:bs.length<=1000)=>@pref_any W g st ep ab fb hg vv bs hr hl _ rfl
 obtain⟨c,hc⟩:∃c,IntKind.i64.wrap (g.k*g.z)=c:=⟨_,rfl⟩;obtain⟨b3,hb3⟩:∃b,((D.length:Int)==c)=b:=⟨_,rfl⟩;obtain⟨x,hx⟩:∃x,Hid (rfX g [b1,b2,b3]=x):=⟨_,rfl⟩;obtain⟨k,m,z,s,t,o⟩:=g;simp only at hc;have LB:=two_laid w (some ⟨ab,0,none⟩) (some ⟨fb,0,none⟩) ⟨k,m,z,s,t,o⟩ st ep 24 103;rw[show aggG ⟨k,m,z,s,t,o⟩= .agg #[.int .i64 k,.int .i64 m,.int .i64 z,.int .i64 s,.int .i64 t,.int .i64 o]from rfl];unfold aggP at KS KE KF;simp only[cellsP,cellsG]at KS KE KF LB;obtain⟨va,vc,rfl⟩:=hp.form;obtain⟨dn,hdn⟩:∃dn,Hid (dn=D.length):=⟨_,rfl⟩;rw[<-hdn.out]at hb3 ⊢;have LG:=geo_laid w ⟨k,m,z,s,t,o⟩ 24;obtain⟨⟨y0,y1,y2,y3,y4,y5⟩,_⟩:=LG _ (Below.refl _ _);simp only[cellsG]at y0 y1 y2 y3 y4 y5;obtain⟨W1,hW1⟩:∃W1,W1=((w.alloc (.cells #[.int .i64 k,.int .i64 m,.int .i64 z,.int .i64 s,.int .i64 t,.int .i64 o] 24)).alloc (.cells #[.pointer (some ⟨ab,0,none⟩),.pointer (some ⟨fb,0,none⟩),.int .i64 k,.int .i64 m,.int .i64 z,.int .i64 s,.int .i64 t,.int .i64 o,.int .i64 st,.int .i64 ep] 103)):=⟨_,rfl⟩;rw[<-hW1]at LB;have SE:Hid (∀W,Below W1.heap.size W1 W->(W.cell? ⟨w.heap.size+1,0,none⟩=some (.pointer (some ⟨ab,0,none⟩))/\W.cell? ⟨w.heap.size+1,1,none⟩=some (.pointer (some ⟨fb,0,none⟩))/\W.cell? ⟨w.heap.size+1,2,none⟩=some (.int .i64 k)/\W.cell? ⟨w.heap.size+1,3,none⟩=some (.int .i64 m)/\W.cell? ⟨w.heap.size+1,4,none⟩=some (.int .i64 z)/\W.cell? ⟨w.heap.size+1,5,none⟩=some (.int .i64 s)/\W.cell? ⟨w.heap.size+1,6,none⟩=some (.int .i64 t)/\W.cell? ⟨w.heap.size+1,7,none⟩=some (.int .i64 o)/\W.cell? ⟨w.heap.size+1,8,none⟩=some (.int .i64 st)/\W.cell? ⟨w.heap.size+1,9,none⟩=some (.int .i64 ep))/\(W.cell? ⟨w.heap.size,0,none⟩=some (.int .i64 k)/\W.cell? ⟨w.heap.size,1,none⟩=some (.int .i64 m)/\W.cell? ⟨w.heap.size,2,none⟩=some (.int .i64 z)/\W.cell? ⟨w.heap.size,3,none⟩=some (.int .i64 s)/\W.cell? ⟨w.heap.size,4,none⟩=some (.int .i64 t)/\W.cell? ⟨w.heap.size,5,none⟩=some (.int .i64 o))):=fun W b=>⟨(LB W b).1.all,(LB W b).2.1⟩
 have FE:Hid (∀W,Below W1.heap.size W1 W->Below w.heap.size w W):=fun W b=>(LB W b).2.2
 have LBS:Hid (∀W,Below W1.heap.size W1 W->SpotAt W (w.heap.size+1) (some ⟨ab,0,none⟩) (some ⟨fb,0,none⟩) ⟨k,m,z,s,t,o⟩ st ep):=fun W b=>(LB W b).1
 clear LB LG;have KF1:∀W vv,RdB W vv [b1,b2,b3]->Calls Tryz.prog 49 #[.agg #[.pointer (some ⟨ab,0,none⟩),.pointer (some ⟨fb,0,none⟩),.int .i64 k,.int .i64 m,.int .i64 z,.int .i64 s,.int .i64 t,.int .i64 o,.int .i64 st,.int .i64 ep],vv] W fun e w'=>e= .returned (.int .i64 x)/\Below W.heap.size W w':=fun W vv hr=>by
  have:=KF W vv _ hr Zs;rw[hx.out]at this;exact this
 have HP:Hid (Rd w (.slice va dn vc) D):=by show Rd _ _ _;rw[hdn.out];exact hp
 clear hp KF
 by_cases hx0:x=0
 rotate_left
 ·have E9:Hid (swX a ⟨k,m,z,s,t,o⟩ st ep D=x/\swS a ⟨k,m,z,s,t,o⟩ st ep D=a):=by
   have hn:¬(OkT ⟨k,m,z,s,t,o⟩ st ep/\LenT ⟨k,m,z,s,t,o⟩ D):=fun q=>hx0 (by
    rw[<-hx.out];refine rfX_ok q.1.1 ?_
    have e1:b1=true:=by rw[<-hb1.out];exact decide_eq_true ⟨q.1.2.1,q.1.2.2.1⟩
    have e2:b2=true:=by rw[<-hb2.out];exact decide_eq_true ⟨q.1.2.2.2.1,q.1.2.2.2.2⟩
    have e3:b3=true:=by
     rw[<-hb3,hdn.out,<-hc,lenT_wrap q.1.1];have:=q.2;unfold LenT at this;simp only at this;rw[this];simp
    rw[e1,e2,e3];simp)
   refine⟨?_,if_neg hn⟩;unfold swX
   by_cases hT:OkT ⟨k,m,z,s,t,o⟩ st ep
   ·rw[if_pos hT,if_neg (fun q=>hn ⟨hT,q⟩),<-hx.out,rfX_bad hT.1];have e3:b3=false:=by
     rw[<-hb3,hdn.out,<-hc,lenT_wrap hT.1];refine beq_eq_false_iff_ne.2 fun q=>hn ⟨hT,?_⟩
     unfold LenT;exact q
    rw[e3];simp
   ·rw[if_neg hT,<-hx.out]
    by_cases ok:okG ⟨k,m,z,s,t,o⟩
    ·rw[ckT_arg ok hT,rfX_bad ok]
     by_cases h1:0<=st/\st<s
     ·have e2:b2=false:=by rw[<-hb2.out];exact decide_eq_false (fun q=>hT ⟨ok,h1.1,h1.2,q.1,q.2⟩)
      rw[e2];simp
     ·have e1:b1=false:=by rw[<-hb1.out];exact decide_eq_false h1
      rw[e1];simp
    ·rw[ckT_geo ok,rfX_geo ok]
  go_enter Tryz.func18,Tryz.ntmps18
  go_upto_region 2 with fail
  rw[<-hW1];clear hW1 y0 y1 y2 y3 y4 y5;have s0:=(SE.out W1 (Below.refl _ _));have BD:Below W1.heap.size W1 W1.drew:=(Below.refl _ _).drew;have sD:=(SE.out _ BD)
  go_region_held3 (fun wx=>(wx.cell? ⟨w.heap.size+1,0,none⟩=some (.pointer (some ⟨ab,0,none⟩))/\wx.cell? ⟨w.heap.size+1,1,none⟩=some (.pointer (some ⟨fb,0,none⟩))/\wx.cell? ⟨w.heap.size+1,2,none⟩=some (.int .i64 k)/\wx.cell? ⟨w.heap.size+1,3,none⟩=some (.int .i64 m)/\wx.cell? ⟨w.heap.size+1,4,none⟩=some (.int .i64 z)/\wx.cell? ⟨w.heap.size+1,5,none⟩=some (.int .i64 s)/\wx.cell? ⟨w.heap.size+1,6,none⟩=some (.int .i64 t)/\wx.cell? ⟨w.heap.size+1,7,none⟩=some (.int .i64 o)/\wx.cell? ⟨w.heap.size+1,8,none⟩=some (.int .i64 st)/\wx.cell? ⟨w.heap.size+1,9,none⟩=some (.int .i64 ep))/\(wx.cell? ⟨w.heap.size,0,none⟩=some (.int .i64 k)/\wx.cell? ⟨w.heap.size,1,none⟩=some (.int .i64 m)/\wx.cell? ⟨w.heap.size,2,none⟩=some (.int .i64 z)/\wx.cell? ⟨w.heap.size,3,none⟩=some (.int .i64 s)/\wx.cell? ⟨w.heap.size,4,none⟩=some (.int .i64 t)/\wx.cell? ⟨w.heap.size,5,none⟩=some (.int .i64 o))) (first|exact s0|exact sD|exact s1|exact s2|exact s3 _ _|exact s4) (first
   |(go_at_call 50;go_loud (refine(KS _).mono ?_);rintro _ v1 ⟨rfl,c1⟩;have B1:Below W1.heap.size W1 v1:=BD.stepL c1 BD.size;have s1:=(SE.out _ B1))
   |(go_at_call 51;go_loud (refine(KE _).mono ?_);rintro _ v2 ⟨rfl,c2⟩;have B2:Below W1.heap.size W1 v2:=B1.stepL c2 B1.size;have s2:=(SE.out _ B2);have s3:=fun q e=>(SE.out (v2.alloc (.cells q e)) (B2.stepL (belL _ _) B2.size));have B3:=fun q e=>B2.stepL (belL v2 (.cells q e)) B2.size)
   |(go_at_call 49;go_loud (refine(KF1 _ _ (rdB_lit [b1,b2,b3] rfl rfl rfl Zs)).mono ?_);rintro _ v4 ⟨rfl,c4⟩;have B4:Below W1.heap.size W1 v4:=(B3 _ _).stepL c4 (B3 _ _).size;have s4:=(SE.out _ B4)))
  have FB:Hid (Below w.heap.size w v4):=FE.out _ B4;clear s0 sD s1 s2 s3 s4 c1 c2 c4 B1 B2 B3 B4 BD KS KE KF1;go_wp2;go_ret;exact⟨by rw[E9.out.1];rfl,GA,by rw[E9.out.2];exact h.below FB.out,Grew.of_below FB.out⟩
 have hT:OkT ⟨k,m,z,s,t,o⟩ st ep/\LenT ⟨k,m,z,s,t,o⟩ D:=by
  have h0:=hx.out;rw[hx0]at h0;have ok:okG ⟨k,m,z,s,t,o⟩:=Classical.byContradiction fun q=>by rw[rfX_geo q]at h0;cases h0
  have nb:¬false∈[b1,b2,b3]:=fun q=>by rw[rfX_bad ok q]at h0;cases h0
  have e1:b1=true:=by cases b1 with
   |true=>rfl
   |false=>exact absurd Zs nb
  have e2:b2=true:=by cases b2 with
   |true=>rfl
   |false=>exact absurd Zs nb
  have e3:b3=true:=by cases b3 with
   |true=>rfl
   |false=>exact absurd Zs nb
  have q1:=of_decide_eq_true (hb1.out.trans e1);have q2:=of_decide_eq_true (hb2.out.trans e2);refine⟨⟨ok,q1.1,q1.2,q2.1,q2.2⟩,?_⟩;rw[e3,hdn.out,<-hc,lenT_wrap ok]at hb3;exact eq_of_beq hb3
 subst hx0;obtain⟨hT,hD⟩:=hT;have zz:=okG_nat hT.1;obtain⟨n,hn⟩:∃n,Hid (n=nT ⟨k,m,z,s,t,o⟩):=⟨_,rfl⟩;have n1:1<=n/\n<=32:=by rw[hn.out];exact⟨nT_pos hT.1,zz.2.2.2.2.1⟩
 have KN:=fun W=>@pcount_any W (some ⟨ab,0,none⟩) (some ⟨fb,0,none⟩) ⟨k,m,z,s,t,o⟩ st ep (n:Int) (by rw[<-zz.2.2.2.2.2.2.2,<-hn.out,IntKind.wrap_i64];omega)
 have KU:=fun W=>@pupto_any W n Zo
 have KH:=fun W (hf:FieldAt W fb) (hr:Rd W (.slice va dn vc) D)=>@pshof_any W (some ⟨ab,0,none⟩) fb hf ⟨k,m,z,s,t,o⟩ hT.1 (hz hT.1) st ep _ D hr hD
 obtain⟨SH,hSH⟩:∃SH,Hid (SH=shT ⟨k,m,z,s,t,o⟩ D):=⟨_,rfl⟩;rw[<-hSH.out]at KH;have KW:=fun W (hA:ArAt W ab GA a) (vs vi:Value) (hl:ToldL W GA vs SH) (hi:ToldI W GA vi (List.range n))=>@pwrite_any W ab GA a hA (some ⟨fb,0,none⟩) ⟨k,m,z,s,t,o⟩ hg st ep hst hT vs vi SH (List.range n) hl hi (fun i q=>by
   have:=List.mem_range.1 q;rw[hSH.out,shT_length,<-hn.out];exact⟨this,this⟩) (fun i q=>by
   rw[hSH.out,shT_length]at q;rw[hSH.out,shT_row hD hT.1 q];omega) (by rw[List.length_range];omega)
 rw[List.length_range]at KW;have E9:Hid (swX a ⟨k,m,z,s,t,o⟩ st ep D=wxT a ⟨k,m,z,s,t,o⟩ st ep SH (List.range n)/\swS a ⟨k,m,z,s,t,o⟩ st ep D=psT a ⟨k,m,z,s,t,o⟩ st ep SH (List.range n) n):=by
  refine⟨?_,?_⟩
  ·unfold swX wxT;rw[if_pos hT,if_pos hD,hSH.out,hn.out]
  ·unfold swS;rw[if_pos ⟨hT,hD⟩,hSH.out,hn.out]
 obtain⟨wx_,hwx⟩:∃y,Hid (y=wxT a ⟨k,m,z,s,t,o⟩ st ep SH (List.range n)):=⟨_,rfl⟩;obtain⟨wn_,hwn⟩:∃y,Hid (y=wnT a ⟨k,m,z,s,t,o⟩ st ep SH (List.range n)):=⟨_,rfl⟩;obtain⟨ps_,hps⟩:∃y,Hid (y=psT a ⟨k,m,z,s,t,o⟩ st ep SH (List.range n) n):=⟨_,rfl⟩;rw[<-hwx.out,<-hwn.out,<-hps.out]at KW;rw[<-hwx.out,<-hps.out]at E9;have HSL:Hid (SH.length=n):=by show _=_;rw[hSH.out,shT_length,hn.out]
 rw[E9.out.1,E9.out.2];clear zz E9 hwx hwn hps hSH hD hT;unfold aggP at KN KH KW;simp only[cellsP]at KN KH KW;have HA:Hid (ArAt w ab GA a):=h;have HFd:Hid (FieldAt w fb):=hF;have ST:Hid (∀W G5 W5,Below W1.heap.size W1 W->Grew GA W G5 W5->W5.cell? ⟨w.heap.size+1,0,none⟩=some (.pointer (some ⟨ab,0,none⟩))/\W5.cell? ⟨w.heap.size+1,1,none⟩=some (.pointer (some ⟨fb,0,none⟩))/\W5.cell? ⟨w.heap.size+1,2,none⟩=some (.int .i64 k)/\W5.cell? ⟨w.heap.size+1,3,none⟩=some (.int .i64 m)/\W5.cell? ⟨w.heap.size+1,4,none⟩=some (.int .i64 z)/\W5.cell? ⟨w.heap.size+1,5,none⟩=some (.int .i64 s)/\W5.cell? ⟨w.heap.size+1,6,none⟩=some (.int .i64 t)/\W5.cell? ⟨w.heap.size+1,7,none⟩=some (.int .i64 o)/\W5.cell? ⟨w.heap.size+1,8,none⟩=some (.int .i64 st)/\W5.cell? ⟨w.heap.size+1,9,none⟩=some (.int .i64 ep)):=fun W G5 W5 b gg=>((LBS.out W b).turn (fun q=>by have:=h.lt _ q;omega) gg.turn).all
 clear h hF
 go_enter Tryz.func18,Tryz.ntmps18
 go_upto_region 2 with fail
 rw[<-hW1];clear hW1 y0 y1 y2 y3 y4 y5;have s0:=(SE.out W1 (Below.refl _ _));have BD:Below W1.heap.size W1 W1.drew:=(Below.refl _ _).drew;have sD:=(SE.out _ BD)
 go_region_held3 (fun wx=>(wx.cell? ⟨w.heap.size+1,0,none⟩=some (.pointer (some ⟨ab,0,none⟩))/\wx.cell? ⟨w.heap.size+1,1,none⟩=some (.pointer (some ⟨fb,0,none⟩))/\wx.cell? ⟨w.heap.size+1,2,none⟩=some (.int .i64 k)/\wx.cell? ⟨w.heap.size+1,3,none⟩=some (.int .i64 m)/\wx.cell? ⟨w.heap.size+1,4,none⟩=some (.int .i64 z)/\wx.cell? ⟨w.heap.size+1,5,none⟩=some (.int .i64 s)/\wx.cell? ⟨w.heap.size+1,6,none⟩=some (.int .i64 t)/\wx.cell? ⟨w.heap.size+1,7,none⟩=some (.int .i64 o)/\wx.cell? ⟨w.heap.size+1,8,none⟩=some (.int .i64 st)/\wx.cell? ⟨w.heap.size+1,9,none⟩=some (.int .i64 ep))/\(wx.cell? ⟨w.heap.size,0,none⟩=some (.int .i64 k)/\wx.cell? ⟨w.heap.size,1,none⟩=some (.int .i64 m)/\wx.cell? ⟨w.heap.size,2,none⟩=some (.int .i64 z)/\wx.cell? ⟨w.heap.size,3,none⟩=some (.int .i64 s)/\wx.cell? ⟨w.heap.size,4,none⟩=some (.int .i64 t)/\wx.cell? ⟨w.heap.size,5,none⟩=some (.int .i64 o))) (first|exact s0|exact sD|exact s1|exact s2|exact s3 _ _|exact s4) (first
  |(go_at_call 50;go_loud (refine(KS _).mono ?_);rintro _ v1 ⟨rfl,c1⟩;have B1:Below W1.heap.size W1 v1:=BD.stepL c1 BD.size;have s1:=(SE.out _ B1))
  |(go_at_call 51;go_loud (refine(KE _).mono ?_);rintro _ v2 ⟨rfl,c2⟩;have B2:Below W1.heap.size W1 v2:=B1.stepL c2 B1.size;have s2:=(SE.out _ B2);have s3:=fun q e=>(SE.out (v2.alloc (.cells q e)) (B2.stepL (belL _ _) B2.size));have B3:=fun q e=>B2.stepL (belL v2 (.cells q e)) B2.size)
  |(go_at_call 49;go_loud (refine(KF1 _ _ (rdB_lit [b1,b2,b3] rfl rfl rfl Zs)).mono ?_);rintro _ v4 ⟨rfl,c4⟩;have B4:Below W1.heap.size W1 v4:=(B3 _ _).stepL c4 (B3 _ _).size;have s4:=(SE.out _ B4)))
 have SE4:Hid (∀W,Below W1.heap.size W1 W->W.cell? ⟨w.heap.size+1,0,none⟩=some (.pointer (some ⟨ab,0,none⟩))/\W.cell? ⟨w.heap.size+1,1,none⟩=some (.pointer (some ⟨fb,0,none⟩))/\W.cell? ⟨w.heap.size+1,2,none⟩=some (.int .i64 k)/\W.cell? ⟨w.heap.size+1,3,none⟩=some (.int .i64 m)/\W.cell? ⟨w.heap.size+1,4,none⟩=some (.int .i64 z)/\W.cell? ⟨w.heap.size+1,5,none⟩=some (.int .i64 s)/\W.cell? ⟨w.heap.size+1,6,none⟩=some (.int .i64 t)/\W.cell? ⟨w.heap.size+1,7,none⟩=some (.int .i64 o)/\W.cell? ⟨w.heap.size+1,8,none⟩=some (.int .i64 st)/\W.cell? ⟨w.heap.size+1,9,none⟩=some (.int .i64 ep)):=fun W b=>(SE.out W b).1
 have E4:Hid (Below W1.heap.size W1 v4):=B4;clear s0 sD s1 s2 s3 s4 c1 c2 c4 B1 B2 B3 B4 BD KS KE KF1 SE
 go_wp2_with fail
 have t0:=SE4.out _ E4.out;have BD:Below W1.heap.size W1 v4.drew:=E4.out.drew;have tD:=SE4.out _ BD
 go_region_held3 (fun wx=>wx.cell? ⟨w.heap.size+1,0,none⟩=some (.pointer (some ⟨ab,0,none⟩))/\wx.cell? ⟨w.heap.size+1,1,none⟩=some (.pointer (some ⟨fb,0,none⟩))/\wx.cell? ⟨w.heap.size+1,2,none⟩=some (.int .i64 k)/\wx.cell? ⟨w.heap.size+1,3,none⟩=some (.int .i64 m)/\wx.cell? ⟨w.heap.size+1,4,none⟩=some (.int .i64 z)/\wx.cell? ⟨w.heap.size+1,5,none⟩=some (.int .i64 s)/\wx.cell? ⟨w.heap.size+1,6,none⟩=some (.int .i64 t)/\wx.cell? ⟨w.heap.size+1,7,none⟩=some (.int .i64 o)/\wx.cell? ⟨w.heap.size+1,8,none⟩=some (.int .i64 st)/\wx.cell? ⟨w.heap.size+1,9,none⟩=some (.int .i64 ep)) (first|exact t0|exact tD|exact t5|exact t6|exact t7|exact t8) (first
  |(go_at_call 53;go_loud (refine(KH _ (HFd.out.belowF (FE.out _ BD)) (HP.out.below (FE.out _ BD))).mono ?_);rintro _ v5 ⟨vs,rfl,R5,c5⟩;have B5:Below W1.heap.size W1 v5:=BD.stepL c5 BD.size;have t5:=SE4.out _ B5;obtain⟨sa,sc,rfl⟩:=R5.form)
  |(go_at_call 55;go_loud (refine(KN _).mono ?_);rintro _ v6 ⟨rfl,c6⟩;have B6:Below W1.heap.size W1 v6:=B5.stepL c6 B5.size;have t6:=SE4.out _ B6)
  |(go_at_call 54;go_loud (refine(KU _).mono ?_);rintro _ v7 ⟨gi,rfl,R7,l7,c7⟩;have B7:Below W1.heap.size W1 v7:=B6.stepL c7 B6.size;have t7:=SE4.out _ B7;go_loud (have TI:ToldI v7 GA (.slice (some ⟨gi,0,none⟩) n n) (List.range n):=ToldI.of_row R7 (by rw[List.length_range]) (fun i q=>by rw[List.length_range]at q;simp[List.getD,q]) (fun q=>by have:=HA.out.lt _ q;have:=(FE.out _ B6).size;omega));go_loud (have TL:ToldL v7 GA _ SH:=(ToldL.far R5 (fun q hq=>Nat.lt_of_lt_of_le (HA.out.lt q hq) (FE.out _ BD).size)).below ((Below.refl _ _).stepL (c6.stepL c7 c6.size) (Nat.le_refl _))))
  |(go_at_call 52;go_loud (refine(KW _ (HA.out.below (FE.out _ B7)) _ _ TL TI).mono ?_);rintro _ v8 ⟨rfl,G8,A8,g8⟩;have t8:=ST.out _ _ _ B7 g8))
 have FIN:Hid (∃GA',ArAt v8 ab GA' ps_/\Grew GA w GA' v8):=⟨G8,A8,(Grew.of_below (FE.out _ B7)).trans g8⟩;clear t0 tD t5 t6 t7 t8 c5 c6 c7 B5 B6 B7 R5 R7 TI TL A8 g8 BD KH KN KU KW;go_wp2;go_ret;exact⟨rfl,FIN.out⟩
end Go.Proofs.YtddnfhfangfgeaaGreat.Gf
