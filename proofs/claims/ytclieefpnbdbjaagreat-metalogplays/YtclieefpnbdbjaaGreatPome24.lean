/- JOINED: VoCA, VoCD, VoCE, VoCi, VoKm. -/
import Derived.Test.YtclieefpnbdbjaaGreatPome23
import Derived.DeepKeys4
import Derived.WideKeyEntry
import Derived.Maps.Views
set_option maxHeartbeats 2000000
set_option maxRecDepth 100000
namespace Go.Proofs.YtclieefpnbdbjaaGreat.Gf
set_option linter.unusedVariables false
set_option linter.unusedSimpArgs false
open Go.RowKit
def cmI(x y:Int):Int:=if x<y then-1 else if y<x then 1 else 0
def cmS(a b:List UInt8):Int:=if Op.bytesLess a b=true then-1 else if Op.bytesLess b a=true then 1 else 0
def orL(zs:List Int):Int:=(zs.find? fun z=>z !=0).getD 0
theorem cm_gt{e e0:Int}{n n0:Nat}{d d0:List UInt8}:0<orL [cmI e e0,cmI (n:Int) (n0:Int),cmS d0 d]↔Gt17 e n d e0 n0 d0:=by
 unfold orL cmI cmS Gt17
 by_cases h1:e<e0
 ·simp[h1];omega
 by_cases h2:e0<e
 ·simp[h1,h2]
 have he:e=e0:=Zo
 subst he
 by_cases h3:n<n0
 ·have h3':(n:Int)<(n0:Int):=by omega
  simp[h3'];omega
 by_cases h4:n0<n
 ·have h4':(n0:Int)<(n:Int):=by omega
  have h3':¬(n:Int)<(n0:Int):=Zo
  simp[h3',h4',h4]
 have hn:n=n0:=Zo
 subst hn;have hnn:¬(n:Int)<(n:Int):=Zo
 cases h5:Op.bytesLess d0 d with
 |true=>
  have:Op.bytesLess d d0=false:=by
   cases h6:Op.bytesLess d d0 with
   |false=>rfl
   |true=>have:=less_trans h5 h6;rw[less_irr]at this;cases this
  simp[this]
 |false=>
  cases h6:Op.bytesLess d d0 with
  |true=>simp
  |false=>simp
theorem nan_i{x:Int}{w:World}:Calls Tryz.prog 189 #[.int .i64 x] w fun e w'=>e= .returned (.bool false)/\w'=w:=by
 go_enter Tryz.func189,Tryz.ntmps189
 go_wp2;go_ret;exact⟨rfl,rfl⟩
theorem nan_s{s:ByteArray}{w:World}:Calls Tryz.prog 190 #[.string s] w fun e w'=>e= .returned (.bool false)/\w'=w:=by
 go_enter Tryz.func190,Tryz.ntmps190
 go_wp2;go_ret;exact⟨rfl,rfl⟩
theorem cmp_i{x y:Int}{w:World}:Calls Tryz.prog 164 #[.int .i64 x,.int .i64 y] w fun e w'=>e= .returned (.int .i64 (cmI x y))/\w'=w:=by
 go_enter Tryz.func164,Tryz.ntmps164
 go_wp2_with fail
 refine nan_i.mono ?_
 rintro _ w1 ⟨rfl,rfl⟩
 go_wp2_with fail
 refine nan_i.mono ?_
 rintro _ w2 ⟨rfl,rfl⟩
 by_cases h1:x<y
 ·have e:cmI x y= -1:=if_pos h1;go_wp2;go_ret;exact⟨by rw[e];rfl,rfl⟩
 ·by_cases h2:x>y
  ·have e:cmI x y=1:=by unfold cmI;rw[if_neg h1,if_pos h2]
   go_wp2;go_ret;exact⟨by rw[e];rfl,rfl⟩
  ·have e:cmI x y=0:=by unfold cmI;rw[if_neg h1,if_neg h2]
   go_wp2;go_ret;exact⟨by rw[e];rfl,rfl⟩
theorem cmp_s{a b:List UInt8}{w:World}:Calls Tryz.prog 165 #[.string ⟨a.toArray⟩,.string ⟨b.toArray⟩] w fun e w'=>e= .returned (.int .i64 (cmS a b))/\w'=w:=by
 go_enter Tryz.func165,Tryz.ntmps165
 go_wp2_with fail
 refine nan_s.mono ?_
 rintro _ w1 ⟨rfl,rfl⟩
 go_wp2_with fail
 refine nan_s.mono ?_
 rintro _ w2 ⟨rfl,rfl⟩;cases h1:Op.bytesLess a b with
 |true=>
  have e:cmS a b= -1:=if_pos h1;go_wp2;go_ret;exact⟨by rw[e];rfl,rfl⟩
 |false=>
  have h1':¬Op.bytesLess a b=true:=by rw[h1];decide
  cases h2:(a==b)with
  |false=>
   have hb:Op.bytesLess b a=true:=(less_or (Zq.1 h2)).resolve_left h1';have e:cmS a b=1:=by unfold cmS;rw[if_neg h1',if_pos hb]
   clear hb;go_wp2;go_ret;exact⟨by rw[e];rfl,rfl⟩
  |true=>
   obtain rfl:=eq_of_beq h2;have e:cmS a a=0:=by unfold cmS;rw[if_neg h1',if_neg h1']
   go_wp2;go_ret;exact⟨by rw[e];rfl,rfl⟩
theorem orL_at{zs:List Int}{k:Nat}(h:∀j,j<k->zs.getD j 0=0)(hk:k<zs.length)(hz:¬zs.getD k 0=0):orL zs=zs.getD k 0:=by
 unfold orL
 induction zs generalizing k with
 |nil=>simp at hk
 |cons z zs ih=>
  rcases k with _|k
  ·have hz':¬z=0:=by simpa using hz
   simp[hz']
  ·have h0:z=0:=by simpa using h 0 Zo
   have e:=ih (k:=k) (fun j hj=>by simpa using h (j+1) Zo) (by simpa using hk) (by simpa using hz);simp[h0];simpa using e
theorem orL_no{zs:List Int}(h:∀j,j<zs.length->zs.getD j 0=0):orL zs=0:=by
 unfold orL
 induction zs with
 |nil=>rfl
 |cons z zs ih=>
  have h0:z=0:=by simpa using h 0 Zs
  have e:=ih fun j hj=>by simpa using h (j+1) Zm
  simp[h0];simpa using e
theorem or_any{v:Value}{zs:List Int}{w:World}(h:RdI w v zs)(hl:zs.length<=100000):Calls Tryz.prog 163 #[v] w fun e w'=>e= .returned (.int .i64 (orL zs))/\w'=w:=by
 obtain⟨a,c,rfl⟩:=h.form
 go_enter Tryz.func163,Tryz.ntmps163
 go_wp2
 go_loopw [8] (fun i wr=>∃k:Nat,k<=zs.length/\i= .int .i64 (k:Int)/\wr=w/\Hid (∀j,j<k->zs.getD j 0=0)) (fun i _=>zs.length-(intOf i).toNat)
 case atStart=>exact⟨0,Zz,rfl,rfl,fun j hj=>Zo⟩
 case round=>
  obtain⟨k,hk,rfl,rfl,hj⟩:=hrel
  by_cases hlt:k<zs.length
  ·have hlt':(k:Int)<(zs.length:Int):=by omega
   obtain⟨b,off,rfl,hb,hc⟩:=h.at hlt;obtain⟨z,hz⟩:∃z,Hid (z=zs.getD k 0):=⟨_,rfl⟩;rw[<-hz.out]at hc
   by_cases hz0:z=0
   ·subst hz0;have J2:Hid (∀j,j<k+1->zs.getD j 0=0):=fun j hj2=>by
     by_cases e:j=k
     ·rw[e];exact hz.out.symm
     ·exact hj.out j Zo
    clear hj h;go_wp2;go_roundw
    case rel=>exact⟨k+1,Zo,Zg,by first|rfl|trivial,J2⟩
    case measure=>simp[intOf];omega
   ·have q:(z==0)=false:=Zq.2 hz0;have q2:(z !=0)=true:=by rw[bne,q];rfl
    have E:Hid (orL zs=z):=(orL_at hj.out hlt (by rw[<-hz.out];exact hz0)).trans hz.out.symm;clear hj h;go_wp2;go_ret;exact⟨by rw[E.out];rfl,rfl⟩
  ·obtain rfl:k=zs.length:=by omega
   have hge:¬(zs.length:Int)<(zs.length:Int):=Zo
   have E:Hid (orL zs=0):=orL_no hj.out;clear hj h;go_wp2;go_ret;exact⟨by rw[E.out];rfl,rfl⟩
def agRp(r:RpS):Value:=.agg #[.bool r.sp,.bool r.has,.int .i64 r.ep,.string ⟨r.da.toArray⟩]
theorem lay4{w W:World}{a b c d:Value}{t g:Nat}(hg:g=w.heap.size)(hW:W=w.alloc (.cells #[a,b,c,d] t)):W.cell? ⟨g,0,none⟩=some a/\W.cell? ⟨g,1,none⟩=some b/\W.cell? ⟨g,2,none⟩=some c/\W.cell? ⟨g,3,none⟩=some d/\Below w.heap.size w W:=by
 subst hg hW;have z:∀j,(w.alloc (.cells #[a,b,c,d] t)).cell? ⟨w.heap.size,j,none⟩= #[a,b,c,d][j]? :=fun j=>World.cell?_alloc_new _ _ _ _
 exact⟨z 0,z 1,z 2,z 3,belR _ _⟩
theorem saying_any{e:Int}{d:List UInt8}{w:World}:Calls Tryz.prog 188 #[.agg #[.int .i64 e,.string ⟨d.toArray⟩]] w fun x w'=>x= .returned (.agg #[.bool true,.bool true,.int .i64 e,.string ⟨d.toArray⟩])/\Below w.heap.size w w':=by
 go_enter Tryz.func188,Tryz.ntmps188
 go_wp2;obtain⟨W,hW⟩:∃W,W=(w.alloc (.cells #[.int .i64 e,.string ⟨d.toArray⟩] 177)).alloc (.cells #[.bool true,.bool true,.int .i64 e,.string ⟨d.toArray⟩] 215):=⟨_,rfl⟩;obtain⟨z0,z1,z2,z3,b⟩:=lay4 (g:=w.heap.size+1) Zs hW;rw[<-hW];exact bodyPost_ret (v:=.agg #[.bool true,.bool true,.int .i64 e,.string ⟨d.toArray⟩]) (by simp[results,Tryz.results188,go_sem,z0,z1,z2,z3]) rfl ⟨rfl,(belR _ _).step16 b Zs⟩
theorem setC4{w:World}{g:Nat}{a b c d x0 x1 x2 x3:Value}(m0:w.cell? ⟨g,0,none⟩=some x0)(m1:w.cell? ⟨g,1,none⟩=some x1)(m2:w.cell? ⟨g,2,none⟩=some x2)(m3:w.cell? ⟨g,3,none⟩=some x3){W:World}(hW:W=(((w.setCell ⟨g,0,none⟩ a).setCell ⟨g,1,none⟩ b).setCell ⟨g,2,none⟩ c).setCell ⟨g,3,none⟩ d):
  Only g w W/\W.cell? ⟨g,0,none⟩=some a/\W.cell? ⟨g,1,none⟩=some b/\W.cell? ⟨g,2,none⟩=some c/\W.cell? ⟨g,3,none⟩=some d:=by
 subst hW;refine⟨((((Only.refl _ _).setCell _ _).setCell _ _).setCell _ _).setCell _ _,?_,?_,?_,?_⟩
 ·rw[cell_setO Zd,cell_setO Zd,cell_setO Zd,World.cell?_setCell_same _ _ _ m0]
 ·rw[cell_setO Zd,cell_setO Zd,World.cell?_setCell_same _ _ _ ((cell_setO Zd).trans m1)]
 ·rw[cell_setO Zd,World.cell?_setCell_same _ _ _ ((cell_setO Zd).trans ((cell_setO Zd).trans m2))]
 ·exact World.cell?_setCell_same _ _ _ ((cell_setO Zd).trans ((cell_setO Zd).trans ((cell_setO Zd).trans m3)))
theorem hear_any{ad:Int}{v:Value}{p:List UInt8}{w:World}(hp:Rd w v p)(hl:p.length<=100000):Calls Tryz.prog 162 #[.int .i64 ad,v] w fun x w'=>x= .returned (agRp (heS ad p))/\Below w.heap.size w w':=by
 obtain⟨a,c,ev⟩:=hp.form;subst ev
 by_cases h0:p=[]
 ·subst h0;have e:agRp (heS ad [])= .agg #[.bool true,.bool false,.int .i64 0,.string ⟨#[]⟩]:=rfl;rw[e];clear hp e hl
  go_enter Tryz.func162,Tryz.ntmps162
  go_wp2;obtain⟨W,hW⟩:∃W,W=w.alloc (.cells #[.bool true,.bool false,.int .i64 0,.string ⟨#[]⟩] 215):=⟨_,rfl⟩;obtain⟨z0,z1,z2,z3,b⟩:=lay4 (g:=w.heap.size) rfl hW;rw[<-hW];exact bodyPost_ret (v:=.agg #[.bool true,.bool false,.int .i64 0,.string ⟨#[]⟩]) (by simp[results,Tryz.results162,go_sem,z0,z1,z2,z3]) rfl ⟨rfl,b⟩
 ·have h0':¬(p.length:Int)=0:=fun k=>h0 (List.length_eq_zero_iff.1 Zo)
  have h0'':((p.length:Int)==0)=false:=Zq.2 h0';obtain⟨X,hX⟩:∃X,Hid (X=upX ad p):=⟨_,rfl⟩;obtain⟨N,hN⟩:∃N,Hid (N=upN ad p):=⟨_,rfl⟩;obtain⟨D,hD⟩:∃D,Hid (D=upD ad p):=⟨_,rfl⟩;have E:Hid (agRp (heS ad p)=if X=0 then agRp ⟨true,true,((N:Nat):Int),D⟩else agRp rpN):=by
   show _=_
   unfold heS;rw[if_neg h0,hX.out,hN.out,hD.out]
   split<;>rfl
  have KU:=fun W (b:Below w.heap.size w W)=>sunpack_far (a:=ad) (hp.below b) hl
  rw[<-hX.out,<-hN.out,<-hD.out]at KU;clear hX hN hD hp
  go_enter Tryz.func162,Tryz.ntmps162
  go_wp2_with fail
  obtain⟨W,hW⟩:∃W,W=w.alloc (.cells #[.bool false,.bool false,.int .i64 0,.string ⟨#[]⟩] 215):=⟨_,rfl⟩;obtain⟨z0,z1,z2,z3,b⟩:=lay4 (g:=w.heap.size) rfl hW;have sz:w.heap.size<W.heap.size:=by rw[hW];simp
  have fz:∀j,W.frozen? ⟨w.heap.size,j,none⟩=false:=fun j=>by rw[hW];simp[go_sem]
  rw[<-hW];clear hW;refine(KU _ b).mono ?_
  rintro _ w1 ⟨u,rfl,R1,F1,B1⟩;have CS:=conv_str16 R1;obtain⟨ua,uc,eu⟩:=R1.form;subst eu;replace z0:=(B1.cell (p:=⟨w.heap.size,0,none⟩) sz).trans z0;replace z1:=(B1.cell (p:=⟨w.heap.size,1,none⟩) sz).trans z1;replace z2:=(B1.cell (p:=⟨w.heap.size,2,none⟩) sz).trans z2;replace z3:=(B1.cell (p:=⟨w.heap.size,3,none⟩) sz).trans z3;have fz1:∀j,w1.frozen? ⟨w.heap.size,j,none⟩=false:=fun j=>(B1.frozen (p:=⟨w.heap.size,j,none⟩) sz).trans (fz j)
  have f0:=fz1 0;have f1:=fz1 1;have f2:=fz1 2;have f3:=fz1 3;have b1:Below w.heap.size w w1:=b.step16 B1 b.size;have sz1:w.heap.size<w1.heap.size:=Zu sz B1.size;clear KU R1 F1 B1 fz fz1 b sz
  by_cases q:X=0
  ·rw[if_pos q]at E;subst q
   go_wp2_with fail
   refine saying_any.mono ?_
   rintro _ w2 ⟨rfl,B2⟩;replace z0:=(B2.cell (p:=⟨w.heap.size,0,none⟩) sz1).trans z0;replace z1:=(B2.cell (p:=⟨w.heap.size,1,none⟩) sz1).trans z1;replace z2:=(B2.cell (p:=⟨w.heap.size,2,none⟩) sz1).trans z2;replace z3:=(B2.cell (p:=⟨w.heap.size,3,none⟩) sz1).trans z3;replace f0:=(B2.frozen (p:=⟨w.heap.size,0,none⟩) sz1).trans f0;replace f1:=(B2.frozen (p:=⟨w.heap.size,1,none⟩) sz1).trans f1;replace f2:=(B2.frozen (p:=⟨w.heap.size,2,none⟩) sz1).trans f2;replace f3:=(B2.frozen (p:=⟨w.heap.size,3,none⟩) sz1).trans f3;have b2:Below w.heap.size w w2:=b1.step16 B2 b1.size;clear B2 CS b1;obtain⟨W,hW⟩:∃W,W=(((w2.setCell ⟨w.heap.size,0,none⟩ (.bool true)).setCell ⟨w.heap.size,1,none⟩ (.bool true)).setCell ⟨w.heap.size,2,none⟩ (.int .i64 (N:Int))).setCell ⟨w.heap.size,3,none⟩ (.string ⟨D.toArray⟩):=⟨_,rfl⟩;obtain⟨O,n0,n1,n2,n3⟩:=setC4 z0 z1 z2 z3 hW;go_wp2;rw[<-hW];exact bodyPost_ret (v:=.agg #[.bool true,.bool true,.int .i64 (N:Int),.string ⟨D.toArray⟩]) (by simp[results,Tryz.results162,go_sem,n0,n1,n2,n3]) rfl ⟨by rw[E.out];rfl,b2.trans (O.below Zr)⟩
  ·rw[if_neg q]at E;have q':(X==0)=false:=Zq.2 q;obtain⟨W,hW⟩:∃W,W=(((w1.setCell ⟨w.heap.size,0,none⟩ (.bool false)).setCell ⟨w.heap.size,1,none⟩ (.bool false)).setCell ⟨w.heap.size,2,none⟩ (.int .i64 0)).setCell ⟨w.heap.size,3,none⟩ (.string ⟨#[]⟩):=⟨_,rfl⟩;obtain⟨O,n0,n1,n2,n3⟩:=setC4 z0 z1 z2 z3 hW;go_wp2;rw[<-hW];exact bodyPost_ret (v:=.agg #[.bool false,.bool false,.int .i64 0,.string ⟨#[]⟩]) (by simp[results,Tryz.results162,go_sem,n0,n1,n2,n3]) rfl ⟨by rw[E.out];rfl,b1.trans (O.below Zr)⟩
open Go.RowKit Go.Shelf
def rpC(r:RpS)(j:Nat):Value:=if j=0 then .bool r.sp else if j=1 then .bool r.has else if j=2 then .int .i64 r.ep else .string ⟨r.da.toArray⟩
def RpRow(w:World)(g n:Nat)(f:Nat->RpS):Prop:=w.rowIs g 215 (n*4) (fun j=>rpC (f (j/4)) (j%4))
section
variable {w w':World} {g n:Nat} {f f':Nat->RpS}
theorem RpRow.lt(h:RpRow w g n f):g<w.heap.size:=World.rowIs.lt h
theorem RpRow.congr(h:RpRow w g n f)(e:∀i,i<n->f i=f' i):RpRow w g n f':=World.rowIs.congr h fun j hj=>by rw[e (j/4) Zo]
theorem RpRow.block(h:RpRow w g n f)(e:w'.heap[g]? =w.heap[g]?):RpRow w' g n f:=World.rowIs.of_block h e
theorem RpRow.below(h:RpRow w g n f)(b:Below w.heap.size w w'):RpRow w' g n f:=h.block (b.block g h.lt)
theorem RpRow.get(h:RpRow w g n f){i j:Nat}(hi:i<n)(hj:j<4):w.cell? ⟨g,i*4+j,none⟩=some (rpC (f i) j):=by
 have:=World.rowIs.cell h (i:=i*4+j) Zo;rw[this,show(i*4+j)/4=i by omega,show(i*4+j)%4=j by omega]
theorem RpRow.cells(h:RpRow w g n f){i:Nat}(hi:i<n):w.cell? ⟨g,i*4,none⟩=some (.bool (f i).sp)/\w.cell? ⟨g,i*4+1,none⟩=some (.bool (f i).has)/\w.cell? ⟨g,i*4+2,none⟩=some (.int .i64 (f i).ep)/\w.cell? ⟨g,i*4+3,none⟩=some (.string ⟨(f i).da.toArray⟩):=
 ⟨h.get hi (j:=0) Zd,h.get hi (j:=1) Zd,h.get hi (j:=2) Zd,h.get hi (j:=3) Zd⟩
theorem RpRow.frozen(h:RpRow w g n f)(j:Nat):w.frozen? ⟨g,j,none⟩=false:=World.rowIs.frozen h j
theorem RpRow.put(h:RpRow w g n f)(i:Nat)(r:RpS):RpRow ((((w.setCell ⟨g,i*4,none⟩ (.bool r.sp)).setCell ⟨g,i*4+1,none⟩ (.bool r.has)).setCell ⟨g,i*4+2,none⟩ (.int .i64 r.ep)).setCell ⟨g,i*4+3,none⟩ (.string ⟨r.da.toArray⟩)) g n (fun k=>if k=i then r else f k):=by
 refine World.rowIs.congr ((((World.rowIs.set h _ _).set _ _).set _ _).set _ _) fun j hj=>?_
 show _=rpC (if j/4=i then r else f (j/4)) (j%4)
 by_cases e3:j=i*4+3
 ·subst e3;rw[if_pos rfl,if_pos Zo,show(i*4+3)%4=3 by omega];rfl
 rw[if_neg e3]
 by_cases e2:j=i*4+2
 ·subst e2;rw[if_pos rfl,if_pos Zo,show(i*4+2)%4=2 by omega];rfl
 rw[if_neg e2]
 by_cases e1:j=i*4+1
 ·subst e1;rw[if_pos rfl,if_pos Zo,show(i*4+1)%4=1 by omega];rfl
 rw[if_neg e1]
 by_cases e0:j=i*4
 ·subst e0;rw[if_pos rfl,if_pos Zo,show(i*4)%4=0 by omega];rfl
 rw[if_neg e0,if_neg Zo]
theorem info_reply:(Tryz.prog.info? 215).map (fun i=>(i.zero,i.size,i.bytes))=some (some (.agg #[.bool false,.bool false,.int .i64 0,.string ⟨#[]⟩]),4,32):=Zk
theorem run_make_replies(n:Nat)(hn:n<=1000)(w:World):(Instr.makeSlice 173 (.int .i64 (n:Int)) (.int .i64 (n:Int))).run Tryz.prog w= .ok (.slice (some ⟨w.heap.size,0,none⟩) n n) (w.alloc (.cells (madeCells #[.bool false,.bool false,.int .i64 0,.string ⟨#[]⟩] (n*4)) 215)):=by
 obtain⟨i,hi,hzz⟩:=Option.map_eq_some_iff.1 info_reply;simp only[Prod.mk.injEq]at hzz;obtain⟨hz,hs,hb⟩:=hzz;have hr:=run_make (P:=Tryz.prog) w 173 215 i _ Tryz.underlying173 hi hz .i64 .i64 n n Zo (Int.le_refl _) (by rw[hb];omega) Zo;simp only[Int.toNat_natCast,hs]at hr;exact hr
theorem RpRow.made(w:World)(n:Nat):RpRow (w.alloc (.cells (madeCells #[.bool false,.bool false,.int .i64 0,.string ⟨#[]⟩] (n*4)) 215)) w.heap.size n (fun _=>rpN):=by
 refine⟨_,Deep.blk_alloc_new _ _,size_madeCells _ _,fun i hi=>?_⟩;have h4:i%4<4:=Nat.mod_lt _ Zd
 have:i%4=0∨i%4=1∨i%4=2∨i%4=3:=Zo
 rcases this with e|e|e|e<;>simp[madeCells,hi,e,rpC,rpN]
end
theorem vask1_any{w:World}{ab:Nat}{GA:Nat->Prop}{a:ArS}(h:ArAt w ab GA a){i n g:Nat}(hi:i<n)(hn:n<=1000){ad:Int}(ha:(Lit.int .i64 ad).wf=true){f:Nat->RpS}(hR:RpRow w g n f){b0 b1 b2:Nat}(n0:b0≠g)(n1:b1≠g)(n2:b2≠g)
  (c0:w.cell? ⟨b0,0,none⟩=some (.pointer (some ⟨ab,0,none⟩))) (c1:w.cell? ⟨b1,0,none⟩=some (.int .i64 ad)) (c2:w.cell? ⟨b2,0,none⟩=some (.slice (some ⟨g,0,none⟩) n n)):
  Calls Tryz.prog 161 #[.int .i64 (i:Int),.pointer (some ⟨b0,0,none⟩),.pointer (some ⟨b1,0,none⟩),.pointer (some ⟨b2,0,none⟩)] w fun e w'=>e= .returned (.int .i64 (rdAX a (i:Int) ad))/\TurnG (fun k=>k=g) w w'/\RpRow w' g n (fun k=>if k=i then (if rdAX a (i:Int) ad=0 then heS ad (rdAB a (i:Int) ad)else f i)else f k):=by
 have KR:=aread_any h (i:=(i:Int)) (ad:=ad) (WalkArith.wf_i64 Zo) ha;have lp:(rdAB a (i:Int) ad).length<=100000:=Nat.le_trans (rdB_le h.ok _ _) Zd;obtain⟨x,hx⟩:∃x,Hid (x=rdAX a (i:Int) ad):=⟨_,rfl⟩;obtain⟨p,hp⟩:∃p,Hid (p=rdAB a (i:Int) ad):=⟨_,rfl⟩;rw[<-hx.out,<-hp.out]at KR ⊢;rw[<-hp.out]at lp;have l1:b1<w.heap.size:=World.block_lt_of_cell? w _ c1;have l2:b2<w.heap.size:=World.block_lt_of_cell? w _ c2;have HN:Hid (b1≠g/\b2≠g):=⟨n1,n2⟩;clear hx hp h n0 n1 n2
 go_enter Tryz.func161,Tryz.ntmps161
 go_wp2_with fail
 refine KR.mono ?_
 rintro _ w1 ⟨v,rfl,O1,B1⟩;have R1:=Rd.owned O1;obtain⟨va,vc,ev⟩:=R1.form;subst ev;replace c1:=(B1.cell (p:=⟨b1,0,none⟩) l1).trans c1;replace c2:=(B1.cell (p:=⟨b2,0,none⟩) l2).trans c2;have hR1:=hR.below B1;clear KR O1 c0
 by_cases q:x=0
 ·subst q;have HH:=fun W (b:Below w1.heap.size w1 W)=>hear_any (ad:=ad) (R1.below b) lp
  obtain⟨r,hr⟩:∃r,Hid (r=heS ad p):=⟨_,rfl⟩;rw[<-hr.out]at HH;obtain⟨rs,rh,re,rd⟩:=r;have HR:Hid (RpRow w1 g n f):=hR1;have HB:Hid (Below w.heap.size w w1):=B1;have hi':(i:Int)<(n:Int):=Zo
  have l1':b1<w1.heap.size:=Zu l1 B1.size;have l2':b2<w1.heap.size:=Zu l2 B1.size;have s0:w1.cell? ⟨b1,0,none⟩=some (.int .i64 ad)/\w1.cell? ⟨b2,0,none⟩=some (.slice (some ⟨g,0,none⟩) n n):=⟨c1,c2⟩;have SE:Hid (∀W,Below w1.heap.size w1 W->(W.cell? ⟨b1,0,none⟩=some (.int .i64 ad)/\W.cell? ⟨b2,0,none⟩=some (.slice (some ⟨g,0,none⟩) n n))):=fun W b=>⟨(b.cell (p:=⟨b1,0,none⟩) l1').trans c1,(b.cell (p:=⟨b2,0,none⟩) l2').trans c2⟩
  have BD:Below w1.heap.size w1 w1.drew:=Zf.drew;have sD:=SE.out _ BD;have EV:Hid (agRp ⟨rs,rh,re,rd⟩= .agg #[.bool rs,.bool rh,.int .i64 re,.string ⟨rd.toArray⟩]):=rfl;rw[EV.out]at HH;have HK:Hid (∀W W',Only g W W'->(W.cell? ⟨b1,0,none⟩=some (.int .i64 ad)/\W.cell? ⟨b2,0,none⟩=some (.slice (some ⟨g,0,none⟩) n n))->(W'.cell? ⟨b1,0,none⟩=some (.int .i64 ad)/\W'.cell? ⟨b2,0,none⟩=some (.slice (some ⟨g,0,none⟩) n n))):=fun W W' o k=>⟨(o.cell (p:=⟨b1,0,none⟩) HN.out.1).trans k.1,(o.cell (p:=⟨b2,0,none⟩) HN.out.2).trans k.2⟩
  clear hR hR1 B1 R1 EV
  go_wp2_with fail
  go_region_held3 (fun wx=>wx.cell? ⟨b1,0,none⟩=some (.int .i64 ad)/\wx.cell? ⟨b2,0,none⟩=some (.slice (some ⟨g,0,none⟩) n n)) (first|exact s0|exact sD|exact s1|exact HK.out _ _ (((((Only.refl g _).setCell _ _).setCell _ _).setCell _ _).setCell _ _) s1) (first
   |(go_at_call 162;go_loud (refine(HH _ BD).mono ?_);rintro _ w2 ⟨rfl,B2⟩;have B3:=BD.step16 B2 BD.size;have s1:=SE.out _ B3;have R2:=HR.out.below B3;have f0:=R2.frozen (i*4);have f1:=R2.frozen (i*4+1);have f2:=R2.frozen (i*4+2);have f3:=R2.frozen (i*4+3);obtain⟨m0,m1,m2,m3⟩:=R2.cells hi))
  have FIN:Hid (TurnG (fun k=>k=g) w ((((w2.setCell ⟨g,i*4,none⟩ (.bool rs)).setCell ⟨g,i*4+1,none⟩ (.bool rh)).setCell ⟨g,i*4+2,none⟩ (.int .i64 re)).setCell ⟨g,i*4+3,none⟩ (.string ⟨rd.toArray⟩))/\RpRow ((((w2.setCell ⟨g,i*4,none⟩ (.bool rs)).setCell ⟨g,i*4+1,none⟩ (.bool rh)).setCell ⟨g,i*4+2,none⟩ (.int .i64 re)).setCell ⟨g,i*4+3,none⟩ (.string ⟨rd.toArray⟩)) g n (fun k=>if k=i then heS ad p else f k)):=by
   refine⟨(Below.turnG (HB.out.step16 B3 HB.out.size) _).trans (Only.turnG (((((Only.refl g _).setCell _ _).setCell _ _).setCell _ _).setCell _ _) rfl),?_⟩;rw[<-hr.out];exact R2.put i ⟨rs,rh,re,rd⟩
  clear B2 B3 R2 f0 f1 f2 f3 m0 m1 m2 m3 s0 s1 sD BD HH;go_wp2;go_ret;exact⟨rfl,by simpa using FIN.out⟩
 ·have q':(x==0)=false:=Zq.2 q;have FIN:Hid (TurnG (fun k=>k=g) w w1/\RpRow w1 g n (fun k=>if k=i then (if x=0 then heS ad p else f i)else f k)):=⟨Below.turnG B1 _,hR1.congr fun k hk=>by
   rw[if_neg q]
   by_cases e:k=i
   ·rw[if_pos e,e]
   ·rw[if_neg e]⟩
  clear hR hR1 B1 R1;go_wp2;go_ret;exact⟨rfl,by simpa[q]using FIN.out⟩
theorem enters_ask1:Hid (∀(args:Array Value) (w:World),Sem.run Tryz.prog (callFunc 161 args) w= .ok (.enter 161 args) w):=enters_of Tryz.func161 Zk rfl
def AskP(w:World)(a:ArS)(ad:Int)(e:Ending)(w':World):Prop:=
 (a.off=true/\∃va n c,e= .returned (.tuple #[.slice va n c,.int .i64 130])/\Below w.heap.size w w')∨(a.off=false/\∃g,e= .returned (.tuple #[.slice (some ⟨g,0,none⟩) a.D.length a.D.length,.int .i64 0])/\RpRow w' g a.D.length (fun i=>rpS (sayV a ad i))/\w.heap.size<=g/\Below w.heap.size w w')
theorem rdAX_off{a:ArS}{i ad:Int}(h:a.off=true):rdAX a i ad=130:=if_pos h
theorem ask_step{a:ArS}{ad:Int}{r:Nat}{V:World}{g n:Nat}(hR:RpRow V g n (fun k=>if k=r then (if rdAX a (r:Int) ad=0 then heS ad (rdAB a (r:Int) ad)else (if r<r then rpS (sayV a ad r)else rpN))else (if k<r then rpS (sayV a ad k)else rpN))):RpRow V g n (fun k=>if k<r+1 then rpS (sayV a ad k)else rpN):=hR.congr fun k _=>by
 by_cases e:k=r
 ·subst e;rw[if_pos rfl,if_pos (Nat.lt_succ_self k)]
  by_cases q:rdAX a (k:Int) ad=0
  ·rw[if_pos q,rp_hear q]
  ·rw[if_neg q,if_neg Zo,rp_none q]
 ·rw[if_neg e]
  by_cases q:k<r
  ·rw[if_pos q,if_pos Zo]
  ·rw[if_neg q,if_neg Zo]
theorem vask_any{w:World}{ab:Nat}{GA:Nat->Prop}{a:ArS}(h:ArAt w ab GA a){ad:Int}(ha:(Lit.int .i64 ad).wf=true):Calls Tryz.prog 114 #[.pointer (some ⟨ab,0,none⟩),.int .i64 ad] w (AskP w a ad):=by
 have d1:=h.ok.d1;have d2:=h.ok.d2;have lG:=h.lt;obtain⟨W1,hW1⟩:∃W1,W1=(w.alloc (.cells #[.pointer (some ⟨ab,0,none⟩)] 27)).alloc (.cells #[.int .i64 ad] 3):=⟨_,rfl⟩;obtain⟨B1,c0,c1,z1⟩:Below w.heap.size w W1/\W1.cell? ⟨w.heap.size,0,none⟩=some (.pointer (some ⟨ab,0,none⟩))/\W1.cell? ⟨w.heap.size+1,0,none⟩=some (.int .i64 ad)/\W1.heap.size=w.heap.size+2:=by
  obtain⟨u1,hu1⟩:∃u1,u1=w.alloc (.cells #[.pointer (some ⟨ab,0,none⟩)] 27):=⟨_,rfl⟩;rw[<-hu1]at hW1;have s1:u1.heap.size=w.heap.size+1:=by rw[hu1];simp
  have b1:Below w.heap.size w u1:=by rw[hu1];exact belR _ _
  have b2:Below u1.heap.size u1 W1:=by rw[hW1];exact belR _ _
  have k1:u1.cell? ⟨w.heap.size,0,none⟩=some (.pointer (some ⟨ab,0,none⟩)):=by rw[hu1];exact World.cell?_alloc_new _ _ _ _
  have k2:W1.cell? ⟨u1.heap.size,0,none⟩=some (.int .i64 ad):=by rw[hW1];exact World.cell?_alloc_new _ _ _ _
  refine⟨b1.step16 b2 b1.size,(b2.cell (p:=⟨w.heap.size,0,none⟩) (by show w.heap.size<_;omega)).trans k1,?_,?_⟩
  ·rw[<-s1];exact k2
  ·have:W1.heap.size=u1.heap.size+1:=by rw[hW1];simp
   omega
 have KA:=vall_any (h.below B1);obtain⟨n,hn⟩:∃n,Hid (n=a.D.length):=⟨_,rfl⟩;rw[<-hn.out]at d1 d2 KA;have mk1:=run_make_replies n Zo;have HA:Hid (ArAt w ab GA a):=h;clear h
 go_enter Tryz.func114,Tryz.ntmps114
 go_wp2_with fail
 rw[<-hW1];clear hW1
 go_wp2_with fail
 refine KA.mono ?_
 rintro _ u ⟨g0,rfl,r0,s0,bu⟩;clear KA;have mk2:=mk1 u;obtain⟨u2,hu2⟩:∃u2,u2=u.alloc (.cells (madeCells #[.bool false,.bool false,.int .i64 0,.string ⟨#[]⟩] (n*4)) 215):=⟨_,rfl⟩;have R2:RpRow u2 u.heap.size n (fun _=>rpN):=by rw[hu2];exact RpRow.made u n
 have bu2:Below u.heap.size u u2:=by rw[hu2];exact belR _ _
 have z2:u2.heap.size=u.heap.size+1:=by rw[hu2];simp
 obtain⟨g,hg⟩:∃g,Hid (g=u.heap.size):=⟨_,rfl⟩;rw[<-hu2,<-hg.out]at mk2;rw[<-hg.out]at R2 z2;clear mk1 hu2;obtain⟨W,hW⟩:∃W,W=u2.alloc (.cells #[.slice (some ⟨g,0,none⟩) n n] 173):=⟨_,rfl⟩;have bW:Below u2.heap.size u2 W:=by rw[hW];exact belR _ _
 have c2:W.cell? ⟨u2.heap.size,0,none⟩=some (.slice (some ⟨g,0,none⟩) n n):=by rw[hW];exact World.cell?_alloc_new _ _ _ _
 have zW:W.heap.size=u2.heap.size+1:=by rw[hW];simp
 have B2:Below w.heap.size w W:=((B1.step16 bu B1.size).step16 bu2 (by have:=bu.size;omega)).step16 bW (by have:=bu.size;have:=bu2.size;omega);have zu:w.heap.size+2<=u.heap.size:=by have:=bu.size;omega
 have bb:Below W1.heap.size W1 W:=(bu.step16 bu2 bu.size).step16 bW (by have:=bu.size;have:=bu2.size;omega);replace c0:=(bb.cell (p:=⟨w.heap.size,0,none⟩) (by show w.heap.size<_;omega)).trans c0;replace c1:=(bb.cell (p:=⟨w.heap.size+1,0,none⟩) (by show w.heap.size+1<_;omega)).trans c1;have gu:=hg.out;have r1:W.rowIs g0 3 n (fun i=>.int .i64 (i:Int)):=r0.of_block ((bu2.step16 bW bu2.size).block g0 r0.lt);have RW:RpRow W g n (fun _=>rpN):=R2.below bW;have lG0:=r0.lt;have KE:=@veach_any 161 (.pointer (some ⟨w.heap.size,0,none⟩)) (.pointer (some ⟨w.heap.size+1,0,none⟩)) (.pointer (some ⟨u2.heap.size,0,none⟩)) (some ⟨g0,0,none⟩) n n (zsN (List.range n)) W (by rw[zsN_length,List.length_range]) Zo (fun r=>rdAX a (r:Int) ad)
  (fun r V=>TurnG (fun k=>k=g) W V/\RpRow V g n (fun k=>if k<r then rpS (sayV a ad k)else rpN)) (fun r V=>TurnG (fun k=>k=g) W V) enters_ask1
  (fun r V ⟨t,_⟩=>row_rdI Zs (r1.of_block (t.block g0 r1.lt (by show ¬g0=g;omega))) (fun i hi=>by simp[List.getD,hi]) Zo)
  (fun r V hr ⟨t,R⟩=>by
   have ez:(zsN (List.range n)).getD r 0=(r:Int):=by rw[zsN_getD];simp[List.getD,hr]
   rw[ez];have hA:ArAt V ab GA a:=(HA.out.below B2).keep (fun k hk=>t.block k (by have:=lG k hk;have:=B2.size;omega) (by show ¬k=g;have:=lG k hk;omega)) t.size;refine(vask1_any hA hr Zo ha R (b0:=w.heap.size) (b1:=w.heap.size+1) (b2:=u2.heap.size) Zo Zo Zo
    ((t.cell (p:=⟨w.heap.size,0,none⟩) (by show w.heap.size<_;omega) (by show ¬w.heap.size=g;omega)).trans c0) ((t.cell (p:=⟨w.heap.size+1,0,none⟩) (by show w.heap.size+1<_;omega) (by show ¬w.heap.size+1=g;omega)).trans c1) ((t.cell (p:=⟨u2.heap.size,0,none⟩) (by show u2.heap.size<_;omega) (by show ¬u2.heap.size=g;omega)).trans c2)).mono ?_
   rintro _ V2 ⟨rfl,t2,R2⟩;exact⟨rfl,fun _=>t.trans t2,fun _=>⟨t.trans t2,ask_step R2⟩⟩)
  ⟨TurnG.refl _ _,RW.congr fun i _=>by rw[if_neg Zo]⟩
 have FIN:Hid (∀e V,EachP n (fun r=>rdAX a (r:Int) ad) (fun r V=>TurnG (fun k=>k=g) W V/\RpRow V g n (fun k=>if k<r then rpS (sayV a ad k)else rpN)) (fun r V=>TurnG (fun k=>k=g) W V) e V->Below w.heap.size w V/\V.cell? ⟨u2.heap.size,0,none⟩=some (.slice (some ⟨g,0,none⟩) n n)/\((a.off=true/\e= .returned (.tuple #[.int .i64 0,.int .i64 130]))∨(a.off=false/\∃c:Nat,e= .returned (.tuple #[.int .i64 (c:Int),.int .i64 0])/\RpRow V g n (fun i=>rpS (sayV a ad i))))):=by
  have key:∀V,TurnG (fun k=>k=g) W V->Below w.heap.size w V/\V.cell? ⟨u2.heap.size,0,none⟩=some (.slice (some ⟨g,0,none⟩) n n):=fun V t=>⟨B2.trans (t.below (B:=w.heap.size) (fun k hk=>by subst hk;omega) B2.size),(t.cell (p:=⟨u2.heap.size,0,none⟩) (by show u2.heap.size<_;omega) (by show ¬u2.heap.size=g;omega)).trans c2⟩
  rintro e V (⟨r,hr,x1,x2,rfl,t⟩|⟨x2,rfl,t,R⟩)
  ·refine⟨(key V t).1,(key V t).2,Or.inl ⟨?_,rfl⟩⟩;cases ho:a.off with
   |true=>rfl
   |false=>exact absurd x1 (rdAX_up ho)
  ·refine⟨(key V t).1,(key V t).2,Or.inr ⟨?_,_,rfl,R.congr fun i hi=>if_pos hi⟩⟩;cases ho:a.off with
   |false=>rfl
   |true=>exact absurd (rdAX_off ho) (x2 0 Zo)
 have gw:Hid (w.heap.size<=g):=by show _<=_;omega
 clear c0 c1 c2 bb gu r1 RW R2 bu2 bW z1 z2 zW zu B1 B2 bu r0 s0 lG HA hg lG0
 go_wp2_with fail
 rw[<-hW];refine KE.mono ?_
 rintro e V hE;obtain⟨f1,f2,⟨f3,rfl⟩|⟨f3,c,rfl,f4⟩⟩:=FIN.out e V hE
 ·have F:Hid (AskP w a ad (.returned (.tuple #[.slice (some ⟨g,0,none⟩) n n,.int .i64 130])) V):=Or.inl ⟨f3,_,_,_,rfl,f1⟩;clear FIN KE hE f1 f3 hW;go_wp2;exact bodyPost_ret (v:=.tuple #[.slice (some ⟨g,0,none⟩) n n,.int .i64 130]) (by simp[results,Tryz.results114,go_sem]) rfl F.out
 ·have F:Hid (AskP w a ad (.returned (.tuple #[.slice (some ⟨g,0,none⟩) n n,.int .i64 0])) V):=Or.inr ⟨f3,g,by rw[hn.out],by rw[<-hn.out];exact f4,gw.out,f1⟩;clear FIN KE hE f1 f3 f4 hW;go_wp2;exact bodyPost_ret (v:=.tuple #[.slice (some ⟨g,0,none⟩) n n,.int .i64 0]) (by simp[results,Tryz.results114,go_sem]) rfl F.out
theorem wi_step{S:List SaS}{K:List Bool}{r:Nat}(h:wiF S K r=false):wiF S K (r+1)=(hb K r&&(rpS (sF S r)).sp):=by
 unfold wiF;rw[h,Bool.false_or];rfl
theorem wi_mono{S:List SaS}{K:List Bool}{r:Nat}(h:wiF S K r=true):∀k,wiF S K (r+k)=true
 |0=>h
 |k+1=>by
  show wiF S K (r+k+1)=true
  unfold wiF;rw[wi_mono h k,Bool.true_or]
theorem iswit_any{w:World}{g n:Nat}{S:List SaS}(hR:RpRow w g n (fun i=>rpS (sF S i)))(hn:n<=1000){u:Value}{K:List Bool}(hK:RdB w u K):Calls Tryz.prog 116 #[.slice (some ⟨g,0,none⟩) n n,u] w fun e w'=>e= .returned (.bool (wiF S K n))/\Below w.heap.size w w':=by
 obtain⟨ua,uc,eu⟩:=hK.form;subst eu
 go_enter Tryz.func116,Tryz.ntmps116
 go_wp2_with fail
 go_loopw [9] (fun i wr=>∃k:Nat,k<=n/\i= .int .i64 (k:Int)/\Hid (Below w.heap.size w wr)/\Hid (wiF S K k=false)) (fun i _=>n-(intOf i).toNat)
 case atStart=>exact⟨0,Zz,rfl,Zf,rfl⟩
 case round=>
  obtain⟨k,hk,rfl,hB,hW⟩:=hrel
  by_cases hlt:k<n
  ·have hlt':(k:Int)<(n:Int):=by omega
   obtain⟨z0,z1,z2,z3⟩:=(hR.below hB.out).cells hlt;have ST:=wi_step (S:=S) (K:=K) hW.out;generalize rpS (sF S k)=R at z0 z1 z2 z3 ST;obtain⟨rs,rh,re,rd⟩:=R;simp only at z0 z1 z2 z3 ST;have BA:Hid (Below w.heap.size w (wr.alloc (.cells #[.bool rs,.bool rh,.int .i64 re,.string ⟨rd.toArray⟩] 215))):=hB.out.step16 (belR _ _) hB.out.size;cases rs with
   |false=>
    have SN:Hid (wiF S K (k+1)=false):=by show _=_;rw[ST,Bool.and_false]
    clear ST hB hW;go_wp2;go_roundw
    case rel=>exact⟨k+1,Zo,Zg,BA,SN⟩
    case measure=>simp[intOf];omega
   |true=>
    by_cases hl:k<K.length
    ·have hl':(k:Int)<(K.length:Int):=by omega
     obtain⟨b,off,rfl,hb1,hc⟩:=(hK.below BA.out).at hl;obtain⟨x,hx⟩:∃x,Hid (x=hb K k):=⟨_,rfl⟩;rw[<-hx.out]at hc ST;cases x with
     |false=>
      have SN:Hid (wiF S K (k+1)=false):=ST;clear ST hB hW;go_wp2;go_roundw
      case rel=>exact⟨k+1,Zo,Zg,BA,SN⟩
      case measure=>simp[intOf];omega
     |true=>
      have SN:Hid (wiF S K n=true):=by
       have e:wiF S K (k+1)=true:=ST;obtain⟨j,rfl⟩:=Nat.exists_eq_add_of_lt hlt;rw[show k+j+1=k+1+j by omega];exact wi_mono e j
      clear ST hB hW;go_wp2;go_ret;exact⟨by rw[SN.out];rfl,BA.out⟩
    ·have hl':¬(k:Int)<(K.length:Int):=by omega
     have hld:decide ((k:Int)<(K.length:Int))=false:=Zx hl';have SN:Hid (wiF S K (k+1)=false):=by
      show _=_
      rw[ST];simp[hb,List.getD,Nat.le_of_not_lt hl]
     clear ST hB hW;go_wp2;go_roundw
     case rel=>exact⟨k+1,Zo,Zg,BA,SN⟩
     case measure=>simp[intOf];omega
  ·obtain rfl:k=n:=by omega
   have hge:¬(k:Int)<(k:Int):=Zo
   clear hR hK;go_wp2;go_ret;exact⟨by rw[hW.out];rfl,hB.out⟩
end Go.Proofs.YtclieefpnbdbjaaGreat.Gf
namespace Go.Proofs.YtclieefpnbdbjaaGreat.Gf
set_option linter.unusedVariables false
set_option linter.unusedSimpArgs false
open Go.RowKit
open Go.Maps (Keyed)
theorem laid17:laidOutB Tryz.prog=true:=Zk
theorem row17:(177:TypeId)<Tryz.prog.types.size:=of_decide_eq_true Zk
theorem wide17:(match Tryz.prog.underlying 177 with|some (.array _ _)|some (.struct _)=>true|_=>false)=true:=Zk
theorem keyAt17:Tryz.prog.keyTypeAt 2 177=true:=Zk
theorem keyTy17:Tryz.prog.keyType 177=true:=Zk
theorem cells17:Tryz.prog.cellsOf 177=2:=Zk
theorem cellsi17:Tryz.prog.cellsOf 3=1:=Zk
theorem cellss17:Tryz.prog.cellsOf 9=1:=Zk
theorem klaw17:WideMaps.KeyLaw Tryz.prog 177:=deep_law_laid laid17 (m:=2) Zo row17 keyAt17 wide17
theorem keyed17:Keyed Tryz.prog 177:=Keyed.of_law klaw17
def kV(e:Int)(d:List UInt8):Value:=.agg #[.int .i64 e,.string ⟨d.toArray⟩]
theorem kV_inj{e e':Int}{d d':List UInt8}(h:kV e d=kV e' d'):e=e'/\d=d':=by
 unfold kV at h;simp at h;exact⟨h.1,h.2⟩
def OkK(e:Int)(d:List UInt8):Prop:=(Lit.int .i64 e).wf=true/\d.length<=maxLen
theorem pos_succ17{n m:Nat}(h:n<m):∃k,m=k+1:=⟨m-1,Zo⟩
theorem size17:∃k,Tryz.prog.types.size=k+1:=pos_succ17 row17
theorem key_lits{e:Int}{d:List UInt8}(h:OkK e d):Tryz.prog.keyLits (Tryz.prog.types.size+1) 177 [.int .i64 e,.string ⟨d.toArray⟩]=some [.int .i64 e,.string d]:=by
 obtain⟨k,hk⟩:=size17;have h2:(⟨d.toArray⟩:ByteArray).size<=maxLen:=by show d.toArray.size<=_;simpa using h.2
 rw[hk];have e1:∀m,Tryz.prog.keyLits (m+1) 3 [.int .i64 e]=some [.int .i64 e]:=fun m=>by
  unfold Program.keyLits;rw[Tryz.underlying3];simp[h.1]
 have e2:∀m,Tryz.prog.keyLits (m+1) 9 [.string ⟨d.toArray⟩]=some [.string d]:=fun m=>by
  unfold Program.keyLits;rw[Tryz.underlying9];simp[h2]
 unfold Program.keyLits;rw[Tryz.underlying177];simp[cells17,cellsi17,cellss17,e1,e2]
def kL(e:Int)(d:List UInt8):Lit:=.string (keyBytes [.int .i64 e,.string d])
theorem key_of{e:Int}{d:List UInt8}(h:OkK e d):keyOf Tryz.prog 177 (kV e d)=some (kL e d):=by
 have hf:(kV e d).formed Tryz.prog 177=true:=by
  unfold kV;simp[Value.formed,Tryz.underlying177,cells17]
 unfold keyOf;rw[Tryz.underlying177];simp only[keyTy17,hf,Bool.and_self,if_true]
 have:(kV e d).cells.toList=[.int .i64 e,.string ⟨d.toArray⟩]:=rfl
 rw[this,key_lits h];rfl
theorem key_inv{v:Value}{l:Lit}(h:keyOf Tryz.prog 177 v=some l):∃e d,v=kV e d/\OkK e d/\l=kL e d:=by
 obtain⟨xs,L,rfl,h1,rfl⟩:=keyOf_top wide17 h;obtain⟨k,hk⟩:=size17;rw[hk]at h1;unfold Program.keyLits at h1;rw[Tryz.underlying177]at h1;simp only at h1
 split at h1
 ·rename_i hc
  obtain⟨xl⟩:=xs;have hl:xl.length=2:=by
   have:=hc.1;rw[cells17]at this;simpa using this
  match xl,hl with
  |[x,y],_=>
   simp[cellsi17,cellss17]at h1;cases hx:Tryz.prog.keyLits (k+1) 3 [x]with
   |none=>rw[hx]at h1;cases h1
   |some lx=>
    cases hy:Tryz.prog.keyLits (k+1) 9 [y]with
    |none=>rw[hx,hy]at h1;cases h1
    |some ly=>
     rw[hx,hy]at h1;simp at h1;subst h1;unfold Program.keyLits at hx hy;rw[Tryz.underlying3]at hx;rw[Tryz.underlying9]at hy;have ex:∃q e,x= .int q e:=by cases x<;>first|exact⟨_,_,rfl⟩|(simp at hx)
     have ey:∃t:List UInt8,y= .string ⟨t.toArray⟩:=by
      cases y with
      |string t=>
       cases t with
       |mk t=>
        cases t with
        |mk t=>exact⟨t,rfl⟩
      |_=>simp at hy
     obtain⟨q,e,rfl⟩:=ex;obtain⟨t,rfl⟩:=ey;simp at hx hy;obtain⟨⟨rfl,hw⟩,rfl⟩:=hx;obtain⟨hs,rfl⟩:=hy;exact⟨e,t,rfl,⟨hw,by
      have:(⟨t.toArray⟩:ByteArray).size=t.length:=by(show t.toArray.size=_;simp)
      omega⟩,rfl⟩
 ·cases h1
theorem kL_inj{e e':Int}{d d':List UInt8}(h:OkK e d)(h':OkK e' d')(q:kL e d=kL e' d'):e=e'/\d=d':=by
 have a:=key_of h;rw[q]at a;exact kV_inj (keyed17.inj a (key_of h'))
theorem isK{e:Int}{d:List UInt8}(h:OkK e d):WideAt.IsKeyLit (kL e d):=keyed17.key (key_of h)
structure CntD(D:DataW Value)(c:Int->List UInt8->Nat):Prop where
 map:Maps.IsMap D
 keys:∀kl,Maps.has D kl=true->∃e d,OkK e d/\kl=kL e d
 has:∀e d,OkK e d->(Maps.has D (kL e d)=true↔0<c e d)
 at_:∀e d,OkK e d->D.atKey (kL e d) (.lit (.int .i64 0))= .lit (.int .i64 ((c e d:Nat):Int))
 in_:∀e d,0<c e d->OkK e d
theorem CntD.empty:CntD (.map []) (fun _ _=>0):=⟨Maps.isMap_empty,fun kl h=>by simp[Maps.has]at h,fun e d _=>by simp[Maps.has],fun e d _=>rfl,fun e d h=>Zo⟩
theorem CntD.put{D:DataW Value}{c:Int->List UInt8->Nat}(h:CntD D c){e:Int}{d:List UInt8}(hk:OkK e d):CntD (D.put (kL e d) (.lit (.int .i64 ((c e d:Nat)+1:Nat)))) (fun x y=>c x y+if x=e/\y=d then 1 else 0):=by
 refine⟨h.map.put _ _,fun kl hh=>?_,fun x y hx=>?_,fun x y hx=>?_,fun x y hc=>?_⟩
 ·by_cases q:kl=kL e d
  ·exact⟨e,d,hk,q⟩
  ·rw[Maps.has_put_other q]at hh;exact h.keys kl hh
 ·by_cases q:x=e/\y=d
  ·rw[if_pos q,q.1,q.2,Maps.has_put_same h.map (isK hk)];exact⟨fun _=>Zo,fun _=>rfl⟩
  ·rw[if_neg q,Maps.has_put_other fun k=>q (kL_inj hx hk k)];exact h.has x y hx
 ·by_cases q:x=e/\y=d
  ·rw[if_pos q,q.1,q.2,Maps.atKey_put_same h.map (isK hk)]
  ·rw[if_neg q,Maps.atKey_put_other fun k=>q (kL_inj hx hk k)];exact h.at_ x y hx
 ·by_cases q:x=e/\y=d
  ·rw[q.1,q.2];exact hk
  ·rw[if_neg q]at hc;exact h.in_ x y hc
def CntM(w:World)(b S:Nat)(c:Int->List UInt8->Nat):Prop:=∃D,w.ownsMap Tryz.prog 177 (plainElem Tryz.prog 3) b S D/\CntD D c
theorem zero17(w:World):(zeroValue 3).run Tryz.prog w= .ok (.int .i64 0) w:=Zk
theorem CntM.made(w:World):CntM (w.alloc (.map #[] 0)) w.heap.size 0 (fun _ _=>0):=⟨_,World.ownsMap_made _ _ _ _,CntD.empty⟩
theorem CntM.lt{w:World}{b S:Nat}{c:Int->List UInt8->Nat}(h:CntM w b S c):b<w.heap.size:=by
 obtain⟨D,h,_⟩:=h;exact h.lt
theorem CntM.of_block{w w':World}{b S:Nat}{c:Int->List UInt8->Nat}(h:CntM w b S c)(he:w'.heap[b]? =w.heap[b]?):CntM w' b S c:=by
 obtain⟨D,⟨es,clock,hb,r⟩,r2⟩:=h;exact⟨D,⟨es,clock,he.trans hb,r⟩,r2⟩
theorem setBlock_inj{w:World}{b:Nat}{x y:Obj}{es:Array MapEntry}{clock:Nat}(hb:w.heap[b]? =some (.map es clock))(h:ChangeMaps.setBlock w b x=ChangeMaps.setBlock w b y):x=y:=by
 have h1:=ChangeMaps.heap_setBlock_same hb x;rw[h,ChangeMaps.heap_setBlock_same hb y]at h1;exact(Option.some.inj h1).symm
theorem look17{W:World}{b t k e:Nat}{P:Program}(K:WideMaps.KeyLaw P k)(ht:P.underlying t=some (.map k e)){es:Array MapEntry}{clock:Nat}(hb:W.heap[b]? =some (.map es clock))(hk:∀x∈es.toList,∃l,keyOf P k x.key=some l){key u:Value}{kl:Lit}(hkey:keyOf P k key=some kl)
  (hin:∃x∈es.toList,x.key=key) (hu:∀x∈es.toList,x.key=key->x.val=u):(Instr.lookup t (.map (some b)) key false).run P W= .ok u W:=by
 rcases K.find W hkey es.toList hk with⟨h1,h2⟩|⟨j,e0,h1,h2,h3⟩
 ·obtain⟨x,hx,hxk⟩:=hin;exact absurd hxk (h2 x hx)
 ·have:=hu e0 (List.mem_of_getElem? h2) h3;simp[Instr.lookup,run_underlying ht,MapKept.run_getObj_map hb,K.check W _ hkey,h1,Result.andThen,this]
section
variable {w:World} {b t k e:Nat} {P:Program} {H:Type} {R:Value->Option (DataW H×List MemPlace)} {es es1:Array MapEntry} {clock clock1 st:Nat} {key v0 z:Value} {kl:Lit}
theorem one_key(F:WideElems.Fit P k R es clock){x y:MapEntry}(hx:x∈es.toList)(hy:y∈es.toList)(h:x.key=y.key):x=y:=entry_eq_of_key (List.pairwise_map.1 F.stamped.2.2) hx hy h
theorem entry_look(K:WideMaps.KeyLaw P k)(ht:P.underlying t=some (.map k e))(hz:∀u:World,(zeroValue e).run P u= .ok z u)(hb:w.heap[b]? =some (.map es clock))(F:WideElems.Fit P k R es clock)(hkey:keyOf P k key=some kl)
  (hme:(Instr.mapEntry t (.map (some b)) key).run P w= .ok (.tuple #[v0,goInt st]) (ChangeMaps.setBlock w b (.map es1 clock1))):
  (Instr.lookup t (.map (some b)) key false).run P w= .ok v0 w/\(Instr.lookup t (.map (some b)) key false).run P (ChangeMaps.setBlock w b (.map es1 clock1))= .ok v0 (ChangeMaps.setBlock w b (.map es1 clock1)):=by
 have hb1:(ChangeMaps.setBlock w b (.map es1 clock1)).heap[b]? =some (.map es1 clock1):=ChangeMaps.heap_setBlock_same hb _
 rcases K.find w hkey es.toList F.keys with⟨h1,h2⟩|⟨j,e0,h1,h2,h3⟩
 ·have r:(Instr.mapEntry t (.map (some b)) key).run P w= .ok (.tuple #[z,goInt clock]) (ChangeMaps.setBlock w b (.map (es.push ⟨key,z,clock⟩) (clock+1))):=by
   simp[Instr.mapEntry,run_underlying ht,MapKept.run_getObj_map hb,K.check w false hkey,h1,hz,MapKept.run_setObj_map _ hb,Result.andThen,ChangeMaps.setBlock]
  rw[hme]at r;injection r with r1 r2;have r3:=setBlock_inj hb r2;injection r3 with r4 _;simp at r1;obtain⟨rfl,_⟩:=r1;subst r4;refine⟨by simp[Instr.lookup,run_underlying ht,MapKept.run_getObj_map hb,K.check w _ hkey,h1,hz,Result.andThen],look17 K ht hb1 (fun x hx=>?_) hkey ⟨⟨key,v0,clock⟩,Zs,rfl⟩ (fun x hx hxk=>?_)⟩
  ·rw[Array.toList_push,List.mem_append]at hx
   rcases hx with hx|hx
   ·exact F.keys x hx
   ·rw[List.mem_singleton.1 hx];exact⟨_,hkey⟩
  ·rw[Array.toList_push,List.mem_append]at hx
   rcases hx with hx|hx
   ·exact absurd hxk (h2 x hx)
   ·rw[List.mem_singleton.1 hx]
 ·have hj:es[j]? =some e0:=by simpa using h2
  have hm:=List.mem_of_getElem? h2;have hsame:es.modify j (fun x=>{x with key:=key})=es:=by
   apply Array.ext';rw[Array.toList_modify,ChangeMaps.modify_eq_set _ _ _ _ h2]
   have:({e0 with key:=key}:MapEntry)=e0:=by rw[<-h3]
   rw[this];exact WideElems.set_self _ _ _ h2
  have r:(Instr.mapEntry t (.map (some b)) key).run P w= .ok (.tuple #[e0.val,goInt e0.born]) (ChangeMaps.setBlock w b (.map es clock)):=by
   simp[Instr.mapEntry,run_underlying ht,MapKept.run_getObj_map hb,K.check w false hkey,h1,hj,h3,K.stays w hkey,hsame,MapKept.run_setObj_map _ hb,Result.andThen,ChangeMaps.setBlock]
  rw[hme]at r;injection r with r1 r2;have r3:=setBlock_inj hb r2;injection r3 with r4 _;simp at r1;obtain⟨rfl,_⟩:=r1;subst r4;exact⟨look17 K ht hb F.keys hkey ⟨e0,hm,h3⟩ (fun y hy hyk=>by rw[one_key F hy hm (hyk.trans h3.symm)]),look17 K ht hb1 F.keys hkey ⟨e0,hm,h3⟩ (fun y hy hyk=>by rw[one_key F hy hm (hyk.trans h3.symm)])⟩
theorem map_up{D:DataW H}{n:Nat}{val:Value}{d:DataW H}{ps:List MemPlace}(K:WideMaps.KeyLaw P k)(ht:P.underlying t=some (.map k e))(hz:∀u:World,(zeroValue e).run P u= .ok z u)(ho:w.ownsMap P k R b n D)(hn:n<maxLen)(hkey:keyOf P k key=some kl)(hv:R val=some (d,ps)):
  ∃v0 st w1 w2,(Instr.lookup t (.map (some b)) key false).run P w= .ok v0 w/\(Instr.mapEntry t (.map (some b)) key).run P w= .ok (.tuple #[v0,goInt st]) w1/\(Instr.lookup t (.map (some b)) key false).run P w1= .ok v0 w1/\
   (Instr.entryStore t (.map (some b)) (goInt st) val).run P w1= .ok () w2/\w2.ownsMap P k R b (n+1) (D.put kl d)/\w.grownBy w2 (some b):=by
 obtain⟨w2,hup,ho2,hg2⟩:=ho.update (Maps.Keyed.of_law K) ht hn hkey hv;obtain⟨es,clock,hb,F,hs,hDe⟩:=ho;obtain⟨v0,st,es1,clock1,hme,hv0,hst⟩:=WideElems.entry_then_store K ht hz hb F hkey;have hb1:(ChangeMaps.setBlock w b (.map es1 clock1)).heap[b]? =some (.map es1 clock1):=ChangeMaps.heap_setBlock_same hb _
 obtain⟨es',clock',hes,hmu⟩:=hst _ val hb1;have e2:ChangeMaps.setBlock w b (.map es' clock')=w2:=by
  rw[hup]at hmu;injection hmu with _ h2;exact h2.symm
 have e3:ChangeMaps.setBlock (ChangeMaps.setBlock w b (.map es1 clock1)) b (.map es' clock')=ChangeMaps.setBlock w b (.map es' clock'):=by
  simp[ChangeMaps.setBlock]
 rw[e3,e2]at hes;obtain⟨l1,l2⟩:=entry_look K ht hz hb F hkey hme;exact⟨v0,st,_,w2,l1,hme,l2,hes,ho2,hg2⟩
end
theorem CntM.up{w:World}{b S:Nat}{c:Int->List UInt8->Nat}(h:CntM w b S c)(hS:S<1000){e:Int}{d:List UInt8}(hk:OkK e d)(hc:c e d<1000):
  ∃(st:Int) (w1 w2:World),(Instr.lookup 217 (.map (some b)) (kV e d) false).run Tryz.prog w= .ok (.int .i64 ((c e d:Nat):Int)) w/\
   (Instr.mapEntry 217 (.map (some b)) (kV e d)).run Tryz.prog w= .ok (.tuple #[.int .i64 ((c e d:Nat):Int),.int .i64 st]) w1/\
   (Instr.lookup 217 (.map (some b)) (kV e d) false).run Tryz.prog w1= .ok (.int .i64 ((c e d:Nat):Int)) w1/\
   (Instr.entryStore 217 (.map (some b)) (.int .i64 st) (.int .i64 ((c e d:Int)+1))).run Tryz.prog w1= .ok () w2/\
   CntM w2 b (S+1) (fun x y=>c x y+if x=e/\y=d then 1 else 0)/\w.grownBy w2 (some b):=by
 obtain⟨D,ho,hD⟩:=h;have hkey:=key_of hk;obtain⟨c0,hlook,hat,hwc⟩:=ho.lookup_int keyed17 Tryz.underlying217 Tryz.underlying3 (zero17 w) hkey;rw[hD.at_ e d hk]at hat;simp at hat;subst hat;obtain⟨v0,st,w1,w2,l1,l2,l3,l4,l5,l6⟩:=map_up (val:=.int .i64 ((c e d:Int)+1)) klaw17 Tryz.underlying217 (fun u=>zero17 u) ho Zl hkey (plainElem_int Tryz.underlying3 (WalkArith.wf_i64 Zo));have ev:v0= .int .i64 ((c e d:Nat):Int):=
   (Result.ok.inj (hlook.symm.trans l1)).1.symm
 subst ev;exact⟨(st:Int),w1,w2,hlook,l2,l3,l4,⟨_,l5,hD.put hk⟩,l6⟩
end Go.Proofs.YtclieefpnbdbjaaGreat.Gf
