/- JOINED: MeCl, MeCA. -/
import Derived.Deep.Grids
import Derived.Test.YtclieefpnbdbjaaGreatPome29
import Derived.Test.YtclieefpnbdbjaaGreatPome13
set_option maxHeartbeats 4000000
set_option maxRecDepth 100000
namespace Go.Proofs.YtclieefpnbdbjaaGreat.Gf
set_option linter.unusedVariables false
set_option linter.unusedSimpArgs false
open Go.RowKit
open Go.ChangeShapes
structure CallM where
 kind:Int
 n:Int
 m:Int
 vd:Value
 di:List Int
 vk:Value
 kn:List Bool
 r:RcV
 ar:Int
 ep:Int
 vo:Value
 ob:List ObV
 c:CallA
instance:Inhabited CallM:=⟨⟨0,0,0,.slice none 0 0,[],.slice none 0 0,[],default,0,0,.slice none 0 0,[],default⟩⟩
structure CallAtM(w:World)(b off:Nat)(x:CallM):Prop where
 s0:w.cell? ⟨b,off,none⟩=some (.int .i64 x.kind)
 s1:w.cell? ⟨b,off+1,none⟩=some (.int .i64 x.n)
 s2:w.cell? ⟨b,off+2,none⟩=some (.int .i64 x.m)
 s3:w.cell? ⟨b,off+3,none⟩=some x.vd
 s4:w.cell? ⟨b,off+4,none⟩=some x.vk
 s5:w.cell? ⟨b,off+5,none⟩=some (.int .i64 x.r.r.kind)
 s6:w.cell? ⟨b,off+6,none⟩=some (sv x.r.r.key)
 s7:w.cell? ⟨b,off+7,none⟩=some (.int .i64 x.r.r.len)
 s8:w.cell? ⟨b,off+8,none⟩=some x.r.vs
 s9:w.cell? ⟨b,off+9,none⟩=some (.int .i64 x.ar)
 s10:w.cell? ⟨b,off+10,none⟩=some (.int .i64 x.ep)
 s11:w.cell? ⟨b,off+11,none⟩=some x.vo
 s12:w.cell? ⟨b,off+12,none⟩=some (.int .i64 x.c.kind)
 s13:w.cell? ⟨b,off+13,none⟩=some (.int .i64 x.c.d)
 s14:w.cell? ⟨b,off+14,none⟩=some (.int .i64 x.c.n)
 s15:w.cell? ⟨b,off+15,none⟩=some (.int .i64 x.c.m)
 s16:w.cell? ⟨b,off+16,none⟩=some (.int .u8 ((x.c.by8.toNat:Nat):Int))
 s17:w.cell? ⟨b,off+17,none⟩=some x.c.vb
 s18:w.cell? ⟨b,off+18,none⟩=some x.c.vk
 wk:(Lit.int .i64 x.kind).wf=true
 wn:(Lit.int .i64 x.n).wf=true
 wm:(Lit.int .i64 x.m).wf=true
 wa:(Lit.int .i64 x.ar).wf=true
 we:(Lit.int .i64 x.ep).wf=true
 rd:RdI w x.vd x.di
 wd:∀z∈x.di,(Lit.int .i64 z).wf=true
 rk:RdB w x.vk x.kn
 rr:x.r.In w
 ro:RdO w x.vo x.ob
 cv:CallV w x.c
theorem CallAtM.below{w w':World}{b off:Nat}{x:CallM}(h:CallAtM w b off x)(hb:b<w.heap.size)(hw:Below w.heap.size w w'):CallAtM w' b off x:=by
 have k:∀j,w'.cell? ⟨b,j,none⟩=w.cell? ⟨b,j,none⟩:=fun j=>hw.cell (p:=⟨b,j,none⟩) hb
 exact⟨(k _).trans h.s0,(k _).trans h.s1,(k _).trans h.s2,(k _).trans h.s3,(k _).trans h.s4,(k _).trans h.s5,(k _).trans h.s6,(k _).trans h.s7,(k _).trans h.s8,(k _).trans h.s9,(k _).trans h.s10,(k _).trans h.s11,(k _).trans h.s12,(k _).trans h.s13,(k _).trans h.s14,(k _).trans h.s15,(k _).trans h.s16,(k _).trans h.s17,(k _).trans h.s18,h.wk,h.wn,h.wm,h.wa,h.we,h.rd.below hw,h.wd,h.rk.below hw,h.rr.below hw,h.ro.below hw,h.cv.below hw⟩
def RdM18(w:World)(v:Value)(L:List CallM):Prop:=
 (∃ao cap,L=[]/\v= .slice ao 0 cap)∨(∃b off cap,L≠[]/\v= .slice (some ⟨b,off,none⟩) L.length cap/\L.length<=maxLen/\b<w.heap.size/\∀i,i<L.length->CallAtM w b (off+i*19) (L.getD i default))
theorem RdM18.below{w w':World}{v:Value}{L:List CallM}(h:RdM18 w v L)(hb:Below w.heap.size w w'):RdM18 w' v L:=by
 rcases h with h|⟨b,off,cap,h1,h2,h3,h5,h6⟩
 ·exact Or.inl h
 ·exact Or.inr ⟨b,off,cap,h1,h2,h3,Zu h5 hb.size,fun i hi=>(h6 i hi).below h5 hb⟩
theorem RdM18.form{w:World}{v:Value}{L:List CallM}(h:RdM18 w v L):∃a c,v= .slice a L.length c:=by
 rcases h with⟨a,c,rfl,rfl⟩|⟨b,off,c,_,rfl,_⟩
 ·exact⟨a,c,rfl⟩
 ·exact⟨_,c,rfl⟩
theorem RdM18.lenEq{w:World}{a:Option Addr}{len cap:Nat}{L:List CallM}(h:RdM18 w (.slice a len cap) L):len=L.length:=by
 obtain⟨_,_,e⟩:=h.form;simp at e;exact e.2.1
theorem RdM18.at{w:World}{a:Option Addr}{c:Nat}{L:List CallM}(h:RdM18 w (.slice a L.length c) L){k:Nat}(hk:k<L.length):∃b off,a=some ⟨b,off,none⟩/\b<w.heap.size/\CallAtM w b (off+k*19) (L.getD k default):=by
 rcases h with⟨_,_,h1,_⟩|⟨b,off,c,h1,h2,h3,h4,h5⟩
 ·rw[h1]at hk;simp at hk
 ·simp at h2;exact⟨b,off,h2.1,h4,h5 k hk⟩
theorem three18{cs:List Value}(h:cs.length=3):∃v0 v1 v2,cs=[v0,v1,v2]:=by
 match cs,h with
 |[a,b,c],_=>exact⟨a,b,c,rfl⟩
theorem nineteen{cs:List Value}(h:cs.length=19):∃v0 v1 v2 v3 v4 v5 v6 v7 v8 v9 v10 v11 v12 v13 v14 v15 v16 v17 v18,cs=[v0,v1,v2,v3,v4,v5,v6,v7,v8,v9,v10,v11,v12,v13,v14,v15,v16,v17,v18]:=by
 match cs,h with
 |[a0,a1,a2,a3,a4,a5,a6,a7,a8,a9,a10,a11,a12,a13,a14,a15,a16,a17,a18],_=>exact⟨a0,a1,a2,a3,a4,a5,a6,a7,a8,a9,a10,a11,a12,a13,a14,a15,a16,a17,a18,rfl⟩
section
variable {H:Type} {enc:TypeId×Value->H} {P:Program} {w:World} {base:Nat} {held:Bool}
theorem open_rcell{t si:TypeId}{f0 f1 f2 f3:Field}{fuel:Nat}{cs:List Value}{x:DataW H×List MemPlace}(he:P.underlying t=some (.struct #[f0,f1,f2,f3]))(ce:P.cellsOf t=4)
  (o0:f0.offset=0) (o1:f1.offset=1) (o2:f2.offset=2) (o3:f3.offset=3)
  (t0:P.underlying f0.type=some (.int .i64)) (t1:P.underlying f1.type=some .string) (t2:P.underlying f2.type=some (.int .i64)) (t3:P.underlying f3.type=some (.slice si)) (ti:P.underlying si=some (.int .i64)) (ci:P.cellsOf si=1)
  (n0:P.cellsOf f0.type=1) (n1:P.cellsOf f1.type=1) (n2:P.cellsOf f2.type=1) (n3:P.cellsOf f3.type=1)
  (hf:DataW.trod enc P w base (fun _=>true) held fuel t cs=some x):∃c:RcV,cs=[.int .i64 c.r.kind,sv c.r.key,.int .i64 c.r.len,c.vs]/\c.In w:=by
 obtain⟨xs,n',_,_,hlen,hxl,hfd⟩:=DataW.trod_struct he hf;rw[ce]at hlen;obtain⟨v0,v1,v2,v3,rfl⟩:=four16 hlen;have hxl':xs.length=4:=hxl;have g:∀k,k<4->∃y,xs[k]? =some y:=fun k hk=>⟨xs[k],List.getElem?_eq_getElem Zo⟩
 obtain⟨y0,e0⟩:=g 0 Zo;obtain⟨y1,e1⟩:=g 1 Zo;obtain⟨y2,e2⟩:=g 2 Zo;obtain⟨y3,e3⟩:=g 3 Zo;have q0:=hfd 0 f0 rfl;have q1:=hfd 1 f1 rfl;have q2:=hfd 2 f2 rfl;have q3:=hfd 3 f3 rfl;rw[o0,n0,e0]at q0;rw[o1,n1,e1]at q1;rw[o2,n2,e2]at q2;rw[o3,n3,e3]at q3;obtain⟨z0,r0,_,w0⟩:=DataW.trod_int t0 q0;obtain⟨s,r1,_,ls⟩:=DataW.trod_string t1 q1;obtain⟨z2,r2,_,w2⟩:=DataW.trod_int t2 q2;simp at r0 r1 r2;subst r0 r1 r2;obtain⟨pk,hk,hw⟩:=open_ints16 t3 ti ci q3;exact⟨⟨⟨z0,s.data.toList,z2,pk⟩,v3⟩,rfl,w0,w2,by simpa using ls,hk,hw⟩
theorem open_scell{t te si:TypeId}{e0 e1 e2 f0 f1 f2 f3:Field}{fuel:Nat}{cs:List Value}{x:DataW H×List MemPlace}(he:P.underlying t=some (.struct #[e0,e1,e2]))(ce:P.cellsOf t=3)
  (p0:e0.offset=0) (p1:e1.offset=1) (p2:e2.offset=2)
  (u0:P.underlying e0.type=some (.int .i64)) (u1:P.underlying e1.type=some (.int .i64)) (u2:P.underlying e2.type=some (.slice te))
  (m0:P.cellsOf e0.type=1) (m1:P.cellsOf e1.type=1) (m2:P.cellsOf e2.type=1)
  (hs:P.underlying te=some (.struct #[f0,f1,f2,f3])) (cte:P.cellsOf te=4)
  (o0:f0.offset=0) (o1:f1.offset=1) (o2:f2.offset=2) (o3:f3.offset=3)
  (t0:P.underlying f0.type=some .string) (t1:P.underlying f1.type=some (.int .i64)) (t2:P.underlying f2.type=some (.int .i64)) (t3:P.underlying f3.type=some (.slice si)) (ti:P.underlying si=some (.int .i64)) (ci:P.cellsOf si=1)
  (n0:P.cellsOf f0.type=1) (n1:P.cellsOf f1.type=1) (n2:P.cellsOf f2.type=1) (n3:P.cellsOf f3.type=1)
  (hf:DataW.trod enc P w base (fun _=>true) held fuel t cs=some x):∃(ar ep:Int) (v:Value) (L:List ObV),cs=[.int .i64 ar,.int .i64 ep,v]/\RdO w v L/\(Lit.int .i64 ar).wf=true/\(Lit.int .i64 ep).wf=true:=by
 obtain⟨xs,n',_,_,hlen,hxl,hfd⟩:=DataW.trod_struct he hf;rw[ce]at hlen;obtain⟨v0,v1,v2,rfl⟩:=three18 hlen;have hxl':xs.length=3:=hxl;have g:∀k,k<3->∃y,xs[k]? =some y:=fun k hk=>⟨xs[k],List.getElem?_eq_getElem Zo⟩
 obtain⟨y0,g0⟩:=g 0 Zo;obtain⟨y1,g1⟩:=g 1 Zo;obtain⟨y2,g2⟩:=g 2 Zo;have q0:=hfd 0 e0 rfl;have q1:=hfd 1 e1 rfl;have q2:=hfd 2 e2 rfl;rw[p0,m0,g0]at q0;rw[p1,m1,g1]at q1;rw[p2,m2,g2]at q2;obtain⟨z0,r0,_,w0⟩:=DataW.trod_int u0 q0;obtain⟨z1,r1,_,w1⟩:=DataW.trod_int u1 q1;simp at r0 r1;subst r0 r1;obtain⟨a9,l9,c9,L9,hcs,_,hR⟩:=open_objs u2 hs cte o0 o1 o2 o3 t0 t1 t2 t3 ti ci n0 n1 n2 n3 q2;simp at hcs;subst hcs;exact⟨z0,z1,_,L9,rfl,hR,w0,w1⟩
theorem open_mcalls{t e sd sk ss sb si te:TypeId}{e0 e1 e2 e3 e4 e5 e6 e7 r0 r1 r2 r3 s0 s1 s2 b0 b1 b2 b3 f0 f1 f2 f3 f4 f5 f6:Field}{fuel:Nat}{cs:List Value}{x:DataW H×List MemPlace}(ht:P.underlying t=some (.slice e))(he:P.underlying e=some (.struct #[e0,e1,e2,e3,e4,e5,e6,e7]))(ce:P.cellsOf e=19)
  (p0:e0.offset=0) (p1:e1.offset=1) (p2:e2.offset=2) (p3:e3.offset=3) (p4:e4.offset=4) (p5:e5.offset=5) (p6:e6.offset=9) (p7:e7.offset=12)
  (u0:P.underlying e0.type=some (.int .i64)) (u1:P.underlying e1.type=some (.int .i64)) (u2:P.underlying e2.type=some (.int .i64)) (u3:P.underlying e3.type=some (.slice si)) (u4:P.underlying e4.type=some (.slice sk)) (tO:P.underlying sk=some .bool) (co1:P.cellsOf sk=1)
  (m0:P.cellsOf e0.type=1) (m1:P.cellsOf e1.type=1) (m2:P.cellsOf e2.type=1) (m3:P.cellsOf e3.type=1) (m4:P.cellsOf e4.type=1) (m5:P.cellsOf e5.type=4) (m6:P.cellsOf e6.type=3) (m7:P.cellsOf e7.type=7)
  (hr:P.underlying e5.type=some (.struct #[r0,r1,r2,r3])) (ro0:r0.offset=0) (ro1:r1.offset=1) (ro2:r2.offset=2) (ro3:r3.offset=3) (rt0:P.underlying r0.type=some (.int .i64)) (rt1:P.underlying r1.type=some .string) (rt2:P.underlying r2.type=some (.int .i64)) (rt3:P.underlying r3.type=some (.slice si)) (rn0:P.cellsOf r0.type=1) (rn1:P.cellsOf r1.type=1) (rn2:P.cellsOf r2.type=1) (rn3:P.cellsOf r3.type=1)
  (hS:P.underlying e6.type=some (.struct #[s0,s1,s2])) (so0:s0.offset=0) (so1:s1.offset=1) (so2:s2.offset=2) (st0:P.underlying s0.type=some (.int .i64)) (st1:P.underlying s1.type=some (.int .i64)) (st2:P.underlying s2.type=some (.slice te)) (sn0:P.cellsOf s0.type=1) (sn1:P.cellsOf s1.type=1) (sn2:P.cellsOf s2.type=1)
  (hB:P.underlying te=some (.struct #[b0,b1,b2,b3])) (cte:P.cellsOf te=4) (bo0:b0.offset=0) (bo1:b1.offset=1) (bo2:b2.offset=2) (bo3:b3.offset=3) (bt0:P.underlying b0.type=some .string) (bt1:P.underlying b1.type=some (.int .i64)) (bt2:P.underlying b2.type=some (.int .i64)) (bt3:P.underlying b3.type=some (.slice si)) (bn0:P.cellsOf b0.type=1) (bn1:P.cellsOf b1.type=1) (bn2:P.cellsOf b2.type=1) (bn3:P.cellsOf b3.type=1)
  (h4:P.underlying e7.type=some (.struct #[f0,f1,f2,f3,f4,f5,f6]))
  (o0:f0.offset=0) (o1:f1.offset=1) (o2:f2.offset=2) (o3:f3.offset=3) (o4:f4.offset=4) (o5:f5.offset=5) (o6:f6.offset=6)
  (t0:P.underlying f0.type=some (.int .i64)) (t1:P.underlying f1.type=some (.int .i64)) (t2:P.underlying f2.type=some (.int .i64)) (t3:P.underlying f3.type=some (.int .i64)) (t4:P.underlying f4.type=some (.int .u8)) (t5:P.underlying f5.type=some (.slice sb)) (t6:P.underlying f6.type=some (.slice ss))
  (tb:P.underlying sb=some (.int .u8)) (ts:P.underlying ss=some (.slice sd)) (td:P.underlying sd=some (.int .i64)) (ti:P.underlying si=some (.int .i64)) (cb:P.cellsOf sb=1) (cs1:P.cellsOf ss=1) (cd:P.cellsOf sd=1) (ci:P.cellsOf si=1)
  (n0:P.cellsOf f0.type=1) (n1:P.cellsOf f1.type=1) (n2:P.cellsOf f2.type=1) (n3:P.cellsOf f3.type=1) (n4:P.cellsOf f4.type=1) (n5:P.cellsOf f5.type=1) (n6:P.cellsOf f6.type=1)
  (h:DataW.trod enc P w base (fun _=>true) held fuel t cs=some x):∃a len cap L,cs=[.slice a len cap]/\len=L.length/\RdM18 w (.slice a len cap) L:=by
 rcases Go.Deep.open_slice ht h with⟨rfl,_⟩|⟨a,len,cap,m,n,D,Pl,rfl,hb,hl,hm,hmm,rfl,hx⟩
 ·exact⟨none,0,0,[],rfl,rfl,Or.inl ⟨none,0,rfl,rfl⟩⟩
 simp only[if_true]at hmm
 by_cases hl0:len=0
 ·subst hl0;exact⟨some a,0,cap,[],rfl,rfl,Or.inl ⟨_,_,rfl,rfl⟩⟩
 obtain⟨bb,off,spot⟩:=a;have hspot:spot=none:=by
  obtain⟨cs',h1,_⟩:=hx 0 Zo;rw[ce]at h1;have hc:=World.cells?_some h1;have h2:=hc.2.2 0 Zo;obtain⟨v,hv⟩:∃v,cs'[0]? =some v:=⟨cs'[0]'Zo,List.getElem?_eq_getElem Zo⟩
  rw[hv]at h2;have:=World.cell?_spot h2;simpa[Addr.add]using this
 subst hspot;have each:∀i,i<len->∃c:CallM,CallAtM w bb (off+i*19) c:=by
  intro i hi;obtain⟨cs',h1,h2⟩:=hx i Zo;obtain⟨xs,n',_,_,hlen,hxl,hf⟩:=DataW.trod_struct he h2;rw[ce]at hlen h1;obtain⟨v0,v1,v2,v3,v4,v5,v6,v7,v8,v9,v10,v11,v12,v13,v14,v15,v16,v17,v18,rfl⟩:=nineteen hlen;have hxl':xs.length=8:=hxl;have g:∀k,k<8->∃y,xs[k]? =some y:=fun k hk=>⟨xs[k],List.getElem?_eq_getElem Zo⟩
  obtain⟨y0,q0e⟩:=g 0 Zo;obtain⟨y1,q1e⟩:=g 1 Zo;obtain⟨y2,q2e⟩:=g 2 Zo;obtain⟨y3,q3e⟩:=g 3 Zo;obtain⟨y4,q4e⟩:=g 4 Zo;obtain⟨y5,q5e⟩:=g 5 Zo;obtain⟨y6,q6e⟩:=g 6 Zo;obtain⟨y7,q7e⟩:=g 7 Zo;have q0:=hf 0 e0 rfl;have q1:=hf 1 e1 rfl;have q2:=hf 2 e2 rfl;have q3:=hf 3 e3 rfl;have q4:=hf 4 e4 rfl;have q5:=hf 5 e5 rfl;have q6:=hf 6 e6 rfl;have q7:=hf 7 e7 rfl;rw[p0,m0,q0e]at q0;rw[p1,m1,q1e]at q1;rw[p2,m2,q2e]at q2;rw[p3,m3,q3e]at q3;rw[p4,m4,q4e]at q4;rw[p5,m5,q5e]at q5;rw[p6,m6,q6e]at q6;rw[p7,m7,q7e]at q7;obtain⟨z0,k0,_,w0⟩:=DataW.trod_int u0 q0;obtain⟨z1,k1,_,w1⟩:=DataW.trod_int u1 q1;obtain⟨z2,k2,_,w2⟩:=DataW.trod_int u2 q2;simp at k0 k1 k2;subst k0 k1 k2;obtain⟨c,hc7,hcv⟩:=open_acell h4 m7 o0 o1 o2 o3 o4 o5 o6 t0 t1 t2 t3 t4 t5 t6 tb ts td cb cs1 cd n0 n1 n2 n3 n4 n5 n6 q7;simp at hc7;obtain⟨rfl,rfl,rfl,rfl,rfl,rfl,rfl⟩:=hc7;obtain⟨rc,hc4,hin⟩:=open_rcell hr m5 ro0 ro1 ro2 ro3 rt0 rt1 rt2 rt3 ti ci rn0 rn1 rn2 rn3 q5;simp at hc4;obtain⟨rfl,rfl,rfl,rfl⟩:=hc4;obtain⟨ar,ep,vo,LO,hc3,hro,wa,we⟩:=open_scell hS m6 so0 so1 so2 st0 st1 st2 sn0 sn1 sn2 hB cte bo0 bo1 bo2 bo3 bt0 bt1 bt2 bt3 ti ci bn0 bn1 bn2 bn3 q6;simp at hc3;obtain⟨rfl,rfl,rfl⟩:=hc3;obtain⟨pk,hvd,hwd⟩:=open_ints16 u3 ti ci q3;obtain⟨pb,hvk⟩:∃pk,RdB w v4 pk:=by
   rcases Go.Deep.open_bools u4 tO co1 q4 with⟨hcs,_⟩|⟨x4,l4,c4,B4,hcs,_,hl4,hm4,_,hcell⟩
   ·simp at hcs;subst hcs;exact⟨[],rdB_none⟩
   ·simp at hcs;subst hcs;exact rdB_row hl4 hm4 hcell
  obtain⟨hbase,_,hc⟩:=World.cells?_some h1;have kk:∀k,k<19->w.cell? ⟨bb,off+i*19+k,none⟩=[Value.int .i64 z0,.int .i64 z1,.int .i64 z2,v3,v4,.int .i64 rc.r.kind,sv rc.r.key,.int .i64 rc.r.len,rc.vs,.int .i64 ar,.int .i64 ep,v11,.int .i64 c.kind,.int .i64 c.d,.int .i64 c.n,.int .i64 c.m,.int .u8 ((c.by8.toNat:Nat):Int),c.vb,c.vk][k]? :=by
   intro k hk;have:=hc k hk;rw[Go.Deep.add_add,add_at,<-Nat.add_assoc]at this;exact this
  exact⟨⟨z0,z1,z2,v3,pk,v4,pb,rc,ar,ep,v11,LO,c⟩,kk 0 Zo,kk 1 Zo,kk 2 Zo,kk 3 Zo,kk 4 Zo,kk 5 Zo,kk 6 Zo,kk 7 Zo,kk 8 Zo,kk 9 Zo,kk 10 Zo,kk 11 Zo,kk 12 Zo,kk 13 Zo,kk 14 Zo,kk 15 Zo,kk 16 Zo,kk 17 Zo,kk 18 Zo,w0,w1,w2,wa,we,hvd,hwd,hvk,hin,hro,hcv⟩
 obtain⟨F,hF⟩:=Go.Deep.choose_lt each;have hlen:((List.range len).map F).length=len:=Zs
 refine⟨some ⟨bb,off,none⟩,len,cap,(List.range len).map F,rfl,hlen.symm,?_⟩;have hc0:=(hF 0 Zo).s0;have hbw:bb<w.heap.size:=by
  unfold World.cell? at hc0
  by_cases hb:bb<w.heap.size
  ·exact hb
  ·rw[Array.getElem?_eq_none (by show w.heap.size<=bb;omega)]at hc0;cases hc0
 refine Or.inr ⟨bb,off,cap,fun e=>by rw[e]at hlen;simp at hlen;omega,by rw[hlen],by rw[hlen];omega,hbw,fun i hi=>?_⟩;rw[hlen]at hi;have e1:((List.range len).map F).getD i default=F i:=by simp[List.getD,hi]
 rw[e1];exact hF i hi
end
end Go.Proofs.YtclieefpnbdbjaaGreat.Gf
namespace Go.Proofs.YtclieefpnbdbjaaGreat.Gf
set_option linter.unusedVariables false
set_option linter.unusedSimpArgs false
open Go.RowKit
theorem mlabel_any{w:World}:Calls Tryz.prog 61 #[] w fun e w'=>∃v,e= .returned v/\Rd w' v lbB/\FarV w v/\Below w.heap.size w w':=by
 have KP:=spack_far (a:=0) (e:=0) (w:=w.alloc (.cells #[.int .u8 76] 5)) (rd_lit [76] rfl rfl Zd);rw[(pa_ok lb_ok).1,(pa_ok lb_ok).2]at KP;replace KP:Calls Tryz.prog 112 #[.int .i64 0,.int .i64 0,.slice (some ⟨w.heap.size,0,none⟩) 1 1] (w.alloc (.cells #[.int .u8 76] 5)) (MakesSF (w.alloc (.cells #[.int .u8 76] 5)) 0 lbB):=KP
 go_enter Tryz.func61,Tryz.ntmps61
 go_wp2_with fail
 refine KP.mono ?_
 rintro _ w1 ⟨v,rfl,R1,F1,B1⟩;have FIN:Hid (Rd w1 v lbB/\FarV w v/\Below w.heap.size w w1):=⟨R1,fun x n c e=>(F1 x n c e).imp id fun q=>by simp at q;omega,(belR _ _).step16 B1 Zs⟩;obtain⟨va,vc,ev⟩:=R1.form;subst ev;clear KP R1 F1 B1;go_wp2;exact bodyPost_ret (v:=.slice va lbB.length vc) (by simp[results,Tryz.results61,go_sem]) rfl ⟨_,rfl,FIN.out⟩
theorem rdI_spot18{G:Nat->Prop}{w:World}{a:Option Addr}{n c:Nat}{l:List Int}(hd:∀W,TurnG G w W->RdI W (.slice a n c) l){r:Nat}(hr:r<l.length):∃b off,a=some ⟨b,off,none⟩/\∀W,TurnG G w W->W.cell? ⟨b,off+r,none⟩=some (.int .i64 (l.getD r 0)):=by
 obtain⟨b,off,rfl,_,_⟩:=(hd w (TurnG.refl _ _)).at hr;refine⟨b,off,rfl,fun W t=>?_⟩;obtain⟨b',off',e,_,h⟩:=(hd W t).at hr;simp at e;obtain⟨rfl,rfl⟩:=e;exact h
theorem mlabelA_any{w:World}{ab:Nat}{GA:Nat->Prop}{a:ArS}(h:ArAt w ab GA a){dv:Value}{l:List Int}(hd:∀W,TurnG GA w W->RdI W dv l)(hl:l.length<=1000000)(hw:∀i,i<l.length->(Lit.int .i64 (l.getD i 0)).wf=true):
  Calls Tryz.prog 29 #[.pointer (some ⟨ab,0,none⟩),dv] w (LeavesA w ab GA (lbS a l) (.int .i64 (lbX a l))):=by
 obtain⟨da,dc,ed⟩:=(hd w (TurnG.refl _ _)).form;subst ed;have HD:Hid (∀W,TurnG GA w W->RdI W (.slice da l.length dc) l):=hd;have HA:Hid (ArAt w ab GA a):=h;have HW:Hid (∀i,i<l.length->(Lit.int .i64 (l.getD i 0)).wf=true):=hw;obtain⟨n,hn⟩:∃n,Hid (n=l.length):=⟨_,rfl⟩;rw[<-hn.out]at hl HD HW ⊢;clear hd h hw
 go_enter Tryz.func29,Tryz.ntmps29
 go_wp2_with fail
 go_loopw [11] (fun i wr=>∃(r:Nat) (GB:Nat->Prop),r<=n/\i= .int .i64 (r:Int)/\ArAt wr ab GB (lbV a l r).st/\Hid (Grew GA w GB wr)/\Hid ((lbV a l r).cr=false)) (fun i _=>n-(intOf i).toNat)
 case atStart=>exact⟨0,GA,Zz,rfl,HA.out,Grew.refl _ _,rfl⟩
 case round=>
  obtain⟨r,GB,hr,rfl,hRA,hT,hcr⟩:=hrel
  by_cases hlt:r<n
  ·have hlt':(r:Int)<(n:Int):=by omega
   obtain⟨b,off,rfl,hc⟩:=rdI_spot18 HD.out (r:=r) (by rw[<-hn.out];exact hlt);have wz:=HW.out r hlt;obtain⟨z,hz⟩:∃z,Hid (z=l.getD r 0):=⟨_,rfl⟩;rw[<-hz.out]at hc wz;obtain⟨x,hx⟩:∃x,Hid (x=wrAX (lbV a l r).st z 0 lbB):=⟨_,rfl⟩;have s0:=hc wr hT.out.turn;have KW:Hid (∀W1 v,Below wr.heap.size wr W1->Rd W1 v lbB->Calls Tryz.prog 81 #[.pointer (some ⟨ab,0,none⟩),.int .i64 z,.int .i64 0,v] W1 (LeavesA W1 ab GB (wrAS (lbV a l r).st z 0 lbB) (.int .i64 x))):=fun W1 v b R=>by
    rw[hx.out];exact awrite_any (hRA.below b) wz Zd R
   clear hc wz
   go_wp2_with fail
   refine mlabel_any.mono ?_
   rintro _ w1 ⟨v,rfl,R1,F1,B1⟩;have K:=KW.out w1 v B1 R1;obtain⟨va,vc,ev⟩:=R1.form;subst ev
   go_wp2_with fail
   refine K.mono ?_
   rintro _ w2 ⟨rfl,GC,A2,g2⟩;have T02:Hid (Grew GA w GC w2):=(hT.out.trans (Grew.of_below B1)).trans g2
   by_cases q:x=130
   ·have E:=lb_cr (l:=l) (r:=r) (n:=l.length) hcr.out (by rw[<-hz.out,<-hx.out];exact q) (by rw[<-hn.out];exact hlt);have F:Hid (LeavesA w ab GA (lbS a l) (.int .i64 (lbX a l)) (.returned (.int .i64 x)) w2):=by
     show LeavesA _ _ _ _ _ _ _
     unfold lbS lbX;rw[E,q];refine⟨rfl,GC,?_,T02.out⟩
     have:wrAS (lbV a l r).st z 0 lbB=(lbV a l r).st:=if_pos (wrAX_crash.1 (by rw[<-hx.out];exact q))
     rw[this]at A2;exact A2
    subst q;clear A2 g2 T02 s0 KW K R1 F1 B1 hRA E hT hcr hx;go_wp2;exact bodyPost_ret (v:=.int .i64 130) (by simp[results,Tryz.results29,go_sem]) rfl F.out
   ·have q':(x==130)=false:=Zq.2 q;have E:=lb_go (l:=l) (r:=r) hcr.out (by rw[<-hz.out,<-hx.out];exact q);rw[<-hz.out]at E;have RA:Hid (ArAt w2 ab GC (lbV a l (r+1)).st):=by show ArAt _ _ _ _;rw[E];exact A2
    have CN:Hid ((lbV a l (r+1)).cr=false):=by show _=_;rw[E]
    clear A2 g2 s0 KW K R1 F1 B1 hRA E hT hcr hx;go_wp2;go_roundw
    case rel=>exact⟨r+1,GC,Zo,Zg,RA.out,T02,CN⟩
    case measure=>simp[intOf];omega
  ·obtain rfl:r=n:=by omega
   have hge:¬(r:Int)<(r:Int):=Zo
   have KF:=aflush_any hRA;have E:Hid (lbX a l=flAX (lbV a l r).st/\lbS a l=flAS (lbV a l r).st):=by
    unfold lbX lbS;rw[<-hn.out,hcr.out];exact⟨rfl,rfl⟩
   obtain⟨x,hx⟩:∃x,Hid (x=flAX (lbV a l r).st):=⟨_,rfl⟩;rw[<-hx.out]at KF;clear hRA
   go_wp2_with fail
   refine KF.mono ?_
   rintro _ w2 ⟨rfl,GC,A2,T2⟩;have F:Hid (LeavesA w ab GA (lbS a l) (.int .i64 (lbX a l)) (.returned (.int .i64 x)) w2):=by
    show LeavesA _ _ _ _ _ _ _
    rw[E.out.1,E.out.2,hx.out];exact⟨rfl,GC,A2,hT.out.trans T2⟩
   clear KF A2 T2;go_wp2;exact bodyPost_ret (v:=.int .i64 x) (by simp[results,Tryz.results29,go_sem]) rfl F.out
def KnowsM(w:World)(X:Int)(L:List Bool)(e:Ending)(w':World):Prop:=∃v,e= .returned (.tuple #[v,.int .i64 X])/\RdB w' v L/\FarV w v/\Below w.heap.size w w'
theorem km_off{a:ArS}(h:a.off=true):knX a=130/\knL a=[]:=⟨if_pos h,if_pos h⟩
theorem km_on{a:ArS}(h:a.off=false):knX a=0/\knL a=(List.range a.D.length).map (knF a):=⟨if_neg (by rw[h];decide),if_neg (by rw[h];decide)⟩
theorem row_rdB18{w:World}{g t n:Nat}{f:Nat->Bool}(h:w.rowIs g t n (fun j=>.bool (f j)))(hn:n<=1000):RdB w (.slice (some ⟨g,0,none⟩) n n) ((List.range n).map f):=by
 refine⟨some ⟨g,0,none⟩,n,by rw[List.length_map,List.length_range],by rw[List.length_map,List.length_range];exact Zr,Zl,nofun,fun i hi=>⟨g,0,rfl,h.lt,?_⟩⟩;rw[List.length_map,List.length_range]at hi;rw[Nat.zero_add,h.cell hi];simp[hb,List.getD,hi]
theorem mknows_any{w:World}{ab:Nat}{GA:Nat->Prop}{a:ArS}(h:ArAt w ab GA a):Calls Tryz.prog 19 #[.pointer (some ⟨ab,0,none⟩)] w (KnowsM w (knX a) (knL a)):=by
 have d2:=h.ok.d2;have d1:=h.ok.d1;have HO:Hid a.Ok:=h.ok;have HA:Hid (ArAt w ab GA a):=h;have KL:=alive_any h;obtain⟨n,hn⟩:∃n,Hid (n=a.D.length):=⟨_,rfl⟩;rw[<-hn.out]at d1 d2 KL;have mk1:=run_make_row' (P:=Tryz.prog) 36 4 (.bool false) 1 Tryz.underlying36 info_bool13 rfl .i64 .i64 n Zo Zo;clear h
 go_enter Tryz.func19,Tryz.ntmps19
 go_wp2_with fail
 refine KL.mono ?_
 rintro _ w1 ⟨g0,rfl,r1,s1,b1⟩;clear KL r1 s1;obtain⟨u,hu⟩:∃u,u=w1.alloc (Obj.cells (madeCells #[Value.bool false] n) 4):=⟨_,rfl⟩;have hub:Below w1.heap.size w1 u:=by rw[hu];exact belR _ _
 have hur:u.rowIs w1.heap.size 4 n (fun _=>.bool false):=by rw[hu];exact World.rowIs_made _ _ _ _
 have mk2:=mk1 w1;obtain⟨g,hg⟩:∃g,Hid (g=w1.heap.size):=⟨_,rfl⟩;rw[<-hu,<-hg.out]at mk2;rw[<-hg.out]at hur;have gl:Hid (w.heap.size<=g):=by show _<=_;rw[hg.out];exact b1.size
 have START:Hid (u.rowIs g 4 n (fun j=>.bool (if j<0 then knF a j else false))/\Below w.heap.size w u):=⟨hur.congr fun j _=>by rw[if_neg Zo],b1.step16 hub b1.size⟩;clear mk1 hu hub hur b1
 go_wp2_with fail
 go_loopw [16] (fun i wr=>∃r:Nat,r<=n/\i= .int .i64 (r:Int)/\wr.rowIs g 4 n (fun j=>.bool (if j<r then knF a j else false))/\Hid (Below w.heap.size w wr)/\Hid (0<r->a.off=false)) (fun i _=>n-(intOf i).toNat)
 case atStart=>exact⟨0,Zz,rfl,START.out.1,START.out.2,fun q=>Zo⟩
 case round=>
  clear START;obtain⟨r,hr,rfl,hR,hB,hOf⟩:=hrel
  by_cases hlt:r<n
  ·have hlt':(r:Int)<(n:Int):=by omega
   have KR:=aread_any (HA.out.below hB.out) (i:=(r:Int)) (ad:=0) (WalkArith.wf_i64 Zo) Zd;obtain⟨x,hx⟩:∃x,Hid (x=rdAX a (r:Int) 0):=⟨_,rfl⟩;obtain⟨p,hp⟩:∃p,Hid (p=rdAB a (r:Int) 0):=⟨_,rfl⟩;have lp:p.length<=100000:=by rw[hp.out];exact Nat.le_trans (rdB_le HO.out _ _) Zd
   rw[<-hx.out,<-hp.out]at KR
   go_wp2_with fail
   refine KR.mono ?_
   rintro _ w1 ⟨v,rfl,O1,B1⟩;have R1:Rd w1 v p:=Rd.owned O1;obtain⟨va,vc,ev⟩:=R1.form;subst ev;have B01:=hB.out.step16 B1 hB.out.size;clear KR O1
   by_cases q:x=130
   ·have F:Hid (KnowsM w (knX a) (knL a) (.returned (.tuple #[.slice none 0 0,.int .i64 x])) w1):=by
     have ho:a.off=true:=by
      cases ho:a.off with
      |true=>rfl
      |false=>exact absurd (hx.out.symm.trans q) (rdAX_up ho)
     show KnowsM _ _ _ _ _
     rw[(km_off ho).1,(km_off ho).2,q];exact⟨_,rfl,rdB_none,FarV.nil _ _ _,B01⟩
    subst q;clear hR hB B1 B01 R1 hx;go_wp2;exact bodyPost_ret (v:=.tuple #[.slice none 0 0,.int .i64 130]) (by simp[results,Tryz.results19,go_sem]) rfl F.out
   ·have q':(x==130)=false:=Zq.2 q
    go_wp2_with fail
    refine mlabel_any.mono ?_
    rintro _ w2 ⟨u,rfl,R2,F2,B2⟩;have KS:=beq_any (R1.below B2) R2;obtain⟨ua,uc,eu⟩:=R2.form;subst eu;obtain⟨y,hy⟩:∃y,Hid (y=sameB p lbB):=⟨_,rfl⟩;rw[<-hy.out]at KS;have B02:=B01.step16 B2 B01.size;have B12:=B1.step16 B2 B1.size;have EY:Hid (y=knF a r):=by
     show y=_
     have e2:(rdAB a (r:Int) 0==lbB)=decide (rdAB a (r:Int) 0=lbB):=by by_cases q:rdAB a (r:Int) 0=lbB<;>simp[q]
     unfold knF;rw[hy.out,hp.out,e2];unfold sameB
     by_cases q0:rdAB a (r:Int) 0=lbB
     ·have hf:rdAX a (r:Int) 0=0:=by
       have hne:rdAB a (r:Int) 0≠[]:=fun k=>by rw[k]at q0;have:=congrArg List.length q0;rw[show lbB=pkS 0 0 [76]from rfl,pk_length]at this;simp at this
       unfold rdAB at hne;unfold rdAX
       by_cases ho:a.off=true
       ·rw[if_pos ho]at hne;exact absurd rfl hne
       ·rw[if_neg ho]at hne ⊢
        by_cases ht:thA a (r:Int)
        ·rw[if_pos ht]at hne ⊢;unfold rdB at hne
         by_cases k:faX (diA a (r:Int)) 0=0
         ·exact k
         ·rw[if_neg k]at hne;exact absurd rfl hne
        ·rw[if_neg ht]at hne;exact absurd rfl hne
      rw[Zy hf,Zy q0];rfl
     ·rw[Zx q0,Bool.and_false]
    have OFF:Hid (0<r+1->a.off=false):=fun _=>by
     cases ho:a.off with
     |false=>rfl
     |true=>exact absurd (hx.out.trans (if_pos ho)) q
    have hR2:=hR.of_block (B12.block g hR.lt);clear R1 R2 F2 B1 B2 B12 B01 hR hB hx hp hy
    go_wp2_with fail
    refine KS.mono ?_
    rintro _ w3 ⟨rfl,rfl⟩;have cq:=hR2.cell hlt;have fq:=hR2.frozen r;have R3:=hR2.set r (.bool y);have E2:Hid ((w3.setCell ⟨g,r,none⟩ (.bool y)).rowIs g 4 n (fun j=>.bool (if j<r+1 then knF a j else false))):=R3.congr fun j hj=>by
     by_cases e:j=r
     ·rw[if_pos e,if_pos Zo,e,EY.out]
     ·rw[if_neg e]
      by_cases e2:j<r
      ·rw[if_pos e2,if_pos Zo]
      ·rw[if_neg e2,if_neg Zo]
    have B3:Hid (Below w.heap.size w (w3.setCell ⟨g,r,none⟩ (.bool y))):=B02.setCell gl.out _;clear KS R3 hR2 B02 EY;go_wp2;go_roundw
    case rel=>exact⟨r+1,Zo,Zg,E2.out,B3,OFF⟩
    case measure=>simp[intOf];omega
  ·obtain rfl:r=n:=by omega
   have hge:¬(r:Int)<(r:Int):=Zo
   cases ho:a.off with
   |true=>exact absurd (hOf.out Zo) (by rw[ho];decide)
   |false=>
    have F:Hid (KnowsM w (knX a) (knL a) (.returned (.tuple #[.slice (some ⟨g,0,none⟩) r r,.int .i64 0])) wr):=by
     show KnowsM _ _ _ _ _
     rw[(km_on ho).1,(km_on ho).2,<-hn.out];exact⟨_,rfl,row_rdB18 (f:=knF a) (hR.congr fun j hj=>by rw[if_pos hj]) Zo,fun x m c e=>Or.inr (by simp at e;obtain⟨rfl,_⟩:=e;exact gl.out),hB.out⟩
    clear hR hB;go_wp2;exact bodyPost_ret (v:=.tuple #[.slice (some ⟨g,0,none⟩) r r,.int .i64 0]) (by simp[results,Tryz.results19,go_sem]) rfl F.out
end Go.Proofs.YtclieefpnbdbjaaGreat.Gf
