/- JOINED: StCl, StDid. -/
import Derived.Test.YtddnfhfangfgeaaGreatPome31
import Derived.Test.YtddnfhfangfgeaaGreatPome25
set_option maxHeartbeats 4000000
set_option maxRecDepth 100000
namespace Go.Proofs.YtddnfhfangfgeaaGreat.Gf
set_option linter.unusedVariables false
set_option linter.unusedSimpArgs false
open Go.RowKit
open Go.ChangeShapes
structure CallS where
 kind:Int
 n:Int
 m:Int
 vd:Value
 d:List UInt8
 c:CallA
instance:Inhabited CallS:=⟨⟨0,0,0,.slice none 0 0,[],default⟩⟩
structure CallAtS(w:World)(b off:Nat)(x:CallS):Prop where
 s0:w.cell? ⟨b,off,none⟩=some (.int .i64 x.kind)
 s1:w.cell? ⟨b,off+1,none⟩=some (.int .i64 x.n)
 s2:w.cell? ⟨b,off+2,none⟩=some (.int .i64 x.m)
 s3:w.cell? ⟨b,off+3,none⟩=some x.vd
 s4:w.cell? ⟨b,off+4,none⟩=some (.int .i64 x.c.kind)
 s5:w.cell? ⟨b,off+5,none⟩=some (.int .i64 x.c.d)
 s6:w.cell? ⟨b,off+6,none⟩=some (.int .i64 x.c.n)
 s7:w.cell? ⟨b,off+7,none⟩=some (.int .i64 x.c.m)
 s8:w.cell? ⟨b,off+8,none⟩=some (.int .u8 ((x.c.by8.toNat:Nat):Int))
 s9:w.cell? ⟨b,off+9,none⟩=some x.c.vb
 s10:w.cell? ⟨b,off+10,none⟩=some x.c.vk
 wk:(Lit.int .i64 x.kind).wf=true
 wn:(Lit.int .i64 x.n).wf=true
 wm:(Lit.int .i64 x.m).wf=true
 rd:Rd w x.vd x.d
 cv:CallV w x.c
theorem CallAtS.below{w w':World}{b off:Nat}{x:CallS}(h:CallAtS w b off x)(hb:b<w.heap.size)(hw:Below w.heap.size w w'):CallAtS w' b off x:=by
 have k:∀j,w'.cell? ⟨b,j,none⟩=w.cell? ⟨b,j,none⟩:=fun j=>hw.cell (p:=⟨b,j,none⟩) hb
 exact⟨(k _).trans h.s0,(k _).trans h.s1,(k _).trans h.s2,(k _).trans h.s3,(k _).trans h.s4,(k _).trans h.s5,(k _).trans h.s6,(k _).trans h.s7,(k _).trans h.s8,(k _).trans h.s9,(k _).trans h.s10,h.wk,h.wn,h.wm,h.rd.below hw,h.cv.below hw⟩
def RdS15(w:World)(v:Value)(L:List CallS):Prop:=
 (∃ao cap,L=[]/\v= .slice ao 0 cap)∨(∃b off cap,L≠[]/\v= .slice (some ⟨b,off,none⟩) L.length cap/\L.length<=maxLen/\b<w.heap.size/\∀i,i<L.length->CallAtS w b (off+i*11) (L.getD i default))
theorem RdS15.below{w w':World}{v:Value}{L:List CallS}(h:RdS15 w v L)(hb:Below w.heap.size w w'):RdS15 w' v L:=by
 rcases h with h|⟨b,off,cap,h1,h2,h3,h5,h6⟩
 ·exact Or.inl h
 ·exact Or.inr ⟨b,off,cap,h1,h2,h3,Zu h5 hb.size,fun i hi=>(h6 i hi).below h5 hb⟩
theorem RdS15.form{w:World}{v:Value}{L:List CallS}(h:RdS15 w v L):∃a c,v= .slice a L.length c:=by
 rcases h with⟨a,c,rfl,rfl⟩|⟨b,off,c,_,rfl,_⟩
 ·exact⟨a,c,rfl⟩
 ·exact⟨_,c,rfl⟩
theorem RdS15.lenEq{w:World}{a:Option Addr}{len cap:Nat}{L:List CallS}(h:RdS15 w (.slice a len cap) L):len=L.length:=by
 obtain⟨_,_,e⟩:=h.form;simp at e;exact e.2.1
theorem RdS15.at{w:World}{a:Option Addr}{c:Nat}{L:List CallS}(h:RdS15 w (.slice a L.length c) L){k:Nat}(hk:k<L.length):∃b off,a=some ⟨b,off,none⟩/\b<w.heap.size/\CallAtS w b (off+k*11) (L.getD k default):=by
 rcases h with⟨_,_,h1,_⟩|⟨b,off,c,h1,h2,h3,h4,h5⟩
 ·rw[h1]at hk;simp at hk
 ·simp at h2;exact⟨b,off,h2.1,h4,h5 k hk⟩
theorem eleven{cs:List Value}(h:cs.length=11):∃v0 v1 v2 v3 u0 u1 u2 u3 u4 u5 u6,cs=[v0,v1,v2,v3,u0,u1,u2,u3,u4,u5,u6]:=by
 match cs,h with
 |[a,b,c,d,e,f,g,i,j,k,l],_=>exact⟨a,b,c,d,e,f,g,i,j,k,l,rfl⟩
section
variable {H:Type} {enc:TypeId×Value->H} {P:Program} {w:World} {base:Nat} {held:Bool}
theorem open_acell{t sb ss si:TypeId}{f0 f1 f2 f3 f4 f5 f6:Field}{fuel:Nat}{cs:List Value}{x:DataW H×List MemPlace}(he:P.underlying t=some (.struct #[f0,f1,f2,f3,f4,f5,f6]))(ce:P.cellsOf t=7)
  (o0:f0.offset=0) (o1:f1.offset=1) (o2:f2.offset=2) (o3:f3.offset=3) (o4:f4.offset=4) (o5:f5.offset=5) (o6:f6.offset=6)
  (t0:P.underlying f0.type=some (.int .i64)) (t1:P.underlying f1.type=some (.int .i64)) (t2:P.underlying f2.type=some (.int .i64)) (t3:P.underlying f3.type=some (.int .i64)) (t4:P.underlying f4.type=some (.int .u8)) (t5:P.underlying f5.type=some (.slice sb)) (t6:P.underlying f6.type=some (.slice ss))
  (tb:P.underlying sb=some (.int .u8)) (ts:P.underlying ss=some (.slice si)) (ti:P.underlying si=some (.int .i64)) (cb:P.cellsOf sb=1) (cs1:P.cellsOf ss=1) (ci:P.cellsOf si=1)
  (n0:P.cellsOf f0.type=1) (n1:P.cellsOf f1.type=1) (n2:P.cellsOf f2.type=1) (n3:P.cellsOf f3.type=1) (n4:P.cellsOf f4.type=1) (n5:P.cellsOf f5.type=1) (n6:P.cellsOf f6.type=1)
  (hf:DataW.trod enc P w base (fun _=>true) held fuel t cs=some x):∃c:CallA,cs=[.int .i64 c.kind,.int .i64 c.d,.int .i64 c.n,.int .i64 c.m,.int .u8 ((c.by8.toNat:Nat):Int),c.vb,c.vk]/\CallV w c:=by
 obtain⟨xs,n',_,_,hlen,hxl,hfd⟩:=DataW.trod_struct he hf;rw[ce]at hlen;obtain⟨v0,v1,v2,v3,v4,v5,v6,rfl⟩:=seven hlen;have hxl':xs.length=7:=hxl;have g:∀k,k<7->∃y,xs[k]? =some y:=fun k hk=>⟨xs[k],List.getElem?_eq_getElem Zo⟩
 obtain⟨y0,e0⟩:=g 0 Zo;obtain⟨y1,e1⟩:=g 1 Zo;obtain⟨y2,e2⟩:=g 2 Zo;obtain⟨y3,e3⟩:=g 3 Zo;obtain⟨y4,e4⟩:=g 4 Zo;obtain⟨y5,e5⟩:=g 5 Zo;obtain⟨y6,e6⟩:=g 6 Zo;have q0:=hfd 0 f0 rfl;have q1:=hfd 1 f1 rfl;have q2:=hfd 2 f2 rfl;have q3:=hfd 3 f3 rfl;have q4:=hfd 4 f4 rfl;have q5:=hfd 5 f5 rfl;have q6:=hfd 6 f6 rfl;rw[o0,n0,e0]at q0;rw[o1,n1,e1]at q1;rw[o2,n2,e2]at q2;rw[o3,n3,e3]at q3;rw[o4,n4,e4]at q4;rw[o5,n5,e5]at q5;rw[o6,n6,e6]at q6;obtain⟨z0,r0,_,w0⟩:=DataW.trod_int t0 q0;obtain⟨z1,r1,_,w1⟩:=DataW.trod_int t1 q1;obtain⟨z2,r2,_,w2⟩:=DataW.trod_int t2 q2;obtain⟨z3,r3,_,w3⟩:=DataW.trod_int t3 q3;obtain⟨z4,r4,_,w4⟩:=DataW.trod_int t4 q4;simp at r0 r1 r2 r3 r4;subst r0 r1 r2 r3 r4;have b4:=bounds_u8 w4;obtain⟨pb,hvb⟩:∃pb,Rd w v5 pb:=by
  rcases open_ints t5 tb cb q5 with⟨hcs,_⟩|⟨x4,l4,c4,zs,hcs,_,hl4,hm4,hz,_,hcell,hwz⟩
  ·simp at hcs;subst hcs;obtain⟨p,_,hp⟩:=rd_row (w:=w) (a:=none) (len:=0) (cap:=0) (zs:=[]) (Or.inl ⟨rfl,rfl,rfl,rfl⟩);exact⟨p,hp⟩
  ·simp at hcs;subst hcs;obtain⟨p,_,hp⟩:=rd_row (w:=w) (a:=some x4) (len:=l4) (cap:=c4) (zs:=zs) (Or.inr ⟨x4,rfl,hl4,hm4,by simpa using hz,hcell,hwz⟩);exact⟨p,hp⟩
 obtain⟨ra,rl,rc,Lk,hcs,_,hvk⟩:=open_rows t6 ts ti ci cs1 q6;simp at hcs;subst hcs;refine⟨⟨z0,z1,z2,z3,UInt8.ofNat z4.toNat,v5,_,pb,Lk⟩,?_,w0,w1,w2,w3,hvb,hvk⟩;have e:(((UInt8.ofNat z4.toNat).toNat:Nat):Int)=z4:=by rw[ofNat_u8 Zo];omega
 show _=[Value.int .i64 z0,.int .i64 z1,.int .i64 z2,.int .i64 z3,.int .u8 (((UInt8.ofNat z4.toNat).toNat:Nat):Int),v5,_]
 rw[e]
theorem open_scalls{t e sb ss si:TypeId}{e0 e1 e2 e3 e4 f0 f1 f2 f3 f4 f5 f6:Field}{fuel:Nat}{cs:List Value}{x:DataW H×List MemPlace}(ht:P.underlying t=some (.slice e))(he:P.underlying e=some (.struct #[e0,e1,e2,e3,e4]))(ce:P.cellsOf e=11)
  (p0:e0.offset=0) (p1:e1.offset=1) (p2:e2.offset=2) (p3:e3.offset=3) (p4:e4.offset=4)
  (u0:P.underlying e0.type=some (.int .i64)) (u1:P.underlying e1.type=some (.int .i64)) (u2:P.underlying e2.type=some (.int .i64)) (u3:P.underlying e3.type=some (.slice sb))
  (m0:P.cellsOf e0.type=1) (m1:P.cellsOf e1.type=1) (m2:P.cellsOf e2.type=1) (m3:P.cellsOf e3.type=1) (m4:P.cellsOf e4.type=7)
  (h4:P.underlying e4.type=some (.struct #[f0,f1,f2,f3,f4,f5,f6]))
  (o0:f0.offset=0) (o1:f1.offset=1) (o2:f2.offset=2) (o3:f3.offset=3) (o4:f4.offset=4) (o5:f5.offset=5) (o6:f6.offset=6)
  (t0:P.underlying f0.type=some (.int .i64)) (t1:P.underlying f1.type=some (.int .i64)) (t2:P.underlying f2.type=some (.int .i64)) (t3:P.underlying f3.type=some (.int .i64)) (t4:P.underlying f4.type=some (.int .u8)) (t5:P.underlying f5.type=some (.slice sb)) (t6:P.underlying f6.type=some (.slice ss))
  (tb:P.underlying sb=some (.int .u8)) (ts:P.underlying ss=some (.slice si)) (ti:P.underlying si=some (.int .i64)) (cb:P.cellsOf sb=1) (cs1:P.cellsOf ss=1) (ci:P.cellsOf si=1)
  (n0:P.cellsOf f0.type=1) (n1:P.cellsOf f1.type=1) (n2:P.cellsOf f2.type=1) (n3:P.cellsOf f3.type=1) (n4:P.cellsOf f4.type=1) (n5:P.cellsOf f5.type=1) (n6:P.cellsOf f6.type=1)
  (h:DataW.trod enc P w base (fun _=>true) held fuel t cs=some x):∃a len cap L,cs=[.slice a len cap]/\len=L.length/\RdS15 w (.slice a len cap) L:=by
 rcases Go.Deep.open_slice ht h with⟨rfl,_⟩|⟨a,len,cap,m,n,D,Pl,rfl,hb,hl,hm,hmm,rfl,hx⟩
 ·exact⟨none,0,0,[],rfl,rfl,Or.inl ⟨none,0,rfl,rfl⟩⟩
 simp only[if_true]at hmm
 by_cases hl0:len=0
 ·subst hl0;exact⟨some a,0,cap,[],rfl,rfl,Or.inl ⟨_,_,rfl,rfl⟩⟩
 obtain⟨bb,off,spot⟩:=a;have hspot:spot=none:=by
  obtain⟨cs',h1,_⟩:=hx 0 Zo;rw[ce]at h1;have hc:=World.cells?_some h1;have h2:=hc.2.2 0 Zo;obtain⟨v,hv⟩:∃v,cs'[0]? =some v:=⟨cs'[0]'Zo,List.getElem?_eq_getElem Zo⟩
  rw[hv]at h2;have:=World.cell?_spot h2;simpa[Addr.add]using this
 subst hspot;have each:∀i,i<len->∃c:CallS,CallAtS w bb (off+i*11) c:=by
  intro i hi;obtain⟨cs',h1,h2⟩:=hx i Zo;obtain⟨xs,n',_,_,hlen,hxl,hf⟩:=DataW.trod_struct he h2;rw[ce]at hlen h1;obtain⟨v0,v1,v2,v3,r0,r1,r2,r3,r4,r5,r6,rfl⟩:=eleven hlen;have hxl':xs.length=5:=hxl;have g:∀k,k<5->∃y,xs[k]? =some y:=fun k hk=>⟨xs[k],List.getElem?_eq_getElem Zo⟩
  obtain⟨y0,q0e⟩:=g 0 Zo;obtain⟨y1,q1e⟩:=g 1 Zo;obtain⟨y2,q2e⟩:=g 2 Zo;obtain⟨y3,q3e⟩:=g 3 Zo;obtain⟨y4,q4e⟩:=g 4 Zo;have q0:=hf 0 e0 rfl;have q1:=hf 1 e1 rfl;have q2:=hf 2 e2 rfl;have q3:=hf 3 e3 rfl;have q4:=hf 4 e4 rfl;rw[p0,m0,q0e]at q0;rw[p1,m1,q1e]at q1;rw[p2,m2,q2e]at q2;rw[p3,m3,q3e]at q3;rw[p4,m4,q4e]at q4;obtain⟨z0,k0,_,w0⟩:=DataW.trod_int u0 q0;obtain⟨z1,k1,_,w1⟩:=DataW.trod_int u1 q1;obtain⟨z2,k2,_,w2⟩:=DataW.trod_int u2 q2;simp at k0 k1 k2;subst k0 k1 k2;obtain⟨c,hc7,hcv⟩:=open_acell h4 m4 o0 o1 o2 o3 o4 o5 o6 t0 t1 t2 t3 t4 t5 t6 tb ts ti cb cs1 ci n0 n1 n2 n3 n4 n5 n6 q4;simp at hc7;obtain⟨rfl,rfl,rfl,rfl,rfl,rfl,rfl⟩:=hc7;obtain⟨pb,hvb⟩:∃pb,Rd w v3 pb:=by
   rcases open_ints u3 tb cb q3 with⟨hcs,_⟩|⟨x4,l4,c4,zs,hcs,_,hl4,hm4,hz,_,hcell,hwz⟩
   ·simp at hcs;subst hcs;obtain⟨p,_,hp⟩:=rd_row (w:=w) (a:=none) (len:=0) (cap:=0) (zs:=[]) (Or.inl ⟨rfl,rfl,rfl,rfl⟩);exact⟨p,hp⟩
   ·simp at hcs;subst hcs;obtain⟨p,_,hp⟩:=rd_row (w:=w) (a:=some x4) (len:=l4) (cap:=c4) (zs:=zs) (Or.inr ⟨x4,rfl,hl4,hm4,by simpa using hz,hcell,hwz⟩);exact⟨p,hp⟩
  obtain⟨hbase,_,hc⟩:=World.cells?_some h1;have kk:∀k,k<11->w.cell? ⟨bb,off+i*11+k,none⟩=[Value.int .i64 z0,.int .i64 z1,.int .i64 z2,v3,.int .i64 c.kind,.int .i64 c.d,.int .i64 c.n,.int .i64 c.m,.int .u8 ((c.by8.toNat:Nat):Int),c.vb,c.vk][k]? :=by
   intro k hk;have:=hc k hk;rw[Go.Deep.add_add,add_at,<-Nat.add_assoc]at this;exact this
  exact⟨⟨z0,z1,z2,v3,pb,c⟩,kk 0 Zo,kk 1 Zo,kk 2 Zo,kk 3 Zo,kk 4 Zo,kk 5 Zo,kk 6 Zo,kk 7 Zo,kk 8 Zo,kk 9 Zo,kk 10 Zo,w0,w1,w2,hvb,hcv⟩
 obtain⟨F,hF⟩:=Go.Deep.choose_lt each;have hlen:((List.range len).map F).length=len:=Zs
 refine⟨some ⟨bb,off,none⟩,len,cap,(List.range len).map F,rfl,hlen.symm,?_⟩;have hc0:=(hF 0 Zo).s0;have hbw:bb<w.heap.size:=by
  unfold World.cell? at hc0
  by_cases hb:bb<w.heap.size
  ·exact hb
  ·rw[Array.getElem?_eq_none (by show w.heap.size<=bb;omega)]at hc0;cases hc0
 refine Or.inr ⟨bb,off,cap,fun e=>by rw[e]at hlen;simp at hlen;omega,by rw[hlen],by rw[hlen];omega,hbw,fun i hi=>?_⟩;rw[hlen]at hi;have e1:((List.range len).map F).getD i default=F i:=by simp[List.getD,hi]
 rw[e1];exact hF i hi
end
end Go.Proofs.YtddnfhfangfgeaaGreat.Gf
namespace Go.Proofs.YtddnfhfangfgeaaGreat.Gf
set_option linter.unusedVariables false
set_option linter.unusedSimpArgs false
open Go.RowKit
theorem RdI.short{w:World}{v:Value}{zs:List Int}(h:RdI w v zs):zs.length<=9223372036854775807:=by
 rcases h with⟨_,_,rfl,_⟩|⟨b,off,c,h1,h2,h3,_⟩
 ·exact Zz
 ·unfold maxLen at h3;omega
theorem RdII.short{w:World}{v:Value}{L:List VI}(h:RdII w v L){r:VI}(hr:r∈L):r.2.length<=9223372036854775807:=by
 rcases h with⟨_,_,rfl,_⟩|⟨b,off,c,h1,h2,h3,h4,h5⟩
 ·cases hr
 ·obtain⟨i,hi,e⟩:=List.getElem_of_mem hr;have q:=(h5 i hi).rd.short;have e2:L.getD i default=r:=by simp[List.getD,hi,e]
  rw[e2]at q;exact q
section
variable {u1 w:World} {ab rb fb:Nat} {G HR:Nat->Prop} {a:ArS}
def DidS(u1:World)(ab rb:Nat)(HR:Nat->Prop)(e:Ending)(w':World):Prop:=e= .returned (.bool true)/\∃G' a',BothA u1 w' ab rb G' HR a'
variable {k m z s t o st ep:Int}
theorem swrite_did(h:BothA u1 w ab rb G HR a)(hF:FieldAt u1 fb)(hg:GeoS.Wf ⟨k,m,z,s,t,o⟩)(hst:(Lit.int .i64 st).wf=true){v:Value}{D:List UInt8}(hp:Rd u1 v D)(hz:okG ⟨k,m,z,s,t,o⟩->z<=300){x:Int}(hx:swX a ⟨k,m,z,s,t,o⟩ st ep D=x):
  Calls Tryz.prog 18 #[.pointer (some ⟨ab,0,none⟩),.pointer (some ⟨fb,0,none⟩),.agg #[.int .i64 k,.int .i64 m,.int .i64 z,.int .i64 s,.int .i64 t,.int .i64 o],.int .i64 st,.int .i64 ep,v] w (LeavesA w ab G (swS a ⟨k,m,z,s,t,o⟩ st ep D) (.int .i64 x)):=by
 rw[<-hx];exact swrite_any h.D.at_ (hF.belowF h.B) hg hst (hp.below h.B) hz
theorem rwrite_did(hR:RaAt w rb HR G a)(hg:GeoS.Wf ⟨k,m,z,s,t,o⟩)(hst:(Lit.int .i64 st).wf=true){v:Value}{D:List UInt8}(hp:Rd w v D)(hz:okG ⟨k,m,z,s,t,o⟩->z<=300){x:Int}(hx:swX a ⟨k,m,z,s,t,o⟩ st ep D=x):
  Calls Tryz.prog 35 #[.pointer (some ⟨rb,0,none⟩),.agg #[.int .i64 k,.int .i64 m,.int .i64 z,.int .i64 s,.int .i64 t,.int .i64 o],.int .i64 st,.int .i64 ep,v] w (LeavesRA w rb HR G (swS a ⟨k,m,z,s,t,o⟩ st ep D) (.int .i64 x)):=by
 rw[<-hx];exact rwrite15_any hR hg hst hp hz
theorem sread_did(h:BothA u1 w ab rb G HR a)(hF:FieldAt u1 fb)(hg:GeoS.Wf ⟨k,m,z,s,t,o⟩)(hst:(Lit.int .i64 st).wf=true)(hz:okG ⟨k,m,z,s,t,o⟩->z<=300){x:Int}{D:List UInt8}{B:List Nat}(hx:rtX a ⟨k,m,z,s,t,o⟩ st ep=x)(hD:rtD a ⟨k,m,z,s,t,o⟩ st ep=D)(hB:rtB a ⟨k,m,z,s,t,o⟩ st ep=B):
  Calls Tryz.prog 24 #[.pointer (some ⟨ab,0,none⟩),.pointer (some ⟨fb,0,none⟩),.agg #[.int .i64 k,.int .i64 m,.int .i64 z,.int .i64 s,.int .i64 t,.int .i64 o],.int .i64 st,.int .i64 ep] w (MakesL15 w x D B):=by
 rw[<-hx,<-hD,<-hB];exact sread_any h.D.at_ (hF.belowF h.B) hg hst hz
theorem rread_did(h:BothA u1 w ab rb G HR a)(hg:GeoS.Wf ⟨k,m,z,s,t,o⟩)(hst:(Lit.int .i64 st).wf=true)(hz:okG ⟨k,m,z,s,t,o⟩->z<=300){x:Int}{D:List UInt8}{B:List Nat}(hx:rtX a ⟨k,m,z,s,t,o⟩ st ep=x)(hD:rtD a ⟨k,m,z,s,t,o⟩ st ep=D)(hB:rtB a ⟨k,m,z,s,t,o⟩ st ep=B):
  Calls Tryz.prog 36 #[.pointer (some ⟨rb,0,none⟩),.agg #[.int .i64 k,.int .i64 m,.int .i64 z,.int .i64 s,.int .i64 t,.int .i64 o],.int .i64 st,.int .i64 ep] w (MakesR15 w x D B):=by
 rw[<-hx,<-hD,<-hB];exact rread15_any h.R hg hst hz
theorem sfix_did(h:BothA u1 w ab rb G HR a)(hF:FieldAt u1 fb)(hg:GeoS.Wf ⟨k,m,z,s,t,o⟩)(hst:(Lit.int .i64 st).wf=true)(hz:okG ⟨k,m,z,s,t,o⟩->z<=300){x:Int}{n:Nat}(hx:fxX a ⟨k,m,z,s,t,o⟩ st ep=x)(hn:fxN a ⟨k,m,z,s,t,o⟩ st ep=n):
  Calls Tryz.prog 26 #[.pointer (some ⟨ab,0,none⟩),.pointer (some ⟨fb,0,none⟩),.agg #[.int .i64 k,.int .i64 m,.int .i64 z,.int .i64 s,.int .i64 t,.int .i64 o],.int .i64 st,.int .i64 ep] w (LeavesA w ab G (fxS a ⟨k,m,z,s,t,o⟩ st ep) (.tuple #[.int .i64 (n:Int),.int .i64 x])):=by
 rw[<-hx,<-hn];exact sfix_any h.D.at_ (hF.belowF h.B) hg hst hz
theorem rfix_did(hR:RaAt w rb HR G a)(hg:GeoS.Wf ⟨k,m,z,s,t,o⟩)(hst:(Lit.int .i64 st).wf=true)(hz:okG ⟨k,m,z,s,t,o⟩->z<=300){x:Int}{n:Nat}(hx:fxX a ⟨k,m,z,s,t,o⟩ st ep=x)(hn:fxN a ⟨k,m,z,s,t,o⟩ st ep=n):
  Calls Tryz.prog 38 #[.pointer (some ⟨rb,0,none⟩),.agg #[.int .i64 k,.int .i64 m,.int .i64 z,.int .i64 s,.int .i64 t,.int .i64 o],.int .i64 st,.int .i64 ep] w (LeavesRA w rb HR G (fxS a ⟨k,m,z,s,t,o⟩ st ep) (.tuple #[.int .i64 (n:Int),.int .i64 x])):=by
 rw[<-hx,<-hn];exact rfix15_any hR hg hst hz
theorem rtB_few{g:GeoS}:(rtB a g st ep).length<=1000000:=by
 unfold rtB
 by_cases hX:rtX a g st ep=0
 ·rw[if_pos hX]
  by_cases hT:OkT g st ep
  ·obtain⟨⟨h1,h2,h3,h4,_⟩,_⟩:=hT;unfold bdT;rw[plc_length];refine Nat.le_trans (cnt_le _ _) ?_
   unfold nT;omega
  ·refine absurd hX ?_
   unfold rtX;rw[if_neg hT];exact ckT_not hT
 ·rw[if_neg hX];exact Zz
theorem did15_any(h:BothA u1 w ab rb G HR a)(hF:FieldAt u1 fb)(hg:GeoS.Wf ⟨k,m,z,s,t,o⟩)(hz:okG ⟨k,m,z,s,t,o⟩->z<=300){kd:Int}(hst:(Lit.int .i64 st).wf=true){d:List UInt8}{da:Option Addr}{dc:Nat}(pd:Rd u1 (.slice da d.length dc) d)
  {ad cd cn cm:Int} {cy:UInt8} {cb:List UInt8} {ck:List VI} {ba ka:Option Addr} {bc kc:Nat} (pb:Rd u1 (.slice ba cb.length bc) cb) (pk:RdII u1 (.slice ka ck.length kc) ck) (wd:(Lit.int .i64 cd).wf=true) (wn:(Lit.int .i64 cn).wf=true) (wm:(Lit.int .i64 cm).wf=true) (hk:∀r∈ck,r.2.length<=9223372036854775807):
  Calls Tryz.prog 14 #[.pointer (some ⟨ab,0,none⟩),.pointer (some ⟨rb,0,none⟩),.pointer (some ⟨fb,0,none⟩),.agg #[.int .i64 k,.int .i64 m,.int .i64 z,.int .i64 s,.int .i64 t,.int .i64 o],.agg #[.int .i64 kd,.int .i64 st,.int .i64 ep,.slice da d.length dc,.int .i64 ad,.int .i64 cd,.int .i64 cn,.int .i64 cm,.int .u8 ((cy.toNat:Nat):Int),.slice ba cb.length bc,.slice ka ck.length kc]] w (DidS u1 ab rb HR):=by
 obtain⟨wa,hwa⟩:∃x,x=(w.alloc (.cells #[.int .i64 k,.int .i64 m,.int .i64 z,.int .i64 s,.int .i64 t,.int .i64 o] 24)).alloc (.cells #[.int .i64 kd,.int .i64 st,.int .i64 ep,.slice da d.length dc,.int .i64 ad,.int .i64 cd,.int .i64 cn,.int .i64 cm,.int .u8 ((cy.toNat:Nat):Int),.slice ba cb.length bc,.slice ka ck.length kc] 41):=⟨_,rfl⟩;have bA:Below w.heap.size w wa:=by rw[hwa];exact(belA _ _).trans ((belA _ _).mono Zs)
 have cX:∀j,wa.cell? ⟨w.heap.size,j,none⟩=(#[.int .i64 k,.int .i64 m,.int .i64 z,.int .i64 s,.int .i64 t,.int .i64 o]:Array Value)[j]? :=fun j=>by
  rw[hwa,(belA (w.alloc (.cells #[.int .i64 k,.int .i64 m,.int .i64 z,.int .i64 s,.int .i64 t,.int .i64 o] 24)) _).cell (p:=⟨w.heap.size,j,none⟩) Zs];exact World.cell?_alloc_new _ _ _ _
 have cY:∀j,wa.cell? ⟨w.heap.size+1,j,none⟩=(#[.int .i64 kd,.int .i64 st,.int .i64 ep,.slice da d.length dc,.int .i64 ad,.int .i64 cd,.int .i64 cn,.int .i64 cm,.int .u8 ((cy.toNat:Nat):Int),.slice ba cb.length bc,.slice ka ck.length kc]:Array Value)[j]? :=fun j=>by
  rw[hwa];have:=World.cell?_alloc_new (w.alloc (.cells #[.int .i64 k,.int .i64 m,.int .i64 z,.int .i64 s,.int .i64 t,.int .i64 o] 24)) #[.int .i64 kd,.int .i64 st,.int .i64 ep,.slice da d.length dc,.int .i64 ad,.int .i64 cd,.int .i64 cn,.int .i64 cm,.int .u8 ((cy.toNat:Nat):Int),.slice ba cb.length bc,.slice ka ck.length kc] 41 j;rw[World.size_alloc]at this;exact this
 have lA:w.heap.size+1<wa.heap.size:=by rw[hwa];simp
 have hA:=h.below bA;have nX:Hid (¬G w.heap.size/\¬G (w.heap.size+1)):=⟨fun e=>by have:=h.D.at_.lt _ e;omega,fun e=>by have:=h.D.at_.lt _ e;omega⟩;have rX:Hid (¬HR w.heap.size/\¬HR (w.heap.size+1)):=⟨fun e=>by have:=h.R.lt _ e;omega,fun e=>by have:=h.R.lt _ e;omega⟩;clear h bA;obtain⟨X,hX⟩:∃X,Hid (X=w.heap.size):=⟨_,rfl⟩;rw[<-hX.out]at cX cY lA nX rX;have x0:=cX 0;have x1:=cX 1;have x2:=cX 2;have x3:=cX 3;have x4:=cX 4;have x5:=cX 5;have y0:=cY 0;have y1:=cY 1;have y2:=cY 2;have y3:=cY 3;have y4:=cY 4;have y5:=cY 5;have y6:=cY 6;have y7:=cY 7;have y8:=cY 8;have y9:=cY 9;have y10:=cY 10;simp at x0 x1 x2 x3 x4 x5 y0 y1 y2 y3 y4 y5 y6 y7 y8 y9 y10;have cellsAt:Hid (∀W:World,(∀j,W.cell? ⟨X,j,none⟩=wa.cell? ⟨X,j,none⟩)->(∀j,W.cell? ⟨X+1,j,none⟩=wa.cell? ⟨X+1,j,none⟩)->W.cell? ⟨X,0,none⟩=some (.int .i64 k)/\W.cell? ⟨X,1,none⟩=some (.int .i64 m)/\W.cell? ⟨X,2,none⟩=some (.int .i64 z)/\W.cell? ⟨X,3,none⟩=some (.int .i64 s)/\W.cell? ⟨X,4,none⟩=some (.int .i64 t)/\W.cell? ⟨X,5,none⟩=some (.int .i64 o)/\W.cell? ⟨X+1,1,none⟩=some (.int .i64 st)/\W.cell? ⟨X+1,2,none⟩=some (.int .i64 ep)/\W.cell? ⟨X+1,3,none⟩=some (.slice da d.length dc)):=fun W h0 h1=>⟨(h0 0).trans x0,(h0 1).trans x1,(h0 2).trans x2,(h0 3).trans x3,(h0 4).trans x4,(h0 5).trans x5,(h1 1).trans y1,(h1 2).trans y2,(h1 3).trans y3⟩
 clear cX cY
 by_cases k1:kd=1
 ·subst k1;obtain⟨x,hx⟩:∃x,swX a ⟨k,m,z,s,t,o⟩ st ep d=x:=⟨_,rfl⟩;have hD:=hA.below (Below.refl wa.heap.size wa).drew;have KW:=swrite_did hD hF hg hst pd hz hx;have KR:=fun W G2 (hR:RaAt W rb HR G2 a) (p2:Rd W (.slice da d.length dc) d)=>rwrite_did hR hg hst p2 hz hx
  obtain⟨a',ha'⟩:∃a',swS a ⟨k,m,z,s,t,o⟩ st ep d=a':=⟨_,rfl⟩;rw[ha']at KW KR;clear hA ha' hx hg hz hst hF
  go_enter Tryz.func14,Tryz.ntmps14
  go_wp2_with fail
  rw[<-hwa];rw[<-hX.out];clear hwa hX
  go_region_held3 (fun wx=>wx.cell? ⟨X,0,none⟩=some (.int .i64 k)/\wx.cell? ⟨X,1,none⟩=some (.int .i64 m)/\wx.cell? ⟨X,2,none⟩=some (.int .i64 z)/\wx.cell? ⟨X,3,none⟩=some (.int .i64 s)/\wx.cell? ⟨X,4,none⟩=some (.int .i64 t)/\wx.cell? ⟨X,5,none⟩=some (.int .i64 o)/\wx.cell? ⟨X+1,1,none⟩=some (.int .i64 st)/\wx.cell? ⟨X+1,2,none⟩=some (.int .i64 ep)/\wx.cell? ⟨X+1,3,none⟩=some (.slice da d.length dc)) (first|exact⟨x0,x1,x2,x3,x4,x5,y1,y2,y3⟩|exact m3|exact m2) (first
   |(go_at_call 18;(refine KW.mono ?_);rintro _ v2 ⟨rfl,G2,A2,g2⟩;have R2:=RaAt.other hD.R g2 A2.lt;have p2:=pd.below (hD.B.trans (hD.D.bel g2));have e2:∀j,v2.cell? ⟨X,j,none⟩=wa.cell? ⟨X,j,none⟩:=(fun j=>g2.turn.cell (p:=⟨X,j,none⟩) (Nat.lt_of_succ_lt lA) nX.out.1);have f2:∀j,v2.cell? ⟨X+1,j,none⟩=wa.cell? ⟨X+1,j,none⟩:=(fun j=>g2.turn.cell (p:=⟨X+1,j,none⟩) lA nX.out.2);have m2:=cellsAt.out v2 e2 f2;have lX:=Zu lA g2.turn.size)
   |(go_at_call 35;(refine(KR _ _ R2 p2).mono ?_);rintro _ v3 ⟨rfl,R3,t3⟩;have F:=hD.step A2 g2 R3 t3;have m3:=cellsAt.out v3 (fun j=>(t3.cell (p:=⟨X,j,none⟩) (Nat.lt_of_succ_lt lX) rX.out.1).trans (e2 j)) (fun j=>(t3.cell (p:=⟨X+1,j,none⟩) lX rX.out.2).trans (f2 j))))
  all_goals
   have FF:Hid (∃G' a',BothA u1 v3 ab rb G' HR a'):=⟨G2,_,F⟩;clear F R3 t3 R2 p2 e2 f2 m2 m3 lX A2 g2 hD cellsAt KW KR;go_wp2;go_ret;exact⟨rfl,FF.out⟩
 by_cases k2:kd=2
 ·subst k2;obtain⟨x,hx⟩:∃x,rtX a ⟨k,m,z,s,t,o⟩ st ep=x:=⟨_,rfl⟩;obtain⟨pr,hpr⟩:∃p,rtD a ⟨k,m,z,s,t,o⟩ st ep=p:=⟨_,rfl⟩;obtain⟨bs,hbs⟩:∃p,rtB a ⟨k,m,z,s,t,o⟩ st ep=p:=⟨_,rfl⟩;have few:bs.length<=1000000:=by rw[<-hbs];exact rtB_few
  have KS:=sread_did hA hF hg hst hz hx hpr hbs;have KR:=fun W (h:BothA u1 W ab rb G HR a)=>rread_did h hg hst hz hx hpr hbs
  clear hx hpr hbs hg hz hst hF
  go_enter Tryz.func14,Tryz.ntmps14
  go_wp2_with fail
  rw[<-hwa];rw[<-hX.out];clear hwa hX;refine KS.mono ?_
  rintro _ v2 ⟨vd,vb,rfl,O2,I2,C2⟩;have h2:=hA.below C2;obtain⟨m0,m1,m2,m3,m4,m5,m6,m7,m8⟩:=cellsAt.out v2 (fun j=>C2.cell (p:=⟨X,j,none⟩) (Nat.lt_of_succ_lt lA)) (fun j=>C2.cell (p:=⟨X+1,j,none⟩) lA);have r2:Hid (Rd v2 vd pr):=Rd.owned O2;have i2:Hid (RdI v2 vb (toI bs)):=I2.rd few;obtain⟨va,vc,rfl⟩:=owns_slice O2;obtain⟨wi,wc,rfl⟩:=I2.form;clear O2 I2 C2
  go_wp2_with fail
  refine(KR _ h2).mono ?_
  rintro _ v3 ⟨vd3,vb3,rfl,r3,I3,C3⟩;have h3:=h2.below C3;have s2:=r2.out.below C3;have j2:=i2.out.below C3;have j3:=I3.rd few;obtain⟨va3,vc3,rfl⟩:=r3.form;obtain⟨wi3,wc3,rfl⟩:=I3.form;have j3':Hid (RdI v3 (.slice wi3 bs.length wc3) (toI bs)):=j3;have j2':Hid (RdI v3 (.slice wi bs.length wc) (toI bs)):=j2;clear r2 i2 I3 C3 h2 j2 j3 m0 m1 m2 m3 m4 m5 m6 m7 m8
  go_wp2_with fail
  refine(same_is s2 r3 (sameB_self _)).mono ?_
  rintro _ v4 ⟨rfl,nq,hq⟩;have C4:Below v3.heap.size v3 v4:=by rw[hq];exact Zf.drewN _
  have h4:=h3.below C4;have KI:=rints_any (j2'.out.below C4) (j3'.out.below C4) (by rw[toI_length];exact few) (by rw[toI_length];exact few);rw[Zy rfl]at KI;clear hq s2 r3 j2' j3' h3 C4
  go_wp2_with fail
  refine KI.mono ?_
  rintro _ v5 ⟨rfl,C5⟩;have FF:Hid (∃G' a',BothA u1 v5 ab rb G' HR a'):=⟨G,a,h4.below C5⟩;clear C5 h4 KI KS KR hA cellsAt;go_wp2;go_ret;exact⟨rfl,FF.out⟩
 by_cases k3:kd=3
 ·subst k3;obtain⟨x,hx⟩:∃x,fxX a ⟨k,m,z,s,t,o⟩ st ep=x:=⟨_,rfl⟩;obtain⟨nn,hnn⟩:∃p,fxN a ⟨k,m,z,s,t,o⟩ st ep=p:=⟨_,rfl⟩;have KS:=sfix_did hA hF hg hst hz hx hnn;have KR:=fun W G2 (hR:RaAt W rb HR G2 a)=>rfix_did hR hg hst hz hx hnn
  obtain⟨a',ha'⟩:∃a',fxS a ⟨k,m,z,s,t,o⟩ st ep=a':=⟨_,rfl⟩;rw[ha']at KS KR;clear hx hnn ha' hg hz hst hF
  go_enter Tryz.func14,Tryz.ntmps14
  go_wp2_with fail
  rw[<-hwa];rw[<-hX.out];clear hwa hX;refine KS.mono ?_
  rintro _ v2 ⟨rfl,G2,A2,g2⟩;have R2:=RaAt.other hA.R g2 A2.lt;obtain⟨m0,m1,m2,m3,m4,m5,m6,m7,m8⟩:=cellsAt.out v2 (fun j=>g2.turn.cell (p:=⟨X,j,none⟩) (Nat.lt_of_succ_lt lA) nX.out.1) (fun j=>g2.turn.cell (p:=⟨X+1,j,none⟩) lA nX.out.2)
  go_wp2_with fail
  refine(KR _ _ R2).mono ?_
  rintro _ v3 ⟨rfl,R3,t3⟩;have F:=hA.step A2 g2 R3 t3;have FF:Hid (∃G' a',BothA u1 v3 ab rb G' HR a'):=⟨G2,_,F⟩;clear F R3 t3 R2 m0 m1 m2 m3 m4 m5 m6 m7 m8 A2 g2 hA cellsAt KS KR;go_wp2;go_ret;exact⟨rfl,FF.out⟩
 ·have KD:=didA_any (kd:=ad) (cd:=cd) (cn:=cn) (cm:=cm) (cy:=cy) hA pb pk wd wn wm hk;have z1:(kd==1)=false:=Zq.2 k1;have z2:(kd==2)=false:=Zq.2 k2;have z3:(kd==3)=false:=Zq.2 k3
  go_enter Tryz.func14,Tryz.ntmps14
  go_wp2_with fail
  rw[<-hwa];clear hwa hX;refine KD.mono ?_
  rintro _ v2 ⟨rfl,G2,I2⟩;have FF:Hid (∃G' a',BothA u1 v2 ab rb G' HR a'):=⟨G2,_,I2⟩;clear I2 KD hA cellsAt;go_wp2;go_ret;exact⟨rfl,FF.out⟩
end
end Go.Proofs.YtddnfhfangfgeaaGreat.Gf
