/- JOINED: DkAt, DkAp, DkCA, DkSe, DkCB, DkCC, DkCF. -/
import Derived.Test.YtclieefpnbdbjaaGreatPome5
import Derived.Maps.RangeWalk
set_option maxHeartbeats 1000000
set_option maxRecDepth 100000
namespace Go.Proofs.YtclieefpnbdbjaaGreat.Gf
set_option linter.unusedVariables false
set_option linter.unusedSimpArgs false
open Go.RowKit
open Go.Maps (Keyed)
open Go.ChangeMaps Go.MapKept
def sideD(d:DkS)(q:Bool):Int->Option (List UInt8):=if q=true then d.wait else d.last
def setD(d:DkS)(q:Bool)(f:Int->Option (List UInt8)):DkS:=if q=true then {d with wait:=f}else {d with last:=f}
theorem setD_s(d:DkS)(q:Bool)(f:Int->Option (List UInt8)):(setD d q f).s=d.s:=by cases q<;>rfl
theorem setD_dead(d:DkS)(q:Bool)(f:Int->Option (List UInt8)):(setD d q f).dead=d.dead:=by cases q<;>rfl
theorem side_set(d:DkS)(q:Bool)(f:Int->Option (List UInt8)):sideD (setD d q f) q=f:=by cases q<;>rfl
theorem side_other(d:DkS){q r:Bool}(h:r≠q)(f:Int->Option (List UInt8)):sideD (setD d q f) r=sideD d r:=by cases q<;>cases r<;>first|rfl|exact absurd rfl h
def valI(f:Int->Option (List UInt8))(B C:Int->Nat)(x:Int):Option Value:=(f x).map fun p=>.slice (some ⟨B x,0,none⟩) p.length (C x)
def delB(f:Int->Option (List UInt8))(x:Int):Int->Option (List UInt8):=fun y=>if y=x then none else f y
def updQ(B:Bool->Int->Nat)(q:Bool)(a:Int)(g:Nat):Bool->Int->Nat:=fun r x=>if r=q/\x=a then g else B r x
theorem updQ_at(B:Bool->Int->Nat)(q:Bool)(a:Int)(g:Nat):updQ B q a g q a=g:=if_pos ⟨rfl,rfl⟩
theorem updQ_ne(B:Bool->Int->Nat){q r:Bool}{a x:Int}(h:¬(r=q/\x=a))(g:Nat):updQ B q a g r x=B r x:=if_neg h
theorem valI_put(f:Int->Option (List UInt8))(B C:Bool->Int->Nat)(q:Bool)(a:Int)(g c:Nat)(p:List UInt8)(x:Int):
  valI (putB f a p) (updQ B q a g q) (updQ C q a c q) x=putI (valI f (B q) (C q)) a (.slice (some ⟨g,0,none⟩) p.length c) x:=by
 unfold valI putB putI
 by_cases h:x=a
 ·subst h;rw[if_pos rfl,if_pos rfl,updQ_at,updQ_at];rfl
 ·rw[if_neg h,if_neg h,updQ_ne B (fun e=>h e.2),updQ_ne C (fun e=>h e.2)]
theorem valI_del(f:Int->Option (List UInt8))(B C:Int->Nat)(a x:Int):valI (delB f a) B C x=delI (valI f B C) a x:=by
 unfold valI delB delI
 by_cases h:x=a
 ·rw[if_pos h,if_pos h];rfl
 ·rw[if_neg h,if_neg h]
structure DkM(w:World)(db:Nat)(mb:Bool->Nat)(B C:Bool->Int->Nat)(G:Nat->Prop)(d:DkS):Prop where
 c0:w.cell? ⟨db,0,none⟩=some (.int .i64 (d.s:Int))
 c1:w.cell? ⟨db,1,none⟩=some (.bool d.dead)
 c2:w.cell? ⟨db,2,none⟩=some (.map (some (mb false)))
 c3:w.cell? ⟨db,3,none⟩=some (.map (some (mb true)))
 fz:w.frozen? ⟨db,1,none⟩=false
 mp:∀q,MapI Tryz.prog 3 w (mb q) d.s (valI (sideD d q) (B q) (C q))
 row:∀q x p,sideD d q x=some p->w.ownsRow 0 5 1 (.slice (some ⟨B q x,0,none⟩) p.length (C q x)) p.length (p.map vb)
 gd:G db
 gm:∀q,G (mb q)
 gb:∀q x p,sideD d q x=some p->G (B q x)
 lt:∀k,G k->k<w.heap.size
 lw:mb false≠mb true
 ins:∀q,InS d.s (sideD d q)
 s1:1<=d.s
 s2:d.s<=4096
def InjD(d:DkS)(B:Bool->Int->Nat):Prop:=∀q x p r y p',sideD d q x=some p->sideD d r y=some p'->B q x=B r y->q=r/\x=y
def DkIn(w:World)(db:Nat)(mb:Bool->Nat)(B C:Bool->Int->Nat)(G:Nat->Prop)(d:DkS):Prop:=DkM w db mb B C G d/\InjD d B/\d.Ok
def DiskAt(w:World)(db:Nat)(G:Nat->Prop)(d:DkS):Prop:=∃mb B C,DkIn w db mb B C G d
theorem keyed_int:Keyed Tryz.prog 3:=Maps.int_keyed (q:=.i64) Zk
theorem under_map:Tryz.prog.underlying 152=some (.map 3 42):=Zk
theorem zero_bytes(w:World):(zeroValue 42).run Tryz.prog w= .ok (.slice none 0 0) w:=Zk
theorem key_int{x:Int}(h:(Lit.int .i64 x).wf=true):keyOf Tryz.prog 3 (.int .i64 x)=some (.int .i64 x):=by
 have:Tryz.prog.underlying 3=some (.int .i64):=Zk
 simp[keyOf,this,mapKey,h]
theorem MapI.isMap{P:Program}{K b S:Nat}{w:World}{f:Int->Option Value}(h:MapI P K w b S f):∃es clock,w.heap[b]? =some (.map es clock):=by
 obtain⟨D,⟨es,clock,hb,_⟩,_⟩:=h;exact⟨es,clock,hb⟩
theorem MapI.noCell{P:Program}{K b S:Nat}{w:World}{f:Int->Option Value}(h:MapI P K w b S f)(o:Nat):w.cell? ⟨b,o,none⟩=none:=by
 obtain⟨es,clock,hb⟩:=h.isMap;unfold World.cell?;rw[hb]
theorem row_cells{w:World}{e g n c:Nat}{xs:List Value}(h:w.ownsRow 0 e 1 (.slice (some ⟨g,0,none⟩) n c) n xs):∃cur,w.heap[g]? =some (.cells cur e (0,0)):=by
 obtain⟨h0,h|⟨g',cap,cur,hv,hg,hh,r⟩⟩:=h
 ·simp at h
 ·simp at hv;obtain⟨rfl,_⟩:=hv;exact⟨cur,hh⟩
section
variable {w w':World} {db:Nat} {mb:Bool->Nat} {B C:Bool->Int->Nat} {G:Nat->Prop} {d:DkS}
theorem DkM.db_ne(h:DkM w db mb B C G d)(q:Bool):db≠mb q:=fun e=>by
 have h1:=(h.mp q).noCell 0;rw[<-e,h.c0]at h1;cases h1
theorem DkM.row_ne(h:DkM w db mb B C G d){q:Bool}{x:Int}{p:List UInt8}(hp:sideD d q x=some p)(r:Bool):B q x≠mb r:=fun e=>by
 obtain⟨cur,h1⟩:=row_cells (h.row q x p hp);obtain⟨es,clock,h2⟩:=(h.mp r).isMap;rw[e,h2]at h1;cases h1
theorem DkM.row_db(h:DkM w db mb B C G d){q:Bool}{x:Int}{p:List UInt8}(hp:sideD d q x=some p):B q x≠db:=fun e=>by
 have h1:=Rd.owned (h.row q x p hp);have h2:=h.ins q x p hp
 rcases h1 with⟨_,_,h3,_⟩|⟨b,off,cap,h3,h4,_,_,_,h5⟩
 ·rw[h3]at h2;simp at h2
 ·have h6:=h5 0 Zo;simp at h4;obtain⟨⟨rfl,rfl⟩,_⟩:=h4;rw[e,Nat.add_zero,h.c0]at h6;simp at h6
theorem DkM.mb_ne(h:DkM w db mb B C G d){q r:Bool}(e:q≠r):mb q≠mb r:=by
 have:=h.lw;cases q<;>cases r<;>first|exact absurd rfl e|assumption|exact Ne.symm this
theorem DkM.keep(h:DkM w db mb B C G d)(hk:∀k,G k->w'.heap[k]? =w.heap[k]?)(hs:w.heap.size<=w'.heap.size):DkM w' db mb B C G d where
 c0:=(Zc (w:=w) (hk db h.gd)).trans h.c0
 c1:=(Zc (w:=w) (hk db h.gd)).trans h.c1
 c2:=(Zc (w:=w) (hk db h.gd)).trans h.c2
 c3:=(Zc (w:=w) (hk db h.gd)).trans h.c3
 fz:=(World.frozen?_of_block (w:=w) (hk db h.gd)).trans h.fz
 mp:=fun q=>(h.mp q).of_block (hk _ (h.gm q))
 row:=fun q x p hp=>owns_block (h.row q x p hp) (fun g hg=>by
  cases hg;exact hk _ (h.gb q x p hp))
 gd:=h.gd
 gm:=h.gm
 gb:=h.gb
 lt:=fun k hk=>Zu (h.lt k hk) hs
 lw:=h.lw
 ins:=h.ins
 s1:=h.s1
 s2:=h.s2
theorem DkM.below(h:DkM w db mb B C G d)(hb:Below w.heap.size w w'):DkM w' db mb B C G d:=h.keep (fun k hk=>hb.block k (h.lt k hk)) hb.size
theorem DiskAt.below(h:DiskAt w db G d)(hb:Below w.heap.size w w'):DiskAt w' db G d:=by
 obtain⟨mb,B,C,h1,h2,h3⟩:=h;exact⟨mb,B,C,h1.below hb,h2,h3⟩
theorem DiskAt.keep(h:DiskAt w db G d)(hk:∀k,G k->w'.heap[k]? =w.heap[k]?)(hs:w.heap.size<=w'.heap.size):DiskAt w' db G d:=by
 obtain⟨mb,B,C,h1,h2,h3⟩:=h;exact⟨mb,B,C,h1.keep hk hs,h2,h3⟩
theorem DiskAt.lt(h:DiskAt w db G d):∀k,G k->k<w.heap.size:=by
 obtain⟨mb,B,C,h1,h2,h3⟩:=h;exact h1.lt
theorem mapTurned_os{b:Nat}(h:w.mapTurned w' b):w'.os=w.os/\w'.tape=w.tape/\w'.output=w.output/\w'.heap.size=w.heap.size:=by
 obtain⟨es,clock,es',clock',hb,rfl⟩:=h;refine⟨rfl,rfl,rfl,?_⟩;simp[setBlock]
theorem mapTurned_turnG{b:Nat}(h:w.mapTurned w' b)(hg:G b):TurnG G w w':=by
 obtain⟨h1,h2,h3,h4⟩:=mapTurned_os h;exact⟨h1,h2,h3,by rw[h4];exact Zr,fun k _ hk=>mapTurned_block h (fun e=>hk (by rw[e];exact hg))⟩
theorem InS.del{s:Nat}{f:Int->Option (List UInt8)}(h:InS s f)(x:Int):InS s (delB f x):=by
 intro y b e;unfold delB at e
 by_cases hy:y=x
 ·rw[if_pos hy]at e;cases e
 ·rw[if_neg hy]at e;exact h y b e
theorem DkM.turned(h:DkM w db mb B C G d){q:Bool}(ht:w.mapTurned w' (mb q)){B' C':Bool->Int->Nat}{f:Int->Option (List UInt8)}(G':Nat->Prop)(hG:∀k,G k->G' k)(hlt:∀k,G' k->k<w.heap.size)
  (hm:MapI Tryz.prog 3 w' (mb q) d.s (valI f (B' q) (C' q))) (hB:∀r,r≠q->∀x,B' r x=B r x) (hC:∀r,r≠q->∀x,C' r x=C r x) (hf:InS d.s f)
  (hr:∀x p,f x=some p->G' (B' q x)/\w.ownsRow 0 5 1 (.slice (some ⟨B' q x,0,none⟩) p.length (C' q x)) p.length (p.map vb)):DkM w' db mb B' C' G' (setD d q f):=by
 have hb:∀k,k≠mb q->w'.heap[k]? =w.heap[k]? :=fun k hk=>mapTurned_block ht hk
 have hs:=(mapTurned_os ht).2.2.2;have hdb:=hb db (h.db_ne q);have hne:∀{g n c:Nat} {xs:List Value},w.ownsRow 0 5 1 (.slice (some ⟨g,0,none⟩) n c) n xs->g≠mb q:=fun ho e=>by
  obtain⟨cur,h1⟩:=row_cells ho;obtain⟨es,clock,h2⟩:=(h.mp q).isMap;rw[e,h2]at h1;cases h1
 have rr:∀r x p,sideD (setD d q f) r x=some p->G' (B' r x)/\w.ownsRow 0 5 1 (.slice (some ⟨B' r x,0,none⟩) p.length (C' r x)) p.length (p.map vb):=by
  intro r x p hp
  by_cases e:r=q
  ·subst e;rw[side_set]at hp;exact hr x p hp
  ·rw[side_other d e]at hp;rw[hB r e,hC r e];exact⟨hG _ (h.gb r x p hp),h.row r x p hp⟩
 refine⟨?_,?_,?_,?_,?_,fun r=>?_,fun r x p hp=>?_,hG _ h.gd,fun r=>hG _ (h.gm r),fun r x p hp=>(rr r x p hp).1,fun k hk=>by rw[hs];exact hlt k hk,h.lw,fun r=>?_,?_,?_⟩
 ·rw[setD_s];exact(Zc (w:=w) hdb).trans h.c0
 ·rw[setD_dead];exact(Zc (w:=w) hdb).trans h.c1
 ·exact(Zc (w:=w) hdb).trans h.c2
 ·exact(Zc (w:=w) hdb).trans h.c3
 ·exact(World.frozen?_of_block (w:=w) hdb).trans h.fz
 ·rw[setD_s]
  by_cases e:r=q
  ·subst e;rw[side_set];exact hm
  ·rw[side_other d e,show B' r=B r from funext (hB r e),show C' r=C r from funext (hC r e)];exact(h.mp r).of_block (hb _ (h.mb_ne e))
 ·have h1:=(rr r x p hp).2;exact owns_block h1 (fun g hg=>by
   cases hg;exact hb _ (hne h1))
 ·rw[setD_s]
  by_cases e:r=q
  ·subst e;rw[side_set];exact hf
  ·rw[side_other d e];exact h.ins r
 ·rw[setD_s];exact h.s1
 ·rw[setD_s];exact h.s2
theorem DkM.put(h:DkM w db mb B C G d)(q:Bool){a:Int}{p:List UInt8}{g c:Nat}(ha:(Lit.int .i64 a).wf=true)(h0:0<=a)(h1:a<(d.s:Int))(hp:1<=p.length/\p.length<=4108)(hr:w.ownsRow 0 5 1 (.slice (some ⟨g,0,none⟩) p.length c) p.length (p.map vb)):
  ∃w',(Instr.mapUpdate 152 (.map (some (mb q))) (.int .i64 a) (.slice (some ⟨g,0,none⟩) p.length c)).run Tryz.prog w= .ok () w'/\w.mapTurned w' (mb q)/\DkM w' db mb (updQ B q a g) (updQ C q a c) (fun k=>G k∨k=g) (setD d q (putB (sideD d q) a p)):=by
 have hs2:=h.s2;obtain⟨w',hrun,hm,ht⟩:=(h.mp q).store keyed_int under_map Zl (key_int ha) h0 h1 (.slice (some ⟨g,0,none⟩) p.length c);refine⟨w',hrun,ht,h.turned ht _ (fun k=>Or.inl) (fun k hk=>?_) (hm.congr fun x=>(valI_put _ B C q a g c p x).symm) (fun r e x=>updQ_ne B (fun h=>e h.1) g) (fun r e x=>updQ_ne C (fun h=>e h.1) c) ((h.ins q).put h0 h1 hp.1 hp.2) (fun x p' hx=>?_)⟩
 ·rcases hk with hk|rfl
  ·exact h.lt k hk
  ·exact(owns_at hr).2
 ·unfold putB at hx
  by_cases e:x=a
  ·subst e;rw[if_pos rfl]at hx;cases hx;rw[updQ_at,updQ_at];exact⟨Or.inr rfl,hr⟩
  ·rw[if_neg e]at hx;rw[updQ_ne B (fun h=>e h.2),updQ_ne C (fun h=>e h.2)];exact⟨Or.inl (h.gb q x p' hx),h.row q x p' hx⟩
theorem DkM.del(h:DkM w db mb B C G d)(q:Bool){a:Int}(ha:(Lit.int .i64 a).wf=true)(ty:TypeId):
  ∃w',(Builtin.delete_ #[152,3] ty #[.map (some (mb q)),.int .i64 a]).run Tryz.prog w= .ok (.tuple #[]) w'/\w.mapTurned w' (mb q)/\DkM w' db mb B C G (setD d q (delB (sideD d q) a)):=by
 obtain⟨w',hrun,hm,ht⟩:=(h.mp q).drop keyed_int under_map (key_int ha) ty;refine⟨w',hrun,ht,h.turned ht G (fun k=>id) h.lt (hm.congr fun x=>(valI_del _ (B q) (C q) a x).symm) (fun r e x=>rfl) (fun r e x=>rfl) ((h.ins q).del a) (fun x p' hx=>?_)⟩;unfold delB at hx
 by_cases e:x=a
 ·rw[if_pos e]at hx;cases hx
 ·rw[if_neg e]at hx;exact⟨h.gb q x p' hx,h.row q x p' hx⟩
theorem DkM.clear(h:DkM w db mb B C G d)(q:Bool)(ty:TypeId):
  ∃w',(Builtin.clear_ #[152] ty #[.map (some (mb q))]).run Tryz.prog w= .ok (.tuple #[]) w'/\w.mapTurned w' (mb q)/\DkM w' db mb B C G (setD d q noneI):=by
 obtain⟨w',hrun,hm,ht⟩:=(h.mp q).clear under_map ty;exact⟨w',hrun,ht,h.turned ht G (fun k=>id) h.lt (hm.congr fun x=>rfl) (fun r e x=>rfl) (fun r e x=>rfl) (InS.none _) (fun x p' hx=>by cases hx)⟩
theorem DkM.look_ok(h:DkM w db mb B C G d)(q:Bool){a:Int}(ha:(Lit.int .i64 a).wf=true):
  (Instr.lookup 152 (.map (some (mb q))) (.int .i64 a) true).run Tryz.prog w= .ok (.tuple #[(valI (sideD d q) (B q) (C q) a).getD (.slice none 0 0),.bool (valI (sideD d q) (B q) (C q) a).isSome]) w:=
 (h.mp q).look_ok keyed_int under_map (zero_bytes w) (key_int ha)
theorem DkM.look(h:DkM w db mb B C G d)(q:Bool){a:Int}(ha:(Lit.int .i64 a).wf=true):
  (Instr.lookup 152 (.map (some (mb q))) (.int .i64 a) false).run Tryz.prog w= .ok ((valI (sideD d q) (B q) (C q) a).getD (.slice none 0 0)) w:=
 (h.mp q).look keyed_int under_map (zero_bytes w) (key_int ha)
end
end Go.Proofs.YtclieefpnbdbjaaGreat.Gf
namespace Go.Proofs.YtclieefpnbdbjaaGreat.Gf
set_option linter.unusedVariables false
set_option linter.unusedSimpArgs false
open Go.RowKit
section
variable {w w':World} {db:Nat} {K K' G:Nat->Prop} {d:DkS}
theorem DiskAt.apart(h:DiskAt w db G d)(g:Grew K w K' w')(hn:∀k,K k->¬G k):DiskAt w' db G d:=
 h.keep (fun k hk=>g.turn.block k (h.lt k hk) (fun e=>hn k e hk)) g.turn.size
theorem Grew.wide{K2 K2':Nat->Prop}(g:Grew K w K' w')(h:∀k,K k->K2 k)(h2:∀k,K2' k->K2 k∨w.heap.size<=k):Grew K2 w K2' w':=
 ⟨⟨g.turn.os,g.turn.tape,g.turn.output,g.turn.size,fun k hk hn=>g.turn.block k hk (fun e=>hn (h k e))⟩,h2⟩
end
open Go.Maps (Keyed)
theorem dref_any{w:World}{db:Nat}{x:Bool}(c1:w.cell? ⟨db,1,none⟩=some (.bool x)):Calls Tryz.prog 169 #[.pointer (some ⟨db,0,none⟩)] w fun e w'=>e= .returned (.int .i64 (if x=true then 120 else 0))/\w'=w:=by
 cases x
 ·go_enter Tryz.func169,Tryz.ntmps169
  go_wp2;go_ret;exact⟨rfl,rfl⟩
 ·go_enter Tryz.func169,Tryz.ntmps169
  go_wp2;go_ret;exact⟨rfl,rfl⟩
theorem drat_any{w:World}{db:Nat}{d:DkS}{a:Int}(c0:w.cell? ⟨db,0,none⟩=some (.int .i64 (d.s:Int)))(c1:w.cell? ⟨db,1,none⟩=some (.bool d.dead)):Calls Tryz.prog 129 #[.pointer (some ⟨db,0,none⟩),.int .i64 a] w fun e w'=>e= .returned (.int .i64 (faX d a))/\w'=w:=by
 have K:=@dref_any w db d.dead c1;cases hd:d.dead with
 |true=>
  have e:=faX_dead hd a;rw[hd]at K;simp only[if_true]at K;rw[e];clear e
  go_enter Tryz.func129,Tryz.ntmps129
  go_wp2_with fail
  refine K.mono ?_
  rintro _ _ ⟨rfl,rfl⟩;go_wp2;go_ret;exact⟨rfl,rfl⟩
 |false=>
  rw[hd]at K;simp only[Bool.false_eq_true,if_false]at K
  by_cases h0:0<=a
  ·have h0':¬a<0:=by omega
   by_cases h1:a<(d.s:Int)
   ·have e:=faX_ok hd ⟨h0,h1⟩;have h1':¬a>=(d.s:Int):=by omega
    rw[e];clear e
    go_enter Tryz.func129,Tryz.ntmps129
    go_wp2_with fail
    refine K.mono ?_
    rintro _ _ ⟨rfl,rfl⟩;go_wp2;go_ret;exact⟨rfl,rfl⟩
   ·have e:=faX_out hd (a:=a) (fun h=>h1 h.2);have h1':a>=(d.s:Int):=by omega
    rw[e];clear e
    go_enter Tryz.func129,Tryz.ntmps129
    go_wp2_with fail
    refine K.mono ?_
    rintro _ _ ⟨rfl,rfl⟩;go_wp2;go_ret;exact⟨rfl,rfl⟩
  ·have e:=faX_out hd (a:=a) (fun h=>h0 h.1);have h0':a<0:=by omega
   rw[e];clear e
   go_enter Tryz.func129,Tryz.ntmps129
   go_wp2_with fail
   refine K.mono ?_
   rintro _ _ ⟨rfl,rfl⟩;go_wp2;go_ret;exact⟨rfl,rfl⟩
theorem ddead_any{w:World}{db:Nat}{x:Bool}(c1:w.cell? ⟨db,1,none⟩=some (.bool x)):Calls Tryz.prog 106 #[.pointer (some ⟨db,0,none⟩)] w fun e w'=>e= .returned (.bool x)/\w'=w:=by
 go_enter Tryz.func106,Tryz.ntmps106
 go_wp2;go_ret;exact⟨rfl,rfl⟩
def newV(d:DkS)(B C:Bool->Int->Nat)(a:Int):Value:=match d.wait a with|some p=>.slice (some ⟨B true a,0,none⟩) p.length (C true a)|none=>(valI d.last (B false) (C false) a).getD (.slice none 0 0)
section
variable {w:World} {db:Nat} {mb:Bool->Nat} {B C:Bool->Int->Nat} {G:Nat->Prop} {d:DkS}
theorem dnew_any(h:DkM w db mb B C G d){a:Int}(ha:(Lit.int .i64 a).wf=true):Calls Tryz.prog 130 #[.pointer (some ⟨db,0,none⟩),.int .i64 a] w fun e w'=>e= .returned (newV d B C a)/\w'=w:=by
 have c2:=h.c2;have c3:=h.c3;have L1:=h.look_ok true ha;have L2:=h.look false ha;have e1:sideD d true=d.wait:=rfl;have e2:sideD d false=d.last:=rfl;rw[e1]at L1;rw[e2]at L2;clear e1 e2;unfold newV;cases hw:d.wait a with
 |some p=>
  have e3:valI d.wait (B true) (C true) a=some (.slice (some ⟨B true a,0,none⟩) p.length (C true a)):=by unfold valI;rw[hw];rfl
  rw[e3]at L1;simp only[Option.getD_some,Option.isSome_some]at L1;clear e3 hw h ha
  go_enter Tryz.func130,Tryz.ntmps130
  go_wp2;go_ret;exact⟨rfl,rfl⟩
 |none=>
  have e3:valI d.wait (B true) (C true) a=none:=by unfold valI;rw[hw];rfl
  rw[e3]at L1;simp only[Option.getD_none,Option.isSome_none]at L1;clear e3 hw h ha;obtain⟨v,hv⟩:∃v,v=(valI d.last (B false) (C false) a).getD (.slice none 0 0):=⟨_,rfl⟩;simp only;rw[<-hv]at L2 ⊢;clear hv
  go_enter Tryz.func130,Tryz.ntmps130
  go_wp2;go_ret;exact⟨rfl,rfl⟩
def seS(d:DkS)(a:Int)(p:List UInt8):DkS:={d with last:=putB d.last a p,wait:=delB d.wait a}
theorem dset_hit(h:DkM w db mb B C G d){a:Int}(ha:(Lit.int .i64 a).wf=true){p:List UInt8}(hp:d.wait a=some p){w1 w2:World}
  (r1:(Instr.mapUpdate 152 (.map (some (mb false))) (.int .i64 a) (.slice (some ⟨B true a,0,none⟩) p.length (C true a))).run Tryz.prog w= .ok () w1) (t1:w.mapTurned w1 (mb false))
  (r2:(Builtin.delete_ #[152,3] 0 #[.map (some (mb true)),.int .i64 a]).run Tryz.prog w1= .ok (.tuple #[]) w2):
  Calls Tryz.prog 109 #[.pointer (some ⟨db,0,none⟩),.int .i64 a] w fun e w'=>e= .returned (.tuple #[])/\w'=w2:=by
 have c2:=h.c2;have c3:=h.c3;have L1:=h.look_ok true ha;have e1:sideD d true=d.wait:=rfl;have e3:valI d.wait (B true) (C true) a=some (.slice (some ⟨B true a,0,none⟩) p.length (C true a)):=by unfold valI;rw[hp];rfl
 rw[e1,e3]at L1;simp only[Option.getD_some,Option.isSome_some]at L1;have c3b:=(Zc (w:=w) (a:=⟨db,3,none⟩) (mapTurned_block t1 (h.db_ne false))).trans h.c3;clear e1 e3 hp h ha t1
 go_enter Tryz.func109,Tryz.ntmps109
 go_wp2
 go_end0
 exact⟨rfl,rfl⟩
theorem dset_miss(h:DkM w db mb B C G d){a:Int}(ha:(Lit.int .i64 a).wf=true)(hp:d.wait a=none):
  Calls Tryz.prog 109 #[.pointer (some ⟨db,0,none⟩),.int .i64 a] w fun e w'=>e= .returned (.tuple #[])/\w'=w:=by
 have c2:=h.c2;have c3:=h.c3;have L1:=h.look_ok true ha;have e1:sideD d true=d.wait:=rfl;have e3:valI d.wait (B true) (C true) a=none:=by unfold valI;rw[hp];rfl
 rw[e1,e3]at L1;simp only[Option.getD_none,Option.isSome_none]at L1;clear e1 e3 hp h ha
 go_enter Tryz.func109,Tryz.ntmps109
 go_wp2
 go_end0
 exact⟨rfl,rfl⟩
theorem demp_any(h:DkM w db mb B C G d){w1 w2:World}
  (r1:(Builtin.clear_ #[152] 0 #[.map (some (mb false))]).run Tryz.prog w= .ok (.tuple #[]) w1) (t1:w.mapTurned w1 (mb false))
  (r2:(Builtin.clear_ #[152] 0 #[.map (some (mb true))]).run Tryz.prog w1= .ok (.tuple #[]) w2):
  Calls Tryz.prog 108 #[.pointer (some ⟨db,0,none⟩)] w fun e w'=>e= .returned (.tuple #[])/\w'=w2:=by
 have c2:=h.c2;have c3:=h.c3;have c3b:=(Zc (w:=w) (a:=⟨db,3,none⟩) (mapTurned_block t1 (h.db_ne false))).trans h.c3;clear h t1
 go_enter Tryz.func108,Tryz.ntmps108
 go_wp2
 go_end0
 exact⟨rfl,rfl⟩
end
open Go.ChangeMaps Go.MapKept
section
variable {w w':World} {db:Nat} {mb:Bool->Nat} {B C:Bool->Int->Nat} {G:Nat->Prop} {d:DkS}
theorem DkM.reG(h:DkM w db mb B C G d){G':Nat->Prop}(h1:∀k,G k->G' k)(h2:∀k,G' k->k<w.heap.size):DkM w db mb B C G' d:=
 ⟨h.c0,h.c1,h.c2,h.c3,h.fz,h.mp,h.row,h1 _ h.gd,fun q=>h1 _ (h.gm q),fun q x p hp=>h1 _ (h.gb q x p hp),h2,h.lw,h.ins,h.s1,h.s2⟩
theorem Ok.of_sides{e:DkS}(s1:1<=e.s)(s2:e.s<=4096)(hi:∀q,InS e.s (sideD e q))(hd:e.dead=true->e.last=noneI/\e.wait=noneI):e.Ok:=
 ⟨s1,s2,hi false,hi true,fun h=>(hd h).1,fun h=>(hd h).2⟩
theorem DkIn.settle(h:DkIn w db mb B C G d){a:Int}(ha:(Lit.int .i64 a).wf=true){p:List UInt8}(hp:d.wait a=some p):
  ∃w1 w2,(Instr.mapUpdate 152 (.map (some (mb false))) (.int .i64 a) (.slice (some ⟨B true a,0,none⟩) p.length (C true a))).run Tryz.prog w= .ok () w1/\w.mapTurned w1 (mb false)/\
   (Builtin.delete_ #[152,3] 0 #[.map (some (mb true)),.int .i64 a]).run Tryz.prog w1= .ok (.tuple #[]) w2/\w1.mapTurned w2 (mb true)/\
   DkIn w2 db mb (updQ B false a (B true a)) (updQ C false a (C true a)) G (seS d a p):=by
 obtain⟨hm,hi,ho⟩:=h;have hb:=ho.iw a p hp;have hps:sideD d true a=some p:=hp;obtain⟨w1,r1,t1,m1⟩:=hm.put false ha hb.1 hb.2.1 ⟨hb.2.2.1,hb.2.2.2⟩ (hm.row true a p hps);obtain⟨w2,r2,t2,m2⟩:=m1.del true ha 0;have e:setD (setD d false (putB (sideD d false) a p)) true (delB (sideD (setD d false (putB (sideD d false) a p)) true) a)=seS d a p:=rfl;rw[e]at m2;have hg:G (B true a):=hm.gb true a p hps;refine⟨w1,w2,r1,t1,r2,t2,m2.reG (fun k hk=>hk.elim id (fun e=>by rw[e];exact hg)) (fun k hk=>m2.lt k (Or.inl hk)),?_,?_⟩
 ·intro q x p1 r y p2 h1 h2 hB;have key:∀q x p1,sideD (seS d a p) q x=some p1->∃q' p',sideD d q' x=some p'/\updQ B false a (B true a) q x=B q' x/\((q=false/\x=a/\q'=true)∨(¬(q'=true/\x=a)/\q'=q)):=by
   intro q x p1 h1;cases q with
   |false=>
    have h1':putB d.last a p x=some p1:=h1;unfold putB at h1'
    by_cases e:x=a
    ·subst e;exact⟨true,p,hps,updQ_at B false x _,Or.inl ⟨rfl,rfl,rfl⟩⟩
    ·rw[if_neg e]at h1';exact⟨false,p1,h1',updQ_ne B (fun h=>e h.2) _,Or.inr ⟨fun h=>e h.2,rfl⟩⟩
   |true=>
    have h1':delB d.wait a x=some p1:=h1;unfold delB at h1'
    by_cases e:x=a
    ·rw[if_pos e]at h1';cases h1'
    ·rw[if_neg e]at h1';exact⟨true,p1,h1',updQ_ne B (fun h=>e h.2) _,Or.inr ⟨fun h=>e h.2,rfl⟩⟩
  obtain⟨q',p1',k1,k2,k3⟩:=key q x p1 h1;obtain⟨r',p2',l1,l2,l3⟩:=key r y p2 h2;rw[k2,l2]at hB;obtain⟨e1,e2⟩:=hi _ _ _ _ _ _ k1 l1 hB;subst e1 e2;refine⟨?_,rfl⟩
  rcases k3 with⟨a1,a2,a3⟩|⟨a1,a2⟩<;>rcases l3 with⟨b1,b2,b3⟩|⟨b1,b2⟩
  ·rw[a1,b1]
  ·exact absurd ⟨a3,a2⟩ b1
  ·exact absurd ⟨b3,b2⟩ a1
  ·rw[<-a2,<-b2]
 ·refine Ok.of_sides m2.s1 m2.s2 m2.ins (fun hd=>?_);have hd':d.dead=true:=hd;rw[ho.dw hd']at hp;cases hp
theorem DkIn.write(h:DkIn w db mb B C G d){a:Int}(ha:(Lit.int .i64 a).wf=true)(hf:faX d a=0){p:List UInt8}(hp:OkB p){g c:Nat}(hr:w.ownsRow 0 5 1 (.slice (some ⟨g,0,none⟩) p.length c) p.length (p.map vb))(hg:¬G g):
  ∃w',(Instr.mapUpdate 152 (.map (some (mb true))) (.int .i64 a) (.slice (some ⟨g,0,none⟩) p.length c)).run Tryz.prog w= .ok () w'/\w.mapTurned w' (mb true)/\
   DkIn w' db mb (updQ B true a g) (updQ C true a c) (fun k=>G k∨k=g) (wrS d a p):=by
 obtain⟨hm,hi,ho⟩:=h;obtain⟨f1,f2,f3⟩:=faX_zero hf;obtain⟨w1,r1,t1,m1⟩:=hm.put true ha f2 f3 hp hr;have e:setD d true (putB (sideD d true) a p)=wrS d a p:=by unfold wrS;rw[if_pos ⟨hf,hp⟩];rfl
 rw[e]at m1;refine⟨w1,r1,t1,m1,?_,wrS_ok ho a p⟩;have key:∀q x p1,sideD (wrS d a p) q x=some p1->(q=true/\x=a)∨(¬(q=true/\x=a)/\sideD d q x=some p1):=by
  intro q x p1 h1;rw[<-e]at h1
  by_cases hq:q=true/\x=a
  ·exact Or.inl hq
  ·refine Or.inr ⟨hq,?_⟩;cases q with
   |false=>exact h1
   |true=>
    have h1':putB d.wait a p x=some p1:=h1;unfold putB at h1';rw[if_neg (fun e=>hq ⟨rfl,e⟩)]at h1';exact h1'
 intro q x p1 r y p2 h1 h2 hB
 rcases key q x p1 h1 with⟨rfl,rfl⟩|⟨k1,k2⟩<;>rcases key r y p2 h2 with⟨rfl,rfl⟩|⟨l1,l2⟩
 ·exact⟨rfl,rfl⟩
 ·rw[updQ_at,updQ_ne B l1]at hB;exact absurd (hB▸hm.gb r y p2 l2) hg
 ·rw[updQ_at,updQ_ne B k1]at hB;exact absurd (hB▸hm.gb q x p1 k2) hg
 ·rw[updQ_ne B k1,updQ_ne B l1]at hB;exact hi _ _ _ _ _ _ k2 l2 hB
theorem DkM.emptied(h:DkM w db mb B C G d):
  ∃w1 w2,(Builtin.clear_ #[152] 0 #[.map (some (mb false))]).run Tryz.prog w= .ok (.tuple #[]) w1/\w.mapTurned w1 (mb false)/\(Builtin.clear_ #[152] 0 #[.map (some (mb true))]).run Tryz.prog w1= .ok (.tuple #[]) w2/\w1.mapTurned w2 (mb true)/\
   DkIn w2 db mb B C G ⟨d.s,noneI,noneI,d.dead⟩:=by
 obtain⟨w1,r1,t1,m1⟩:=h.clear false 0;obtain⟨w2,r2,t2,m2⟩:=m1.clear true 0;refine⟨w1,w2,r1,t1,r2,t2,m2,?_,⟨h.s1,h.s2,InS.none _,InS.none _,fun _=>rfl,fun _=>rfl⟩⟩;intro q x p r y p' h1;cases q<;>cases h1
theorem DkIn.unwait(h:DkIn w db mb B C G d):∃w',(Builtin.clear_ #[152] 0 #[.map (some (mb true))]).run Tryz.prog w= .ok (.tuple #[]) w'/\w.mapTurned w' (mb true)/\DkIn w' db mb B C G {d with wait:=noneI}:=by
 obtain⟨hm,hi,ho⟩:=h;obtain⟨w1,r1,t1,m1⟩:=hm.clear true 0;refine⟨w1,r1,t1,m1,?_,⟨ho.s1,ho.s2,ho.il,InS.none _,ho.dl,fun _=>rfl⟩⟩;have key:∀q x p1,sideD {d with wait:=noneI} q x=some p1->sideD d q x=some p1:=by
  intro q x p1 h1;cases q with
  |false=>exact h1
  |true=>cases h1
 intro q x p1 r y p2 h1 h2 hB;exact hi _ _ _ _ _ _ (key _ _ _ h1) (key _ _ _ h2) hB
theorem DkM.kill(h:DkM w db mb B C G d)(x:Bool):DkM (w.setCell ⟨db,1,none⟩ (.bool x)) db mb B C G {d with dead:=x}:=by
 have hb:∀k,k≠db->(w.setCell ⟨db,1,none⟩ (.bool x)).heap[k]? =w.heap[k]? :=fun k hk=>Below.heap_setCell w ⟨db,1,none⟩ _ k hk
 have hc1:=h.c1;have hfz:=h.fz;refine⟨?_,?_,?_,?_,?_,fun q=>(h.mp q).of_block (hb _ (h.db_ne q).symm),fun q y p hp=>owns_block (h.row q y p hp) (fun g hg=>by
  cases hg;exact hb _ (h.row_db hp)),h.gd,h.gm,h.gb,fun k hk=>by simpa using h.lt k hk,h.lw,h.ins,h.s1,h.s2⟩
 ·rw[<-h.c0];simp[go_sem]
 ·simp[go_sem,hc1]
 ·rw[<-h.c2];simp[go_sem]
 ·rw[<-h.c3];simp[go_sem]
 ·simp[go_sem,hfz]
theorem setCell_turnG{b j:Nat}{v:Value}(hg:G b):TurnG G w (w.setCell ⟨b,j,none⟩ v):=Only.turnG ((Only.refl b w).setCell j v) hg
end
def seQ(d:DkS)(a:Int):DkS:=match d.wait a with|some p=>seS d a p|none=>d
theorem seQ_wait(d:DkS)(a x:Int):(seQ d a).wait x=if x=a then none else d.wait x:=by
 unfold seQ;cases h:d.wait a with
 |some p=>rfl
 |none=>
  by_cases e:x=a
  ·rw[if_pos e,e];exact h
  ·rw[if_neg e]
theorem seQ_last(d:DkS)(a x:Int):(seQ d a).last x=if x=a then overB d.wait d.last a else d.last x:=by
 unfold seQ overB;cases h:d.wait a with
 |some p=>rfl
 |none=>
  by_cases e:x=a
  ·rw[if_pos e,e]
  ·rw[if_neg e]
theorem seQ_s(d:DkS)(a:Int):(seQ d a).s=d.s:=by unfold seQ;cases d.wait a<;>rfl
theorem seQ_dead(d:DkS)(a:Int):(seQ d a).dead=d.dead:=by unfold seQ;cases d.wait a<;>rfl
theorem keep_all:∀(L:List Int) (d:DkS),(L.foldl seQ d).s=d.s/\(L.foldl seQ d).dead=d.dead/\(∀x,(L.foldl seQ d).last x=overB (onlyB d.wait L) d.last x)
 |[],d=>⟨rfl,rfl,fun x=>by simp[overB,onlyB]⟩
 |a::L,d=>by
  obtain⟨h1,h2,h3⟩:=keep_all L (seQ d a);refine⟨h1.trans (seQ_s d a),h2.trans (seQ_dead d a),fun x=>?_⟩
  show((L.foldl seQ (seQ d a)).last x)=_
  rw[h3];unfold overB onlyB;rw[seQ_wait,seQ_last];unfold overB
  by_cases e:x=a
  ·subst e;cases hw:d.wait x<;>simp[hw]
  ·by_cases hL:x∈L
   ·simp[e,hL]
   ·simp[e,hL]
theorem keep_crash(L:List Int)(d:DkS):{L.foldl seQ d with wait:=noneI}=crS d L:=by
 obtain⟨h1,h2,h3⟩:=keep_all L d;unfold crS;rw[DkS.mk.injEq];exact⟨h1,funext h3,rfl,h2⟩
end Go.Proofs.YtclieefpnbdbjaaGreat.Gf
namespace Go.Proofs.YtclieefpnbdbjaaGreat.Gf
set_option linter.unusedVariables false
set_option linter.unusedSimpArgs false
open Go.RowKit
def Leaves(w:World)(db:Nat)(G:Nat->Prop)(d':DkS)(x:Value)(e:Ending)(w':World):Prop:=e= .returned x/\∃G',DiskAt w' db G' d'/\Grew G w G' w'
theorem owns_formD{w:World}{base e n:Nat}{v:Value}{xs:List Value}(h:w.ownsRow base e 1 v n xs)(hn:n≠0):∃g c,v= .slice (some ⟨g,0,none⟩) n c/\base<=g/\w.ownsRow 0 e 1 (.slice (some ⟨g,0,none⟩) n c) n xs:=by
 obtain⟨h0,h|⟨g,cap,cur,hv,hg,hh,r⟩⟩:=h
 ·exact absurd h.2 hn
 ·exact⟨g,cap,hv,hg,h0,Or.inr ⟨g,cap,cur,rfl,Zz,hh,r⟩⟩
section
variable {w:World} {db:Nat} {G:Nat->Prop} {d:DkS}
theorem DkIn.below{mb:Bool->Nat}{B C:Bool->Int->Nat}{w':World}(h:DkIn w db mb B C G d)(hb:Below w.heap.size w w'):DkIn w' db mb B C G d:=⟨h.1.below hb,h.2⟩
theorem dwrite_any(h:DiskAt w db G d){a:Int}(ha:(Lit.int .i64 a).wf=true){v:Value}{p:List UInt8}(hp:Rd w v p):
  Calls Tryz.prog 125 #[.pointer (some ⟨db,0,none⟩),.int .i64 a,v] w (Leaves w db G (wrS d a p) (.int .i64 (wrX d a p))):=by
 obtain⟨mb,B,C,hI⟩:=h;have hM:=hI.1;have c3:=hM.c3;have K:=@drat_any w db d a hM.c0 hM.c1;have hpl:=hp.len;obtain⟨ad,cp,rfl⟩:=hp.form;have REF:∀{x:Int} {w':World},wrS d a p=d->w'=w->Hid (∃G',DiskAt w' db G' (wrS d a p)/\Grew G w G' w'):=fun e1 e2=>by
  show ∃G',_
  rw[e1,e2];exact⟨G,⟨mb,B,C,hI⟩,Grew.refl G w⟩
 by_cases hf:faX d a=0
 ·by_cases hb:OkB p
  ·have eX:wrX d a p=0:=by unfold wrX;rw[if_pos hf,if_pos hb]
   obtain⟨hb1,hb2⟩:=hb;have g1:¬p.length=0:=Zo
   have g2:¬(p.length:Int)=0:=Zo
   have g3:¬4108<(p.length:Int):=Zo
   have q1:((p.length:Int)==0)=false:=Zq.2 g2;have q3:decide (4108<(p.length:Int))=false:=Zx g3;obtain⟨b,off,rfl⟩:∃b off,ad=some ⟨b,off,none⟩:=by
    rcases hp with⟨_,_,h1,_⟩|⟨b,off,cap,_,h2,_⟩
    ·rw[h1]at g1;exact absurd rfl g1
    ·simp at h2;exact⟨b,off,h2.1⟩
   have KC:=@bclone_own p w ⟨b,off,none⟩ cp hp Zo;rw[eX];rw[hf]at K
   go_enter Tryz.func125,Tryz.ntmps125
   go_wp2_with fail
   refine K.mono ?_
   rintro _ wq ⟨rfl,hwq⟩;rw[hwq];clear hwq wq
   go_wp2_with fail
   have c3c:∀W,Below w.heap.size w W->W.cell? ⟨db,3,none⟩=some (.map (some (mb true))):=fun W hb=>(hb.cell (p:=⟨db,3,none⟩) (hM.lt db hM.gd)).trans c3
   go_region_held3 (fun wx=>wx.cell? ⟨db,3,none⟩=some (.map (some (mb true)))) (first|exact c3|assumption|exact c3c _ Za) (first
    |((go_at_call 151;go_loud (refine(bclone_own (p:=p) (by first|exact hp|exact hp.drewN 1) Zo).mono ?_);rintro _ w9 ⟨v9,rfl,R9,B9⟩;have C9:Below w.heap.size w w9:=⟨B9.os,B9.tape,B9.output,B9.size,B9.block⟩;obtain⟨g9,k9,rfl,hg9,O9⟩:=owns_formD R9 g1;have I9:=hI.below C9;obtain⟨w8,r8,t8,I8⟩:=DkIn.write I9 ha hf ⟨hb1,hb2⟩ O9 (fun e=>by have:=hM.lt _ e;have h9:w.heap.size<=g9:=hg9;omega);have D8:=I8.1.c3)))
   have FIN:Hid (∃G',DiskAt w8 db G' (wrS d a p)/\Grew G w G' w8):=⟨_,⟨mb,_,_,I8⟩,(Below.turnG C9 G).trans (mapTurned_turnG t8 (hM.gm true)),fun k hk=>hk.elim Or.inl (fun e=>Or.inr (by rw[e];exact hg9))⟩;clear I8 t8 r8 I9 O9 hg9 R9 C9 B9 c3c KC K hp hI hM REF c3 D8;go_wp2;go_ret;exact⟨rfl,FIN.out⟩
  ·have eX:wrX d a p=1:=by unfold wrX;rw[if_pos hf,if_neg hb]
   have F:=REF (x:=0) (w':=w) (by unfold wrS;rw[if_neg (fun h=>hb h.2)]) rfl;rw[hf]at K;rw[eX];clear eX REF hI hM c3 hp
   by_cases g1:p.length=0
   ·have q1:((p.length:Int)==0)=true:=by rw[g1];rfl
    go_enter Tryz.func125,Tryz.ntmps125
    go_wp2_with fail
    refine K.mono ?_
    rintro _ wq ⟨rfl,hwq⟩;rw[hwq];clear hwq wq K;go_wp2;go_ret;exact⟨rfl,F.out⟩
   ·have g3:4108<(p.length:Int):=by have:¬(1<=p.length/\p.length<=4108):=hb;omega
    have g2:¬(p.length:Int)=0:=Zo
    have q1:((p.length:Int)==0)=false:=Zq.2 g2;have q3:decide (4108<(p.length:Int))=true:=Zy g3
    go_enter Tryz.func125,Tryz.ntmps125
    go_wp2_with fail
    refine K.mono ?_
    rintro _ wq ⟨rfl,hwq⟩;rw[hwq];clear hwq wq K;go_wp2;go_ret;exact⟨rfl,F.out⟩
 ·have eX:wrX d a p=faX d a:=by unfold wrX;rw[if_neg hf]
  have F:=REF (x:=0) (w':=w) (by unfold wrS;rw[if_neg (fun h=>hf h.1)]) rfl;rw[eX];obtain⟨x,hx⟩:∃x,x=faX d a:=⟨_,rfl⟩;rw[<-hx]at hf K ⊢;clear eX REF hI hM c3 hp hx;have q1:(x==0)=false:=Zq.2 hf
  go_enter Tryz.func125,Tryz.ntmps125
  go_wp2_with fail
  refine K.mono ?_
  rintro _ wq ⟨rfl,hwq⟩;rw[hwq];clear hwq wq K;go_wp2;go_ret;exact⟨rfl,F.out⟩
end
section
variable {w:World} {db:Nat} {G:Nat->Prop} {d:DkS}
theorem own_none(w:World)(base e:Nat):w.ownsRow base e 1 (.slice none 0 0) 0 []:=⟨rfl,Or.inl ⟨rfl,rfl⟩⟩
def Tells(w:World)(x:Int)(p:List UInt8)(e:Ending)(w':World):Prop:=∃v,e= .returned (.tuple #[v,.int .i64 x])/\w'.ownsRow w.heap.size 5 1 v p.length (p.map vb)/\Below w.heap.size w w'
theorem newV_rd{mb:Bool->Nat}{B C:Bool->Int->Nat}(h:DkM w db mb B C G d)(a:Int):(newV d B C a= .slice none 0 0/\atD d a=none)∨∃g c p,newV d B C a= .slice (some ⟨g,0,none⟩) p.length c/\atD d a=some p/\Rd w (.slice (some ⟨g,0,none⟩) p.length c) p/\p.length<=4108:=by
 unfold newV atD valI;cases hw:d.wait a with
 |some p=>exact Or.inr ⟨B true a,C true a,p,rfl,rfl,Rd.owned (h.row true a p hw),(h.ins true a p hw).2.2.2⟩
 |none=>
  cases hl:d.last a with
  |none=>exact Or.inl ⟨rfl,rfl⟩
  |some p=>exact Or.inr ⟨B false a,C false a,p,rfl,rfl,Rd.owned (h.row false a p hl),(h.ins false a p hl).2.2.2⟩
theorem dread_any(h:DiskAt w db G d){a:Int}(ha:(Lit.int .i64 a).wf=true):
  Calls Tryz.prog 111 #[.pointer (some ⟨db,0,none⟩),.int .i64 a] w (Tells w (faX d a) (rdB d a)):=by
 obtain⟨mb,B,C,hI⟩:=h;have hM:=hI.1;have K:=@drat_any w db d a hM.c0 hM.c1;have KN:=dnew_any hM ha
 by_cases hf:faX d a=0
 ·have eR:rdB d a=(atD d a).getD []:=by unfold rdB;rw[if_pos hf]
  rw[hf]at K ⊢;rw[eR]
  rcases newV_rd hM a with⟨e1,e2⟩|⟨g,c,p,e1,e2,hR,hl⟩
  ·rw[e1]at KN;rw[e2]
   go_enter Tryz.func111,Tryz.ntmps111
   go_wp2_with fail
   refine K.mono ?_
   rintro _ wq ⟨rfl,hwq⟩;rw[hwq];clear hwq wq K
   go_wp2_with fail
   refine KN.mono ?_
   rintro _ wq ⟨rfl,hwq⟩;rw[hwq];clear hwq wq KN
   go_wp2_with fail
   refine(@bclone_nil w).mono ?_
   rintro _ wq ⟨rfl,hwq⟩;rw[hwq];clear hwq wq;go_wp2;refine bodyPost_ret (v:=.tuple #[.slice none 0 0,.int .i64 0]) (by simp[results,Tryz.results111,go_sem]) rfl ?_
   exact⟨_,rfl,own_none _ _ _,Zf⟩
  ·rw[e1]at KN;rw[e2];have KC:=bclone_own hR Zo
   go_enter Tryz.func111,Tryz.ntmps111
   go_wp2_with fail
   refine K.mono ?_
   rintro _ wq ⟨rfl,hwq⟩;rw[hwq];clear hwq wq K
   go_wp2_with fail
   refine KN.mono ?_
   rintro _ wq ⟨rfl,hwq⟩;rw[hwq];clear hwq wq KN
   go_wp2_with fail
   refine KC.mono ?_
   rintro _ wq ⟨v,rfl,O1,B1⟩;go_wp2;refine bodyPost_ret (v:=.tuple #[v,.int .i64 0]) (by simp[results,Tryz.results111,go_sem]) rfl ?_
   exact⟨_,rfl,O1,B1⟩
 ·have eR:rdB d a=[]:=by unfold rdB;rw[if_neg hf]
  rw[eR];obtain⟨x,hx⟩:∃x,x=faX d a:=⟨_,rfl⟩;rw[<-hx]at hf K ⊢;clear eR hI hM hx KN;have q1:(x==0)=false:=Zq.2 hf
  go_enter Tryz.func111,Tryz.ntmps111
  go_wp2_with fail
  refine K.mono ?_
  rintro _ wq ⟨rfl,hwq⟩;rw[hwq];clear hwq wq K;go_wp2;refine bodyPost_ret (v:=.tuple #[.slice none 0 0,.int .i64 x]) (by simp[results,Tryz.results111,go_sem]) rfl ?_
  exact⟨_,rfl,own_none _ _ _,Zf⟩
theorem dfail_any(h:DiskAt w db G d):Calls Tryz.prog 56 #[.pointer (some ⟨db,0,none⟩)] w (Leaves w db G (faS d) (.tuple #[])):=by
 obtain⟨mb,B,C,hI⟩:=h;have hM:=hI.1;have c1:=hM.c1;have fz:=hM.fz;have M1:=hM.kill true;obtain⟨w1,w2,r1,t1,r2,t2,I2⟩:=M1.emptied;have KE:=demp_any M1 r1 t1 r2;have FIN:Hid (∃G',DiskAt w2 db G' (faS d)/\Grew G w G' w2):=⟨G,⟨mb,B,C,I2⟩,Grew.of_turn (((setCell_turnG hM.gd).trans (mapTurned_turnG t1 (hM.gm false))).trans (mapTurned_turnG t2 (hM.gm true)))⟩;clear M1 hI hM r1 t1 r2 t2 I2
 go_enter Tryz.func56,Tryz.ntmps56
 go_wp2_with fail
 refine KE.mono ?_
 rintro _ wq ⟨rfl,hwq⟩;rw[hwq];clear hwq wq KE;go_wp2
 go_end0
 exact⟨rfl,FIN.out⟩
theorem drepl_any(h:DiskAt w db G d):Calls Tryz.prog 57 #[.pointer (some ⟨db,0,none⟩)] w (Leaves w db G (reS d) (.tuple #[])):=by
 obtain⟨mb,B,C,hI⟩:=h;have hM:=hI.1;have c1:=hM.c1;have fz:=hM.fz;have M1:=hM.kill false;obtain⟨w1,w2,r1,t1,r2,t2,I2⟩:=M1.emptied;have KE:=demp_any M1 r1 t1 r2;have FIN:Hid (∃G',DiskAt w2 db G' (reS d)/\Grew G w G' w2):=⟨G,⟨mb,B,C,I2⟩,Grew.of_turn (((setCell_turnG hM.gd).trans (mapTurned_turnG t1 (hM.gm false))).trans (mapTurned_turnG t2 (hM.gm true)))⟩;clear M1 hI hM r1 t1 r2 t2 I2
 go_enter Tryz.func57,Tryz.ntmps57
 go_wp2_with fail
 refine KE.mono ?_
 rintro _ wq ⟨rfl,hwq⟩;rw[hwq];clear hwq wq KE;go_wp2
 go_end0
 exact⟨rfl,FIN.out⟩
theorem dcrash_any(h:DiskAt w db G d){v:Value}{L:List Int}(hL:RdI w v L)(hw:∀z∈L,(Lit.int .i64 z).wf=true)(hA:ApartG G v)(hl:L.length<=9223372036854775807):
  Calls Tryz.prog 58 #[.pointer (some ⟨db,0,none⟩),v] w (Leaves w db G (crS d L) (.tuple #[])):=by
 obtain⟨mb,B,C,hI⟩:=h;obtain⟨ad,cp,rfl⟩:=hL.form;have hM:=hI.1;have hcell:∀W,TurnG G w W->∀k,k<L.length->∃b o,ad=some ⟨b,o,none⟩/\W.cell? ⟨b,o+k,none⟩=some (.int .i64 (L.getD k 0)):=by
  intro W hW k hk
  rcases hL with⟨_,_,h1,_⟩|⟨b,o,c,h1,h2,h3,h4,h5⟩
  ·rw[h1]at hk;simp at hk
  ·have e:ad=some ⟨b,o,none⟩:=by simp at h2;exact h2.1
   refine⟨b,o,e,?_⟩;rw[<-h5 k hk];refine hW.cell (p:=⟨b,o+k,none⟩) h4 ?_
   rcases hA _ _ _ h2 with h6|h6
   ·omega
   ·exact h6
 have hwf:∀k,k<L.length->(Lit.int .i64 (L.getD k 0)).wf=true:=fun k hk=>hw _ (by rw[show L.getD k 0=L[k] by simp[List.getD,hk]];exact List.getElem_mem hk)
 have START:Hid (∃B C,DkIn w db mb B C G ((L.take 0).foldl seQ d)/\TurnG G w w):=⟨B,C,hI,TurnG.refl _ _⟩;clear hI hL hA hw
 go_enter Tryz.func58,Tryz.ntmps58
 go_wp2
 go_loopw [10] (fun i wr=>∃k:Nat,k<=L.length/\i= .int .i64 (k:Int)/\∃B C,DkIn wr db mb B C G ((L.take k).foldl seQ d)/\TurnG G w wr) (fun i _=>L.length-(intOf i).toNat)
 case atStart=>exact⟨0,Zz,rfl,START.out⟩
 case round=>
  obtain⟨k,hk,rfl,B,C,hI,hT⟩:=hrel
  by_cases hlt:k<L.length
  ·have hlt':(k:Int)<(L.length:Int):=by omega
   obtain⟨b,o,rfl,hc⟩:=hcell _ hT k Zo;have hz:=hwf k Zo;have HS:Hid ((L.take (k+1)).foldl seQ d=seQ ((L.take k).foldl seQ d) (L.getD k 0)):=by
    show _=_
    rw[List.take_add_one,List.foldl_append,List.getElem?_eq_getElem Zo];simp[List.getD,show k<L.length by omega]
   obtain⟨z,hzz⟩:∃z,z=L.getD k 0:=⟨_,rfl⟩;rw[<-hzz]at hc hz HS;obtain⟨D,hD⟩:∃D,D=(L.take k).foldl seQ d:=⟨_,rfl⟩;rw[<-hD]at hI HS;have g1:IntKind.i64.wrap ((k:Int)+1)=((k+1:Nat):Int):=Zw
   clear hcell hwf START hzz hD;cases hp:D.wait z with
   |some p=>
    obtain⟨w1,w2,r1,t1,r2,t2,I2⟩:=hI.settle hz hp;have KS:=dset_hit hI.1 hz hp r1 t1 r2;have E2:Hid (∃B C,DkIn w2 db mb B C G (List.foldl seQ d (List.take (k+1) L))/\TurnG G w w2):=by
     refine⟨updQ B false z (B true z),updQ C false z (C true z),?_,(hT.trans (mapTurned_turnG t1 (hM.gm false))).trans (mapTurned_turnG t2 (hM.gm true))⟩;rw[HS.out];unfold seQ;rw[hp];exact I2
    clear r1 t1 r2 t2 I2 HS hp hI hT hM
    go_wp2_with fail
    refine KS.mono ?_
    rintro _ wq ⟨rfl,hwq⟩;rw[hwq];clear hwq wq KS;go_wp2;go_roundw
    case rel=>exact⟨k+1,Zo,Zg,E2.out⟩
    case measure=>simp[intOf];omega
   |none=>
    have KS:=dset_miss hI.1 hz hp;have E2:Hid (∃B C,DkIn wr db mb B C G (List.foldl seQ d (List.take (k+1) L))/\TurnG G w wr):=by
     refine⟨B,C,?_,hT⟩;rw[HS.out];unfold seQ;rw[hp];exact hI
    clear HS hp hI hT hM
    go_wp2_with fail
    refine KS.mono ?_
    rintro _ wq ⟨rfl,hwq⟩;rw[hwq];clear hwq wq KS;go_wp2;go_roundw
    case rel=>exact⟨k+1,Zo,Zg,E2.out⟩
    case measure=>simp[intOf];omega
  ·have hlt':¬(k:Int)<(L.length:Int):=by omega
   have hkn:k=L.length:=Zo
   rw[hkn,List.take_length]at hI;obtain⟨w1,r1,t1,I1⟩:=hI.unwait;have c3:=hI.1.c3;have FIN:Hid (∃G',DiskAt w1 db G' (crS d L)/\Grew G w G' w1):=⟨G,⟨mb,B,C,by rw[<-keep_crash];exact I1⟩,Grew.of_turn (hT.trans (mapTurned_turnG t1 (hM.gm true)))⟩;clear I1 t1 hI hT hM hcell hwf START;go_wp2
   go_end0
   exact⟨rfl,FIN.out⟩
end
open Go.Maps (Keyed)
open Go.ChangeMaps Go.MapKept
theorem has_del{D:DataW Value}{S:Nat}(hk:∀kl,Maps.has D kl=true->∃x:Int,kl= .int .i64 x/\0<=x/\x<(S:Int))(y:Int):(fun z:Lit=>Maps.has D z&& !z.sameKey (.int .i64 y))=Maps.has (D.del (.int .i64 y)):=by
 funext z
 by_cases e:z= .int .i64 y
 ·subst e;rw[Maps.has_del_same,WideAt.sameKey_self (show WideAt.IsKeyLit (.int .i64 y)from trivial)];simp
 ·rw[Maps.has_del_other e];cases hh:Maps.has D z with
  |false=>rfl
  |true=>
   obtain⟨x,rfl,_⟩:=hk z hh
   have:(Lit.int .i64 x).sameKey (.int .i64 y)=false:=by
    cases hs:(Lit.int .i64 x).sameKey (.int .i64 y)with
    |false=>rfl
    |true=>
     simp[Lit.sameKey]at hs;exact absurd (by rw[hs]) e
   rw[this];rfl
structure FlK(d e:DkS):Prop where
 s:e.s=d.s
 dead:e.dead=d.dead
 each:∀x,(e.wait x=d.wait x/\e.last x=d.last x)∨(e.wait x=none/\e.last x=overB d.wait d.last x)
theorem FlK.refl(d:DkS):FlK d d:=⟨rfl,rfl,fun x=>Or.inl ⟨rfl,rfl⟩⟩
theorem FlK.settle{d e:DkS}(h:FlK d e){a:Int}{p:List UInt8}(hp:e.wait a=some p):FlK d (seS e a p):=by
 refine⟨h.s,h.dead,fun x=>?_⟩
 by_cases ex:x=a
 ·subst ex;have hl:(seS e x p).last x=some p:=if_pos rfl;have hw:(seS e x p).wait x=none:=if_pos rfl;refine Or.inr ⟨hw,hl.trans ?_⟩
  rcases h.each x with⟨h1,h2⟩|⟨h1,h2⟩
  ·unfold overB;rw[<-h1,hp]
  ·rw[h1]at hp;cases hp
 ·have hl:(seS e a p).last x=e.last x:=if_neg ex;have hw:(seS e a p).wait x=e.wait x:=if_neg ex;rw[hl,hw];exact h.each x
theorem FlK.done{d e:DkS}(h:FlK d e)(hd:d.dead=false)(hn:∀x,e.wait x=none):e=flS d:=by
 unfold flS;rw[if_neg (by rw[hd];decide)];obtain⟨es,el,ew,ed⟩:=e;rw[DkS.mk.injEq];refine⟨h.s,funext fun x=>?_,funext hn,h.dead⟩
 rcases h.each x with⟨h1,h2⟩|⟨h1,h2⟩
 ·have h3:=hn x;unfold overB;rw[<-h1,show({s:=es,last:=el,wait:=ew,dead:=ed:DkS}).wait x=none from h3];exact h2
 ·exact h2
section
variable {w:World} {db:Nat} {G:Nat->Prop} {d:DkS}
def FlI(w0:World)(db:Nat)(mb:Bool->Nat)(G:Nat->Prop)(d:DkS)(r:Nat)(wr:World):Prop:=
 ∃e B C D cnt,DkIn wr db mb B C G e/\FlK d e/\wr.ranges Tryz.prog 3 RV (mb true) r d.s D (Maps.has D) cnt/\(∀kl,Maps.has D kl=true->∃x:Int,kl= .int .i64 x/\0<=x/\x<(d.s:Int))/\
  (∀x:Int,Maps.has D (.int .i64 x)=(e.wait x).isSome)/\TurnG G w0 wr/\w0.heap.size<=r
theorem dflush_any(h:DiskAt w db G d):Calls Tryz.prog 128 #[.pointer (some ⟨db,0,none⟩)] w (Leaves w db G (flS d) (.int .i64 (flX d))):=by
 obtain⟨mb,B,C,hI⟩:=h;have hM:=hI.1;have c3:=hM.c3;have K:=@dref_any w db d.dead hM.c1;cases hd:d.dead with
 |true=>
  have e1:flX d=120:=if_pos hd;have F:Hid (∃G',DiskAt w db G' (flS d)/\Grew G w G' w):=by
   show ∃G',_
   rw[show flS d=d from if_pos hd];exact⟨G,⟨mb,B,C,hI⟩,Grew.refl G w⟩
  rw[hd]at K;simp only[if_true]at K;rw[e1];clear e1 hI hM c3
  go_enter Tryz.func128,Tryz.ntmps128
  go_wp2_with fail
  refine K.mono ?_
  rintro _ wq ⟨rfl,hwq⟩;rw[hwq];clear hwq wq K;go_wp2;go_ret;exact⟨rfl,F.out⟩
 |false=>
  have e1:flX d=0:=by unfold flX;rw[if_neg (by rw[hd];decide)]
  rw[hd]at K;simp only[Bool.false_eq_true,if_false]at K;rw[e1];obtain⟨D,hown,hk,hf⟩:=hM.mp true
  go_enter Tryz.func128,Tryz.ntmps128
  go_wp2_with fail
  refine K.mono ?_
  rintro _ wq ⟨rfl,hwq⟩;rw[hwq];clear hwq wq K
  go_wp2_with (first|(at_range;refine wpList_range_own _ rfl _ 152 rfl 3 42 keyed_int under_map RV (mb true) d.s D rfl hown ?_;intro w0 hrg0 hg0 hs0))
  go_frame
  have START:Hid (FlI w db mb G d w.heap.size w0):=by
   have hB0:Below w.heap.size w w0:=⟨hg0.os,hg0.tape,hg0.output,hg0.size,fun k hk=>hg0.block k hk Zs⟩;refine⟨d,B,C,D,_,hI.below hB0,FlK.refl d,hrg0,hk,fun x=>?_,Below.turnG hB0 G,Zr⟩
   rcases hf x with⟨h1,h2⟩|⟨v,h1,h2,_⟩
   ·rw[h1];have h2':(d.wait x).map _=none:=h2;rw[Option.map_eq_none_iff]at h2';rw[h2'];rfl
   ·rw[h2];have h1':(d.wait x).map _=some v:=h1;rw[Option.map_eq_some_iff]at h1';obtain⟨p,h3,_⟩:=h1';rw[h3];rfl
  have hGr:Hid (∀k,G k->k<w.heap.size):=hM.lt;have hgm:Hid (∀q,G (mb q)):=hM.gm;obtain⟨r,hr⟩:∃r,Hid (r=w.heap.size):=⟨_,rfl⟩;rw[<-hr.out]at START ⊢;clear hrg0 hg0 hs0 hown hk hf hI hM c3 hr
  go_loopw [4] (fun _ wr=>FlI w db mb G d r wr) (fun _ wr=>wr.rangeLeft (mb true) r)
  case atStart=>exact START.out
  case round=>
   obtain⟨e,B,C,D,cnt,hI,hF,hrg,hk,hh,hT,hr⟩:=hrel;clear START
   go_wp2_with (first|(at_next;refine wpList_next_ranges _ rfl _ rfl 3 keyed_int RV (Value.int .i64) id (fun key kl hkey=>by obtain⟨x,rfl,_⟩:=Maps.keyOf_int_inv (q:=.i64) Zk hkey;exact⟨x,rfl⟩) (fun v y _=>⟨v,rfl⟩) (mb true) r d.s D _ cnt rfl hrg ?_ ?_))
   ·intro _ hl0;have E:e=flS d:=hF.done hd (fun x=>by
     have h1:=hh x;rw[hl0]at h1;cases hx:e.wait x with
     |none=>rfl
     |some p=>rw[hx]at h1;cases h1)
    have FIN:Hid (∃G',DiskAt wr db G' (flS d)/\Grew G w G' wr):=⟨G,⟨mb,B,C,by rw[<-E];exact hI⟩,Grew.of_turn hT⟩;clear hI hF hrg hk hh hT hl0 E hGr hgm;go_wp2;go_ret;exact⟨rfl,FIN.out⟩
   ·intro x c kl y yl w1 cnt1 hkey hlk hv hat hrg1 hlt1 hg1 hs1 hen;obtain⟨x',ex,rfl,hwx⟩:=Maps.keyOf_int_inv (q:=.i64) Zk hkey;cases ex;obtain⟨p,hp⟩:∃p,e.wait x=some p:=by
     have h1:=hh x;rw[hlk]at h1;cases hx:e.wait x with
     |none=>rw[hx]at h1;cases h1
     |some p=>exact⟨p,rfl⟩
    have hnr:¬G r:=fun h=>by have:=hGr.out r h;omega
    have I1:DkIn w1 db mb B C G e:=⟨hI.1.keep (fun k hk=>by
     by_cases e:k<wr.heap.size
     ·exact hg1.block k e (fun h=>hnr (by cases h;exact hk))
     ·rw[Array.getElem?_eq_none (by rw[hs1];omega),Array.getElem?_eq_none Zo]) (by rw[hs1];exact Zr),hI.2⟩
    obtain⟨w2,w3,r1,t1,r2,t2,I3⟩:=I1.settle hwx hp;have KS:=dset_hit I1.1 hwx hp r1 t1 r2;obtain⟨o1,o2,o3,o4⟩:=mapTurned_os t1;have hrg2:=hrg1.kept (w':=w2) (row:=some (mb false)) ⟨o1,o2,o3,by rw[o4];exact Zr,fun k _ hk=>mapTurned_block t1 (fun e=>hk (by rw[e]))⟩ (fun h=>I1.1.lw (by simpa using h.symm)) (fun h=>by simp at h;exact hnr (by rw[h];exact hgm.out false));obtain⟨w3',cnt3,hrun3,hrg3,hle,ht3⟩:=hrg2.drop keyed_int under_map (key_int hwx) 0;rw[r2]at hrun3;simp only[Result.ok.injEq]at hrun3;obtain⟨_,rfl⟩:=hrun3;rw[Maps.strike_twice,has_del hk]at hrg3;have hT1:TurnG G w w1:=⟨hg1.os.trans hT.os,hg1.tape.trans hT.tape,hg1.output.trans hT.output,by rw[hs1];exact hT.size,fun k hk hg=>(hg1.block k (Zu hk hT.size) (fun h=>by cases h;omega)).trans (hT.block k hk hg)⟩;have E2:Hid (FlI w db mb G d r w3):=by
     refine⟨seS e x p,_,_,_,cnt3,I3,hF.settle hp,hrg3,?_,?_,(hT1.trans (mapTurned_turnG t1 (hgm.out false))).trans (mapTurned_turnG t2 (hgm.out true)),hr⟩
     ·intro kl hh2
      by_cases ek:kl= .int .i64 x
      ·subst ek;rw[Maps.has_del_same]at hh2;cases hh2
      ·rw[Maps.has_del_other ek]at hh2;exact hk kl hh2
     ·intro z
      by_cases ez:z=x
      ·subst ez;rw[Maps.has_del_same,show(seS e z p).wait z=none from if_pos rfl];rfl
      ·have hne:Lit.int .i64 z≠.int .i64 x:=fun h=>ez (by simpa using h)
       rw[Maps.has_del_other hne,show(seS e x p).wait z=e.wait z from if_neg ez];exact hh z
    have E3:Hid (w3.rangeLeft (mb true) r<wr.rangeLeft (mb true) r):=by
     show _<_
     rw[hrg3.left_eq,hrg.left_eq];omega
    clear I3 hF hrg3 hle ht3 hrg2 hT1 hT t1 t2 r1 r2 o1 o2 o3 o4 I1 hnr hp hkey hlk hv hat hrg1 hlt1 hg1 hs1 hI hrg hk hh hr hGr hgm
    go_wp2_with fail
    refine KS.mono ?_
    rintro _ wq ⟨rfl,hwq⟩;rw[hwq];clear hwq wq KS;go_wp2;go_roundw
    case rel=>exact E2.out
    case measure=>exact E3.out
end
end Go.Proofs.YtclieefpnbdbjaaGreat.Gf
