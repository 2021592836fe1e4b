/- JOINED: ArNew, ArAwM, ArRm, ArRA, ArRB, ArLL, ArRC, ArRN. -/
import Derived.Test.YtddnfhfangfgeaaGreatPome23
import Derived.Test.YtddnfhfangfgeaaGreatPome22
set_option maxRecDepth 100000
namespace Go.Proofs.YtddnfhfangfgeaaGreat.Gf
set_option linter.unusedVariables false
set_option linter.unusedSimpArgs false
open Go.RowKit
theorem info_member:(Tryz.prog.info? 81).map (fun i=>(i.zero,i.size,i.bytes))=some (some (.agg #[.pointer none,.int .i64 0]),2,16):=Zk
theorem run_make_members(n:Nat)(hn:n<=32)(w:World):(Instr.makeSlice 74 (.int .i64 (n:Int)) (.int .i64 (n:Int))).run Tryz.prog w= .ok (.slice (some ⟨w.heap.size,0,none⟩) n n) (w.alloc (.cells (madeCells #[.pointer none,.int .i64 0] (n*2)) 81)):=by
 obtain⟨i,hi,hzz⟩:=Option.map_eq_some_iff.1 info_member;simp only[Prod.mk.injEq]at hzz;obtain⟨hz,hs,hb⟩:=hzz;have hr:=run_make (P:=Tryz.prog) w 74 81 i _ Tryz.underlying74 hi hz .i64 .i64 n n Zo (Int.le_refl _) (by rw[hb];omega) Zo;simp only[Int.toNat_natCast,hs]at hr;exact hr
def nfR(db:Nat->Nat)(k:Nat)(j:Nat):Value:=if j%2=0 then (if j/2<k then .pointer (some ⟨db (j/2),0,none⟩)else .pointer none)else .int .i64 0
def faR(mb n:Nat)(j:Nat):Value:=if j=0 then .slice (some ⟨mb,0,none⟩) n n else if j=1 then .int .i64 0 else .bool false
structure NewI(w wr:World)(ab mb n k s:Nat)(db:Nat->Nat)(GD:Nat->Nat->Prop):Prop where
 b:Below w.heap.size w wr
 la:w.heap.size<=ab
 lm:w.heap.size<=mb
 ne:ab≠mb
 ra:wr.rowIs ab 76 3 (faR mb n)
 rm:wr.rowIs mb 81 (n*2) (nfR db k)
 dk:∀i,i<k->DiskAt wr (db i) (GD i) (newD s)
 sep:∀i j,i<k->j<k->i≠j->∀x,GD i x->¬GD j x
 up:∀i,i<k->∀x,GD i x->x≠ab/\x≠mb/\w.heap.size<=x
section
variable {w wr w1:World} {ab mb n k s:Nat} {db:Nat->Nat} {GD:Nat->Nat->Prop}
theorem NewI.step(h:NewI w wr ab mb n k s db GD)(hk:k<n){d:Nat}{G:Nat->Prop}(hD:DiskAt w1 d G (newD s))(hG:∀x,G x->wr.heap.size<=x)(hb:Below wr.heap.size wr w1):
  NewI w (w1.setCell ⟨mb,k*2,none⟩ (.pointer (some ⟨d,0,none⟩))) ab mb n (k+1) s (fun i=>if i=k then d else db i) (fun i=>if i=k then G else GD i):=by
 have lm:=h.rm.lt;have la:=h.ra.lt;have kb:∀x,x≠mb->(w1.setCell ⟨mb,k*2,none⟩ (.pointer (some ⟨d,0,none⟩))).heap[x]? =w1.heap[x]? :=fun x hx=>Below.heap_setCell w1 ⟨mb,k*2,none⟩ _ x hx
 refine⟨(h.b.trans (hb.mono h.b.size)).setCell h.lm _,h.la,h.lm,h.ne,?_,?_,?_,?_,?_⟩
 ·exact(h.ra.of_block (hb.block ab la)).setOther h.ne _
 ·refine((h.rm.of_block (hb.block mb lm)).set (k*2) (.pointer (some ⟨d,0,none⟩))).congr fun j hj=>?_
  unfold nfR
  by_cases e:j=k*2
  ·subst e;rw[if_pos rfl,if_pos Zo,if_pos Zo]
   show _=Value.pointer (some ⟨if k*2/2=k then d else db (k*2/2),0,none⟩)
   rw[if_pos Zo]
  ·rw[if_neg e]
   by_cases e1:j%2=0
   ·rw[if_pos e1,if_pos e1]
    by_cases e2:j/2<k
    ·rw[if_pos e2,if_pos Zo]
     show _=Value.pointer (some ⟨if j/2=k then d else db (j/2),0,none⟩)
     rw[if_neg Zo]
    ·rw[if_neg e2,if_neg Zo]
   ·rw[if_neg e1,if_neg e1]
 ·intro i hi
  show DiskAt _ (if i=k then d else db i) (if i=k then G else GD i) _
  by_cases e:i=k
  ·rw[if_pos e,if_pos e];exact hD.keep (fun x hx=>kb x (fun e2=>by have:=hG x hx;omega)) Zs
  ·rw[if_neg e,if_neg e];have h1:=(h.dk i Zo).below hb;exact h1.keep (fun x hx=>kb x (h.up i Zo x hx).2.1) Zs
 ·intro i j hi hj hne x hx hx2;replace hx:(if i=k then G else GD i) x:=hx;replace hx2:(if j=k then G else GD j) x:=hx2
  by_cases e:i=k
  ·rw[if_pos e]at hx;rw[if_neg Zo]at hx2;have h1:=hG x hx;have h2:=(h.dk j Zo).lt x hx2;omega
  ·rw[if_neg e]at hx
   by_cases e2:j=k
   ·rw[if_pos e2]at hx2;have h1:=hG x hx2;have h2:=(h.dk i Zo).lt x hx;omega
   ·rw[if_neg e2]at hx2;exact h.sep i j Zo Zo hne x hx hx2
 ·intro i hi x hx;replace hx:(if i=k then G else GD i) x:=hx
  by_cases e:i=k
  ·rw[if_pos e]at hx;have h1:=hG x hx;have h2:=h.b.size;exact⟨Zo,Zo,Zo⟩
  ·rw[if_neg e]at hx;exact h.up i Zo x hx
theorem rep_getD{α:Type}{n i:Nat}{x d:α}(h:i<n):(List.replicate n x).getD i d=x:=by simp[List.getD,h]
theorem NewI.done(h:NewI w wr ab mb n n s db GD)(h1:1<=n)(h2:n<=32)(h3:1<=s)(h4:s<=4096):ArAt wr ab (fun x=>x=ab∨x=mb∨∃i,i<n/\GD i x) (newA n s):=by
 have hl:(newA n s).D.length=n:=by simp[newA]
 refine⟨mb,db,GD,⟨?_,h.ra.cell (i:=1) Zo,h.ra.cell (i:=2) Zo,h.ra.frozen 1,h.ra.frozen 2,fun i hi=>?_,fun i hi=>?_,fun i hi=>h.rm.frozen _,fun i hi=>?_,fun i j hi hj=>h.sep i j (hl▸hi) (hl▸hj),fun i hi=>⟨fun e=>(h.up i (hl▸hi) _ e).1 rfl,fun e=>(h.up i (hl▸hi) _ e).2.1 rfl⟩,h.ne,Or.inl rfl,Or.inr (Or.inl rfl),fun i hi x hx=>Or.inr (Or.inr ⟨i,hl▸hi,hx⟩),fun x hx=>?_,by rw[hl];exact h1,by rw[hl];exact h2,by simp[newA],by simp[newA];decide⟩,newA_ok h1 h2 h3 h4⟩
 ·rw[hl];exact h.ra.cell (i:=0) Zo
 ·rw[hl]at hi;rw[h.rm.cell Zo];unfold nfR;rw[if_pos Zo,if_pos Zo,show i*2/2=i by omega]
 ·rw[hl]at hi;rw[h.rm.cell Zo];unfold nfR;rw[if_neg Zo];simp only[newA];rw[rep_getD hi]
 ·rw[hl]at hi;simp only[newA];rw[rep_getD hi];exact h.dk i hi
 ·rcases hx with h5|h5|⟨i,hi,h5⟩
  ·rw[h5];exact h.ra.lt
  ·rw[h5];exact h.rm.lt
  ·exact(h.dk i hi).lt x h5
end
def NewsA(w:World)(n s:Nat)(e:Ending)(w':World):Prop:=∃ab GA,e= .returned (.tuple #[.pointer (some ⟨ab,0,none⟩),.int .i64 0])/\ArAt w' ab GA (newA n s)/\(∀k,GA k->w.heap.size<=k)/\Below w.heap.size w w'
theorem made_two(w:World)(n:Nat)(t:TypeId):(w.alloc (.cells (madeCells #[.pointer none,.int .i64 0] (n*2)) t)).rowIs w.heap.size t (n*2) (nfR (fun _=>0) 0):=by
 have hs:(madeCells #[Value.pointer none,.int .i64 0] (n*2)).size=n*2:=size_madeCells _ _;have h:=World.rowIs_alloc w (madeCells #[.pointer none,.int .i64 0] (n*2)) t (nfR (fun _=>0) 0) (fun i hi=>by
  rw[hs]at hi;unfold nfR
  rcases Nat.mod_two_eq_zero_or_one i with e|e<;>simp[madeCells,hi,e])
 rw[hs]at h;exact h
theorem laid_u(w:World)(n:Nat)(h2:n<=32):∃u,(Instr.makeSlice 74 (.int .i64 (n:Int)) (.int .i64 (n:Int))).run Tryz.prog w= .ok (.slice (some ⟨w.heap.size,0,none⟩) n n) u/\u.rowIs w.heap.size 81 (n*2) (nfR (fun _=>0) 0)/\Below w.heap.size w u/\u.heap.size=w.heap.size+1:=
 ⟨_,run_make_members n h2 w,made_two _ _ _,belA _ _,Zs⟩
theorem laid_a(u:World)(g n:Nat):(u.alloc (.cells #[.slice (some ⟨g,0,none⟩) n n,.int .i64 0,.bool false] 76)).rowIs u.heap.size 76 3 (faR g n):=
 World.rowIs_alloc u #[.slice (some ⟨g,0,none⟩) n n,.int .i64 0,.bool false] 76 (faR g n) (fun i hi=>by
  have hi2:i<3:=hi
  match i,hi2 with
  |0,_=>rfl
  |1,_=>rfl
  |2,_=>rfl)
theorem z24_2{p:Prop} (h:p:=by
 go_wp2;go_roundw
 case rel=>exact⟨k+1,Zo,Zg,E2.out⟩
 case measure=>simp[intOf];omega
 ):p:=h
theorem anew_any{w:World}{n:Nat}{s:Int}(h1:1<=n)(h2:n<=32)(h3:1<=s)(h4:s<=4096):Calls Tryz.prog 12 #[.int .i64 (n:Int),.int .i64 s] w (NewsA w n s.toNat):=by
 have q1:¬(n:Int)<1:=Zo
 have q2:¬(n:Int)>32:=Zo
 obtain⟨u,mk1,hr,hb,hs⟩:=laid_u w n h2;obtain⟨g,hg⟩:∃g,Hid (g=w.heap.size):=⟨_,rfl⟩;rw[<-hg.out]at mk1 hr;have hs':Hid (u.heap.size=w.heap.size+1):=hs;have LA:=laid_a u g n;have START:Hid (∃db GD,NewI w (u.alloc (.cells #[.slice (some ⟨g,0,none⟩) n n,.int .i64 0,.bool false] 76)) u.heap.size g n 0 s.toNat db GD):=
  ⟨fun _=>0,fun _ _=>False,(hb.alloc (by have:=hb.size;omega) _),Zo,by rw[hg.out];exact Zr,by rw[hg.out];omega,LA,hr.alloc _,fun i hi=>absurd hi (Nat.not_lt_zero _),fun i j hi=>absurd hi (Nat.not_lt_zero _),fun i hi=>absurd hi (Nat.not_lt_zero _)⟩
 have c0:=LA.cell (i:=0) Zo;simp only[faR,if_true]at c0;clear hs LA hb hr
 go_enter Tryz.func12,Tryz.ntmps12
 go_wp2;obtain⟨ab,hab⟩:∃ab,Hid (ab=u.heap.size):=⟨_,rfl⟩;rw[<-hab.out]at START ⊢
 go_loopw [25] (fun i wr=>∃k:Nat,k<=n/\i= .int .i64 (k:Int)/\∃db GD,NewI w wr ab g n k s.toNat db GD) (fun i _=>n-(intOf i).toNat)
 case atStart=>exact⟨0,Zz,rfl,START.out⟩
 case round=>
  clear START;obtain⟨k,hk,rfl,db,GD,hN⟩:=hrel
  by_cases hlt:k<n
  ·have hlt':(k:Int)<(n:Int):=by omega
   have g1:IntKind.i64.wrap ((k:Int)+1)=((k+1:Nat):Int):=Zw
   go_wp2_with fail
   refine(dmake_any h3 h4).mono ?_
   rintro _ w1 ⟨d,G,rfl,D1,H1,B1⟩;have c1:w1.cell? ⟨ab,0,none⟩=some (.slice (some ⟨g,0,none⟩) n n):=(B1.cell (p:=⟨ab,0,none⟩) hN.ra.lt).trans (hN.ra.cell (i:=0) Zo);have R1:=hN.rm.of_block (B1.block g hN.rm.lt);have c2:=R1.cell (i:=k*2) Zo;have f2:=R1.frozen (k*2);have E2:Hid (∃db GD,NewI w (w1.setCell ⟨g,k*2,none⟩ (.pointer (some ⟨d,0,none⟩))) ab g n (k+1) s.toNat db GD):=⟨_,_,hN.step hlt D1 H1 B1⟩;clear hN D1 H1 B1 R1;exact z24_2
  ·have hlt':¬(k:Int)<(n:Int):=by omega
   have hkn:k=n:=Zo
   rw[hkn]at hN;have FIN:Hid (∃GA,ArAt wr ab GA (newA n s.toNat)/\(∀k,GA k->w.heap.size<=k)/\Below w.heap.size w wr):=⟨_,hN.done h1 h2 Zo Zo,fun x hx=>by
    rcases hx with h5|h5|⟨i,hi,h5⟩
    ·rw[h5];exact hN.la
    ·rw[h5];exact hN.lm
    ·exact(hN.up i hi x h5).2.2,hN.b⟩
   clear hN;go_wp2;refine bodyPost_ret (v:=.tuple #[.pointer (some ⟨ab,0,none⟩),.int .i64 0]) (by simp[results,Tryz.results12,go_sem]) rfl ?_
   obtain⟨GA,r⟩:=FIN.out;exact⟨ab,GA,rfl,r⟩
section
variable {w w':World} {ab N:Nat} {GA GA':Nat->Prop} {a a':ArS}
structure ArB(w:World)(N:Nat)(ab:Nat)(GA:Nat->Prop)(a:ArS):Prop where
 at_:ArAt w ab GA a
 low:∀k,GA k->N<=k
 size:N<=w.heap.size
theorem ArB.below(h:ArB w N ab GA a)(hb:Below w.heap.size w w'):ArB w' N ab GA a:=⟨h.at_.below hb,h.low,Nat.le_trans h.size hb.size⟩
theorem ArB.grew(h:ArB w N ab GA a)(hd:ArAt w' ab GA' a')(g:Grew GA w GA' w'):ArB w' N ab GA' a':=⟨hd,g.base h.low h.size,Nat.le_trans h.size g.turn.size⟩
theorem ArB.bel(h:ArB w N ab GA a)(g:Grew GA w GA' w'):Below N w w':=g.below h.low h.size
theorem Told.ownA{v:Value}{p:List UInt8}{e:Nat}(h:ArAt w ab GA a)(ho:w'.ownsRow w.heap.size e 1 v p.length (p.map vb)):Told w' GA v p:=⟨Rd.owned ho,ApartG.own ho h.lt⟩
end
theorem newA_len(n s:Nat):(newA n s).D.length=n:=by simp[newA]
section
variable {w:World} {ab:Nat} {GA:Nat->Prop} {a:ArS}
theorem awrite_is(h:ArAt w ab GA a){i ad:Int}(hi:(Lit.int .i64 i).wf=true)(ha:(Lit.int .i64 ad).wf=true){v:Value}{p:List UInt8}(hp:Rd w v p){x:Int}(hx:wrAX a i ad p=x){a':ArS}(hd:wrAS a i ad p=a'):Calls Tryz.prog 70 #[.pointer (some ⟨ab,0,none⟩),.int .i64 i,.int .i64 ad,v] w (LeavesA w ab GA a' (.int .i64 x)):=by
 rw[<-hx,<-hd];exact awrite_any h hi ha hp
theorem aread_is(h:ArAt w ab GA a){i ad:Int}(hi:(Lit.int .i64 i).wf=true)(ha:(Lit.int .i64 ad).wf=true){x:Int}(hx:rdAX a i ad=x){p:List UInt8}(hp:rdAB a i ad=p):Calls Tryz.prog 72 #[.pointer (some ⟨ab,0,none⟩),.int .i64 i,.int .i64 ad] w (Tells w x p):=by
 rw[<-hx,<-hp];exact aread_any h hi ha
theorem afail_is(h:ArAt w ab GA a){i:Int}(hi:(Lit.int .i64 i).wf=true){x:Int}(hx:thX a i=x):Calls Tryz.prog 20 #[.pointer (some ⟨ab,0,none⟩),.int .i64 i] w (LeavesA w ab GA (faAS a i) (.int .i64 x)):=by
 rw[<-hx];exact afail_any h hi
theorem aflush_is(h:ArAt w ab GA a){x:Int}(hx:flAX a=x){a':ArS}(hd:flAS a=a'):Calls Tryz.prog 74 #[.pointer (some ⟨ab,0,none⟩)] w (LeavesA w ab GA a' (.int .i64 x)):=by
 rw[<-hx,<-hd];exact aflush_any h
theorem adown_is(h:ArAt w ab GA a){x:Bool}(hx:a.off=x):Calls Tryz.prog 44 #[.pointer (some ⟨ab,0,none⟩)] w fun e w'=>e= .returned (.bool x)/\w'=w:=by
 rw[<-hx];exact adown_any h
theorem anew_is{w:World}{n s:Int}{m:Nat}(e:n=(m:Int))(h1:1<=m)(h2:m<=32)(h3:1<=s)(h4:s<=4096){k:Nat}(hs:s.toNat=k):Calls Tryz.prog 12 #[.int .i64 n,.int .i64 s] w (NewsA w m k):=by
 subst e hs;exact anew_any h1 h2 h3 h4
end
structure RaM(w:World)(rb xb yb cx cy:Nat)(rd:Nat->Nat)(HR GA:Nat->Prop)(a:ArS):Prop where
 c0:w.cell? ⟨rb,0,none⟩=some (.slice (some ⟨xb,0,none⟩) a.D.length cx)
 c1:w.cell? ⟨rb,1,none⟩=some (.slice (some ⟨yb,0,none⟩) a.D.length cy)
 c2:w.cell? ⟨rb,2,none⟩=some (.int .i64 a.left)
 c3:w.cell? ⟨rb,3,none⟩=some (.bool a.off)
 f2:w.frozen? ⟨rb,2,none⟩=false
 f3:w.frozen? ⟨rb,3,none⟩=false
 x:∀i,i<a.D.length->w.cell? ⟨xb,i,none⟩=some (.pointer (some ⟨rd i,0,none⟩))
 y:∀i,i<a.D.length->w.cell? ⟨yb,i,none⟩=some (.int .i64 (a.B.getD i 0))
 fy:∀i,i<a.D.length->w.frozen? ⟨yb,i,none⟩=false
 dk:∀i,i<a.D.length->RefAt w (rd i) (fun k=>HR k∨GA k) (a.D.getD i default)
 inj:∀i j,i<a.D.length->j<a.D.length->rd i=rd j->i=j
 off:∀i,i<a.D.length->rd i≠rb/\rd i≠xb/\rd i≠yb
 rx:rb≠xb
 ry:rb≠yb
 xy:xb≠yb
 hr:HR rb
 hx:HR xb
 hy:HR yb
 hd:∀i,i<a.D.length->HR (rd i)
 dis:∀k,HR k->¬GA k
 lt:∀k,HR k->k<w.heap.size
 lg:∀k,GA k->k<w.heap.size
 d1:1<=a.D.length
 d2:a.D.length<=32
 b:a.B.length=a.D.length
 wl:(Lit.int .i64 a.left).wf=true
def RaIn(w:World)(rb xb yb cx cy:Nat)(rd:Nat->Nat)(HR GA:Nat->Prop)(a:ArS):Prop:=RaM w rb xb yb cx cy rd HR GA a/\a.Ok
def RaAt(w:World)(rb:Nat)(HR GA:Nat->Prop)(a:ArS):Prop:=∃xb yb cx cy rd,RaIn w rb xb yb cx cy rd HR GA a
def LeavesRA(w:World)(rb:Nat)(HR GA:Nat->Prop)(a':ArS)(x:Value)(e:Ending)(w':World):Prop:=e= .returned x/\RaAt w' rb HR GA a'/\TurnG HR w w'
section
variable {w w':World} {rb xb yb cx cy:Nat} {rd:Nat->Nat} {HR GA GA':Nat->Prop} {a:ArS}
theorem RaM.below(h:RaM w rb xb yb cx cy rd HR GA a)(hb:Below w.heap.size w w'):RaM w' rb xb yb cx cy rd HR GA a:=
 have l:=h.lt rb h.hr;have lx:=h.lt xb h.hx;have ly:=h.lt yb h.hy
 ⟨(hb.cell (p:=⟨rb,0,none⟩) l).trans h.c0,(hb.cell (p:=⟨rb,1,none⟩) l).trans h.c1,(hb.cell (p:=⟨rb,2,none⟩) l).trans h.c2,(hb.cell (p:=⟨rb,3,none⟩) l).trans h.c3,(hb.frozen (p:=⟨rb,2,none⟩) l).trans h.f2,(hb.frozen (p:=⟨rb,3,none⟩) l).trans h.f3,
  fun i hi=>(hb.cell (p:=⟨xb,i,none⟩) lx).trans (h.x i hi),fun i hi=>(hb.cell (p:=⟨yb,i,none⟩) ly).trans (h.y i hi),fun i hi=>(hb.frozen (p:=⟨yb,i,none⟩) ly).trans (h.fy i hi),fun i hi=>(h.dk i hi).below hb,
  h.inj,h.off,h.rx,h.ry,h.xy,h.hr,h.hx,h.hy,h.hd,h.dis,fun k hk=>Zu (h.lt k hk) hb.size,fun k hk=>Zu (h.lg k hk) hb.size,h.d1,h.d2,h.b,h.wl⟩
theorem RaAt.below(h:RaAt w rb HR GA a)(hb:Below w.heap.size w w'):RaAt w' rb HR GA a:=by
 obtain⟨xb,yb,cx,cy,rd,h,ok⟩:=h;exact⟨xb,yb,cx,cy,rd,h.below hb,ok⟩
theorem RaM.other(h:RaM w rb xb yb cx cy rd HR GA a)(g:Grew GA w GA' w')(hl:∀k,GA' k->k<w'.heap.size):RaM w' rb xb yb cx cy rd HR GA' a:=by
 have l:=h.lt rb h.hr;have lx:=h.lt xb h.hx;have ly:=h.lt yb h.hy;have nr:=h.dis rb h.hr;have nx:=h.dis xb h.hx;have ny:=h.dis yb h.hy;refine⟨(g.turn.cell (p:=⟨rb,0,none⟩) l nr).trans h.c0,(g.turn.cell (p:=⟨rb,1,none⟩) l nr).trans h.c1,(g.turn.cell (p:=⟨rb,2,none⟩) l nr).trans h.c2,(g.turn.cell (p:=⟨rb,3,none⟩) l nr).trans h.c3,(g.turn.frozen (p:=⟨rb,2,none⟩) l nr).trans h.f2,(g.turn.frozen (p:=⟨rb,3,none⟩) l nr).trans h.f3,
  fun i hi=>(g.turn.cell (p:=⟨xb,i,none⟩) lx nx).trans (h.x i hi),fun i hi=>(g.turn.cell (p:=⟨yb,i,none⟩) ly ny).trans (h.y i hi),fun i hi=>(g.turn.frozen (p:=⟨yb,i,none⟩) ly ny).trans (h.fy i hi),fun i hi=>?_,
  h.inj,h.off,h.rx,h.ry,h.xy,h.hr,h.hx,h.hy,h.hd,fun k hk=>g.off (h.lt k hk) (h.dis k hk),fun k hk=>Zu (h.lt k hk) g.turn.size,hl,h.d1,h.d2,h.b,h.wl⟩
 refine(h.dk i hi).grewH g (fun k hk=>Or.inr hk) (h.dis _ (h.hd i hi)) (fun k hk=>?_) (Or.inl (h.hd i hi)) (fun k hk=>?_)
 ·rcases hk with h1|h1
  ·exact Or.inl (Or.inl h1)
  ·rcases g.grow k h1 with h2|h2
   ·exact Or.inl (Or.inr h2)
   ·exact Or.inr h2
 ·rcases hk with h1|h1
  ·exact Zu (h.lt k h1) g.turn.size
  ·exact hl k h1
theorem RaAt.other(h:RaAt w rb HR GA a)(g:Grew GA w GA' w')(hl:∀k,GA' k->k<w'.heap.size):RaAt w' rb HR GA' a:=by
 obtain⟨xb,yb,cx,cy,rd,h,ok⟩:=h;exact⟨xb,yb,cx,cy,rd,h.other g hl,ok⟩
theorem RaAt.dis(h:RaAt w rb HR GA a):∀k,HR k->¬GA k:=by
 obtain⟨xb,yb,cx,cy,rd,h,ok⟩:=h;exact h.dis
theorem ArAt.other{ab:Nat}{a':ArS}(h:ArAt w ab GA a')(hd:∀k,HR k->¬GA k)(t:TurnG HR w w'):ArAt w' ab GA a':=
 h.keep (fun k hk=>t.block k (h.lt k hk) (fun e=>hd k e hk)) t.size
theorem RaM.disk(h:RaM w rb xb yb cx cy rd HR GA a){i:Nat}(hi:i<a.D.length){d':DkS}(hD:RefAt w' (rd i) (fun k=>HR k∨GA k) d')(t:TurnG (fun k=>k=rd i) w w'):
  RaM w' rb xb yb cx cy rd HR GA {a with D:=a.D.set i d'}:=by
 have l:=h.lt rb h.hr;have lx:=h.lt xb h.hx;have ly:=h.lt yb h.hy;obtain⟨o1,o2,o3⟩:=h.off i hi;have nr:¬rb=rd i:=fun e=>o1 e.symm
 have nx:¬xb=rd i:=fun e=>o2 e.symm
 have ny:¬yb=rd i:=fun e=>o3 e.symm
 have hl:(a.D.set i d').length=a.D.length:=Zs
 have up:∀k,HR k∨GA k->k<w.heap.size:=fun k hk=>hk.elim (h.lt k) (h.lg k)
 refine⟨?_,?_,(t.cell (p:=⟨rb,2,none⟩) l nr).trans h.c2,(t.cell (p:=⟨rb,3,none⟩) l nr).trans h.c3,(t.frozen (p:=⟨rb,2,none⟩) l nr).trans h.f2,(t.frozen (p:=⟨rb,3,none⟩) l nr).trans h.f3,
  fun j hj=>(t.cell (p:=⟨xb,j,none⟩) lx nx).trans (h.x j (hl▸hj)),fun j hj=>(t.cell (p:=⟨yb,j,none⟩) ly ny).trans (h.y j (hl▸hj)),fun j hj=>(t.frozen (p:=⟨yb,j,none⟩) ly ny).trans (h.fy j (hl▸hj)),fun j hj=>?_,
  fun j k hj hk=>h.inj j k (hl▸hj) (hl▸hk),fun j hj=>h.off j (hl▸hj),h.rx,h.ry,h.xy,h.hr,h.hx,h.hy,fun j hj=>h.hd j (hl▸hj),h.dis,fun k hk=>Zu (h.lt k hk) t.size,fun k hk=>Zu (h.lg k hk) t.size,?_,?_,?_,h.wl⟩
 ·show _=some (Value.slice _ (a.D.set i d').length _)
  rw[hl];exact(t.cell (p:=⟨rb,0,none⟩) l nr).trans h.c0
 ·show _=some (Value.slice _ (a.D.set i d').length _)
  rw[hl];exact(t.cell (p:=⟨rb,1,none⟩) l nr).trans h.c1
 ·have hj2:j<a.D.length:=hl▸hj
  show RefAt w' (rd j) _ ((a.D.set i d').getD j default)
  rw[getD_set hi]
  by_cases e:j=i
  ·subst e;rw[if_pos rfl];exact hD
  ·rw[if_neg e];refine(h.dk j hj2).grewH (Grew.of_turn t) (fun k hk=>?_) (fun e2=>e (h.inj j i hj2 hi e2)) (fun k hk=>Or.inl hk) (Or.inl (h.hd j hj2)) (fun k hk=>Zu (up k hk) t.size)
   have:k=rd i:=hk
   rw[this];exact Or.inl (h.hd i hi)
 ·show 1<=(a.D.set i d').length
  rw[hl];exact h.d1
 ·show(a.D.set i d').length<=32
  rw[hl];exact h.d2
 ·show a.B.length=(a.D.set i d').length
  rw[hl];exact h.b
theorem RaM.turnD(h:RaM w rb xb yb cx cy rd HR GA a){i:Nat}(hi:i<a.D.length)(t:TurnG (fun k=>k=rd i) w w'):TurnG HR w w':=
 ⟨t.os,t.tape,t.output,t.size,fun k hk hn=>t.block k hk (fun e=>hn (by have e2:k=rd i:=e;rw[e2];exact h.hd i hi))⟩
theorem RaM.own(h:RaM w rb xb yb cx cy rd HR GA a){g j:Nat}{v:Value}(hg:g=rb∨g=yb){i:Nat}(hi:i<a.D.length):RefAt (w.setCell ⟨g,j,none⟩ v) (rd i) (fun k=>HR k∨GA k) (a.D.getD i default):=by
 have t:TurnG (fun k=>k=g) w (w.setCell ⟨g,j,none⟩ v):=setCell_turnG rfl;obtain⟨o1,o2,o3⟩:=h.off i hi;have up:∀k,HR k∨GA k->k<w.heap.size:=fun k hk=>hk.elim (h.lt k) (h.lg k)
 refine(h.dk i hi).grewH (Grew.of_turn t) (fun k hk=>?_) (fun e=>?_) (fun k hk=>Or.inl hk) (Or.inl (h.hd i hi)) (fun k hk=>Zu (up k hk) t.size)
 ·have:k=g:=hk
  rw[this]
  rcases hg with e|e
  ·rw[e];exact Or.inl h.hr
  ·rw[e];exact Or.inl h.hy
 ·have e2:rd i=g:=e
  rcases hg with e3|e3
  ·exact o1 (e2.trans e3)
  ·exact o3 (e2.trans e3)
theorem RaM.setLeft(h:RaM w rb xb yb cx cy rd HR GA a){l:Int}(hl:(Lit.int .i64 l).wf=true):RaM (w.setCell ⟨rb,2,none⟩ (.int .i64 l)) rb xb yb cx cy rd HR GA {a with left:=l}:=by
 have hb:∀k,k≠rb->(w.setCell ⟨rb,2,none⟩ (.int .i64 l)).heap[k]? =w.heap[k]? :=fun k hk=>Below.heap_setCell w ⟨rb,2,none⟩ _ k hk
 have hx:=hb xb h.rx.symm;have hy:=hb yb h.ry.symm;refine⟨(cell_set_ne w _ Zd).trans h.c0,(cell_set_ne w _ Zd).trans h.c1,cell_set_eq _ h.c2,(cell_set_ne w _ Zd).trans h.c3,(frozen_set w _).trans h.f2,(frozen_set w _).trans h.f3,
  fun i hi=>(Zc (w:=w) hx).trans (h.x i hi),fun i hi=>(Zc (w:=w) hy).trans (h.y i hi),fun i hi=>(World.frozen?_of_block (w:=w) hy).trans (h.fy i hi),fun i hi=>h.own (Or.inl rfl) hi,
  h.inj,h.off,h.rx,h.ry,h.xy,h.hr,h.hx,h.hy,h.hd,h.dis,fun k hk=>by simpa using h.lt k hk,fun k hk=>by simpa using h.lg k hk,h.d1,h.d2,h.b,hl⟩
theorem RaM.setOff(h:RaM w rb xb yb cx cy rd HR GA a)(z:Bool):RaM (w.setCell ⟨rb,3,none⟩ (.bool z)) rb xb yb cx cy rd HR GA {a with off:=z}:=by
 have hb:∀k,k≠rb->(w.setCell ⟨rb,3,none⟩ (.bool z)).heap[k]? =w.heap[k]? :=fun k hk=>Below.heap_setCell w ⟨rb,3,none⟩ _ k hk
 have hx:=hb xb h.rx.symm;have hy:=hb yb h.ry.symm;refine⟨(cell_set_ne w _ Zd).trans h.c0,(cell_set_ne w _ Zd).trans h.c1,(cell_set_ne w _ Zd).trans h.c2,cell_set_eq _ h.c3,(frozen_set w _).trans h.f2,(frozen_set w _).trans h.f3,
  fun i hi=>(Zc (w:=w) hx).trans (h.x i hi),fun i hi=>(Zc (w:=w) hy).trans (h.y i hi),fun i hi=>(World.frozen?_of_block (w:=w) hy).trans (h.fy i hi),fun i hi=>h.own (Or.inl rfl) hi,
  h.inj,h.off,h.rx,h.ry,h.xy,h.hr,h.hx,h.hy,h.hd,h.dis,fun k hk=>by simpa using h.lt k hk,fun k hk=>by simpa using h.lg k hk,h.d1,h.d2,h.b,h.wl⟩
theorem RaM.setBorn(h:RaM w rb xb yb cx cy rd HR GA a){i:Nat}(hi:i<a.D.length)(z:Int):RaM (w.setCell ⟨yb,i,none⟩ (.int .i64 z)) rb xb yb cx cy rd HR GA {a with B:=a.B.set i z}:=by
 have hb:∀k,k≠yb->(w.setCell ⟨yb,i,none⟩ (.int .i64 z)).heap[k]? =w.heap[k]? :=fun k hk=>Below.heap_setCell w ⟨yb,i,none⟩ _ k hk
 have hx:=hb xb h.xy;have hr:=hb rb h.ry;have hB:i<a.B.length:=by rw[h.b];exact hi
 refine⟨(Zc (w:=w) hr).trans h.c0,(Zc (w:=w) hr).trans h.c1,(Zc (w:=w) hr).trans h.c2,(Zc (w:=w) hr).trans h.c3,(World.frozen?_of_block (w:=w) hr).trans h.f2,(World.frozen?_of_block (w:=w) hr).trans h.f3,
  fun j hj=>(Zc (w:=w) hx).trans (h.x j hj),fun j hj=>?_,fun j hj=>(frozen_set w _).trans (h.fy j hj),fun j hj=>h.own (Or.inr rfl) hj,
  h.inj,h.off,h.rx,h.ry,h.xy,h.hr,h.hx,h.hy,h.hd,h.dis,fun k hk=>by simpa using h.lt k hk,fun k hk=>by simpa using h.lg k hk,h.d1,h.d2,?_,h.wl⟩
 ·show _=some (Value.int .i64 ((a.B.set i z).getD j 0))
  rw[getD_set hB]
  by_cases e:j=i
  ·subst e;rw[if_pos rfl];exact cell_set_eq _ (h.y j hj)
  ·rw[if_neg e,cell_set_ne w _ e];exact h.y j hj
 ·show(a.B.set i z).length=_
  simp;exact h.b
end
section
variable {w:World} {rb:Nat} {HR GA:Nat->Prop} {a:ArS}
theorem z24_4{p:Prop} (h:p:=by
 subst hx
 go_enter Tryz.func111,Tryz.ntmps111
 go_wp2;go_ret;exact⟨rfl,rfl⟩
 ):p:=h
theorem rthereA_any{xb n c:Nat}(c0:w.cell? ⟨rb,0,none⟩=some (.slice (some ⟨xb,0,none⟩) n c)){i:Int}{x:Bool}(hx:decide (0<=i/\i<(n:Int))=x):Calls Tryz.prog 111 #[.pointer (some ⟨rb,0,none⟩),.int .i64 i] w fun e w'=>e= .returned (.bool x)/\w'=w:=by
 by_cases h0:i>=0
 ·by_cases h1:i<(n:Int)
  ·rw[Zy ⟨h0,h1⟩]at hx;exact z24_4
  ·rw[Zx (fun h=>h1 h.2)]at hx;exact z24_4
 ·rw[Zx (fun h=>h0 h.1)]at hx;exact z24_4
theorem Rd.nilR{w:World}:Rd w (.slice none 0 0) []:=by
 obtain⟨p,e,hp⟩:=rd_row (w:=w) (a:=none) (len:=0) (cap:=0) (zs:=[]) (Or.inl ⟨rfl,rfl,rfl,rfl⟩)
 have:p=[]:=List.length_eq_zero_iff.1 (by simpa using e.symm)
 rw[this]at hp;exact hp
theorem staysR{a':ArS}(h:RaAt w rb HR GA a)(e:a'=a):RaAt w rb HR GA a'/\TurnG HR w w:=⟨by rw[e];exact h,TurnG.refl _ _⟩
theorem z24_5{p:Prop} (h:p:=by
 clear M1 M2 eT h ok ok2 h0 t1
 go_enter Tryz.func77,Tryz.ntmps77
 go_wp2
 go_end0
 exact⟨rfl,FIN.out⟩
 ):p:=h
theorem rafter_any(h:RaAt w rb HR GA a){n:Int}(hn:(Lit.int .i64 n).wf=true):Calls Tryz.prog 77 #[.pointer (some ⟨rb,0,none⟩),.int .i64 n] w (LeavesRA w rb HR GA (caA a n) (.tuple #[])):=by
 have h0:=h;obtain⟨xb,yb,cx,cy,rd,h,ok⟩:=h;have c2:=h.c2;have c3:=h.c3;have f2:=h.f2;have f3:=h.f3;cases ho:a.off with
 |true=>
  have FIN:Hid (RaAt w rb HR GA (caA a n)/\TurnG HR w w):=staysR h0 (if_pos ho);rw[ho]at c3;clear h ok h0
  go_enter Tryz.func77,Tryz.ntmps77
  go_wp2;refine bodyPost_ret (v:=.tuple #[]) (by simp[results,Tryz.results77,go_sem]) rfl ?_
  exact⟨rfl,FIN.out⟩
 |false=>
  have eT:caA a n={{a with left:=if 0<=n then n else-1}with off:=decide (n=0)}:=if_neg (by rw[ho];simp);have ok2:=caA_ok ok n;rw[eT]at ok2;rw[ho]at c3;have q2:(n==0)=decide (n=0):=by by_cases e:n=0<;>simp[e]
  have M1:=h.setLeft (l:= -1) Zd;have t1:TurnG HR w (w.setCell ⟨rb,2,none⟩ (.int .i64 (-1))):=setCell_turnG h.hr
  by_cases hge:n>=0
  ·have M2:=(M1.setLeft (l:=n) hn).setOff (decide (n=0));have FIN:Hid (RaAt (((w.setCell ⟨rb,2,none⟩ (.int .i64 (-1))).setCell ⟨rb,2,none⟩ (.int .i64 n)).setCell ⟨rb,3,none⟩ (.bool (decide (n=0)))) rb HR GA (caA a n)/\TurnG HR w (((w.setCell ⟨rb,2,none⟩ (.int .i64 (-1))).setCell ⟨rb,2,none⟩ (.int .i64 n)).setCell ⟨rb,3,none⟩ (.bool (decide (n=0))))):=by
    rw[eT];rw[if_pos hge]at ok2 ⊢;exact⟨⟨xb,yb,cx,cy,rd,M2,ok2⟩,(t1.trans (setCell_turnG h.hr)).trans (setCell_turnG h.hr)⟩
   exact z24_5
  ·have M2:=M1.setOff (decide (n=0));have FIN:Hid (RaAt ((w.setCell ⟨rb,2,none⟩ (.int .i64 (-1))).setCell ⟨rb,3,none⟩ (.bool (decide (n=0)))) rb HR GA (caA a n)/\TurnG HR w ((w.setCell ⟨rb,2,none⟩ (.int .i64 (-1))).setCell ⟨rb,3,none⟩ (.bool (decide (n=0))))):=by
    rw[eT];rw[if_neg hge]at ok2 ⊢;exact⟨⟨xb,yb,cx,cy,rd,M2,ok2⟩,t1.trans (setCell_turnG h.hr)⟩
   exact z24_5
theorem z24_1{p:Prop} (h:p:=by
 go_wp2_with fail
 refine KT.mono ?_
 rintro _ wq ⟨rfl,hwq⟩;rw[hwq];clear hwq wq KT;go_wp2;go_ret;exact⟨rfl,FIN.out⟩
 ):p:=h
theorem rwriteA_any(h:RaAt w rb HR GA a){i ad:Int}{v:Value}{p:List UInt8}(hp:Rd w v p):
  Calls Tryz.prog 71 #[.pointer (some ⟨rb,0,none⟩),.int .i64 i,.int .i64 ad,v] w (LeavesRA w rb HR GA (wrAS a i ad p) (.int .i64 (wrAX a i ad p))):=by
 have h0:=h;obtain⟨xb,yb,cx,cy,rd,hM,ok⟩:=h;obtain⟨va,vc,rfl⟩:=hp.form;have c3:=hM.c3;cases ho:a.off with
 |true=>
  rw[ho]at c3;rw[show wrAX a i ad p=130 from if_pos ho];have FIN:Hid (RaAt w rb HR GA (wrAS a i ad p)/\TurnG HR w w):=staysR h0 (if_pos ho);clear h0 hM ok
  go_enter Tryz.func71,Tryz.ntmps71
  go_wp2;go_ret;exact⟨rfl,FIN.out⟩
 |false=>
  have no:¬a.off=true:=by rw[ho];simp
  have c0:=hM.c0;rw[ho]at c3
  by_cases ht:thA a i
  ·have KT:=rthereA_any (i:=i) c0 (Zy ht);have eX:wrAX a i ad p=wrX (diA a i) ad p:=by unfold wrAX;rw[if_neg no,if_pos ht]
   have eS:wrAS a i ad p=if wrX (diA a i) ad p=0 then tickA (setA a i (wrS (diA a i) ad p))else a:=by unfold wrAS;rw[if_neg no,if_pos ht]
   have okS:=wrAS_ok ok i ad p;obtain⟨j,rfl,hj⟩:=th_at ht;have hj':(j:Int)<(a.D.length:Int):=Zo
   have x0:=hM.x j hj;obtain⟨vl,vw,Tl,Tw,hI⟩:=hM.dk j hj;have KW:=rwrite_any hI (a:=ad) hp;rw[eX,eS];rw[eS]at okS;rw[show diA a (j:Int)=a.D.getD j default from rfl]at okS ⊢;clear eX eS hI;obtain⟨d,hd⟩:∃d,d=a.D.getD j default:=⟨_,rfl⟩;rw[<-hd]at KW okS ⊢
   by_cases hx:wrX d ad p=0
   ·rw[hx]at KW ⊢;rw[if_pos rfl];rw[hx,if_pos rfl]at okS
    by_cases hl:0<a.left
    ·have hl':a.left>0:=hl;have wb:=bounds_i64 hM.wl;have hwf:(Lit.int .i64 (a.left-1)).wf=true:=by simp[Lit.wf,IntKind.min,IntKind.max,IntKind.signed,IntKind.bits];omega
     have gl:IntKind.i64.wrap (a.left-1)=a.left-1:=Zw
     have q2:(a.left-1==0)=decide (a.left-1=0):=by by_cases e:a.left-1=0<;>simp[e]
     have eT:tickA (setA a (j:Int) (wrS d ad p))={{setA a (j:Int) (wrS d ad p)with left:=a.left-1}with off:=decide (a.left-1=0)}:=if_pos hl
     go_enter Tryz.func71,Tryz.ntmps71
     go_wp2_with fail
     refine KT.mono ?_
     rintro _ wq ⟨rfl,hwq⟩;rw[hwq];clear hwq wq KT
     go_wp2_with fail
     refine KW.mono ?_
     rintro _ w1 ⟨rfl,R1,t1⟩;have M1:=hM.disk hj R1 t1;have d2:w1.cell? ⟨rb,2,none⟩=some (.int .i64 a.left):=M1.c2;have d3:=M1.c3;have e2:=M1.f2;have e3:=M1.f3;have M2:=(M1.setLeft hwf).setOff (decide (a.left-1=0));have F2:Hid (RaAt ((w1.setCell ⟨rb,2,none⟩ (.int .i64 (a.left-1))).setCell ⟨rb,3,none⟩ (.bool (decide (a.left-1=0)))) rb HR GA (tickA (setA a (j:Int) (wrS d ad p)))/\TurnG HR w ((w1.setCell ⟨rb,2,none⟩ (.int .i64 (a.left-1))).setCell ⟨rb,3,none⟩ (.bool (decide (a.left-1=0))))):=by
      rw[eT]at okS ⊢;exact⟨⟨xb,yb,cx,cy,rd,M2,okS⟩,((hM.turnD hj t1).trans (setCell_turnG hM.hr)).trans (setCell_turnG hM.hr)⟩
     clear M1 M2 R1 t1 KW hM ok h0 okS c0 c3 x0 hp hd eT hwf wb hl;go_wp2;go_ret;exact⟨rfl,F2.out⟩
    ·have hl':¬a.left>0:=hl;have eT:tickA (setA a (j:Int) (wrS d ad p))=setA a (j:Int) (wrS d ad p):=if_neg hl
     go_enter Tryz.func71,Tryz.ntmps71
     go_wp2_with fail
     refine KT.mono ?_
     rintro _ wq ⟨rfl,hwq⟩;rw[hwq];clear hwq wq KT
     go_wp2_with fail
     refine KW.mono ?_
     rintro _ w1 ⟨rfl,R1,t1⟩;have M1:=hM.disk hj R1 t1;have d2:w1.cell? ⟨rb,2,none⟩=some (.int .i64 a.left):=M1.c2;have F2:Hid (RaAt w1 rb HR GA (tickA (setA a (j:Int) (wrS d ad p)))/\TurnG HR w w1):=by
      rw[eT]at okS ⊢;exact⟨⟨xb,yb,cx,cy,rd,M1,okS⟩,hM.turnD hj t1⟩
     clear M1 R1 t1 KW hM ok h0 okS c0 c3 x0 hp hd eT hl;go_wp2;go_ret;exact⟨rfl,F2.out⟩
   ·rw[if_neg hx];have eQ:wrS d ad p=d:=wrS_no hx;rw[eQ]at KW;obtain⟨x,hxx⟩:∃x,x=wrX d ad p:=⟨_,rfl⟩;rw[<-hxx]at KW hx ⊢;have q1:(x==0)=false:=Zq.2 hx
    go_enter Tryz.func71,Tryz.ntmps71
    go_wp2_with fail
    refine KT.mono ?_
    rintro _ wq ⟨rfl,hwq⟩;rw[hwq];clear hwq wq KT
    go_wp2_with fail
    refine KW.mono ?_
    rintro _ w1 ⟨rfl,R1,t1⟩;have M1:=hM.disk hj R1 t1;have F2:Hid (RaAt w1 rb HR GA a/\TurnG HR w w1):=⟨⟨xb,yb,cx,cy,rd,by
     have e2:({a with D:=a.D.set j d}:ArS)=a:=by rw[hd];exact setA_same hj
     rw[e2]at M1;exact M1,ok⟩,hM.turnD hj t1⟩
    clear M1 R1 t1 KW hM ok h0 okS c0 c3 x0 hp hd hxx eQ;go_wp2;go_ret;exact⟨rfl,F2.out⟩
  ·have KT:=rthereA_any (i:=i) c0 (Zx ht);rw[show wrAX a i ad p=1 by unfold wrAX;rw[if_neg no,if_neg ht]];have FIN:Hid (RaAt w rb HR GA (wrAS a i ad p)/\TurnG HR w w):=staysR h0 (by unfold wrAS;rw[if_neg no,if_neg ht]);clear h0 hM ok c0
   go_enter Tryz.func71,Tryz.ntmps71
   exact z24_1
theorem rreadA_far(h:RaAt w rb HR GA a){i ad:Int}:
  Calls Tryz.prog 73 #[.pointer (some ⟨rb,0,none⟩),.int .i64 i,.int .i64 ad] w (TellsF w (rdAX a i ad) (rdAB a i ad)):=by
 obtain⟨xb,yb,cx,cy,rd,hM,ok⟩:=h;have c3:=hM.c3;cases ho:a.off with
 |true=>
  rw[ho]at c3;rw[show rdAX a i ad=130 from if_pos ho,show rdAB a i ad=[]from if_pos ho];clear hM ok
  go_enter Tryz.func73,Tryz.ntmps73
  go_wp2;refine bodyPost_ret (v:=.tuple #[.slice none 0 0,.int .i64 130]) (by simp[results,Tryz.results73,go_sem]) rfl ?_
  exact⟨_,rfl,Rd.nilR,FarV.nil _ _ _,Zf⟩
 |false=>
  have no:¬a.off=true:=by rw[ho];simp
  have c0:=hM.c0;rw[ho]at c3
  by_cases ht:thA a i
  ·have KT:=rthereA_any (i:=i) c0 (Zy ht);rw[show rdAX a i ad=faX (diA a i) ad by unfold rdAX;rw[if_neg no,if_pos ht],show rdAB a i ad=rdB (diA a i) ad by unfold rdAB;rw[if_neg no,if_pos ht]];obtain⟨j,rfl,hj⟩:=th_at ht;have hj':(j:Int)<(a.D.length:Int):=by omega
   have x0:=hM.x j hj;obtain⟨vl,vw,Tl,Tw,hI⟩:=hM.dk j hj;have KR:=rread_far hI (ok.each _ (di_mem (th_j hj))) (a:=ad);rw[show diA a (j:Int)=a.D.getD j default from rfl];obtain⟨x,hx⟩:∃x,x=faX (a.D.getD j default) ad:=⟨_,rfl⟩;obtain⟨r,hr⟩:∃r,r=rdB (a.D.getD j default) ad:=⟨_,rfl⟩;rw[<-hx,<-hr]at KR ⊢;clear hM ok hx hr ht hI
   go_enter Tryz.func73,Tryz.ntmps73
   go_wp2_with fail
   refine KT.mono ?_
   rintro _ wq ⟨rfl,hwq⟩;rw[hwq];clear hwq wq KT
   go_wp2_with fail
   refine KR.mono ?_
   rintro _ w1 ⟨v,rfl,O1,V1,B1⟩;go_wp2;refine bodyPost_ret (v:=.tuple #[v,.int .i64 x]) (by simp[results,Tryz.results73,go_sem]) rfl ?_
   exact⟨_,rfl,O1,V1,B1⟩
  ·have KT:=rthereA_any (i:=i) c0 (Zx ht);rw[show rdAX a i ad=1 by unfold rdAX;rw[if_neg no,if_neg ht],show rdAB a i ad=[] by unfold rdAB;rw[if_neg no,if_neg ht]];clear hM ok c0
   go_enter Tryz.func73,Tryz.ntmps73
   go_wp2_with fail
   refine KT.mono ?_
   rintro _ wq ⟨rfl,hwq⟩;rw[hwq];clear hwq wq KT;go_wp2;refine bodyPost_ret (v:=.tuple #[.slice none 0 0,.int .i64 1]) (by simp[results,Tryz.results73,go_sem]) rfl ?_
   exact⟨_,rfl,Rd.nilR,FarV.nil _ _ _,Zf⟩
theorem rreadA_any(h:RaAt w rb HR GA a){i ad:Int}:
  Calls Tryz.prog 73 #[.pointer (some ⟨rb,0,none⟩),.int .i64 i,.int .i64 ad] w (TellsR w (rdAX a i ad) (rdAB a i ad)):=(rreadA_far h).mono fun _ _ h=>h.r
end
section
variable {w:World} {rb:Nat} {HR GA:Nat->Prop} {a:ArS}
theorem z24_3{p:Prop} (h:p:=by
 obtain⟨z,hz⟩:∃z,z=a.B.getD j 0:=⟨_,rfl⟩;rw[<-hz]at y1 FIN;obtain⟨z1,gz⟩:∃z1,IntKind.i64.wrap (z+1)=z1:=⟨_,rfl⟩;rw[gz]at FIN;clear M1 M2 R1 t1 KW hM ok h0 okS c0 x0 hd hj1 hz hl1;go_wp2;go_ret;exact⟨rfl,FIN.out⟩
 ):p:=h
theorem rfailA_any(h:RaAt w rb HR GA a){i:Int}:
  Calls Tryz.prog 80 #[.pointer (some ⟨rb,0,none⟩),.int .i64 i] w (LeavesRA w rb HR GA (faAS a i) (.int .i64 (thX a i))):=by
 have h0:=h;obtain⟨xb,yb,cx,cy,rd,hM,ok⟩:=h;have c0:=hM.c0
 by_cases ht:thA a i
 ·have KT:=rthereA_any (i:=i) c0 (Zy ht);have okS:=faAS_ok ok i;have eS:faAS a i=bornA (setA a i (faS (diA a i))) i:=if_pos ht;rw[show thX a i=0 from if_pos ht];rw[eS]at okS ⊢;obtain⟨j,rfl,hj⟩:=th_at ht;have hj':(j:Int)<(a.D.length:Int):=by omega
  have x0:=hM.x j hj;obtain⟨vl,vw,Tl,Tw,hI⟩:=hM.dk j hj;have KW:=rfail_any hI;rw[show diA a (j:Int)=a.D.getD j default from rfl]at okS ⊢;clear hI;obtain⟨d,hd⟩:∃d,d=a.D.getD j default:=⟨_,rfl⟩;rw[<-hd]at KW okS ⊢
  go_enter Tryz.func80,Tryz.ntmps80
  go_wp2_with fail
  refine KT.mono ?_
  rintro _ wq ⟨rfl,hwq⟩;rw[hwq];clear hwq wq KT
  go_wp2_with fail
  refine KW.mono ?_
  rintro _ w1 ⟨rfl,R1,t1⟩;have M1:=hM.disk hj R1 t1;have hl1:(a.D.set j (faS d)).length=a.D.length:=Zs
  have hj1:j<(a.D.set j (faS d)).length:=by rw[hl1];exact hj
  have d1:w1.cell? ⟨rb,1,none⟩=some (.slice (some ⟨yb,0,none⟩) a.D.length cy):=by have:=M1.c1;rw[show({a with D:=a.D.set j (faS d)}:ArS).D.length=a.D.length from hl1]at this;exact this
  have y1:w1.cell? ⟨yb,j,none⟩=some (.int .i64 (a.B.getD j 0)):=M1.y j hj1;have fy:=M1.fy j hj1;have M2:=M1.setBorn hj1 (IntKind.i64.wrap (a.B.getD j 0+1));have FIN:Hid (RaAt (w1.setCell ⟨yb,j,none⟩ (.int .i64 (IntKind.i64.wrap (a.B.getD j 0+1)))) rb HR GA (bornA (setA a (j:Int) (faS d)) (j:Int))/\TurnG HR w (w1.setCell ⟨yb,j,none⟩ (.int .i64 (IntKind.i64.wrap (a.B.getD j 0+1))))):=
   ⟨⟨xb,yb,cx,cy,rd,M2,okS⟩,(hM.turnD hj t1).trans (setCell_turnG hM.hy)⟩
  exact z24_3
 ·have KT:=rthereA_any (i:=i) c0 (Zx ht);rw[show thX a i=1 from if_neg ht];have FIN:Hid (RaAt w rb HR GA (faAS a i)/\TurnG HR w w):=staysR h0 (if_neg ht);clear h0 hM ok c0
  go_enter Tryz.func80,Tryz.ntmps80
  exact z24_1
theorem rreplA_any(h:RaAt w rb HR GA a){i:Int}:
  Calls Tryz.prog 81 #[.pointer (some ⟨rb,0,none⟩),.int .i64 i] w (LeavesRA w rb HR GA (rpAS a i) (.int .i64 (thX a i))):=by
 have h0:=h;obtain⟨xb,yb,cx,cy,rd,hM,ok⟩:=h;have c0:=hM.c0
 by_cases ht:thA a i
 ·have KT:=rthereA_any (i:=i) c0 (Zy ht);have okS:=rpAS_ok ok i;have eS:rpAS a i=bornA (setA a i (reS (diA a i))) i:=if_pos ht;rw[show thX a i=0 from if_pos ht];rw[eS]at okS ⊢;obtain⟨j,rfl,hj⟩:=th_at ht;have hj':(j:Int)<(a.D.length:Int):=by omega
  have x0:=hM.x j hj;obtain⟨vl,vw,Tl,Tw,hI⟩:=hM.dk j hj;have KW:=rrepl_any hI;rw[show diA a (j:Int)=a.D.getD j default from rfl]at okS ⊢;clear hI;obtain⟨d,hd⟩:∃d,d=a.D.getD j default:=⟨_,rfl⟩;rw[<-hd]at KW okS ⊢
  go_enter Tryz.func81,Tryz.ntmps81
  go_wp2_with fail
  refine KT.mono ?_
  rintro _ wq ⟨rfl,hwq⟩;rw[hwq];clear hwq wq KT
  go_wp2_with fail
  refine KW.mono ?_
  rintro _ w1 ⟨rfl,R1,t1⟩;have M1:=hM.disk hj R1 t1;have hl1:(a.D.set j (reS d)).length=a.D.length:=Zs
  have hj1:j<(a.D.set j (reS d)).length:=by rw[hl1];exact hj
  have d1:w1.cell? ⟨rb,1,none⟩=some (.slice (some ⟨yb,0,none⟩) a.D.length cy):=by have:=M1.c1;rw[show({a with D:=a.D.set j (reS d)}:ArS).D.length=a.D.length from hl1]at this;exact this
  have y1:w1.cell? ⟨yb,j,none⟩=some (.int .i64 (a.B.getD j 0)):=M1.y j hj1;have fy:=M1.fy j hj1;have M2:=M1.setBorn hj1 (IntKind.i64.wrap (a.B.getD j 0+1));have FIN:Hid (RaAt (w1.setCell ⟨yb,j,none⟩ (.int .i64 (IntKind.i64.wrap (a.B.getD j 0+1)))) rb HR GA (bornA (setA a (j:Int) (reS d)) (j:Int))/\TurnG HR w (w1.setCell ⟨yb,j,none⟩ (.int .i64 (IntKind.i64.wrap (a.B.getD j 0+1))))):=
   ⟨⟨xb,yb,cx,cy,rd,M2,okS⟩,(hM.turnD hj t1).trans (setCell_turnG hM.hy)⟩
  exact z24_3
 ·have KT:=rthereA_any (i:=i) c0 (Zx ht);rw[show thX a i=1 from if_neg ht];have FIN:Hid (RaAt w rb HR GA (rpAS a i)/\TurnG HR w w):=staysR h0 (if_neg ht);clear h0 hM ok c0
  go_enter Tryz.func81,Tryz.ntmps81
  exact z24_1
theorem rcorrA_any(h:RaAt w rb HR GA a){i ad at_:Int}(hat:(Lit.int .i64 at_).wf=true)(y:UInt8):
  Calls Tryz.prog 82 #[.pointer (some ⟨rb,0,none⟩),.int .i64 i,.int .i64 ad,.int .i64 at_,.int .u8 ((y.toNat:Nat):Int)] w (LeavesRA w rb HR GA (coAS a i ad at_ y) (.int .i64 (coAX a i ad))):=by
 have h0:=h;obtain⟨xb,yb,cx,cy,rd,hM,ok⟩:=h;have c0:=hM.c0
 by_cases ht:thA a i
 ·have KT:=rthereA_any (i:=i) c0 (Zy ht);have okS:=coAS_ok ok i ad at_ y;have eS:coAS a i ad at_ y=setA a i (coS (diA a i) ad at_ y):=if_pos ht;rw[show coAX a i ad=coX (diA a i) ad from if_pos ht];rw[eS]at okS ⊢;obtain⟨j,rfl,hj⟩:=th_at ht;have hj':(j:Int)<(a.D.length:Int):=by omega
  have x0:=hM.x j hj;obtain⟨vl,vw,Tl,Tw,hI⟩:=hM.dk j hj;have KW:=rcorr_any hI (ok.each _ (di_mem (th_j hj))) (a:=ad) hat y;rw[show diA a (j:Int)=a.D.getD j default from rfl]at okS ⊢;obtain⟨x,hx⟩:∃x,x=coX (a.D.getD j default) ad:=⟨_,rfl⟩;rw[<-hx]at KW ⊢;clear hI hx;obtain⟨d,hd⟩:∃d,d=a.D.getD j default:=⟨_,rfl⟩;rw[<-hd]at KW okS ⊢
  go_enter Tryz.func82,Tryz.ntmps82
  go_wp2_with fail
  refine KT.mono ?_
  rintro _ wq ⟨rfl,hwq⟩;rw[hwq];clear hwq wq KT
  go_wp2_with fail
  refine KW.mono ?_
  rintro _ w1 ⟨rfl,R1,t1⟩;have M1:=hM.disk hj R1 t1;have FIN:Hid (RaAt w1 rb HR GA (setA a (j:Int) (coS d ad at_ y))/\TurnG HR w w1):=⟨⟨xb,yb,cx,cy,rd,M1,okS⟩,hM.turnD hj t1⟩;clear M1 R1 t1 KW hM ok h0 okS c0 x0 hd;go_wp2;go_ret;exact⟨rfl,FIN.out⟩
 ·have KT:=rthereA_any (i:=i) c0 (Zx ht);rw[show coAX a i ad=1 from if_neg ht];have FIN:Hid (RaAt w rb HR GA (coAS a i ad at_ y)/\TurnG HR w w):=staysR h0 (if_neg ht);clear h0 hM ok c0
  go_enter Tryz.func82,Tryz.ntmps82
  exact z24_1
theorem okF{a:ArS}(ok:a.Ok){j:Nat}(hj:j<a.D.length):(a.D.getD j default).Ok:=ok.each _ (di_mem (th_j hj))
theorem rflushA_any(h:RaAt w rb HR GA a):Calls Tryz.prog 75 #[.pointer (some ⟨rb,0,none⟩)] w (LeavesRA w rb HR GA (flAS a) (.int .i64 (flAX a))):=by
 have h0:=h;obtain⟨xb,yb,cx,cy,rd,hM,ok⟩:=h;have c3:=hM.c3;cases ho:a.off with
 |true=>
  rw[ho]at c3;rw[show flAX a=130 from if_pos ho];have FIN:Hid (RaAt w rb HR GA (flAS a)/\TurnG HR w w):=staysR h0 (if_pos ho);clear h0 hM ok
  go_enter Tryz.func75,Tryz.ntmps75
  go_wp2;go_ret;exact⟨rfl,FIN.out⟩
 |false=>
  have no:¬a.off=true:=by rw[ho];simp
  rw[ho]at c3;rw[show flAX a=0 from if_neg no];have okS:=flAS_ok ok;have eS:flAS a={a with D:=a.D.mapIdx (fun _ d=>flS d)}:=by
   unfold flAS;rw[if_neg no];congr 1;apply List.ext_getElem Zs;intro i h1 h2;simp
  have START:Hid (RaM w rb xb yb cx cy rd HR GA {a with D:=firstF (fun _ d=>flS d) a.D 0}/\TurnG HR w w):=⟨by rw[firstF_zero];exact hM,TurnG.refl _ _⟩;have FINI:Hid (∀wr,RaM wr rb xb yb cx cy rd HR GA {a with D:=firstF (fun _ d=>flS d) a.D a.D.length}->TurnG HR w wr->RaAt wr rb HR GA (flAS a)/\TurnG HR w wr):=fun wr hM' t'=>by
   rw[firstF_all]at hM';exact⟨⟨xb,yb,cx,cy,rd,by rw[eS];exact hM',okS⟩,t'⟩
  have hd2:=hM.d2;clear h0 hM eS okS
  go_enter Tryz.func75,Tryz.ntmps75
  go_wp2
  go_loopw [3] (fun i wr=>∃k:Nat,k<=a.D.length/\i= .int .i64 (k:Int)/\RaM wr rb xb yb cx cy rd HR GA {a with D:=firstF (fun _ d=>flS d) a.D k}/\TurnG HR w wr) (fun i _=>a.D.length-(intOf i).toNat)
  case atStart=>exact⟨0,Zz,rfl,START.out⟩
  case round=>
   clear START;obtain⟨k,hk,rfl,hM,hT⟩:=hrel;have hfl:({a with D:=firstF (fun _ d=>flS d) a.D k}:ArS).D.length=a.D.length:=firstF_len;have c0:=hM.c0;rw[hfl]at c0
   by_cases hlt:k<a.D.length
   ·have hlt':(k:Int)<(a.D.length:Int):=by omega
    have g1:IntKind.i64.wrap ((k:Int)+1)=((k+1:Nat):Int):=Zw
    have hk2:k<(firstF (fun _ d=>flS d) a.D k).length:=by rw[firstF_len];exact hlt
    have x0:=hM.x k hk2;obtain⟨vl,vw,Tl,Tw,hI⟩:=hM.dk k hk2;have hsu:(firstF (fun _ d=>flS d) a.D k).set k (flS (a.D.getD k default))=firstF (fun _ d=>flS d) a.D (k+1):=firstF_succ (f:=fun _ d=>flS d) hlt;have hat:({a with D:=firstF (fun _ d=>flS d) a.D k}:ArS).D.getD k default=a.D.getD k default:=firstF_at hlt;rw[hat]at hI;have KF:=rflush_any hI (okF ok hlt);obtain⟨d,hd⟩:∃d,d=a.D.getD k default:=⟨_,rfl⟩;rw[<-hd]at KF hsu;clear hI hat hd
    go_wp2_with fail
    refine KF.mono ?_
    rintro _ w1 ⟨rfl,R1,t1⟩;have M1:=hM.disk hk2 R1 t1;have E2:Hid (RaM w1 rb xb yb cx cy rd HR GA {a with D:=firstF (fun _ d=>flS d) a.D (k+1)}/\TurnG HR w w1):=by
     rw[<-hsu];exact⟨M1,hT.trans (hM.turnD hk2 t1)⟩
    clear hM hT hsu hk2 M1 R1 t1 KF x0 c0 hfl;exact z24_2
   ·have hlt':¬(k:Int)<(a.D.length:Int):=by omega
    have hkn:k=a.D.length:=Zo
    rw[hkn]at hM;have E2:Hid (RaAt wr rb HR GA (flAS a)/\TurnG HR w wr):=FINI.out wr hM hT;clear hM hT FINI hfl;go_wp2;go_ret;exact⟨rfl,E2.out⟩
theorem rrestartA_any(h:RaAt w rb HR GA a){v:Value}{K:List VI}(hK:ToldII w HR v K)(hs:∀r∈K,r.2.length<=9223372036854775807):Calls Tryz.prog 79 #[.pointer (some ⟨rb,0,none⟩),v] w (LeavesRA w rb HR GA (reAS a (K.map (·.2))) (.tuple #[])):=by
 obtain⟨xb,yb,cx,cy,rd,hM,ok⟩:=h;obtain⟨va,vc,rfl⟩:=hK.rd.form;have okS:=reAS_ok ok (K.map (·.2));have START:Hid (RaM w rb xb yb cx cy rd HR GA {a with D:=firstF (reF K) a.D 0}/\TurnG HR w w):=⟨by rw[firstF_zero];exact hM,TurnG.refl _ _⟩;have FINI:Hid (∀wr,RaM wr rb xb yb cx cy rd HR GA {a with D:=firstF (reF K) a.D a.D.length}->TurnG HR w wr->RaAt ((wr.setCell ⟨rb,3,none⟩ (.bool false)).setCell ⟨rb,2,none⟩ (.int .i64 (-1))) rb HR GA (reAS a (K.map (·.2)))/\TurnG HR w ((wr.setCell ⟨rb,3,none⟩ (.bool false)).setCell ⟨rb,2,none⟩ (.int .i64 (-1)))):=fun wr hM' t'=>by
  rw[firstF_all]at hM';have M2:=(hM'.setOff false).setLeft (l:= -1) Zd;exact⟨⟨xb,yb,cx,cy,rd,M2,okS⟩,(t'.trans (setCell_turnG hM'.hr)).trans (setCell_turnG hM'.hr)⟩
 have hd2:=hM.d2;clear hM okS
 go_enter Tryz.func79,Tryz.ntmps79
 go_wp2
 go_loopw [4] (fun i wr=>∃k:Nat,k<=a.D.length/\i= .int .i64 (k:Int)/\RaM wr rb xb yb cx cy rd HR GA {a with D:=firstF (reF K) a.D k}/\TurnG HR w wr) (fun i _=>a.D.length-(intOf i).toNat)
 case atStart=>exact⟨0,Zz,rfl,START.out⟩
 case round=>
  clear START;obtain⟨k,hk,rfl,hM,hT⟩:=hrel;have hfl:({a with D:=firstF (reF K) a.D k}:ArS).D.length=a.D.length:=firstF_len;have c0:=hM.c0;rw[hfl]at c0
  by_cases hlt:k<a.D.length
  ·have hlt':(k:Int)<(a.D.length:Int):=by omega
   have g1:IntKind.i64.wrap ((k:Int)+1)=((k+1:Nat):Int):=Zw
   have hk2:k<(firstF (reF K) a.D k).length:=by rw[firstF_len];exact hlt
   have x0:=hM.x k hk2;obtain⟨vl,vw,Tl,Tw,hI⟩:=hM.dk k hk2;have hsu:(firstF (reF K) a.D k).set k (reF K k (a.D.getD k default))=firstF (reF K) a.D (k+1):=firstF_succ hlt;have hat:({a with D:=firstF (reF K) a.D k}:ArS).D.getD k default=a.D.getD k default:=firstF_at hlt;rw[hat]at hI;have okd:=okF ok hlt;obtain⟨d,hd⟩:∃d,d=a.D.getD k default:=⟨_,rfl⟩;rw[<-hd]at hsu hI okd;have HK:=hK.grew (Grew.of_turn hT);have hrd:HR (rd k):=hM.hd k hk2;clear hat hd
   by_cases hkk:k<K.length
   ·have hkk':(k:Int)<(K.length:Int):=by omega
    obtain⟨b,off,rfl,hb,hrow⟩:=HK.rd.at hkk;have hAp:ApartG (fun x=>x=rd k) (K.getD k default).1:=fun x n c e=>(HK.each _ (VI_mem hkk) x n c e).imp id (fun h1 h2=>h1 (by have h3:x.block=rd k:=h2;rw[h3];exact hrd))
    have hsz:=hs _ (VI_mem hkk);rw[reF_in hkk]at hsu;obtain⟨r,hr⟩:∃r,r=K.getD k default:=⟨_,rfl⟩;rw[<-hr]at hrow hAp hsz hsu;obtain⟨rc,rrd,rwf⟩:=hrow;obtain⟨rv,rl⟩:=r;simp only at rc rrd rwf hAp hsz hsu;obtain⟨ra,rcp,rfl⟩:=rrd.form;have bD:Below wr.heap.size wr wr.drew:=Zf.drew;have hMD:=hM.below bD;have KC:=rcrash_any (hI.below bD) okd (rrd.below bD) hAp hsz;have hTD:TurnG HR w wr.drew:=hT.drew;have c0D:wr.drew.cell? ⟨rb,0,none⟩=some (.slice (some ⟨xb,0,none⟩) a.D.length cx):=c0;have x0D:wr.drew.cell? ⟨xb,k,none⟩=some (.pointer (some ⟨rd k,0,none⟩)):=x0;have rcD:wr.drew.cell? ⟨b,off+k,none⟩=some (.slice ra rl.length rcp):=rc;have nb:¬HR b:=by
     rcases HK.ap _ _ _ rfl with e|e
     ·omega
     ·exact e
    have nx:xb≠rd k/\rb≠rd k/\b≠rd k:=⟨fun e=>(hM.off k hk2).2.1 e.symm,fun e=>(hM.off k hk2).1 e.symm,fun e=>nb (by rw[e];exact hrd)⟩;have ls:rb<wr.heap.size/\xb<wr.heap.size:=⟨hM.lt _ hM.hr,hM.lt _ hM.hx⟩;clear hr hI
    go_wp2_with fail
    go_region_held3 (fun wx=>wx.cell? ⟨rb,0,none⟩=some (.slice (some ⟨xb,0,none⟩) a.D.length cx)/\wx.cell? ⟨xb,k,none⟩=some (.pointer (some ⟨rd k,0,none⟩))/\wx.cell? ⟨b,off+k,none⟩=some (.slice ra rl.length rcp)) (first|exact⟨c0,x0,rc⟩|exact⟨c0D,x0D,rcD⟩|exact s1) (first
     |(go_at_call 119;go_loud (refine KC.mono ?_);rintro _ w1 ⟨rfl,R1,t1⟩;have M1:=hMD.disk hk2 R1 t1;have s1:=(show _/\_/\_ from⟨(t1.cell (p:=⟨rb,0,none⟩) ls.1 nx.2.1).trans c0D,(t1.cell (p:=⟨xb,k,none⟩) ls.2 nx.1).trans x0D,(t1.cell (p:=⟨b,off+k,none⟩) hb nx.2.2).trans rcD⟩)))
    have E2:Hid (RaM w1 rb xb yb cx cy rd HR GA {a with D:=firstF (reF K) a.D (k+1)}/\TurnG HR w w1):=by
     rw[<-hsu];exact⟨M1,hTD.trans (hMD.turnD hk2 t1)⟩
    clear hM hT hsu hk2 M1 R1 t1 KC HK hAp rrd rwf rc x0 c0 hfl hrd bD hMD hTD c0D x0D rcD nb nx ls s1;exact z24_2
   ·have hkk':¬(k:Int)<(K.length:Int):=by omega
    rw[reF_out hkk]at hsu;have KC:=rcrash_any hI okd (v:=.slice none 0 0) (K:=[]) (Or.inl ⟨none,0,rfl,rfl⟩) (ApartG.nil _ _ _) Zs;clear hI
    go_wp2_with fail
    refine KC.mono ?_
    rintro _ w1 ⟨rfl,R1,t1⟩;have M1:=hM.disk hk2 R1 t1;have E2:Hid (RaM w1 rb xb yb cx cy rd HR GA {a with D:=firstF (reF K) a.D (k+1)}/\TurnG HR w w1):=by
     rw[<-hsu];exact⟨M1,hT.trans (hM.turnD hk2 t1)⟩
    clear hM hT hsu hk2 M1 R1 t1 KC HK x0 c0 hfl hrd;exact z24_2
  ·have hlt':¬(k:Int)<(a.D.length:Int):=by omega
   have hkn:k=a.D.length:=Zo
   rw[hkn]at hM;have c2:=hM.c2;have c3:=hM.c3;have f2:=hM.f2;have f3:=hM.f3;have E2:=FINI.out wr hM hT;have E3:Hid _:=E2;clear hM hT FINI hfl E2 hK;go_wp2
   go_end0
   exact⟨rfl,E3.out⟩
end
theorem OwnH.rdA{w:World}{base:Nat}{v:Value}{L:List (Int×List UInt8)}(h:OwnH w base v L)(hl:L.length<=100000):RdH w v L:=by
 obtain⟨T,h1,h2⟩:=h;exact⟨T,h1,h2.rd (by rw[<-h1,bareT_length]at hl;exact hl)⟩
theorem held_few{a:ArS}(ok:a.Ok){i:Nat}(hi:i<a.D.length)(f:Int->Option (List UInt8)):(heldL f (a.D.getD i default).s).length<=100000:=by
 have h1:a.D.getD i default∈a.D:=by
  rw[show a.D.getD i default=a.D[i] by simp[List.getD,hi]];exact List.getElem_mem hi
 have h2:=(ok.each _ h1).s2;have h3:=heldL_length f (a.D.getD i default).s;omega
section
variable {w:World} {rb:Nat} {HR GA:Nat->Prop} {a:ArS}
def lvF(a:ArS)(k:Nat):List Value:=(List.range k).map fun i=>.bool (!(a.D.getD i default).dead)
theorem lvF_succ(a:ArS)(k:Nat):lvF a k++[.bool (!(a.D.getD k default).dead)]=lvF a (k+1):=by simp[lvF,List.range_succ]
theorem rliveA_any(h:RaAt w rb HR GA a):Calls Tryz.prog 42 #[.pointer (some ⟨rb,0,none⟩)] w fun e w'=>∃v,e= .returned v/\w'.ownsRow w.heap.size 4 1 v a.D.length (lvF a a.D.length)/\Below w.heap.size w w':=by
 obtain⟨xb,yb,cx,cy,rd,hM,ok⟩:=h;obtain⟨i0,hi,hz0,hz1,hz2⟩:=info_parts info_bool13;have hd2:=hM.d2;have START:Hid (w.ownsRow w.heap.size 4 1 (.slice none 0 0) 0 (lvF a 0)/\Below w.heap.size w w):=⟨⟨rfl,Or.inl ⟨rfl,rfl⟩⟩,Zf⟩
 go_enter Tryz.func42,Tryz.ntmps42
 go_wp2
 go_loopw [3,4] (fun ov i wr=>∃k:Nat,k<=a.D.length/\i= .int .i64 (k:Int)/\wr.ownsRow w.heap.size 4 1 ov k (lvF a k)/\Below w.heap.size w wr) (fun _ i _=>a.D.length-(intOf i).toNat)
 case atStart=>exact⟨0,Zz,rfl,START.out⟩
 case round=>
  clear START;obtain⟨k,hk,rfl,ho,hb⟩:=hrel;have hMr:=hM.below hb;have c0:=hMr.c0
  by_cases hlt:k<a.D.length
  ·have hlt':(k:Int)<(a.D.length:Int):=by omega
   have g1:IntKind.i64.wrap ((k:Int)+1)=((k+1:Nat):Int):=Zw
   have x0:=hMr.x k hlt;have d0:wr.cell? ⟨rd k,3,none⟩=some (.bool (a.D.getD k default).dead):=by
    obtain⟨vl,vw,Tl,Tw,hI⟩:=hMr.dk k hlt;exact hI.c3
   have hsu:Hid _:=lvF_succ a k;obtain⟨x,hx⟩:∃x,x=(a.D.getD k default).dead:=⟨_,rfl⟩;rw[<-hx]at d0 hsu;have oA:=World.ownsRow.alloc ho (.cells #[.bool (!x)] 4);have bA:=hb.trans ((belA wr (.cells #[.bool (!x)] 4)).mono hb.size);clear hMr hx
   ·go_wp2_with (at_builtin;go_loud (refine wpList_append_v _ rfl (.tmp 14) (.tmp 26) 96 rfl w.heap.size 4 i0 (.bool false) 1 Tryz.underlying96 hi hz0 hz1 hz2 rfl Zd u3 k (lvF a k) rfl oA wr.heap.size 1 (.bool (!x)) rfl (World.cell?_alloc_new _ _ _ 0) rfl Zo bA.size ?_);intro ov' w4 h4 g4 e4)
    rw[hsu.out]at h4;have E4:Hid (w4.ownsRow w.heap.size 4 1 ov' (k+1) (lvF a (k+1))/\Below w.heap.size w w4):=⟨h4,bA.grown g4 bA.size (fun q hq=>(row_at oA hq).1)⟩;clear h4 g4 e4 oA bA ho hb hsu c0 x0 d0;go_roundw
    case rel=>exact⟨k+1,Zo,Zg,E4.out⟩
    case measure=>simp[intOf];omega
  ·have hlt':¬(k:Int)<(a.D.length:Int):=by omega
   obtain rfl:k=a.D.length:=Zo
   have FIN:Hid _:=And.intro ho hb;clear ho hb hMr;go_wp2;go_ret;exact⟨_,rfl,FIN.out⟩
end
theorem info_pdisk13:(Tryz.prog.info? 85).map (fun i=>(i.zero,i.size,i.bytes))=some (some (.pointer none),1,8):=Zk
def rbF(vx vy:Value)(j:Nat):Value:=if j=0 then vx else if j=1 then vy else if j=2 then .int .i64 (-1)else .bool false
def dkF(s:Int)(j:Nat):Value:=if j=0 then .int .i64 s else if j=1 then .slice none 0 0 else if j=2 then .slice none 0 0 else .bool false
def ptrL(rd:Nat->Nat)(k:Nat):List Value:=(List.range k).map fun i=>.pointer (some ⟨rd i,0,none⟩)
def zrL(k:Nat):List Value:=(List.range k).map fun _=>.int .i64 0
theorem ptrL_succ(rd:Nat->Nat)(k:Nat):ptrL rd k++[.pointer (some ⟨rd k,0,none⟩)]=ptrL rd (k+1):=by simp[ptrL,List.range_succ]
theorem zrL_succ(k:Nat):zrL k++[.int .i64 0]=zrL (k+1):=by simp[zrL,List.range_succ]
theorem ptrL_at(rd:Nat->Nat){k i:Nat}(h:i<k):(ptrL rd k)[i]? =some (.pointer (some ⟨rd i,0,none⟩)):=by simp[ptrL,h]
theorem zrL_at{k i:Nat}(h:i<k):(zrL k)[i]? =some (.int .i64 0):=by simp[zrL,h]
structure NewR(w wr:World)(rb k kx ky:Nat)(vx vy:Value)(rd:Nat->Nat)(s:Int):Prop where
 b:Below w.heap.size w wr
 lr:w.heap.size<=rb
 rr:wr.rowIs rb 84 4 (rbF vx vy)
 ox:wr.ownsRow w.heap.size 85 1 vx kx (ptrL rd kx)
 oy:wr.ownsRow w.heap.size 3 1 vy ky (zrL ky)
 hx:kx<=k
 dk:∀i,i<k->wr.rowIs (rd i) 94 4 (dkF s)
 ld:∀i,i<k->w.heap.size<=rd i
 inj:∀i j,i<k->j<k->rd i=rd j->i=j
 nr:∀i,i<k->rd i≠rb
 nx:∀q,vx.ownBlock=some q->q≠rb/\vy.ownBlock≠some q/\∀i,i<k->rd i≠q
 ny:∀q,vy.ownBlock=some q->q≠rb/\∀i,i<k->rd i≠q
section
variable {w wr w3:World} {rb k kx ky:Nat} {vx vy vx' vy':Value} {rd:Nat->Nat} {s:Int}
theorem NewR.alloc(h:NewR w wr rb k kx ky vx vy rd s)(o:Obj):NewR w (wr.alloc o) rb k kx ky vx vy rd s:=
 ⟨h.b.trans ((belA wr o).mono h.b.size),h.lr,h.rr.alloc o,World.ownsRow.alloc h.ox o,World.ownsRow.alloc h.oy o,h.hx,fun i hi=>(h.dk i hi).alloc o,h.ld,h.inj,h.nr,h.nx,h.ny⟩
theorem NewR.disk(h:NewR w wr rb k kx ky vx vy rd s):NewR w (wr.alloc (.cells #[.int .i64 s,.slice none 0 0,.slice none 0 0,.bool false] 94)) rb (k+1) kx ky vx vy (fun i=>if i=k then wr.heap.size else rd i) s:=by
 have h2:=h.alloc (.cells #[.int .i64 s,.slice none 0 0,.slice none 0 0,.bool false] 94);have lt:∀i,i<k->rd i<wr.heap.size:=fun i hi=>(h.dk i hi).lt
 have ep:ptrL (fun i=>if i=k then wr.heap.size else rd i) kx=ptrL rd kx:=by
  unfold ptrL;refine List.map_congr_left fun i hi=>?_
  have h3:i<kx:=by simpa using hi
  have h4:=h.hx
  show Value.pointer (some ⟨if i=k then wr.heap.size else rd i,0,none⟩)=_
  rw[if_neg Zo]
 refine⟨h2.b,h.lr,h2.rr,by rw[ep];exact h2.ox,h2.oy,by have:=h.hx;omega,fun i hi=>?_,fun i hi=>?_,fun i j hi hj e=>?_,fun i hi=>?_,fun q hq=>⟨(h.nx q hq).1,(h.nx q hq).2.1,fun i hi=>?_⟩,fun q hq=>⟨(h.ny q hq).1,fun i hi=>?_⟩⟩
 ·show World.rowIs _ (if i=k then wr.heap.size else rd i) _ _ _
  by_cases e:i=k
  ·rw[if_pos e];exact World.rowIs_alloc wr #[.int .i64 s,.slice none 0 0,.slice none 0 0,.bool false] 94 (dkF s) (fun j hj=>by
    have hj2:j<4:=hj
    match j,hj2 with
    |0,_=>rfl
    |1,_=>rfl
    |2,_=>rfl
    |3,_=>rfl)
  ·rw[if_neg e];exact h2.dk i Zo
 ·show _<=(if i=k then wr.heap.size else rd i)
  by_cases e:i=k
  ·rw[if_pos e];exact h.b.size
  ·rw[if_neg e];exact h.ld i Zo
 ·replace e:(if i=k then wr.heap.size else rd i)=(if j=k then wr.heap.size else rd j):=e
  by_cases e1:i=k
  ·rw[if_pos e1]at e
   by_cases e2:j=k
   ·omega
   ·rw[if_neg e2]at e;have:=lt j Zo;omega
  ·rw[if_neg e1]at e
   by_cases e2:j=k
   ·rw[if_pos e2]at e;have:=lt i Zo;omega
   ·rw[if_neg e2]at e;exact h.inj i j Zo Zo e
 ·show(if i=k then wr.heap.size else rd i)≠rb
  by_cases e:i=k
  ·rw[if_pos e];have:=h.rr.lt;omega
  ·rw[if_neg e];exact h.nr i Zo
 ·show(if i=k then wr.heap.size else rd i)≠q
  by_cases e:i=k
  ·rw[if_pos e];have:=(row_at h.ox hq).2.1;omega
  ·rw[if_neg e];exact(h.nx q hq).2.2 i Zo
 ·show(if i=k then wr.heap.size else rd i)≠q
  by_cases e:i=k
  ·rw[if_pos e];have:=(row_at h.oy hq).2.1;omega
  ·rw[if_neg e];exact(h.ny q hq).2 i Zo
theorem NewR.preX(h:NewR w wr rb k kx ky vx vy rd s)(g:wr.grownBy w3 vx.ownBlock):w3.rowIs rb 84 4 (rbF vx vy):=
 h.rr.of_block (g.block rb h.rr.lt (fun e=>(h.nx rb e.symm).1 rfl))
theorem NewR.preY(h:NewR w wr rb k kx ky vx vy rd s)(g:wr.grownBy w3 vy.ownBlock):w3.rowIs rb 84 4 (rbF vx vy):=
 h.rr.of_block (g.block rb h.rr.lt (fun e=>(h.ny rb e.symm).1 rfl))
theorem NewR.pushX(h:NewR w wr rb k kx ky vx vy rd s)(hk:kx<k)(hr:w3.ownsRow w.heap.size 85 1 vx' (kx+1) (ptrL rd kx++[.pointer (some ⟨rd kx,0,none⟩)]))(g:wr.grownBy w3 vx.ownBlock)(e:vx'.ownBlock=vx.ownBlock∨vx'.ownBlock=some wr.heap.size):
  NewR w (w3.setCell ⟨rb,0,none⟩ vx') rb k (kx+1) ky vx' vy rd s:=by
 have nb:∀q,vx'.ownBlock=some q->q≠rb/\vy.ownBlock≠some q/\∀i,i<k->rd i≠q:=fun q hq=>by
  rcases e with e|e
  ·rw[e]at hq;exact h.nx q hq
  ·rw[e]at hq;cases hq;exact⟨by have:=h.rr.lt;omega,fun e2=>by have:=(row_at h.oy e2).2.1;omega,fun i hi=>by have:=(h.dk i hi).lt;omega⟩
 have kb:∀q,q≠rb->(w3.setCell ⟨rb,0,none⟩ vx').heap[q]? =w3.heap[q]? :=fun q hq=>Below.heap_setCell w3 ⟨rb,0,none⟩ _ q hq
 rw[ptrL_succ]at hr;refine⟨(h.b.grown g h.b.size (fun q hq=>(row_at h.ox hq).1)).setCell h.lr _,h.lr,((h.preX g).set 0 vx').congr (fun j hj=>?_),owns_block hr (fun q hq=>kb q (nb q hq).1),owns_block h.oy (fun q hq=>(kb q (h.ny q hq).1).trans (g.block q (row_at h.oy hq).2.1 (fun e2=>(h.nx q e2.symm).2.1 hq))),Zo,fun i hi=>?_,h.ld,h.inj,h.nr,nb,h.ny⟩
 ·unfold rbF
  by_cases e0:j=0
  ·rw[if_pos e0,if_pos e0]
  ·rw[if_neg e0,if_neg e0,if_neg e0]
 ·exact(h.dk i hi).of_block ((kb _ (h.nr i hi)).trans (g.block _ (h.dk i hi).lt (fun e2=>(h.nx _ e2.symm).2.2 i hi rfl)))
theorem NewR.pushY(h:NewR w wr rb k kx ky vx vy rd s)(hr:w3.ownsRow w.heap.size 3 1 vy' (ky+1) (zrL ky++[.int .i64 0]))(g:wr.grownBy w3 vy.ownBlock)(e:vy'.ownBlock=vy.ownBlock∨vy'.ownBlock=some wr.heap.size):
  NewR w (w3.setCell ⟨rb,1,none⟩ vy') rb k kx (ky+1) vx vy' rd s:=by
 have nb:∀q,vy'.ownBlock=some q->q≠rb/\vx.ownBlock≠some q/\∀i,i<k->rd i≠q:=fun q hq=>by
  rcases e with e|e
  ·rw[e]at hq;exact⟨(h.ny q hq).1,fun e2=>(h.nx q e2).2.1 hq,(h.ny q hq).2⟩
  ·rw[e]at hq;cases hq;exact⟨by have:=h.rr.lt;omega,fun e2=>by have:=(row_at h.ox e2).2.1;omega,fun i hi=>by have:=(h.dk i hi).lt;omega⟩
 have kb:∀q,q≠rb->(w3.setCell ⟨rb,1,none⟩ vy').heap[q]? =w3.heap[q]? :=fun q hq=>Below.heap_setCell w3 ⟨rb,1,none⟩ _ q hq
 rw[zrL_succ]at hr;refine⟨(h.b.grown g h.b.size (fun q hq=>(row_at h.oy hq).1)).setCell h.lr _,h.lr,((h.preY g).set 1 vy').congr (fun j hj=>?_),owns_block h.ox (fun q hq=>(kb q (h.nx q hq).1).trans (g.block q (row_at h.ox hq).2.1 (fun e2=>(h.nx q hq).2.1 e2.symm))),owns_block hr (fun q hq=>kb q (nb q hq).1),h.hx,fun i hi=>?_,h.ld,h.inj,h.nr,fun q hq=>⟨(h.nx q hq).1,fun e2=>(nb q e2).2.1 hq,(h.nx q hq).2.2⟩,fun q hq=>⟨(nb q hq).1,(nb q hq).2.2⟩⟩
 ·unfold rbF
  by_cases e1:j=1
  ·subst e1;rfl
  ·rw[if_neg e1]
   by_cases e0:j=0
   ·rw[if_pos e0,if_pos e0]
   ·rw[if_neg e0,if_neg e0,if_neg e1,if_neg e1]
 ·exact(h.dk i hi).of_block ((kb _ (h.nr i hi)).trans (g.block _ (h.dk i hi).lt (fun e2=>(h.ny _ e2.symm).2 i hi rfl)))
theorem NewR.done{n:Nat}(h:NewR w wr rb n n n vx vy rd s)(h1:1<=n)(h2:n<=32)(h3:1<=s)(h4:s<=4096){GA:Nat->Prop}(hG:∀k,GA k->k<w.heap.size):
  ∃HR,RaAt wr rb HR GA (newA n s.toNat)/\∀k,HR k->w.heap.size<=k:=by
 have hl:(newA n s.toNat).D.length=n:=by simp[newA]
 obtain⟨gx,cx,ex,bx,ox⟩:=owns_formD h.ox Zo;obtain⟨gy,cy,ey,by_,oy⟩:=owns_formD h.oy Zo;subst ex ey;have nx:=h.nx gx rfl;have ny:=h.ny gy rfl;have hge:∀k,(k=rb∨k=gx∨k=gy∨∃i,i<n/\k=rd i)->w.heap.size<=k/\k<wr.heap.size:=fun k hk=>by
  rcases hk with e|e|e|⟨i,hi,e⟩
  ·rw[e];exact⟨h.lr,h.rr.lt⟩
  ·rw[e];exact⟨bx,(row_at h.ox rfl).2.1⟩
  ·rw[e];exact⟨by_,(row_at h.oy rfl).2.1⟩
  ·rw[e];exact⟨h.ld i hi,(h.dk i hi).lt⟩
 have hGs:∀k,GA k->k<wr.heap.size:=fun k hk=>Zu (hG k hk) h.b.size
 have hn:((s.toNat:Nat):Int)=s:=Zo
 refine⟨fun k=>k=rb∨k=gx∨k=gy∨∃i,i<n/\k=rd i,⟨gx,gy,cx,cy,rd,⟨?_,?_,h.rr.cell (i:=2) Zo,h.rr.cell (i:=3) Zo,h.rr.frozen 2,h.rr.frozen 3,fun i hi=>?_,fun i hi=>?_,fun i hi=>World.ownsRow.frozenAt oy i,fun i hi=>?_,fun i j hi hj=>h.inj i j (hl▸hi) (hl▸hj),fun i hi=>⟨h.nr i (hl▸hi),nx.2.2 i (hl▸hi),ny.2 i (hl▸hi)⟩,fun e=>nx.1 e.symm,fun e=>ny.1 e.symm,fun e=>nx.2.1 (by rw[e];rfl),Or.inl rfl,Or.inr (Or.inl rfl),Or.inr (Or.inr (Or.inl rfl)),fun i hi=>Or.inr (Or.inr (Or.inr ⟨i,hl▸hi,rfl⟩)),fun k hk hg=>by have:=(hge k hk).1;have:=hG k hg;omega,fun k hk=>(hge k hk).2,hGs,by rw[hl];exact h1,by rw[hl];exact h2,by simp[newA],by simp[newA];decide⟩,newA_ok h1 h2 Zo Zo⟩,fun k hk=>(hge k hk).1⟩
 ·rw[hl];exact h.rr.cell (i:=0) Zo
 ·rw[hl];exact h.rr.cell (i:=1) Zo
 ·rw[hl]at hi;rw[World.ownsRow.cellAt ox i Zo];exact ptrL_at rd hi
 ·rw[hl]at hi;rw[World.ownsRow.cellAt oy i Zo,zrL_at hi];simp only[newA];rw[rep_getD hi]
 ·rw[hl]at hi;simp only[newA];rw[rep_getD hi];have r:=h.dk i hi;refine⟨.slice none 0 0,.slice none 0 0,[],[],?_,r.cell (i:=1) Zo,r.cell (i:=2) Zo,r.cell (i:=3) Zo,r.frozen 1,r.frozen 2,r.frozen 3,(heldL_none _).symm,(heldL_none _).symm,told_nil _ _,told_nil _ _,cap_nil,cap_nil,Or.inl (Or.inr (Or.inr (Or.inr ⟨i,hi,rfl⟩))),fun k hk=>hk.elim (fun h5=>(hge k h5).2) (hGs k),by show s.toNat<=4096;omega⟩;rw[r.cell (i:=0) Zo]
  show some (Value.int .i64 s)=some (.int .i64 ((s.toNat:Nat):Int))
  rw[hn]
end
def NewsR(w:World)(n s:Nat)(GA:Nat->Prop)(e:Ending)(w':World):Prop:=∃rb HR,e= .returned (.tuple #[.pointer (some ⟨rb,0,none⟩),.int .i64 0])/\RaAt w' rb HR GA (newA n s)/\(∀k,HR k->w.heap.size<=k)/\Below w.heap.size w w'
theorem laid_r(w:World):(w.alloc (.cells #[.slice none 0 0,.slice none 0 0,.int .i64 (-1),.bool false] 84)).rowIs w.heap.size 84 4 (rbF (.slice none 0 0) (.slice none 0 0)):=
 World.rowIs_alloc w #[.slice none 0 0,.slice none 0 0,.int .i64 (-1),.bool false] 84 (rbF (.slice none 0 0) (.slice none 0 0)) (fun i hi=>by
  have hi2:i<4:=hi
  match i,hi2 with
  |0,_=>rfl
  |1,_=>rfl
  |2,_=>rfl
  |3,_=>rfl)
theorem lit_after(w:World)(rb:Nat)(v x:Value)(e:Nat):((w.setCell ⟨rb,0,none⟩ v).alloc (.cells #[x] e)).cell? ⟨w.heap.size,0,none⟩=some x:=by
 have h:=World.cell?_alloc_new (w.setCell ⟨rb,0,none⟩ v) #[x] e 0;have s:(w.setCell ⟨rb,0,none⟩ v).heap.size=w.heap.size:=Zs
 rw[s]at h;exact h
theorem rnewA_any{w:World}{n:Nat}{s:Int}(h1:1<=n)(h2:n<=32)(h3:1<=s)(h4:s<=4096){GA:Nat->Prop}(hG:∀k,GA k->k<w.heap.size):Calls Tryz.prog 13 #[.int .i64 (n:Int),.int .i64 s] w (NewsR w n s.toNat GA):=by
 have q1:¬(n:Int)<1:=Zo
 have q2:¬(n:Int)>32:=Zo
 obtain⟨i0,hi,hz0,hz1,hz2⟩:=info_parts info_pdisk13;obtain⟨j0,hj,hy0,hy1,hy2⟩:=info_parts info_int13;have LR:=laid_r w;have START:Hid (∃vx vy rd,NewR w (w.alloc (.cells #[.slice none 0 0,.slice none 0 0,.int .i64 (-1),.bool false] 84)) w.heap.size 0 0 0 vx vy rd s):=
  ⟨.slice none 0 0,.slice none 0 0,fun _=>0,belA _ _,Zr,LR,⟨rfl,Or.inl ⟨rfl,rfl⟩⟩,⟨rfl,Or.inl ⟨rfl,rfl⟩⟩,Zr,(fun i hi=>absurd hi (Nat.not_lt_zero _)),(fun i hi=>absurd hi (Nat.not_lt_zero _)),(fun i j hi=>absurd hi (Nat.not_lt_zero _)),(fun i hi=>absurd hi (Nat.not_lt_zero _)),(fun q hq=>by cases hq),(fun q hq=>by cases hq)⟩
 clear LR
 go_enter Tryz.func13,Tryz.ntmps13
 go_wp2;obtain⟨rb,hrb⟩:∃rb,Hid (rb=w.heap.size):=⟨_,rfl⟩;rw[<-hrb.out];rw[show w.heap.size=rb from hrb.out.symm]at START
 go_loopw [7] (fun i wr=>∃k:Nat,k<=n/\i= .int .i64 (k:Int)/\∃vx vy rd,NewR w wr rb k k k vx vy rd s) (fun i _=>n-(intOf i).toNat)
 case atStart=>exact⟨0,Zz,rfl,by obtain⟨vx,vy,rd,h⟩:=START.out;exact⟨vx,vy,rd,by rw[hrb.out]at h ⊢;exact h⟩⟩
 case round=>
  clear START;obtain⟨k,hk,rfl,vx,vy,rd,hN⟩:=hrel
  by_cases hlt:k<n
  ·have hlt':(k:Int)<(n:Int):=by omega
   have g1:IntKind.i64.wrap ((k:Int)+1)=((k+1:Nat):Int):=Zw
   go_wp2_with fail
   refine(rnew_any h3 h4).mono ?_
   rintro _ w1 ⟨rfl,hw1⟩;have N1:=hN.disk;rw[<-hw1]at N1;obtain⟨d,hd⟩:∃d,Hid (d=wr.heap.size):=⟨_,rfl⟩;have hrk:Hid ((fun i=>if i=k then wr.heap.size else rd i) k=d):=by show(if k=k then wr.heap.size else rd k)=d;rw[if_pos rfl,hd.out]
   obtain⟨rd1,hrd1⟩:∃rd1,rd1=(fun i=>if i=k then wr.heap.size else rd i):=⟨_,rfl⟩;rw[<-hrd1]at N1 hrk;rw[<-hd.out];clear hN hw1 hrd1 hd;have c0:=N1.rr.cell (i:=0) Zo;rw[show rbF vx vy 0=vx from rfl]at c0;have N2:=N1.alloc (.cells #[.pointer (some ⟨d,0,none⟩)] 85);obtain⟨xa,xc,rfl⟩:=owns_slice N1.ox;have kd:k<k+1:=Nat.lt_succ_self k;have hdd:Hid (∀X:Value,X= .pointer (some ⟨d,0,none⟩)->X= .pointer (some ⟨rd1 k,0,none⟩)):=fun X hX=>by rw[hX,hrk.out]
   obtain⟨ya,yc,rfl⟩:=owns_slice N1.oy
   go_wp2_with (first
    |(at_builtin;(refine wpList_append_v _ rfl (.tmp 35) (.tmp 37) 82 rfl w.heap.size 85 i0 (.pointer none) 8 Tryz.underlying82 hi hz0 hz1 hz2 rfl Zd (.slice xa k xc) k (ptrL rd1 k) rfl N2.ox w1.heap.size 1 (.pointer (some ⟨d,0,none⟩)) rfl (World.cell?_alloc_new _ _ _ 0) rfl Zo N2.b.size ?_);intro vx' w3 h3x g3 e3;have d0:=(N2.preX g3).cell (i:=0) Zo;have f0:=(N2.preX g3).frozen 0;have d1:=(N2.preX g3).cell (i:=1) Zo;rw[show rbF (.slice xa k xc) (.slice ya k yc) 1= .slice ya k yc from rfl]at d1;rw[hdd.out _ rfl]at h3x;have N4:=N2.pushX kd h3x g3 e3;have N5:=N4.alloc (.cells #[.int .i64 0] 3);obtain⟨xa',xc',rfl⟩:=owns_slice h3x)
    |(at_builtin;(refine wpList_append_v _ rfl (.tmp 45) (.tmp 46) 45 rfl w.heap.size 3 j0 (.int .i64 0) 8 Tryz.underlying45 hj hy0 hy1 hy2 rfl Zd (.slice ya k yc) k (zrL k) rfl N5.oy w3.heap.size 1 (.int .i64 0) rfl (lit_after _ _ _ _ _) rfl Zo N5.b.size ?_);intro vy' w6 h6y g6 e6;have c6:=(N5.preY g6).cell (i:=1) Zo;have f6:=(N5.preY g6).frozen 1;have N7:=N5.pushY h6y g6 e6;obtain⟨ya',yc',rfl⟩:=owns_slice h6y))
   have E7:Hid (∃vx vy rd,NewR w (w6.setCell ⟨rb,1,none⟩ (.slice ya' (k+1) yc')) rb (k+1) (k+1) (k+1) vx vy rd s):=⟨_,_,_,N7⟩;clear N7 N5 N4 N2 N1 h3x g3 e3 h6y g6 e6;go_roundw
   case rel=>exact⟨k+1,Zo,Zg,E7.out⟩
   case measure=>simp[intOf];omega
  ·have hlt':¬(k:Int)<(n:Int):=by omega
   obtain rfl:k=n:=Zo
   have FIN:Hid (∃HR,(RaAt wr rb HR GA (newA k s.toNat)/\∀q,HR q->w.heap.size<=q)/\Below w.heap.size w wr):=by
    obtain⟨HR,h5⟩:=hN.done h1 h2 h3 h4 hG;exact⟨HR,h5,hN.b⟩
   clear hN;go_wp2;refine bodyPost_ret (v:=.tuple #[.pointer (some ⟨rb,0,none⟩),.int .i64 0]) (by simp[results,Tryz.results13,go_sem]) rfl ?_
   obtain⟨HR,⟨h5,h6⟩,h7⟩:=FIN.out;exact⟨rb,HR,rfl,h5,h6,h7⟩
end Go.Proofs.YtddnfhfangfgeaaGreat.Gf
