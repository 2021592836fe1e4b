/- JOINED: StTl, StTold, StCW, StCB, StPa, StPb. -/
import Derived.Test.YtddnfhfangfgeaaGreatPome27
import Derived.RangeFuncBox
import Derived.RangeFuncLeaves
import Derived.RangeFuncNested
import Derived.RangeFuncBound
import Derived.RangeFuncCalls
import Derived.Shelf.RegionOpen
import Derived.OwnWalkIn
import Derived.TacticsInMore
import Derived.LoopNIn
import Derived.LoopIn
set_option maxHeartbeats 4000000
set_option maxRecDepth 100000
namespace Go.Proofs.YtddnfhfangfgeaaGreat.Gf
set_option linter.unusedVariables false
set_option linter.unusedSimpArgs false
open Go.RowKit
def MakesA15(w:World)(X:Int)(R:List (List UInt8))(B:List Nat)(e:Ending)(w':World):Prop:=∃va vb,e= .returned (.tuple #[va,vb,.int .i64 X])/\FarL w' w.heap.size va R/\OwnI w' w.heap.size 3 vb B/\Below w.heap.size w w'
theorem nilA15{w w':World}{x:Int}(b:Below w.heap.size w w'){X:Int}{R:List (List UInt8)}{B:List Nat}(h:X=x/\R=[]/\B=[]):MakesA15 w X R B (.returned (.tuple #[.slice none 0 0,.slice none 0 0,.int .i64 x])) w':=by
 obtain⟨rfl,rfl,rfl⟩:=h;exact⟨_,_,rfl,FarL.nil _ _,OwnI.nil _ _ _,b⟩
def MakesR15(w:World)(X:Int)(D:List UInt8)(B:List Nat)(e:Ending)(w':World):Prop:=∃vd vb,e= .returned (.tuple #[vd,vb,.int .i64 X])/\Rd w' vd D/\OwnI w' w.heap.size 3 vb B/\Below w.heap.size w w'
def MakesL15(w:World)(X:Int)(D:List UInt8)(B:List Nat)(e:Ending)(w':World):Prop:=∃vd vb,e= .returned (.tuple #[vd,vb,.int .i64 X])/\w'.ownsRow w.heap.size 5 1 vd D.length (D.map Gf.vb)/\OwnI w' w.heap.size 3 vb B/\Below w.heap.size w w'
structure TwoL(w:World)(gs gh n:Nat)(V:Nat->Value)(L:Nat->List UInt8)(H:Nat->Bool):Prop where
 rs:w.rowIs gs 36 n V
 rh:w.rowIs gh 4 n (fun i=>.bool (H i))
 each:∀i,i<n->Rd w (V i) (L i)
 as_:∀i,i<n->Apart gs (V i)
 ah:∀i,i<n->Apart gh (V i)
 ne:gs≠gh
 n1:n<=1000
section
variable {w w':World} {gs gh n:Nat} {V:Nat->Value} {L:Nat->List UInt8} {H:Nat->Bool}
theorem TwoL.below(h:TwoL w gs gh n V L H)(hb:Below w.heap.size w w'):TwoL w' gs gh n V L H:=
 ⟨h.rs.of_block (hb.block gs h.rs.lt),h.rh.of_block (hb.block gh h.rh.lt),fun i hi=>(h.each i hi).below hb,h.as_,h.ah,h.ne,h.n1⟩
theorem TwoL.congr{L':Nat->List UInt8}{H':Nat->Bool}(h:TwoL w gs gh n V L H)(eL:∀i,i<n->L i=L' i)(eH:∀i,i<n->H i=H' i):TwoL w gs gh n V L' H':=
 ⟨h.rs,h.rh.congr fun i hi=>by rw[eH i hi],fun i hi=>by rw[<-eL i hi];exact h.each i hi,h.as_,h.ah,h.ne,h.n1⟩
theorem TwoL.made(h1:w.rowIs gs 36 n (fun _=>.slice none 0 0))(h2:w.rowIs gh 4 n (fun _=>.bool false))(hne:gs≠gh)(hn:n<=1000):TwoL w gs gh n (fun _=>.slice none 0 0) (fun _=>[]) (fun _=>false):=
 ⟨h1,h2,fun _ _=>Or.inl ⟨none,0,rfl,rfl,Zz,fun _=>rfl⟩,fun _ _ x n c e=>by simp at e,fun _ _ x n c e=>by simp at e,hne,hn⟩
theorem FarV.apartB{v:Value}{k:Nat}(h:FarV w v)(hk:k<w.heap.size):Apart k v:=fun x n c e=>(h x n c e).imp id fun q hq=>by rw[hq]at q;omega
theorem TwoL.putS(h:TwoL w gs gh n V L H){x:Value}{p:List UInt8}(hx:Rd w x p)(hs:Apart gs x)(hh:Apart gh x)(r:Nat):TwoL (w.setCell ⟨gs,r,none⟩ x) gs gh n (fun i=>if i=r then x else V i) (fun i=>if i=r then p else L i) H:=by
 have O:Only gs w (w.setCell ⟨gs,r,none⟩ x):=(Only.refl gs w).setCell r x;refine⟨h.rs.set r x,h.rh.of_block (O.block gh (fun e=>h.ne e.symm)),fun i hi=>?_,fun i hi=>?_,fun i hi=>?_,h.ne,h.n1⟩
 ·show Rd _ (if i=r then x else V i) (if i=r then p else L i)
  split
  ·exact hx.only hs O
  ·exact(h.each i hi).only (h.as_ i hi) O
 ·show Apart gs (if i=r then x else V i)
  split
  ·exact hs
  ·exact h.as_ i hi
 ·show Apart gh (if i=r then x else V i)
  split
  ·exact hh
  ·exact h.ah i hi
theorem TwoL.putB(h:TwoL w gs gh n V L H)(r:Nat)(b:Bool):TwoL (w.setCell ⟨gh,r,none⟩ (.bool b)) gs gh n V L (fun i=>if i=r then b else H i):=by
 have O:Only gh w (w.setCell ⟨gh,r,none⟩ (.bool b)):=(Only.refl gh w).setCell r (.bool b);refine⟨h.rs.of_block (O.block gs h.ne),(h.rh.set r (.bool b)).congr fun i hi=>?_,fun i hi=>(h.each i hi).only (h.ah i hi) O,h.as_,h.ah,h.ne,h.n1⟩
 by_cases e:i=r
 ·simp[e]
 ·simp[e]
theorem TwoL.rsOf(h:TwoL w gs gh n V L H):Rs w (.slice (some ⟨gs,0,none⟩) n n) (mkL n L):=by
 have hl:(mkL n L).length=n:=mkL_length _ _;refine⟨some ⟨gs,0,none⟩,n,by rw[hl],by rw[hl];exact Zr,by unfold maxLen;have:=h.n1;omega,nofun,fun i hi=>?_⟩;rw[hl]at hi;exact⟨gs,0,V i,rfl,h.rs.lt,by rw[Nat.zero_add];exact h.rs.cell hi,by rw[ro_mkL hi];exact h.each i hi⟩
theorem TwoL.rdB(h:TwoL w gs gh n V L H):RdB w (.slice (some ⟨gh,0,none⟩) n n) ((List.range n).map H):=by
 have hl:((List.range n).map H).length=n:=Zs
 refine⟨some ⟨gh,0,none⟩,n,by rw[hl],by rw[hl];exact Zr,by unfold maxLen;have:=h.n1;omega,nofun,fun i hi=>?_⟩;rw[hl]at hi;exact⟨gh,0,rfl,h.rh.lt,by rw[Nat.zero_add,h.rh.cell hi];simp[hb,List.getD,hi]⟩
end
theorem FarL.only{w w':World}{base gh:Nat}{v:Value}{L:List (List UInt8)}(h:FarL w base v L)(ho:Only gh w w')(hg:gh<base):FarL w' base v L:=by
 obtain⟨T,u,vals,hv,hr⟩:=h;have kb:∀{e n:Nat} {x:Value} {xs:List Value},w.ownsRow base e 1 x n xs->w'.ownsRow base e 1 x n xs:=fun h=>owns_block h fun q hq=>ho.block q (fun e=>by have:=(Zv h q hq).1;omega)
 exact⟨T,u,vals,kb hv,⟨fun i x hx=>kb (hr.own i x hx),hr.diff,hr.out⟩⟩
theorem OwnI.only{w w':World}{base e gh:Nat}{v:Value}{zs:List Nat}(h:OwnI w base e v zs)(ho:Only gh w w')(hg:gh<base):OwnI w' base e v zs:=owns_block h fun q hq=>ho.block q (fun e=>by have:=(Zv h q hq).1;omega)
def ToldI(w:World)(G:Nat->Prop)(v:Value)(zs:List Nat):Prop:=∃a c,v= .slice a zs.length c/\(zs≠[]->∃b,a=some ⟨b,0,none⟩/\b<w.heap.size/\¬G b/\∀i,i<zs.length->w.cell? ⟨b,i,none⟩=some (.int .i64 ((zs.getD i 0:Nat):Int)))
section
variable {w w':World} {G G':Nat->Prop} {v:Value} {zs:List Nat}
theorem ToldI.of_own{base e:Nat}(h:OwnI w base e v zs)(hG:∀k,G k->k<base):ToldI w G v zs:=by
 obtain⟨a,c,rfl⟩:=h.form;refine⟨a,c,rfl,fun h0=>?_⟩;obtain⟨b,e1,h1,h2,_⟩:=h.cell (List.length_pos_iff.2 h0);refine⟨b,e1,h1,fun q=>by have:=hG b q;omega,fun i hi=>?_⟩;obtain⟨b',e2,_,_,h3⟩:=h.cell hi;rw[e1]at e2;simp at e2;rw[e2];exact h3
theorem ToldI.of_row{g t n:Nat}{f:Nat->Value}(h:w.rowIs g t n f)(hn:n=zs.length)(hf:∀i,i<zs.length->f i= .int .i64 ((zs.getD i 0:Nat):Int))(hg:¬G g):ToldI w G (.slice (some ⟨g,0,none⟩) n n) zs:=by
 subst hn;exact⟨_,_,rfl,fun _=>⟨g,rfl,h.lt,hg,fun i hi=>by rw[h.cell hi,hf i hi]⟩⟩
theorem ToldI.form(h:ToldI w G v zs):∃a c,v= .slice a zs.length c:=by
 obtain⟨a,c,e,_⟩:=h;exact⟨a,c,e⟩
theorem ToldI.grew(h:ToldI w G v zs)(g:Grew G w G' w'):ToldI w' G' v zs:=by
 obtain⟨a,c,e,h⟩:=h;refine⟨a,c,e,fun h0=>?_⟩;obtain⟨b,e1,h1,h2,h3⟩:=h h0;exact⟨b,e1,Zu h1 g.turn.size,g.off h1 h2,fun i hi=>(g.turn.cell (p:=⟨b,i,none⟩) h1 h2).trans (h3 i hi)⟩
theorem ToldI.below(h:ToldI w G v zs)(hb:Below w.heap.size w w'):ToldI w' G v zs:=h.grew (Grew.of_below hb)
theorem ToldI.at{a:Option Addr}{n c:Nat}(h:ToldI w G (.slice a n c) zs){i:Nat}(hi:i<zs.length):∃b,a=some ⟨b,0,none⟩/\b<w.heap.size/\¬G b/\w.cell? ⟨b,i,none⟩=some (.int .i64 ((zs.getD i 0:Nat):Int)):=by
 obtain⟨a',c',e,h⟩:=h;simp at e;obtain⟨rfl,_⟩:=e;obtain⟨b,e1,h1,h2,h3⟩:=h (fun e=>by rw[e]at hi;simp at hi);exact⟨b,e1,h1,h2,h3 i hi⟩
end
structure ToldL(w:World)(G:Nat->Prop)(v:Value)(L:List (List UInt8)):Prop where
 rs:Rs w v L
 ap:∀(b off n c:Nat),v= .slice (some ⟨b,off,none⟩) n c->L.length=0∨¬G b
 each:∀(i b off n c:Nat) (x:Value),i<L.length->v= .slice (some ⟨b,off,none⟩) n c->w.cell? ⟨b,off+i,none⟩=some x->ApartG G x
section
variable {w w':World} {G G':Nat->Prop} {v:Value} {L:List (List UInt8)}
theorem ToldL.spot(h:ToldL w G v L){i b off n c:Nat}(hi:i<L.length)(e:v= .slice (some ⟨b,off,none⟩) n c):∃xa xc,w.cell? ⟨b,off+i,none⟩=some (.slice xa (ro L i).length xc)/\Told w G (.slice xa (ro L i).length xc) (ro L i)/\b<w.heap.size/\¬G b:=by
 have hr:=h.rs;subst e;obtain⟨b',off',xa,xc,e1,hb,hc,hR⟩:=hr.at hi;simp at e1;obtain⟨rfl,rfl⟩:=e1;exact⟨xa,xc,hc,⟨hR,h.each i _ _ _ _ _ hi rfl hc⟩,hb,(h.ap _ _ _ _ rfl).resolve_left Zo⟩
theorem ToldL.keep(h:ToldL w G v L)(hs:w.heap.size<=w'.heap.size)(hc:∀k,k<w.heap.size->¬G k->w'.heap[k]? =w.heap[k]?)(hG:∀k,k<w.heap.size->¬G k->¬G' k)(hR:∀x p,Told w G x p->Told w' G' x p):ToldL w' G' v L:=by
 have hr:=h.rs;obtain⟨a,cap,h1,h2,h3,h4,h5⟩:=hr;have cell:∀i b off,i<L.length->a=some ⟨b,off,none⟩->w'.cell? ⟨b,off+i,none⟩=w.cell? ⟨b,off+i,none⟩:=fun i b off hi e=>by
  obtain⟨_,_,_,_,hb,hg⟩:=h.spot hi (h1.trans (by rw[e]));exact Zc (w:=w) (hc b hb hg)
 refine⟨⟨a,cap,h1,h2,h3,h4,fun i hi=>?_⟩,fun b off n c e=>?_,fun i b off n c x hi e hx=>?_⟩
 ·obtain⟨b,off,x,k1,k2,k3,k4⟩:=h5 i hi;exact⟨b,off,x,k1,Zu k2 hs,(cell i b off hi k1).trans k3,(hR x _ ⟨k4,h.each i b off _ _ x hi (h1.trans (by rw[k1])) k3⟩).rd⟩
 ·rcases Nat.eq_zero_or_pos L.length with e0|e0
  ·exact Or.inl e0
  ·obtain⟨_,_,_,_,hb,hg⟩:=h.spot e0 e;exact Or.inr (hG b hb hg)
 ·have ea:a=some ⟨b,off,none⟩:=by
   rw[h1]at e;simp at e;exact e.1
  rw[cell i b off hi ea]at hx;obtain⟨xa,xc,hc2,hT,_⟩:=h.spot hi e;rw[hx]at hc2;simp at hc2;subst hc2;exact(hR _ _ hT).ap
theorem ToldL.below(h:ToldL w G v L)(hb:Below w.heap.size w w'):ToldL w' G v L:=h.keep hb.size (fun k hk _=>hb.block k hk) (fun _ _ hg=>hg) (fun x p t=>t.below hb)
theorem ToldL.grew(h:ToldL w G v L)(g:Grew G w G' w'):ToldL w' G' v L:=h.keep g.turn.size (fun k hk hg=>g.turn.block k hk hg) (fun k hk hg=>g.off hk hg) (fun x p t=>t.grew g)
theorem ToldL.turn(h:ToldL w G v L)(t:TurnG G w w'):ToldL w' G v L:=h.grew (Grew.of_turn t)
theorem ToldL.far{base:Nat}(h:FarL w base v L)(hG:∀k,G k->k<base):ToldL w G v L:=by
 have hr:=h.rs;obtain⟨T,u,vals,hv,ho⟩:=h;have hlen:vals.length=L.length:=by have:=hv.1;omega
 refine⟨hr,fun b off n c e=>?_,fun i b off n c x hi e hx=>?_⟩
 ·refine Or.inr fun hg=>?_
  have:=Zv hv b (by rw[e];rfl);have:=hG b hg;omega
 ·obtain⟨_,⟨e2,hn⟩|⟨g,cap,cur,e2,hgg,hh,hc,hm,hs,ht⟩⟩:=id hv
  ·omega
  ·rw[e]at e2;simp at e2;obtain⟨⟨rfl,rfl⟩,rfl,rfl⟩:=e2;rw[e]at hv;rw[Nat.zero_add,World.ownsRow.cellAt hv i Zo]at hx;have hp:=ho.own i x hx;exact ApartG.own hp (fun k hk=>hG k hk)
end
def wnT(a:ArS)(g:GeoS)(st ep:Int)(R:List (List UInt8))(B:List Nat):Nat:=if pcT a g st ep R B=true then 0 else pnT a g st ep R B B.length
def wxT(a:ArS)(g:GeoS)(st ep:Int)(R:List (List UInt8))(B:List Nat):Int:=if pcT a g st ep R B=true then 130 else 0
theorem wf_small{x:Int}(h0:0<=x)(h1:x<=100000):(Lit.int .i64 x).wf=true:=by
 simp[Lit.wf,IntKind.min,IntKind.max,IntKind.signed,IntKind.bits];omega
theorem getD_memN{B:List Nat}{r:Nat}(h:r<B.length):B.getD r 0∈B:=by
 rw[show B.getD r 0=B[r] by simp[List.getD,h]];exact List.getElem_mem h
theorem z28_1{p:Prop} (h:p:=by
 go_wp2_with fail
 go_region_held3 (fun wx=>wx.cell? ⟨xb,xo+sh,none⟩=some (.slice xa LN xc)/\wx.cell? ⟨w.heap.size,0,none⟩=some (.pointer (some ⟨ab,0,none⟩))/\wx.cell? ⟨w.heap.size,1,none⟩=some (.pointer pf)/\wx.cell? ⟨w.heap.size,2,none⟩=some (.int .i64 k)/\wx.cell? ⟨w.heap.size,3,none⟩=some (.int .i64 m)/\wx.cell? ⟨w.heap.size,4,none⟩=some (.int .i64 z)/\wx.cell? ⟨w.heap.size,5,none⟩=some (.int .i64 s)/\wx.cell? ⟨w.heap.size,6,none⟩=some (.int .i64 t)/\wx.cell? ⟨w.heap.size,7,none⟩=some (.int .i64 o)/\wx.cell? ⟨w.heap.size,8,none⟩=some (.int .i64 st)/\wx.cell? ⟨w.heap.size,9,none⟩=some (.int .i64 ep)) (first|exact s0|exact sD|exact s1|exact s2) (first
  |(go_at_call 86;go_loud (refine(KP _).mono ?_);rintro _ v1 ⟨rfl,b1⟩;go_loud (have s1:=SB.out _ b1);go_loud (have E1:Hid (Below wr.heap.size wr v1):=BD.stepL b1 BD.size))
  |(go_at_call 85;go_loud (refine(KK1 _ (RX.out _ E1.out)).mono ?_);rintro _ v2 ⟨vp,rfl,R2,b2⟩;have E2:Hid (Below wr.heap.size wr v2):=E1.out.stepL b2 E1.out.size;have s2:=SE.out _ E2.out;obtain⟨pa,pc,rfl⟩:=R2.form))
 have HR2:Hid (Rd v2 (.slice pa pk.length pc) pk):=R2;have c2:=s2.2;clear s0 sD s1 s2 b1 b2 R2 E1;obtain⟨LP,hLP⟩:∃LP,Hid (LP=pk.length):=⟨_,rfl⟩;rw[<-hLP.out]at HR2 ⊢;have d2:=(SE.out _ (E2.out.drew)).2;have BD2:Hid (Below wr.heap.size wr v2.drew):=E2.out.drew
 go_wp2_with fail
 go_region_held3 (fun wx=>wx.cell? ⟨w.heap.size,0,none⟩=some (.pointer (some ⟨ab,0,none⟩))/\wx.cell? ⟨w.heap.size,1,none⟩=some (.pointer pf)/\wx.cell? ⟨w.heap.size,2,none⟩=some (.int .i64 k)/\wx.cell? ⟨w.heap.size,3,none⟩=some (.int .i64 m)/\wx.cell? ⟨w.heap.size,4,none⟩=some (.int .i64 z)/\wx.cell? ⟨w.heap.size,5,none⟩=some (.int .i64 s)/\wx.cell? ⟨w.heap.size,6,none⟩=some (.int .i64 t)/\wx.cell? ⟨w.heap.size,7,none⟩=some (.int .i64 o)/\wx.cell? ⟨w.heap.size,8,none⟩=some (.int .i64 st)/\wx.cell? ⟨w.heap.size,9,none⟩=some (.int .i64 ep)) (first|exact c2|exact d2|exact c3|exact c4|exact c5) (first
  |(go_at_call 87;go_loud (refine(KD1 _).mono ?_);rintro _ v3 ⟨rfl,b3⟩;have E3:Hid (Below wr.heap.size wr v3):=BD2.out.stepL b3 BD2.out.size;have c3:=(SE.out _ E3.out).2)
  |(go_at_call 86;go_loud (refine(KP _).mono ?_);rintro _ v4 ⟨rfl,b4⟩;have E4:Hid (Below wr.heap.size wr v4):=E3.out.stepL b4 E3.out.size;have c4:=(SE.out _ E4.out).2;go_loud (have R4:=(HR2.out.below (E2D.out b3)).below b4))
  |(go_at_call 70;go_loud (refine(KW _ E4.out R4).mono ?_);rintro _ v5 ⟨rfl,G5,A5,g5⟩;go_loud (have c5:=ST.out _ _ _ E4.out g5)))
 have HA5:Hid _:=A5;have HG5:Hid (Grew GA W0 G5 v5):=hGr.trans ((Grew.of_below E4.out).trans g5);clear c2 d2 c3 c4 c5 b3 b4 R4 A5 g5 E2 E3 E4 BD2 KK1 KD1 KW HR2 hGr;go_wp2;go_roundw
 case rel=>exact⟨r+1,Zo,Zg,by rw[HP1.out]<;>first|rfl|go_num,rfl,⟨G5,by rw[<-e2.out];exact HA5.out,HG5.out⟩,H2.out⟩
 case measure=>simp[intOf];omega
 ):p:=h
theorem pwrite_any{w:World}{ab:Nat}{GA:Nat->Prop}{a:ArS}(h:ArAt w ab GA a){pf:Option Addr}{g:GeoS}(hg:g.Wf){st ep:Int}(hst:(Lit.int .i64 st).wf=true)(hT:OkT g st ep){vs vi:Value}{R:List (List UInt8)}{B:List Nat}(hR:ToldL w GA vs R)(hI:ToldI w GA vi B)(hB:∀i,i∈B->i<nT g/\i<R.length)(hrow:∀i,i<R.length->(ro R i).length<=4096)(hl:B.length<=1000):
  Calls Tryz.prog 52 #[aggP (some ⟨ab,0,none⟩) pf g st ep,vs,vi] w (LeavesA w ab GA (psT a g st ep R B B.length) (.tuple #[.int .i64 ((wnT a g st ep R B:Nat):Int),.int .i64 (wxT a g st ep R B)])):=by
 have zz:=okG_nat hT.1;have sin:=stG_in hT.1 hT.2.1 hT.2.2.1;obtain⟨at_,t0⟩:∃x,Hid (x=stG g st):=⟨_,rfl⟩;rw[<-t0.out]at sin;obtain⟨AR,hAR⟩:∃AR:Nat->ArS,Hid (AR=psT a g st ep R B):=⟨_,rfl⟩;obtain⟨PN,hPN⟩:∃PN:Nat->Nat,Hid (PN=pnT a g st ep R B):=⟨_,rfl⟩;have AR0:Hid (AR 0=a):=by show _=_;rw[hAR.out];rfl
 have PN0:Hid (PN 0=0):=by show _=_;rw[hPN.out];rfl
 have ARs:Hid (∀r,AR (r+1)=puS (AR r) g st ep (B.getD r 0) (ro R (B.getD r 0))):=fun r=>by rw[hAR.out];rfl
 have PNs:Hid (∀r,PN (r+1)=PN r+(if puX (AR r) g st ep (B.getD r 0) (ro R (B.getD r 0))=0 then 1 else 0)):=fun r=>by rw[hPN.out,hAR.out];rfl
 have SX:Hid (∀r,r<B.length->(AR r).off=true->wnT a g st ep R B=0/\wxT a g st ep R B=130/\psT a g st ep R B B.length=AR r):=fun r hr ho=>by
  rw[hAR.out]at ho ⊢;obtain⟨q1,q2⟩:=pc_at hr ho;exact⟨if_pos q1,if_pos q1,q2⟩
 have SN:Hid ((∀r,r<B.length->(AR r).off=false)->wnT a g st ep R B=PN B.length/\wxT a g st ep R B=0/\psT a g st ep R B B.length=AR B.length):=fun ho=>by
  have q1:¬pcT a g st ep R B=true:=by rw[pc_end (fun i hi=>by rw[<-hAR.out];exact ho i hi)];decide
  exact⟨by rw[hPN.out];exact if_neg q1,if_neg q1,by rw[hAR.out]⟩
 have PNle:Hid (∀r,r<=1001->PN r<=r):=fun r _=>by
  rw[hPN.out]
  induction r with
  |zero=>exact Zr
  |succ r ih=>
   have:=ih Zo
   show pnT a g st ep R B r+_<=_
   split<;>omega
 have KP:=fun W=>@pplace_any W (some ⟨ab,0,none⟩) pf g st ep hg hst _ t0.out.symm
 have KD:=fun W (i:Nat) (hi:i<nT g)=>@pdisk_any W (some ⟨ab,0,none⟩) pf g st ep hg hst (i:Int) (wf_small Zo (by have:=zz.2.2.2.2.1;omega)) _ rfl
 have KK:=fun W (v:Value) (b:List UInt8) (hb:b.length<=4096) (hr:Rd W v b)=>spack_any (a:=at_) (e:=ep) hr
 have KX:Hid (∀b:List UInt8,b.length<=4096->paX at_ ep b=0/\paR at_ ep b=pkT g st ep b):=fun b hb=>by
  rw[t0.out];exact pa_ok (hT.se hb)
 have DI:Hid (∀i:Nat,i<nT g->0<=diG g st (i:Int)/\diG g st (i:Int)<=100000):=fun i hi=>by
  have:=diG_in hT.1 hT.2.1 hT.2.2.1 hi;have:=zz.2.2.2.2.1;omega
 have EX:Hid (∀r,puX (AR r) g st ep (B.getD r 0) (ro R (B.getD r 0))=wrAX (AR r) (diG g st ((B.getD r 0:Nat):Int)) at_ (pkT g st ep (ro R (B.getD r 0)))):=fun r=>by rw[t0.out];rfl
 have ES:Hid (∀r,puS (AR r) g st ep (B.getD r 0) (ro R (B.getD r 0))=wrAS (AR r) (diG g st ((B.getD r 0:Nat):Int)) at_ (pkT g st ep (ro R (B.getD r 0)))):=fun r=>by rw[t0.out];rfl
 have wat:(Lit.int .i64 at_).wf=true:=wf_small Zo Zo;have HB:Hid (∀i,i∈B->i<nT g/\i<R.length):=hB;have Hrow:Hid (∀i,i<R.length->(ro R i).length<=4096):=hrow;have HGA:Hid (∀k,GA k->k<w.heap.size):=h.lt;clear zz sin t0 hAR hPN hB hrow hT;obtain⟨DG,hDG⟩:∃DG:Nat->Int,Hid (DG=fun i:Nat=>diG g st (i:Int)):=⟨_,rfl⟩;have KD':∀W (i:Nat),i<nT g->Calls Tryz.prog 87 #[aggP (some ⟨ab,0,none⟩) pf g st ep,.int .i64 (i:Int)] W fun e w'=>e= .returned (.int .i64 (DG i))/\Below W.heap.size W w':=fun W i hi=>by rw[hDG.out];exact KD W i hi
 have DI':Hid (∀i:Nat,i<nT g->0<=DG i/\DG i<=100000):=by rw[hDG.out];exact DI
 have EX':Hid (∀r,puX (AR r) g st ep (B.getD r 0) (ro R (B.getD r 0))=wrAX (AR r) (DG (B.getD r 0)) at_ (pkT g st ep (ro R (B.getD r 0)))):=by rw[hDG.out];exact EX
 have ES':Hid (∀r,puS (AR r) g st ep (B.getD r 0) (ro R (B.getD r 0))=wrAS (AR r) (DG (B.getD r 0)) at_ (pkT g st ep (ro R (B.getD r 0)))):=by rw[hDG.out];exact ES
 clear KD DI EX ES hDG;obtain⟨k,m,z,s,t,o⟩:=g;obtain⟨fin1,hf1⟩:∃x,Hid (x=psT a ⟨k,m,z,s,t,o⟩ st ep R B B.length):=⟨_,rfl⟩;obtain⟨fin2,hf2⟩:∃x,Hid (x=wnT a ⟨k,m,z,s,t,o⟩ st ep R B):=⟨_,rfl⟩;obtain⟨fin3,hf3⟩:∃x,Hid (x=wxT a ⟨k,m,z,s,t,o⟩ st ep R B):=⟨_,rfl⟩;rw[<-hf1.out,<-hf2.out,<-hf3.out];have LB:=spot_laid w (some ⟨ab,0,none⟩) pf ⟨k,m,z,s,t,o⟩ st ep 103;unfold aggP at KP KD' ⊢;simp only[cellsP]at KP KD' LB ⊢;obtain⟨sa,sc,rfl⟩:=hR.rs.form;obtain⟨ia,ic,rfl⟩:=hI.form;obtain⟨W0,hW0⟩:∃W0,W0=w.alloc (.cells #[.pointer (some ⟨ab,0,none⟩),.pointer pf,.int .i64 k,.int .i64 m,.int .i64 z,.int .i64 s,.int .i64 t,.int .i64 o,.int .i64 st,.int .i64 ep] 103):=⟨_,rfl⟩;rw[<-hW0]at LB;obtain⟨SP0,F0⟩:=LB _ Zf;have HSP:Hid (SpotAt W0 w.heap.size (some ⟨ab,0,none⟩) pf ⟨k,m,z,s,t,o⟩ st ep/\¬GA w.heap.size):=⟨SP0,fun q=>Nat.lt_irrefl _ (HGA.out _ q)⟩;have TL:Hid (ToldL W0 GA (.slice sa R.length sc) R):=hR.below F0;have TI:Hid (ToldI W0 GA (.slice ia B.length ic) B):=hI.below F0;have A0:Hid (ArAt W0 ab GA (AR 0)):=by rw[AR0.out];exact h.below F0
 have G0:Hid (Grew GA w GA W0):=Grew.of_below F0;clear LB SP0 F0 hR hI h
 go_enter Tryz.func52,Tryz.ntmps52
 go_wp2_with fail
 rw[<-hW0];clear hW0;go_step3
 go_wp2_with fail
 go_step3
 go_wp2_with fail
 go_loopw [8,9,16] (fun wn wt i wr=>∃r:Nat,r<=B.length/\i= .int .i64 (r:Int)/\wn= .int .i64 ((PN r:Nat):Int)/\wt= .int .i64 0/\(∃G',ArAt wr ab G' (AR r)/\Grew GA W0 G' wr)/\∀j,j<r->(AR j).off=false) (fun _ _ i _=>B.length-(intOf i).toNat)
 case atStart=>exact⟨0,Zz,rfl,by rw[PN0.out];rfl,rfl,⟨GA,A0.out,Grew.refl _ _⟩,fun j hj=>absurd hj (Nat.not_lt_zero _)⟩
 case round=>
  clear A0;obtain⟨r,hr,rfl,rfl,rfl,⟨G',hA,hGr⟩,hoff⟩:=hrel;obtain⟨pn,hpn⟩:∃pn,Hid (PN r=pn):=⟨_,rfl⟩;rw[hpn.out]
  by_cases hlt:r<B.length
  ·have hlt':(r:Int)<(B.length:Int):=by omega
   have g1:IntKind.i64.wrap ((r:Int)+1)=((r+1:Nat):Int):=Zw
   obtain⟨sh,hsh⟩:∃sh,Hid (B.getD r 0=sh):=⟨_,rfl⟩;obtain⟨hsn,hsR⟩:Hid (sh<nT ⟨k,m,z,s,t,o⟩)/\sh<R.length:=by
    have:=HB.out _ (getD_memN hlt);rw[hsh.out]at this;exact this
   have hsR':(sh:Int)<(R.length:Int):=Zo
   obtain⟨ib,rfl,_,_,ci⟩:=(TI.out.grew hGr).at hlt;rw[hsh.out]at ci;obtain⟨xb,xo,esx⟩:∃xb xo,sa=some ⟨xb,xo,none⟩:=by
    obtain⟨b,off,_,_,e,_⟩:=TL.out.rs.at hsR;exact⟨b,off,e⟩
   subst esx;obtain⟨xa,xc,cx,Tx,xlt,xng⟩:=(TL.out.grew hGr).spot hsR rfl;obtain⟨LN,hLN⟩:∃LN,Hid (LN=(ro R sh).length):=⟨_,rfl⟩;rw[<-hLN.out]at cx Tx;have ng:Hid (¬G' w.heap.size):=hGr.off HSP.out.1.lt HSP.out.2;have SPr:Hid (SpotAt wr w.heap.size (some ⟨ab,0,none⟩) pf ⟨k,m,z,s,t,o⟩ st ep):=HSP.out.1.turn HSP.out.2 hGr.turn;have BD:Below wr.heap.size wr wr.drew:=Zf.drew;have SE:Hid (∀W,Below wr.heap.size wr W->W.cell? ⟨xb,xo+sh,none⟩=some (.slice xa LN xc)/\W.cell? ⟨w.heap.size,0,none⟩=some (.pointer (some ⟨ab,0,none⟩))/\W.cell? ⟨w.heap.size,1,none⟩=some (.pointer pf)/\W.cell? ⟨w.heap.size,2,none⟩=some (.int .i64 k)/\W.cell? ⟨w.heap.size,3,none⟩=some (.int .i64 m)/\W.cell? ⟨w.heap.size,4,none⟩=some (.int .i64 z)/\W.cell? ⟨w.heap.size,5,none⟩=some (.int .i64 s)/\W.cell? ⟨w.heap.size,6,none⟩=some (.int .i64 t)/\W.cell? ⟨w.heap.size,7,none⟩=some (.int .i64 o)/\W.cell? ⟨w.heap.size,8,none⟩=some (.int .i64 st)/\W.cell? ⟨w.heap.size,9,none⟩=some (.int .i64 ep)):=fun W b=>⟨(b.cell (p:=⟨xb,xo+sh,none⟩) xlt).trans cx,(SPr.out.below SPr.out.lt b).all⟩
   have SB:Hid (∀W,Below wr.drew.heap.size wr.drew W->W.cell? ⟨xb,xo+sh,none⟩=some (.slice xa LN xc)/\W.cell? ⟨w.heap.size,0,none⟩=some (.pointer (some ⟨ab,0,none⟩))/\W.cell? ⟨w.heap.size,1,none⟩=some (.pointer pf)/\W.cell? ⟨w.heap.size,2,none⟩=some (.int .i64 k)/\W.cell? ⟨w.heap.size,3,none⟩=some (.int .i64 m)/\W.cell? ⟨w.heap.size,4,none⟩=some (.int .i64 z)/\W.cell? ⟨w.heap.size,5,none⟩=some (.int .i64 s)/\W.cell? ⟨w.heap.size,6,none⟩=some (.int .i64 t)/\W.cell? ⟨w.heap.size,7,none⟩=some (.int .i64 o)/\W.cell? ⟨w.heap.size,8,none⟩=some (.int .i64 st)/\W.cell? ⟨w.heap.size,9,none⟩=some (.int .i64 ep)):=fun W b=>SE.out W (BD.stepL b BD.size)
   have s0:=SE.out wr Zf;have sD:=SE.out _ BD;have RX:Hid (∀W,Below wr.heap.size wr W->Rd W (.slice xa LN xc) (ro R sh)):=fun W b=>Tx.rd.below b
   obtain⟨pk,hpk⟩:∃pk,Hid (pk=pkT ⟨k,m,z,s,t,o⟩ st ep (ro R sh)):=⟨_,rfl⟩;have KK1:∀W,Rd W (.slice xa LN xc) (ro R sh)->Calls Tryz.prog 85 #[.int .i64 at_,.int .i64 ep,.slice xa LN xc] W (MakesS W 0 pk):=fun W hr=>by
    have:=KK W _ (ro R sh) (Hrow.out _ hsR) hr;rw[(KX.out _ (Hrow.out _ hsR)).1,(KX.out _ (Hrow.out _ hsR)).2,<-hpk.out]at this;exact this
   have KD1:=fun W=>KD' W sh hsn
   obtain⟨dd,hdd⟩:∃dd,Hid (dd=DG sh):=⟨_,rfl⟩;rw[<-hdd.out]at KD1;have wdd:(Lit.int .i64 dd).wf=true:=by rw[hdd.out];exact wf_small (DI'.out sh hsn).1 (DI'.out sh hsn).2
   obtain⟨px,hpx⟩:∃px,Hid (puX (AR r) ⟨k,m,z,s,t,o⟩ st ep sh (ro R sh)=px):=⟨_,rfl⟩;obtain⟨AN,hAN⟩:∃AN,Hid (puS (AR r) ⟨k,m,z,s,t,o⟩ st ep sh (ro R sh)=AN):=⟨_,rfl⟩;have KW:∀W,Below wr.heap.size wr W->∀{pa:Option Addr} {pc LP:Nat},Rd W (.slice pa LP pc) pk->Calls Tryz.prog 70 #[.pointer (some ⟨ab,0,none⟩),.int .i64 dd,.int .i64 at_,.slice pa LP pc] W (LeavesA W ab G' AN (.int .i64 px)):=fun W b _ _ _ hp=>by
    have:=awrite_any (hA.below b) wdd wat hp;have e1:=EX'.out r;have e2:=ES'.out r;rw[hsh.out,<-hdd.out,<-hpk.out,hpx.out]at e1;rw[hsh.out,<-hdd.out,<-hpk.out,hAN.out]at e2;rw[<-e1,<-e2]at this;exact this
   have ST:Hid (∀W G5 W5,Below wr.heap.size wr W->Grew G' W G5 W5->W5.cell? ⟨w.heap.size,0,none⟩=some (.pointer (some ⟨ab,0,none⟩))/\W5.cell? ⟨w.heap.size,1,none⟩=some (.pointer pf)/\W5.cell? ⟨w.heap.size,2,none⟩=some (.int .i64 k)/\W5.cell? ⟨w.heap.size,3,none⟩=some (.int .i64 m)/\W5.cell? ⟨w.heap.size,4,none⟩=some (.int .i64 z)/\W5.cell? ⟨w.heap.size,5,none⟩=some (.int .i64 s)/\W5.cell? ⟨w.heap.size,6,none⟩=some (.int .i64 t)/\W5.cell? ⟨w.heap.size,7,none⟩=some (.int .i64 o)/\W5.cell? ⟨w.heap.size,8,none⟩=some (.int .i64 st)/\W5.cell? ⟨w.heap.size,9,none⟩=some (.int .i64 ep)):=fun W G5 W5 b gg=>((SPr.out.below SPr.out.lt b).turn ng.out gg.turn).all
   have E2D:Hid (∀{v2 v3:World},Below v2.drew.heap.size v2.drew v3->Below v2.heap.size v2 v3):=fun b=>(Zf.drew).stepL b Zr
   have HARs:Hid _:=ARs.out r;have HPNs:Hid _:=PNs.out r;rw[hsh.out]at HARs HPNs;clear cx Tx hA xlt xng wdd
   by_cases ho:(AR r).off=true
   ·have e1:px=130:=by rw[<-hpx.out];exact puX_crash.2 ho
    have e2:Hid (AN=AR r):=by show _=_;rw[<-hAN.out];exact puS_off ho _ _
    have E9:Hid _:=SX.out r hlt ho;clear ho hoff;subst e1
    go_wp2_with fail
    go_region_held3 (fun wx=>wx.cell? ⟨xb,xo+sh,none⟩=some (.slice xa LN xc)/\wx.cell? ⟨w.heap.size,0,none⟩=some (.pointer (some ⟨ab,0,none⟩))/\wx.cell? ⟨w.heap.size,1,none⟩=some (.pointer pf)/\wx.cell? ⟨w.heap.size,2,none⟩=some (.int .i64 k)/\wx.cell? ⟨w.heap.size,3,none⟩=some (.int .i64 m)/\wx.cell? ⟨w.heap.size,4,none⟩=some (.int .i64 z)/\wx.cell? ⟨w.heap.size,5,none⟩=some (.int .i64 s)/\wx.cell? ⟨w.heap.size,6,none⟩=some (.int .i64 t)/\wx.cell? ⟨w.heap.size,7,none⟩=some (.int .i64 o)/\wx.cell? ⟨w.heap.size,8,none⟩=some (.int .i64 st)/\wx.cell? ⟨w.heap.size,9,none⟩=some (.int .i64 ep)) (first|exact s0|exact sD|exact s1|exact s2) (first
     |(go_at_call 86;go_loud (refine(KP _).mono ?_);rintro _ v1 ⟨rfl,b1⟩;go_loud (have s1:=SB.out _ b1);go_loud (have E1:Hid (Below wr.heap.size wr v1):=BD.stepL b1 BD.size))
     |(go_at_call 85;go_loud (refine(KK1 _ (RX.out _ E1.out)).mono ?_);rintro _ v2 ⟨vp,rfl,R2,b2⟩;have E2:Hid (Below wr.heap.size wr v2):=E1.out.stepL b2 E1.out.size;have s2:=SE.out _ E2.out;obtain⟨pa,pc,rfl⟩:=R2.form))
    have HR2:Hid (Rd v2 (.slice pa pk.length pc) pk):=R2;have c2:=s2.2;clear s0 sD s1 s2 b1 b2 R2 E1;obtain⟨LP,hLP⟩:∃LP,Hid (LP=pk.length):=⟨_,rfl⟩;rw[<-hLP.out]at HR2 ⊢;have d2:=(SE.out _ (E2.out.drew)).2;have BD2:Hid (Below wr.heap.size wr v2.drew):=E2.out.drew
    go_wp2_with fail
    go_region_held3 (fun wx=>wx.cell? ⟨w.heap.size,0,none⟩=some (.pointer (some ⟨ab,0,none⟩))/\wx.cell? ⟨w.heap.size,1,none⟩=some (.pointer pf)/\wx.cell? ⟨w.heap.size,2,none⟩=some (.int .i64 k)/\wx.cell? ⟨w.heap.size,3,none⟩=some (.int .i64 m)/\wx.cell? ⟨w.heap.size,4,none⟩=some (.int .i64 z)/\wx.cell? ⟨w.heap.size,5,none⟩=some (.int .i64 s)/\wx.cell? ⟨w.heap.size,6,none⟩=some (.int .i64 t)/\wx.cell? ⟨w.heap.size,7,none⟩=some (.int .i64 o)/\wx.cell? ⟨w.heap.size,8,none⟩=some (.int .i64 st)/\wx.cell? ⟨w.heap.size,9,none⟩=some (.int .i64 ep)) (first|exact c2|exact d2|exact c3|exact c4|exact c5) (first
     |(go_at_call 87;go_loud (refine(KD1 _).mono ?_);rintro _ v3 ⟨rfl,b3⟩;have E3:Hid (Below wr.heap.size wr v3):=BD2.out.stepL b3 BD2.out.size;have c3:=(SE.out _ E3.out).2)
     |(go_at_call 86;go_loud (refine(KP _).mono ?_);rintro _ v4 ⟨rfl,b4⟩;have E4:Hid (Below wr.heap.size wr v4):=E3.out.stepL b4 E3.out.size;have c4:=(SE.out _ E4.out).2;go_loud (have R4:=(HR2.out.below (E2D.out b3)).below b4))
     |(go_at_call 70;go_loud (refine(KW _ E4.out R4).mono ?_);rintro _ v5 ⟨rfl,G5,A5,g5⟩;go_loud (have c5:=ST.out _ _ _ E4.out g5)))
    have HA5:Hid _:=A5;have HG5:Hid (Grew GA W0 G5 v5):=hGr.trans ((Grew.of_below E4.out).trans g5);clear c2 d2 c3 c4 c5 b3 b4 R4 A5 g5 E2 E3 E4 BD2 KK1 KD1 KW HR2 hGr;go_wp2
    try rw[Exit.noGoto_ret]
    refine bodyPost_ret (v:=.tuple #[.int .i64 0,.int .i64 130]) (by simp[results,Tryz.results52,go_sem]) rfl ?_
    exact⟨by rw[hf2.out,hf3.out,E9.out.1,E9.out.2.1];rfl,G5,by rw[hf1.out,E9.out.2.2,<-e2.out];exact HA5.out,G0.out.trans HG5.out⟩
   ·have ho':(AR r).off=false:=by simpa using ho
    have e1:¬px=130:=by rw[<-hpx.out];exact fun e=>ho (puX_crash.1 e)
    have e1':(px==130)=false:=Zq.2 e1;have e2:Hid (AN=AR (r+1)):=by show _=_;rw[<-hAN.out];exact HARs.out.symm
    have H2:Hid (∀j,j<r+1->(AR j).off=false):=fun j hj=>by
     by_cases e:j=r
     ·rw[e];exact ho'
     ·exact hoff j Zo
    have HP:Hid (PN (r+1)=pn+(if px=0 then 1 else 0)):=by
     show _=_
     rw[HPNs.out,hpx.out,hpn.out]
    clear hoff ho ho' HPNs
    by_cases hp0:px=0
    ·have HP1:Hid (PN (r+1)=pn+1):=by show _=_;rw[HP.out,if_pos hp0]
     have gp:IntKind.i64.wrap ((pn:Int)+1)=((pn+1:Nat):Int):=by
      have:=PNle.out (r+1) Zo;have:=HP1.out;rw[IntKind.wrap_i64];omega
     subst hp0;exact z28_1
    ·have HP1:Hid (PN (r+1)=pn):=by show _=_;rw[HP.out,if_neg hp0];rfl
     have hp0':(px==0)=false:=Zq.2 hp0;exact z28_1
  ·obtain rfl:r=B.length:=by omega
   have hlt':¬(B.length:Int)<(B.length:Int):=Zo
   have E9:Hid _:=SN.out hoff;have HA5:Hid (ArAt wr ab G' (AR B.length)):=hA;have HG5:Hid (Grew GA W0 G' wr):=hGr;clear hA hGr hoff;go_wp2
   try rw[Exit.noGoto_ret]
   refine bodyPost_ret (v:=.tuple #[.int .i64 (pn:Int),.int .i64 0]) (by simp[results,Tryz.results52,go_sem]) rfl ?_
   exact⟨by rw[hf2.out,hf3.out,E9.out.1,E9.out.2.1,hpn.out],G',by rw[hf1.out,E9.out.2.2];exact HA5.out,G0.out.trans HG5.out⟩
theorem pupto_any{w:World}{n:Nat}(hn:n<=1000):Calls Tryz.prog 54 #[.int .i64 (n:Int)] w (MadeRow w 3 n (fun i=>.int .i64 (i:Int))):=by
 have mk1:=run_make_row' (P:=Tryz.prog) 45 3 (.int .i64 0) 8 Tryz.underlying45 info_int13 rfl .i64 .i64 n Zo Zo;obtain⟨u,hu⟩:∃u,u=w.alloc (Obj.cells (madeCells #[Value.int .i64 0] n) 3):=⟨_,rfl⟩;have hub:Below w.heap.size w u:=by rw[hu];exact belA _ _
 have hur:u.rowIs w.heap.size 3 n (fun _=>.int .i64 0):=by rw[hu];exact World.rowIs_made _ _ _ _
 have mk2:=mk1 w;obtain⟨g,hg⟩:∃g,Hid (g=w.heap.size):=⟨_,rfl⟩;rw[<-hu,<-hg.out]at mk2;rw[<-hg.out]at hur;clear mk1 hu
 go_enter Tryz.func54,Tryz.ntmps54
 go_wp2;have START:Hid (u.rowIs g 3 n (fun j=>if j<0 then .int .i64 (j:Int)else .int .i64 0)/\Below w.heap.size w u):=⟨hur,hub⟩;clear mk2 hub hur
 go_loopw [9] (fun i wr=>∃k:Nat,k<=n/\i= .int .i64 (k:Int)/\wr.rowIs g 3 n (fun j=>if j<k then .int .i64 (j:Int)else .int .i64 0)/\Below w.heap.size w wr) (fun i _=>n-(intOf i).toNat)
 case atStart=>exact⟨0,Zz,rfl,START.out⟩
 case round=>
  clear START;obtain⟨k,hk,rfl,hr,hb⟩:=hrel
  by_cases hlt:k<n
  ·have hlt':(k:Int)<(n:Int):=by omega
   have g1:IntKind.i64.wrap ((k:Int)+1)=((k+1:Nat):Int):=Zw
   have cq:=hr.cell hlt;have fq:=hr.frozen k;have E2:Hid ((wr.setCell ⟨g,k,none⟩ (.int .i64 (k:Int))).rowIs g 3 n (fun j=>if j<k+1 then .int .i64 (j:Int)else .int .i64 0)/\Below w.heap.size w (wr.setCell ⟨g,k,none⟩ (.int .i64 (k:Int)))):=by
    refine⟨(hr.set k (.int .i64 (k:Int))).congr fun j hj=>?_,hb.setCell (by rw[hg.out];exact Zr) _⟩
    by_cases e:j=k
    ·rw[if_pos e,if_pos Zo,e]
    ·rw[if_neg e]
     by_cases e2:j<k
     ·rw[if_pos e2,if_pos Zo]
     ·rw[if_neg e2,if_neg Zo]
   clear hr hb;go_wp2;go_roundw
   case rel=>exact⟨k+1,Zo,Zg,E2.out⟩
   case measure=>simp[intOf];omega
  ·have hlt':¬(k:Int)<(n:Int):=by omega
   have hkn:Hid (k=n):=by show k=n;omega
   have FIN:Hid (wr.rowIs g 3 n (fun j=>.int .i64 (j:Int))/\w.heap.size<=g/\Below w.heap.size w wr):=⟨hr.congr fun j hj=>if_pos (by have:=hkn.out;omega),by rw[hg.out];exact Zr,hb⟩;clear hr hb;go_wp2;go_ret;exact⟨g,rfl,FIN.out⟩
def MakesP15(w:World)(L:List UInt8)(b:Bool)(e:Ending)(w':World):Prop:=∃v,e= .returned (.tuple #[v,.bool b])/\Rd w' v L/\FarV w v/\Below w.heap.size w w'
section
variable {w:World} {pa pf:Option Addr} {g:GeoS} {st ep:Int}
theorem z28_3{p:Prop} (h:p:=by
 go_wp2;refine bodyPost_ret (v:=.tuple #[.slice none 0 0,.bool false]) (by simp[results,Tryz.results132,go_sem]) rfl ?_
 exact⟨_,rfl,rd_nil0,FarV.nil _ _ _,FB.out⟩
 ):p:=h
theorem z28_2{p:Prop} (h:p:=by
 go_enter Tryz.func132,Tryz.ntmps132
 go_wp2_with fail
 refine(KP _).mono ?_
 rintro _ w1 ⟨rfl,B1⟩;obtain⟨S1,F1⟩:=LA _ B1;clear x0 x1 x2 x3 x4 x5 x6 x7 x8 x9;obtain⟨x0,x1,x2,x3,x4,x5,x6,x7,x8,x9⟩:=S1.all;simp only at x0 x1 x2 x3 x4 x5 x6 x7 x8 x9
 go_wp2_with fail
 refine(KU _ (hp.below F1)).mono ?_
 rintro _ w2 ⟨vd,rfl,R2,V2,B2⟩;have FB:Hid (Below w.heap.size w w2):=F1.stepL B2 F1.size;obtain⟨da,dc,rfl⟩:=R2.form;have S2:=(LA _ (B1.stepL B2 B1.size)).1;clear x0 x1 x2 x3 x4 x5 x6 x7 x8 x9 S1 F1 B1 B2 R2 V2 LA KP KU F0;obtain⟨x0,x1,x2,x3,x4,x5,x6,x7,x8,x9⟩:=S2.all;simp only at x0 x1 x2 x3 x4 x5 x6 x7 x8 x9;exact z28_3
 ):p:=h
theorem punpack_any(hg:g.Wf)(hst:(Lit.int .i64 st).wf=true){v:Value}{p:List UInt8}(hp:Rd w v p)(hl:p.length<=100000){F:Bool}{L:List UInt8}
  (hF:decide (upX (stG g st) p=0/\((upN (stG g st) p:Nat):Int)=ep/\(((upD (stG g st) p).length:Nat):Int)=g.z)=F) (hL:(if F=true then upD (stG g st) p else [])=L):
  Calls Tryz.prog 132 #[aggP pa pf g st ep,v] w (MakesP15 w L F):=by
 obtain⟨at_,t0⟩:∃x,Hid (x=stG g st):=⟨_,rfl⟩;rw[<-t0.out]at hF hL;have KP:=fun W=>@pplace_any W pa pf g st ep hg hst _ t0.out.symm
 have KU:=fun W (hr:Rd W v p)=>sunpack_far (a:=at_) hr hl
 obtain⟨X,hX⟩:∃X,Hid (X=upX at_ p):=⟨_,rfl⟩;obtain⟨N,hN⟩:∃N,Hid (N=upN at_ p):=⟨_,rfl⟩;obtain⟨D,hD⟩:∃D,Hid (D=upD at_ p):=⟨_,rfl⟩;rw[<-hX.out,<-hN.out,<-hD.out]at hF KU;rw[<-hD.out]at hL;clear t0 hX hN hD;obtain⟨k,m,z,s,t,o⟩:=g;simp only at hF;have LA:=spot_laid w pa pf ⟨k,m,z,s,t,o⟩ st ep 103;unfold aggP at KP ⊢;simp only[cellsP]at KP LA ⊢;have F0:=(LA _ Zf).2;obtain⟨x0,x1,x2,x3,x4,x5,x6,x7,x8,x9⟩:=(LA _ Zf).1.all;simp only at x0 x1 x2 x3 x4 x5 x6 x7 x8 x9;obtain⟨va,vc,rfl⟩:=hp.form
 by_cases h1:X=0
 rotate_left
 ·rw[Zx (fun q=>h1 q.1)]at hF;subst hF;rw[if_neg Zd]at hL;subst hL
  go_enter Tryz.func132,Tryz.ntmps132
  go_wp2_with fail
  refine(KP _).mono ?_
  rintro _ w1 ⟨rfl,B1⟩;obtain⟨S1,F1⟩:=LA _ B1;clear x0 x1 x2 x3 x4 x5 x6 x7 x8 x9;obtain⟨x0,x1,x2,x3,x4,x5,x6,x7,x8,x9⟩:=S1.all;simp only at x0 x1 x2 x3 x4 x5 x6 x7 x8 x9
  go_wp2_with fail
  refine(KU _ (hp.below F1)).mono ?_
  rintro _ w2 ⟨vd,rfl,R2,V2,B2⟩;have FB:Hid (Below w.heap.size w w2):=F1.stepL B2 F1.size;obtain⟨da,dc,rfl⟩:=R2.form;clear x0 x1 x2 x3 x4 x5 x6 x7 x8 x9 S1 F1 B1 B2 R2 V2 LA KP KU F0;exact z28_3
 subst h1
 by_cases h2:(N:Int)=ep
 rotate_left
 ·rw[Zx (fun q=>h2 q.2.1)]at hF;subst hF;rw[if_neg Zd]at hL;subst hL;have h2':((N:Int)!=ep)=true:=by simp[h2]
  exact z28_2
 subst h2
 by_cases h3:(D.length:Int)=z
 rotate_left
 ·rw[Zx (fun q=>h3 q.2.2)]at hF;subst hF;rw[if_neg Zd]at hL;subst hL;have h3':((D.length:Int)!=z)=true:=by simp[h3]
  exact z28_2
 rw[Zy ⟨rfl,rfl,h3⟩]at hF;subst hF;rw[if_pos rfl]at hL;subst hL;have h3':((D.length:Int)!=z)=false:=by simp[h3]
 subst h3
 go_enter Tryz.func132,Tryz.ntmps132
 go_wp2_with fail
 refine(KP _).mono ?_
 rintro _ w1 ⟨rfl,B1⟩;obtain⟨S1,F1⟩:=LA _ B1;clear x0 x1 x2 x3 x4 x5 x6 x7 x8 x9;obtain⟨x0,x1,x2,x3,x4,x5,x6,x7,x8,x9⟩:=S1.all;simp only at x0 x1 x2 x3 x4 x5 x6 x7 x8 x9
 go_wp2_with fail
 refine(KU _ (hp.below F1)).mono ?_
 rintro _ w2 ⟨vd,rfl,R2,V2,B2⟩;have FB:Hid (Below w.heap.size w w2):=F1.stepL B2 F1.size;have FV:Hid (FarV w vd):=fun x n c e=>(V2 x n c e).imp id fun q=>Nat.le_trans F1.size q
 obtain⟨da,dc,rfl⟩:=R2.form;have HR:Hid _:=R2;have S2:=(LA _ (B1.stepL B2 B1.size)).1;clear x0 x1 x2 x3 x4 x5 x6 x7 x8 x9 S1 F1 B1 B2 R2 V2 LA KP KU F0;obtain⟨x0,x1,x2,x3,x4,x5,x6,x7,x8,x9⟩:=S2.all;simp only at x0 x1 x2 x3 x4 x5 x6 x7 x8 x9;go_wp2;refine bodyPost_ret (v:=.tuple #[.slice da D.length dc,.bool true]) (by simp[results,Tryz.results132,go_sem]) rfl ?_
 exact⟨_,rfl,HR.out,FV.out,FB.out⟩
end
open Go.RowKit Go.Shelf
attribute [local go_sem] Oper.semAt_some
def ptV(b off z cap j:Nat):Value:=.slice (some ⟨b,off+j*z,none⟩) z (cap-j*z)
def uptoF{K:Nat}(k:Nat)(h:k<=K):List (Fin K):=(List.range k).attach.map fun j=>⟨j.1,Zu (List.mem_range.1 j.2) h⟩
theorem uptoF_length{K k:Nat}(h:k<=K):(uptoF k h).length=k:=by simp[uptoF]
theorem uptoF_val{K k:Nat}(h:k<=K):(uptoF k h).map (·.1)=List.range k:=by
 unfold uptoF;rw[List.map_map];exact List.attach_map_subtype_val _
theorem uptoF_succ{K k:Nat}(h:k+1<=K):uptoF (k+1) h=uptoF k Zo++[⟨k,h⟩]:=by
 have inj:∀x y:Fin K,x.1=y.1->x=y:=fun a b e=>Fin.ext e
 refine(List.map_inj_right inj).1 ?_
 rw[List.map_append];have e1:=uptoF_val h;have e2:=uptoF_val (K:=K) (k:=k) Zo;rw[e1,e2,List.range_succ];rfl
def KpT(Bd Bs:Nat)(W W':World):Prop:=W'.cell? ⟨Bd,0,none⟩=W.cell? ⟨Bd,0,none⟩/\W'.cell? ⟨Bs,0,none⟩=W.cell? ⟨Bs,0,none⟩
theorem KpT.refl(Bd Bs:Nat)(W:World):KpT Bd Bs W W:=⟨rfl,rfl⟩
theorem KpT.trans{Bd Bs:Nat}{A B C:World}(h:KpT Bd Bs A B)(k:KpT Bd Bs B C):KpT Bd Bs A C:=⟨k.1.trans h.1,k.2.trans h.2⟩
theorem cell_put{W:World}{l b j:Nat}{o':Obj}(h:b≠l):(W.putObj l o').cell? ⟨b,j,none⟩=W.cell? ⟨b,j,none⟩:=Zc (w:=W) (World.putObj_heap_other h)
theorem parts1_in(F:Fence)(n:Nat)(h1:F.fn 128)(hro:F.round=none)(hn:1<=n)(l Bd Bs b off z K cap N:Nat)(hz:1<=z)(hN:Hid (N=K*z))(hc:N<=cap)(hsm:N<=1000000)(J Jx:List (Fin K)->World->Prop)
  (hY:∀pre x W,J pre W->pre.length<K->YieldAt F (n-1) Tryz.prog l #[ptV b off z cap x.1] W fun e W'=>
   (e= .returned (.bool true)/\J (pre++[x]) W'/\KpT Bd Bs W W')∨(e= .returned (.bool false)/\Jx (pre++[x]) W'))
  (W:World) (cD:W.cell? ⟨Bd,0,none⟩=some (.slice (some ⟨b,off,none⟩) N cap)) (cS:W.cell? ⟨Bs,0,none⟩=some (.int .i64 (z:Int))) (h0:J [] W):
  CallsIn F n Tryz.prog 128 #[.func (.yield l) #[] #[],.pointer (some ⟨Bd,0,none⟩),.pointer (some ⟨Bs,0,none⟩)] W fun e W'=>(∃v,e= .returned v)/\
   ((∃ys,ys=uptoF K Zr/\J ys W')∨(∃pre,True/\Jx pre W')):=by
 refine callsIn_of_wp Tryz.func128 rfl h1 ?_ hro
 simp only[Tryz.ntmps128,List.size_toArray,List.length_cons,List.length_nil,Nat.reduceAdd,Nat.reduceSub,Array.replicate_succ,Array.replicate_zero,List.push_toArray,List.append_toArray,List.nil_append,List.cons_append];have KpR:Hid (∀wr,KpT Bd Bs W wr->wr.cell? ⟨Bd,0,none⟩=some (.slice (some ⟨b,off,none⟩) N cap)/\wr.cell? ⟨Bs,0,none⟩=some (.int .i64 (z:Int))):=fun wr h=>⟨h.1.trans cD,h.2.trans cS⟩
 gi_wp2
 gi_loopw [4] (fun i wr=>∃(k:Nat) (h:k<=K),i= .int .i64 ((k*z:Nat):Int)/\J (uptoF k h) wr/\KpT Bd Bs W wr) (fun i _=>N-(intOf i).toNat)
 case atStart=>exact⟨0,Zz,Zs,h0,KpT.refl _ _ _⟩
 case round=>
  obtain⟨k,hk,rfl,hJs,hKp⟩:=hrel;obtain⟨cd,cs⟩:=KpR.out wr hKp;obtain⟨lo,hlo⟩:∃lo,Hid (lo=k*z):=⟨_,rfl⟩;rw[<-hlo.out]
  by_cases hlt:k<K
  ·obtain⟨hi,hhi⟩:∃hi,Hid (hi=(k+1)*z):=⟨_,rfl⟩;have e1:Hid (lo+z=hi):=by show _=_;rw[hlo.out,hhi.out,Nat.add_mul,Nat.one_mul]
   have e2:hi<=N:=by rw[hhi.out,hN.out];exact Nat.mul_le_mul_right _ hlt
   obtain⟨fn,tmps,assign,body,hy,hR⟩:=hY _ ⟨k,hlt⟩ wr hJs (by rw[uptoF_length];exact hlt);have ep:ptV b off z cap k= .slice (some ⟨b,off+lo,none⟩) z (cap-lo):=by unfold ptV;rw[<-hlo.out]
   dsimp only at hy;rw[ep]at hy;have e3:=e1.out;have g0:(lo:Int)<(N:Int):=Zo
   have g1:IntKind.i64.wrap ((lo:Int)+(z:Int))=(hi:Int):=Zw
   have g2:(lo:Int)<=(hi:Int):=Zo
   have g3:lo<=hi:=Zo
   have g4:hi<=cap:=Zo
   have g5:(hi:Int)<=(cap:Int):=Zo
   have g6:lo<cap:=Zo
   have g7:¬cap=lo:=Zo
   have g8:hi-lo=z:=Zo
   clear e3
   gi_wp2
   refine hR.mono ?_
   rintro e W3 (⟨rfl,hJ3,hk3⟩|⟨rfl,hJx3⟩)
   ·obtain⟨cd3,cs3⟩:=KpR.out W3 (hKp.trans hk3);have HK3:Hid (KpT Bd Bs W W3):=hKp.trans hk3;have HJ3:Hid (J (uptoF (k+1) hlt) W3):=by show J _ _;rw[uptoF_succ];exact hJ3
    have e3:=e1.out;clear hy hR hJs hKp hJ3 hk3 cd cs ep
    gi_wp2
    go_roundw
    case rel=>exact⟨k+1,hlt,by rw[<-hhi.out],HJ3.out,HK3.out⟩
    case measure=>simp[intOf];omega
   ·clear hy hR hJs hKp cd cs ep
    gi_wp2
    refine bodyPost_ret (results_none rfl _ _ _) rfl ?_
    exact⟨⟨_,rfl⟩,.inr ⟨_,trivial,hJx3⟩⟩
  ·obtain rfl:k=K:=by omega
   have e4:lo=N:=by rw[hlo.out,hN.out]
   subst e4;have g0:¬(lo:Int)<(lo:Int):=Zo
   gi_wp2
   go_end0
   exact⟨⟨_,rfl⟩,.inl (by first|exact hJs|exact⟨_,rfl,hJs⟩)⟩
theorem parts_in(F:Fence)(n:Nat)(h1:F.fn 88)(hro:F.round=none)(a:Option Addr)(len cap:Nat)(z:Int)(w:World):
  CallsIn F n Tryz.prog 88 #[.slice a len cap,.int .i64 z] w fun e w'=>e= .returned (.func (.func 128) #[] #[.pointer (some ⟨w.heap.size,0,none⟩),.pointer (some ⟨w.heap.size+1,0,none⟩)])/\w'=(w.alloc (.cells #[.slice a len cap] 36)).alloc (.cells #[.int .i64 z] 3):=by
 refine callsIn_of_wp Tryz.func88 rfl h1 ?_ hro
 simp only[Tryz.ntmps88,List.size_toArray,List.length_cons,List.length_nil,Nat.reduceAdd,Nat.reduceSub,Array.replicate_succ,Array.replicate_zero,List.push_toArray,List.append_toArray,List.nil_append,List.cons_append]
 gi_wp2
 go_ret;exact⟨rfl,rfl⟩
theorem parts_stops(F:Fence)(n:Nat)(h1:F.fn 128)(hro:F.round=none)(hn:1<=n)(Bd Bs b off z K cap N:Nat)(hz:1<=z)(hN:Hid (N=K*z))(hc:N<=cap)(hsm:N<=1000000)(w:World)(hBd:Bd<w.heap.size)(hBs:Bs<w.heap.size)
  (cD:w.cell? ⟨Bd,0,none⟩=some (.slice (some ⟨b,off,none⟩) N cap)) (cS:w.cell? ⟨Bs,0,none⟩=some (.int .i64 (z:Int))):
  SeqStopsK F n Tryz.prog 128 #[.pointer (some ⟨Bd,0,none⟩),.pointer (some ⟨Bs,0,none⟩)] (fun x:Fin K=>#[ptV b off z cap x.1]) (KpT Bd Bs) (fun ys=>ys=uptoF K Zr) (fun _=>True) K w:=fun l J Jx W hW _ _ hY h0=>
 parts1_in F n h1 hro hn l Bd Bs b off z K cap N hz hN hc hsm J Jx hY W ((hW.cell (p:=⟨Bd,0,none⟩) hBd).trans cD) ((hW.cell (p:=⟨Bs,0,none⟩) hBs).trans cS) h0
theorem ownFrom_turn{β:Type}{B:Nat}{G:Nat->Prop}{w0:World}(hB:w0.heap.size<=B):OwnFrom B (fun (_:β) W=>TurnG G w0 W):=fun _ W W' row hs hg hr=>
 ⟨hg.os.trans hs.os,hg.tape.trans hs.tape,hg.output.trans hs.output,Nat.le_trans hs.size hg.size,fun k hk hGk=>(hg.block k (Zu hk hs.size) (fun e=>by have:=(hr k e.symm).1;omega)).trans (hs.block k hk hGk)⟩
theorem FarL.putObj{w:World}{base:Nat}{v:Value}{L:List (List UInt8)}(h:FarL w base v L){l:Nat}{o:Obj}(o':Obj)(hl:w.heap[l]? =some o)(ho:o.isCells=false):FarL (w.putObj l o') base v L:=by
 obtain⟨T,u,vals,hv,hr⟩:=h;exact⟨T,u,vals,ownsRow_putObj hv o' hl ho,⟨fun i x hx=>ownsRow_putObj (hr.own i x hx) o' hl ho,hr.diff,hr.out⟩⟩
theorem part_rd{w:World}{b off cap:Nat}{D:List UInt8}(h:Rd w (.slice (some ⟨b,off,none⟩) D.length cap) D){z K j:Nat}(hz:1<=z)(hl:D.length=K*z)(hj:j<K):Rd w (ptV b off z cap j) ((D.drop (j*z)).take z):=by
 have h1:(j+1)*z<=K*z:=Nat.mul_le_mul_right _ hj;rw[Nat.add_mul,Nat.one_mul]at h1
 rcases h with⟨a,c0,e,_⟩|⟨b',off',c0,h1',h2,h3,h4,h5,h6⟩
 ·rw[e]at hl;simp at hl;omega
 ·simp at h2;obtain⟨⟨rfl,rfl⟩,rfl⟩:=h2;have hll:((D.drop (j*z)).take z).length=z:=by rw[List.length_take,List.length_drop];omega
  refine Or.inr ⟨b,off+j*z,cap-j*z,fun e=>by rw[e]at hll;simp at hll;omega,by unfold ptV;rw[hll],by rw[hll];omega,Zo,h5,fun i hi=>?_⟩;rw[hll]at hi;rw[co_take hi,co_drop0,Nat.add_assoc];exact h6 (j*z+i) Zo
theorem parts_rs{w:World}{base T:Nat}{v:Value}{b off cap z K:Nat}{D:List UInt8}(hrow:w.ownsRow base T 1 v K ((List.range K).map (ptV b off z cap)))(hK:1<=K)(hr:∀j,j<K->Rd w (ptV b off z cap j) ((D.drop (j*z)).take z)):Rs w v (mkL K (fun j=>(D.drop (j*z)).take z)):=by
 have hl:(mkL K (fun j=>(D.drop (j*z)).take z)).length=K:=mkL_length _ _;have hv':=hrow;obtain⟨_,⟨e,hn⟩|⟨g,cap',cur,e,hg,hh,hc,hm,hs,ht⟩⟩:=hrow
 ·omega
 ·subst e;refine⟨some ⟨g,0,none⟩,cap',by rw[hl],by rw[hl];exact hc,hm,nofun,fun i hi=>?_⟩;rw[hl]at hi;refine⟨g,0,ptV b off z cap i,rfl,(Array.getElem?_eq_some_iff.1 hh).1,?_,by rw[ro_mkL hi];exact hr i hi⟩;rw[Nat.zero_add,World.ownsRow.cellAt hv' i Zo];simp[hi]
attribute [local go_sem] Oper.semAt_some
theorem info_bytes15c:(Tryz.prog.info? 36).map (fun i=>(i.zero,i.size,i.bytes))=some (some (.slice none 0 0),1,24):=Zk
theorem own_step{W1 W w1:World}{Bo:Nat}{t e:TypeId}{v v':Value}{k m:Nat}{xs ys:List Value}{tmp:Obj}(hT:TurnG (fun k=>k=Bo) W1 W)(hBo:Bo<W1.heap.size)(hte:t≠e)(hv:Boxed W Bo t v)(hrow:W.ownsRow W1.heap.size e 1 v k xs)(hown':w1.ownsRow W1.heap.size e 1 v' m ys)(hgrow:(W.alloc tmp).grownBy w1 v.ownBlock):
  Boxed w1 Bo t v/\Boxed (w1.setCell ⟨Bo,0,none⟩ v') Bo t v'/\(w1.setCell ⟨Bo,0,none⟩ v').ownsRow W1.heap.size e 1 v' m ys/\KeepsOthers W (w1.setCell ⟨Bo,0,none⟩ v')/\TurnG (fun k=>k=Bo) W1 (w1.setCell ⟨Bo,0,none⟩ v')/\∀j,j<W1.heap.size->j≠Bo->(w1.setCell ⟨Bo,0,none⟩ v').heap[j]? =W.heap[j]? :=by
 have hsz:=hT.size;obtain⟨q1,q2,q3,q4,q5⟩:=hv.appended hte (ownsRow_base hrow (Nat.le_of_lt hBo)) Zo Zr (ownsRow_base hown' (Nat.le_of_lt hBo)) hgrow;have keep:∀j,j<W1.heap.size->j≠Bo->(w1.setCell ⟨Bo,0,none⟩ v').heap[j]? =W.heap[j]? :=fun j hj hne=>by
  rw[Below.heap_setCell w1 ⟨Bo,0,none⟩ v' j hne,hgrow.block j Zm (fun e=>by have:=(Zv hrow j e.symm).1;omega)];exact((Below.refl W.heap.size W).alloc Zr tmp).block j Zo
 refine⟨q1,q2,hown'.kept (grownBy_setCell' w1 Bo v') (.inr (q1.not_row hte hown').symm),q4,⟨q5.os.trans hT.os,q5.tape.trans hT.tape,q5.output.trans hT.output,Nat.le_trans hsz q5.size,fun j hj hne=>(keep j hj hne).trans (hT.block j hj hne)⟩,keep⟩
theorem pshof_any{w:World}{pa:Option Addr}{fb:Nat}(hF:FieldAt w fb){g:GeoS}(hok:okG g)(hz:g.z<=300){st ep:Int}{v:Value}{D:List UInt8}(hp:Rd w v D)(hD:LenT g D):
  Calls Tryz.prog 53 #[aggP pa (some ⟨fb,0,none⟩) g st ep,v] w fun e w'=>∃v',e= .returned v'/\FarL w' w.heap.size v' (shT g D)/\Below w.heap.size w w':=by
 have zz:=okG_nat hok;have hln:=hD.nat hok;have hev:=parT_even hD hok;have hfs:=parT_first hD hok;have hrw:=fun i (hi:i<g.k.toNat)=>parT_row hD hok hi
 obtain⟨i0,hi,hz0,hz1,hz2⟩:=info_parts info_bytes15c;obtain⟨K,hK⟩:∃K,Hid (K=g.k.toNat):=⟨_,rfl⟩;obtain⟨z0,hz9⟩:∃z0,Hid (z0=g.z.toNat):=⟨_,rfl⟩;obtain⟨N,hN⟩:∃N,Hid (N=D.length):=⟨_,rfl⟩;have hNK:Hid (N=K*z0):=by show _=_;rw[hN.out,hK.out,hz9.out];exact hln
 have bK:1<=K/\K<=32:=by rw[hK.out];have:=zz.2.2.2.2.1;unfold nT at this;omega
 have bz:1<=z0/\z0<=300:=by rw[hz9.out];omega
 have bN:1<=N/\N<=1000000:=by
  have h1:1*1<=K*z0:=Nat.mul_le_mul bK.1 bz.1;have h2:K*z0<=32*300:=Nat.mul_le_mul bK.2 bz.2;have:=hNK.out;omega
 obtain⟨b,off,cap,rfl,hcap⟩:∃b off cap,v= .slice (some ⟨b,off,none⟩) N cap/\N<=cap:=by
  rcases hp with⟨a,c,e,_⟩|⟨b,off,cap,_,e,h3,_⟩
  ·have:=hN.out;rw[e]at this;simp at this;omega
  ·rw[hN.out];exact⟨b,off,cap,e,h3⟩
 have HP:Hid (Rd w (.slice (some ⟨b,off,none⟩) D.length cap) D):=by show Rd _ _ _;rw[<-hN.out];exact hp
 have PR:Hid (∀W,(∀j,j<K->Rd W (ptV b off z0 cap j) ((D.drop (j*z0)).take z0))->FieldAt W fb->∀vv,(∃base,W.ownsRow base 36 1 vv K ((List.range K).map (ptV b off z0 cap)))->Calls Tryz.prog 89 #[.pointer (some ⟨fb,0,none⟩),.int .i64 g.k,.int .i64 g.m,vv] W (MakesFar W 0 (shT g D))):=fun W hr hf vv ⟨base,ho⟩=>by
  have hrs:=parts_rs ho bK.1 hr;rw[hK.out,hz9.out]at hrs;have:=enc_far (k:=g.k.toNat) (m:=g.m.toNat) hf zz.2.2.2.1 (by have:=zz.2.2.2.2.1;unfold nT at this;omega) hrs (mkL_length _ _) hev ⟨by rw[mkL_length];have:=zz.2.2.2.2.1;unfold nT at this;omega,fun i=>by
   by_cases hi:i<g.k.toNat
   ·have:=hrw i hi;unfold parT at this;rw[this];omega
   ·rw[ro_ge (by rw[mkL_length];omega)];simp⟩ zz.1.symm zz.2.1.symm
  exact this
 have ez:g.z=(z0:Int):=by rw[hz9.out];exact zz.2.2.1.symm
 obtain⟨SH,hSH⟩:∃SH,Hid (SH=shT g D):=⟨_,rfl⟩;rw[<-hSH.out]at PR ⊢;clear zz hln hev hfs hrw hz hok hD hp hSH;obtain⟨k,m,z,s,t,o⟩:=g;simp only at ez PR;subst ez;unfold aggP;simp only[cellsP];refine(callsIn_wide (n:=6)).1 ?_
 refine callsIn_of_wp_marks Tryz.func53 rfl trivial ?_ rfl
 simp only[Tryz.ntmps53,List.size_toArray,List.length_cons,List.length_nil,Nat.reduceAdd,Nat.reduceSub,Array.replicate_succ,Array.replicate_zero,List.push_toArray,List.append_toArray,List.nil_append,List.cons_append];have L0:=(spot_new w pa (some ⟨fb,0,none⟩) ⟨k,m,(z0:Int),s,t,o⟩ st ep 103).all;simp only[cellsP]at L0;obtain⟨x0,x1,x2,x3,x4,x5,x6,x7,x8,x9⟩:=L0
 gi_wp2_with (refine⟨trivial,?_⟩;gi_at_call 88;refine(parts_in Fence.wide _ trivial rfl _ _ _ _ _).mono ?_;rintro e w' ⟨rfl,rfl⟩)
 clear x0 x1 x2 x3 x4 x5 x6 x7 x8 x9;obtain⟨W1,hW1⟩:∃W1,W1=((((w.alloc (.cells #[.pointer pa,.pointer (some ⟨fb,0,none⟩),.int .i64 k,.int .i64 m,.int .i64 (z0:Int),.int .i64 s,.int .i64 t,.int .i64 o,.int .i64 st,.int .i64 ep] 103)).alloc (.cells #[.slice none 0 0] 106)).alloc (.cells #[.slice (some ⟨b,off,none⟩) N cap] 36)).alloc (.cells #[.int .i64 (z0:Int)] 3)):=⟨_,rfl⟩;have sz:W1.heap.size=w.heap.size+1+1+1+1:=by rw[hW1];simp
 have bO:Boxed W1 (w.heap.size+1) 106 (.slice none 0 0):=by
  rw[hW1];have q:=Boxed.new (w.alloc (.cells #[.pointer pa,.pointer (some ⟨fb,0,none⟩),.int .i64 k,.int .i64 m,.int .i64 (z0:Int),.int .i64 s,.int .i64 t,.int .i64 o,.int .i64 st,.int .i64 ep] 103)) 106 (.slice none 0 0);rw[World.size_alloc]at q;exact(q.alloc _).alloc _
 have SP:SpotAt W1 w.heap.size pa (some ⟨fb,0,none⟩) ⟨k,m,(z0:Int),s,t,o⟩ st ep:=by
  have q:=spot_new w pa (some ⟨fb,0,none⟩) ⟨k,m,(z0:Int),s,t,o⟩ st ep 103;simp only[cellsP]at q;rw[hW1];exact q.below (B:=w.heap.size+1) Zo (((Zf.alloc Zs _).alloc Zs _).alloc Zs _)
 have cD:W1.cell? ⟨w.heap.size+1+1,0,none⟩=some (.slice (some ⟨b,off,none⟩) N cap):=by
  rw[hW1];have q:=Boxed.new ((w.alloc (.cells #[.pointer pa,.pointer (some ⟨fb,0,none⟩),.int .i64 k,.int .i64 m,.int .i64 (z0:Int),.int .i64 s,.int .i64 t,.int .i64 o,.int .i64 st,.int .i64 ep] 103)).alloc (.cells #[.slice none 0 0] 106)) 36 (.slice (some ⟨b,off,none⟩) N cap);rw[World.size_alloc,World.size_alloc]at q;exact(q.alloc _).cell
 have cS:W1.cell? ⟨w.heap.size+1+1+1,0,none⟩=some (.int .i64 (z0:Int)):=by
  rw[hW1];have q:=Boxed.new (((w.alloc (.cells #[.pointer pa,.pointer (some ⟨fb,0,none⟩),.int .i64 k,.int .i64 m,.int .i64 (z0:Int),.int .i64 s,.int .i64 t,.int .i64 o,.int .i64 st,.int .i64 ep] 103)).alloc (.cells #[.slice none 0 0] 106)).alloc (.cells #[.slice (some ⟨b,off,none⟩) N cap] 36)) 3 (.int .i64 (z0:Int));rw[World.size_alloc,World.size_alloc,World.size_alloc]at q;exact q.cell
 have B0:Below w.heap.size w W1:=by
  rw[hW1];exact(((Zf.alloc Zr _).alloc Zs _).alloc (by simp;try omega) _).alloc (by simp;try omega) _
 rw[<-hW1];clear hW1;refine wpIn_rangeFunc_ownG (α:=Fin K) rfl Zd (gf:=128) (lb:=#[.pointer (some ⟨w.heap.size+1+1,0,none⟩),.pointer (some ⟨w.heap.size+1+1+1,0,none⟩)]) rfl trivial (enters_of Tryz.func128 Zk rfl)
  (parts_stops Fence.wide _ trivial rfl Zd (w.heap.size+1+1) (w.heap.size+1+1+1) b off z0 K cap N bz.1 hNK hcap bN.2 W1 Zo Zo cD cS) (fun h k=>h.trans k) (fun W l o o' hl ho h1 h2=>⟨cell_put Zo,cell_put Zo⟩) Zf (fun _=>rfl)
  (fun pre W=>(∃v,Boxed W (w.heap.size+1) 106 v/\W.ownsRow W1.heap.size 36 1 v pre.length (pre.map fun x=>ptV b off z0 cap x.1)/\True)/\TurnG (fun k=>k=w.heap.size+1) W1 W)
  (fun _ _ _=>False)
  (OwnFrom.and (Own.from (holdsRow_own W1.heap.size (w.heap.size+1) 106 36 1 (fun pre:List (Fin K)=>pre.length) (fun pre:List (Fin K)=>pre.map fun x=>ptV b off z0 cap x.1) (fun (pre:List (Fin K)) v=>True)) _) (ownFrom_turn Zr))
  (fun _ _ _ _ _ hs _ _=>hs)
  ⟨⟨_,bO,World.ownsRow_nil _ _ _ _,trivial⟩,TurnG.refl _ _⟩
  (fun x=>{tmps:=#[.agg #[.pointer pa,.pointer (some ⟨fb,0,none⟩),.int .i64 k,.int .i64 m,.int .i64 (z0:Int),.int .i64 s,.int .i64 t,.int .i64 o,.int .i64 st,.int .i64 ep],.slice (some ⟨b,off,none⟩) N cap,.pointer (some ⟨w.heap.size,0,none⟩),undef,.slice none 0 0,.pointer (some ⟨w.heap.size+1,0,none⟩),.slice (some ⟨b,off+x.1*z0,none⟩) z0 (cap-x.1*z0),undef,undef,.slice (some ⟨b,off,none⟩) N cap,.pointer (some ⟨w.heap.size,2,none⟩),.pointer (some ⟨w.heap.size,4,none⟩),.int .i64 (z0:Int),.func (.func 128) #[] #[.pointer (some ⟨w.heap.size+1+1,0,none⟩),.pointer (some ⟨w.heap.size+1+1+1,0,none⟩)],.slice (some ⟨b,off+x.1*z0,none⟩) z0 (cap-x.1*z0),undef,undef,undef,undef,undef,undef,undef,undef,undef,undef,undef,undef,undef,undef,undef,undef,undef,undef],defers:=[]}) ?assign ?body ?done ?stop
 case assign=>
  intro l x W K hK
  gi_wp2
  exact hK
 case body=>
  rintro l pre x W ⟨⟨v,hv,hrow,_⟩,hT⟩ hlt;have hc:=hv.cell;have hsz:=hT.size;obtain⟨y,hy⟩:∃y,Hid (y=off+x.1*z0):=⟨_,rfl⟩;obtain⟨c9,hc9⟩:∃c9,Hid (c9=cap-x.1*z0):=⟨_,rfl⟩;rw[<-hy.out,<-hc9.out];have ev:ptV b off z0 cap x.1= .slice (some ⟨b,y,none⟩) z0 c9:=by unfold ptV;rw[hy.out,hc9.out]
  gi_wp2_with (gi_at_builtin;refine wpListIn_append_own _ rfl _ _ 106 rfl W1.heap.size 36 i0 (.slice none 0 0) 1 24 Tryz.underlying106 hi hz0 hz1 hz2 rfl Zd _ _ _ rfl (hrow.alloc _) ⟨W.heap.size,0,none⟩ 1 1 [.slice (some ⟨b,y,none⟩) z0 c9] rfl rfl (cell_one_new _ _ _) (by simp[Value.oneCell']) Zl Zo Zm ?_;intro v' w1 hown' hgrow _;obtain⟨g',cap',rfl⟩:=ownsRow_succ hown';obtain⟨hv1,hv2,hr2,hk2,ht2,hkp⟩:=own_step hT Zo Zd hv hrow hown' hgrow;have hc1:=hv1.cell;have hf1:=hv1.frozen)
  refine⟨hk2.from _,⟨Zc (w:=W) (hkp (w.heap.size+1+1) Zo Zo),Zc (w:=W) (hkp (w.heap.size+1+1+1) Zo Zo)⟩,⟨_,hv2,?_,trivial⟩,ht2⟩;rw[List.length_append,List.map_append,List.map_cons,List.map_nil,ev];exact hr2
 case done=>
  rintro Dd ys W hDd rfl ⟨⟨v,hv,hrow,_⟩,hT⟩ hK;have SPW:=SP.turn Zo hT;obtain⟨x0,x1,x2,x3,x4,x5,x6,x7,x8,x9⟩:=SPW.all;simp only at x0 x1 x2 x3 x4 x5 x6 x7 x8 x9;have hc:=hv.cell;have BW:Below w.heap.size w W:=B0.trans (hT.below (fun q e=>Zo) Zo);have FW:FieldAt W fb:=hF.belowF BW;have RW:∀j,j<K->Rd W (ptV b off z0 cap j) ((D.drop (j*z0)).take z0):=fun j hj=>part_rd (HP.out.below BW) bz.1 (by rw[<-hN.out];exact hNK.out) hj
  have hrow2:W.ownsRow W1.heap.size 36 1 v K ((List.range K).map (ptV b off z0 cap)):=by
   have e1:(uptoF K (Nat.le_refl K)).map (fun x=>ptV b off z0 cap x.1)=(List.range K).map (ptV b off z0 cap):=by
    rw[<-uptoF_val (Nat.le_refl K),List.map_map];rfl
   rw[uptoF_length,e1]at hrow;exact hrow
  have KE:=PR.out W RW FW v ⟨_,hrow2⟩;obtain⟨va,vc,rfl⟩:=owns_form hrow2
  gi_wp2_with (refine⟨trivial,?_⟩;gi_at_call 89;refine(callsIn_wide.2 KE).mono ?_;rintro e w2 ⟨vs,rfl,R2,b2⟩;obtain⟨sa,sc,rfl⟩:=R2.form)
  have hK2:w2.heap[Dd]? =some (.deferred (some [])):=(b2.block Dd (Array.getElem?_eq_some_iff.1 hK).1).trans hK
  refine⟨Zs,.inl ⟨_,_,rfl,run_takeDeferred hK2,?_⟩⟩;refine⟨_,results_tmp rfl _ _ _,_,rfl,(R2.rebase BW.size).putObj _ hK2 rfl,?_⟩;exact(BW.stepL b2 BW.size).trans (belowK_b (w:=w) Zr w2 Dd _ _ Zo hK2 rfl rfl)
 case stop=>
  rintro Dd c pre W _ _ h _;exact h.elim
end Go.Proofs.YtddnfhfangfgeaaGreat.Gf
