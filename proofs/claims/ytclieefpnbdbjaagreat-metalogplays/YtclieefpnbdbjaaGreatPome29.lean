/- JOINED: MeRw, MeRl, MeCR, MeCS. -/
import Derived.Test.YtclieefpnbdbjaaGreatPome27
import Derived.Test.YtclieefpnbdbjaaGreatPome19
set_option maxHeartbeats 4000000
set_option maxRecDepth 100000
namespace Go.Proofs.YtclieefpnbdbjaaGreat.Gf
set_option linter.unusedVariables false
set_option linter.unusedSimpArgs false
open Go.RowKit
instance:Inhabited RcV:=⟨⟨noR,.slice none 0 0⟩⟩
structure RcAt(w:World)(b off:Nat)(c:RcV):Prop where
 c0:w.cell? ⟨b,off,none⟩=some (.int .i64 c.r.kind)
 c1:w.cell? ⟨b,off+1,none⟩=some (sv c.r.key)
 c2:w.cell? ⟨b,off+2,none⟩=some (.int .i64 c.r.len)
 c3:w.cell? ⟨b,off+3,none⟩=some c.vs
 ok:c.In w
theorem RcAt.below{w w':World}{b off:Nat}{c:RcV}(h:RcAt w b off c)(hb:b<w.heap.size)(hw:Below w.heap.size w w'):RcAt w' b off c:=
 ⟨(hw.cell (p:=⟨b,off,none⟩) hb).trans h.c0,(hw.cell (p:=⟨b,off+1,none⟩) hb).trans h.c1,(hw.cell (p:=⟨b,off+2,none⟩) hb).trans h.c2,(hw.cell (p:=⟨b,off+3,none⟩) hb).trans h.c3,h.ok.below hw⟩
def RdR(w:World)(v:Value)(L:List RcV):Prop:=
 (∃ao cap,L=[]/\v= .slice ao 0 cap)∨(∃b off cap,L≠[]/\v= .slice (some ⟨b,off,none⟩) L.length cap/\L.length<=maxLen/\b<w.heap.size/\∀i,i<L.length->RcAt w b (off+i*4) (L.getD i default))
theorem RdR.below{w w':World}{v:Value}{L:List RcV}(h:RdR w v L)(hb:Below w.heap.size w w'):RdR w' v L:=by
 rcases h with h|⟨b,off,cap,h1,h2,h3,h5,h6⟩
 ·exact Or.inl h
 ·exact Or.inr ⟨b,off,cap,h1,h2,h3,Zu h5 hb.size,fun i hi=>(h6 i hi).below h5 hb⟩
theorem RdR.form{w:World}{v:Value}{L:List RcV}(h:RdR w v L):∃a c,v= .slice a L.length c:=by
 rcases h with⟨a,c,rfl,rfl⟩|⟨b,off,c,_,rfl,_⟩
 ·exact⟨a,c,rfl⟩
 ·exact⟨_,c,rfl⟩
theorem RdR.at{w:World}{a:Option Addr}{n c:Nat}{L:List RcV}(h:RdR w (.slice a n c) L){i:Nat}(hi:i<L.length):∃b off,a=some ⟨b,off,none⟩/\b<w.heap.size/\RcAt w b (off+i*4) (L.getD i default):=by
 rcases h with⟨_,_,h1,_⟩|⟨b,off,cp,h1,h2,h3,h5,h6⟩
 ·rw[h1]at hi;simp at hi
 ·simp at h2;exact⟨b,off,h2.1,h5,h6 i hi⟩
def NearR(base lim:Nat)(v u:Value):Prop:=∀x n c,u= .slice (some x) n c->n=0∨(base<=x.block/\x.block<lim/\v.ownBlock≠some x.block)
theorem NearR.mono{base lim lim':Nat}{v u:Value}(h:NearR base lim v u)(hl:lim<=lim'):NearR base lim' v u:=fun x n c e=>(h x n c e).imp id fun q=>⟨q.1,Zo,q.2.2⟩
theorem RdI.groR{w w':World}{base lim:Nat}{v v' x:Value}{zs:List Int}(h:RdI w x zs)(g:Gro w v w' v')(hn:NearR base lim v x):RdI w' x zs:=by
 rcases h with h|⟨b,off,cap,h1,rfl,h3,h5,h6⟩
 ·exact Or.inl h
 ·have hp:zs.length≠0:=fun e=>h1 (List.length_eq_zero_iff.1 e)
  have ne:=((hn _ _ _ rfl).resolve_left hp).2.2;exact Or.inr ⟨b,off,cap,h1,rfl,h3,Zu h5 g.gr.size,fun i hi=>(g.cell (p:=⟨b,off+i,none⟩) h5 ne).trans (h6 i hi)⟩
theorem near_far{w:World}{base:Nat}{v u:Value}{zs:List Int}{lo:Nat}(hr:RdI w u zs)(hb:base<=lo)(hv:∀k,v.ownBlock=some k->k<lo)(hf:∀k,u.ownBlock=some k->lo<=k):NearR base w.heap.size v u:=fun x n c e=>by
 rcases hr with⟨ao,cap,h1,h2⟩|⟨b,off,cap,h1,h2,h3,h5,_⟩
 ·rw[h2]at e;simp at e;exact Or.inl e.2.1.symm
 ·rw[h2]at e;simp at e;obtain⟨rfl,_⟩:=e;have h6:=hf b (by rw[h2];rfl);exact Or.inr ⟨by show base<=b;omega,h5,fun k=>by have h7:b<lo:=hv b k;omega⟩
def fourR(c:RcV):List Value:=[.int .i64 c.r.kind,sv c.r.key,.int .i64 c.r.len,c.vs]
def cellsRc:List RcV->List Value
 |[]=>[]
 |c::L=>fourR c++cellsRc L
theorem cellsRc_append(L M:List RcV):cellsRc (L++M)=cellsRc L++cellsRc M:=by
 induction L with
 |nil=>rfl
 |cons c L ih=>show fourR c++cellsRc (L++M)=fourR c++cellsRc L++cellsRc M;rw[ih,List.append_assoc]
theorem cellsRc_at(L:List RcV){i j:Nat}(hi:i<L.length)(hj:j<4):(cellsRc L)[i*4+j]? =(fourR (L.getD i default))[j]? :=by
 induction L generalizing i with
 |nil=>simp at hi
 |cons c L ih=>
  show(fourR c++cellsRc L)[i*4+j]? =_
  have h4:(fourR c).length=4:=rfl
  rcases i with _|i
  ·rw[List.getElem?_append_left (by rw[h4];omega),Nat.zero_mul,Nat.zero_add];rfl
  ·rw[List.getElem?_append_right (by rw[h4];omega),h4,show(i+1)*4+j-4=i*4+j by omega,ih (by simpa using hi)];rfl
structure OwnRc(w:World)(base:Nat)(v:Value)(L:List RcV):Prop where
 row:w.ownsRow base 38 4 v L.length (cellsRc L)
 ea:∀c∈L,RcV.In w c
 ap:∀c∈L,NearR base w.heap.size v c.vs
theorem OwnRc.nil(w:World)(base:Nat):OwnRc w base (.slice none 0 0) []:=⟨World.ownsRow_nil _ _ _ _,(fun c hc=>by cases hc),(fun c hc=>by cases hc)⟩
theorem OwnRc.rd{w:World}{base:Nat}{v:Value}{L:List RcV}(h:OwnRc w base v L)(hl:L.length<=1000000):RdR w v L:=by
 by_cases h0:L=[]
 ·subst h0;obtain⟨_,⟨e,_⟩|⟨g,cap,cur,e,_⟩⟩:=h.row
  ·exact Or.inl ⟨none,0,rfl,e⟩
  ·exact Or.inl ⟨_,cap,rfl,e⟩
 ·have hpos:0<L.length:=List.length_pos_iff.2 h0;have hr:=h.row;obtain⟨_,⟨e,hn⟩|⟨g,cap,cur,rfl,hg,hh,hc,hm,hs,ht⟩⟩:=h.row
  ·omega
  ·refine Or.inr ⟨g,0,cap,h0,rfl,Zl,(Zv hr g rfl).2,fun i hi=>?_⟩;have hmem:L.getD i default∈L:=by rw[List.getD_eq_getElem?_getD,List.getElem?_eq_getElem hi];exact List.getElem_mem hi
   have k:=h.ea _ hmem;have cc:∀j,j<4->w.cell? ⟨g,i*4+j,none⟩=(fourR (L.getD i default))[j]? :=fun j hj=>(World.ownsRow.cellAt hr (i*4+j) Zo).trans (cellsRc_at L hi hj)
   refine⟨?_,?_,?_,?_,k⟩
   ·rw[Nat.zero_add];exact cc 0 Zo
   ·rw[Nat.zero_add];exact cc 1 Zo
   ·rw[Nat.zero_add];exact cc 2 Zo
   ·rw[Nat.zero_add];exact cc 3 Zo
theorem info_rec18:(Tryz.prog.info? 38).map (fun i=>(i.zero,i.size,i.bytes))=some (some (.agg #[.int .i64 0,.string ⟨#[]⟩,.int .i64 0,.slice none 0 0]),4,56):=Zk
theorem info_rec18':∃i,Tryz.prog.info? 38=some i/\i.zero=some (.agg #[.int .i64 0,.string ⟨#[]⟩,.int .i64 0,.slice none 0 0])/\i.size=4/\i.bytes=56:=by
 have h:=info_rec18;cases e:Tryz.prog.info? 38 with
 |none=>rw[e]at h;cases h
 |some i=>
  rw[e]at h;simp only[Option.map_some,Option.some.injEq,Prod.mk.injEq]at h;exact⟨i,rfl,h.1,h.2.1,h.2.2⟩
theorem run_append_rc{w W:World}{base b:Nat}{v:Value}{L:List RcV}{c:RcV}(ty:TypeId)(h:OwnRc w base v L)(hc:RcV.In w c)(ha:NearR base w.heap.size v c.vs)(hv1:c.vs.oneCell'=true)(hW:W=w.alloc (.cells #[.int .i64 c.r.kind,sv c.r.key,.int .i64 c.r.len,c.vs] 38))(hb:b=w.heap.size)(hl:L.length<=100000)(hbase:base<=w.heap.size):
  ∃v' w',(Builtin.append_ #[51,51] ty #[v,.slice (some ⟨b,0,none⟩) 1 1]).run Tryz.prog W= .ok v' w'/\OwnRc w' base v' (L++[c])/\Gro w v w' v':=by
 subst hW hb;obtain⟨i,hi,hz,hs,hy⟩:=info_rec18';obtain⟨v',w',hrun,h2,h3,_,h5⟩:=run_append_own_at (P:=Tryz.prog) (w.alloc (.cells #[.int .i64 c.r.kind,sv c.r.key,.int .i64 c.r.len,c.vs] 38)) base 51 ty 38 i (.agg #[.int .i64 0,.string ⟨#[]⟩,.int .i64 0,.slice none 0 0]) 4 56 Tryz.underlying51 hi hz hs hy rfl Zd v L.length (cellsRc L) (World.ownsRow.alloc h.row _) ⟨w.heap.size,0,none⟩ 1 1 (fourR c) rfl
  (by intro j y hj;rw[add_at,Nat.zero_add,World.cell?_alloc_new,<-hj];unfold fourR;simp) (by
   intro y hy;simp only[fourR,List.mem_cons,List.not_mem_nil,or_false]at hy
   rcases hy with rfl|rfl|rfl|rfl
   ·rfl
   ·rfl
   ·rfl
   ·exact hv1) Zl Zo Zm
 have G:Gro w v w' v':=(Gro.bel v (belR w _)).trans (Gro.of h3 h5);refine⟨v',w',hrun,⟨?_,?_,?_⟩,G⟩
 ·rw[List.length_append,cellsRc_append]
  have:cellsRc [c]=fourR c:=by show fourR c++[]=_;rw[List.append_nil]
  rw[this];exact h2
 ·intro d hd
  rcases List.mem_append.1 hd with hd|hd
  ·have k:=h.ea d hd;exact⟨k.wk,k.wl,k.ky,k.rs.groR G (h.ap d hd),k.wi⟩
  ·simp only[List.mem_singleton]at hd;subst hd;exact⟨hc.wk,hc.wl,hc.ky,hc.rs.groR G ha,hc.wi⟩
 ·have key:∀u,NearR base w.heap.size v u->NearR base w'.heap.size v' u:=fun u hu x n c e=>(hu x n c e).imp id fun q=>⟨q.1,Zu q.2.1 G.gr.size,G.ne q.2.1 q.2.2⟩
  intro d hd
  rcases List.mem_append.1 hd with hd|hd
  ·exact key _ (h.ap d hd)
  ·simp only[List.mem_singleton]at hd;subst hd;exact key _ ha
theorem wpList_append_rc{w W:World}{base b:Nat}{v:Value}{L:List RcV}{c:RcV}{ops:Array Oper}{rest:List Oper}{o:Oper}{a:Act}{Q:Exit->Act->World->Prop}(hgd:o.guard=none)(s x:Operand)
  (ho:o.op= .call {callee:=.builtin .append,args:=#[s,x],argTypes:=#[51,51]}) (hs:a.eval s=v) (hx:a.eval x= .slice (some ⟨b,0,none⟩) 1 1)
  (h:OwnRc w base v L) (hc:RcV.In w c) (ha:NearR base w.heap.size v c.vs) (hv1:c.vs.oneCell'=true) (hW:W=w.alloc (.cells #[.int .i64 c.r.kind,sv c.r.key,.int .i64 c.r.len,c.vs] 38)) (hb:b=w.heap.size) (hl:L.length<=100000) (hbase:base<=w.heap.size)
  (k:∀v' w',OwnRc w' base v' (L++[c])->Gro w v w' v'->wpList Tryz.prog ops Q rest (a.put o.dst v') w'):wpList Tryz.prog ops Q (o::rest) a W:=by
 refine wpList_plain hgd fun K hK=>?_
 obtain⟨v',w',hrun,h2,h3⟩:=run_append_rc o.type h hc ha hv1 hW hb hl hbase;unfold Oper.wp execOp;simp only[ho,resolve,invoke,builtin,Sem.run_bind,Sem.run_pure,Result.andThen_ok,List.map_toArray,List.map_cons,List.map_nil,hs,hx,hrun];exact hK _ _ (k v' w' h2 h3)
theorem row_late18{w w':World}{base e s n:Nat}{v:Value}{xs:List Value}(h:w.ownsRow base e s v n xs)(t:Below w.heap.size w w'):w'.ownsRow base e s v n xs:=by
 obtain⟨h0,h|⟨g2,cap,cur,hv,hgg,hh,r⟩⟩:=h
 ·exact⟨h0,Or.inl h⟩
 ·have hlt:g2<w.heap.size:=(Array.getElem?_eq_some_iff.1 hh).1;exact⟨h0,Or.inr ⟨g2,cap,cur,hv,hgg,by rw[t.block g2 hlt];exact hh,r⟩⟩
theorem OwnRc.weak{w:World}{base base':Nat}{v:Value}{L:List RcV}(h:OwnRc w base v L)(hb:base'<=base):OwnRc w base' v L:=by
 refine⟨?_,h.ea,fun c hc x n cc e=>(h.ap c hc x n cc e).imp id fun q=>⟨Nat.le_trans hb q.1,q.2⟩⟩;obtain⟨h0,k|⟨g,cap,cur,e,hg,r⟩⟩:=h.row
 ·exact⟨h0,Or.inl k⟩
 ·exact⟨h0,Or.inr ⟨g,cap,cur,e,Nat.le_trans hb hg,r⟩⟩
theorem OwnRc.later{w w':World}{base:Nat}{v:Value}{L:List RcV}(h:OwnRc w base v L)(t:Below w.heap.size w w'):OwnRc w' base v L:=
 ⟨row_late18 h.row t,fun c hc=>(h.ea c hc).below t,fun c hc=>(h.ap c hc).mono t.size⟩
theorem vo_da{a:ArS}{K:List Bool}{ad:Int}:(rvV a K ad).da.length<=4096/\(Lit.int .i64 (rvV a K ad).ep).wf=true:=by
 unfold rvV
 split
 ·exact⟨Zz,Zd⟩
 ·rcases vo_or (sayL a ad)with h|⟨e,d,h⟩
  ·rw[vo_none h K];exact⟨Zz,show(Lit.int .i64 0).wf=true by decide⟩
  ·have:=top_se h;rw[vo_top h K];exact⟨this.2.2,show(Lit.int .i64 e).wf=true from WalkArith.wf_i64 (by have:=this.2.1;omega)⟩
def Recs18(w:World)(X:Int)(R:List RcS)(e:Ending)(w':World):Prop:=∃v L,e= .returned (.tuple #[v,.int .i64 X])/\OwnRc w' w.heap.size v L/\L.map (·.r)=R/\Below w.heap.size w w'
theorem recs_nil{w w':World}{X:Int}{R:List RcS}(hR:R=[])(b:Below w.heap.size w w'):Recs18 w X R (.returned (.tuple #[.slice none 0 0,.int .i64 X])) w':=by
 subst hR;exact⟨_,[],rfl,OwnRc.nil _ _,rfl,b⟩
theorem rl_bad{a:ArS}{g:GeoS}{K:List Bool}{base x:Int}(h:rlX a g K base=x)(hx:¬x=0):rlR a g K base=[]:=by
 unfold rlR;rw[if_neg (by rw[h];exact hx)]
theorem rlF_iff{a:ArS}{g:GeoS}{K:List Bool}{base:Int}{i:Nat}:rlF a g K base i=true↔((rlV a g K i).has=true/\(rlV a g K i).ep=base+(i:Int)+1/\IsR (rlV a g K i).da):=by
 unfold rlF;exact @decide_eq_true_iff _ (Classical.propDecidable _)
theorem rl_main{a:ArS}{g:GeoS}{K:List Bool}{base:Int}(h:okG g)(q:0<=base/\base<=mo18)(ho:a.off=false):rlX a g K base=(if rlN a g K base<g.t.toNat/\(rlV a g K (rlN a g K base)).wi=false then 150 else 0):=by
 unfold rlX;rw[if_neg (fun k=>k h),if_neg (fun k=>k q),if_neg (by rw[ho];decide)]
theorem rl_stop{a:ArS}{g:GeoS}{K:List Bool}{base:Int}{r:Nat}(h:okG g)(q:0<=base/\base<=mo18)(ho:a.off=false)(hall:∀i,i<r->rlF a g K base i=true)(hr:r<g.t.toNat)(hn:rlF a g K base r=false):
  ((rlV a g K r).wi=false->rlX a g K base=150)/\((rlV a g K r).wi=true->rlX a g K base=0/\rlR a g K base=(List.range r).map fun i=>raR (rlV a g K i).da):=by
 have e:rlN a g K base=r:=ru_stop hall hr hn;have m:=rl_main (K:=K) h q ho;rw[e]at m;refine⟨fun w=>by rw[m,if_pos ⟨hr,w⟩],fun w=>?_⟩;have x:rlX a g K base=0:=by rw[m,if_neg (by rw[w];simp)]
 refine⟨x,?_⟩;unfold rlR;rw[if_pos x,e]
theorem rl_full{a:ArS}{g:GeoS}{K:List Bool}{base:Int}(h:okG g)(q:0<=base/\base<=mo18)(ho:a.off=false)(hall:∀i,i<g.t.toNat->rlF a g K base i=true):rlX a g K base=0/\rlR a g K base=(List.range g.t.toNat).map fun i=>raR (rlV a g K i).da:=by
 have e:rlN a g K base=g.t.toNat:=ru_full hall;have m:=rl_main (K:=K) h q ho;rw[e]at m;have x:rlX a g K base=0:=by rw[m,if_neg Zo]
 refine⟨x,?_⟩;unfold rlR;rw[if_pos x,e]
structure RlF18(a:ArS)(g:GeoS)(K:List Bool)(base:Int)(T:Nat):Prop where
 off:a.off=true->rlX a g K base=130/\rlR a g K base=[]
 stop0:∀r,a.off=false->(∀i,i<r->rlF a g K base i=true)->r<T->rlF a g K base r=false->(rlV a g K r).wi=false->rlX a g K base=150/\rlR a g K base=[]
 stop1:∀r,a.off=false->(∀i,i<r->rlF a g K base i=true)->r<T->rlF a g K base r=false->(rlV a g K r).wi=true->rlX a g K base=0/\rlR a g K base=(List.range r).map fun i=>raR (rlV a g K i).da
 full:a.off=false->(∀i,i<T->rlF a g K base i=true)->rlX a g K base=0/\rlR a g K base=(List.range T).map fun i=>raR (rlV a g K i).da
theorem rl_facts{a:ArS}{g:GeoS}{K:List Bool}{base:Int}(h:okG g)(q:0<=base/\base<=mo18):RlF18 a g K base g.t.toNat:=by
 refine⟨fun ho=>?_,fun r ho h1 h2 h3 h4=>?_,fun r ho h1 h2 h3 h4=>(rl_stop h q ho h1 h2 h3).2 h4,fun ho h1=>rl_full h q ho h1⟩
 ·have x:rlX a g K base=130:=by unfold rlX;rw[if_neg (fun k=>k h),if_neg (fun k=>k q),if_pos ho]
  exact⟨x,rl_bad x Zd⟩
 ·have x:=(rl_stop h q ho h1 h2 h3).1 h4;exact⟨x,rl_bad x Zd⟩
theorem lay4r{w:World}{a b c d:Value}{t:Nat}:(w.alloc (.cells #[a,b,c,d] t)).cell? ⟨w.heap.size,0,none⟩=some a/\(w.alloc (.cells #[a,b,c,d] t)).cell? ⟨w.heap.size,1,none⟩=some b/\(w.alloc (.cells #[a,b,c,d] t)).cell? ⟨w.heap.size,2,none⟩=some c/\(w.alloc (.cells #[a,b,c,d] t)).cell? ⟨w.heap.size,3,none⟩=some d/\Below w.heap.size w (w.alloc (.cells #[a,b,c,d] t))/\(∀j,(w.alloc (.cells #[a,b,c,d] t)).frozen? ⟨w.heap.size,j,none⟩=false)/\w.heap.size<(w.alloc (.cells #[a,b,c,d] t)).heap.size:=by
 have z:∀j,(w.alloc (.cells #[a,b,c,d] t)).cell? ⟨w.heap.size,j,none⟩= #[a,b,c,d][j]? :=fun j=>World.cell?_alloc_new _ _ _ _
 exact⟨z 0,z 1,z 2,z 3,belR _ _,fun j=>by simp[go_sem],Zs⟩
def AppdM(w:World)(V:VoS)(is:Bool)(e:Ending)(w':World):Prop:=∃c:RcV,e= .returned (.tuple #[aggR c,.bool is])/\c.In w'/\(∀k,c.vs.ownBlock=some k->w.heap.size<=k)/\Below w.heap.size w w'/\(is=true->c.r=raR V.da)
theorem appd_nil{w X:World}{V:VoS}(b:Below w.heap.size w X):AppdM w V false (.returned (.tuple #[.agg #[.int .i64 0,.string ⟨#[]⟩,.int .i64 0,.slice none 0 0],.bool false])) X:=
 ⟨⟨noR,.slice none 0 0⟩,rfl,noR_in _,fun k hk=>by simp[Value.ownBlock]at hk,b,fun q=>by cases q⟩
theorem app_zero{p:Prop} (h:p:=by
 have F:Hid (Below w.heap.size w W):=BW;clear BW;go_wp2;exact bodyPost_ret (v:=.tuple #[.agg #[.int .i64 0,.string ⟨#[]⟩,.int .i64 0,.slice none 0 0],.bool false]) (by simp[results,Tryz.results71,go_sem,z0,z1,z2,z3]) rfl (appd_nil F.out)):p:=h
theorem mapp_any{w:World}{V:VoS}{vd:Value}(hd:Rd w vd V.da)(hl:V.da.length<=100000){ep:Int}{is:Bool}(his:decide (V.has=true/\V.ep=ep/\IsR V.da)=is):Calls Tryz.prog 71 #[aggV V vd,.int .i64 ep] w (AppdM w V is):=by
 obtain⟨vh,ve,vda,vco,vw⟩:=V;obtain⟨va,vc,ev⟩:=hd.form;simp only at ev hd hl his;subst ev;rw[show aggV ⟨vh,ve,vda,vco,vw⟩ (.slice va vda.length vc)= .agg #[.bool vh,.int .i64 ve,.slice va vda.length vc,.int .i64 ((vco:Nat):Int),.bool vw]from rfl];have HIS:Hid (decide (vh=true/\ve=ep/\IsR vda)=is):=his;obtain⟨W0,hW0⟩:∃W0,W0=w.alloc (.cells #[.bool vh,.int .i64 ve,.slice va vda.length vc,.int .i64 ((vco:Nat):Int),.bool vw] 130):=⟨_,rfl⟩;obtain⟨v0,v1,v2,v3,v4,b0,-,l0⟩:=@lay5 w (.bool vh) (.int .i64 ve) (.slice va vda.length vc) (.int .i64 ((vco:Nat):Int)) (.bool vw) 130;rw[<-hW0]at v0 v1 v2 v3 v4 b0 l0;obtain⟨W,hW⟩:∃W,W=W0.alloc (.cells #[.int .i64 0,.string ⟨#[]⟩,.int .i64 0,.slice none 0 0] 38):=⟨_,rfl⟩;obtain⟨z0,z1,z2,z3,bW,zf,lW⟩:=@lay4r W0 (.int .i64 0) (.string ⟨#[]⟩) (.int .i64 0) (.slice none 0 0) 38;rw[<-hW]at z0 z1 z2 z3 bW zf lW;have e1:w.heap.size+1=W0.heap.size:=by rw[hW0];simp
 replace v0:=(bW.cell (p:=⟨w.heap.size,0,none⟩) l0).trans v0;replace v1:=(bW.cell (p:=⟨w.heap.size,1,none⟩) l0).trans v1;replace v2:=(bW.cell (p:=⟨w.heap.size,2,none⟩) l0).trans v2;rw[hW0]at hW;have BW:Below w.heap.size w W:=b0.step16 bW b0.size;obtain⟨b1,hb1⟩:∃b1,Hid (b1=W0.heap.size):=⟨_,rfl⟩;rw[<-hb1.out]at z0 z1 z2 z3 zf lW e1;have f0:=zf 0;have f1:=zf 1;have f2:=zf 2;have f3:=zf 3;have RD:=hd.below BW;have hEb:Hid (w.heap.size+1=b1):=e1;have lwb:w.heap.size<b1:=Zo
 clear his hd e1 v3 v4 b0 bW hW0;cases vh with
 |false=>
  have E:is=false:=by rw[<-HIS.out];simp
  subst E;clear HIS RD
  go_enter Tryz.func71,Tryz.ntmps71
  go_wp2_with fail
  rw[<-hW,hEb.out];clear hW;exact app_zero
 |true=>
  by_cases q:ve=ep
  rotate_left
  ·have q':(ve==ep)=false:=Zq.2 q;have q2:(ve !=ep)=true:=by simp[bne,q']
   have E:is=false:=by rw[<-HIS.out];exact Zx fun k=>q k.2.1
   subst E;clear HIS RD
   go_enter Tryz.func71,Tryz.ntmps71
   go_wp2_with fail
   rw[<-hW,hEb.out];clear hW;exact app_zero
  ·subst q;obtain⟨X,hX⟩:∃X,Hid ((if IsR vda then (0:Int)else 160)=X):=⟨_,rfl⟩;have KD:=dec16_any RD hl hX.out rfl;have HE:Hid (is=decide (X=0)):=by
    show is=_
    rw[<-HIS.out,<-hX.out]
    by_cases k:IsR vda
    ·rw[if_pos k];simp[k]
    ·rw[if_neg k];simp[k]
   have HR:Hid (X=0->(if IsR vda then raR vda else noR)=raR vda):=fun e=>by
    rw[<-hX.out]at e
    by_cases k:IsR vda
    ·rw[if_pos k]
    ·rw[if_neg k]at e;cases e
   generalize (if IsR vda then raR vda else noR)=rr at KD HR;clear HIS RD hX
   go_enter Tryz.func71,Tryz.ntmps71
   go_wp2_with fail
   rw[<-hW,hEb.out];clear hW;refine KD.mono ?_
   rintro _ w1 ⟨⟨⟨ckd,cky,cln,cst⟩,cvs⟩,rfl,hcr,hcin,B1,hfar⟩;obtain⟨ca,cc,ecs⟩:=hcin.rs.form;simp only at ecs hcr hfar;subst ecs;rw[show aggR ⟨⟨ckd,cky,cln,cst⟩,.slice ca cst.length cc⟩= .agg #[.int .i64 ckd,.string ⟨cky.toArray⟩,.int .i64 cln,.slice ca cst.length cc]from rfl];obtain⟨w2,hw2⟩:∃w2,w2=w1.alloc (.cells #[.int .i64 ckd,.string ⟨cky.toArray⟩,.int .i64 cln,.slice ca cst.length cc] 38):=⟨_,rfl⟩;obtain⟨r0,r1,r2,r3,b2,-,l2⟩:=@lay4r w1 (.int .i64 ckd) (.string ⟨cky.toArray⟩) (.int .i64 cln) (.slice ca cst.length cc) 38;rw[<-hw2]at r0 r1 r2 r3 b2 l2;have B12:=B1.step16 b2 B1.size;replace z0:=(B12.cell (p:=⟨b1,0,none⟩) lW).trans z0;replace z1:=(B12.cell (p:=⟨b1,1,none⟩) lW).trans z1;replace z2:=(B12.cell (p:=⟨b1,2,none⟩) lW).trans z2;replace z3:=(B12.cell (p:=⟨b1,3,none⟩) lW).trans z3;have g0:=(B12.frozen (p:=⟨b1,0,none⟩) lW).trans f0;have g1:=(B12.frozen (p:=⟨b1,1,none⟩) lW).trans f1;have g2:=(B12.frozen (p:=⟨b1,2,none⟩) lW).trans f2;have g3:=(B12.frozen (p:=⟨b1,3,none⟩) lW).trans f3;obtain⟨Y,hY⟩:∃Y,Y=(((w2.setCell ⟨b1,0,none⟩ (.int .i64 ckd)).setCell ⟨b1,1,none⟩ (.string ⟨cky.toArray⟩)).setCell ⟨b1,2,none⟩ (.int .i64 cln)).setCell ⟨b1,3,none⟩ (.slice ca cst.length cc):=⟨_,rfl⟩;obtain⟨oX,s0,s1,s2,s3⟩:=set4 (a:=.int .i64 ckd) (b:=.string ⟨cky.toArray⟩) (c:=.int .i64 cln) (d:=.slice ca cst.length cc) z0 z1 z2 z3;rw[<-hY]at oX s0 s1 s2 s3;have nb:∀k,(Value.slice ca cst.length cc).ownBlock=some k->k≠b1:=fun k hk e=>by have:=hfar k hk;omega
   have IN:RcV.In w2 ⟨⟨ckd,cky,cln,cst⟩,.slice ca cst.length cc⟩:=hcin.below b2;have INY:RcV.In Y ⟨⟨ckd,cky,cln,cst⟩,.slice ca cst.length cc⟩:=⟨IN.wk,IN.wl,IN.ky,by
    rcases IN.rs with h|⟨b,off,cap,h1,h2,h3,h5,h6⟩
    ·exact Or.inl h
    ·have hne:b≠b1:=nb b (by simp only at h2;rw[h2];rfl);exact Or.inr ⟨b,off,cap,h1,h2,h3,Zu h5 (Nat.le_of_eq oX.size.symm),fun i hi=>(oX.cell (p:=⟨b,off+i,none⟩) hne).trans (h6 i hi)⟩,IN.wi⟩
   have F:Hid (AppdM w ⟨true,ve,vda,vco,vw⟩ is (.returned (.tuple #[.agg #[.int .i64 ckd,.string ⟨cky.toArray⟩,.int .i64 cln,.slice ca cst.length cc],.bool (X==0)])) Y):=by
    have e0:(X==0)=is:=by rw[HE.out];by_cases k:X=0<;>simp[k]
    rw[e0];refine⟨⟨⟨ckd,cky,cln,cst⟩,.slice ca cst.length cc⟩,rfl,INY,fun k hk=>?_,(BW.step16 B12 BW.size).trans (oX.below Zo),fun k=>?_⟩
    ·have:=hfar k hk;have:=BW.size;omega
    ·rw[HE.out]at k;exact hcr.trans (HR.out (of_decide_eq_true k))
   clear HE HR hcr hcin B1 hfar b2 B12 oX IN INY nb f0 f1 f2 f3 zf BW KD;subst hw2;go_wp2;rw[<-hY];clear hY;exact bodyPost_ret (v:=.tuple #[.agg #[.int .i64 ckd,.string ⟨cky.toArray⟩,.int .i64 cln,.slice ca cst.length cc],.bool (X==0)]) (by simp[results,Tryz.results71,go_sem,s0,s1,s2,s3]) rfl F.out
def rlE(g:GeoS)(base:Int):Int:=if ¬okG g then 50 else if ¬(0<=base/\base<=mo18)then 1 else 0
theorem rl_first{g:GeoS}{base:Int}{yb:Bool}(h1:decide (0<=base/\base<=mo18)=yb):fiE [chG g,if yb=true then 0 else 1]=rlE g base:=by
 subst h1;unfold rlE chG
 by_cases q:okG g
 ·have n1:¬¬okG g:=fun k=>k q
  rw[if_pos q,if_neg n1]
  by_cases q2:0<=base/\base<=mo18
  ·have n2:¬¬(0<=base/\base<=mo18):=fun k=>k q2
   rw[Zy q2,if_neg n2];rfl
  ·rw[Zx q2,if_pos q2];rfl
 ·rw[if_neg q,if_pos q];rfl
theorem rl_bad18{a:ArS}{g:GeoS}{K:List Bool}{base:Int}(h:¬rlE g base=0):rlX a g K base=rlE g base/\rlR a g K base=[]:=by
 have x:rlX a g K base=rlE g base:=by
  unfold rlX rlE;unfold rlE at h
  by_cases q:okG g
  ·have n1:¬¬okG g:=fun k=>k q
   rw[if_neg n1]at h ⊢;rw[if_neg n1]
   by_cases q2:0<=base/\base<=mo18
   ·have n2:¬¬(0<=base/\base<=mo18):=fun k=>k q2
    rw[if_neg n2]at h;exact absurd rfl h
   ·rw[if_pos q2,if_pos q2]
  ·rw[if_pos q,if_pos q]
 exact⟨x,rl_bad x h⟩
theorem rl_good{g:GeoS}{base:Int}(h:rlE g base=0):okG g/\0<=base/\base<=mo18:=by
 unfold rlE at h
 by_cases q:okG g
 ·have n1:¬¬okG g:=fun k=>k q
  rw[if_neg n1]at h
  by_cases q2:0<=base/\base<=mo18
  ·exact⟨q,q2⟩
  ·rw[if_pos q2]at h;cases h
 ·rw[if_pos q]at h;cases h
def RecBox(vda:List UInt8)(is:Bool)(w:World)(s t:Value)(wx:World):Prop:=∃(rb:Nat) (c:RcV),s= .pointer (some ⟨rb,0,none⟩)/\t= .bool is/\Below w.heap.size w wx/\wx.cell? ⟨rb,0,none⟩=some (.int .i64 c.r.kind)/\wx.cell? ⟨rb,1,none⟩=some (sv c.r.key)/\wx.cell? ⟨rb,2,none⟩=some (.int .i64 c.r.len)/\wx.cell? ⟨rb,3,none⟩=some c.vs/\c.In wx/\(∀k,c.vs.ownBlock=some k->w.heap.size<=k)/\(is=true->c.r=raR vda)
theorem rbx_end{p:Prop} (h:p:=by
 obtain⟨Y,hY⟩:∃Y,Y=(((wz.setCell ⟨rb,0,none⟩ (.int .i64 ckd)).setCell ⟨rb,1,none⟩ (.string ⟨cky.toArray⟩)).setCell ⟨rb,2,none⟩ (.int .i64 cln)).setCell ⟨rb,3,none⟩ (.slice ca cst.length cc):=⟨_,rfl⟩;obtain⟨oX,s0,s1,s2,s3⟩:=set4 (a:=.int .i64 ckd) (b:=.string ⟨cky.toArray⟩) (c:=.int .i64 cln) (d:=.slice ca cst.length cc) z0 z1 z2 z3;rw[<-hY]at oX s0 s1 s2 s3;have INY:RcV.In Y ⟨⟨ckd,cky,cln,cst⟩,.slice ca cst.length cc⟩:=⟨IN.wk,IN.wl,IN.ky,by
  rcases IN.rs with h|⟨b,off,cap,h1,h2,h3,h5,h6⟩
  ·exact Or.inl h
  ·exact Or.inr ⟨b,off,cap,h1,h2,h3,Zu h5 (Nat.le_of_eq oX.size.symm),fun i hi=>(oX.cell (p:=⟨b,off+i,none⟩) (NE.out b off cap h1 h2)).trans (h6 i hi)⟩,IN.wi⟩
 have REL:Hid (RecBox vda is w4 (.pointer (some ⟨rb,0,none⟩)) (.bool is) Y):=⟨rb,⟨⟨ckd,cky,cln,cst⟩,.slice ca cst.length cc⟩,rfl,rfl,BZ.trans (oX.below (by have:=vbl.out;omega)),s0,s1,s2,s3,INY,FA.out,himp⟩;have vr:vb≠rb:=by have:=vbl.out;omega
 obtain⟨q0,q1,q2,q3,q4⟩:=VL.out _ BZ;have SY:=And.intro ((oX.cell (p:=⟨vb,0,none⟩) vr).trans q0) (And.intro ((oX.cell (p:=⟨vb,1,none⟩) vr).trans q1) (And.intro ((oX.cell (p:=⟨vb,2,none⟩) vr).trans q2) (And.intro ((oX.cell (p:=⟨vb,3,none⟩) vr).trans q3) ((oX.cell (p:=⟨vb,4,none⟩) vr).trans q4))));clear q0 q1 q2 q3 q4 INY oX s0 s1 s2 s3 IN NE FA himp;refine rnH 9 (fun K' hK=>?_);go_simp;rw[<-hY];clear hY;refine koH hK SY fun hHeld=>?_
 clear hK K';refine tkH 10 ?_
 refine wpAnyH_done Zk ?_ _
 go_wp2
 go_meet
 case rel=>exact REL.out):p:=h
theorem z29_1{p:Prop} (h:p:=by
 clear hK K';clear BC;have BC:=B7;refine rnH 4 (fun K' hK=>?_);go_simp
 go_at_call 71
 refine(KA' _ BC).mono ?_
 rintro _ w5 ⟨⟨⟨ckd,cky,cln,cst⟩,cvs⟩,rfl,hcin,hfar,B5,himp⟩;obtain⟨ca,cc,ecs⟩:=hcin.rs.form;simp only at ecs hfar himp;subst ecs;rw[show aggR ⟨⟨ckd,cky,cln,cst⟩,.slice ca cst.length cc⟩= .agg #[.int .i64 ckd,.string ⟨cky.toArray⟩,.int .i64 cln,.slice ca cst.length cc]from rfl];dsimp only;have B45:Below w4.heap.size w4 w5:=BC.step16 B5 BC.size;refine koH hK (VL.out _ B45) fun hHeld=>?_
 clear hK K';refine tkH 5 ?_
 refine tkH 6 ?_
 refine tkH 7 ?_
 obtain⟨wz,hwz⟩:∃wz,wz=w5:=⟨_,rfl⟩;have IN:=hcin;have BZ:=B45;have NE:Hid (∀b off cap,cst≠[]->Value.slice ca cst.length cc= .slice (some ⟨b,off,none⟩) cst.length cap->b≠rb):=fun b off cap hne e=>by
  have:=hfar b (by rw[e];rfl);omega
 have FA:Hid (∀k,(Value.slice ca cst.length cc).ownBlock=some k->w4.heap.size<=k):=fun k hk=>Nat.le_trans B7.size (hfar k hk)
 replace z0:=(B5.cell (p:=⟨rb,0,none⟩) l7).trans z0;replace z1:=(B5.cell (p:=⟨rb,1,none⟩) l7).trans z1;replace z2:=(B5.cell (p:=⟨rb,2,none⟩) l7).trans z2;replace z3:=(B5.cell (p:=⟨rb,3,none⟩) l7).trans z3;have f0:=(B5.frozen (p:=⟨rb,0,none⟩) l7).trans (zf 0);have f1:=(B5.frozen (p:=⟨rb,1,none⟩) l7).trans (zf 1);have f2:=(B5.frozen (p:=⟨rb,2,none⟩) l7).trans (zf 2);have f3:=(B5.frozen (p:=⟨rb,3,none⟩) l7).trans (zf 3);have lrb:w4.heap.size<=rb:=by rw[hrb.out];exact Zr
 subst hwz;exact rbx_end
 ):p:=h
theorem mreplay_any{w:World}{ab:Nat}{GA:Nat->Prop}{a:ArS}(h:ArAt w ab GA a){g:GeoS}(hg:g.Wf){u:Value}{K:List Bool}(hk:RdB w u K){base:Int}:
  Calls Tryz.prog 21 #[.pointer (some ⟨ab,0,none⟩),aggG g,u,.int .i64 base] w (Recs18 w (rlX a g K base) (rlR a g K base)):=by
 obtain⟨ua,uc,eu⟩:=hk.form;subst eu;have HA:Hid (ArAt w ab GA a):=h;have HK:Hid (RdB w (.slice ua K.length uc) K):=hk;have KC0:=fun V=>@mref_any V ab g hg _ rfl
 have KS0:=fun V (i:Int) (hi:(Lit.int .i64 i).wf=true)=>@lslot_any V g hg i hi _ rfl
 obtain⟨y,hy⟩:∃y,Hid (y=chG g):=⟨_,rfl⟩;rw[<-hy.out]at KC0;obtain⟨yb,hyb⟩:∃yb,Hid (decide (0<=base/\base<=mo18)=yb):=⟨_,rfl⟩;obtain⟨u1,hu1⟩:∃u1:Int,Hid (u1=if yb=true then 0 else 1):=⟨_,rfl⟩;obtain⟨E,hE⟩:∃E,Hid (E=rlE g base):=⟨_,rfl⟩;have ZE:fiE [y,u1]=E:=by rw[hy.out,hu1.out,hE.out];exact rl_first hyb.out
 have KB:∀V,Calls Tryz.prog 68 #[.int .i64 base] V fun e w'=>e= .returned (.bool yb)/\w'=V:=fun V=>misbase_any hyb.out
 have KU:∀V,Calls Tryz.prog 66 #[.bool yb,.int .i64 1] V fun e w'=>e= .returned (.int .i64 u1)/\w'=V:=fun V=>by rw[hu1.out];exact munless_any yb 1
 have KF:∀V,Calls Tryz.prog 67 #[.slice (some ⟨V.heap.size,0,none⟩) 2 2] (V.alloc (.cells #[.int .i64 y,.int .i64 u1] 28)) fun e w'=>e= .returned (.int .i64 E)/\Below V.heap.size V w':=fun V=>mfirst2 28 ZE
 have BAD:Hid (¬E=0->rlX a g K base=E/\rlR a g K base=[]):=fun q=>by rw[hE.out]at q ⊢;exact rl_bad18 q
 have GOOD:Hid (E=0->(0<=base/\base<=mo18)/\(1<=g.t/\g.t<=64)/\(∀i:Nat,i<g.t.toNat->slG g (i:Int)=5+(i:Int))/\RlF18 a g K base g.t.toNat):=fun q=>by
  rw[hE.out]at q;obtain⟨m1,m2⟩:=rl_good q;have ht:1<=g.t/\g.t<=64:=by
   obtain⟨_,_,_,_,_,_,_,q7,q8,_⟩:=m1;exact⟨q7,q8⟩
  exact⟨m2,ht,fun i hi=>if_pos ⟨m1,Zo,Zo⟩,rl_facts m1 m2⟩
 have LG:=geo_laid w g 23;clear h hk hy hyb hu1 hE ZE;obtain⟨k,m,z,s,t,o⟩:=g;rw[aggE]at KC0 KS0 ⊢;obtain⟨W,hW⟩:∃W,W=w.alloc (.cells #[.int .i64 k,.int .i64 m,.int .i64 z,.int .i64 s,.int .i64 t,.int .i64 o] 23):=⟨_,rfl⟩;have LG2:Hid (∀V,Below W.heap.size W V->GeoAt V w.heap.size ⟨k,m,z,s,t,o⟩/\Below w.heap.size w V):=by rw[hW];exact LG
 clear LG;obtain⟨⟨y0,y1,y2,y3,y4,y5⟩,B0⟩:=LG2.out W Zf;have BW:Hid (w.heap.size<=W.heap.size):=B0.size;simp only at y0 y1 y2 y3 y4 y5
 go_enter Tryz.func21,Tryz.ntmps21
 go_wp2_with fail
 rw[<-hW];clear hW;go_step3
 go_wp2_with fail
 refine(KC0 _).mono ?_
 rintro _ w1 ⟨rfl,B1⟩
 go_wp2_with fail
 refine(KB _).mono ?_
 rintro _ v1 ⟨rfl,hv1⟩;subst hv1
 go_wp2_with fail
 refine(KU _).mono ?_
 rintro _ v2 ⟨rfl,hv2⟩;subst hv2
 go_wp2_with fail
 refine(KF _).mono ?_
 rintro _ w2 ⟨rfl,B2⟩;have B12:=B1.step16 B2 B1.size;clear KC0 KB KU KF y0 y1 y2 y3 y4 y5 B0 B1 B2
 by_cases q:E=0
 rotate_left
 ·have q1:(E==0)=false:=Zq.2 q;have q2:(E !=0)=true:=by simp[bne,q1]
  have F:Hid (Recs18 w (rlX a ⟨k,m,z,s,t,o⟩ K base) (rlR a ⟨k,m,z,s,t,o⟩ K base) (.returned (.tuple #[.slice none 0 0,.int .i64 E])) w2):=by
   show Recs18 _ _ _ _ _
   rw[(BAD.out q).1,(BAD.out q).2];exact recs_nil rfl (LG2.out _ B12).2
  clear BAD GOOD KS0 LG2 B12;go_wp2
  (try rw[Exit.noGoto_ret])
  exact bodyPost_ret (v:=.tuple #[.slice none 0 0,.int .i64 E]) (by simp[results,Tryz.results21,go_sem]) rfl F.out
 obtain⟨qq,⟨t1,t2⟩,SL,RFF⟩:=GOOD.out q;subst q;clear BAD GOOD;obtain⟨⟨y0,y1,y2,y3,y4,y5⟩,B02⟩:=LG2.out w2 B12;simp only at y0 y1 y2 y3 y4 y5 t1 t2 SL RFF;obtain⟨T,hT⟩:∃T:Nat,t=(T:Int):=⟨t.toNat,Zo⟩;subst hT;rw[Int.toNat_natCast T]at RFF SL;have HSL:Hid _:=SL;clear SL;obtain⟨gb,hgb⟩:∃gb,Hid (gb=w.heap.size):=⟨_,rfl⟩;rw[<-hgb.out]at y0 y1 y2 y3 y4 y5 ⊢;have B12':Hid (Below W.heap.size W w2):=B12
 go_wp2_with fail
 go_step3
 go_wp2_with fail
 go_loopw [11,30] (fun v i wr=>∃(r:Nat) (L:List RcV),r<=T/\i= .int .i64 (r:Int)/\OwnRc wr W.heap.size v L/\Hid (L.map (·.r)=(List.range r).map fun i=>raR (rlV a ⟨k,m,z,s,(T:Int),o⟩ K i).da)/\Hid (Below W.heap.size W wr)/\Hid (∀j,j<r->rlF a ⟨k,m,z,s,(T:Int),o⟩ K base j=true)/\Hid (0<r->a.off=false)) (fun _ i _=>T-(intOf i).toNat)
 case atStart=>exact⟨0,[],Zz,rfl,OwnRc.nil _ _,rfl,B12'.out,fun j hj=>Zo,fun q=>Zo⟩
 case round=>
  clear B12 B12' B02 y0 y1 y2 y3 y4 y5;obtain⟨r,L,hr,rfl,hO,hS,hB,hall,hof⟩:=hrel;have LL:Hid (L.length=r):=by
   show _=_
   have:=congrArg List.length hS.out;rw[List.length_map,List.length_map,List.length_range]at this;exact this
  obtain⟨la,lc,el⟩:=(hO.rd (by have:=LL.out;omega)).form;subst el;obtain⟨⟨y0,y1,y2,y3,y4,y5⟩,B0⟩:=LG2.out wr hB.out;simp only at y0 y1 y2 y3 y4 y5;rw[<-hgb.out]at y0 y1 y2 y3 y4 y5
  by_cases hlt:r<T
  ·have hlt':(r:Int)<(T:Int):=by omega
   obtain⟨V,hV⟩:∃V,Hid (V=rlV a ⟨k,m,z,s,(T:Int),o⟩ K r):=⟨_,rfl⟩;have KS1:=fun V=>KS0 V (r:Int) (WalkArith.wf_i64 Zo)
   rw[HSL.out r hlt]at KS1;obtain⟨ad,had⟩:∃ad,Hid (5+(r:Int)=ad):=⟨_,rfl⟩;rw[had.out]at KS1;have EV:rvV a K ad=V:=by rw[hV.out];unfold rlV;rw[HSL.out r hlt,had.out]
   have KR:=fun W2 (b:Below wr.heap.size wr W2)=>vread17_any (HA.out.below (B0.step16 b B0.size)) (ad:=ad) (WalkArith.wf_i64 (by have:=had.out;omega)) (HK.out.below (B0.step16 b B0.size))
   rw[EV]at KR;have DV:V.da.length<=4096:=by rw[<-EV];exact vo_da.1
   have FI:rlF a ⟨k,m,z,s,(T:Int),o⟩ K base r=true↔(V.has=true/\V.ep=base+(r:Int)+1/\IsR V.da):=by rw[hV.out];exact rlF_iff
   obtain⟨is,his⟩:∃is,Hid (decide (V.has=true/\V.ep=base+(r:Int)+1/\IsR V.da)=is):=⟨_,rfl⟩;have HF:Hid (rlF a ⟨k,m,z,s,(T:Int),o⟩ K base r=is):=by
    show _=_
    rw[<-his.out]
    by_cases k:(V.has=true/\V.ep=base+(r:Int)+1/\IsR V.da)
    ·rw[Zy k];exact FI.2 k
    ·rw[Zx k];cases e:rlF a ⟨_,m,z,s,(T:Int),o⟩ K base r with
     |false=>rfl
     |true=>exact absurd (FI.1 e) k
   have KE:∀V,Calls Tryz.prog 72 #[.int .i64 base,.int .i64 (r:Int)] V fun e w'=>e= .returned (.int .i64 (base+(r:Int)+1))/\w'=V:=fun V=>mepoch_any rfl ⟨qq.1,qq.2,Zo,Zo⟩
   obtain⟨X,hX⟩:∃X,Hid (X=rvX a):=⟨_,rfl⟩;rw[<-hX.out]at KR;obtain⟨ep,hep⟩:∃ep,Hid (base+(r:Int)+1=ep):=⟨_,rfl⟩;rw[hep.out]at KE;have KA:Hid (∀W2 vd,Rd W2 vd V.da->Calls Tryz.prog 71 #[aggV V vd,.int .i64 ep] W2 (AppdM W2 V is)):=fun W2 vd R=>mapp_any R Zo (by rw[<-hep.out];exact his.out)
   clear EV FI his hep;obtain⟨vh,ve,vda,vco,vw⟩:=V;simp only at DV KR
   go_wp2_with fail
   refine(KS1 _).mono ?_
   rintro _ w2 ⟨rfl,B2⟩;clear KS1;have KR1:=KR w2 B2
   go_wp2_with fail
   refine KR1.mono ?_
   rintro _ w3 ⟨vd,rfl,R3,F3,B3⟩;clear KR KR1 F3;simp only at R3;obtain⟨da,dc,ed⟩:=R3.form;subst ed;rw[show aggV ⟨vh,ve,vda,vco,vw⟩ (.slice da vda.length dc)= .agg #[.bool vh,.int .i64 ve,.slice da vda.length dc,.int .i64 ((vco:Nat):Int),.bool vw]from rfl];have B13:=B2.step16 B3 B2.size;obtain⟨w4,hw4⟩:∃w4,w4=w3.alloc (.cells #[.bool vh,.int .i64 ve,.slice da vda.length dc,.int .i64 ((vco:Nat):Int),.bool vw] 130):=⟨_,rfl⟩;obtain⟨v0,v1,v2,v3,v4,b4,-,l4⟩:=@lay5 w3 (.bool vh) (.int .i64 ve) (.slice da vda.length dc) (.int .i64 ((vco:Nat):Int)) (.bool vw) 130;rw[<-hw4]at v0 v1 v2 v3 v4 b4 l4;obtain⟨vb,hvb⟩:∃vb,Hid (vb=w3.heap.size):=⟨_,rfl⟩;have B14:=B13.step16 b4 B13.size;have BW4:=B0.step16 B14 B0.size;cases ho:a.off with
   |true=>
    have eX:X=130:=hX.out.trans (if_pos ho);subst eX;have F:Hid (Recs18 w (rlX a ⟨k,m,z,s,(T:Int),o⟩ K base) (rlR a ⟨k,m,z,s,(T:Int),o⟩ K base) (.returned (.tuple #[.slice none 0 0,.int .i64 130])) w4):=by
     show Recs18 _ _ _ _ _
     rw[(RFF.off ho).2,(RFF.off ho).1];exact recs_nil rfl BW4
    clear RFF hO hS hB hall hof B13 B2 B3 b4 v0 v1 v2 v3 v4 l4 B14 BW4 R3 hX hV KA KE HF;go_wp2;rw[<-hw4];clear hw4
    (try rw[Exit.noGoto_ret])
    exact bodyPost_ret (v:=.tuple #[.slice none 0 0,.int .i64 130]) (by simp[results,Tryz.results21,go_sem]) rfl F.out
   |false=>
    have eX:X=0:=hX.out.trans (if_neg (by rw[ho];decide));subst eX;have R4:=R3.below b4;have VL:Hid (∀V2,Below w4.heap.size w4 V2->V2.cell? ⟨vb,0,none⟩=some (.bool vh)/\V2.cell? ⟨vb,1,none⟩=some (.int .i64 ve)/\V2.cell? ⟨vb,2,none⟩=some (.slice da vda.length dc)/\V2.cell? ⟨vb,3,none⟩=some (.int .i64 ((vco:Nat):Int))/\V2.cell? ⟨vb,4,none⟩=some (.bool vw)):=fun V2 b=>by
     rw[hvb.out];exact⟨(b.cell (p:=⟨w3.heap.size,0,none⟩) l4).trans v0,(b.cell (p:=⟨w3.heap.size,1,none⟩) l4).trans v1,(b.cell (p:=⟨w3.heap.size,2,none⟩) l4).trans v2,(b.cell (p:=⟨w3.heap.size,3,none⟩) l4).trans v3,(b.cell (p:=⟨w3.heap.size,4,none⟩) l4).trans v4⟩
    have KA':∀W2,Below w4.heap.size w4 W2->Calls Tryz.prog 71 #[.agg #[.bool vh,.int .i64 ve,.slice da vda.length dc,.int .i64 ((vco:Nat):Int),.bool vw],.int .i64 ep] W2 (AppdM W2 ⟨vh,ve,vda,vco,vw⟩ is):=fun W2 b=>KA.out W2 (.slice da vda.length dc) (R4.below b)
    have BD:Below w4.heap.size w4 w4.drew:=Zf.drew;have sD:=VL.out _ BD;have vbl:Hid (vb<w4.heap.size):=by show _<_;rw[hvb.out];exact l4
    clear KA v0 v1 v2 v3 v4 l4 R3 b4
    go_upto_region 11 with fail
    rw[<-hw4,<-hvb.out];clear hw4
    go_cut [15,16]from 45 to 52 (fun s15 s16 wx=>RecBox vda is w4 s15 s16 wx)
    case first=>
     have BC:=BD;refine wp_region_held_drew (S:=fun wx=>wx.cell? ⟨vb,0,none⟩=some (.bool vh)/\wx.cell? ⟨vb,1,none⟩=some (.int .i64 ve)/\wx.cell? ⟨vb,2,none⟩=some (.slice da vda.length dc)/\wx.cell? ⟨vb,3,none⟩=some (.int .i64 ((vco:Nat):Int))/\wx.cell? ⟨vb,4,none⟩=some (.bool vw)) Zk sD (fun hHeld=>?_);refine tkH 0 ?_
     refine tkH 1 ?_
     refine tkH 2 ?_
     refine rmH 3 8 (fun K' hK=>?_) (fun K' hK=>?_)
     ·go_simp
      go_at_call 72
      refine(KE _).mono ?_
      rintro _ vv ⟨rfl,hvv⟩;subst hvv;dsimp only;refine koH hK sD fun hHeld=>?_
      clear hK K';refine rmH 4 8 (fun K' hK=>?_) (fun K' hK=>?_)
      ·go_simp
       go_at_call 71
       refine(KA' _ BC).mono ?_
       rintro _ w5 ⟨⟨⟨ckd,cky,cln,cst⟩,cvs⟩,rfl,hcin,hfar,B5,himp⟩;obtain⟨ca,cc,ecs⟩:=hcin.rs.form;simp only at ecs hfar himp;subst ecs;rw[show aggR ⟨⟨ckd,cky,cln,cst⟩,.slice ca cst.length cc⟩= .agg #[.int .i64 ckd,.string ⟨cky.toArray⟩,.int .i64 cln,.slice ca cst.length cc]from rfl];dsimp only;have B45:Below w4.heap.size w4 w5:=BC.step16 B5 BC.size;refine koH hK (VL.out _ B45) fun hHeld=>?_
       clear hK K';refine tkH 5 ?_
       refine tkH 6 ?_
       refine tkH 7 ?_
       refine rnH 8 (fun K' hK=>?_);obtain⟨w7,hw7⟩:∃w7,w7=w5.alloc (.cells #[.int .i64 0,.string ⟨#[]⟩,.int .i64 0,.slice none 0 0] 38):=⟨_,rfl⟩;obtain⟨z0,z1,z2,z3,b7,zf,l7⟩:=@lay4r w5 (.int .i64 0) (.string ⟨#[]⟩) (.int .i64 0) (.slice none 0 0) 38;rw[<-hw7]at z0 z1 z2 z3 b7 zf l7;have B7:=B45.step16 b7 B45.size;obtain⟨rb,hrb⟩:∃rb,Hid (rb=w5.heap.size):=⟨_,rfl⟩;replace z0:w7.cell? ⟨rb,0,none⟩=some (.int .i64 0):=by rw[hrb.out];exact z0
       replace z1:w7.cell? ⟨rb,1,none⟩=some (.string ⟨#[]⟩):=by rw[hrb.out];exact z1
       replace z2:w7.cell? ⟨rb,2,none⟩=some (.int .i64 0):=by rw[hrb.out];exact z2
       replace z3:w7.cell? ⟨rb,3,none⟩=some (.slice none 0 0):=by rw[hrb.out];exact z3
       replace zf:∀j,w7.frozen? ⟨rb,j,none⟩=false:=by rw[hrb.out];exact zf
       replace l7:rb<w7.heap.size:=by rw[hrb.out];exact l7
       go_simp;rw[<-hw7];rw[<-hrb.out];clear hw7;refine koH hK (VL.out _ B7) fun hHeld=>?_
       clear hK K';obtain⟨wz,hwz⟩:∃wz,wz=w7:=⟨_,rfl⟩;have IN:=hcin.below b7;have BZ:=B7;have NE:Hid (∀b off cap,cst≠[]->Value.slice ca cst.length cc= .slice (some ⟨b,off,none⟩) cst.length cap->b≠rb):=fun b off cap hne e=>by
        rcases hcin.rs with h|⟨b2,off2,cap2,h1,h2,h3,h5,h6⟩
        ·exact absurd (by obtain⟨_,_,h,_⟩:=h;exact h) hne
        ·simp only at h2;rw[h2]at e;simp at e;obtain⟨⟨rfl,_⟩,_⟩:=e;rw[hrb.out];omega
       have FA:Hid (∀k,(Value.slice ca cst.length cc).ownBlock=some k->w4.heap.size<=k):=fun k hk=>Nat.le_trans BC.size (hfar k hk)
       subst hwz;have f0:=zf 0;have f1:=zf 1;have f2:=zf 2;have f3:=zf 3;have lrb:w4.heap.size<=rb:=by rw[hrb.out];exact B45.size
       exact rbx_end
      ·obtain⟨w7,hw7⟩:∃w7,w7=(w4.alloc (.cells #[.int .i64 0,.string ⟨#[]⟩,.int .i64 0,.slice none 0 0] 38)).drew:=⟨_,rfl⟩;obtain⟨z0,z1,z2,z3,b7,zf,l7⟩:=@lay4r w4 (.int .i64 0) (.string ⟨#[]⟩) (.int .i64 0) (.slice none 0 0) 38;have B7:Below w4.heap.size w4 w7:=by rw[hw7];exact b7.drew
       obtain⟨rb,hrb⟩:∃rb,Hid (rb=w4.heap.size):=⟨_,rfl⟩;replace z0:w7.cell? ⟨rb,0,none⟩=some (.int .i64 0):=by rw[hw7,hrb.out];exact z0
       replace z1:w7.cell? ⟨rb,1,none⟩=some (.string ⟨#[]⟩):=by rw[hw7,hrb.out];exact z1
       replace z2:w7.cell? ⟨rb,2,none⟩=some (.int .i64 0):=by rw[hw7,hrb.out];exact z2
       replace z3:w7.cell? ⟨rb,3,none⟩=some (.slice none 0 0):=by rw[hw7,hrb.out];exact z3
       replace zf:∀j,w7.frozen? ⟨rb,j,none⟩=false:=by rw[hw7,hrb.out];exact zf
       replace l7:rb<w7.heap.size:=by rw[hw7,hrb.out];exact l7
       go_simp;rw[<-hw7];rw[<-hrb.out];clear hw7;refine koH hK (VL.out _ B7) fun hHeld=>?_
       exact z29_1
     ·obtain⟨w7,hw7⟩:∃w7,w7=(w4.alloc (.cells #[.int .i64 0,.string ⟨#[]⟩,.int .i64 0,.slice none 0 0] 38)).drew:=⟨_,rfl⟩;obtain⟨z0,z1,z2,z3,b7,zf,l7⟩:=@lay4r w4 (.int .i64 0) (.string ⟨#[]⟩) (.int .i64 0) (.slice none 0 0) 38;have B7:Below w4.heap.size w4 w7:=by rw[hw7];exact b7.drew
      obtain⟨rb,hrb⟩:∃rb,Hid (rb=w4.heap.size):=⟨_,rfl⟩;replace z0:w7.cell? ⟨rb,0,none⟩=some (.int .i64 0):=by rw[hw7,hrb.out];exact z0
      replace z1:w7.cell? ⟨rb,1,none⟩=some (.string ⟨#[]⟩):=by rw[hw7,hrb.out];exact z1
      replace z2:w7.cell? ⟨rb,2,none⟩=some (.int .i64 0):=by rw[hw7,hrb.out];exact z2
      replace z3:w7.cell? ⟨rb,3,none⟩=some (.slice none 0 0):=by rw[hw7,hrb.out];exact z3
      replace zf:∀j,w7.frozen? ⟨rb,j,none⟩=false:=by rw[hw7,hrb.out];exact zf
      replace l7:rb<w7.heap.size:=by rw[hw7,hrb.out];exact l7
      go_simp;rw[<-hw7];rw[<-hrb.out];clear hw7;refine koH hK (VL.out _ B7) fun hHeld=>?_
      clear hK K';clear sD;have sD:=VL.out _ B7;refine rnH 3 (fun K' hK=>?_);go_simp
      go_at_call 72
      refine(KE _).mono ?_
      rintro _ vv ⟨rfl,hvv⟩;subst hvv;dsimp only;refine koH hK sD fun hHeld=>?_
      exact z29_1
    case rest=>
     obtain⟨rb,⟨⟨ckd,cky,cln,cst⟩,cvs⟩,rfl,rfl,B6,r0,r1,r2,r3,INN,hfar,himp⟩:=hcut;obtain⟨ca,cc,ecs⟩:=INN.rs.form;simp only at ecs r0 r1 r2 r3 hfar himp;subst ecs;replace r1:wc.cell? ⟨rb,1,none⟩=some (.string ⟨cky.toArray⟩):=r1;obtain⟨q0,q1,q2,q3,q4⟩:=VL.out _ B6;have BW6:=BW4.step16 B6 BW4.size;have Br6:=B14.step16 B6 B14.size;have O6:=hO.later Br6;have BWW:Hid (Below W.heap.size W wc):=hB.out.step16 Br6 hB.out.size;have lo4:wr.heap.size<=w4.heap.size:=B14.size;have NR:NearR W.heap.size wc.heap.size (.slice la L.length lc) (.slice ca cst.length cc):=near_far (lo:=w4.heap.size) INN.rs (Nat.le_trans hB.out.size lo4) (fun q hq=>by have:=(Zv hO.row q hq).2;omega) hfar;have s6:=BWW.out.size;have RV:rlV a ⟨k,m,z,s,(T:Int),o⟩ K r=⟨vh,ve,vda,vco,vw⟩:=hV.out.symm;have st0:=RFF.stop0 r ho hall.out hlt;have st1:=RFF.stop1 r ho hall.out hlt;rw[RV]at st0 st1;have Ll:L.length<=100000:=by have:=LL.out;omega
     have OFF:Hid (0<r+1->a.off=false):=fun _=>ho
     clear VL sD BD KA' KE RFF B13 B14 BW4 B2 B3 R4 Br6 lo4 hfar q0 q1 q2 q3;cases is with
     |true=>
      have SN':Hid ((L++[(⟨⟨ckd,cky,cln,cst⟩,.slice ca cst.length cc⟩:RcV)]).map (fun x=>RcV.r x)=(List.range (r+1)).map fun i=>raR (rlV a ⟨k,m,z,s,(T:Int),o⟩ K i).da):=by
       have e:(⟨ckd,cky,cln,cst⟩:RcS)=raR vda:=himp rfl
       show _=_
       rw[List.map_append,hS.out,List.range_succ,List.map_append]
       show _++[(⟨ckd,cky,cln,cst⟩:RcS)]=_++[raR (rlV a ⟨k,m,z,s,(T:Int),o⟩ K r).da]
       rw[RV,e]
      have AL:Hid (∀j,j<r+1->rlF a ⟨k,m,z,s,(T:Int),o⟩ K base j=true):=fun j hj=>by
       by_cases e:j=r
       ·rw[e];exact HF.out
       ·exact hall.out j Zo
      clear st0 st1 himp RV hV hS hall hof hB hO HF BW6 hX q4
      go_wp2_with (at_builtin;go_loud (refine wpList_append_rc (w:=wc) (c:=⟨⟨ckd,cky,cln,cst⟩,.slice ca cst.length cc⟩) rfl (.tmp 55) (.tmp 57) rfl rfl rfl O6 INN NR rfl rfl rfl Ll s6 ?_);go_loud (intro v7 w7 o7 G7;have B7:Below W.heap.size W w7:=BWW.out.grown G7.gr BWW.out.size (fun q hq=>(Zv O6.row q hq).1);clear G7 O6 NR INN))
      have B8:Hid (Below W.heap.size W w7):=B7;go_roundw
      case rel=>exact⟨r+1,_,Zo,Zg,o7,SN',B8,AL,OFF⟩
      case measure=>simp[intOf];omega
     |false=>
      cases vw with
      |false=>
       have F:Hid (Recs18 w (rlX a ⟨k,m,z,s,(T:Int),o⟩ K base) (rlR a ⟨k,m,z,s,(T:Int),o⟩ K base) (.returned (.tuple #[.slice none 0 0,.int .i64 150])) wc):=by
        show Recs18 _ _ _ _ _
        rw[(st0 HF.out rfl).2,(st0 HF.out rfl).1];exact recs_nil rfl BW6
       clear st0 st1 himp RV hV hS hall hof hB hO HF BW6 hX O6 NR INN BWW s6;go_wp2
       (try rw[Exit.noGoto_ret])
       exact bodyPost_ret (v:=.tuple #[.slice none 0 0,.int .i64 150]) (by simp[results,Tryz.results21,go_sem]) rfl F.out
      |true=>
       have F:Hid (Recs18 w (rlX a ⟨k,m,z,s,(T:Int),o⟩ K base) (rlR a ⟨k,m,z,s,(T:Int),o⟩ K base) (.returned (.tuple #[.slice la L.length lc,.int .i64 0])) wc):=by
        show Recs18 _ _ _ _ _
        rw[(st1 HF.out rfl).2,(st1 HF.out rfl).1];exact⟨_,L,rfl,O6.weak BW.out,hS.out,BW6⟩
       clear st0 st1 himp RV hV hS hall hof hB hO HF BW6 hX O6 NR INN BWW s6;go_wp2
       (try rw[Exit.noGoto_ret])
       exact bodyPost_ret (v:=.tuple #[.slice la L.length lc,.int .i64 0]) (by simp[results,Tryz.results21,go_sem]) rfl F.out
  ·obtain rfl:r=T:=by omega
   have hge:¬(r:Int)<(r:Int):=Zo
   have ho:a.off=false:=hof.out Zo;have F:Hid (Recs18 w (rlX a ⟨k,m,z,s,(r:Int),o⟩ K base) (rlR a ⟨k,m,z,s,(r:Int),o⟩ K base) (.returned (.tuple #[.slice la L.length lc,.int .i64 0])) wr):=by
    obtain⟨e1,e2⟩:=RFF.full ho hall.out
    show Recs18 _ _ _ _ _
    rw[e1,e2];exact⟨_,L,rfl,hO.weak BW.out,hS.out,B0⟩
   clear RFF hO hS hB hall hof B0 KS0;go_wp2
   (try rw[Exit.noGoto_ret])
   exact bodyPost_ret (v:=.tuple #[.slice la L.length lc,.int .i64 0]) (by simp[results,Tryz.results21,go_sem]) rfl F.out
end Go.Proofs.YtclieefpnbdbjaaGreat.Gf
