/- JOINED: ReCJ, ReOw, ReCD, ReInt, ReStN, ReCE. -/
import Derived.Test.YtclieefpnbdbjaaGreatPome17
set_option maxHeartbeats 4000000
set_option maxRecDepth 100000
namespace Go.Proofs.YtclieefpnbdbjaaGreat.Gf
set_option linter.unusedVariables false
set_option linter.unusedSimpArgs false
open Go.RowKit
theorem snap16_far{w:World}{v:Value}{L:List ObV}(h:RdO w v L)(hs:∀i,i<L.length->(L.getD i default).o.st.length<=1000000):Calls Tryz.prog 77 #[v] w (Snaps16F w L):=by
 have K0:=mbt16_any h hs;obtain⟨a,cp,rfl⟩:=h.form
 go_enter Tryz.func77,Tryz.ntmps77
 go_wp2_with fail
 refine K0.mono ?_
 rintro _ w2 ⟨x,rfl,hx,B2⟩;clear K0;have HX:Hid (x=true↔MayL (oL L)):=hx;clear hx;cases x with
 |false=>
  have N:Hid (¬MayL (oL L)):=fun q=>by have:=HX.out.2 q;cases this
  clear HX h hs;go_wp2;exact bodyPost_ret (v:=.tuple #[.slice none 0 0,.int .i64 1]) (by simp[results,Tryz.results77,go_sem]) rfl (Or.inr ⟨N.out,rfl,B2⟩)
 |true=>
  have Y:Hid (MayL (oL L)):=HX.out.1 rfl;clear HX;have l64:L.length<=64:=by have:=Y.out.1;rwa[oL_length]at this
  have oN:OwnP w2 w2.heap.size 5 (.slice none 0 0) []:=World.ownsRow_nil w2 w2.heap.size 5 1;have K1:=num16_any (n:=L.length) (k:=2) (z:=2) oN Zr Zo (by show 0<=_;omega) rfl rfl
  go_wp2_with fail
  refine K1.mono ?_
  rintro _ w3 ⟨v3,rfl,o3,G3⟩;clear K1;rw[List.nil_append,nb_two]at o3;have B3:Below w2.heap.size w2 w3:=G3.below Zf Zr oN;clear G3 oN;obtain⟨a3,c3,e3⟩:=owns_form o3;subst e3;have LB:Hid (∀r,(obsB ((oL L).take r)).length<=6000):=fun r=>obs_take Y.out r
  go_wp2_with fail
  go_loopw [4,15] (fun ov i wr=>∃r:Nat,r<=L.length/\i= .int .i64 (r:Int)/\OwnP wr w2.heap.size 5 ov (tw L.length++obsB ((oL L).take r))/\Hid (Below w2.heap.size w2 wr)) (fun _ i _=>L.length-(intOf i).toNat)
  case atStart=>exact⟨0,Zz,rfl,ownAs o3 (by rw[List.take_zero,show obsB []=[]from rfl,List.append_nil]),B3⟩
  case round=>
   clear o3 B3;obtain⟨r,hr,rfl,hO,hB⟩:=hrel;obtain⟨Q,hQ⟩:∃Q,Hid (Q=tw L.length++obsB ((oL L).take r)):=⟨_,rfl⟩;have hQl:Q.length<=6002:=by rw[hQ.out,List.length_append,tw_length];have:=LB.out r;omega
   rw[<-hQ.out]at hO;obtain⟨oa,oc,rfl⟩:=owns_form hO;have BW:=B2.step16 hB.out B2.size
   by_cases hlt:r<L.length
   ·have hlt':(r:Int)<(L.length:Int):=by omega
    obtain⟨b,off,rfl,hb,cz⟩:=(h.below BW).at hlt;obtain⟨_,_,ea,_,cw⟩:=h.at hlt;have rsW:Hid (∀W,Below w.heap.size w W->RdI W (L.getD r default).vs (L.getD r default).o.st):=fun W q=>cw.rs.below q
    have ok:Hid (OkO (L.getD r default).o):=((may_up.1 Y.out).2.1 r hlt).1;have HQ2:Hid (Q++obB (L.getD r default).o=tw L.length++obsB ((oL L).take (r+1))):=by
     show _=_
     rw[hQ.out,obs_step hlt,List.append_assoc]
    clear ea cw;generalize L.getD r default=c at cz rsW ok HQ2;obtain⟨⟨ky,ln,ep,st⟩,vs⟩:=c;obtain⟨a2,c2,e⟩:=cz.rs.form;simp only at e ok HQ2 rsW;subst e;have z0:wr.cell? ⟨b,off+r*4,none⟩=some (.string ⟨ky.toArray⟩):=cz.c0;have z1:wr.cell? ⟨b,off+r*4+1,none⟩=some (.int .i64 ln):=cz.c1;have z2:wr.cell? ⟨b,off+r*4+2,none⟩=some (.int .i64 ep):=cz.c2;have z3:wr.cell? ⟨b,off+r*4+3,none⟩=some (.slice a2 st.length c2):=cz.c3;obtain⟨w1,hw1⟩:∃w1,w1=wr.alloc (.cells #[.string ⟨ky.toArray⟩,.int .i64 ln,.int .i64 ep,.slice a2 st.length c2] 92):=⟨_,rfl⟩;have B1:Below wr.heap.size wr w1:=by rw[hw1];exact belR _ _
    have s1:wr.heap.size<w1.heap.size:=by rw[hw1];show wr.heap.size<(wr.heap.push _).size;rw[Array.size_push];exact Nat.lt_succ_self _
    have y:∀j,w1.cell? ⟨wr.heap.size,j,none⟩= #[Value.string ⟨ky.toArray⟩,.int .i64 ln,.int .i64 ep,.slice a2 st.length c2][j]? :=fun j=>by rw[hw1,World.cell?_alloc_new]
    have o1:OwnP w1 w2.heap.size 5 (.slice oa Q.length oc) Q:=owns_later hO B1;have hne:(Value.slice oa Q.length oc).ownBlock≠some wr.heap.size:=own_ne hO Zr;have C1:Below w2.heap.size w2 w1:=hB.out.step16 B1 hB.out.size;have hep:=ok.out.2;have K1:=num16_any (n:=ep.toNat) (k:=4) (z:=4) o1 C1.size Zo Zo (Int.toNat_of_nonneg hep.1).symm rfl;clear cz BW hO;have y2:w1.cell? ⟨wr.heap.size,2,none⟩=some (.int .i64 ep):=y 2
    go_wp2_with fail
    rw[<-hw1];clear hw1 y2 z0 z1 z2 z3;refine K1.mono ?_
    rintro _ w4 ⟨v4,rfl,o4,G4⟩;clear K1;rw[nb_four]at o4;obtain⟨Q4,hQ4⟩:∃Q4,Hid (Q4=Q++fo ep.toNat):=⟨_,rfl⟩;rw[<-hQ4.out]at o4;have hQ4l:Q4.length<=6010:=by rw[hQ4.out,List.length_append,fo_length];omega
    have C4:Below w2.heap.size w2 w4:=G4.below C1 C1.size o1;have y':∀j,w4.cell? ⟨wr.heap.size,j,none⟩= #[Value.string ⟨ky.toArray⟩,.int .i64 ln,.int .i64 ep,.slice a2 st.length c2][j]? :=fun j=>(G4.cell (p:=⟨wr.heap.size,j,none⟩) s1 hne).trans (y j)
    have x0:w4.cell? ⟨wr.heap.size,0,none⟩=some (.string ⟨ky.toArray⟩):=y' 0;have x1:w4.cell? ⟨wr.heap.size,1,none⟩=some (.int .i64 ln):=y' 1;have x2:w4.cell? ⟨wr.heap.size,2,none⟩=some (.int .i64 ep):=y' 2;have x3:w4.cell? ⟨wr.heap.size,3,none⟩=some (.slice a2 st.length c2):=y' 3;have BW4:Below w.heap.size w w4:=B2.step16 C4 B2.size;have K2:Calls Tryz.prog 122 #[.agg #[.string ⟨ky.toArray⟩,.int .i64 ln,.int .i64 ep,.slice a2 st.length c2]] w4 (fun e w'=>e= .returned (aggR ⟨putR ⟨ky,ln,ep,st⟩,.slice a2 st.length c2⟩)/\Below w4.heap.size w4 w'):=put16_any (c:=⟨⟨ky,ln,ep,st⟩,.slice a2 st.length c2⟩) (rsW.out w4 BW4);clear G4 o1 C1 y y' hne s1 B1;obtain⟨a4,c4,e4⟩:=owns_form o4;subst e4
    go_wp2_with fail
    refine K2.mono ?_
    rintro _ w5 ⟨rfl,B5⟩;clear K2 x0 x1 x2 x3;have o5:OwnP w5 w2.heap.size 5 (.slice a4 Q4.length c4) Q4:=owns_later o4 B5;have C5:Below w2.heap.size w2 w5:=C4.step16 B5 C4.size;have K3:=wrec16_any (c:=⟨putR ⟨ky,ln,ep,st⟩,.slice a2 st.length c2⟩) o5 C5.size ok.out.1 (fun W V g=>rsW.out W (B2.step16 (g.below C5 C5.size o5) B2.size)) Zo;clear C4 B5 BW4 o4
    go_wp2_with fail
    refine K3.mono ?_
    rintro _ w6 ⟨v6,rfl,o6,G6⟩;have C6:Hid (Below w2.heap.size w2 w6):=G6.below C5 C5.size o5;have o7:=ownAs o6 (show _=tw L.length++obsB ((oL L).take (r+1)) by rw[hQ4.out,List.append_assoc];exact HQ2.out);clear K3 o5 o6 G6 C5;go_wp2;go_roundw
    case rel=>exact⟨r+1,Zo,Zg,o7,C6⟩
    case measure=>simp[intOf];omega
   ·obtain rfl:r=L.length:=by omega
    have hge:¬(L.length:Int)<(L.length:Int):=Zo
    have eQ:Hid (Q=snB (oL L)):=by
     show _=_
     rw[hQ.out];unfold snB;rw[oL_length,<-oL_length L,List.take_length]
    have lQ:Q.length<=8192:=Zo
    have K4:=cut16_far (N:=w.heap.size) (Rk.own hO (Rd.owned hO) B2.size) BW.size lQ;clear h hs hO
    go_wp2_with fail
    refine K4.mono ?_
    rintro _ w6 ⟨u,rfl,RS,KS,B6⟩;clear K4;have FIN:Hid (Snaps16F w L (.returned (.tuple #[u,.int .i64 0])) w6):=Or.inl ⟨Y.out,u,rfl,by rw[eQ.out]at RS;exact RS,by rw[eQ.out]at KS;exact KS,BW.step16 B6 BW.size⟩;obtain⟨ua,uc,rfl⟩:=RS.form;clear RS KS eQ;go_wp2;exact bodyPost_ret (v:=.tuple #[.slice ua _ uc,.int .i64 0]) (by simp[results,Tryz.results77,go_sem]) rfl FIN.out
theorem RdI.gro{w w':World}{v v' x:Value}{zs:List Int}(h:RdI w x zs)(g:Gro w v w' v')(hne:∀k,x.ownBlock=some k->v.ownBlock≠some k):RdI w' x zs:=by
 rcases h with h|⟨b,off,cap,h1,rfl,h3,h5,h6⟩
 ·exact Or.inl h
 ·exact Or.inr ⟨b,off,cap,h1,rfl,h3,Zu h5 g.gr.size,fun i hi=>(g.cell (p:=⟨b,off+i,none⟩) h5 (hne b rfl)).trans (h6 i hi)⟩
theorem RdI.turn{w w':World}{g:Nat}{x:Value}{zs:List Int}(h:RdI w x zs)(t:Turn g w w')(hne:∀k,x.ownBlock=some k->k≠g):RdI w' x zs:=by
 rcases h with h|⟨b,off,cap,h1,rfl,h3,h5,h6⟩
 ·exact Or.inl h
 ·exact Or.inr ⟨b,off,cap,h1,rfl,h3,Zu h5 t.size,fun i hi=>(t.cell (p:=⟨b,off+i,none⟩) h5 (hne b rfl)).trans (h6 i hi)⟩
structure ObOk(w:World)(c:ObV):Prop where
 wl:(Lit.int .i64 c.o.len).wf=true
 we:(Lit.int .i64 c.o.ep).wf=true
 ky:c.o.key.length<=maxLen
 rs:RdI w c.vs c.o.st
 wi:∀z∈c.o.st,(Lit.int .i64 z).wf=true
def four(c:ObV):List Value:=[sv c.o.key,.int .i64 c.o.len,.int .i64 c.o.ep,c.vs]
def cellsO:List ObV->List Value
 |[]=>[]
 |c::L=>four c++cellsO L
theorem cellsO_append(L M:List ObV):cellsO (L++M)=cellsO L++cellsO M:=by
 induction L with
 |nil=>rfl
 |cons c L ih=>show four c++cellsO (L++M)=four c++cellsO L++cellsO M;rw[ih,List.append_assoc]
theorem cellsO_at(L:List ObV){i j:Nat}(hi:i<L.length)(hj:j<4):(cellsO L)[i*4+j]? =(four (L.getD i default))[j]? :=by
 induction L generalizing i with
 |nil=>simp at hi
 |cons c L ih=>
  show(four c++cellsO L)[i*4+j]? =_
  have h4:(four c).length=4:=rfl
  rcases i with _|i
  ·rw[List.getElem?_append_left (by rw[h4];omega),Nat.zero_mul,Nat.zero_add];rfl
  ·rw[List.getElem?_append_right (by rw[h4];omega),h4,show(i+1)*4+j-4=i*4+j by omega,ih (by simpa using hi)];rfl
structure OwnO(w:World)(base:Nat)(v:Value)(L:List ObV):Prop where
 row:w.ownsRow base 92 4 v L.length (cellsO L)
 ea:∀c∈L,ObOk w c
 ap:∀c∈L,∀k,c.vs.ownBlock=some k->base<=k/\k<w.heap.size/\v.ownBlock≠some k
theorem OwnO.nil(w:World)(base:Nat):OwnO w base (.slice none 0 0) []:=⟨World.ownsRow_nil _ _ _ _,(fun c hc=>by cases hc),(fun c hc=>by cases hc)⟩
theorem OwnO.rd{w:World}{base:Nat}{v:Value}{L:List ObV}(h:OwnO w base v L)(hl:L.length<=1000000):RdO w v L:=by
 by_cases h0:L=[]
 ·subst h0;obtain⟨_,⟨e,_⟩|⟨g,cap,cur,e,_⟩⟩:=h.row
  ·exact Or.inl ⟨none,0,rfl,e⟩
  ·exact Or.inl ⟨_,cap,rfl,e⟩
 ·have hpos:0<L.length:=List.length_pos_iff.2 h0;have hr:=h.row;obtain⟨_,⟨e,hn⟩|⟨g,cap,cur,rfl,hg,hh,hc,hm,hs,ht⟩⟩:=h.row
  ·omega
  ·refine Or.inr ⟨g,0,cap,h0,rfl,Zl,(Zv hr g rfl).2,fun i hi=>?_⟩;have hmem:L.getD i default∈L:=by rw[List.getD_eq_getElem?_getD,List.getElem?_eq_getElem hi];exact List.getElem_mem hi
   have k:=h.ea _ hmem;have cc:∀j,j<4->w.cell? ⟨g,i*4+j,none⟩=(four (L.getD i default))[j]? :=fun j hj=>(World.ownsRow.cellAt hr (i*4+j) Zo).trans (cellsO_at L hi hj)
   refine⟨?_,?_,?_,?_,k.wl,k.we,k.ky,k.rs,k.wi⟩
   ·rw[Nat.zero_add];exact cc 0 Zo
   ·rw[Nat.zero_add];exact cc 1 Zo
   ·rw[Nat.zero_add];exact cc 2 Zo
   ·rw[Nat.zero_add];exact cc 3 Zo
theorem row_turn{w w':World}{g base e s n:Nat}{v:Value}{xs:List Value}(h:w.ownsRow base e s v n xs)(t:Turn g w w')(hg:g<base):w'.ownsRow base e s v n xs:=by
 obtain⟨h0,h|⟨g2,cap,cur,hv,hgg,hh,r⟩⟩:=h
 ·exact⟨h0,Or.inl h⟩
 ·have hlt:g2<w.heap.size:=(Array.getElem?_eq_some_iff.1 hh).1;exact⟨h0,Or.inr ⟨g2,cap,cur,hv,hgg,by rw[t.block g2 hlt Zo];exact hh,r⟩⟩
theorem OwnO.turn{w w':World}{g base:Nat}{v:Value}{L:List ObV}(h:OwnO w base v L)(t:Turn g w w')(hg:g<base):OwnO w' base v L:=
 ⟨row_turn h.row t hg,fun c hc=>⟨(h.ea c hc).wl,(h.ea c hc).we,(h.ea c hc).ky,(h.ea c hc).rs.turn t (fun k hk=>by have:=(h.ap c hc k hk).1;omega),(h.ea c hc).wi⟩,fun c hc k hk=>⟨(h.ap c hc k hk).1,Zu (h.ap c hc k hk).2.1 t.size,(h.ap c hc k hk).2.2⟩⟩
theorem info_obj16:(Tryz.prog.info? 92).map (fun i=>(i.zero,i.size,i.bytes))=some (some (.agg #[.string ⟨#[]⟩,.int .i64 0,.int .i64 0,.slice none 0 0]),4,56):=Zk
theorem info_obj16':∃i,Tryz.prog.info? 92=some i/\i.zero=some (.agg #[.string ⟨#[]⟩,.int .i64 0,.int .i64 0,.slice none 0 0])/\i.size=4/\i.bytes=56:=by
 have h:=info_obj16;cases e:Tryz.prog.info? 92 with
 |none=>rw[e]at h;cases h
 |some i=>
  rw[e]at h;simp only[Option.map_some,Option.some.injEq,Prod.mk.injEq]at h;exact⟨i,rfl,h.1,h.2.1,h.2.2⟩
theorem run_append_o{w W:World}{base b:Nat}{v:Value}{L:List ObV}{c:ObV}(ty:TypeId)(h:OwnO w base v L)(hc:ObOk w c)(ha:∀k,c.vs.ownBlock=some k->base<=k/\k<w.heap.size/\v.ownBlock≠some k)(hv1:c.vs.oneCell'=true)(hW:W=w.alloc (.cells #[sv c.o.key,.int .i64 c.o.len,.int .i64 c.o.ep,c.vs] 92))(hb:b=w.heap.size)(hl:L.length<=100000)(hbase:base<=w.heap.size):
  ∃v' w',(Builtin.append_ #[39,39] ty #[v,.slice (some ⟨b,0,none⟩) 1 1]).run Tryz.prog W= .ok v' w'/\OwnO w' base v' (L++[c])/\Gro w v w' v':=by
 subst hW hb;obtain⟨i,hi,hz,hs,hy⟩:=info_obj16';obtain⟨v',w',hrun,h2,h3,_,h5⟩:=run_append_own_at (P:=Tryz.prog) (w.alloc (.cells #[sv c.o.key,.int .i64 c.o.len,.int .i64 c.o.ep,c.vs] 92)) base 39 ty 92 i (.agg #[.string ⟨#[]⟩,.int .i64 0,.int .i64 0,.slice none 0 0]) 4 56 Tryz.underlying39 hi hz hs hy rfl Zd v L.length (cellsO L) (World.ownsRow.alloc h.row _) ⟨w.heap.size,0,none⟩ 1 1 (four c) rfl
  (by intro j y hj;rw[add_at,Nat.zero_add,World.cell?_alloc_new,<-hj];unfold four;simp) (by
   intro y hy;simp only[four,List.mem_cons,List.not_mem_nil,or_false]at hy
   rcases hy with rfl|rfl|rfl|rfl
   ·rfl
   ·rfl
   ·rfl
   ·exact hv1) Zl Zo Zm
 have G:Gro w v w' v':=(Gro.bel v (belR w _)).trans (Gro.of h3 h5);refine⟨v',w',hrun,⟨?_,?_,?_⟩,G⟩
 ·rw[List.length_append,cellsO_append]
  have:cellsO [c]=four c:=by show four c++[]=_;rw[List.append_nil]
  rw[this];exact h2
 ·intro d hd
  rcases List.mem_append.1 hd with hd|hd
  ·have k:=h.ea d hd;exact⟨k.wl,k.we,k.ky,k.rs.gro G (fun q hq=>(h.ap d hd q hq).2.2),k.wi⟩
  ·simp only[List.mem_singleton]at hd;subst hd;exact⟨hc.wl,hc.we,hc.ky,hc.rs.gro G (fun q hq=>(ha q hq).2.2),hc.wi⟩
 ·intro d hd q hq;have key:base<=q/\q<w.heap.size/\v.ownBlock≠some q:=by
   rcases List.mem_append.1 hd with hd|hd
   ·exact h.ap d hd q hq
   ·simp only[List.mem_singleton]at hd;subst hd;exact ha q hq
  exact⟨key.1,Zu key.2.1 G.gr.size,G.ne key.2.1 key.2.2⟩
theorem wpList_append_o{w W:World}{base b:Nat}{v:Value}{L:List ObV}{c:ObV}{ops:Array Oper}{rest:List Oper}{o:Oper}{a:Act}{Q:Exit->Act->World->Prop}(hgd:o.guard=none)(s x:Operand)
  (ho:o.op= .call {callee:=.builtin .append,args:=#[s,x],argTypes:=#[39,39]}) (hs:a.eval s=v) (hx:a.eval x= .slice (some ⟨b,0,none⟩) 1 1)
  (h:OwnO w base v L) (hc:ObOk w c) (ha:∀k,c.vs.ownBlock=some k->base<=k/\k<w.heap.size/\v.ownBlock≠some k) (hv1:c.vs.oneCell'=true) (hW:W=w.alloc (.cells #[sv c.o.key,.int .i64 c.o.len,.int .i64 c.o.ep,c.vs] 92)) (hb:b=w.heap.size) (hl:L.length<=100000) (hbase:base<=w.heap.size)
  (k:∀v' w',OwnO w' base v' (L++[c])->Gro w v w' v'->wpList Tryz.prog ops Q rest (a.put o.dst v') w'):wpList Tryz.prog ops Q (o::rest) a W:=by
 refine wpList_plain hgd fun K hK=>?_
 obtain⟨v',w',hrun,h2,h3⟩:=run_append_o o.type h hc ha hv1 hW hb hl hbase;unfold Oper.wp execOp;simp only[ho,resolve,invoke,builtin,Sem.run_bind,Sem.run_pure,Result.andThen_ok,List.map_toArray,List.map_cons,List.map_nil,hs,hx,hrun];exact hK _ _ (k v' w' h2 h3)
def pz16:List PanicEntry:=[{v:=.iface 28 (.int .i64 160),recovered:=false}]
theorem ask16_yes{w:World}{x:Bool}(hx:x=true):Calls Tryz.prog 183 #[.bool x] w fun e w'=>e= .returned (.tuple #[])/\w'=w:=by
 subst hx
 go_enter Tryz.func183,Tryz.ntmps183
 go_wp2
 go_end0
 exact⟨rfl,rfl⟩
theorem ask16_no{w:World}{x:Bool}(hx:x=false):Calls Tryz.prog 183 #[.bool x] w fun e w'=>e= .panicked pz16/\w'=w:=by
 subst hx
 go_enter Tryz.func183,Tryz.ntmps183
 go_wp2;exact⟨rfl,rfl,rfl⟩
structure RdrAt(w0:World)(rb:Nat)(w:World)(p:List UInt8):Prop where
 at0:∃v,w.cell? ⟨rb,0,none⟩=some v/\Rd w0 v p
 fz:w.frozen? ⟨rb,0,none⟩=false
 bl:Below w0.heap.size w0 w
 lo:w0.heap.size<=rb
theorem RdrAt.only{w0:World}{rb g:Nat}{w w':World}{p:List UInt8}(h:RdrAt w0 rb w p)(o:Only g w w')(hg:w0.heap.size<=g)(hne:g≠rb):RdrAt w0 rb w' p:=by
 obtain⟨v,c,R⟩:=h.at0;exact⟨⟨v,(o.cell (p:=⟨rb,0,none⟩) (fun e=>hne e.symm)).trans c,R⟩,(o.frozen (p:=⟨rb,0,none⟩) (fun e=>hne e.symm)).trans h.fz,h.bl.trans (o.below hg),h.lo⟩
theorem RdrAt.lt{w0:World}{rb:Nat}{w:World}{p:List UInt8}(h:RdrAt w0 rb w p):rb<w.heap.size:=by
 obtain⟨v,c,R⟩:=h.at0;exact World.block_lt_of_cell? _ _ c
theorem RdrAt.below{w0:World}{rb:Nat}{w w':World}{p:List UInt8}(h:RdrAt w0 rb w p)(o:Below w.heap.size w w'):RdrAt w0 rb w' p:=by
 obtain⟨v,c,R⟩:=h.at0;have l:=h.lt;exact⟨⟨v,(o.cell (p:=⟨rb,0,none⟩) l).trans c,R⟩,(o.frozen (p:=⟨rb,0,none⟩) l).trans h.fz,h.bl.trans (o.mono h.bl.size),h.lo⟩
def Takes16(w0:World)(rb:Nat)(w:World)(q r:List UInt8)(e:Ending)(w':World):Prop:=∃u,e= .returned u/\Rd w0 u q/\RdrAt w0 rb w' r/\Only rb w w'
theorem take16_yes{w0 w:World}{rb:Nat}{p:List UInt8}(h:RdrAt w0 rb w p){n:Nat}(hn:n<=p.length){z:Int}(hz:z=(n:Int)):Calls Tryz.prog 192 #[.pointer (some ⟨rb,0,none⟩),.int .i64 z] w (Takes16 w0 rb w (p.take n) (p.drop n)):=by
 subst hz;obtain⟨v,c,R⟩:=h.at0;obtain⟨a,cp,rfl⟩:=R.form;have hn':(n:Int)<=(p.length:Int):=Zo
 have E1:=fun W=>cut_hi16 W a (n:=p.length) (c:=cp) (k:=n) (Nat.le_trans hn (rd_cap R).2)
 have E2:=fun W=>cut_lo16 W a (n:=p.length) (c:=cp) (k:=n) hn
 obtain⟨a2,ha2⟩:∃a2,a2=(if cp=n then a else a.map (·.add n)):=⟨_,rfl⟩;have R2:Rd w0 (.slice a2 (p.length-n) (cp-n)) (p.drop n):=by rw[ha2];exact R.rest16 hn
 rw[<-ha2]at E2;generalize p.length-n=n2 at E2 R2;generalize cp-n=c2 at E2 R2;have fz:=h.fz;have HF:Hid (Takes16 w0 rb w (p.take n) (p.drop n) (.returned (.slice a n cp)) (w.setCell ⟨rb,0,none⟩ (.slice a2 n2 c2))):=by
  have O:Only rb w (w.setCell ⟨rb,0,none⟩ (.slice a2 n2 c2)):=(Only.refl _ _).setCell _ _;exact⟨_,rfl,R.first16 hn,⟨⟨_,World.cell?_setCell_same _ _ _ c,R2⟩,(World.frozen?_setCell _ _ _ _).trans h.fz,h.bl.trans (O.below h.lo),h.lo⟩,O⟩
 generalize p.length=m at c E1 E2 hn' hn;clear ha2 R h R2
 go_enter Tryz.func192,Tryz.ntmps192
 go_wp2_with fail
 refine(ask16_yes rfl).mono ?_
 rintro _ _ ⟨rfl,rfl⟩;go_wp2;go_ret;exact HF.out
theorem take16_no{w0 w:World}{rb:Nat}{p:List UInt8}(h:RdrAt w0 rb w p){n:Nat}(hn:p.length<n){z:Int}(hz:z=(n:Int)):Calls Tryz.prog 192 #[.pointer (some ⟨rb,0,none⟩),.int .i64 z] w fun e w'=>e= .panicked pz16/\w'=w:=by
 subst hz;obtain⟨v,c,R⟩:=h.at0;obtain⟨a,cp,rfl⟩:=R.form;have hn':¬(n:Int)<=(p.length:Int):=Zo
 generalize p.length=m at c hn' hn;clear R h
 go_enter Tryz.func192,Tryz.ntmps192
 go_wp2_with fail
 refine(ask16_no rfl).mono ?_
 rintro _ _ ⟨rfl,rfl⟩;exact⟨rfl,rfl,rfl⟩
def nuL(l:List UInt8):Nat:=l.foldl (fun n x=>n*256+x.toNat) 0
theorem nuL_snoc(l:List UInt8)(x:UInt8):nuL (l++[x])=nuL l*256+x.toNat:=by
 unfold nuL;rw[List.foldl_append];rfl
theorem nuL_acc(l:List UInt8)(a:Nat):l.foldl (fun n x=>n*256+x.toNat) a<(a+1)*256^l.length:=by
 induction l generalizing a with
 |nil=>show a<(a+1)*1;omega
 |cons x l ih=>
  have h:=ih (a*256+x.toNat);have hx:=x.toNat_lt;rw[List.foldl_cons,List.length_cons,Nat.pow_succ,Nat.mul_comm (256^l.length),<-Nat.mul_assoc];exact Zu h (Nat.mul_le_mul_right _ Zo)
theorem nuL_lt(l:List UInt8):nuL l<256^l.length:=by
 have:=nuL_acc l 0;rw[Nat.zero_add,Nat.one_mul]at this;exact this
theorem or16(a:Nat)(x:UInt8)(ha:a<16777216):bits .or .i64 ((a:Int)*256) ((x.toNat:Nat):Int)=((a*256+x.toNat:Nat):Int):=by
 have hx:=x.toNat_lt;have e:(a*256)|||x.toNat=a*256+x.toNat:=by
  have:=Nat.two_pow_add_eq_or_of_lt (i:=8) (b:=x.toNat) hx a;rw[Nat.mul_comm a 256];exact this.symm
 show IntKind.i64.wrap ((BitVec.ofInt 64 ((a:Int)*256)|||BitVec.ofInt 64 ((x.toNat:Nat):Int)).toNat:Int)=_
 rw[show((a:Int)*256)=((a*256:Nat):Int) by omega,BitVec.toNat_or,ofInt_u64 (a*256) Zo,ofInt_u64 x.toNat Zo,e,IntKind.wrap_i64];omega
theorem rnum16_yes{w0 w:World}{rb:Nat}{p:List UInt8}(h:RdrAt w0 rb w p){k:Nat}(hk:k<=4)(hn:k<=p.length){z:Int}(hz:z=(k:Int)){N:Int}(hN:((nuL (p.take k):Nat):Int)=N):Calls Tryz.prog 185 #[.pointer (some ⟨rb,0,none⟩),.int .i64 z] w fun e w'=>e= .returned (.int .i64 N)/\RdrAt w0 rb w' (p.drop k)/\Only rb w w':=by
 have K:=take16_yes h hn rfl;subst hz
 go_enter Tryz.func185,Tryz.ntmps185
 go_wp2_with fail
 refine K.mono ?_
 rintro _ w1 ⟨u,rfl,R,H1,O1⟩;clear K h;have hl:(p.take k).length=k:=by rw[List.length_take];omega
 have HN:Hid (((nuL (p.take k):Nat):Int)=N):=hN;have HF:Hid (RdrAt w0 rb w1 (p.drop k)/\Only rb w w1):=⟨H1,O1⟩;have R1:=R.below H1.bl;clear hN H1 O1 R;generalize p.take k=q at hl R1 HN;obtain⟨a,cp,rfl⟩:=R1.form;go_wp2
 go_loopw [5,12] (fun n i wr=>∃r:Nat,r<=q.length/\n= .int .i64 ((nuL (q.take r):Nat):Int)/\i= .int .i64 (r:Int)/\wr=w1) (fun _ i _=>q.length-(intOf i).toNat)
 case atStart=>exact⟨0,Zz,rfl,rfl,rfl⟩
 case round=>
  obtain⟨r,hr,rfl,rfl,rfl⟩:=hrel
  by_cases hlt:r<q.length
  ·have hlt':(r:Int)<(q.length:Int):=by omega
   obtain⟨b,off,rfl,_,cz⟩:=R1.byte hlt;have hs:Hid (nuL (q.take (r+1))=nuL (q.take r)*256+(co q r).toNat):=by
    have e:co q r=q[r]:=by unfold co;simp[List.getElem?_eq_getElem hlt]
    show _=_
    rw[List.take_succ_eq_append_getElem hlt,nuL_snoc,e]
   have hb:nuL (q.take r)<16777216:=by
    have h1:=nuL_lt (q.take r);rw[List.length_take,Nat.min_eq_left hr]at h1;exact Zu h1 (Nat.le_trans (Nat.pow_le_pow_right Zo (show r<=3 by omega)) Zd)
   generalize co q r=x at cz hs;have E:=or16 _ x hb;generalize nuL (q.take r)=n at hs hb E;have ew:wrap64 ((x.toNat:Nat):Int)=((x.toNat:Nat):Int):=by have:=x.toNat_lt;unfold wrap64;omega
   generalize hm:n*256+x.toNat=m at E hs;have HS:Hid (nuL (q.take (r+1))=m):=hs.out;clear hs hm;go_wp2;go_roundw
   case rel=>exact⟨r+1,Zo,by rw[HS.out,<-E],Zg,by first|rfl|trivial⟩
   case measure=>simp[intOf];omega
  ·obtain rfl:r=q.length:=by omega
   have hge:¬(q.length:Int)<(q.length:Int):=Zo
   rw[List.take_length];go_wp2;go_ret;exact⟨congrArg (fun t=>Ending.returned (.int .i64 t)) HN.out,HF.out.1,HF.out.2⟩
theorem rnum16_no{w0 w:World}{rb:Nat}{p:List UInt8}(h:RdrAt w0 rb w p){k:Nat}(hn:p.length<k){z:Int}(hz:z=(k:Int)):Calls Tryz.prog 185 #[.pointer (some ⟨rb,0,none⟩),.int .i64 z] w fun e w'=>e= .panicked pz16/\w'=w:=by
 have K:=take16_no h hn rfl;subst hz
 go_enter Tryz.func185,Tryz.ntmps185
 go_wp2_with fail
 refine K.mono ?_
 rintro _ _ ⟨rfl,rfl⟩;exact⟨rfl,rfl,rfl⟩
def vz(z:Int):Value:=.int .i64 z
def OwnZ(w:World)(base e:Nat)(v:Value)(zs:List Int):Prop:=w.ownsRow base e 1 v zs.length (zs.map vz)
theorem OwnZ.cell{w:World}{base e:Nat}{a:Option Addr}{n c:Nat}{zs:List Int}(h:OwnZ w base e (.slice a n c) zs){i:Nat}(hi:i<zs.length):∃g,a=some ⟨g,0,none⟩/\g<w.heap.size/\base<=g/\w.cell? ⟨g,i,none⟩=some (.int .i64 (zs.getD i 0)):=by
 have h':=h;obtain⟨_,⟨e,hn⟩|⟨g,cap,cur,e,hg,hh,hc,hm,hs,ht⟩⟩:=h
 ·omega
 ·simp at e;obtain⟨rfl,rfl,rfl⟩:=e;have hlt:=Zv h' g rfl;refine⟨g,rfl,hlt.2,hlt.1,?_⟩;rw[World.ownsRow.cellAt h' i Zo,List.getElem?_map,List.getElem?_eq_getElem hi];simp[vz,List.getD,hi]
theorem OwnZ.rd{w:World}{base e:Nat}{v:Value}{zs:List Int}(h:OwnZ w base e v zs)(hl:zs.length<=1000000):RdI w v zs:=by
 obtain⟨a,c,rfl⟩:=owns_form h
 by_cases h0:zs=[]
 ·subst h0;exact Or.inl ⟨a,c,rfl,rfl⟩
 ·have hpos:0<zs.length:=List.length_pos_iff.2 h0;obtain⟨g,rfl,hg,_,_⟩:=h.cell hpos;refine Or.inr ⟨g,0,c,h0,rfl,Zl,hg,fun i hi=>?_⟩;obtain⟨g',e,_,_,hc⟩:=h.cell hi;simp at e;subst e;rw[Nat.zero_add,hc]
theorem OwnZ.nil(w:World)(base e:Nat):OwnZ w base e (.slice none 0 0) []:=World.ownsRow_nil _ _ _ _
theorem info_int16:(Tryz.prog.info? 3).map (fun i=>(i.zero,i.size,i.bytes))=some (some (.int .i64 0),1,8):=Zk
theorem info_int16':∃i,Tryz.prog.info? 3=some i/\i.zero=some (.int .i64 0)/\i.size=1/\i.bytes=8:=by
 have h:=info_int16;cases e:Tryz.prog.info? 3 with
 |none=>rw[e]at h;cases h
 |some i=>
  rw[e]at h;simp only[Option.map_some,Option.some.injEq,Prod.mk.injEq]at h;exact⟨i,rfl,h.1,h.2.1,h.2.2⟩
theorem run_append_z{w W:World}{base:Nat}{v:Value}{zs:List Int}{z:Int}(ty:TypeId)(hO:OwnZ w base 3 v zs)(hW:W=w.alloc (.cells #[.int .i64 z] 3)){b:Nat}(hb:b=w.heap.size)(hl:zs.length<=100000)(hbase:base<=w.heap.size):
  ∃v' w',(Builtin.append_ #[35,35] ty #[v,.slice (some ⟨b,0,none⟩) 1 1]).run Tryz.prog W= .ok v' w'/\OwnZ w' base 3 v' (zs++[z])/\Gro w v w' v':=by
 subst hW hb;obtain⟨i,hi,hz,hs,hy⟩:=info_int16';obtain⟨v',w',hrun,h2,h3,_,h5⟩:=run_append_own_at (P:=Tryz.prog) (w.alloc (.cells #[.int .i64 z] 3)) base 35 ty 3 i (.int .i64 0) 1 8 Tryz.underlying35 hi hz hs hy rfl Zd v zs.length (zs.map vz) (World.ownsRow.alloc hO _) ⟨w.heap.size,0,none⟩ 1 1 [vz z] rfl (by intro j y hj;rw[add_at,Nat.zero_add];rcases j with _|j<;>simp at hj;subst hj;simp[vz]) (by intro y hy;simp at hy;rw[hy];rfl) Zl Zo Zm;refine⟨v',w',hrun,?_,(Gro.bel v (belR w _)).trans (Gro.of h3 h5)⟩;unfold OwnZ;rw[List.length_append,List.map_append];exact h2
theorem step_append_z{w W:World}{base:Nat}{v:Value}{zs:List Int}{z:Int}{ops:Array Oper}{o:Oper}{a:Act}{K:Act->World->Prop}{Q:Exit->Act->World->Prop}{E:Prop}(hgd:o.guard=none)(s x:Operand)
  (ho:o.op= .call {callee:=.builtin .append,args:=#[s,x],argTypes:=#[35,35]}) {b:Nat} (hs:a.eval s=v) (hx:a.eval x= .slice (some ⟨b,0,none⟩) 1 1)
  (hO:OwnZ w base 3 v zs) (hW:W=w.alloc (.cells #[.int .i64 z] 3)) (hb:b=w.heap.size) (hl:zs.length<=100000) (hbase:base<=w.heap.size)
  (h:∀v' w',OwnZ w' base 3 v' (zs++[z])->Gro w v w' v'->K (a.put o.dst v') w'):
  if Region.wanted o (yielded ops a.tmps)=true then Oper.wp Tryz.prog o a W K Q else E:=by
 have hw:Region.wanted o (yielded ops a.tmps)=true:=by simp[Region.wanted,hgd]
 rw[if_pos hw];obtain⟨v',w',hrun,h2,h3⟩:=run_append_z (z:=z) o.type hO hW hb hl hbase;unfold Oper.wp execOp;simp only[ho,resolve,invoke,builtin,Sem.run_bind,Sem.run_pure,Result.andThen_ok,List.map_toArray,List.map_cons,List.map_nil,hs,hx,hrun];exact h v' w' h2 h3
theorem OwnZ.only{w w':World}{base e g:Nat}{v:Value}{zs:List Int}(h:OwnZ w base e v zs)(o:Only g w w')(hg:g<base):OwnZ w' base e v zs:=by
 obtain⟨h0,h|⟨g2,cap,cur,hv,hgg,hh,r⟩⟩:=h
 ·exact⟨h0,Or.inl h⟩
 ·exact⟨h0,Or.inr ⟨g2,cap,cur,hv,hgg,by rw[o.block g2 Zo];exact hh,r⟩⟩
theorem stN_succ(r:Nat)(b:List UInt8):stN (r+1) b=stN r b++[((un (b.drop (2*r)):Nat):Int)]:=by
 induction r generalizing b with
 |zero=>rfl
 |succ r ih=>
  show((un b:Nat):Int)::stN (r+1) (b.drop 2)=((un b:Nat):Int)::(stN r (b.drop 2)++_)
  rw[ih,List.drop_drop,show 2+2*r=2*(r+1) by omega]
theorem wf64{z:Int}(h0: -9223372036854775808<=z)(h1:z<=9223372036854775807):(Lit.int .i64 z).wf=true:=by
 simp[Lit.wf,IntKind.min,IntKind.max,IntKind.signed,IntKind.bits];omega
theorem stN_wf(n:Nat)(b:List UInt8):∀z∈stN n b,(Lit.int .i64 z).wf=true:=by
 induction n generalizing b with
 |zero=>intro z hz;cases hz
 |succ n ih=>
  intro z hz
  rcases List.mem_cons.1 hz with rfl|hz
  ·have:=un_lt b;exact wf64 Zo Zo
  ·exact ih _ z hz
theorem nuL1{p:List UInt8}(h:1<=p.length):nuL (p.take 1)=(co p 0).toNat:=by
 rcases p with _|⟨x,p⟩
 ·simp at h
 ·show 0*256+x.toNat=x.toNat;omega
theorem nuL2{p:List UInt8}(h:2<=p.length):nuL (p.take 2)=un p:=by
 rcases p with _|⟨x,_|⟨y,p⟩⟩
 ·simp at h
 ·simp at h
 ·show(0*256+x.toNat)*256+y.toNat=256*x.toNat+y.toNat;omega
theorem nuL4{p:List UInt8}(h:4<=p.length):nuL (p.take 4)=nu p:=by
 rcases p with _|⟨x,_|⟨y,_|⟨z,_|⟨t,p⟩⟩⟩⟩
 ·simp at h
 ·simp at h
 ·simp at h
 ·simp at h
 ·show(((0*256+x.toNat)*256+y.toNat)*256+z.toNat)*256+t.toNat=x.toNat*16777216+y.toNat*65536+z.toNat*256+t.toNat;omega
structure Got16(w0 w1:World)(rb G:Nat)(wr:World)(k:Int)(y:List UInt8)(n:Int)(v:Value)(zs:List Int)(p:List UInt8):Prop where
 rd:RdrAt w0 rb wr p
 c0:wr.cell? ⟨G,0,none⟩=some (.int .i64 k)
 c1:wr.cell? ⟨G,1,none⟩=some (.string ⟨y.toArray⟩)
 c2:wr.cell? ⟨G,2,none⟩=some (.int .i64 n)
 c3:wr.cell? ⟨G,3,none⟩=some v
 fz:∀j,wr.frozen? ⟨G,j,none⟩=false
 own:OwnZ wr w1.heap.size 3 v zs
 tn:TurnL [rb,G] w1 wr
 lg:w0.heap.size<=G/\G<w1.heap.size/\rb<w1.heap.size/\rb≠G
section
variable {w0 w1:World} {rb G:Nat} {wr w':World} {k:Int} {y:List UInt8} {n:Int} {v v':Value} {zs zs':List Int} {p p':List UInt8}
theorem Got16.took(h:Got16 w0 w1 rb G wr k y n v zs p)(o:Only rb wr w')(r:RdrAt w0 rb w' p'):Got16 w0 w1 rb G w' k y n v zs p':=by
 have e:∀j,w'.cell? ⟨G,j,none⟩=wr.cell? ⟨G,j,none⟩:=fun j=>o.cell (p:=⟨G,j,none⟩) (fun q=>h.lg.2.2.2 q.symm)
 exact⟨r,(e 0).trans h.c0,(e 1).trans h.c1,(e 2).trans h.c2,(e 3).trans h.c3,fun j=>(o.frozen (p:=⟨G,j,none⟩) (fun q=>h.lg.2.2.2 q.symm)).trans (h.fz j),h.own.only o h.lg.2.2.1,h.tn.trans (o.turnL Zs),h.lg⟩
theorem Got16.drew(h:Got16 w0 w1 rb G wr k y n v zs p):Got16 w0 w1 rb G wr.drew k y n v zs p:=
 ⟨h.rd.below Zf.drew,h.c0,h.c1,h.c2,h.c3,h.fz,World.ownsRow.drew h.own,h.tn.drew,h.lg⟩
theorem Got16.put(h:Got16 w0 w1 rb G wr k y n v zs p){j:Nat}{u:Value}{k':Int}{y':List UInt8}{n':Int}(hj:j<3)(e0:(Value.int .i64 k')=if j=0 then u else .int .i64 k)(e1:Value.string ⟨y'.toArray⟩=if j=1 then u else .string ⟨y.toArray⟩)(e2:(Value.int .i64 n')=if j=2 then u else .int .i64 n):Got16 w0 w1 rb G (wr.setCell ⟨G,j,none⟩ u) k' y' n' v zs p:=by
 have o:Only G wr (wr.setCell ⟨G,j,none⟩ u):=(Only.refl _ _).setCell _ _;have same:∀i x,wr.cell? ⟨G,i,none⟩=some x->(wr.setCell ⟨G,j,none⟩ u).cell? ⟨G,i,none⟩=some (if j=i then u else x):=by
  intro i x hx
  by_cases e:j=i
  ·subst e;rw[if_pos rfl];exact World.cell?_setCell_same _ _ _ hx
  ·rw[if_neg e];exact(World.cell?_setCell_other _ _ _ _ (by simp;try omega)).trans hx
 refine⟨h.rd.only o h.lg.1 (fun e=>h.lg.2.2.2 e.symm),?_,?_,?_,?_,fun i=>(World.frozen?_setCell _ _ _ _).trans (h.fz i),h.own.only o h.lg.2.1,h.tn.put Zs _ _,h.lg⟩
 ·rw[same 0 _ h.c0,e0]
 ·rw[same 1 _ h.c1,e1]
 ·rw[same 2 _ h.c2,e2]
 ·rw[same 3 _ h.c3,if_neg Zo]
theorem Got16.grow(h:Got16 w0 w1 rb G wr k y n v zs p)(g:Gro wr v w' v')(o:OwnZ w' w1.heap.size 3 v' zs'):Got16 w0 w1 rb G (w'.setCell ⟨G,3,none⟩ v') k y n v' zs' p:=by
 have nb:∀b,b<w1.heap.size->v.ownBlock≠some b:=fun b hb e=>by have:=(Zv h.own b e).1;omega
 have lw:∀b,b<w1.heap.size->b<wr.heap.size:=fun b hb=>Zu hb h.tn.size
 have e:∀j,w'.cell? ⟨G,j,none⟩=wr.cell? ⟨G,j,none⟩:=fun j=>g.cell (p:=⟨G,j,none⟩) (lw _ h.lg.2.1) (nb _ h.lg.2.1)
 have O:Only G w' (w'.setCell ⟨G,3,none⟩ v'):=(Only.refl _ _).setCell _ _;have oth:∀j,j≠3->(w'.setCell ⟨G,3,none⟩ v').cell? ⟨G,j,none⟩=w'.cell? ⟨G,j,none⟩:=fun j hj=>World.cell?_setCell_other _ _ _ _ (by simp;try omega)
 have R1:RdrAt w0 rb w' p:=by
  obtain⟨u,c,R⟩:=h.rd.at0;have b0:w0.heap.size<=w1.heap.size:=by have:=h.lg;omega
  exact⟨⟨u,(g.cell (p:=⟨rb,0,none⟩) (lw _ h.lg.2.2.1) (nb _ h.lg.2.2.1)).trans c,R⟩,(g.frozen (p:=⟨rb,0,none⟩) (lw _ h.lg.2.2.1) (nb _ h.lg.2.2.1)).trans h.rd.fz,h.rd.bl.grown g.gr h.rd.bl.size (fun q hq=>Nat.le_trans b0 (Zv h.own q hq).1),h.rd.lo⟩
 refine⟨R1.only O h.lg.1 (fun e=>h.lg.2.2.2 e.symm),?_,?_,?_,?_,fun i=>(World.frozen?_setCell _ _ _ _).trans ((g.frozen (p:=⟨G,i,none⟩) (lw _ h.lg.2.1) (nb _ h.lg.2.1)).trans (h.fz i)),o.only O h.lg.2.1,?_,h.lg⟩
 ·rw[oth 0 Zo,e 0,h.c0]
 ·rw[oth 1 Zo,e 1,h.c1]
 ·rw[oth 2 Zo,e 2,h.c2]
 ·exact World.cell?_setCell_same _ _ _ ((e 3).trans h.c3)
 ·refine TurnL.put ?_ Zs _ _
  exact⟨g.gr.os.trans h.tn.os,g.gr.tape.trans h.tn.tape,g.gr.output.trans h.tn.output,Nat.le_trans h.tn.size g.gr.size,fun i hi hg=>(g.gr.block i (lw i hi) (fun e=>nb i hi e.symm)).trans (h.tn.block i hi hg)⟩
end
def Reads16(w0:World)(rb:Nat)(w:World)(p:List UInt8)(e:Ending)(w':World):Prop:=
 (NxR p/\∃c:RcV,e= .returned (aggR c)/\c.r=raR p/\c.In w'/\(∀k,c.vs.ownBlock=some k->w.heap.size<=k/\k<w'.heap.size)/\RdrAt w0 rb w' (reR p)/\Turn rb w w')∨(¬NxR p/\e= .panicked pz16/\Turn rb w w')
theorem Reads16.no{w0:World}{rb:Nat}{w:World}{p:List UInt8}{w':World}(h:¬NxR p)(t:Turn rb w w'):Reads16 w0 rb w p (.panicked pz16) w':=Or.inr ⟨h,rfl,t⟩
theorem Got16.spot{w0 w1:World}{rb G:Nat}{wr w':World}{k:Int}{y:List UInt8}{n:Int}{v v':Value}{zs:List Int}{p:List UInt8}(h:Got16 w0 w1 rb G wr k y n v zs p)(g:Gro wr v w' v'):w'.cell? ⟨G,3,none⟩=some v/\w'.frozen? ⟨G,3,none⟩=false:=by
 have nb:v.ownBlock≠some G:=fun e=>by have:=(Zv h.own G e).1;have:=h.lg;omega
 have lw:G<wr.heap.size:=Zu h.lg.2.1 h.tn.size;exact⟨(g.cell (p:=⟨G,3,none⟩) lw nb).trans h.c3,(g.frozen (p:=⟨G,3,none⟩) lw nb).trans (h.fz 3)⟩
theorem no_ln{p:List UInt8}(h:¬LnR p):¬NxR p:=fun q=>h q.1
theorem rec_tail{p:Prop} (h:p:=by
 refine rnH 5 fun K hK=>?_
 refine step_append_z (w:=w3) (z:=z) rfl (.tmp 21) (.tmp 24) rfl rfl rfl g3.own rfl rfl (by rw[ls];omega) (Nat.le_trans g3.tn.size Zr) ?_
 intro v5 w5 o5 G5;have g5:=g3.grow G5 o5;obtain⟨z3,z4⟩:=g3.spot G5;rw[<-EZ.out]at g5;obtain⟨a5,n5,ev⟩:=owns_form o5;rw[List.length_append,ls,List.length_singleton]at ev;subst ev;clear o5 G5 g3;refine koH hK trivial fun hHeld=>?_
 clear hK K;refine tkH 6 ?_
 refine rnH 7 fun K hK=>?_
 go_simp;refine koH hK trivial fun hHeld=>?_
 clear hK K;refine wpAnyH_done Zk ?_ _
 go_wp2;go_roundw
 case rel=>exact⟨r+1,_,Zo,Zg,g5,HL⟩
 case measure=>simp[intOf];omega):p:=h
theorem z18_1{p:Prop} (h:p:=by
 refine koH hK trivial fun hHeld=>?_
 clear hK K;refine rnH 4 fun K hK=>?_
 go_simp;refine koH hK trivial fun hHeld=>?_
 clear hK K;exact rec_tail
 ):p:=h
theorem rrec16_any{w0 w:World}{rb:Nat}{p:List UInt8}(h:RdrAt w0 rb w p)(hp:p.length<=100000):Calls Tryz.prog 167 #[.pointer (some ⟨rb,0,none⟩)] w (Reads16 w0 rb w p):=by
 obtain⟨w1,hw1⟩:∃w1,w1=(w.alloc (.cells #[.int .i64 0,.string ⟨#[]⟩,.int .i64 0,.slice none 0 0] 38)).alloc (.cells #[.int .i64 0,.string ⟨#[]⟩,.int .i64 0,.slice none 0 0] 38):=⟨_,rfl⟩;have s1:w1.heap.size=w.heap.size+2:=by rw[hw1];simp
 have lr:=h.lt;have B1:Below w.heap.size w w1:=by rw[hw1];exact(belR _ _).trans ((belR _ _).mono Zs)
 have cG:∀j,w1.cell? ⟨w.heap.size+1,j,none⟩= #[Value.int .i64 0,.string ⟨#[]⟩,.int .i64 0,.slice none 0 0][j]? :=fun j=>by
  rw[hw1,show w.heap.size+1=(w.alloc (.cells #[.int .i64 0,.string ⟨#[]⟩,.int .i64 0,.slice none 0 0] 38)).heap.size by simp,World.cell?_alloc_new]
 have cA:∀j,w1.cell? ⟨w.heap.size,j,none⟩= #[Value.int .i64 0,.string ⟨#[]⟩,.int .i64 0,.slice none 0 0][j]? :=fun j=>by
  rw[hw1,World.cell?_alloc_lt _ _ _ Zs,World.cell?_alloc_new]
 have fG:∀j,w1.frozen? ⟨w.heap.size+1,j,none⟩=false:=fun j=>by rw[hw1];simp[go_sem]
 have fA:∀j,w1.frozen? ⟨w.heap.size,j,none⟩=false:=fun j=>by rw[hw1];simp[go_sem]
 have lo:=h.lo;have sz:=h.bl.size;have g1:Got16 w0 w1 rb (w.heap.size+1) w1 0 [] 0 (.slice none 0 0) [] p:=⟨h.below B1,cG 0,cG 1,cG 2,cG 3,fG,OwnZ.nil _ _ _,TurnL.refl _ _,Zo,Zo,Zo,Zo⟩;have TF:Hid (∀wr,TurnL [rb,w.heap.size+1] w1 wr->Turn rb w wr):=fun wr t=>⟨t.os.trans B1.os,t.tape.trans B1.tape,t.output.trans B1.output,Nat.le_trans B1.size t.size,fun k hk hn=>(t.block k Zo Zm).trans (B1.block k hk)⟩
 have AF:Hid (∀wr,TurnL [rb,w.heap.size+1] w1 wr->∀j,wr.cell? ⟨w.heap.size,j,none⟩= #[Value.int .i64 0,.string ⟨#[]⟩,.int .i64 0,.slice none 0 0][j]?/\wr.frozen? ⟨w.heap.size,j,none⟩=false):=fun wr t j=>⟨(t.cell (p:=⟨w.heap.size,j,none⟩) (by show w.heap.size<_;omega) Zm).trans (cA j),(t.frozen (p:=⟨w.heap.size,j,none⟩) (by show w.heap.size<_;omega) Zm).trans (fA j)⟩
 clear cG cA fG fA h
 go_enter Tryz.func167,Tryz.ntmps167
 go_wp2_with fail
 rw[<-hw1];clear hw1
 by_cases l1:1<=p.length
 rotate_left
 ·refine(rnum16_no g1.rd (k:=1) Zo rfl).mono ?_
  rintro _ _ ⟨rfl,rfl⟩;exact⟨rfl,Reads16.no (no_ln fun q=>by have:=q.1;omega) (TF.out _ g1.tn)⟩
 refine(rnum16_yes g1.rd (k:=1) Zo l1 rfl rfl).mono ?_
 rintro _ w2 ⟨rfl,r2,o2⟩;rw[nuL1 l1];have g2:=g1.took o2 r2;clear g1 o2 r2;have k0:=g2.c0;have f0:=g2.fz 0;obtain⟨K0,hK0⟩:∃K0:Int,Hid (K0=(((co p 0).toNat:Nat):Int)):=⟨_,rfl⟩;rw[<-hK0.out];have g3:=g2.put (j:=0) (u:=.int .i64 K0) (k':=K0) (y':=[]) (n':=0) Zo rfl rfl rfl;clear g2
 go_wp2_with fail
 clear k0 f0
 by_cases l2:2<=p.length
 rotate_left
 ·refine(rnum16_no g3.rd (k:=1) (by rw[List.length_drop];omega) rfl).mono ?_
  rintro _ _ ⟨rfl,rfl⟩;exact⟨rfl,Reads16.no (no_ln fun q=>by have:=q.1;omega) (TF.out _ g3.tn)⟩
 refine(rnum16_yes g3.rd (k:=1) Zo (by rw[List.length_drop];omega) rfl rfl).mono ?_
 rintro _ w4 ⟨rfl,r4,o4⟩;rw[nuL1 (by rw[List.length_drop];omega)];have g4:=g3.took o4 r4;clear g3 o4 r4;rw[List.drop_drop]at g4;obtain⟨N,hN⟩:∃N:Nat,Hid (N=(co p 1).toNat):=⟨_,rfl⟩;have eN:(co (p.drop 1) 0).toNat=N:=by rw[co_drop,hN.out]
 rw[eN];clear eN;obtain⟨q2,hq2⟩:∃q2,Hid (q2=p.drop 2):=⟨_,rfl⟩;have e2:q2.length=p.length-2:=by rw[hq2.out,List.length_drop]
 rw[show p.drop (1+1)=q2 from hq2.out.symm]at g4
 go_wp2_with fail
 by_cases l3:N<=q2.length
 rotate_left
 ·refine(take16_no g4.rd (n:=N) Zo rfl).mono ?_
  rintro _ _ ⟨rfl,rfl⟩;exact⟨rfl,Reads16.no (no_ln fun q=>by have:=q.2;rw[<-hN.out]at this;omega) (TF.out _ g4.tn)⟩
 refine(take16_yes g4.rd (n:=N) l3 rfl).mono ?_
 rintro _ w5 ⟨u5,rfl,R5,r5,o5⟩;have g5:=g4.took o5 r5;clear g4 o5 r5;obtain⟨y,hy⟩:∃y,Hid (y=q2.take N):=⟨_,rfl⟩;have ly:y.length<=100000:=by rw[hy.out,List.length_take];omega
 obtain⟨q3,hq3⟩:∃q3,Hid (q3=q2.drop N):=⟨_,rfl⟩;have e3:q3.length=q2.length-N:=by rw[hq3.out,List.length_drop]
 rw[<-hq3.out]at g5;rw[<-hy.out]at R5;have CV:=conv_str16 (R5.below g5.rd.bl);obtain⟨a5,c5,ev⟩:=R5.form;subst ev;have k1:=g5.c1;have f1:=g5.fz 1;have g6:=g5.put (j:=1) (u:=.string ⟨y.toArray⟩) (k':=K0) (y':=y) (n':=0) Zo rfl rfl rfl;clear g5 R5
 go_wp2_with fail
 clear k1 f1 CV
 by_cases l4:4<=q3.length
 rotate_left
 ·refine(rnum16_no g6.rd (k:=4) Zo rfl).mono ?_
  rintro _ _ ⟨rfl,rfl⟩;exact⟨rfl,Reads16.no (no_ln fun q=>by have:=q.2;rw[<-hN.out]at this;omega) (TF.out _ g6.tn)⟩
 refine(rnum16_yes g6.rd (k:=4) Zo l4 rfl rfl).mono ?_
 rintro _ w7 ⟨rfl,r7,o7⟩;rw[nuL4 l4];have g7:=g6.took o7 r7;clear g6 o7 r7;obtain⟨L0,hL0⟩:∃L0:Int,Hid (L0=((nu q3:Nat):Int)):=⟨_,rfl⟩;rw[<-hL0.out];obtain⟨q4,hq4⟩:∃q4,Hid (q4=q3.drop 4):=⟨_,rfl⟩;have e4:q4.length=q3.length-4:=by rw[hq4.out,List.length_drop]
 rw[<-hq4.out]at g7;have k2:=g7.c2;have f2:=g7.fz 2;have g8:=g7.put (j:=2) (u:=.int .i64 L0) (k':=K0) (y':=y) (n':=L0) Zo rfl rfl rfl;clear g7
 go_wp2_with fail
 clear k2 f2
 by_cases l5:2<=q4.length
 rotate_left
 ·refine(rnum16_no g8.rd (k:=2) Zo rfl).mono ?_
  rintro _ _ ⟨rfl,rfl⟩;exact⟨rfl,Reads16.no (no_ln fun q=>by have:=q.2;rw[<-hN.out]at this;omega) (TF.out _ g8.tn)⟩
 refine(rnum16_yes g8.rd (k:=2) Zo l5 rfl rfl).mono ?_
 rintro _ w9 ⟨rfl,r9,o9⟩;rw[nuL2 l5];have g9:=g8.took o9 r9;clear g8 o9 r9;obtain⟨C,hC⟩:∃C:Nat,Hid (C=un q4):=⟨_,rfl⟩;have C0:C<65536:=by rw[hC.out];exact un_lt _
 rw[<-hC.out];obtain⟨q5,hq5⟩:∃q5,Hid (q5=q4.drop 2):=⟨_,rfl⟩;have e5:q5.length=q4.length-2:=by rw[hq5.out,List.length_drop]
 rw[<-hq5.out]at g9;have EL:Hid (LnR p↔2*C<=q5.length):=by
  show LnR p↔_
  unfold LnR;rw[<-hN.out,<-hq2.out,<-hq3.out,<-hq4.out,<-hC.out];omega
 have ER:Hid (raR p=⟨K0,y,L0,stN C q5⟩/\reR p=q5.drop (2*C)):=by
  refine⟨?_,?_⟩
  ·rw[hK0.out,hy.out,hL0.out,hC.out,hq5.out,hq4.out,hq3.out,hq2.out,hN.out];rfl
  ·unfold reR;rw[<-hN.out,<-hq2.out,<-hq3.out,<-hq4.out,<-hC.out,hq5.out,hq4.out,hq3.out,hq2.out,List.drop_drop,List.drop_drop,List.drop_drop,List.drop_drop];congr 1;omega
 have WK:Hid (((Lit.int .i64 K0).wf=true)/\((Lit.int .i64 L0).wf=true)):=by
  refine⟨?_,?_⟩
  ·rw[hK0.out];have:=(co p 0).toNat_lt;exact wf64 Zo Zo
  ·rw[hL0.out];have:=nu_lt q3;exact wf64 Zo Zo
 clear hK0 hN hq2 hy hq3 hL0 hq4 hC hq5 l1 l2 l3 l4 l5;have L5:Hid (q5.length<=100000):=by show _<=_;omega
 have S1:Hid (w1.heap.size=w.heap.size+2):=s1;clear e2 e3 e4 e5 s1;go_wp2
 go_loopw [18] (fun i wr=>∃(r:Nat) (v:Value),r<=C/\i= .int .i64 (r:Int)/\Got16 w0 w1 rb (w.heap.size+1) wr K0 y L0 v (stN r q5) (q5.drop (2*r))/\Hid (2*r<=q5.length)) (fun i _=>C-(intOf i).toNat)
 case atStart=>exact⟨0,_,Zz,rfl,g9,Zz⟩
 case round=>
  clear g9;obtain⟨r,v,hr,rfl,g,hlen⟩:=hrel
  by_cases hlt:r<C
  ·have hlt':(r:Int)<(C:Int):=by omega
   obtain⟨va,vc,ev⟩:=owns_form g.own;subst ev;have el:(q5.drop (2*r)).length=q5.length-2*r:=List.length_drop;have ls:(stN r q5).length=r:=stN_length _ _;have gd:=g.drew;have k3:wr.drew.cell? ⟨w.heap.size+1,3,none⟩=some (.slice va (stN r q5).length vc):=gd.c3
   by_cases l2:2<=(q5.drop (2*r)).length
   rotate_left
   ·have FIN:Hid (Reads16 w0 rb w p (.panicked pz16) wr.drew):=Reads16.no (no_ln fun q=>by have:=EL.out.1 q;omega) (TF.out _ gd.tn);have KN:=rnum16_no gd.rd (k:=2) Zo rfl;rw[ls]at k3;clear g gd ls el
    go_wp2_with fail
    refine wp_region_held_drew (S:=fun _=>True) Zk trivial (fun hHeld=>?_);refine tkH 0 ?_
    refine tkH 2 ?_
    refine rmH 1 3 (fun K hK=>?_) fun K hK=>?_
    ·go_simp;refine koH hK trivial fun hHeld=>?_
     clear hK K;refine rnH 3 fun K hK=>?_
     go_simp;refine KN.mono ?_
     rintro _ _ ⟨rfl,rfl⟩;exact⟨rfl,FIN.out⟩
    ·go_simp;refine KN.mono ?_
     rintro _ _ ⟨rfl,rfl⟩;exact⟨rfl,FIN.out⟩
   ·have KY:=rnum16_yes gd.rd (k:=2) Zo l2 rfl rfl;rw[nuL2 l2,List.drop_drop,show 2*r+2=2*(r+1) by omega]at KY;have EZ:Hid (stN (r+1) q5=stN r q5++[((un (q5.drop (2*r)):Nat):Int)]):=stN_succ r q5;have HL:Hid (2*(r+1)<=q5.length):=by show _<=_;omega
    have GY:Hid (∀w3,RdrAt w0 rb w3 (q5.drop (2*(r+1)))->Only rb wr.drew w3->Got16 w0 w1 rb (w.heap.size+1) w3 K0 y L0 (.slice va (stN r q5).length vc) (stN r q5) (q5.drop (2*(r+1)))):=fun w3 r3 o3=>gd.took o3 r3
    generalize ((un (q5.drop (2*r)):Nat):Int)=z at KY EZ;clear g gd el l2 hlen;rw[ls]at k3 GY
    go_wp2_with fail
    refine wp_region_held_drew (S:=fun _=>True) Zk trivial (fun hHeld=>?_);refine tkH 0 ?_
    refine tkH 2 ?_
    refine rmH 1 3 (fun K hK=>?_) fun K hK=>?_
    ·go_simp;refine koH hK trivial fun hHeld=>?_
     clear hK K;refine rnH 3 fun K hK=>?_
     go_simp;refine KY.mono ?_
     rintro _ w3 ⟨rfl,r3,o3⟩;have g3:=GY.out w3 r3 o3;clear r3 o3;exact z18_1
    ·go_simp;refine KY.mono ?_
     rintro _ w3 ⟨rfl,r3,o3⟩;have g3:=GY.out w3 r3 o3;clear r3 o3;have z3:=g3.c3;have z4:∀o,(w3.alloc o).cell? ⟨w.heap.size+1,3,none⟩=some (.slice va r vc):=fun o=>(World.cell?_alloc_past _ _ _ (World.block_lt_of_cell? _ _ z3)).trans z3
     refine koH hK trivial fun hHeld=>?_
     clear hK K;refine rmH 1 4 (fun K hK=>?_) fun K hK=>?_
     ·go_simp;exact z18_1
     ·go_simp;refine koH hK trivial fun hHeld=>?_
      clear hK K;refine rnH 1 fun K hK=>?_
      go_simp;refine koH hK trivial fun hHeld=>?_
      clear hK K;exact rec_tail
  ·obtain rfl:r=C:=by omega
   have hge:¬(r:Int)<(r:Int):=Zo
   obtain⟨va,vc,ev⟩:=owns_form g.own;subst ev;have ls:(stN r q5).length=r:=stN_length _ _;obtain⟨k0,k1,k2,k3⟩:=And.intro g.c0 (And.intro g.c1 (And.intro g.c2 g.c3));have IN:RcV.In wr ⟨⟨K0,y,L0,stN r q5⟩,.slice va (stN r q5).length vc⟩:=⟨WK.out.1,WK.out.2,by show y.length<=_;unfold maxLen;omega,g.own.rd (by rw[ls];omega),stN_wf _ _⟩;have LG:w.heap.size+1<wr.heap.size:=Zu g.lg.2.1 g.tn.size;have KC:=chk16_any IN rfl;have FR:Hid (∀k,(Value.slice va (stN r q5).length vc).ownBlock=some k->w.heap.size<=k/\k<wr.heap.size):=fun k hk=>by
    have:=Zv g.own k hk;have:=S1.out;omega
   have HL:Hid (LnR p):=EL.out.2 hlen.out;rw[ls]at k3 KC FR IN
   go_wp2_with fail
   refine KC.mono ?_
   rintro _ w6 ⟨rfl,B6⟩;clear KC;obtain⟨j0,j1,j2,j3⟩:(w6.cell? ⟨w.heap.size+1,0,none⟩=some (.int .i64 K0))/\(w6.cell? ⟨w.heap.size+1,1,none⟩=some (.string ⟨y.toArray⟩))/\(w6.cell? ⟨w.heap.size+1,2,none⟩=some (.int .i64 L0))/\w6.cell? ⟨w.heap.size+1,3,none⟩=some (.slice va r vc):=⟨(B6.cell (p:=⟨w.heap.size+1,0,none⟩) LG).trans k0,(B6.cell (p:=⟨w.heap.size+1,1,none⟩) LG).trans k1,(B6.cell (p:=⟨w.heap.size+1,2,none⟩) LG).trans k2,(B6.cell (p:=⟨w.heap.size+1,3,none⟩) LG).trans k3⟩;have LA:w.heap.size<wr.heap.size:=Zo
   have AF6:∀j,w6.cell? ⟨w.heap.size,j,none⟩= #[Value.int .i64 0,.string ⟨#[]⟩,.int .i64 0,.slice none 0 0][j]?/\w6.frozen? ⟨w.heap.size,j,none⟩=false:=fun j=>⟨(B6.cell (p:=⟨w.heap.size,j,none⟩) LA).trans (AF.out wr g.tn j).1,(B6.frozen (p:=⟨w.heap.size,j,none⟩) LA).trans (AF.out wr g.tn j).2⟩
   have T6:Hid (Turn rb w w6):=(TF.out wr g.tn).trans (Below.turn B6 rb)
   by_cases hok:OkR ⟨K0,y,L0,stN r q5⟩
   rotate_left
   ·rw[show chR ⟨K0,y,L0,stN r q5⟩=1 from if_neg hok];have FIN:Hid (Reads16 w0 rb w p (.panicked pz16) w6):=Reads16.no (fun q=>hok (by rw[<-ER.out.1];exact q.2)) T6.out;clear AF6 j0 j1 j2 j3 k0 k1 k2 k3
    go_wp2_with fail
    refine(ask16_no rfl).mono ?_
    rintro _ _ ⟨rfl,rfl⟩;exact⟨rfl,FIN.out⟩
   ·rw[show chR ⟨K0,y,L0,stN r q5⟩=0 from if_pos hok];have HN:Hid (NxR p):=⟨HL.out,by rw[ER.out.1];exact hok⟩;obtain⟨m0,f0⟩:=AF6 0;obtain⟨m1,f1⟩:=AF6 1;obtain⟨m2,f2⟩:=AF6 2;obtain⟨m3,f3⟩:=AF6 3;simp at m0 m1 m2 m3;have R6:=g.rd.below B6;have O6:OwnZ w6 w1.heap.size 3 (.slice va (stN r q5).length vc) (stN r q5):=owns_later g.own B6;have HS6:Hid (wr.heap.size<=w6.heap.size):=B6.size;clear AF6 k0 k1 k2 k3 hok g IN
    go_wp2_with fail
    refine(ask16_yes rfl).mono ?_
    rintro _ w7 ⟨rfl,rfl⟩;obtain⟨W,hW⟩:∃W,W=(((w7.setCell ⟨w.heap.size,0,none⟩ (.int .i64 K0)).setCell ⟨w.heap.size,1,none⟩ (.string ⟨y.toArray⟩)).setCell ⟨w.heap.size,2,none⟩ (.int .i64 L0)).setCell ⟨w.heap.size,3,none⟩ (.slice va r vc):=⟨_,rfl⟩;obtain⟨OA,n0,n1,n2,n3⟩:=set4 (a:=.int .i64 K0) (b:=.string ⟨y.toArray⟩) (c:=.int .i64 L0) (d:=.slice va r vc) m0 m1 m2 m3;rw[<-hW]at OA n0 n1 n2 n3;have O7:=O6.only OA (by have:=S1.out;omega);have FIN:Hid (Reads16 w0 rb w p (.returned (.agg #[.int .i64 K0,.string ⟨y.toArray⟩,.int .i64 L0,.slice va r vc])) W):=by
     refine Or.inl ⟨HN.out,⟨⟨K0,y,L0,stN r q5⟩,.slice va r vc⟩,rfl,ER.out.1.symm,⟨WK.out.1,WK.out.2,by show y.length<=_;unfold maxLen;omega,?_,stN_wf _ _⟩,?_,?_,?_⟩
     ·rw[ls]at O7;exact O7.rd (by rw[ls];omega)
     ·intro k hk;have a1:=FR.out k hk;have a2:=HS6.out;rw[OA.size];omega
     ·rw[ER.out.2];exact R6.only OA sz Zo
     ·exact⟨OA.os.trans T6.out.os,OA.tape.trans T6.out.tape,OA.output.trans T6.out.output,by rw[OA.size];exact T6.out.size,fun k hk hn=>(OA.block k Zo).trans (T6.out.block k hk hn)⟩
    clear R6 O6 O7 OA ER EL;go_wp2;rw[<-hW];clear hW;exact bodyPost_ret (v:=.agg #[.int .i64 K0,.string ⟨y.toArray⟩,.int .i64 L0,.slice va r vc]) (by simp[results,Tryz.results167,go_sem,n0,n1,n2,n3]) rfl FIN.out
end Go.Proofs.YtclieefpnbdbjaaGreat.Gf
