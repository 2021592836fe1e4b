/- JOINED: BcC, MpI, VaApp, DkTurn, FarV, SeCB, SeCD, SeRefU. -/
import Derived.Maps.OwnSet
import Derived.Maps.Ext
import Derived.Maps.AppendAt
import Derived.Test.YtddnfhfangfgeaaGreatPome17
import Derived.Test.YtddnfhfangfgeaaGreatPome8
set_option maxHeartbeats 4000000
set_option maxRecDepth 100000
namespace Go.Proofs.YtddnfhfangfgeaaGreat.Gf
set_option linter.unusedVariables false
set_option linter.unusedSimpArgs false
open Go.RowKit
theorem own_new12(w:World)(e:TypeId):(w.alloc (.cells #[] e)).ownsRow w.heap.size e 1 (.slice (some ⟨w.heap.size,0,none⟩) 0 0) 0 []:=World.ownsRow_made w #[] 0 Zr Zz rfl
theorem bclone_own{p:List UInt8}{w:World}{a:Addr}{c:Nat}(hp:Rd w (.slice (some a) p.length c) p)(hl:p.length<=100000):Calls Tryz.prog 143 #[.slice (some a) p.length c] w fun e w'=>∃v,e= .returned v/\w'.ownsRow w.heap.size 5 1 v p.length (p.map vb)/\Below w.heap.size w w':=by
 obtain⟨i0,hi,hz0,hz1,hz2⟩:=info_parts info_u8;have qT:∀(w:World) (a:Option Addr) (n c n' c':Nat),(binOp .eql 36 (.slice a n c) (.slice none n' c')).run Tryz.prog w= .ok (.bool a.isNone) w:=fun w a n c n' c'=>Lib.run_eql_slice_nil w _ _ a n c n' c' Tryz.underlying36
 have B1:Below w.heap.size w (w.alloc (.cells #[] 5)):=Zf.alloc Zr _;have O1:(w.alloc (.cells #[] 5)).ownsRow w.heap.size 5 1 (.slice (some ⟨w.heap.size,0,none⟩) 0 0) 0 []:=own_new12 w _;have hp1:=hp.below B1;have hsz:w.heap.size<=(w.alloc (.cells #[] 5)).heap.size:=B1.size
 go_enter Tryz.func143,Tryz.ntmps143
 go_wp2_with (at_builtin;go_loud (refine wpList_append_rd _ rfl (.tmp 5) (.tmp 6) 36 rfl w.heap.size 5 i0 Tryz.underlying36 hi hz0 hz1 hz2 (.slice (some ⟨w.heap.size,0,none⟩) 0 0) 0 [] rfl O1 (.slice (some a) p.length c) p rfl hp1 Zo hsz ?_);intro v' w9 hv9 hg9)
 have HB:Hid (Below w.heap.size w w9):=B1.grown hg9 hsz (fun q hq=>by cases hq;exact Zr);have HO:Hid (w9.ownsRow w.heap.size 5 1 v' p.length (p.map vb)):=by
  show w9.ownsRow _ _ _ _ _ _
  rw[Nat.zero_add,List.nil_append]at hv9;exact hv9
 clear hv9 hg9 B1 O1 hp1 hp qT;go_wp2;go_ret;exact⟨v',rfl,HO.out,HB.out⟩
theorem bclone_nil{w:World}:Calls Tryz.prog 143 #[.slice none 0 0] w fun e w'=>e= .returned (.slice none 0 0)/\w'=w:=by
 have qT:∀(w:World) (a:Option Addr) (n c n' c':Nat),(binOp .eql 36 (.slice a n c) (.slice none n' c')).run Tryz.prog w= .ok (.bool a.isNone) w:=fun w a n c n' c'=>Lib.run_eql_slice_nil w _ _ a n c n' c' Tryz.underlying36
 go_enter Tryz.func143,Tryz.ntmps143
 go_wp2;go_ret;exact⟨rfl,rfl⟩
open Go.Maps (Keyed)
open Go.ChangeMaps Go.MapKept
def RV(v:Value):Option (DataW Value×List MemPlace):=some (.held v,[])
theorem RV_inv{v:Value}{d:DataW Value}{ps:List MemPlace}(h:RV v=some (d,ps)):d= .held v:=by
 unfold RV at h;simp at h;exact h.1.symm
def MapI(P:Program)(K:TypeId)(w:World)(b S:Nat)(f:Int->Option Value):Prop:=
 ∃D,w.ownsMap P K RV b S D/\(∀kl,Maps.has D kl=true->∃x:Int,kl= .int .i64 x/\0<=x/\x<(S:Int))/\
  (∀x:Int,(Maps.has D (.int .i64 x)=false/\f x=none)∨∃v,f x=some v/\Maps.has D (.int .i64 x)=true/\∀z,D.atKey (.int .i64 x) z= .held v)
theorem pigeon:∀(S:Nat) (l:List Nat),l.Nodup->(∀x∈l,x<S)->l.length<=S
 |0,l,_,h=>by
  cases l with
  |nil=>exact Zr
  |cons a l=>have:=h a Zs;omega
 |S+1,l,hn,h=>by
  have h1:=pigeon S (l.erase S) (hn.erase S) (fun x hx=>by
   have hx1:=h x (List.mem_of_mem_erase hx);have hx2:x≠S:=fun e=>by
    subst e;exact(List.Nodup.not_mem_erase hn) hx
   omega)
  have h2:=List.length_erase (l:=l) (a:=S)
  split at h2<;>omega
theorem own_tight{P:Program}{K b n:Nat}{w:World}{R:Value->Option (DataW Value×List MemPlace)}{D:DataW Value}(h:w.ownsMap P K R b n D):w.ownsMap P K R b (Maps.size D) D:=by
 obtain⟨es,clock,hb,F,hs,rfl⟩:=h;refine⟨es,clock,hb,F,?_,rfl⟩;simp[Maps.size,length_sorted]
theorem tight_S{P:Program}{K b n S:Nat}{w:World}{D:DataW Value}(law:Keyed P K)(h:w.ownsMap P K RV b n D)(hk:∀kl,Maps.has D kl=true->∃x:Int,kl= .int .i64 x/\0<=x/\x<(S:Int)):w.ownsMap P K RV b S D:=by
 refine(own_tight h).mono ?_
 obtain⟨es,rfl,hp⟩:=h.tidy law;have hin:∀p∈es,∃x:Int,p.1= .int .i64 x/\0<=x/\x<(S:Int):=by
  intro p hp1;refine hk p.1 ?_
  rw[Maps.has_eq,List.any_eq_true];refine⟨p,hp1,WideAt.sameKey_self ?_⟩;obtain⟨es',hD,_,hl⟩:=h.canon law;simp at hD;subst hD;exact hl p hp1
 let g:Lit×DataW Value->Nat:=fun p=>match p.1 with| .int _ x=>x.toNat|_=>0
 have h1:(es.map g).Nodup:=by
  rw[List.Nodup,List.pairwise_map];refine hp.imp_of_mem ?_
  intro a b ha hb hne e;obtain⟨x,hx,hx0,_⟩:=hin a ha;obtain⟨y,hy,hy0,_⟩:=hin b hb;apply hne;have e':x.toNat=y.toNat:=by simpa[g,hx,hy]using e
  rw[hx,hy];congr 1;omega
 have h2:=pigeon S (es.map g) h1 (by
  intro n hn;obtain⟨p,hp1,rfl⟩:=List.mem_map.1 hn;obtain⟨x,hx,hx0,hxS⟩:=hin p hp1;simp only[g,hx];omega)
 rw[List.length_map]at h2;exact h2
theorem MapI.made(P:Program)(K:TypeId)(w:World)(S:Nat):MapI P K (w.alloc (.map #[] 0)) w.heap.size S (fun _=>none):=
 ⟨.map [],(World.ownsMap_made w P K RV).mono Zz,fun kl h=>by simp[Maps.has]at h,fun x=>Or.inl ⟨rfl,rfl⟩⟩
theorem MapI.lt{P:Program}{K b S:Nat}{w:World}{f:Int->Option Value}(h:MapI P K w b S f):b<w.heap.size:=by
 obtain⟨D,h,_⟩:=h;exact h.lt
theorem MapI.of_block{P:Program}{K b S:Nat}{w w':World}{f:Int->Option Value}(h:MapI P K w b S f)(he:w'.heap[b]? =w.heap[b]?):MapI P K w' b S f:=by
 obtain⟨D,⟨es,clock,hb,r⟩,r2⟩:=h;exact⟨D,⟨es,clock,he.trans hb,r⟩,r2⟩
theorem MapI.below{P:Program}{K b S:Nat}{w w':World}{f:Int->Option Value}(h:MapI P K w b S f)(hb:Below w.heap.size w w'):MapI P K w' b S f:=h.of_block (hb.block b h.lt)
theorem MapI.congr{P:Program}{K b S:Nat}{w:World}{f g:Int->Option Value}(h:MapI P K w b S f)(e:∀x,f x=g x):MapI P K w b S g:=by
 have:f=g:=funext e
 subst this;exact h
theorem MapI.look_ok{P:Program}{K b S t e:Nat}{w:World}{f:Int->Option Value}(h:MapI P K w b S f)(law:Keyed P K)(ht:P.underlying t=some (.map K e)){z:Value}(hz:(zeroValue e).run P w= .ok z w){x:Int}(hk:keyOf P K (.int .i64 x)=some (.int .i64 x)):
  (Instr.lookup t (.map (some b)) (.int .i64 x) true).run P w= .ok (.tuple #[(f x).getD z,.bool (f x).isSome]) w:=by
 obtain⟨D,h1,h2,h3⟩:=h;obtain⟨v,ps,hr,hv⟩:=h1.look_ok law ht hz (zd:=.held z) (zp:=[]) rfl hk;rw[hr];have hv':=RV_inv hv
 rcases h3 x with⟨hh,e⟩|⟨u,e,hh,ha⟩
 ·rw[Maps.atKey_of_not_has hh]at hv';simp at hv';rw[e,hh,hv'];rfl
 ·rw[ha]at hv';simp at hv';rw[e,hh,hv'];rfl
theorem MapI.look{P:Program}{K b S t e:Nat}{w:World}{f:Int->Option Value}(h:MapI P K w b S f)(law:Keyed P K)(ht:P.underlying t=some (.map K e)){z:Value}(hz:(zeroValue e).run P w= .ok z w){x:Int}(hk:keyOf P K (.int .i64 x)=some (.int .i64 x)):
  (Instr.lookup t (.map (some b)) (.int .i64 x) false).run P w= .ok ((f x).getD z) w:=by
 obtain⟨D,h1,h2,h3⟩:=h;obtain⟨v,ps,hr,hv⟩:=h1.lookup law ht hz (zd:=.held z) (zp:=[]) rfl hk;rw[hr];have hv':=RV_inv hv
 rcases h3 x with⟨hh,e⟩|⟨u,e,hh,ha⟩
 ·rw[Maps.atKey_of_not_has hh]at hv';simp at hv';rw[e,hv'];rfl
 ·rw[ha]at hv';simp at hv';rw[e,hv'];rfl
def putI(f:Int->Option Value)(x:Int)(v:Value)(y:Int):Option Value:=if y=x then some v else f y
def delI(f:Int->Option Value)(x:Int)(y:Int):Option Value:=if y=x then none else f y
theorem MapI.store{P:Program}{K b S t e:Nat}{w:World}{f:Int->Option Value}(h:MapI P K w b S f)(law:Keyed P K)(ht:P.underlying t=some (.map K e))(hS:S<maxLen){x:Int}(hk:keyOf P K (.int .i64 x)=some (.int .i64 x))(h0:0<=x)(hx:x<(S:Int))(v:Value):
  ∃w',(Instr.mapUpdate t (.map (some b)) (.int .i64 x) v).run P w= .ok () w'/\MapI P K w' b S (putI f x v)/\w.mapTurned w' b:=by
 obtain⟨D,h1,h2,h3⟩:=h;obtain⟨w',hr,ho,hm⟩:=h1.store law ht hS (val:=v) (d:=.held v) (ps:=[]) hk rfl;have hk2:∀kl,Maps.has (D.put (.int .i64 x) (.held v)) kl=true->∃y:Int,kl= .int .i64 y/\0<=y/\y<(S:Int):=by
  intro kl hh
  by_cases e:kl= .int .i64 x
  ·exact⟨x,e,h0,hx⟩
  ·rw[Maps.has_put_other e]at hh;exact h2 kl hh
 refine⟨w',hr,⟨_,tight_S law ho hk2,hk2,fun y=>?_⟩,hm⟩;unfold putI
 by_cases e:y=x
 ·subst e;exact Or.inr ⟨v,if_pos rfl,Maps.has_put_same h1.isMap (show WideAt.IsKeyLit (.int .i64 y)from trivial) _,fun z=>Maps.atKey_put_same h1.isMap (show WideAt.IsKeyLit (.int .i64 y)from trivial) _ z⟩
 ·have hne:Lit.int .i64 y≠.int .i64 x:=fun h=>e (by simpa using h)
  rw[if_neg e,Maps.has_put_other hne]
  rcases h3 y with h|⟨u,a1,a2,a3⟩
  ·exact Or.inl h
  ·exact Or.inr ⟨u,a1,a2,fun z=>by rw[Maps.atKey_put_other hne];exact a3 z⟩
theorem MapI.drop{P:Program}{K b S t e:Nat}{w:World}{f:Int->Option Value}(h:MapI P K w b S f)(law:Keyed P K)(ht:P.underlying t=some (.map K e)){x:Int}(hk:keyOf P K (.int .i64 x)=some (.int .i64 x))(ty:TypeId):
  ∃w',(Builtin.delete_ #[t,K] ty #[.map (some b),.int .i64 x]).run P w= .ok (.tuple #[]) w'/\MapI P K w' b S (delI f x)/\w.mapTurned w' b:=by
 obtain⟨D,h1,h2,h3⟩:=h;obtain⟨w',hr,ho,hm⟩:=h1.drop law ht hk ty;refine⟨w',hr,⟨_,ho,fun kl hh=>?_,fun y=>?_⟩,hm⟩
 ·by_cases e:kl= .int .i64 x
  ·subst e;rw[Maps.has_del_same]at hh;cases hh
  ·rw[Maps.has_del_other e]at hh;exact h2 kl hh
 ·unfold delI
  by_cases e:y=x
  ·subst e;exact Or.inl ⟨Maps.has_del_same,if_pos rfl⟩
  ·have hne:Lit.int .i64 y≠.int .i64 x:=fun h=>e (by simpa using h)
   rw[if_neg e,Maps.has_del_other hne]
   rcases h3 y with h|⟨u,a1,a2,a3⟩
   ·exact Or.inl h
   ·exact Or.inr ⟨u,a1,a2,fun z=>by rw[Maps.atKey_del_other hne];exact a3 z⟩
theorem MapI.clear{P:Program}{K b S t e:Nat}{w:World}{f:Int->Option Value}(h:MapI P K w b S f)(ht:P.underlying t=some (.map K e))(ty:TypeId):
  ∃w',(Builtin.clear_ #[t] ty #[.map (some b)]).run P w= .ok (.tuple #[]) w'/\MapI P K w' b S (fun _=>none)/\w.mapTurned w' b:=by
 obtain⟨D,⟨es,clock,hb,F,hs,rfl⟩,h2,h3⟩:=h;refine⟨setBlock w b (.map #[] clock),?_,⟨.map [],⟨#[],clock,heap_setBlock_same hb _,⟨Zs,stamped_empty _,Zs⟩,Zz,rfl⟩,fun kl h=>by simp[Maps.has]at h,fun x=>Or.inl ⟨rfl,rfl⟩⟩,⟨es,clock,#[],clock,hb,rfl⟩⟩;simp[Builtin.clear_,run_underlying ht,MapKept.run_getObj_map hb,MapKept.run_setObj_map _ hb,Result.andThen,setBlock]
theorem mapTurned_block{w w':World}{b c:Nat}(h:w.mapTurned w' b)(hc:c≠b):w'.heap[c]? =w.heap[c]? :=by
 obtain⟨es,clock,es',clock',hb,rfl⟩:=h;exact heap_setBlock_other hb _ hc
end Go.Proofs.YtddnfhfangfgeaaGreat.Gf
namespace Go.Proofs.YtddnfhfangfgeaaGreat.Gf
set_option linter.unusedVariables false
set_option linter.unusedSimpArgs false
open Go.RowKit
theorem wpList_append_v{P:Program}(w:World){ops:Array Oper}{rest:List Oper}{o:Oper}{a:Act}{Q:Exit->Act->World->Prop}(hgd:o.guard=none)(s x:Operand)(t:TypeId)
  (ho:o.op= .call {callee:=.builtin .append,args:=#[s,x],argTypes:=#[t,t]})
  (base:Nat) (e:TypeId) (i:TypeInfo) (z:Value) (by_:Nat) (ht:P.underlying t=some (.slice e)) (hi:P.info? e=some i) (hz:i.zero=some z) (hsize:i.size=1) (hby:i.bytes=by_) (hzc:z.cells.size=1) (hb24:by_<=24)
  (v:Value) (n:Nat) (xs:List Value) (hs:a.eval s=v) (hown:w.ownsRow base e 1 v n xs) (b c:Nat) (u:Value) (hx:a.eval x= .slice (some ⟨b,0,none⟩) 1 c) (hr:w.cell? ⟨b,0,none⟩=some u) (hu:u.oneCell'=true) (hl:n<=100000) (hbase:base<=w.heap.size)
  (h:∀v' w',w'.ownsRow base e 1 v' (n+1) (xs++[u])->w.grownBy w' v.ownBlock->(v'.ownBlock=v.ownBlock∨v'.ownBlock=some w.heap.size)->wpList P ops Q rest (a.put o.dst v') w'):wpList P ops Q (o::rest) a w:=by
 refine wpList_plain hgd fun K hK=>?_
 have hb6:(n+1)*by_<=140737488355328:=Nat.le_trans (Nat.mul_le_mul (show n+1<=100001 by omega) hb24) Zd;obtain⟨v',w',hrun,h2,h3,_,h5⟩:=run_append_own_at (P:=P) w base t o.type e i z 1 by_ ht hi hz hsize hby hzc Zd v n xs hown ⟨b,0,none⟩ 1 c [u] rfl (by intro j y hj;rw[add_at,Nat.zero_add];rcases j with _|j<;>simp at hj;subst hj;exact hr) (by intro y hy;simp at hy;rw[hy];exact hu) Zl hb6 hbase;unfold Oper.wp execOp;simp only[ho,resolve,invoke,builtin,Sem.run_bind,Sem.run_pure,Result.andThen_ok,List.map_toArray,List.map_cons,List.map_nil,hs,hx,hrun];exact hK _ _ (h v' w' h2 h3 h5)
structure TurnG(G:Nat->Prop)(w w':World):Prop where
 os:w'.os=w.os
 tape:w'.tape=w.tape
 output:w'.output=w.output
 size:w.heap.size<=w'.heap.size
 block:∀k,k<w.heap.size->¬G k->w'.heap[k]? =w.heap[k]?
theorem TurnG.refl(G:Nat->Prop)(w:World):TurnG G w w:=⟨rfl,rfl,rfl,Zr,fun _ _ _=>rfl⟩
theorem TurnG.trans{G:Nat->Prop}{a b c:World}(h:TurnG G a b)(k:TurnG G b c):TurnG G a c:=
 ⟨k.os.trans h.os,k.tape.trans h.tape,k.output.trans h.output,Nat.le_trans h.size k.size,fun i hi hg=>(k.block i (Zu hi h.size) hg).trans (h.block i hi hg)⟩
theorem Below.turnG{w w':World}(h:Below w.heap.size w w')(G:Nat->Prop):TurnG G w w':=⟨h.os,h.tape,h.output,h.size,fun k hk _=>h.block k hk⟩
theorem Only.turnG{g:Nat}{G:Nat->Prop}{w w':World}(h:Only g w w')(hg:G g):TurnG G w w':=
 ⟨h.os,h.tape,h.output,by rw[h.size];exact Zr,fun k _ hk=>h.block k (fun e=>hk (by rw[e];exact hg))⟩
theorem TurnG.drew{G:Nat->Prop}{a w:World}(h:TurnG G a w):TurnG G a w.drew:=⟨h.os,h.tape,h.output,h.size,h.block⟩
theorem TurnG.below{G:Nat->Prop}{B:Nat}{w w':World}(h:TurnG G w w')(hg:∀g,G g->B<=g)(hB:B<=w.heap.size):Below B w w':=
 ⟨h.os,h.tape,h.output,h.size,fun k hk=>h.block k Zo (fun e=>by have:=hg k e;omega)⟩
theorem TurnG.cell{G:Nat->Prop}{w w':World}(h:TurnG G w w'){p:Addr}(hs:p.block<w.heap.size)(hp:¬G p.block):w'.cell? p=w.cell? p:=Zc (w:=w) (h.block p.block hs hp)
theorem TurnG.frozen{G:Nat->Prop}{w w':World}(h:TurnG G w w'){p:Addr}(hs:p.block<w.heap.size)(hp:¬G p.block):w'.frozen? p=w.frozen? p:=World.frozen?_of_block (w:=w) (h.block p.block hs hp)
structure Grew(G:Nat->Prop)(w:World)(G':Nat->Prop)(w':World):Prop where
 turn:TurnG G w w'
 grow:∀k,G' k->G k∨w.heap.size<=k
theorem Grew.refl(G:Nat->Prop)(w:World):Grew G w G w:=⟨TurnG.refl G w,fun _ h=>Or.inl h⟩
theorem Grew.trans{G G' G'':Nat->Prop}{a b c:World}(h:Grew G a G' b)(k:Grew G' b G'' c):Grew G a G'' c:=
 ⟨⟨k.turn.os.trans h.turn.os,k.turn.tape.trans h.turn.tape,k.turn.output.trans h.turn.output,Nat.le_trans h.turn.size k.turn.size,fun i hi hg=>
  (k.turn.block i (Zu hi h.turn.size) (fun e=>(h.grow i e).elim hg (fun h1=>Zo))).trans (h.turn.block i hi hg)⟩,
  fun i hi=>by
  rcases k.grow i hi with h1|h1
  ·exact h.grow i h1
  ·exact Or.inr (Nat.le_trans h.turn.size h1)⟩
theorem Grew.of_turn{G:Nat->Prop}{w w':World}(h:TurnG G w w'):Grew G w G w':=⟨h,fun _ h=>Or.inl h⟩
theorem Grew.of_below{G:Nat->Prop}{w w':World}(h:Below w.heap.size w w'):Grew G w G w':=Grew.of_turn (Below.turnG h G)
theorem Grew.base{G G':Nat->Prop}{w w':World}{B:Nat}(h:Grew G w G' w')(hg:∀k,G k->B<=k)(hB:B<=w.heap.size):∀k,G' k->B<=k:=fun k hk=>by
 rcases h.grow k hk with h1|h1
 ·exact hg k h1
 ·omega
theorem Grew.below{G G':Nat->Prop}{w w':World}{B:Nat}(h:Grew G w G' w')(hg:∀k,G k->B<=k)(hB:B<=w.heap.size):Below B w w':=h.turn.below hg hB
theorem Grew.off{G G':Nat->Prop}{w w':World}(h:Grew G w G' w'){k:Nat}(hk:k<w.heap.size)(hg:¬G k):¬G' k:=fun e=>by
 rcases h.grow k e with h1|h1
 ·exact hg h1
 ·omega
def ApartG(G:Nat->Prop)(v:Value):Prop:=∀x n c,v= .slice (some x) n c->n=0∨¬G x.block
theorem Rd.turnG{G:Nat->Prop}{w w':World}{v:Value}{p:List UInt8}(h:Rd w v p)(ha:ApartG G v)(ho:TurnG G w w'):Rd w' v p:=by
 rcases h with h|⟨b,off,cap,h1,h2,h3,h4,h5,h6⟩
 ·exact Or.inl h
 ·have hb:¬G b:=by
   rcases ha _ _ _ h2 with e|e
   ·exact absurd (List.length_eq_zero_iff.1 e) h1
   ·exact e
  exact Or.inr ⟨b,off,cap,h1,h2,h3,h4,Zu h5 ho.size,fun i hi=>(ho.cell (p:=⟨b,off+i,none⟩) h5 hb).trans (h6 i hi)⟩
theorem Rd.lay{w:World}{v:Value}{p:List UInt8}(h:Rd w v p){x:Addr}{n c:Nat}(e:v= .slice (some x) n c):n=0∨x.block<w.heap.size:=by
 rcases h with⟨a,c',_,e2,_⟩|⟨b,off,cap,h1,h2,h3,h4,h5,h6⟩
 ·subst e2;simp at e;exact Or.inl e.2.1.symm
 ·subst h2;simp at e;obtain⟨rfl,rfl,rfl⟩:=e;exact Or.inr h5
theorem ApartG.grew{G G':Nat->Prop}{w w':World}{v:Value}{p:List UInt8}(ha:ApartG G v)(h:Rd w v p)(g:Grew G w G' w'):ApartG G' v:=by
 intro x n c e
 rcases ha x n c e with h1|h1
 ·exact Or.inl h1
 ·rcases h.lay e with h2|h2
  ·exact Or.inl h2
  ·exact Or.inr (g.off h2 h1)
theorem Rd.grew{G G':Nat->Prop}{w w':World}{v:Value}{p:List UInt8}(h:Rd w v p)(ha:ApartG G v)(g:Grew G w G' w'):Rd w' v p:=h.turnG ha g.turn
theorem Rd.apartG{w:World}{v:Value}{p:List UInt8}{G:Nat->Prop}(h:Rd w v p)(hg:∀g,G g->w.heap.size<=g):ApartG G v:=by
 intro x n c e
 rcases h.lay e with h2|h2
 ·exact Or.inl h2
 ·exact Or.inr (fun h=>by have:=hg _ h;omega)
theorem ApartG.own{w:World}{base e n:Nat}{v:Value}{xs:List Value}{G:Nat->Prop}(h:w.ownsRow base e 1 v n xs)(hg:∀g,G g->g<base):ApartG G v:=by
 intro x m c ev;obtain⟨_,⟨hv,hn⟩|⟨g,cap,cur,hv,hgb,_⟩⟩:=h
 ·rw[hv]at ev;simp at ev
 ·rw[hv]at ev;simp at ev;obtain⟨rfl,_,_⟩:=ev;exact Or.inr (fun h=>by have:=hg g h;omega)
theorem ApartG.nil(G:Nat->Prop)(c:Nat)(a:Option Addr):ApartG G (.slice a 0 c):=fun x n c' e=>by simp at e;exact Or.inl e.2.1.symm
theorem owns_block{w w':World}{base e size n:Nat}{v:Value}{xs:List Value}(h:w.ownsRow base e size v n xs)(hb:∀g,v.ownBlock=some g->w'.heap[g]? =w.heap[g]?):w'.ownsRow base e size v n xs:=by
 obtain⟨h0,h|⟨g,cap,cur,hv,hg,hh,r⟩⟩:=h
 ·exact⟨h0,Or.inl h⟩
 ·refine⟨h0,Or.inr ⟨g,cap,cur,hv,hg,?_,r⟩⟩;rw[hb g (by rw[hv];rfl)];exact hh
theorem owns_at{w:World}{base e size n b o c:Nat}{xs:List Value}(h:w.ownsRow base e size (.slice (some ⟨b,o,none⟩) n c) n xs):base<=b/\b<w.heap.size:=by
 obtain⟨h0,h|⟨g,cap,cur,hv,hg,hh,r⟩⟩:=h
 ·simp at h
 ·simp at hv;obtain⟨⟨rfl,_⟩,_⟩:=hv;exact⟨hg,(Array.getElem?_eq_some_iff.1 hh).1⟩
def FarV(w:World)(v:Value):Prop:=∀x n c,v= .slice (some x) n c->n=0∨w.heap.size<=x.block
theorem FarV.own{w w':World}{e n:Nat}{v:Value}{xs:List Value}(h:w'.ownsRow w.heap.size e 1 v n xs):FarV w v:=fun x n' c e2=>by
 obtain⟨_,⟨hv,hn⟩|⟨g,cap,cur,hv,hg,_⟩⟩:=h
 ·rw[hv]at e2;cases e2
 ·rw[hv]at e2;simp at e2;obtain⟨rfl,_⟩:=e2;exact Or.inr hg
theorem FarV.nil(w:World)(a:Option Addr)(c:Nat):FarV w (.slice a 0 c):=fun x n c' e=>by simp at e;exact Or.inl e.2.1.symm
theorem FarV.apart{w:World}{v:Value}{G:Nat->Prop}(h:FarV w v)(hG:∀k,G k->k<w.heap.size):ApartG G v:=fun x n c e=>(h x n c e).imp id fun q hg=>by have:=hG _ hg;omega
def PartV(u v:Value):Prop:=∀G:Nat->Prop,ApartG G u->ApartG G v
theorem PartV.nil(u:Value)(a:Option Addr)(c:Nat):PartV u (.slice a 0 c):=fun G _=>ApartG.nil G c a
theorem PartV.cut{b o n c o' n' c':Nat}(h:n≠0):PartV (.slice (some ⟨b,o,none⟩) n c) (.slice (some ⟨b,o',none⟩) n' c'):=fun G ha x m d e=>by
 simp at e;obtain⟨rfl,_⟩:=e;exact Or.inr ((ha _ _ _ rfl).resolve_left h)
theorem i64_or_nat{a b:Nat}(ha:a<9223372036854775808)(hb:b<9223372036854775808):bits .or .i64 (a:Int) (b:Int)=((a|||b:Nat):Int):=by
 have h:a|||b<9223372036854775808:=Nat.or_lt_two_pow (n:=63) ha hb
 show IntKind.i64.wrap ((BitVec.ofInt 64 (a:Int)|||BitVec.ofInt 64 (b:Int)).toNat:Nat)=_
 rw[BitVec.toNat_or,BitVec.ofInt_natCast,BitVec.ofInt_natCast,BitVec.toNat_ofNat,BitVec.toNat_ofNat,Nat.mod_eq_of_lt Zo,Nat.mod_eq_of_lt Zo,IntKind.wrap_i64];omega
theorem or_byte{a:Nat}{x:UInt8}:a*256|||x.toNat=a*256+x.toNat:=by
 have:=Nat.two_pow_add_eq_or_of_lt (i:=8) (b:=x.toNat) x.toNat_lt a;rw[Nat.mul_comm a 256];exact this.symm
def nuK(q:List UInt8):Nat->Nat
 |0=>0
 |k+1=>nuK q k*256+(co q k).toNat
theorem nuK_four(q:List UInt8):nuK q 4=nu q:=by
 show(((0*256+(co q 0).toNat)*256+(co q 1).toNat)*256+(co q 2).toNat)*256+(co q 3).toNat=nu q
 unfold nu;omega
theorem nuK_lt(q:List UInt8):∀k,nuK q k<256^k
 |0=>by simp[nuK]
 |k+1=>by
  have:=nuK_lt q k;have h:=(co q k).toNat_lt;rw[Nat.pow_succ]
  show nuK q k*256+(co q k).toNat<_
  omega
theorem snum_any{p:List UInt8}{w:World}{a:Option Addr}{c:Nat}(hp:Rd w (.slice a p.length c) p)(hl:12<=p.length):Calls Tryz.prog 189 #[.slice a p.length c,.int .i64 4] w fun e w'=>e= .returned (.int .i64 ((epS p:Nat):Int))/\w'=w:=by
 obtain⟨q,hq⟩:∃q,Hid (q=(p.drop 4).take 4):=⟨_,rfl⟩;have HE:Hid (nuK q 4=epS p):=by show _=_;rw[nuK_four,hq.out];rfl
 rw[<-HE.out];clear HE
 rcases hp with⟨a',c',rfl,_⟩|⟨b,o,c',hp0,e0,h1,h2,h3,hpc⟩
 ·simp at hl
 simp at e0;obtain⟨rfl,rfl⟩:=e0;have g1:(8:Int)<=(p.length:Int):=Zo
 have g2:(4:Int)<=(p.length:Int):=Zo
 have g3:8<=c:=Zo
 have g4:(8:Int)<=(c:Int):=Zo
 have g5:¬c=4:=Zo
 have cells:∀k,k<4->w.cell? ⟨b,o+4+k,none⟩=some (.int .u8 (((co q k).toNat:Nat):Int)):=by
  intro k hk;have e:=hpc (4+k) Zo;rw[<-Nat.add_assoc]at e;rw[e,hq.out,co_take hk,co_drop0]
 clear hpc hq
 go_enter Tryz.func189,Tryz.ntmps189
 go_wp2;clear g1 g2 g3 g4 g5
 go_loop [5,14] (fun x i=>∃k:Nat,k<=4/\i= .int .i64 (k:Int)/\x= .int .i64 ((nuK q k:Nat):Int)) (fun _ i=>4-(intOf i).toNat)
 case atStart=>exact⟨0,Zo,rfl,rfl⟩
 case round=>
  obtain⟨k,hk,rfl,rfl⟩:=hrel
  by_cases hlt:k<4
  ·have hlt':(k:Int)<4:=by omega
   have c1:=cells k hlt;have hz:=nuK_lt q k;have h4:256^k<=256^3:=Nat.pow_le_pow_right Zd Zo;have hz3:nuK q k<16777216:=Zu hz h4;have HS:Hid (nuK q (k+1)=nuK q k*256+(co q k).toNat):=rfl;clear cells hz h4;obtain⟨z,ez⟩:∃z,Hid (z=nuK q k):=⟨_,rfl⟩;rw[<-ez.out]at hz3 HS ⊢;have hb:=(co q k).toNat_lt;have Z1:IntKind.i64.wrap ((z:Int)*256)=((z*256:Nat):Int):=Zw
   have Z2:IntKind.i64.wrap (((co q k).toNat:Nat):Int)=(((co q k).toNat:Nat):Int):=Zw
   have Z3:bits .or .i64 ((z*256:Nat):Int) (((co q k).toNat:Nat):Int)=((nuK q (k+1):Nat):Int):=by
    rw[i64_or_nat Zo Zo,or_byte,HS.out]
   obtain⟨y,ey⟩:∃y,Hid (y=z*256):=⟨_,rfl⟩;rw[<-ey.out]at Z1 Z3;clear HS ez ey;go_wp2
   go_round
   case rel=>exact⟨k+1,Zo,Zg,rfl⟩
   case measure=>simp[intOf];omega
  ·have e:k=4:=by omega
   subst e;clear cells;go_wp2;go_ret;exact⟨rfl,rfl⟩
theorem sclone_any{p:List UInt8}{w:World}{a:Addr}{c:Nat}(hp:Rd w (.slice (some a) p.length c) p)(hl:p.length<=100000):Calls Tryz.prog 143 #[.slice (some a) p.length c] w fun e w'=>∃v,e= .returned v/\Rd w' v p/\FarV w v/\Below w.heap.size w w':=by
 obtain⟨i0,hi,hz0,hz1,hz2⟩:=info_parts info_u8;have qT:∀(w:World) (a:Option Addr) (n c n' c':Nat),(binOp .eql 36 (.slice a n c) (.slice none n' c')).run Tryz.prog w= .ok (.bool a.isNone) w:=fun w a n c n' c'=>Lib.run_eql_slice_nil w _ _ a n c n' c' Tryz.underlying36
 have B1:Below w.heap.size w (w.alloc (.cells #[] 5)):=Zf.alloc Zr _;have O1:(w.alloc (.cells #[] 5)).ownsRow w.heap.size 5 1 (.slice (some ⟨w.heap.size,0,none⟩) 0 0) 0 []:=own_new w _;have hp1:=hp.below B1;have hsz:w.heap.size<=(w.alloc (.cells #[] 5)).heap.size:=B1.size
 go_enter Tryz.func143,Tryz.ntmps143
 go_wp2_with (at_builtin;go_loud (refine wpList_append_rd _ rfl (.tmp 5) (.tmp 6) 36 rfl w.heap.size 5 i0 Tryz.underlying36 hi hz0 hz1 hz2 (.slice (some ⟨w.heap.size,0,none⟩) 0 0) 0 [] rfl O1 (.slice (some a) p.length c) p rfl hp1 Zo hsz ?_);intro v' w9 hv9 hg9)
 have HB:Hid (Below w.heap.size w w9):=B1.grown hg9 hsz (fun q hq=>by cases hq;exact Zr);have HO:Hid (Rd w9 v' p/\FarV w v'):=⟨rd_one hv9,FarV.own hv9⟩;clear hv9 hg9 B1 O1 hp1 hp qT;go_wp2;go_ret;exact⟨v',rfl,HO.out.1,HO.out.2,HB.out⟩
def MakesUF(w:World)(N:Nat)(D:List UInt8)(X:Int)(e:Ending)(w':World):Prop:=∃v,e= .returned (.tuple #[.int .i64 (N:Int),v,.int .i64 X])/\Rd w' v D/\FarV w v/\Below w.heap.size w w'
theorem Rd.cutS{w:World}{b off n c:Nat}{p:List UInt8}(h:Rd w (.slice (some ⟨b,off,none⟩) n c) p){i m c':Nat}(hm:i+m<=p.length)(hi:0<p.length)(hc:c'=c-i):Rd w (.slice (some ⟨b,off+i,none⟩) m c') ((p.drop i).take m):=by
 rcases h with⟨a,c0,e,_⟩|⟨b',off',c0,h1,h2,h3,h4,h5,h6⟩
 ·subst e;simp at hi
 ·simp at h2;obtain⟨⟨rfl,rfl⟩,rfl,rfl⟩:=h2;subst hc;have hl:((p.drop i).take m).length=m:=by rw[List.length_take,List.length_drop];omega
  by_cases h0:m=0
  ·subst h0;exact Or.inl ⟨_,_,rfl,rfl,Zo,fun e=>by cases e⟩
  ·refine Or.inr ⟨b,off+i,c-i,fun e=>by rw[e]at hl;simp at hl;omega,by rw[hl],by rw[hl];omega,Zo,h5,fun j hj=>?_⟩;rw[hl]at hj;rw[co_take hj,co_drop0,Nat.add_assoc];exact h6 (i+j) Zo
theorem sunpack_far{a:Int}{v:Value}{p:List UInt8}{w:World}(hp:Rd w v p)(hl:p.length<=100000):Calls Tryz.prog 163 #[.int .i64 a,v] w (MakesUF w (upN a p) (upD a p) (upX a p)):=by
 by_cases h12:12<=p.length
 ·rcases hp.form with⟨va,vc,rfl⟩
  rcases hp with⟨a',c',rfl,_⟩|⟨b,o,c',hp0,e0,h1,h2,h3,hpc⟩
  ·simp at h12
  simp at e0;obtain⟨rfl,rfl⟩:=e0;have hp:Rd w (.slice (some ⟨b,o,none⟩) p.length vc) p:=Or.inr ⟨b,o,vc,hp0,rfl,h1,h2,h3,hpc⟩;clear hpc hp0;have hlt:¬(p.length:Int)<12:=Zo
  obtain⟨n4,hn4⟩:∃n4,Hid (n4=p.length-4):=⟨_,rfl⟩;have hn5:n4+4=p.length:=by have:=hn4.out;omega
  have g0:(p.length:Int)-4=(n4:Int):=Zo
  have gw:IntKind.i64.wrap (n4:Int)=(n4:Int):=Zw
  have g1:(n4:Int)<=(p.length:Int):=Zo
  have g2:(8:Int)<=(n4:Int):=Zo
  have g3:8<=n4:=Zo
  have g4:n4<=vc:=Zo
  have g5:(n4:Int)<=(vc:Int):=Zo
  have g6:¬vc=8:=Zo
  have hda:Rd w (.slice (some ⟨b,o+8,none⟩) (n4-8) (vc-8)) (daS p):=hp.cutS (i:=8) (m:=n4-8) Zo Zo rfl|>(by rw[show daS p=(p.drop 8).take (n4-8) by unfold daS;congr 1;omega];exact ·);have hdl:=daS_length p
  by_cases hk:OkSe a ((epS p:Nat):Int) (daS p).length
  ·have px:=pa_ok hk;rw[Int.toNat_natCast]at px;have hpk:(pkS a.toNat (epS p) (daS p)).length=p.length:=by rw[pk_length];omega
   by_cases hs:pkS a.toNat (epS p) (daS p)=p
   ·have hu:OkUe a p:=⟨h12,hk,hs⟩;rw[(up_ok hu).1,(up_ok hu).2.1,(up_ok hu).2.2];have ds:sameB (pkS a.toNat (epS p) (daS p)) p=true:=Zy hs;clear hs hu
    go_enter Tryz.func163,Tryz.ntmps163
    go_wp2_with fail
    refine(snum_any hp h12).mono ?_
    rintro e' w' ⟨rfl,rfl⟩
    go_wp2_with fail
    obtain⟨wo,hwo⟩:∃wo,wo=w':=⟨_,rfl⟩;subst hwo;refine(spack_any hda).mono ?_
    rintro e' w1 ⟨v1,rfl,R1,B1⟩;rw[px.1];rw[px.2]at R1;obtain⟨a1,c1,rfl⟩:=R1.form;rw[hpk]at R1 ⊢;replace hp:=hp.below B1;replace hda:=hda.below B1
    go_wp2_with fail
    refine(beq_any R1 hp).mono ?_
    rintro e' w2 ⟨rfl,rfl⟩;rw[ds]
    go_wp2_with fail
    obtain⟨w1,hw1⟩:∃w1,w1=w2:=⟨_,rfl⟩;subst hw1;have hn8:n4-8=(daS p).length:=Zo
    rw[hn8]at hda ⊢;refine(sclone_any hda Zo).mono ?_
    rintro e' w3 ⟨v3,rfl,R3,V3,B3⟩;have HV:Hid (FarV wo v3):=fun x n c e=>(V3 x n c e).imp id fun q=>Nat.le_trans B1.size q
    have HB:Hid (Below wo.heap.size wo w3):=Below.step B1 B3;clear R1 hp hda B1 B3 V3;go_wp2
    go_ret3
    exact⟨_,rfl,R3,HV.out,HB.out⟩
   ·have hn:¬OkUe a p:=fun h=>hs h.2.2
    rw[(up_not hn).1,(up_not hn).2.1,(up_not hn).2.2];have ds:sameB (pkS a.toNat (epS p) (daS p)) p=false:=Zx hs
    go_enter Tryz.func163,Tryz.ntmps163
    go_wp2_with fail
    refine(snum_any hp h12).mono ?_
    rintro e' w' ⟨rfl,rfl⟩
    go_wp2_with fail
    obtain⟨wo,hwo⟩:∃wo,wo=w':=⟨_,rfl⟩;subst hwo;refine(spack_any hda).mono ?_
    rintro e' w1 ⟨v1,rfl,R1,B1⟩;rw[px.1];rw[px.2]at R1;obtain⟨a1,c1,rfl⟩:=R1.form;rw[hpk]at R1 ⊢;replace hp:=hp.below B1;have HB:Hid (Below wo.heap.size wo w1):=B1;clear hda B1
    go_wp2_with fail
    refine(beq_any R1 hp).mono ?_
    rintro e' w2 ⟨rfl,rfl⟩;rw[ds];clear R1 hp;go_wp2
    go_ret3
    exact⟨_,rfl,rd_nil0,FarV.nil _ _ _,HB.out⟩
  ·have px:=pa_not hk;have hn:¬OkUe a p:=fun h=>hk h.2.1
   rw[(up_not hn).1,(up_not hn).2.1,(up_not hn).2.2]
   go_enter Tryz.func163,Tryz.ntmps163
   go_wp2_with fail
   refine(snum_any hp h12).mono ?_
   rintro e' w' ⟨rfl,rfl⟩
   go_wp2_with fail
   obtain⟨wo,hwo⟩:∃wo,wo=w':=⟨_,rfl⟩;subst hwo;refine(spack_any hda).mono ?_
   rintro e' w1 ⟨v1,rfl,R1,B1⟩;rw[px.1];have HB:Hid (Below wo.heap.size wo w1):=B1;clear hda B1 R1 hp;go_wp2
   go_ret3
   exact⟨_,rfl,rd_nil0,FarV.nil _ _ _,HB.out⟩
 ·have hn:¬OkUe a p:=fun h=>h12 h.1
  rw[(up_not hn).1,(up_not hn).2.1,(up_not hn).2.2];obtain⟨va,vc,rfl⟩:=hp.form;have hlt:(p.length:Int)<12:=Zo
  go_enter Tryz.func163,Tryz.ntmps163
  go_wp2
  go_ret3
  exact⟨_,rfl,rd_nil0,FarV.nil _ _ _,Zf⟩
theorem not_gt31{x:Nat}(h:x<=2147483647):¬(x:Int)>2147483647:=Zo
theorem is_gt31{x:Nat}(h:¬x<=2147483647):(x:Int)>2147483647:=Zo
theorem bne_same{x y:Nat}(h:x=y):((x:Int)!=(y:Int))=false:=by rw[h];simp
theorem bne_other{x y:Nat}(h:¬x=y):((x:Int)!=(y:Int))=true:=Zm
def MakesV11(w:World)(u:Value)(N:Nat)(D:List UInt8)(X:Int)(e:Ending)(w':World):Prop:=∃v,e= .returned (.tuple #[.int .i64 (N:Int),v,.int .i64 X])/\Rd w' v D/\PartV u v/\Below w.heap.size w w'
theorem runpack_part{a:Int}{v:Value}{p:List UInt8}{w:World}(hp:Rd w v p)(hl:p.length<=100000):Calls Tryz.prog 106 #[.int .i64 a,v] w (MakesV11 w v (upN a p) (upD a p) (upX a p)):=by
 have HI:Hid (OkUe a p↔_):=okU_iff (a:=a) (b:=p)
 by_cases hb:12<=p.length/\p.length<=4108/\0<=a/\a<=2147483647
 ·obtain⟨h12,hmx,a0,am⟩:=hb
  rcases hp.form with⟨va,vc,rfl⟩
  rcases hp with⟨a',c',rfl,_⟩|⟨b,o,c',hp0,e0,h1,h2,h3,hpc⟩
  ·simp at h12
  simp at e0;obtain⟨rfl,rfl⟩:=e0;have hp:Rd w (.slice (some ⟨b,o,none⟩) p.length vc) p:=Or.inr ⟨b,o,vc,hp0,rfl,h1,h2,h3,hpc⟩;clear hpc hp0;obtain⟨n4,hn4⟩:∃n4,Hid (n4=p.length-4):=⟨_,rfl⟩;have hn5:Hid (n4+4=p.length):=by show _=_;have:=hn4.out;omega
  have PZ:Hid (p.length≠0):=by show _≠_;have:=hn5.out;omega
  have hq:p.length-n4=4:=by have:=hn5.out;omega
  have g0:(p.length:Int)-4=(n4:Int):=by have:=hn5.out;omega
  have gw:IntKind.i64.wrap (n4:Int)=(n4:Int):=by rw[IntKind.wrap_i64];have:=hn5.out;omega
  have g1:(n4:Int)<=(p.length:Int):=Zo
  have g2:(8:Int)<=(n4:Int):=by have:=hn5.out;omega
  have g2':¬(n4:Int)<8:=Zo
  have g2'':¬(n4:Int)>4104:=by have:=hn5.out;omega
  have g3:8<=n4:=Zo
  have g4:n4<=vc:=by have:=hn5.out;omega
  have g5:(n4:Int)<=(vc:Int):=Zo
  have g6:¬vc=8:=Zo
  have g7:¬vc=n4:=by have:=hn5.out;omega
  have g8:¬vc=4:=Zo
  have g9:(8:Int)<=(vc:Int):=Zo
  have g10:(4:Int)<=(vc:Int):=Zo
  have g11:8<=vc:=Zo
  have g12:4<=vc:=Zo
  have a0':¬a<0:=Zo
  have am':¬a>2147483647:=Zo
  obtain⟨A,rfl⟩:∃A:Nat,a=(A:Int):=⟨a.toNat,Zo⟩;have wA:IntKind.u32.wrap (A:Int)=(A:Int):=by rw[IntKind.wrap_u32];omega
  have hX:Hid (n4-8=p.length-12):=by show _=_;have:=hn5.out;omega
  have HR:Hid (∀W,Below w.heap.size w W->Rd W (.slice (some ⟨b,o+4,none⟩) 4 (vc-4)) ((p.drop 4).take 4)/\Rd W (.slice (some ⟨b,o+n4,none⟩) 4 (vc-n4)) (p.drop (p.length-4))/\Rd W (.slice (some ⟨b,o,none⟩) n4 vc) (p.take (p.length-4))/\Rd W (.slice (some ⟨b,o,none⟩) 4 vc) (p.take 4)/\Rd W (.slice (some ⟨b,o+8,none⟩) (n4-8) (vc-8)) (daS p)):=by
   intro W hW;have hp':=hp.below hW;have:=hn5.out;refine⟨hp'.cutS (i:=4) (m:=4) Zo Zo rfl,?_,?_,?_,?_⟩
   ·have q:=hp'.cutS (i:=n4) (m:=4) (c':=vc-n4) Zo Zo rfl;rw[List.take_of_length_le (by rw[List.length_drop];omega)]at q;rw[show p.length-4=n4 by omega];exact q
   ·have q:=hp'.cutS (i:=0) (m:=n4) (c':=vc) Zo Zo rfl;rw[show p.length-4=n4 by omega];exact q
   ·have q:=hp'.cutS (i:=0) (m:=4) (c':=vc) Zo Zo rfl;exact q
   ·have q:=hp'.cutS (i:=8) (m:=n4-8) (c':=vc-8) Zo Zo rfl;unfold daS;rw[<-hX.out];exact q
  have hE:=epS_lt p;have wE:IntKind.i64.wrap ((epS p:Nat):Int)=((epS p:Nat):Int):=Zw
  have HE:Hid (nu ((p.drop 4).take 4)=epS p):=rfl;have l1:Hid (((p.drop 4).take 4).length=4):=by show _=_;rw[List.length_take,List.length_drop];omega
  have l2:Hid ((p.drop (p.length-4)).length=4):=by show _=_;rw[List.length_drop];omega
  have l3:Hid ((p.take (p.length-4)).length<=1000000):=by show _<=_;rw[List.length_take];omega
  have l4:Hid ((p.take 4).length=4):=by show _=_;rw[List.length_take];omega
  have HN1:Hid (∀W,Below w.heap.size w W->Calls Tryz.prog 150 #[.slice (some ⟨b,o+n4,none⟩) 4 (vc-n4)] W fun e w'=>e= .returned (.int .u32 ((nu (p.drop (p.length-4)):Nat):Int))/\Below w.heap.size w w'):=fun W hW=>(rnum_any (HR.out W hW).2.1 l2.out).mono fun e w' h=>⟨h.1,Below.step hW h.2⟩
  have HN2:Hid (∀W,Below w.heap.size w W->Calls Tryz.prog 149 #[.slice (some ⟨b,o,none⟩) n4 vc] W fun e w'=>e= .returned (.int .u32 ((more 0 (p.take (p.length-4)):Nat):Int))/\Below w.heap.size w w'):=fun W hW=>(rsum_any (HR.out W hW).2.2.1 l3.out).mono fun e w' h=>⟨h.1,by rw[h.2];exact hW⟩
  have HN3:Hid (∀W,Below w.heap.size w W->Calls Tryz.prog 150 #[.slice (some ⟨b,o,none⟩) 4 vc] W fun e w'=>e= .returned (.int .u32 ((nu (p.take 4):Nat):Int))/\Below w.heap.size w w'):=fun W hW=>(rnum_any (HR.out W hW).2.2.2.1 l4.out).mono fun e w' h=>⟨h.1,Below.step hW h.2⟩
  by_cases s1:nu (p.drop (p.length-4))=more 0 (p.take (p.length-4))
  ·have d1:=bne_same s1
   by_cases s2:nu (p.take 4)=A
   ·have d2:=bne_same s2
    by_cases s3:epS p<=2147483647
    ·have hu:OkUe (A:Int) p:=HI.out.2 ⟨h12,hmx,a0,am,s1,s2,s3⟩;rw[(up_ok hu).1,(up_ok hu).2.1,(up_ok hu).2.2];have s3':=not_gt31 s3;clear HI hu s1 s2 s3
     go_enter Tryz.func106,Tryz.ntmps106
     go_wp2_with fail
     refine(rnum_any (HR.out _ Zf).1 l1.out).mono ?_
     rintro e' w1 ⟨rfl,B1⟩;rw[HE.out];go_wp2;have B1':=B1.drew;clear g0 gw g2' g2'' a0' am' B1 h12 hmx h1 h2 hl hE
     go_region_held3 (fun _=>True) (trivial) (first|(go_at_call_of 150 (Value.slice (some ⟨b,o+n4,none⟩) 4 (vc-n4));refine(HN1.out _ Za).mono ?_;rintro e' w2 ⟨rfl,B2⟩)|(go_at_call_of 149 (Value.slice (some ⟨b,o,none⟩) n4 vc);refine(HN2.out _ Za).mono ?_;rintro e' w3 ⟨rfl,B3⟩)|(go_at_call_of 150 (Value.slice (some ⟨b,o,none⟩) 4 vc);refine(HN3.out _ Za).mono ?_;rintro e' w4 ⟨rfl,B4⟩))
     go_wp2;have R5:=(HR.out _ B4.drew).2.2.2.2;have B5:=B4.drew;clear HR HN1 HN2 HN3 d1 d2 B1' B2 B3 hp
     go_region_held3 (fun _=>True) (trivial) (fail)
     go_wp2
     go_ret3
     exact⟨_,rfl,R5,PartV.cut PZ.out,B5⟩
    ·have s3':=is_gt31 s3;have hn:¬OkUe (A:Int) p:=fun h=>s3 (HI.out.1 h).2.2.2.2.2.2
     rw[(up_not hn).1,(up_not hn).2.1,(up_not hn).2.2];clear HI hn s1 s2 s3
     go_enter Tryz.func106,Tryz.ntmps106
     go_wp2_with fail
     refine(rnum_any (HR.out _ Zf).1 l1.out).mono ?_
     rintro e' w1 ⟨rfl,B1⟩;rw[HE.out];go_wp2;have B1':=B1.drew;clear g0 gw g2' g2'' a0' am' B1 h12 hmx h1 h2 hl hE
     go_region_held3 (fun _=>True) (trivial) (first|(go_at_call_of 150 (Value.slice (some ⟨b,o+n4,none⟩) 4 (vc-n4));refine(HN1.out _ Za).mono ?_;rintro e' w2 ⟨rfl,B2⟩)|(go_at_call_of 149 (Value.slice (some ⟨b,o,none⟩) n4 vc);refine(HN2.out _ Za).mono ?_;rintro e' w3 ⟨rfl,B3⟩)|(go_at_call_of 150 (Value.slice (some ⟨b,o,none⟩) 4 vc);refine(HN3.out _ Za).mono ?_;rintro e' w4 ⟨rfl,B4⟩))
     clear HR;go_wp2
     go_ret3
     exact⟨_,rfl,rd_nil0,PartV.nil _ _ _,B4⟩
   ·have d2:=bne_other s2;have hn:¬OkUe (A:Int) p:=fun h=>s2 (HI.out.1 h).2.2.2.2.2.1
    rw[(up_not hn).1,(up_not hn).2.1,(up_not hn).2.2];clear HI hn s1 s2
    go_enter Tryz.func106,Tryz.ntmps106
    go_wp2_with fail
    refine(rnum_any (HR.out _ Zf).1 l1.out).mono ?_
    rintro e' w1 ⟨rfl,B1⟩;rw[HE.out];go_wp2;have B1':=B1.drew;clear g0 gw g2' g2'' a0' am' B1 h12 hmx h1 h2 hl hE;refine wp_region_held_drew (S:=fun _=>True) Zk trivial (fun hHeld=>?_);refine tkH 0 ?_
    refine tkH 1 ?_
    refine tkH 2 ?_
    refine tkH 4 ?_
    refine tkH 5 ?_
    refine tkH 6 ?_
    refine rnH 3 fun K hK=>?_
    go_simp;refine(HN1.out _ Za).mono ?_
    rintro e' w2 ⟨rfl,B2⟩
    try go_simp
    refine hK.out _ _ trivial (fun hHeld=>?_);clear hK K
    try simp only[List.getElem_toArray,List.getElem_cons_succ,List.getElem_cons_zero,Act.put,List.setIfInBounds_toArray,List.set_cons_zero,List.set_cons_succ]
    refine rnH 7 fun K hK=>?_
    go_simp;refine(HN2.out _ Za).mono ?_
    rintro e' w3 ⟨rfl,B3⟩
    try go_simp
    refine hK.out _ _ trivial (fun hHeld=>?_);clear hK K
    try simp only[List.getElem_toArray,List.getElem_cons_succ,List.getElem_cons_zero,Act.put,List.setIfInBounds_toArray,List.set_cons_zero,List.set_cons_succ]
    refine tkH 8 ?_
    refine tkH 9 ?_
    refine tkH 10 ?_
    refine tkH 11 ?_
    refine tkH 13 ?_
    refine tkH 14 ?_
    refine rnH 12 fun K hK=>?_
    go_simp;refine(HN3.out _ Za).mono ?_
    rintro e' w4 ⟨rfl,B4⟩
    try go_simp
    refine hK.out _ _ trivial (fun hHeld=>?_);clear hK K
    try simp only[List.getElem_toArray,List.getElem_cons_succ,List.getElem_cons_zero,Act.put,List.setIfInBounds_toArray,List.set_cons_zero,List.set_cons_succ]
    refine tkH 15 ?_
    refine tkH 16 ?_
    refine tkH 17 ?_
    refine skH 18 ?_
    refine skH 19 ?_
    refine tkH 20 ?_
    refine wpAnyH_done Zk ?_ _
    try simp only[List.getElem_toArray,List.getElem_cons_succ,List.getElem_cons_zero,Act.put,List.setIfInBounds_toArray,List.set_cons_zero,List.set_cons_succ]
    clear HR;go_wp2
    go_ret3
    exact⟨_,rfl,rd_nil0,PartV.nil _ _ _,B4⟩
  ·have d1:=bne_other s1;have hn:¬OkUe (A:Int) p:=fun h=>s1 (HI.out.1 h).2.2.2.2.1
   rw[(up_not hn).1,(up_not hn).2.1,(up_not hn).2.2];clear HI hn s1
   go_enter Tryz.func106,Tryz.ntmps106
   go_wp2_with fail
   refine(rnum_any (HR.out _ Zf).1 l1.out).mono ?_
   rintro e' w1 ⟨rfl,B1⟩;rw[HE.out];go_wp2;have B1':=B1.drew;clear g0 gw g2' g2'' a0' am' B1 h12 hmx h1 h2 hl hE;refine wp_region_held_drew (S:=fun _=>True) Zk trivial (fun hHeld=>?_);refine tkH 0 ?_
   refine tkH 1 ?_
   refine tkH 2 ?_
   refine tkH 4 ?_
   refine tkH 5 ?_
   refine tkH 6 ?_
   refine rnH 3 fun K hK=>?_
   go_simp;refine(HN1.out _ Za).mono ?_
   rintro e' w2 ⟨rfl,B2⟩
   try go_simp
   refine hK.out _ _ trivial (fun hHeld=>?_);clear hK K
   try simp only[List.getElem_toArray,List.getElem_cons_succ,List.getElem_cons_zero,Act.put,List.setIfInBounds_toArray,List.set_cons_zero,List.set_cons_succ]
   refine rnH 7 fun K hK=>?_
   go_simp;refine(HN2.out _ Za).mono ?_
   rintro e' w3 ⟨rfl,B3⟩
   try go_simp
   refine hK.out _ _ trivial (fun hHeld=>?_);clear hK K
   try simp only[List.getElem_toArray,List.getElem_cons_succ,List.getElem_cons_zero,Act.put,List.setIfInBounds_toArray,List.set_cons_zero,List.set_cons_succ]
   refine tkH 8 ?_
   refine tkH 9 ?_
   refine skH 10 ?_
   refine skH 11 ?_
   refine skH 12 ?_
   refine skH 13 ?_
   refine skH 14 ?_
   refine skH 15 ?_
   refine tkH 16 ?_
   refine tkH 17 ?_
   refine skH 18 ?_
   refine skH 19 ?_
   refine tkH 20 ?_
   refine wpAnyH_done Zk ?_ _
   try simp only[List.getElem_toArray,List.getElem_cons_succ,List.getElem_cons_zero,Act.put,List.setIfInBounds_toArray,List.set_cons_zero,List.set_cons_succ]
   clear HR;go_wp2
   go_ret3
   exact⟨_,rfl,rd_nil0,PartV.nil _ _ _,B3⟩
 ·have hn:¬OkUe a p:=fun h=>hb (by have:=HI.out.1 h;omega)
  rw[(up_not hn).1,(up_not hn).2.1,(up_not hn).2.2];clear HI hn;obtain⟨va,vc,rfl⟩:=hp.form;have gw:IntKind.i64.wrap ((p.length:Int)-4)=(p.length:Int)-4:=Zw
  by_cases h1:(p.length:Int)-4<8
  ·clear hb
   go_enter Tryz.func106,Tryz.ntmps106
   go_wp2
   go_ret3
   exact⟨_,rfl,rd_nil0,PartV.nil _ _ _,Zf⟩
  by_cases h2:(p.length:Int)-4>4104
  ·clear hb
   go_enter Tryz.func106,Tryz.ntmps106
   go_wp2
   go_ret3
   exact⟨_,rfl,rd_nil0,PartV.nil _ _ _,Zf⟩
  by_cases h3:a<0
  ·clear hb
   go_enter Tryz.func106,Tryz.ntmps106
   go_wp2
   go_ret3
   exact⟨_,rfl,rd_nil0,PartV.nil _ _ _,Zf⟩
  have h4:a>2147483647:=Zo
  clear hb
  go_enter Tryz.func106,Tryz.ntmps106
  go_wp2
  go_ret3
  exact⟨_,rfl,rd_nil0,PartV.nil _ _ _,Zf⟩
end Go.Proofs.YtddnfhfangfgeaaGreat.Gf
