/- JOINED: BcC, MpI, VaApp, DkCall, DkMath, DkTurn. -/
import Derived.Lib.SliceRun
import Derived.Maps.OwnSet
import Derived.Maps.Ext
import Derived.Maps.AppendAt
import Derived.Deep.Slices
import Derived.Test.YtclieefpnbdbjaaGreatPome2
set_option maxRecDepth 100000
namespace Go.Proofs.YtclieefpnbdbjaaGreat.Gf
set_option linter.unusedVariables false
set_option linter.unusedSimpArgs false
open Go.RowKit
theorem own_new12(w:World)(e:TypeId):(w.alloc (.cells #[] e)).ownsRow w.heap.size e 1 (.slice (some ⟨w.heap.size,0,none⟩) 0 0) 0 []:=World.ownsRow_made w #[] 0 Zr Zz rfl
theorem bclone_own{p:List UInt8}{w:World}{a:Addr}{c:Nat}(hp:Rd w (.slice (some a) p.length c) p)(hl:p.length<=100000):Calls Tryz.prog 151 #[.slice (some a) p.length c] w fun e w'=>∃v,e= .returned v/\w'.ownsRow w.heap.size 5 1 v p.length (p.map vb)/\Below w.heap.size w w':=by
 obtain⟨i0,hi,hz0,hz1,hz2⟩:=info_parts info_u8;have qT:∀(w:World) (a:Option Addr) (n c n' c':Nat),(binOp .eql 42 (.slice a n c) (.slice none n' c')).run Tryz.prog w= .ok (.bool a.isNone) w:=fun w a n c n' c'=>Lib.run_eql_slice_nil w _ _ a n c n' c' Tryz.underlying42
 have B1:Below w.heap.size w (w.alloc (.cells #[] 5)):=Zf.alloc Zr _;have O1:(w.alloc (.cells #[] 5)).ownsRow w.heap.size 5 1 (.slice (some ⟨w.heap.size,0,none⟩) 0 0) 0 []:=own_new12 w _;have hp1:=hp.below B1;have hsz:w.heap.size<=(w.alloc (.cells #[] 5)).heap.size:=B1.size
 go_enter Tryz.func151,Tryz.ntmps151
 go_wp2_with (at_builtin;go_loud (refine wpList_append_rd _ rfl (.tmp 5) (.tmp 6) 42 rfl w.heap.size 5 i0 Tryz.underlying42 hi hz0 hz1 hz2 (.slice (some ⟨w.heap.size,0,none⟩) 0 0) 0 [] rfl O1 (.slice (some a) p.length c) p rfl hp1 Zo hsz ?_);intro v' w9 hv9 hg9)
 have HB:Hid (Below w.heap.size w w9):=B1.grown hg9 hsz (fun q hq=>by cases hq;exact Zr);have HO:Hid (w9.ownsRow w.heap.size 5 1 v' p.length (p.map vb)):=by
  show w9.ownsRow _ _ _ _ _ _
  rw[Nat.zero_add,List.nil_append]at hv9;exact hv9
 clear hv9 hg9 B1 O1 hp1 hp qT;go_wp2;go_ret;exact⟨v',rfl,HO.out,HB.out⟩
theorem bclone_nil{w:World}:Calls Tryz.prog 151 #[.slice none 0 0] w fun e w'=>e= .returned (.slice none 0 0)/\w'=w:=by
 have qT:∀(w:World) (a:Option Addr) (n c n' c':Nat),(binOp .eql 42 (.slice a n c) (.slice none n' c')).run Tryz.prog w= .ok (.bool a.isNone) w:=fun w a n c n' c'=>Lib.run_eql_slice_nil w _ _ a n c n' c' Tryz.underlying42
 go_enter Tryz.func151,Tryz.ntmps151
 go_wp2;go_ret;exact⟨rfl,rfl⟩
open Go.Maps (Keyed)
open Go.ChangeMaps Go.MapKept
def RV(v:Value):Option (DataW Value×List MemPlace):=some (.held v,[])
theorem RV_inv{v:Value}{d:DataW Value}{ps:List MemPlace}(h:RV v=some (d,ps)):d= .held v:=by
 unfold RV at h;simp at h;exact h.1.symm
def MapI(P:Program)(K:TypeId)(w:World)(b S:Nat)(f:Int->Option Value):Prop:=
 ∃D,w.ownsMap P K RV b S D/\(∀kl,Maps.has D kl=true->∃x:Int,kl= .int .i64 x/\0<=x/\x<(S:Int))/\
  (∀x:Int,(Maps.has D (.int .i64 x)=false/\f x=none)∨∃v,f x=some v/\Maps.has D (.int .i64 x)=true/\∀z,D.atKey (.int .i64 x) z= .held v)
theorem pigeon:∀(S:Nat) (l:List Nat),l.Nodup->(∀x∈l,x<S)->l.length<=S
 |0,l,_,h=>by
  cases l with
  |nil=>exact Zr
  |cons a l=>have:=h a Zs;omega
 |S+1,l,hn,h=>by
  have h1:=pigeon S (l.erase S) (hn.erase S) (fun x hx=>by
   have hx1:=h x (List.mem_of_mem_erase hx);have hx2:x≠S:=fun e=>by
    subst e;exact(List.Nodup.not_mem_erase hn) hx
   omega)
  have h2:=List.length_erase (l:=l) (a:=S)
  split at h2<;>omega
theorem own_tight{P:Program}{K b n:Nat}{w:World}{R:Value->Option (DataW Value×List MemPlace)}{D:DataW Value}(h:w.ownsMap P K R b n D):w.ownsMap P K R b (Maps.size D) D:=by
 obtain⟨es,clock,hb,F,hs,rfl⟩:=h;refine⟨es,clock,hb,F,?_,rfl⟩;simp[Maps.size,length_sorted]
theorem tight_S{P:Program}{K b n S:Nat}{w:World}{D:DataW Value}(law:Keyed P K)(h:w.ownsMap P K RV b n D)(hk:∀kl,Maps.has D kl=true->∃x:Int,kl= .int .i64 x/\0<=x/\x<(S:Int)):w.ownsMap P K RV b S D:=by
 refine(own_tight h).mono ?_
 obtain⟨es,rfl,hp⟩:=h.tidy law;have hin:∀p∈es,∃x:Int,p.1= .int .i64 x/\0<=x/\x<(S:Int):=by
  intro p hp1;refine hk p.1 ?_
  rw[Maps.has_eq,List.any_eq_true];refine⟨p,hp1,WideAt.sameKey_self ?_⟩;obtain⟨es',hD,_,hl⟩:=h.canon law;simp at hD;subst hD;exact hl p hp1
 let g:Lit×DataW Value->Nat:=fun p=>match p.1 with| .int _ x=>x.toNat|_=>0
 have h1:(es.map g).Nodup:=by
  rw[List.Nodup,List.pairwise_map];refine hp.imp_of_mem ?_
  intro a b ha hb hne e;obtain⟨x,hx,hx0,_⟩:=hin a ha;obtain⟨y,hy,hy0,_⟩:=hin b hb;apply hne;have e':x.toNat=y.toNat:=by simpa[g,hx,hy]using e
  rw[hx,hy];congr 1;omega
 have h2:=pigeon S (es.map g) h1 (by
  intro n hn;obtain⟨p,hp1,rfl⟩:=List.mem_map.1 hn;obtain⟨x,hx,hx0,hxS⟩:=hin p hp1;simp only[g,hx];omega)
 rw[List.length_map]at h2;exact h2
theorem MapI.made(P:Program)(K:TypeId)(w:World)(S:Nat):MapI P K (w.alloc (.map #[] 0)) w.heap.size S (fun _=>none):=
 ⟨.map [],(World.ownsMap_made w P K RV).mono Zz,fun kl h=>by simp[Maps.has]at h,fun x=>Or.inl ⟨rfl,rfl⟩⟩
theorem MapI.lt{P:Program}{K b S:Nat}{w:World}{f:Int->Option Value}(h:MapI P K w b S f):b<w.heap.size:=by
 obtain⟨D,h,_⟩:=h;exact h.lt
theorem MapI.of_block{P:Program}{K b S:Nat}{w w':World}{f:Int->Option Value}(h:MapI P K w b S f)(he:w'.heap[b]? =w.heap[b]?):MapI P K w' b S f:=by
 obtain⟨D,⟨es,clock,hb,r⟩,r2⟩:=h;exact⟨D,⟨es,clock,he.trans hb,r⟩,r2⟩
theorem MapI.below{P:Program}{K b S:Nat}{w w':World}{f:Int->Option Value}(h:MapI P K w b S f)(hb:Below w.heap.size w w'):MapI P K w' b S f:=h.of_block (hb.block b h.lt)
theorem MapI.congr{P:Program}{K b S:Nat}{w:World}{f g:Int->Option Value}(h:MapI P K w b S f)(e:∀x,f x=g x):MapI P K w b S g:=by
 have:f=g:=funext e
 subst this;exact h
theorem MapI.look_ok{P:Program}{K b S t e:Nat}{w:World}{f:Int->Option Value}(h:MapI P K w b S f)(law:Keyed P K)(ht:P.underlying t=some (.map K e)){z:Value}(hz:(zeroValue e).run P w= .ok z w){x:Int}(hk:keyOf P K (.int .i64 x)=some (.int .i64 x)):
  (Instr.lookup t (.map (some b)) (.int .i64 x) true).run P w= .ok (.tuple #[(f x).getD z,.bool (f x).isSome]) w:=by
 obtain⟨D,h1,h2,h3⟩:=h;obtain⟨v,ps,hr,hv⟩:=h1.look_ok law ht hz (zd:=.held z) (zp:=[]) rfl hk;rw[hr];have hv':=RV_inv hv
 rcases h3 x with⟨hh,e⟩|⟨u,e,hh,ha⟩
 ·rw[Maps.atKey_of_not_has hh]at hv';simp at hv';rw[e,hh,hv'];rfl
 ·rw[ha]at hv';simp at hv';rw[e,hh,hv'];rfl
theorem MapI.look{P:Program}{K b S t e:Nat}{w:World}{f:Int->Option Value}(h:MapI P K w b S f)(law:Keyed P K)(ht:P.underlying t=some (.map K e)){z:Value}(hz:(zeroValue e).run P w= .ok z w){x:Int}(hk:keyOf P K (.int .i64 x)=some (.int .i64 x)):
  (Instr.lookup t (.map (some b)) (.int .i64 x) false).run P w= .ok ((f x).getD z) w:=by
 obtain⟨D,h1,h2,h3⟩:=h;obtain⟨v,ps,hr,hv⟩:=h1.lookup law ht hz (zd:=.held z) (zp:=[]) rfl hk;rw[hr];have hv':=RV_inv hv
 rcases h3 x with⟨hh,e⟩|⟨u,e,hh,ha⟩
 ·rw[Maps.atKey_of_not_has hh]at hv';simp at hv';rw[e,hv'];rfl
 ·rw[ha]at hv';simp at hv';rw[e,hv'];rfl
def putI(f:Int->Option Value)(x:Int)(v:Value)(y:Int):Option Value:=if y=x then some v else f y
def delI(f:Int->Option Value)(x:Int)(y:Int):Option Value:=if y=x then none else f y
theorem MapI.store{P:Program}{K b S t e:Nat}{w:World}{f:Int->Option Value}(h:MapI P K w b S f)(law:Keyed P K)(ht:P.underlying t=some (.map K e))(hS:S<maxLen){x:Int}(hk:keyOf P K (.int .i64 x)=some (.int .i64 x))(h0:0<=x)(hx:x<(S:Int))(v:Value):
  ∃w',(Instr.mapUpdate t (.map (some b)) (.int .i64 x) v).run P w= .ok () w'/\MapI P K w' b S (putI f x v)/\w.mapTurned w' b:=by
 obtain⟨D,h1,h2,h3⟩:=h;obtain⟨w',hr,ho,hm⟩:=h1.store law ht hS (val:=v) (d:=.held v) (ps:=[]) hk rfl;have hk2:∀kl,Maps.has (D.put (.int .i64 x) (.held v)) kl=true->∃y:Int,kl= .int .i64 y/\0<=y/\y<(S:Int):=by
  intro kl hh
  by_cases e:kl= .int .i64 x
  ·exact⟨x,e,h0,hx⟩
  ·rw[Maps.has_put_other e]at hh;exact h2 kl hh
 refine⟨w',hr,⟨_,tight_S law ho hk2,hk2,fun y=>?_⟩,hm⟩;unfold putI
 by_cases e:y=x
 ·subst e;exact Or.inr ⟨v,if_pos rfl,Maps.has_put_same h1.isMap (show WideAt.IsKeyLit (.int .i64 y)from trivial) _,fun z=>Maps.atKey_put_same h1.isMap (show WideAt.IsKeyLit (.int .i64 y)from trivial) _ z⟩
 ·have hne:Lit.int .i64 y≠.int .i64 x:=fun h=>e (by simpa using h)
  rw[if_neg e,Maps.has_put_other hne]
  rcases h3 y with h|⟨u,a1,a2,a3⟩
  ·exact Or.inl h
  ·exact Or.inr ⟨u,a1,a2,fun z=>by rw[Maps.atKey_put_other hne];exact a3 z⟩
theorem MapI.drop{P:Program}{K b S t e:Nat}{w:World}{f:Int->Option Value}(h:MapI P K w b S f)(law:Keyed P K)(ht:P.underlying t=some (.map K e)){x:Int}(hk:keyOf P K (.int .i64 x)=some (.int .i64 x))(ty:TypeId):
  ∃w',(Builtin.delete_ #[t,K] ty #[.map (some b),.int .i64 x]).run P w= .ok (.tuple #[]) w'/\MapI P K w' b S (delI f x)/\w.mapTurned w' b:=by
 obtain⟨D,h1,h2,h3⟩:=h;obtain⟨w',hr,ho,hm⟩:=h1.drop law ht hk ty;refine⟨w',hr,⟨_,ho,fun kl hh=>?_,fun y=>?_⟩,hm⟩
 ·by_cases e:kl= .int .i64 x
  ·subst e;rw[Maps.has_del_same]at hh;cases hh
  ·rw[Maps.has_del_other e]at hh;exact h2 kl hh
 ·unfold delI
  by_cases e:y=x
  ·subst e;exact Or.inl ⟨Maps.has_del_same,if_pos rfl⟩
  ·have hne:Lit.int .i64 y≠.int .i64 x:=fun h=>e (by simpa using h)
   rw[if_neg e,Maps.has_del_other hne]
   rcases h3 y with h|⟨u,a1,a2,a3⟩
   ·exact Or.inl h
   ·exact Or.inr ⟨u,a1,a2,fun z=>by rw[Maps.atKey_del_other hne];exact a3 z⟩
theorem MapI.clear{P:Program}{K b S t e:Nat}{w:World}{f:Int->Option Value}(h:MapI P K w b S f)(ht:P.underlying t=some (.map K e))(ty:TypeId):
  ∃w',(Builtin.clear_ #[t] ty #[.map (some b)]).run P w= .ok (.tuple #[]) w'/\MapI P K w' b S (fun _=>none)/\w.mapTurned w' b:=by
 obtain⟨D,⟨es,clock,hb,F,hs,rfl⟩,h2,h3⟩:=h;refine⟨setBlock w b (.map #[] clock),?_,⟨.map [],⟨#[],clock,heap_setBlock_same hb _,⟨Zs,stamped_empty _,Zs⟩,Zz,rfl⟩,fun kl h=>by simp[Maps.has]at h,fun x=>Or.inl ⟨rfl,rfl⟩⟩,⟨es,clock,#[],clock,hb,rfl⟩⟩;simp[Builtin.clear_,run_underlying ht,MapKept.run_getObj_map hb,MapKept.run_setObj_map _ hb,Result.andThen,setBlock]
theorem mapTurned_block{w w':World}{b c:Nat}(h:w.mapTurned w' b)(hc:c≠b):w'.heap[c]? =w.heap[c]? :=by
 obtain⟨es,clock,es',clock',hb,rfl⟩:=h;exact heap_setBlock_other hb _ hc
end Go.Proofs.YtclieefpnbdbjaaGreat.Gf
namespace Go.Proofs.YtclieefpnbdbjaaGreat.Gf
set_option linter.unusedVariables false
set_option linter.unusedSimpArgs false
open Go.RowKit
theorem wpList_append_v{P:Program}(w:World){ops:Array Oper}{rest:List Oper}{o:Oper}{a:Act}{Q:Exit->Act->World->Prop}(hgd:o.guard=none)(s x:Operand)(t:TypeId)
  (ho:o.op= .call {callee:=.builtin .append,args:=#[s,x],argTypes:=#[t,t]})
  (base:Nat) (e:TypeId) (i:TypeInfo) (z:Value) (by_:Nat) (ht:P.underlying t=some (.slice e)) (hi:P.info? e=some i) (hz:i.zero=some z) (hsize:i.size=1) (hby:i.bytes=by_) (hzc:z.cells.size=1) (hb24:by_<=24)
  (v:Value) (n:Nat) (xs:List Value) (hs:a.eval s=v) (hown:w.ownsRow base e 1 v n xs) (b c:Nat) (u:Value) (hx:a.eval x= .slice (some ⟨b,0,none⟩) 1 c) (hr:w.cell? ⟨b,0,none⟩=some u) (hu:u.oneCell'=true) (hl:n<=100000) (hbase:base<=w.heap.size)
  (h:∀v' w',w'.ownsRow base e 1 v' (n+1) (xs++[u])->w.grownBy w' v.ownBlock->(v'.ownBlock=v.ownBlock∨v'.ownBlock=some w.heap.size)->wpList P ops Q rest (a.put o.dst v') w'):wpList P ops Q (o::rest) a w:=by
 refine wpList_plain hgd fun K hK=>?_
 have hb6:(n+1)*by_<=140737488355328:=Nat.le_trans (Nat.mul_le_mul (show n+1<=100001 by omega) hb24) Zd;obtain⟨v',w',hrun,h2,h3,_,h5⟩:=run_append_own_at (P:=P) w base t o.type e i z 1 by_ ht hi hz hsize hby hzc Zd v n xs hown ⟨b,0,none⟩ 1 c [u] rfl (by intro j y hj;rw[add_at,Nat.zero_add];rcases j with _|j<;>simp at hj;subst hj;exact hr) (by intro y hy;simp at hy;rw[hy];exact hu) Zl hb6 hbase;unfold Oper.wp execOp;simp only[ho,resolve,invoke,builtin,Sem.run_bind,Sem.run_pure,Result.andThen_ok,List.map_toArray,List.map_cons,List.map_nil,hs,hx,hrun];exact hK _ _ (h v' w' h2 h3 h5)
open Go.ChangeShapes
theorem rdI_row2{w:World}{a:Option Addr}{len cap:Nat}{zs:List Int}
  (h:(a=none/\len=0/\cap=0/\zs=[])∨∃x,a=some x/\len<=cap/\cap<=maxLen/\zs.length=cap/\(∀i,i<zs.length->w.cell? (x.add i)=some (.int .i64 (zs.getD i 0)))/\∀n∈zs,(Lit.int .i64 n).wf=true):
  ∃p:List Int,RdI w (.slice a len cap) p/\∀z∈p,(Lit.int .i64 z).wf=true:=by
 rcases h with⟨rfl,rfl,rfl,rfl⟩|⟨x,rfl,hl,hm,hz,hcell,hwz⟩
 ·exact⟨[],Or.inl ⟨none,0,rfl,rfl⟩,Zs⟩
 ·have hlen:(zs.take len).length=len:=by rw[List.length_take];omega
  refine⟨zs.take len,?_,fun z hz1=>hwz z (List.mem_of_mem_take hz1)⟩
  by_cases h0:len=0
  ·subst h0;exact Or.inl ⟨_,cap,Zs,rfl⟩
  ·obtain⟨b,off,spot⟩:=x;have hc:=hcell 0 Zo;have hspot:spot=none:=by simpa[Addr.add]using World.cell?_spot hc
   subst hspot;have hbw:b<w.heap.size:=by
    have e:w.cell? ⟨b,off,none⟩=some (.int .i64 (zs.getD 0 0)):=by simpa[Addr.add]using hc
    unfold World.cell? at e
    by_cases hb:b<w.heap.size
    ·exact hb
    ·rw[Array.getElem?_eq_none (by show w.heap.size<=b;omega)]at e;cases e
   refine Or.inr ⟨b,off,cap,fun h=>by rw[h]at hlen;simp at hlen;omega,by rw[hlen],by rw[hlen];omega,hbw,fun i hi=>?_⟩;rw[hlen]at hi;have e1:=hcell i Zo;rw[add_at]at e1;rw[e1];simp[List.getD,List.getElem?_take_of_lt hi]
end Go.Proofs.YtclieefpnbdbjaaGreat.Gf
namespace Go.Proofs.YtclieefpnbdbjaaGreat.Gf
set_option linter.unusedVariables false
set_option linter.unusedSimpArgs false
open Go.RowKit
structure DkS where
 s:Nat
 last:Int->Option (List UInt8)
 wait:Int->Option (List UInt8)
 dead:Bool
def noneI:Int->Option (List UInt8):=fun _=>none
def InS(s:Nat)(f:Int->Option (List UInt8)):Prop:=∀x b,f x=some b->0<=x/\x<(s:Int)/\1<=b.length/\b.length<=4108
structure DkS.Ok(d:DkS):Prop where
 s1:1<=d.s
 s2:d.s<=4096
 il:InS d.s d.last
 iw:InS d.s d.wait
 dl:d.dead=true->d.last=noneI
 dw:d.dead=true->d.wait=noneI
def putB(f:Int->Option (List UInt8))(x:Int)(b:List UInt8):Int->Option (List UInt8):=fun y=>if y=x then some b else f y
theorem InS.put{s:Nat}{f:Int->Option (List UInt8)}(h:InS s f){x:Int}{b:List UInt8}(h0:0<=x)(h1:x<(s:Int))(h2:1<=b.length)(h3:b.length<=4108):InS s (putB f x b):=by
 intro y c e;unfold putB at e
 by_cases hy:y=x
 ·rw[if_pos hy]at e;simp at e;subst e hy;exact⟨h0,h1,h2,h3⟩
 ·rw[if_neg hy]at e;exact h y c e
theorem InS.none(s:Nat):InS s noneI:=fun x b e=>by cases e
def newD(s:Nat):DkS:=⟨s,noneI,noneI,false⟩
theorem newD_ok{s:Nat}(h1:1<=s)(h2:s<=4096):(newD s).Ok:=⟨h1,h2,InS.none _,InS.none _,(fun h=>by cases h),(fun h=>by cases h)⟩
def faX(d:DkS)(a:Int):Int:=if d.dead=true then 120 else if 0<=a/\a<(d.s:Int)then 0 else 121
theorem faX_dead{d:DkS}(h:d.dead=true)(a:Int):faX d a=120:=if_pos h
theorem faX_out{d:DkS}(h:d.dead=false){a:Int}(ha:¬(0<=a/\a<(d.s:Int))):faX d a=121:=by unfold faX;rw[if_neg (by rw[h];decide),if_neg ha]
theorem faX_ok{d:DkS}(h:d.dead=false){a:Int}(ha:0<=a/\a<(d.s:Int)):faX d a=0:=by unfold faX;rw[if_neg (by rw[h];decide),if_pos ha]
theorem faX_zero{d:DkS}{a:Int}(h:faX d a=0):d.dead=false/\0<=a/\a<(d.s:Int):=by
 unfold faX at h
 by_cases h1:d.dead=true
 ·rw[if_pos h1]at h;cases h
 ·rw[if_neg h1]at h
  by_cases h2:0<=a/\a<(d.s:Int)
  ·exact⟨by simpa using h1,h2⟩
  ·rw[if_neg h2]at h;cases h
def OkB(b:List UInt8):Prop:=1<=b.length/\b.length<=4108
instance (b:List UInt8):Decidable (OkB b):=inferInstanceAs (Decidable (_/\_))
def wrX(d:DkS)(a:Int)(b:List UInt8):Int:=if faX d a=0 then (if OkB b then 0 else 1)else faX d a
def wrS(d:DkS)(a:Int)(b:List UInt8):DkS:=if faX d a=0/\OkB b then {d with wait:=putB d.wait a b}else d
def atD(d:DkS)(a:Int):Option (List UInt8):=match d.wait a with|some b=>some b|none=>d.last a
def rdB(d:DkS)(a:Int):List UInt8:=if faX d a=0 then (atD d a).getD []else []
def flX(d:DkS):Int:=if d.dead=true then 120 else 0
def overB(f g:Int->Option (List UInt8)):Int->Option (List UInt8):=fun x=>match f x with|some b=>some b|none=>g x
def flS(d:DkS):DkS:=if d.dead=true then d else {d with last:=overB d.wait d.last,wait:=noneI}
def onlyB(f:Int->Option (List UInt8))(keep:List Int):Int->Option (List UInt8):=fun x=>if x∈keep then f x else none
def crS(d:DkS)(keep:List Int):DkS:={d with last:=overB (onlyB d.wait keep) d.last,wait:=noneI}
def faS(d:DkS):DkS:=⟨d.s,noneI,noneI,true⟩
def reS(d:DkS):DkS:=⟨d.s,noneI,noneI,false⟩
def atN(at_:Int)(n:Nat):Nat:=(if at_<0 then (-(at_+1)).toNat else at_.toNat)%n
def chB(b:List UInt8)(at_:Int)(y:UInt8):List UInt8:=b.set (atN at_ b.length) (co b (atN at_ b.length)^^^y)
theorem chB_length(b:List UInt8)(at_:Int)(y:UInt8):(chB b at_ y).length=b.length:=List.length_set
def coX(d:DkS)(a:Int):Int:=if faX d a=0 then (if atD d a=none then 1 else 0)else faX d a
def coS(d:DkS)(a at_:Int)(y:UInt8):DkS:=if faX d a=0 then (match d.wait a with|some b=>{d with wait:=putB d.wait a (chB b at_ y)}|none=>match d.last a with|some b=>{d with last:=putB d.last a (chB b at_ y)}|none=>d)else d
theorem overB_in{s:Nat}{f g:Int->Option (List UInt8)}(hf:InS s f)(hg:InS s g):InS s (overB f g):=by
 intro x b e;unfold overB at e;cases hx:f x with
 |none=>rw[hx]at e;exact hg x b e
 |some c=>rw[hx]at e;simp at e;subst e;exact hf x c hx
theorem onlyB_in{s:Nat}{f:Int->Option (List UInt8)}(hf:InS s f)(keep:List Int):InS s (onlyB f keep):=by
 intro x b e;unfold onlyB at e
 by_cases h:x∈keep
 ·rw[if_pos h]at e;exact hf x b e
 ·rw[if_neg h]at e;cases e
theorem wrS_ok{d:DkS}(h:d.Ok)(a:Int)(b:List UInt8):(wrS d a b).Ok:=by
 unfold wrS
 by_cases hc:faX d a=0/\OkB b
 ·rw[if_pos hc];have h2:=faX_zero hc.1;refine⟨h.s1,h.s2,h.il,h.iw.put h2.2.1 h2.2.2 hc.2.1 hc.2.2,h.dl,fun hd=>?_⟩;have hd':d.dead=true:=hd;rw[h2.1]at hd';cases hd'
 ·rw[if_neg hc];exact h
theorem flS_ok{d:DkS}(h:d.Ok):(flS d).Ok:=by
 unfold flS
 by_cases hc:d.dead=true
 ·rw[if_pos hc];exact h
 ·rw[if_neg hc];exact⟨h.s1,h.s2,overB_in h.iw h.il,InS.none _,fun hd=>absurd hd hc,fun hd=>absurd hd hc⟩
theorem onlyB_none(keep:List Int):onlyB noneI keep=noneI:=by funext x;unfold onlyB noneI;simp
theorem crS_ok{d:DkS}(h:d.Ok)(keep:List Int):(crS d keep).Ok:=
 ⟨h.s1,h.s2,overB_in (onlyB_in h.iw keep) h.il,InS.none _,fun hd=>by
  show overB (onlyB d.wait keep) d.last=noneI
  rw[h.dw hd,h.dl hd,onlyB_none];rfl,fun _=>rfl⟩
theorem faS_ok{d:DkS}(h:d.Ok):(faS d).Ok:=⟨h.s1,h.s2,InS.none _,InS.none _,fun _=>rfl,fun _=>rfl⟩
theorem reS_ok{d:DkS}(h:d.Ok):(reS d).Ok:=⟨h.s1,h.s2,InS.none _,InS.none _,(fun h=>by cases h),(fun h=>by cases h)⟩
theorem coS_ok{d:DkS}(h:d.Ok)(a at_:Int)(y:UInt8):(coS d a at_ y).Ok:=by
 unfold coS
 by_cases hc:faX d a=0
 ·rw[if_pos hc];have h2:=faX_zero hc;have nd:∀{e:DkS},e.dead=d.dead->e.dead=true->False:=fun he ht=>by rw[he,h2.1]at ht;cases ht
  cases hw:d.wait a with
  |some b=>
   have h3:=h.iw a b hw;exact⟨h.s1,h.s2,h.il,h.iw.put h2.2.1 h2.2.2 (by rw[chB_length];exact h3.2.2.1) (by rw[chB_length];exact h3.2.2.2),h.dl,fun hd=>(nd (e:=d) rfl hd).elim⟩
  |none=>
   cases hl:d.last a with
   |some b=>
    have h3:=h.il a b hl;exact⟨h.s1,h.s2,h.il.put h2.2.1 h2.2.2 (by rw[chB_length];exact h3.2.2.1) (by rw[chB_length];exact h3.2.2.2),h.iw,fun hd=>(nd (e:=d) rfl hd).elim,h.dw⟩
   |none=>exact h
 ·rw[if_neg hc];exact h
def heldL(f:Int->Option (List UInt8))(s:Nat):List (Int×List UInt8):=(List.range s).filterMap fun i:Nat=>(f (i:Int)).map fun b=>((i:Int),b)
theorem heldL_none(s:Nat):heldL noneI s=[]:=by unfold heldL noneI;simp
theorem heldL_length(f:Int->Option (List UInt8))(s:Nat):(heldL f s).length<=s:=by
 unfold heldL;have:=List.length_filterMap_le (fun i:Nat=>(f (i:Int)).map fun b=>((i:Int),b)) (List.range s);simpa using this
theorem heldL_succ(f:Int->Option (List UInt8))(s:Nat):heldL f (s+1)=heldL f s++(match f (s:Int)with|some b=>[((s:Int),b)]|none=>[]):=by
 unfold heldL;rw[List.range_succ,List.filterMap_append];congr 1;cases h:f (s:Int)<;>simp[h]
theorem heldL_mem{f:Int->Option (List UInt8)}{s:Nat}{x:Int}{b:List UInt8}:(x,b)∈heldL f s↔0<=x/\x<(s:Int)/\f x=some b:=by
 unfold heldL;rw[List.mem_filterMap];constructor
 ·rintro⟨i,hi,e⟩;rw[List.mem_range]at hi;cases h:f (i:Int)with
  |none=>rw[h]at e;simp at e
  |some c=>
   rw[h]at e;simp at e;obtain⟨rfl,rfl⟩:=e;exact⟨Zo,Zo,h⟩
 ·rintro⟨h0,h1,h2⟩;refine⟨x.toNat,List.mem_range.2 Zo,?_⟩;rw[show((x.toNat:Nat):Int)=x by omega,h2];rfl
structure TurnG(G:Nat->Prop)(w w':World):Prop where
 os:w'.os=w.os
 tape:w'.tape=w.tape
 output:w'.output=w.output
 size:w.heap.size<=w'.heap.size
 block:∀k,k<w.heap.size->¬G k->w'.heap[k]? =w.heap[k]?
theorem TurnG.refl(G:Nat->Prop)(w:World):TurnG G w w:=⟨rfl,rfl,rfl,Zr,fun _ _ _=>rfl⟩
theorem TurnG.trans{G:Nat->Prop}{a b c:World}(h:TurnG G a b)(k:TurnG G b c):TurnG G a c:=
 ⟨k.os.trans h.os,k.tape.trans h.tape,k.output.trans h.output,Nat.le_trans h.size k.size,fun i hi hg=>(k.block i (Zu hi h.size) hg).trans (h.block i hi hg)⟩
theorem Below.turnG{w w':World}(h:Below w.heap.size w w')(G:Nat->Prop):TurnG G w w':=⟨h.os,h.tape,h.output,h.size,fun k hk _=>h.block k hk⟩
theorem Only.turnG{g:Nat}{G:Nat->Prop}{w w':World}(h:Only g w w')(hg:G g):TurnG G w w':=
 ⟨h.os,h.tape,h.output,by rw[h.size];exact Zr,fun k _ hk=>h.block k (fun e=>hk (by rw[e];exact hg))⟩
theorem TurnG.drew{G:Nat->Prop}{a w:World}(h:TurnG G a w):TurnG G a w.drew:=⟨h.os,h.tape,h.output,h.size,h.block⟩
theorem TurnG.below{G:Nat->Prop}{B:Nat}{w w':World}(h:TurnG G w w')(hg:∀g,G g->B<=g)(hB:B<=w.heap.size):Below B w w':=
 ⟨h.os,h.tape,h.output,h.size,fun k hk=>h.block k Zo (fun e=>by have:=hg k e;omega)⟩
theorem TurnG.cell{G:Nat->Prop}{w w':World}(h:TurnG G w w'){p:Addr}(hs:p.block<w.heap.size)(hp:¬G p.block):w'.cell? p=w.cell? p:=Zc (w:=w) (h.block p.block hs hp)
theorem TurnG.frozen{G:Nat->Prop}{w w':World}(h:TurnG G w w'){p:Addr}(hs:p.block<w.heap.size)(hp:¬G p.block):w'.frozen? p=w.frozen? p:=World.frozen?_of_block (w:=w) (h.block p.block hs hp)
structure Grew(G:Nat->Prop)(w:World)(G':Nat->Prop)(w':World):Prop where
 turn:TurnG G w w'
 grow:∀k,G' k->G k∨w.heap.size<=k
theorem Grew.refl(G:Nat->Prop)(w:World):Grew G w G w:=⟨TurnG.refl G w,fun _ h=>Or.inl h⟩
theorem Grew.trans{G G' G'':Nat->Prop}{a b c:World}(h:Grew G a G' b)(k:Grew G' b G'' c):Grew G a G'' c:=
 ⟨⟨k.turn.os.trans h.turn.os,k.turn.tape.trans h.turn.tape,k.turn.output.trans h.turn.output,Nat.le_trans h.turn.size k.turn.size,fun i hi hg=>
  (k.turn.block i (Zu hi h.turn.size) (fun e=>(h.grow i e).elim hg (fun h1=>Zo))).trans (h.turn.block i hi hg)⟩,
  fun i hi=>by
  rcases k.grow i hi with h1|h1
  ·exact h.grow i h1
  ·exact Or.inr (Nat.le_trans h.turn.size h1)⟩
theorem Grew.of_turn{G:Nat->Prop}{w w':World}(h:TurnG G w w'):Grew G w G w':=⟨h,fun _ h=>Or.inl h⟩
theorem Grew.of_below{G:Nat->Prop}{w w':World}(h:Below w.heap.size w w'):Grew G w G w':=Grew.of_turn (Below.turnG h G)
theorem Grew.base{G G':Nat->Prop}{w w':World}{B:Nat}(h:Grew G w G' w')(hg:∀k,G k->B<=k)(hB:B<=w.heap.size):∀k,G' k->B<=k:=fun k hk=>by
 rcases h.grow k hk with h1|h1
 ·exact hg k h1
 ·omega
theorem Grew.below{G G':Nat->Prop}{w w':World}{B:Nat}(h:Grew G w G' w')(hg:∀k,G k->B<=k)(hB:B<=w.heap.size):Below B w w':=h.turn.below hg hB
theorem Grew.off{G G':Nat->Prop}{w w':World}(h:Grew G w G' w'){k:Nat}(hk:k<w.heap.size)(hg:¬G k):¬G' k:=fun e=>by
 rcases h.grow k e with h1|h1
 ·exact hg h1
 ·omega
def ApartG(G:Nat->Prop)(v:Value):Prop:=∀x n c,v= .slice (some x) n c->n=0∨¬G x.block
theorem Rd.turnG{G:Nat->Prop}{w w':World}{v:Value}{p:List UInt8}(h:Rd w v p)(ha:ApartG G v)(ho:TurnG G w w'):Rd w' v p:=by
 rcases h with h|⟨b,off,cap,h1,h2,h3,h4,h5,h6⟩
 ·exact Or.inl h
 ·have hb:¬G b:=by
   rcases ha _ _ _ h2 with e|e
   ·exact absurd (List.length_eq_zero_iff.1 e) h1
   ·exact e
  exact Or.inr ⟨b,off,cap,h1,h2,h3,h4,Zu h5 ho.size,fun i hi=>(ho.cell (p:=⟨b,off+i,none⟩) h5 hb).trans (h6 i hi)⟩
theorem Rd.lay{w:World}{v:Value}{p:List UInt8}(h:Rd w v p){x:Addr}{n c:Nat}(e:v= .slice (some x) n c):n=0∨x.block<w.heap.size:=by
 rcases h with⟨a,c',_,e2,_⟩|⟨b,off,cap,h1,h2,h3,h4,h5,h6⟩
 ·subst e2;simp at e;exact Or.inl e.2.1.symm
 ·subst h2;simp at e;obtain⟨rfl,rfl,rfl⟩:=e;exact Or.inr h5
theorem ApartG.grew{G G':Nat->Prop}{w w':World}{v:Value}{p:List UInt8}(ha:ApartG G v)(h:Rd w v p)(g:Grew G w G' w'):ApartG G' v:=by
 intro x n c e
 rcases ha x n c e with h1|h1
 ·exact Or.inl h1
 ·rcases h.lay e with h2|h2
  ·exact Or.inl h2
  ·exact Or.inr (g.off h2 h1)
theorem Rd.grew{G G':Nat->Prop}{w w':World}{v:Value}{p:List UInt8}(h:Rd w v p)(ha:ApartG G v)(g:Grew G w G' w'):Rd w' v p:=h.turnG ha g.turn
theorem Rd.apartG{w:World}{v:Value}{p:List UInt8}{G:Nat->Prop}(h:Rd w v p)(hg:∀g,G g->w.heap.size<=g):ApartG G v:=by
 intro x n c e
 rcases h.lay e with h2|h2
 ·exact Or.inl h2
 ·exact Or.inr (fun h=>by have:=hg _ h;omega)
theorem ApartG.own{w:World}{base e n:Nat}{v:Value}{xs:List Value}{G:Nat->Prop}(h:w.ownsRow base e 1 v n xs)(hg:∀g,G g->g<base):ApartG G v:=by
 intro x m c ev;obtain⟨_,⟨hv,hn⟩|⟨g,cap,cur,hv,hgb,_⟩⟩:=h
 ·rw[hv]at ev;simp at ev
 ·rw[hv]at ev;simp at ev;obtain⟨rfl,_,_⟩:=ev;exact Or.inr (fun h=>by have:=hg g h;omega)
theorem ApartG.nil(G:Nat->Prop)(c:Nat)(a:Option Addr):ApartG G (.slice a 0 c):=fun x n c' e=>by simp at e;exact Or.inl e.2.1.symm
theorem owns_block{w w':World}{base e size n:Nat}{v:Value}{xs:List Value}(h:w.ownsRow base e size v n xs)(hb:∀g,v.ownBlock=some g->w'.heap[g]? =w.heap[g]?):w'.ownsRow base e size v n xs:=by
 obtain⟨h0,h|⟨g,cap,cur,hv,hg,hh,r⟩⟩:=h
 ·exact⟨h0,Or.inl h⟩
 ·refine⟨h0,Or.inr ⟨g,cap,cur,hv,hg,?_,r⟩⟩;rw[hb g (by rw[hv];rfl)];exact hh
theorem owns_at{w:World}{base e size n b o c:Nat}{xs:List Value}(h:w.ownsRow base e size (.slice (some ⟨b,o,none⟩) n c) n xs):base<=b/\b<w.heap.size:=by
 obtain⟨h0,h|⟨g,cap,cur,hv,hg,hh,r⟩⟩:=h
 ·simp at h
 ·simp at hv;obtain⟨⟨rfl,_⟩,_⟩:=hv;exact⟨hg,(Array.getElem?_eq_some_iff.1 hh).1⟩
end Go.Proofs.YtclieefpnbdbjaaGreat.Gf
