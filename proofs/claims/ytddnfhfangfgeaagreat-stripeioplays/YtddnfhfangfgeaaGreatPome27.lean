/- JOINED: VsR, StSp, StMath, StHeld, StWr, StHurt, StLM, StCA. -/
import Derived.Test.YtddnfhfangfgeaaGreatPome26
import Derived.Test.YtddnfhfangfgeaaGreatPome14
import Derived.Test.YtddnfhfangfgeaaGreatPome23
set_option maxHeartbeats 1000000
set_option maxRecDepth 100000
namespace Go.Proofs.YtddnfhfangfgeaaGreat.Gf
set_option linter.unusedVariables false
set_option linter.unusedSimpArgs false
open Go.RowKit
structure Vs(w:World)(base T:Nat)(v:Value)(L:List (List UInt8))(vals:List Value):Prop where
 row:w.ownsRow base T 1 v L.length vals
 each:∀(i:Nat) (x:Value),vals[i]? =some x->Rd w x (ro L i)
 ap:∀(i:Nat) (x:Value),vals[i]? =some x->∀g,v.ownBlock=some g->Apart g x
section
variable {w w2:World} {base T:Nat} {v v' x:Value} {L:List (List UInt8)} {vals:List Value} {p:List UInt8}
theorem Vs.nil(w:World)(base T:Nat):Vs w base T (.slice none 0 0) [] []:=⟨World.ownsRow_nil _ _ _ _,fun i x h=>by simp at h,fun i x h=>by simp at h⟩
theorem Vs.below(h:Vs w base T v L vals)(hb:Below w.heap.size w w2):Vs w2 base T v L vals:=⟨owns_later h.row hb,fun i x hx=>(h.each i x hx).below hb,h.ap⟩
theorem Vs.len(h:Vs w base T v L vals):vals.length=L.length:=by have:=h.row.1;omega
theorem Vs.form(h:Vs w base T v L vals):∃a c,v= .slice a L.length c:=by
 obtain⟨_,⟨hv,hn⟩|⟨g,cap,cur,hv,_⟩⟩:=h.row
 ·rw[hn];exact⟨_,_,hv⟩
 ·exact⟨_,_,hv⟩
theorem Vs.rs(h:Vs w base T v L vals):Rs w v L:=by
 have hlen:=h.len;have hv':=h.row;obtain⟨_,⟨e,hn⟩|⟨g,cap,cur,e,hg,hh,hc,hm,hs,ht⟩⟩:=h.row
 ·subst e
  have:L=[]:=List.length_eq_zero_iff.1 hn
  subst this;exact rs_none
 ·subst e;refine⟨some ⟨g,0,none⟩,cap,rfl,hc,hm,nofun,fun i hi=>?_⟩;have hx:vals[i]? =some vals[i]:=List.getElem?_eq_getElem Zo
  refine⟨g,0,vals[i],rfl,(Array.getElem?_eq_some_iff.1 hh).1,?_,h.each i _ hx⟩;rw[Nat.zero_add,World.ownsRow.cellAt hv' i Zo,hx]
theorem Rd.grownV{y:Value}{q:List UInt8}{r:Option Nat}(h:Rd w y q)(g:w.grownBy w2 r)(ha:∀k,r=some k->Apart k y):Rd w2 y q:=by
 cases r with
 |none=>exact h.below (Zf.grown g Zr (fun k h=>by cases h))
 |some k=>exact h.grown g (ha k rfl)
theorem Vs.push(h:Vs w base T v L vals)(hx:Rd w x p)(hxa:∀g,v.ownBlock=some g->Apart g x)(hr:w2.ownsRow base T 1 v' (L.length+1) (vals++[x]))(g:w.grownBy w2 v.ownBlock)(e:v'.ownBlock=v.ownBlock∨v'.ownBlock=some w.heap.size):Vs w2 base T v' (L++[p]) (vals++[x]):=by
 have hlen:=h.len;have at_end:∀(i:Nat) (y:Value),(vals++[x])[i]? =some y->(vals[i]? =some y/\i<vals.length)∨(i=vals.length/\y=x):=fun i y hy=>by
  by_cases hi:i<vals.length
  ·rw[List.getElem?_append_left hi]at hy;exact Or.inl ⟨hy,hi⟩
  ·rw[List.getElem?_append_right Zo]at hy
   have:i-vals.length=0:=by
    rcases Nat.eq_zero_or_pos (i-vals.length)with e|e
    ·exact e
    ·rw[List.getElem?_eq_none Zm]at hy;cases hy
   rw[this]at hy;simp at hy;exact Or.inr ⟨Zo,hy.symm⟩
 have far:∀y q,Rd w y q->(∀k,v.ownBlock=some k->Apart k y)->∀k,v'.ownBlock=some k->Apart k y:=fun y q hy ha k hk=>by
  rcases e with e|e
  ·rw[e]at hk;exact ha k hk
  ·rw[e]at hk;simp at hk;exact hy.apart Zo
 refine⟨by rw[List.length_append];exact hr,fun i y hy=>?_,fun i y hy=>?_⟩
 ·rcases at_end i y hy with⟨e1,hi⟩|⟨rfl,rfl⟩
  ·rw[ro_append_left Zo];exact(h.each i y e1).grownV g (h.ap i y e1)
  ·rw[ro_append_right Zo,hlen,Nat.sub_self];exact hx.grownV g hxa
 ·rcases at_end i y hy with⟨e1,hi⟩|⟨rfl,rfl⟩
  ·exact far y _ (h.each i y e1) (h.ap i y e1)
  ·exact far y _ hx hxa
end
def cellsP(pa pf:Option Addr)(g:GeoS)(st ep:Int):Array Value:=#[.pointer pa,.pointer pf,.int .i64 g.k,.int .i64 g.m,.int .i64 g.z,.int .i64 g.s,.int .i64 g.t,.int .i64 g.o,.int .i64 st,.int .i64 ep]
def aggP(pa pf:Option Addr)(g:GeoS)(st ep:Int):Value:=.agg (cellsP pa pf g st ep)
structure SpotAt(w:World)(b:Nat)(pa pf:Option Addr)(g:GeoS)(st ep:Int):Prop where
 c0:w.cell? ⟨b,0,none⟩=some (.pointer pa)
 c1:w.cell? ⟨b,1,none⟩=some (.pointer pf)
 c2:w.cell? ⟨b,2,none⟩=some (.int .i64 g.k)
 c3:w.cell? ⟨b,3,none⟩=some (.int .i64 g.m)
 c4:w.cell? ⟨b,4,none⟩=some (.int .i64 g.z)
 c5:w.cell? ⟨b,5,none⟩=some (.int .i64 g.s)
 c6:w.cell? ⟨b,6,none⟩=some (.int .i64 g.t)
 c7:w.cell? ⟨b,7,none⟩=some (.int .i64 g.o)
 c8:w.cell? ⟨b,8,none⟩=some (.int .i64 st)
 c9:w.cell? ⟨b,9,none⟩=some (.int .i64 ep)
section
variable {w w':World} {b:Nat} {pa pf:Option Addr} {g:GeoS} {st ep:Int}
theorem SpotAt.keep(h:SpotAt w b pa pf g st ep)(hc:∀j,w'.cell? ⟨b,j,none⟩=w.cell? ⟨b,j,none⟩):SpotAt w' b pa pf g st ep:=
 ⟨(hc 0).trans h.c0,(hc 1).trans h.c1,(hc 2).trans h.c2,(hc 3).trans h.c3,(hc 4).trans h.c4,(hc 5).trans h.c5,(hc 6).trans h.c6,(hc 7).trans h.c7,(hc 8).trans h.c8,(hc 9).trans h.c9⟩
theorem SpotAt.lt(h:SpotAt w b pa pf g st ep):b<w.heap.size:=World.block_lt_of_cell? w ⟨b,0,none⟩ h.c0
theorem SpotAt.below(h:SpotAt w b pa pf g st ep){B:Nat}(hb:b<B)(hw:Below B w w'):SpotAt w' b pa pf g st ep:=h.keep fun j=>hw.cell (p:=⟨b,j,none⟩) hb
theorem SpotAt.turn{G:Nat->Prop}(h:SpotAt w b pa pf g st ep)(hg:¬G b)(t:TurnG G w w'):SpotAt w' b pa pf g st ep:=h.keep fun j=>t.cell (p:=⟨b,j,none⟩) h.lt hg
theorem SpotAt.all(h:SpotAt w b pa pf g st ep):w.cell? ⟨b,0,none⟩=some (.pointer pa)/\w.cell? ⟨b,1,none⟩=some (.pointer pf)/\w.cell? ⟨b,2,none⟩=some (.int .i64 g.k)/\w.cell? ⟨b,3,none⟩=some (.int .i64 g.m)/\w.cell? ⟨b,4,none⟩=some (.int .i64 g.z)/\w.cell? ⟨b,5,none⟩=some (.int .i64 g.s)/\w.cell? ⟨b,6,none⟩=some (.int .i64 g.t)/\w.cell? ⟨b,7,none⟩=some (.int .i64 g.o)/\w.cell? ⟨b,8,none⟩=some (.int .i64 st)/\w.cell? ⟨b,9,none⟩=some (.int .i64 ep):=⟨h.c0,h.c1,h.c2,h.c3,h.c4,h.c5,h.c6,h.c7,h.c8,h.c9⟩
theorem spot_new(w:World)(pa pf:Option Addr)(g:GeoS)(st ep:Int)(e:Nat):SpotAt (w.alloc (.cells (cellsP pa pf g st ep) e)) w.heap.size pa pf g st ep:=by
 have cc:∀j,(w.alloc (.cells (cellsP pa pf g st ep) e)).cell? ⟨w.heap.size,j,none⟩=(cellsP pa pf g st ep)[j]? :=fun j=>World.cell?_alloc_new _ _ _ _
 exact⟨(cc 0).trans rfl,(cc 1).trans rfl,(cc 2).trans rfl,(cc 3).trans rfl,(cc 4).trans rfl,(cc 5).trans rfl,(cc 6).trans rfl,(cc 7).trans rfl,(cc 8).trans rfl,(cc 9).trans rfl⟩
theorem spot_laid(w:World)(pa pf:Option Addr)(g:GeoS)(st ep:Int)(e:Nat):∀W,Below (w.alloc (.cells (cellsP pa pf g st ep) e)).heap.size (w.alloc (.cells (cellsP pa pf g st ep) e)) W->SpotAt W w.heap.size pa pf g st ep/\Below w.heap.size w W:=fun W hW=>
 ⟨(spot_new w pa pf g st ep e).below Zs hW,(belL w _).trans (hW.mono Zs)⟩
theorem FieldAt.turnG{G:Nat->Prop}{fb:Nat}(h:FieldAt w fb)(hg:¬G fb)(t:TurnG G w w'):FieldAt w' fb:=
 ⟨fun i hi=>(t.cell (p:=⟨fb,i,none⟩) h.lt hg).trans (h.powers i hi),fun i hi=>(t.cell (p:=⟨fb,255+i,none⟩) h.lt hg).trans (h.places i hi),Zu h.lt t.size⟩
theorem FieldAt.belowF{fb:Nat}(h:FieldAt w fb)(t:Below w.heap.size w w'):FieldAt w' fb:=h.turnG (G:=fun _=>False) (fun e=>e) (Below.turnG t _)
end
theorem sh_same{k m:Int}{hs:List Bool}{L M:List (List UInt8)}(hl:L.length=M.length)(h:∀i,hb hs i=true->ro L i=ro M i):shX k m hs L=shX k m hs M/\shR k m hs L=shR k m hs M/\shP k m hs L=shP k m hs M:=by
 have ea:∀t,atF hs L t=atF hs M t:=fun t=>by
  funext i;unfold atF;cases e:hb hs i
  ·rfl
  ·rw[h i e]
 have ew:∀n t,wdAt hs L n t=wdAt hs M n t:=fun n t=>by unfold wdAt;rw[ea t]
 have ex:∀k m t,pX k m hs L t=pX k m hs M t:=fun k m t=>by unfold pX;rw[ew]
 have er:∀k m t,pR k m hs L t=pR k m hs M t:=fun k m t=>by unfold pR;rw[ew]
 have ep:∀k m t,pP k m hs L t=pP k m hs M t:=fun k m t=>by unfold pP;rw[ew]
 have eo:oneX hs L=oneX hs M:=by
  classical
  by_cases q:EvenH hs M/\∃i,hb hs i=true
  ·obtain⟨i,hi⟩:=q.2;rw[oneX_ok (n:=(ro M i).length) q.2 (fun j hj=>by rw[h j hj];exact q.1 j i hj hi),oneX_ok (n:=(ro M i).length) q.2 (fun j hj=>q.1 j i hj hi)]
  ·have q2:¬(EvenH hs L/\∃i,hb hs i=true):=fun e=>q ⟨fun i j hi hj=>by rw[<-h i hi,<-h j hj];exact e.1 i j hi hj,e.2⟩
   unfold oneX;rw[if_neg q,if_neg q2]
 have eh:∀k m r,hurtP k m hs L r=hurtP k m hs M r:=fun k m r=>by
  induction r with
  |zero=>rfl
  |succ r ih=>funext i;show mrkF (hurtP k m hs L r) _ i=mrkF (hurtP k m hs M r) _ i;rw[ih,ep]
 have ew2:∀k m r,rowsP k m hs L r=rowsP k m hs M r:=fun k m r=>by
  unfold rowsP;exact mkL_congr fun i _=>by rw[show(fun t=>co (pR k m hs L t) i)=(fun t=>co (pR k m hs M t) i)from funext fun t=>by rw[er]]
 have e0:shX k m hs L=shX k m hs M:=by
  unfold shX;rw[hl,eo];simp only[ex]
 exact⟨e0,by unfold shR;rw[e0,eo,ew2],by unfold shP;rw[e0,eo,eh]⟩
theorem hb_nil(i:Nat):hb [] i=false:=hb_ge Zz
theorem sh_back{k m n:Nat}{D M:List (List UInt8)}{hs:List Bool}(h1:1<=k)(h2:k+m<=256)(hD:D.length=k)(hE:Even D)(hn:(ro D 0).length=n)(hhs:hs.length=k+m)(hM:M.length=k+m)(hr:∀i,hb hs i=true->ro M i=ro (encL m k (parF k) D) i)(hf:cnt (fun i=> !hb hs i) (k+m)<=m):
  shX k m hs M=0/\shR k m hs M=encL m k (parF k) D/\shP k m hs M=[]:=by
 have hw:∀i,wrSt hs [] n i=false:=fun i=>by unfold wrSt;rw[hb_nil];simp
 obtain⟨s1,s2,s3⟩:=stripes10 (bd:=[]) (y:=1) h1 h2 hD hE hn hhs Zd Zo (by rw[cnt_none fun i _=>hw i];omega);have e:=@sh_same (k:Int) (m:Int) hs M (mkL (k+m) (mdS (encL m k (parF k) D) hs [] 1 n)) (by rw[hM,mkL_length]) (fun i hi=>by
  have hi2:i<k+m:=by rw[<-hhs];exact hb_in hi
  rw[ro_mkL hi2,hr i hi];unfold mdS;rw[if_neg (by rw[hi];decide),if_neg (by rw[hb_nil];simp)])
 exact⟨e.1.trans s1,e.2.1.trans s2,(e.2.2.trans s3).trans (plc_none fun i _=>hw i)⟩
theorem sh_lost{k m n:Nat}{M:List (List UInt8)}{hs:List Bool}(h1:1<=k)(h2:k+m<=256)(hn:1<=n)(hhs:hs.length=k+m)(hM:M.length=k+m)(hr:∀i,hb hs i=true->(ro M i).length=n)(hf:m<cnt (fun i=> !hb hs i) (k+m)):shX k m hs M≠0:=by
 have okc:OkC (k:Int) (m:Int):=⟨Zo,Zo,Zo⟩
 by_cases q:∃i,hb hs i=true
 ·have h3:=oneX_ok q hr;have hx:pX k m hs M 0=100:=by
   unfold pX;refine(many10 h1 h2 (wdAt_length _ _ _ _) (by rw[notM_length];exact hhs) ?_).1;rw[cnt_congr (q:=fun i=> !hb hs i) fun i hi=>notM_at Zo];exact hf
  rw[(sh_many okc hhs hM h3 (t:=0) Zo (by rw[hx];decide)).1];decide
 ·rw[(sh_shard okc (fun e=>e.2.2 (oneX_none q))).1];decide
def OkT(g:GeoS)(st ep:Int):Prop:=okG g/\0<=st/\st<g.s/\0<=ep/\ep<=2147483647
instance (g:GeoS)(st ep:Int):Decidable (OkT g st ep):=inferInstanceAs (Decidable (_/\_/\_/\_/\_))
def ckT(g:GeoS)(st ep:Int):Int:=if okG g then (if OkT g st ep then 0 else 1)else 50
theorem ckT_ok{g:GeoS}{st ep:Int}(h:OkT g st ep):ckT g st ep=0:=by unfold ckT;rw[if_pos h.1,if_pos h]
theorem ckT_geo{g:GeoS}{st ep:Int}(h:¬okG g):ckT g st ep=50:=if_neg h
theorem ckT_arg{g:GeoS}{st ep:Int}(h:okG g)(h2:¬OkT g st ep):ckT g st ep=1:=by unfold ckT;rw[if_pos h,if_neg h2]
theorem ckT_not{g:GeoS}{st ep:Int}(h:¬OkT g st ep):ckT g st ep≠0:=by
 unfold ckT;rw[if_neg h]
 split<;>decide
def nT(g:GeoS):Nat:=g.k.toNat+g.m.toNat
theorem okG_nat{g:GeoS}(h:okG g):((g.k.toNat:Nat):Int)=g.k/\((g.m.toNat:Nat):Int)=g.m/\((g.z.toNat:Nat):Int)=g.z/\1<=g.k.toNat/\nT g<=32/\1<=g.z.toNat/\g.z.toNat<=4096/\((nT g:Nat):Int)=g.k+g.m:=by
 obtain⟨h1,h2,h3,h4,h5,_⟩:=h;unfold nT;refine⟨Zo,Zo,Zo,Zo,Zo,Zo,Zo,Zo⟩
theorem nT_pos{g:GeoS}(h:okG g):1<=nT g:=by have:=(okG_nat h).2.2.2.1;unfold nT;omega
theorem okG_c{g:GeoS}(h:okG g):OkC g.k g.m:=⟨h.1,h.2.1,by have:=h.2.2.1;omega⟩
def parT(g:GeoS)(D:List UInt8):List (List UInt8):=mkL g.k.toNat (fun i=>(D.drop (i*g.z.toNat)).take g.z.toNat)
def shT(g:GeoS)(D:List UInt8):List (List UInt8):=encL g.m.toNat g.k.toNat (parF g.k.toNat) (parT g D)
def LenT(g:GeoS)(D:List UInt8):Prop:=(D.length:Int)=g.k*g.z
instance (g:GeoS)(D:List UInt8):Decidable (LenT g D):=inferInstanceAs (Decidable (_=_))
section
variable {g:GeoS} {D:List UInt8}
theorem LenT.nat(h:LenT g D)(hg:okG g):D.length=g.k.toNat*g.z.toNat:=by
 obtain⟨e1,e2,e3,_⟩:=okG_nat hg
 have:((D.length:Nat):Int)=((g.k.toNat*g.z.toNat:Nat):Int):=by rw[h,Int.natCast_mul,e1,e3]
 exact Int.ofNat.inj this
theorem parT_length:(parT g D).length=g.k.toNat:=mkL_length _ _
theorem parT_row(h:LenT g D)(hg:okG g){i:Nat}(hi:i<g.k.toNat):(ro (parT g D) i).length=g.z.toNat:=by
 unfold parT;rw[ro_mkL hi,List.length_take,List.length_drop,h.nat hg]
 have:(i+1)*g.z.toNat<=g.k.toNat*g.z.toNat:=Nat.mul_le_mul_right _ hi
 rw[Nat.add_mul]at this;omega
theorem parT_even(h:LenT g D)(hg:okG g):Even (parT g D):=fun i hi=>by
 rw[parT_length]at hi;rw[parT_row h hg hi,parT_row h hg (by have:=(okG_nat hg).2.2.2.1;omega)]
theorem parT_first(h:LenT g D)(hg:okG g):(ro (parT g D) 0).length=g.z.toNat:=parT_row h hg (by have:=(okG_nat hg).2.2.2.1;omega)
theorem shT_length:(shT g D).length=nT g:=by unfold shT;rw[encL_length,parT_length];rfl
theorem shT_row(h:LenT g D)(hg:okG g){i:Nat}(hi:i<nT g):(ro (shT g D) i).length=g.z.toNat:=by
 unfold shT;rw[enc_len (parT_even h hg) (by rw[parT_length];exact hi),parT_first h hg]
theorem parts_join(n z:Nat):∀(D:List UInt8),D.length=n*z->(mkL n (fun i=>(D.drop (i*z)).take z)).flatten=D:=by
 induction n with
 |zero=>
  intro D h;have e:D=[]:=List.length_eq_zero_iff.1 (by rw[h,Nat.zero_mul]);subst e;rfl
 |succ n ih=>
  intro D h;have e:mkL (n+1) (fun i=>(D.drop (i*z)).take z)=D.take z::mkL n (fun i=>((D.drop z).drop (i*z)).take z):=by
   unfold mkL;rw[List.range_succ_eq_map,List.map_cons,List.map_map];refine congr (congrArg _ Zs) ?_
   refine List.map_congr_left fun i _=>?_
   show(D.drop ((i+1)*z)).take z=_
   rw[List.drop_drop,Nat.add_mul,Nat.one_mul,Nat.add_comm]
  rw[e,List.flatten_cons,ih (D.drop z) (by rw[List.length_drop,h,Nat.add_mul];omega),List.take_append_drop]
theorem shT_data(h:LenT g D)(hg:okG g):((shT g D).take g.k.toNat).flatten=D:=by
 unfold shT encL;rw[List.take_append_of_le_length (by rw[parT_length];exact Zr),List.take_of_length_le (by rw[parT_length];exact Zr)];exact parts_join _ _ _ (h.nat hg)
theorem encR_parT(h:LenT g D)(hg:okG g):encX g.k g.m (parT g D)=0/\encR g.k g.m (parT g D)=shT g D:=by
 obtain⟨e1,e2,e3,_⟩:=okG_nat hg;have:=encX_ok (k:=g.k.toNat) (m:=g.m.toNat) (L:=parT g D) (by rw[e1,e2];exact okG_c hg) (by rw[parT_length]) (parT_even h hg);rw[e1,e2]at this;exact this
end
def pkT(g:GeoS)(st ep:Int)(b:List UInt8):List UInt8:=pkS (stG g st).toNat ep.toNat b
def puX(a:ArS)(g:GeoS)(st ep:Int)(sh:Nat)(b:List UInt8):Int:=wrAX a (diG g st (sh:Int)) (stG g st) (pkT g st ep b)
def puS(a:ArS)(g:GeoS)(st ep:Int)(sh:Nat)(b:List UInt8):ArS:=wrAS a (diG g st (sh:Int)) (stG g st) (pkT g st ep b)
def psT(a:ArS)(g:GeoS)(st ep:Int)(R:List (List UInt8))(B:List Nat):Nat->ArS
 |0=>a
 |i+1=>puS (psT a g st ep R B i) g st ep (B.getD i 0) (ro R (B.getD i 0))
def pnT(a:ArS)(g:GeoS)(st ep:Int)(R:List (List UInt8))(B:List Nat):Nat->Nat
 |0=>0
 |i+1=>pnT a g st ep R B i+(if puX (psT a g st ep R B i) g st ep (B.getD i 0) (ro R (B.getD i 0))=0 then 1 else 0)
def pcT(a:ArS)(g:GeoS)(st ep:Int)(R:List (List UInt8))(B:List Nat):Bool:=decide (B≠[])&&(psT a g st ep R B (B.length-1)).off
def swX(a:ArS)(g:GeoS)(st ep:Int)(D:List UInt8):Int:=if OkT g st ep then (if LenT g D then (if pcT a g st ep (shT g D) (List.range (nT g))=true then 130 else 0)else 1)else ckT g st ep
def swS(a:ArS)(g:GeoS)(st ep:Int)(D:List UInt8):ArS:=if OkT g st ep/\LenT g D then psT a g st ep (shT g D) (List.range (nT g)) (nT g)else a
def rbT(a:ArS)(g:GeoS)(st:Int)(i:Nat):List UInt8:=rdAB a (diG g st (i:Int)) (stG g st)
def hsF(a:ArS)(g:GeoS)(st ep:Int)(i:Nat):Bool:=decide (upX (stG g st) (rbT a g st i)=0/\((upN (stG g st) (rbT a g st i):Nat):Int)=ep/\(((upD (stG g st) (rbT a g st i)).length:Nat):Int)=g.z)
def hsT(a:ArS)(g:GeoS)(st ep:Int):List Bool:=(List.range (nT g)).map (hsF a g st ep)
def dsT(a:ArS)(g:GeoS)(st:Int):List (List UInt8):=mkL (nT g) (fun i=>upD (stG g st) (rbT a g st i))
noncomputable def alX(a:ArS)(g:GeoS)(st ep:Int):Int:=if a.off=true then 130 else if shX g.k g.m (hsT a g st ep) (dsT a g st)=0 then 0 else 150
noncomputable def alR(a:ArS)(g:GeoS)(st ep:Int):List (List UInt8):=shR g.k g.m (hsT a g st ep) (dsT a g st)
noncomputable def alP(a:ArS)(g:GeoS)(st ep:Int):List Nat:=shP g.k g.m (hsT a g st ep) (dsT a g st)
def lvT(a:ArS)(d:Int):Bool:=decide (thA a d)&& !(diA a d).dead
noncomputable def bdF(a:ArS)(g:GeoS)(st ep:Int)(i:Nat):Bool:=(!hsF a g st ep i||decide (i∈alP a g st ep))&&lvT a (diG g st (i:Int))
noncomputable def bdT(a:ArS)(g:GeoS)(st ep:Int):List Nat:=plc (bdF a g st ep) (nT g)
noncomputable def rtX(a:ArS)(g:GeoS)(st ep:Int):Int:=if OkT g st ep then alX a g st ep else ckT g st ep
open Classical in
noncomputable def rtD(a:ArS)(g:GeoS)(st ep:Int):List UInt8:=if rtX a g st ep=0 then ((alR a g st ep).take g.k.toNat).flatten else []
open Classical in
noncomputable def rtB(a:ArS)(g:GeoS)(st ep:Int):List Nat:=if rtX a g st ep=0 then bdT a g st ep else []
open Classical in
noncomputable def fxX(a:ArS)(g:GeoS)(st ep:Int):Int:=if rtX a g st ep=0 then (if pcT a g st ep (alR a g st ep) (bdT a g st ep)=true then 130 else 0)else rtX a g st ep
open Classical in
noncomputable def fxN(a:ArS)(g:GeoS)(st ep:Int):Nat:=if fxX a g st ep=0 then pnT a g st ep (alR a g st ep) (bdT a g st ep) (bdT a g st ep).length else 0
open Classical in
noncomputable def fxS(a:ArS)(g:GeoS)(st ep:Int):ArS:=if rtX a g st ep=0 then psT a g st ep (alR a g st ep) (bdT a g st ep) (bdT a g st ep).length else a
section
variable {a:ArS} {g:GeoS} {st ep:Int}
theorem faX_in(d:DkS)(x:Int):faX d x=0∨faX d x=120∨faX d x=121:=by
 unfold faX
 split
 ·exact Or.inr (Or.inl rfl)
 ·split
  ·exact Or.inl rfl
  ·exact Or.inr (Or.inr rfl)
theorem wrAX_crash{i ad:Int}{b:List UInt8}:wrAX a i ad b=130↔a.off=true:=by
 unfold wrAX;cases h:a.off
 ·rw[if_neg Zd];refine⟨fun e=>?_,fun e=>by cases e⟩;exfalso
  split at e
  ·unfold wrX at e
   rcases faX_in (diA a i) ad with q|q|q<;>rw[q]at e
   ·rw[if_pos rfl]at e
    split at e<;>cases e
   ·rw[if_neg Zd]at e;cases e
   ·rw[if_neg Zd]at e;cases e
  ·cases e
 ·rw[if_pos rfl];exact⟨fun _=>rfl,fun _=>rfl⟩
theorem puX_crash{sh:Nat}{b:List UInt8}:puX a g st ep sh b=130↔a.off=true:=wrAX_crash
theorem puS_off(h:a.off=true)(sh:Nat)(b:List UInt8):puS a g st ep sh b=a:=if_pos h
theorem ps_off{R:List (List UInt8)}{B:List Nat}{i:Nat}(h:(psT a g st ep R B i).off=true):∀j,psT a g st ep R B (i+j)=psT a g st ep R B i
 |0=>rfl
 |j+1=>by
  show puS (psT a g st ep R B (i+j)) g st ep _ _=_
  rw[ps_off h j];exact puS_off h _ _
theorem pc_at{R:List (List UInt8)}{B:List Nat}{i:Nat}(hi:i<B.length)(h:(psT a g st ep R B i).off=true):pcT a g st ep R B=true/\psT a g st ep R B B.length=psT a g st ep R B i:=by
 have e1:=ps_off h (B.length-1-i);have e2:=ps_off h (B.length-i);rw[show i+(B.length-1-i)=B.length-1 by omega]at e1;rw[show i+(B.length-i)=B.length by omega]at e2;refine⟨?_,e2⟩;have hne:B≠[]:=fun e=>by rw[e]at hi;exact absurd hi (Nat.not_lt_zero _)
 unfold pcT;rw[e1,h,Bool.and_true];exact Zy hne
theorem pc_end{R:List (List UInt8)}{B:List Nat}(h:∀i,i<B.length->(psT a g st ep R B i).off=false):pcT a g st ep R B=false:=by
 unfold pcT
 by_cases e:B=[]
 ·have hd:decide (B≠[])=false:=Zx (fun h=>h e);rw[hd];rfl
 ·have hl:0<B.length:=List.length_pos_iff.2 e;rw[h (B.length-1) Zo,Bool.and_false]
structure HeldT(a:ArS)(g:GeoS)(st ep:Int)(L:List (List UInt8))(hurt:Nat->Bool):Prop where
 ok:∀i,i<nT g->hurt i=false->rbT a g st i=pkT g st ep (ro L i)
 bad:∀i,i<nT g->hurt i=true->hsF a g st ep i=false
 off:a.off=false
theorem stG_in(h:okG g)(h1:0<=st)(h2:st<g.s):stG g st=5+g.t+st/\0<=stG g st/\stG g st<=400:=by
 have e:stG g st=5+g.t+st:=if_pos ⟨h,h1,h2⟩;obtain⟨_,_,_,_,_,o6,o7,o8,o9,_,_⟩:=h;rw[e];refine⟨rfl,Zo,Zo⟩
theorem OkT.se(h:OkT g st ep){b:List UInt8}(hb:b.length<=4096):OkSe (stG g st) ep b.length:=by
 obtain⟨e,e1,e2⟩:=stG_in h.1 h.2.1 h.2.2.1;exact⟨⟨e1,Zo⟩,⟨h.2.2.2.1,h.2.2.2.2⟩,hb⟩
theorem pk_has(h:OkT g st ep){b:List UInt8}(hb:b.length<=4096):upX (stG g st) (pkT g st ep b)=0/\upN (stG g st) (pkT g st ep b)=ep.toNat/\upD (stG g st) (pkT g st ep b)=b:=by
 obtain⟨k1,k2,k3⟩:=ok_pk (h.se hb);obtain⟨u1,u2,u3⟩:=up_ok k1;exact⟨u1,u2.trans k2,u3.trans k3⟩
theorem has_pk(h:OkT g st ep){i:Nat}{b:List UInt8}(hb:b.length=g.z.toNat)(e:rbT a g st i=pkT g st ep b):hsF a g st ep i=true/\upD (stG g st) (rbT a g st i)=b:=by
 have hz:=okG_nat h.1;obtain⟨u1,u2,u3⟩:=pk_has h (b:=b) Zo;rw[<-e]at u1 u2 u3;refine⟨?_,u3⟩;unfold hsF;refine Zy ⟨u1,?_,?_⟩
 ·rw[u2];have:=h.2.2.2.1;omega
 ·rw[u3,hb];exact hz.2.2.1
theorem has_other{e':Int}(h:OkT g st ep){i:Nat}{b:List UInt8}(hb:b.length<=4096)(e:rbT a g st i=pkT g st ep b)(hne:e'≠ep):hsF a g st e' i=false:=by
 obtain⟨u1,u2,u3⟩:=pk_has h hb;rw[<-e]at u1 u2 u3;unfold hsF;refine Zx fun q=>hne ?_
 have:=q.2.1;rw[u2]at this;have:=h.2.2.2.1;omega
theorem hsT_length:(hsT a g st ep).length=nT g:=by simp[hsT]
theorem hsT_hb{i:Nat}(hi:i<nT g):hb (hsT a g st ep) i=hsF a g st ep i:=by simp[hsT,hb,List.getD,hi]
theorem dsT_length:(dsT a g st).length=nT g:=mkL_length _ _
theorem hs_cnt:cnt (fun i=> !hb (hsT a g st ep) i) (nT g)=cnt (fun i=> !hsF a g st ep i) (nT g):=cnt_congr fun i hi=>by rw[hsT_hb hi]
section
variable {D:List UInt8} {hurt:Nat->Bool}
theorem held_has(hT:OkT g st ep)(hD:LenT g D)(h:HeldT a g st ep (shT g D) hurt){i:Nat}(hi:i<nT g):hsF a g st ep i= !hurt i:=by
 cases e:hurt i
 ·exact(has_pk hT (shT_row hD hT.1 hi) (h.ok i hi e)).1
 ·exact h.bad i hi e
theorem held_all(hT:OkT g st ep)(hD:LenT g D)(h:HeldT a g st ep (shT g D) hurt)(hf:cnt hurt (nT g)<=g.m.toNat):alX a g st ep=0/\alR a g st ep=shT g D/\alP a g st ep=[]:=by
 obtain⟨z1,z2,z3,z4,z5,z6,z7,z8⟩:=okG_nat hT.1;have hc:cnt (fun i=> !hb (hsT a g st ep) i) (nT g)=cnt hurt (nT g):=hs_cnt.trans (cnt_congr fun i hi=>by rw[held_has hT hD h hi,Bool.not_not]);obtain⟨s1,s2,s3⟩:=sh_back (k:=g.k.toNat) (m:=g.m.toNat) (n:=g.z.toNat) (D:=parT g D) (M:=dsT a g st) (hs:=hsT a g st ep) z4 (by unfold nT at z5;omega) parT_length (parT_even hD hT.1) (parT_first hD hT.1) hsT_length dsT_length (fun i hi=>by
  have hi2:i<nT g:=by rw[<-hsT_length (a:=a) (st:=st) (ep:=ep)];exact hb_in hi
  rw[hsT_hb hi2,held_has hT hD h hi2]at hi;have hu:hurt i=false:=by cases e:hurt i with
   |false=>rfl
   |true=>rw[e]at hi;cases hi
  unfold dsT;rw[ro_mkL hi2];exact(has_pk hT (shT_row hD hT.1 hi2) (h.ok i hi2 hu)).2) (by show cnt _ (nT g)<=_;rw[hc];exact hf)
 rw[z1,z2]at s1 s2 s3;refine⟨?_,s2,s3⟩;unfold alX;rw[if_neg (by rw[h.off];decide),if_pos s1]
theorem held_read(hT:OkT g st ep)(hD:LenT g D)(h:HeldT a g st ep (shT g D) hurt)(hf:cnt hurt (nT g)<=g.m.toNat):rtX a g st ep=0/\rtD a g st ep=D/\rtB a g st ep=plc (fun i=>hurt i&&lvT a (diG g st (i:Int))) (nT g):=by
 obtain⟨x1,x2,x3⟩:=held_all hT hD h hf;have r0:rtX a g st ep=0:=by unfold rtX;rw[if_pos hT,x1]
 refine⟨r0,?_,?_⟩
 ·unfold rtD;rw[if_pos r0,x2,shT_data hD hT.1]
 ·unfold rtB bdT plc;rw[if_pos r0];refine List.filter_congr fun i hi=>?_
  unfold bdF;rw[x3,held_has hT hD h (List.mem_range.1 hi)];simp
theorem held_bd(hT:OkT g st ep)(hD:LenT g D)(h:HeldT a g st ep (shT g D) hurt)(hf:cnt hurt (nT g)<=g.m.toNat):bdT a g st ep=plc (fun i=>hurt i&&lvT a (diG g st (i:Int))) (nT g):=by
 obtain⟨r0,_,r2⟩:=held_read hT hD h hf;rw[<-r2];unfold rtB;rw[if_pos r0]
end
theorem read_lost(hT:OkT g st ep)(ho:a.off=false)(hr:∀i,i<nT g->hsF a g st ep i=true->(upD (stG g st) (rbT a g st i)).length=g.z.toNat)(hf:g.m.toNat<cnt (fun i=> !hsF a g st ep i) (nT g)):rtX a g st ep=150/\rtD a g st ep=[]/\rtB a g st ep=[]:=by
 obtain⟨z1,z2,z3,z4,z5,z6,z7,z8⟩:=okG_nat hT.1;have s:=sh_lost (k:=g.k.toNat) (m:=g.m.toNat) (n:=g.z.toNat) (M:=dsT a g st) (hs:=hsT a g st ep) z4 (by unfold nT at z5;omega) z6 hsT_length dsT_length (fun i hi=>by
  have hi2:i<nT g:=by rw[<-hsT_length (a:=a) (st:=st) (ep:=ep)];exact hb_in hi
  rw[hsT_hb hi2]at hi;unfold dsT;rw[ro_mkL hi2];exact hr i hi2 hi) (by show _<cnt _ (nT g);rw[hs_cnt];exact hf)
 rw[z1,z2]at s;have r0:rtX a g st ep=150:=by
  unfold rtX alX;rw[if_pos hT,if_neg (by rw[ho];decide),if_neg s]
 refine⟨r0,?_,?_⟩
 ·unfold rtD;rw[r0,if_neg Zd]
 ·unfold rtB;rw[r0,if_neg Zd]
theorem has_len{i:Nat}(h:okG g)(e:hsF a g st ep i=true):(upD (stG g st) (rbT a g st i)).length=g.z.toNat:=by
 have:=(of_decide_eq_true e).2.2;have:=(okG_nat h).2.2.1;omega
theorem cnt_full{p:Nat->Bool}:∀{n:Nat},(∀i,i<n->p i=true)->cnt p n=n
 |0,_=>rfl
 |n+1,h=>by
  show cnt p n+(if p n then 1 else 0)=n+1
  rw[cnt_full fun i hi=>h i Zo,h n Zo];rfl
theorem read_none(hT:OkT g st ep)(ho:a.off=false)(h:∀i,i<nT g->hsF a g st ep i=false):rtX a g st ep=150/\rtD a g st ep=[]/\rtB a g st ep=[]:=
 read_lost hT ho (fun i hi e=>by rw[h i hi]at e;cases e) (by
  rw[cnt_full fun i hi=>by rw[h i hi];rfl];have:=(okG_nat hT.1).2.2.2.1;unfold nT;omega)
end
def Calm(a:ArS):Prop:=a.off=false/\¬0<a.left
theorem calm_new(n s:Nat):Calm (newA n s):=⟨rfl,by show ¬(0:Int)< -1;omega⟩
section
variable {a:ArS} {i ad:Int} {b:List UInt8}
theorem setA_len(d:DkS):(setA a i d).D.length=a.D.length:=by simp[setA]
theorem diA_set(hi:thA a i)(d:DkS){j:Int}(hj:0<=j):diA (setA a i d) j=if j=i then d else diA a j:=by
 have hl:i.toNat<a.D.length:=by have:=hi.1;have:=hi.2;omega
 unfold diA setA
 show(a.D.set i.toNat d).getD j.toNat default=_
 by_cases e:j=i
 ·rw[if_pos e,e];simp[List.getD,hl]
 ·rw[if_neg e];have hn:i.toNat≠j.toNat:=by have:=hi.1;omega
  simp[List.getD,List.getElem?_set,hn]
theorem wr_set(hc:Calm a)(ht:thA a i)(h:wrX (diA a i) ad b=0):wrAX a i ad b=0/\wrAS a i ad b=setA a i (wrS (diA a i) ad b):=by
 refine⟨?_,?_⟩
 ·unfold wrAX;rw[if_neg (by rw[hc.1];decide),if_pos ht,h]
 ·unfold wrAS tickA;rw[if_neg (by rw[hc.1];decide),if_pos ht,if_pos h];exact if_neg hc.2
theorem rd_at(ho:a.off=false)(ht:thA a i):rdAB a i ad=rdB (diA a i) ad:=by
 unfold rdAB;rw[if_neg (by rw[ho];decide),if_pos ht]
theorem wrX_ok{d:DkS}(hd:d.dead=false)(h0:0<=ad)(h1:ad<(d.s:Int))(hb:OkB b):wrX d ad b=0:=by
 unfold wrX;rw[if_pos (faX_ok hd ⟨h0,h1⟩),if_pos hb]
theorem wrS_at{d:DkS}(hd:d.dead=false)(h0:0<=ad)(h1:ad<(d.s:Int))(hb:OkB b):wrS d ad b={d with wait:=putB d.wait ad b}:=if_pos ⟨faX_ok hd ⟨h0,h1⟩,hb⟩
theorem rdB_wr{d:DkS}(hd:d.dead=false)(h0:0<=ad)(h1:ad<(d.s:Int))(hb:OkB b)(x:Int):rdB (wrS d ad b) x=if x=ad then b else rdB d x:=by
 rw[wrS_at hd h0 h1 hb]
 by_cases e:x=ad
 ·rw[if_pos e,e];unfold rdB;have e1:faX ({d with wait:=putB d.wait ad b}:DkS) ad=0:=faX_ok (d:={d with wait:=putB d.wait ad b}) hd ⟨h0,h1⟩;rw[if_pos e1];simp[atD,putB]
 ·rw[if_neg e];have e1:faX ({d with wait:=putB d.wait ad b}:DkS) x=faX d x:=rfl;have e2:atD ({d with wait:=putB d.wait ad b}:DkS) x=atD d x:=by simp[atD,putB,e]
  unfold rdB;rw[e1,e2]
theorem wrS_dead{d:DkS}:(wrS d ad b).dead=d.dead:=by unfold wrS;split<;>rfl
end
section
variable {a:ArS} {g:GeoS} {st ep:Int}
theorem diG_in(h:okG g)(h1:0<=st)(h2:st<g.s){i:Nat}(hi:i<nT g):0<=diG g st (i:Int)/\diG g st (i:Int)<((nT g:Nat):Int):=by
 have z:=okG_nat h;have:=sh_di h h1 h2 (sh:=(i:Int)) Zo Zo;exact⟨this.1,by have:=this.2.1;omega⟩
theorem diG_inj(h:okG g)(h1:0<=st)(h2:st<g.s){i j:Nat}(hi:i<nT g)(hj:j<nT g)(e:diG g st (i:Int)=diG g st (j:Int)):i=j:=by
 have z:=okG_nat h;have:=di_inj h h1 h2 (i:=(i:Int)) (j:=(j:Int)) Zo Zo Zo Zo e;omega
theorem diG_of(h:okG g)(h1:0<=st)(h2:st<g.s){d:Int}(h3:0<=d)(h4:d<((nT g:Nat):Int)):∃i:Nat,i<nT g/\diG g st (i:Int)=d:=by
 have z:=okG_nat h;obtain⟨q1,q2,q3⟩:=di_sh h h1 h2 h3 Zo;exact⟨(shG g st d).toNat,Zo,by rw[show(((shG g st d).toNat:Nat):Int)=shG g st d by omega];exact q3⟩
structure WrT(a:ArS)(g:GeoS)(st:Int)(i:Nat):Prop where
 th:thA a (diG g st (i:Int))
 al:(diA a (diG g st (i:Int))).dead=false
 rm:stG g st<((diA a (diG g st (i:Int))).s:Int)
theorem pkT_okB{b:List UInt8}(hb:b.length<=4096):OkB (pkT g st ep b):=by
 unfold OkB pkT;rw[pk_length];omega
theorem put_ok(hT:OkT g st ep)(hc:Calm a){i:Nat}(hw:WrT a g st i){b:List UInt8}(hb:b.length<=4096):puX a g st ep i b=0/\puS a g st ep i b=setA a (diG g st (i:Int)) (wrS (diA a (diG g st (i:Int))) (stG g st) (pkT g st ep b)):=by
 have s:=stG_in hT.1 hT.2.1 hT.2.2.1;exact wr_set hc hw.th (wrX_ok hw.al s.2.1 hw.rm (pkT_okB hb))
structure PutT(a a':ArS)(g:GeoS)(st ep:Int)(R:List (List UInt8))(B:List Nat):Prop where
 calm:Calm a'
 len:a'.D.length=a.D.length
 at_:∀i,i∈B->diA a' (diG g st (i:Int))=wrS (diA a (diG g st (i:Int))) (stG g st) (pkT g st ep (ro R i))
 else_:∀d,0<=d->(∀i,i∈B->diG g st (i:Int)≠d)->diA a' d=diA a d
theorem take_getD{B:List Nat}{r:Nat}(h:r<B.length):B.take (r+1)=B.take r++[B.getD r 0]:=by
 rw[List.take_add_one];simp[List.getD,h]
theorem not_take{B:List Nat}(hn:B.Nodup){r:Nat}(h:r<B.length):B.getD r 0 ∉ B.take r:=by
 intro e;rw[List.mem_take_iff_getElem]at e;obtain⟨j,hj,e2⟩:=e;rw[show B.getD r 0=B[r] by simp[List.getD,h]]at e2;have:=(List.getElem_inj hn).1 e2;omega
theorem ps_put(hT:OkT g st ep)(hc:Calm a){R:List (List UInt8)}{B:List Nat}(hn:B.Nodup)(hB:∀i,i∈B->i<nT g/\WrT a g st i)(hR:∀i,i∈B->(ro R i).length<=4096):
  ∀r,r<=B.length->PutT a (psT a g st ep R B r) g st ep R (B.take r)/\pnT a g st ep R B r=r/\(r<B.length->puX (psT a g st ep R B r) g st ep (B.getD r 0) (ro R (B.getD r 0))=0)
 |0,h=>by
  have p0:PutT a (psT a g st ep R B 0) g st ep R (B.take 0):=⟨hc,rfl,fun i hi=>by simp at hi,fun d _ _=>rfl⟩;refine⟨p0,rfl,fun h0=>?_⟩;have hm:B.getD 0 0∈B:=getD_mem h0;exact(put_ok hT hc (hB _ hm).2 (hR _ hm)).1
 |r+1,h=>by
  obtain⟨P,n1,ok1⟩:=ps_put hT hc hn hB hR r Zo;have hr:r<B.length:=Zo
  have hm:B.getD r 0∈B:=getD_mem hr;obtain⟨hlt,hw⟩:=hB _ hm;have apart:∀i,i∈B.take r->diG g st (i:Int)≠diG g st ((B.getD r 0:Nat):Int):=fun i hi e=>by
   have:=diG_inj hT.1 hT.2.1 hT.2.2.1 (hB i (List.mem_of_mem_take hi)).1 hlt e;rw[this]at hi;exact not_take hn hr hi
  have din:=diG_in hT.1 hT.2.1 hT.2.2.1 hlt;have e0:diA (psT a g st ep R B r) (diG g st ((B.getD r 0:Nat):Int))=diA a (diG g st ((B.getD r 0:Nat):Int)):=P.else_ _ din.1 apart;have hw':WrT (psT a g st ep R B r) g st (B.getD r 0):=⟨⟨hw.th.1,by rw[P.len];exact hw.th.2⟩,by rw[e0];exact hw.al,by rw[e0];exact hw.rm⟩;obtain⟨x0,s0⟩:=put_ok hT P.calm hw' (hR _ hm);have s1:psT a g st ep R B (r+1)=setA (psT a g st ep R B r) (diG g st ((B.getD r 0:Nat):Int)) (wrS (diA a (diG g st ((B.getD r 0:Nat):Int))) (stG g st) (pkT g st ep (ro R (B.getD r 0)))):=by
   show puS _ _ _ _ _ _=_
   rw[s0,e0]
  have P':PutT a (psT a g st ep R B (r+1)) g st ep R (B.take (r+1)):=by
   refine⟨?_,?_,fun i hi=>?_,fun d hd hne=>?_⟩
   ·rw[s1];exact P.calm
   ·rw[s1,setA_len];exact P.len
   ·rw[take_getD hr,List.mem_append,List.mem_singleton]at hi;rw[s1]
    rcases hi with hi|hi
    ·have hi2:=diG_in hT.1 hT.2.1 hT.2.2.1 (hB i (List.mem_of_mem_take hi)).1;rw[diA_set hw'.th _ hi2.1,if_neg (apart i hi)];exact P.at_ i hi
    ·rw[hi,diA_set hw'.th _ din.1,if_pos rfl]
   ·rw[s1,diA_set hw'.th _ hd,if_neg (fun e=>hne (B.getD r 0) (by rw[take_getD hr];simp) e.symm)];exact P.else_ d hd fun i hi=>hne i (by rw[take_getD hr];exact List.mem_append_left _ hi)
  refine⟨P',?_,fun h2=>?_⟩
  ·show pnT a g st ep R B r+_=r+1
   rw[n1,if_pos x0]
  ·have hm2:B.getD (r+1) 0∈B:=getD_mem h2;obtain⟨hlt2,hw2⟩:=hB _ hm2;have din2:=diG_in hT.1 hT.2.1 hT.2.2.1 hlt2;have e2:diA (psT a g st ep R B (r+1)) (diG g st ((B.getD (r+1) 0:Nat):Int))=diA a (diG g st ((B.getD (r+1) 0:Nat):Int)):=P'.else_ _ din2.1 fun i hi e=>by
    have:=diG_inj hT.1 hT.2.1 hT.2.2.1 (hB i (List.mem_of_mem_take hi)).1 hlt2 e;rw[this]at hi;exact not_take hn h2 hi
   exact(put_ok hT P'.calm ⟨⟨hw2.th.1,by rw[P'.len];exact hw2.th.2⟩,by rw[e2];exact hw2.al,by rw[e2];exact hw2.rm⟩ (hR _ hm2)).1
theorem ps_all(hT:OkT g st ep)(hc:Calm a){R:List (List UInt8)}{B:List Nat}(hn:B.Nodup)(hB:∀i,i∈B->i<nT g/\WrT a g st i)(hR:∀i,i∈B->(ro R i).length<=4096):
  PutT a (psT a g st ep R B B.length) g st ep R B/\pnT a g st ep R B B.length=B.length/\pcT a g st ep R B=false:=by
 obtain⟨P,n1,_⟩:=ps_put hT hc hn hB hR B.length Zr;rw[List.take_length]at P;exact⟨P,n1,pc_end fun i hi=>(ps_put hT hc hn hB hR i Zo).1.calm.1⟩
theorem PutT.rb(hT:OkT g st ep){a':ArS}{R:List (List UInt8)}{B:List Nat}(hB:∀i,i∈B->i<nT g/\WrT a g st i)(hR:∀i,i∈B->(ro R i).length<=4096)(P:PutT a a' g st ep R B):
  (∀i,i∈B->rbT a' g st i=pkT g st ep (ro R i)):=fun i hi=>by
 obtain⟨hlt,hw⟩:=hB i hi;have s:=stG_in hT.1 hT.2.1 hT.2.2.1;unfold rbT;rw[rd_at P.calm.1 ⟨hw.th.1,by rw[P.len];exact hw.th.2⟩,P.at_ i hi,rdB_wr hw.al s.2.1 hw.rm (pkT_okB (hR i hi)),if_pos rfl]
theorem rdAB_off{a:ArS}{i ad:Int}(h:¬thA a i):rdAB a i ad=[]:=by
 unfold rdAB;rw[if_neg h]
 split<;>rfl
theorem PutT.rb_else(hT:OkT g st ep)(hc:Calm a){a':ArS}{R:List (List UInt8)}{B:List Nat}(hB:∀i,i∈B->i<nT g/\WrT a g st i)(P:PutT a a' g st ep R B){i:Nat}(hi:i<nT g)(hne:i ∉ B):rbT a' g st i=rbT a g st i:=by
 have din:=diG_in hT.1 hT.2.1 hT.2.2.1 hi;have e:diA a' (diG g st (i:Int))=diA a (diG g st (i:Int)):=P.else_ _ din.1 fun j hj e=>hne (by
  rw[<-diG_inj hT.1 hT.2.1 hT.2.2.1 (hB j hj).1 hi e];exact hj)
 unfold rbT
 by_cases ht:thA a (diG g st (i:Int))
 ·rw[rd_at P.calm.1 ⟨ht.1,by rw[P.len];exact ht.2⟩,rd_at hc.1 ht,e]
 ·rw[rdAB_off ht,rdAB_off (fun q=>ht ⟨q.1,by rw[<-P.len];exact q.2⟩)]
theorem PutT.keeps{a':ArS}{R:List (List UInt8)}{B:List Nat}(P:PutT a a' g st ep R B){d:Int}(hd:0<=d):(diA a' d).dead=(diA a d).dead/\(diA a' d).s=(diA a d).s:=by
 by_cases q:∃j,j∈B/\diG g st (j:Int)=d
 ·obtain⟨j,hj,e⟩:=q;rw[<-e,P.at_ j hj];exact⟨wrS_dead,wrS_s _ _ _⟩
 ·rw[P.else_ _ hd fun j hj e=>q ⟨j,hj,e⟩];exact⟨rfl,rfl⟩
end
theorem cnt_or_eq(p q:Nat->Bool)(n:Nat)(h:∀i,i<n->p i=true->q i=false):cnt (fun i=>p i||q i) n=cnt p n+cnt q n:=by
 induction n with
 |zero=>rfl
 |succ n ih=>
  show cnt (fun i=>p i||q i) n+(if (p n||q n)then 1 else 0)=cnt p n+(if p n then 1 else 0)+(cnt q n+(if q n then 1 else 0))
  rw[ih fun i hi=>h i Zo];cases e:p n
  ·simp;omega
  ·rw[h n Zo e];simp;omega
theorem cnt_one15{n i0:Nat}(h:i0<n):cnt (fun i=>decide (i=i0)) n=1:=by
 induction n with
 |zero=>omega
 |succ n ih=>
  show cnt (fun i=>decide (i=i0)) n+(if decide (n=i0)then 1 else 0)=1
  by_cases e:n=i0
  ·rw[Zy e,cnt_none fun i hi=>Zx Zo];rfl
  ·rw[Zx e,ih Zo];rfl
section
variable {a:ArS} {g:GeoS} {st ep:Int}
theorem cnt_disks(hg:okG g)(h1:0<=st)(h2:st<g.s):∀{S:List Int},S.Nodup->(∀d,d∈S->0<=d/\d<((nT g:Nat):Int))->cnt (fun i=>decide (diG g st (i:Int)∈S)) (nT g)=S.length
 |[],_,_=>cnt_none fun i _=>Zx Zs
 |d::S,hn,hS=>by
  rw[List.nodup_cons]at hn;obtain⟨i0,hi0,e0⟩:=diG_of hg h1 h2 (hS d Zs).1 (hS d Zs).2;have ih:=cnt_disks hg h1 h2 hn.2 fun x hx=>hS x (by simp[hx])
  have e:∀i,i<nT g->decide (diG g st (i:Int)∈d::S)=(decide (i=i0)||decide (diG g st (i:Int)∈S)):=fun i hi=>by
   rw[<-Bool.decide_or];refine decide_eq_decide.2 ?_
   rw[List.mem_cons];refine⟨fun h=>h.imp (fun e=>diG_inj hg h1 h2 hi hi0 (e.trans e0.symm)) id,fun h=>h.imp (fun e=>by rw[e];exact e0) id⟩
  rw[cnt_congr e,cnt_or_eq _ _ _ (fun i hi h=>by
   rw[of_decide_eq_true h];exact Zx (by rw[e0];exact hn.1)),cnt_one15 hi0,ih,List.length_cons]
  omega
def hdD(kind ad at_:Int)(d:DkS):DkS:=if kind=0 then faS d else if kind=1 then reS d else coS d ad at_ 1
def hdA(kind ad at_:Int)(a:ArS)(d:Int):ArS:=if kind=0 then faAS a d else if kind=1 then rpAS a d else coAS a d ad at_ 1
def hrT(kind ad at_:Int)(a:ArS)(S:List Int):Nat->ArS
 |0=>a
 |r+1=>hdA kind ad at_ (hrT kind ad at_ a S r) (S.getD r 0)
theorem hd_calm{kind ad at_ d:Int}(hc:Calm a):Calm (hdA kind ad at_ a d):=by
 unfold hdA faAS rpAS coAS
 split
 ·split
  ·exact hc
  ·exact hc
 ·split
  ·split
   ·exact hc
   ·exact hc
  ·split
   ·exact hc
   ·exact hc
theorem hd_len{kind ad at_ d:Int}:(hdA kind ad at_ a d).D.length=a.D.length:=by
 unfold hdA faAS rpAS coAS
 split
 ·split
  ·exact setA_len _
  ·rfl
 ·split
  ·split
   ·exact setA_len _
   ·rfl
  ·split
   ·exact setA_len _
   ·rfl
theorem diA_born{d j:Int}:diA (bornA a d) j=diA a j:=rfl
theorem hd_di{kind ad at_ d j:Int}(ht:thA a d)(hj:0<=j):diA (hdA kind ad at_ a d) j=if j=d then hdD kind ad at_ (diA a d)else diA a j:=by
 unfold hdA faAS rpAS coAS hdD
 by_cases k0:kind=0
 ·rw[if_pos k0,if_pos ht,if_pos k0,diA_born,diA_set ht _ hj]
 ·rw[if_neg k0,if_neg k0]
  by_cases k1:kind=1
  ·rw[if_pos k1,if_pos ht,if_pos k1,diA_born,diA_set ht _ hj]
  ·rw[if_neg k1,if_neg k1,if_pos ht,diA_set ht _ hj]
structure HrtT(kind ad at_:Int)(a a':ArS)(S:List Int):Prop where
 calm:Calm a'
 len:a'.D.length=a.D.length
 at':∀d,d∈S->diA a' d=hdD kind ad at_ (diA a d)
 else_:∀d,0<=d->d ∉ S->diA a' d=diA a d
theorem take_getI{S:List Int}{r:Nat}(h:r<S.length):S.take (r+1)=S.take r++[S.getD r 0]:=by
 rw[List.take_add_one];simp[List.getD,h]
theorem not_takeI{S:List Int}(hn:S.Nodup){r:Nat}(h:r<S.length):S.getD r 0 ∉ S.take r:=by
 intro e;rw[List.mem_take_iff_getElem]at e;obtain⟨j,hj,e2⟩:=e;rw[show S.getD r 0=S[r] by simp[List.getD,h]]at e2;have:=(List.getElem_inj hn).1 e2;omega
theorem getD_memI{S:List Int}{r:Nat}(h:r<S.length):S.getD r 0∈S:=by
 rw[show S.getD r 0=S[r] by simp[List.getD,h]];exact List.getElem_mem h
theorem hr_all{kind ad at_:Int}(hc:Calm a){S:List Int}(hn:S.Nodup)(hS:∀d,d∈S->thA a d):∀r,r<=S.length->HrtT kind ad at_ a (hrT kind ad at_ a S r) (S.take r)
 |0,_=>⟨hc,rfl,fun d hd=>by simp at hd,fun d _ _=>rfl⟩
 |r+1,h=>by
  have P:=hr_all (kind:=kind) (ad:=ad) (at_:=at_) hc hn hS r Zo;have hr:r<S.length:=Zo
  have hm:=getD_memI hr;have ht:thA (hrT kind ad at_ a S r) (S.getD r 0):=⟨(hS _ hm).1,by rw[P.len];exact(hS _ hm).2⟩;have hnt:=not_takeI hn hr;refine⟨hd_calm P.calm,by show(hdA _ _ _ _ _).D.length=_;rw[hd_len];exact P.len,fun d hd=>?_,fun d hd hne=>?_⟩
  ·show diA (hdA _ _ _ _ _) d=_
   rw[take_getI hr,List.mem_append,List.mem_singleton]at hd
   rcases hd with hd|hd
   ·rw[hd_di ht (hS d (List.mem_of_mem_take hd)).1,if_neg (fun e=>hnt (by rw[<-e];exact hd))];exact P.at' d hd
   ·rw[hd_di ht (by rw[hd];exact ht.1),if_pos hd,hd,P.else_ _ ht.1 hnt]
  ·show diA (hdA _ _ _ _ _) d=_
   rw[take_getI hr,List.mem_append,List.mem_singleton]at hne;rw[hd_di ht hd,if_neg (fun e=>hne (Or.inr e))];exact P.else_ d hd fun e=>hne (Or.inl e)
theorem hdD_s{kind ad at_:Int}{d:DkS}:(hdD kind ad at_ d).s=d.s:=by
 unfold hdD
 split
 ·rfl
 ·split
  ·rfl
  ·exact coS_s _ _ _ _
theorem coS_dead{d:DkS}{ad at_:Int}{y:UInt8}:(coS d ad at_ y).dead=d.dead:=by
 unfold coS
 split
 ·split
  ·rfl
  ·split<;>rfl
 ·rfl
theorem hdD_dead{kind ad at_:Int}{d:DkS}(hd:d.dead=false):(hdD kind ad at_ d).dead=decide (kind=0):=by
 unfold hdD
 by_cases k0:kind=0
 ·rw[if_pos k0,Zy k0];rfl
 ·rw[if_neg k0,Zx k0]
  split
  ·rfl
  ·rw[coS_dead];exact hd
theorem rdB_co{d:DkS}{ad at_:Int}{y:UInt8}{b:List UInt8}(hf:faX d ad=0)(h:atD d ad=some b):rdB (coS d ad at_ y) ad=chB b at_ y:=by
 have hf':∀e:DkS,e.dead=d.dead->e.s=d.s->faX e ad=0:=fun e e1 e2=>by
  have:=hf;unfold faX at this ⊢;rw[e1,e2];exact this
 unfold rdB;rw[if_pos (hf' _ coS_dead (coS_s _ _ _ _))];unfold atD at h;cases e:d.wait ad with
 |some c=>
  rw[e]at h
  have:c=b:=by simpa using h
  subst this;unfold coS;rw[if_pos hf,e];simp[atD,putB]
 |none=>
  rw[e]at h;have h':d.last ad=some b:=h;unfold coS;rw[if_pos hf,e,h'];simp[atD,putB,e]
theorem rdB_some{d:DkS}{ad:Int}{b:List UInt8}(h:rdB d ad=b)(hb:b≠[]):faX d ad=0/\atD d ad=some b:=by
 unfold rdB at h
 by_cases e:faX d ad=0
 ·rw[if_pos e]at h;refine⟨e,?_⟩;cases q:atD d ad with
  |none=>rw[q]at h;exact absurd h.symm hb
  |some c=>rw[q]at h;rw[show c=b from h]
 ·rw[if_neg e]at h;exact absurd h.symm hb
theorem up_nil(x:Int):upX x []=110:=(up_not (fun h=>by have:=h.1;simp at this)).1
theorem hd_up{kind at_:Int}(hT:OkT g st ep){b:List UInt8}(hb:b.length<=4096){d:DkS}(h:rdB d (stG g st)=pkT g st ep b):upX (stG g st) (rdB (hdD kind (stG g st) at_ d) (stG g st))=110:=by
 have hl:(pkT g st ep b).length=b.length+12:=pk_length _ _ _;have hne:pkT g st ep b≠[]:=fun e=>by rw[e]at hl;simp at hl
 obtain⟨hf,ha⟩:=rdB_some h hne;unfold hdD
 split
 ·have:rdB (faS d) (stG g st)=[]:=by
   unfold rdB;rw[faX_dead rfl,if_neg Zd]
  rw[this];exact up_nil _
 ·split
  ·have:rdB (reS d) (stG g st)=[]:=by
    unfold rdB
    split<;>rfl
   rw[this];exact up_nil _
  ·rw[rdB_co hf ha];refine(up_not ?_).1;unfold chB;have ht:atN at_ (pkT g st ep b).length<(pkT g st ep b).length:=Nat.mod_lt _ Zo;refine pk_tells (hT.se hb) ht ?_
   show co (pkT g st ep b) _^^^1≠co (pkT g st ep b) _
   intro e;have e2:=congrArg (fun x=>co (pkT g st ep b) (atN at_ (pkT g st ep b).length)^^^x) e;rw[x_cancel,x_self]at e2;cases e2
theorem hs_no{i:Nat}(h:upX (stG g st) (rbT a g st i)=110):hsF a g st ep i=false:=Zx fun q=>by
 rw[h]at q;have:=q.1;cases this
structure WholeT(a:ArS)(g:GeoS)(st ep:Int)(D:List UInt8):Prop where
 calm:Calm a
 held:∀i,i<nT g->rbT a g st i=pkT g st ep (ro (shT g D) i)
 wr:∀i,i<nT g->WrT a g st i
theorem whole_hurt(hT:OkT g st ep){D:List UInt8}(hD:LenT g D)(h:WholeT a g st ep D){kind at_:Int}{S:List Int}(hn:S.Nodup)(hS:∀d,d∈S->0<=d/\d<((nT g:Nat):Int)):
  HeldT (hrT kind (stG g st) at_ a S S.length) g st ep (shT g D) (fun i=>decide (diG g st (i:Int)∈S))/\cnt (fun i=>decide (diG g st (i:Int)∈S)) (nT g)=S.length/\
  Calm (hrT kind (stG g st) at_ a S S.length)/\(∀i,i<nT g->(kind=0->diG g st (i:Int)∈S->lvT (hrT kind (stG g st) at_ a S S.length) (diG g st (i:Int))=false)/\((kind≠0∨diG g st (i:Int) ∉ S)->WrT (hrT kind (stG g st) at_ a S S.length) g st i)):=by
 have z:=okG_nat hT.1;have hth:∀d,d∈S->thA a d:=fun d hd=>by
  obtain⟨i,hi,e⟩:=diG_of hT.1 hT.2.1 hT.2.2.1 (hS d hd).1 (hS d hd).2;rw[<-e];exact(h.wr i hi).th
 have P:=hr_all (kind:=kind) (ad:=stG g st) (at_:=at_) h.calm hn hth S.length Zr;rw[List.take_length]at P;have th':∀i,i<nT g->thA (hrT kind (stG g st) at_ a S S.length) (diG g st (i:Int)):=fun i hi=>⟨(h.wr i hi).th.1,by rw[P.len];exact(h.wr i hi).th.2⟩
 have hrow:∀i,i<nT g->(ro (shT g D) i).length<=4096:=fun i hi=>by rw[shT_row hD hT.1 hi];omega
 have rd0:∀i,i<nT g->rdB (diA a (diG g st (i:Int))) (stG g st)=pkT g st ep (ro (shT g D) i):=fun i hi=>by
  rw[<-h.held i hi];exact(rd_at h.calm.1 (h.wr i hi).th).symm
 refine⟨⟨fun i hi hu=>?_,fun i hi hu=>?_,P.calm.1⟩,cnt_disks hT.1 hT.2.1 hT.2.2.1 hn hS,P.calm,fun i hi=>⟨fun k0 hm=>?_,fun hk=>?_⟩⟩
 ·have hu':=of_decide_eq_false hu;unfold rbT;rw[rd_at P.calm.1 (th' i hi),P.else_ _ (h.wr i hi).th.1 hu'];exact rd0 i hi
 ·refine hs_no ?_
  unfold rbT;rw[rd_at P.calm.1 (th' i hi),P.at' _ (of_decide_eq_true hu)];exact hd_up hT (hrow i hi) (rd0 i hi)
 ·unfold lvT;rw[P.at' _ hm,hdD_dead (h.wr i hi).al,Zy k0];simp
 ·by_cases hm:diG g st (i:Int)∈S
  ·have k0:kind≠0:=hk.resolve_right fun q=>q hm
   refine⟨th' i hi,?_,?_⟩
   ·rw[P.at' _ hm,hdD_dead (h.wr i hi).al,Zx k0]
   ·rw[P.at' _ hm,hdD_s];exact(h.wr i hi).rm
  ·refine⟨th' i hi,?_,?_⟩
   ·rw[P.else_ _ (h.wr i hi).th.1 hm];exact(h.wr i hi).al
   ·rw[P.else_ _ (h.wr i hi).th.1 hm];exact(h.wr i hi).rm
theorem WrT.lv{i:Nat}(h:WrT a g st i):lvT a (diG g st (i:Int))=true:=by
 unfold lvT;rw[Zy h.th,h.al];rfl
theorem back15(hT:OkT g st ep){D:List UInt8}(hD:LenT g D)(h:WholeT a g st ep D){kind at_:Int}{S:List Int}(hn:S.Nodup)(hS:∀d,d∈S->0<=d/\d<((nT g:Nat):Int)){a':ArS}(ha:a'=hrT kind (stG g st) at_ a S S.length):
  (g.m.toNat<S.length->rtX a' g st ep=150/\rtD a' g st ep=[]/\rtB a' g st ep=[])/\
  (S.length<=g.m.toNat->rtX a' g st ep=0/\rtD a' g st ep=D/\(rtB a' g st ep).length=(if kind=0 then 0 else S.length)/\
   fxX a' g st ep=0/\fxN a' g st ep=(rtB a' g st ep).length/\rtX (fxS a' g st ep) g st ep=0/\rtD (fxS a' g st ep) g st ep=D/\rtB (fxS a' g st ep) g st ep=[]):=by
 subst ha;obtain⟨H,hc,hcalm,hw⟩:=whole_hurt hT hD h (kind:=kind) (at_:=at_) hn hS;generalize hrT kind (stG g st) at_ a S S.length=a' at H hcalm hw ⊢;have hrow:∀i,i<nT g->(ro (shT g D) i).length<=4096:=fun i hi=>by rw[shT_row hD hT.1 hi];have:=okG_nat hT.1;omega
 refine⟨fun hf=>?_,fun hf=>?_⟩
 ·refine read_lost hT H.off (fun i hi e=>has_len hT.1 e) ?_
  rw[cnt_congr (q:=fun i=>decide (diG g st (i:Int)∈S)) fun i hi=>by rw[held_has hT hD H hi,Bool.not_not],hc];exact hf
 ·have hf':cnt (fun i=>decide (diG g st (i:Int)∈S)) (nT g)<=g.m.toNat:=by rw[hc];exact hf
  obtain⟨x1,x2,x3⟩:=held_all hT hD H hf';obtain⟨r0,r1,r2⟩:=held_read hT hD H hf';have b0:=held_bd hT hD H hf';have hfx:fxX a' g st ep=(if pcT a' g st ep (shT g D) (bdT a' g st ep)=true then 130 else 0):=by unfold fxX;rw[if_pos r0,x2]
  have hfs:fxS a' g st ep=psT a' g st ep (shT g D) (bdT a' g st ep) (bdT a' g st ep).length:=by unfold fxS;rw[if_pos r0,x2]
  have hmem:∀i,i∈bdT a' g st ep->i<nT g/\diG g st (i:Int)∈S/\lvT a' (diG g st (i:Int))=true:=fun i hi=>by
   rw[b0,plc_mem]at hi;have:=hi.2;rw[Bool.and_eq_true]at this;exact⟨hi.1,of_decide_eq_true this.1,this.2⟩
  have hwr:∀i,i∈bdT a' g st ep->i<nT g/\WrT a' g st i:=fun i hi=>by
   obtain⟨m1,m2,m3⟩:=hmem i hi;refine⟨m1,(hw i m1).2 (Or.inl fun k0=>?_)⟩;rw[(hw i m1).1 k0 m2]at m3;cases m3
  have hnd:(bdT a' g st ep).Nodup:=by rw[b0];exact plc_nodup _ _
  obtain⟨P,n1,c1⟩:=ps_all hT hcalm (R:=shT g D) hnd hwr (fun i hi=>hrow i (hwr i hi).1);have f0:fxX a' g st ep=0:=by rw[hfx,c1];rfl
  have hlen:(rtB a' g st ep).length=(if kind=0 then 0 else S.length):=by
   rw[r2,plc_length]
   by_cases k0:kind=0
   ·rw[if_pos k0];refine cnt_none fun i hi=>?_
    by_cases hm:diG g st (i:Int)∈S
    ·rw[(hw i hi).1 k0 hm,Bool.and_false]
    ·rw[Zx hm];rfl
   ·rw[if_neg k0,<-hc];exact cnt_congr fun i hi=>by rw[((hw i hi).2 (Or.inl k0)).lv,Bool.and_true]
  --behind the fix
  have hrest:∀i,i<nT g->i ∉ bdT a' g st ep->diG g st (i:Int)∈S->kind=0:=fun i hi hne hm=>by
   refine Classical.byContradiction fun k0=>hne ?_
   rw[b0,plc_mem];exact⟨hi,by rw[((hw i hi).2 (Or.inl k0)).lv,Zy hm];rfl⟩
  have H2:HeldT (fxS a' g st ep) g st ep (shT g D) (fun i=>decide (kind=0)&&decide (diG g st (i:Int)∈S)):=by
   rw[hfs];refine⟨fun i hi hu=>?_,fun i hi hu=>?_,P.calm.1⟩
   ·by_cases hb:i∈bdT a' g st ep
    ·exact PutT.rb hT hwr (fun i hi=>hrow i (hwr i hi).1) P i hb
    ·rw[PutT.rb_else hT hcalm hwr P hi hb];refine H.ok i hi (Zx fun hm=>?_);rw[hrest i hi hb hm,Zy hm]at hu;cases hu
   ·rw[Bool.and_eq_true]at hu;have hm:=of_decide_eq_true hu.2;have k0:kind=0:=of_decide_eq_true hu.1;have hb:i ∉ bdT a' g st ep:=fun hb=>by
     have:=(hmem i hb).2.2;rw[(hw i hi).1 k0 hm]at this;cases this
    have e:=PutT.rb_else hT hcalm hwr P hi hb;have:=H.bad i hi (Zy hm);unfold hsF at this ⊢;rw[e];exact this
  have hc2:cnt (fun i=>decide (kind=0)&&decide (diG g st (i:Int)∈S)) (nT g)<=g.m.toNat:=Nat.le_trans (cnt_mono fun i hi h=>by rw[Bool.and_eq_true]at h;exact h.2) hf';obtain⟨r3,r4,r5⟩:=held_read hT hD H2 hc2;have bn:bdT a' g st ep=rtB a' g st ep:=by unfold rtB;rw[if_pos r0]
  refine⟨r0,r1,hlen,f0,?_,r3,r4,?_⟩
  ·unfold fxN;rw[if_pos f0,x2,n1,bn]
  ·rw[r5];refine plc_none fun i hi=>?_
   by_cases hu:kind=0/\diG g st (i:Int)∈S
   ·have hlv:=(hw i hi).1 hu.1 hu.2
    have:lvT (fxS a' g st ep) (diG g st (i:Int))=lvT a' (diG g st (i:Int)):=by
     have din:=diG_in hT.1 hT.2.1 hT.2.2.1 hi;unfold lvT;rw[hfs,(P.keeps din.1).1];have e:thA (psT a' g st ep (shT g D) (bdT a' g st ep) (bdT a' g st ep).length) (diG g st (i:Int))↔thA a' (diG g st (i:Int)):=by unfold thA;rw[P.len]
     rw[decide_eq_decide.2 e]
    rw[this,hlv,Bool.and_false]
   ·have:(decide (kind=0)&&decide (diG g st (i:Int)∈S))=false:=by
     rw[<-Bool.decide_and];exact Zx hu
    rw[this];rfl
theorem whole_write(hT:OkT g st ep){D:List UInt8}(hD:LenT g D)(hc:Calm a)(hw:∀i,i<nT g->WrT a g st i):swX a g st ep D=0/\WholeT (swS a g st ep D) g st ep D/\PutT a (swS a g st ep D) g st ep (shT g D) (List.range (nT g)):=by
 have hrow:∀i,i<nT g->(ro (shT g D) i).length<=4096:=fun i hi=>by rw[shT_row hD hT.1 hi];have:=okG_nat hT.1;omega
 have hB:∀i,i∈List.range (nT g)->i<nT g/\WrT a g st i:=fun i hi=>⟨List.mem_range.1 hi,hw i (List.mem_range.1 hi)⟩
 obtain⟨P,n1,c1⟩:=ps_all hT hc (R:=shT g D) List.nodup_range hB (fun i hi=>hrow i (List.mem_range.1 hi));rw[List.length_range]at P;have e:swS a g st ep D=psT a g st ep (shT g D) (List.range (nT g)) (nT g):=if_pos ⟨hT,hD⟩;refine⟨?_,?_,by rw[e];exact P⟩
 ·unfold swX;rw[if_pos hT,if_pos hD,c1];rfl
 ·rw[e];refine⟨P.calm,fun i hi=>PutT.rb hT hB (fun i hi=>hrow i (List.mem_range.1 hi)) P i (List.mem_range.2 hi),fun i hi=>?_⟩;have din:=diG_in hT.1 hT.2.1 hT.2.2.1 hi;have k:=P.keeps din.1;exact⟨⟨(hw i hi).th.1,by rw[P.len];exact(hw i hi).th.2⟩,by rw[k.1];exact(hw i hi).al,by rw[k.2];exact(hw i hi).rm⟩
end
theorem rdAB_len{a:ArS}(h:a.Ok)(i ad:Int):(rdAB a i ad).length<=100000:=by
 unfold rdAB
 split
 ·simp
 ·split
  ·rename_i ht
   have hd:=h.each _ (di_mem ht);unfold rdB
   split
   ·unfold atD;cases e:(diA a i).wait ad with
    |some b=>have:=hd.iw ad b e;show b.length<=_;omega
    |none=>
     cases e2:(diA a i).last ad with
     |some b=>have:=hd.il ad b e2;show b.length<=_;omega
     |none=>simp
   ·simp
  ·simp
theorem rdAX_crash{a:ArS}{i ad:Int}:rdAX a i ad=130↔a.off=true:=by
 unfold rdAX;cases h:a.off
 ·rw[if_neg Zd];refine⟨fun e=>?_,fun e=>by cases e⟩;exfalso
  split at e
  ·rcases faX_in (diA a i) ad with q|q|q<;>rw[q]at e<;>cases e
  ·cases e
 ·rw[if_pos rfl];exact⟨fun _=>rfl,fun _=>rfl⟩
theorem rdAB_no{a:ArS}{i ad:Int}(h:¬rdAX a i ad=0):rdAB a i ad=[]:=by
 unfold rdAX at h;unfold rdAB
 split
 ·rfl
 ·rename_i ho
  rw[if_neg ho]at h
  split
  ·rename_i ht
   rw[if_pos ht]at h;unfold rdB;rw[if_neg h]
  ·rfl
open Classical in
noncomputable def rtR(a:ArS)(g:GeoS)(st ep:Int):List (List UInt8):=if rtX a g st ep=0 then alR a g st ep else []
theorem rtX_off{a:ArS}{g:GeoS}{st ep:Int}(hT:OkT g st ep)(h:a.off=true):rtX a g st ep=130/\rtR a g st ep=[]/\rtB a g st ep=[]:=by
 have e:rtX a g st ep=130:=by unfold rtX alX;rw[if_pos hT,if_pos h]
 refine⟨e,?_,?_⟩
 ·unfold rtR;rw[e,if_neg Zd]
 ·unfold rtB;rw[e,if_neg Zd]
theorem rtR_row{a:ArS}{g:GeoS}{st ep:Int}(hT:OkT g st ep)(h0:rtX a g st ep=0):(rtR a g st ep).length=nT g/\∀i,i<nT g->(ro (rtR a g st ep) i).length=g.z.toNat:=by
 have z:=okG_nat hT.1;have ea:alX a g st ep=0:=by unfold rtX at h0;rw[if_pos hT]at h0;exact h0
 have eo:shX g.k g.m (hsT a g st ep) (dsT a g st)=0:=by
  unfold alX at ea
  split at ea
  ·cases ea
  ·split at ea
   ·assumption
   ·cases ea
 have er:rtR a g st ep=rowsP g.k.toNat g.m.toNat (hsT a g st ep) (dsT a g st) (oneX (hsT a g st ep) (dsT a g st)).toNat:=by
  unfold rtR alR shR;rw[if_pos h0,if_pos eo]
 have e1:oneX (hsT a g st ep) (dsT a g st)≠-1:=fun e=>by
  have:=(sh_shard (hs:=hsT a g st ep) (L:=dsT a g st) (okG_c hT.1) (fun q=>q.2.2 e)).1;rw[this]at eo;cases eo
 have e2:(oneX (hsT a g st ep) (dsT a g st)).toNat=g.z.toNat:=by
  rcases oneX_cases (hsT a g st ep) (dsT a g st)with c|⟨n,c1,c2,i,c3⟩
  ·exact absurd c e1
  ·have hi:i<nT g:=by rw[<-hsT_length (a:=a) (st:=st) (ep:=ep)];exact hb_in c3
   have c4:=c2 i c3;rw[hsT_hb hi]at c3;unfold dsT at c4;rw[ro_mkL hi,has_len hT.1 c3]at c4;rw[c1,c4];simp
 rw[er,e2];refine⟨rowsP_length _ _ _ _ _,fun i hi=>?_⟩;rw[rowsP_ro hi,upto_length]
section
variable {a:ArS} {g:GeoS} {st ep:Int}
def shdF(a:ArS)(g:GeoS)(st ep:Int)(i:Nat):List UInt8:=if hsF a g st ep i=true then upD (stG g st) (rbT a g st i)else []
def shdT(a:ArS)(g:GeoS)(st ep:Int):List (List UInt8):=mkL (nT g) (shdF a g st ep)
theorem shdT_length:(shdT a g st ep).length=nT g:=mkL_length _ _
theorem ls_sh:shX g.k g.m (hsT a g st ep) (shdT a g st ep)=shX g.k g.m (hsT a g st ep) (dsT a g st)/\shR g.k g.m (hsT a g st ep) (shdT a g st ep)=alR a g st ep/\shP g.k g.m (hsT a g st ep) (shdT a g st ep)=alP a g st ep:=
 sh_same (by rw[shdT_length,dsT_length]) fun i hi=>by
  have hi2:i<nT g:=by rw[<-hsT_length (a:=a) (st:=st) (ep:=ep)];exact hb_in hi
  rw[hsT_hb hi2]at hi;unfold shdT dsT;rw[ro_mkL hi2,ro_mkL hi2];exact if_pos hi
theorem ls_len(hg:okG g)(i:Nat):(shdF a g st ep i).length<=g.z.toNat:=by
 unfold shdF
 by_cases h:hsF a g st ep i=true
 ·rw[if_pos h,has_len hg h];exact Zr
 ·rw[if_neg h];simp
def gdF(a:ArS)(g:GeoS)(st ep:Int)(P:List Nat)(i:Nat):Bool:=hsF a g st ep i&& !decide (i∈P)
theorem gd_nil(i:Nat):gdF a g st ep [] i=hsF a g st ep i:=by simp[gdF]
theorem gd_snoc(P:List Nat)(j i:Nat):gdF a g st ep (P++[j]) i=if i=j then false else gdF a g st ep P i:=by
 unfold gdF
 by_cases e:i=j
 ·rw[if_pos e,e];simp
 ·rw[if_neg e];simp[e]
theorem bd_gd(i:Nat):bdF a g st ep i=(!gdF a g st ep (alP a g st ep) i&&lvT a (diG g st (i:Int))):=by
 unfold bdF gdF;rw[Bool.not_and,Bool.not_not]
theorem shP_in{k m:Int}{hs:List Bool}{L:List (List UInt8)}:∀i,i∈shP k m hs L->i<k.toNat+m.toNat:=fun i hi=>by
 unfold shP at hi
 split at hi
 ·exact(plc_mem.1 hi).1
 ·cases hi
theorem al_ok(ho:a.off=false):alX a g st ep=if shX g.k g.m (hsT a g st ep) (dsT a g st)=0 then 0 else 150:=by
 unfold alX;rw[if_neg (by rw[ho];decide)]
theorem lv_at{d:Int}(h0:0<=d):lvT a d=(decide (d<(a.D.length:Int))&& !(a.D.getD d.toNat default).dead):=by
 unfold lvT diA;congr 1;refine decide_eq_decide.2 ?_
 unfold thA;exact⟨fun q=>q.2,fun q=>⟨h0,q⟩⟩
end
section
variable {w:World} {pa pf:Option Addr} {g:GeoS} {st ep:Int}
theorem z27_3{p:Prop} (h:p:=by
 go_wp2;go_ret;exact⟨rfl,F0⟩
 ):p:=h
theorem piss_any{x:Bool}(hx:decide (0<=st/\st<g.s)=x):Calls Tryz.prog 50 #[aggP pa pf g st ep] w fun e w'=>e= .returned (.bool x)/\Below w.heap.size w w':=by
 subst hx;obtain⟨k,m,z,s,t,o⟩:=g;have L0:=(spot_new w pa pf ⟨k,m,z,s,t,o⟩ st ep 103).all;simp only[cellsP]at L0;obtain⟨x0,x1,x2,x3,x4,x5,x6,x7,x8,x9⟩:=L0;have F0:=belL w (.cells (cellsP pa pf ⟨k,m,z,s,t,o⟩ st ep) 103);simp only[cellsP]at F0;unfold aggP;simp only[cellsP]
 by_cases h1:0<=st
 ·by_cases h2:st<s
  ·rw[Zy ⟨h1,h2⟩];have h1':st>=0:=h1
   go_enter Tryz.func50,Tryz.ntmps50
   exact z27_3
  ·rw[Zx (fun q=>h2 q.2)];have h1':st>=0:=h1
   go_enter Tryz.func50,Tryz.ntmps50
   exact z27_3
 ·rw[Zx (fun q=>h1 q.1)];have h1':¬st>=0:=h1
  go_enter Tryz.func50,Tryz.ntmps50
  exact z27_3
theorem pise_any{x:Bool}(hx:decide (0<=ep/\ep<=2147483647)=x):Calls Tryz.prog 51 #[aggP pa pf g st ep] w fun e w'=>e= .returned (.bool x)/\Below w.heap.size w w':=by
 subst hx;obtain⟨k,m,z,s,t,o⟩:=g;have L0:=(spot_new w pa pf ⟨k,m,z,s,t,o⟩ st ep 103).all;simp only[cellsP]at L0;obtain⟨x0,x1,x2,x3,x4,x5,x6,x7,x8,x9⟩:=L0;have F0:=belL w (.cells (cellsP pa pf ⟨k,m,z,s,t,o⟩ st ep) 103);simp only[cellsP]at F0;unfold aggP;simp only[cellsP]
 by_cases h1:0<=ep
 ·by_cases h2:ep<=2147483647
  ·rw[Zy ⟨h1,h2⟩];have h1':ep>=0:=h1
   go_enter Tryz.func51,Tryz.ntmps51
   exact z27_3
  ·rw[Zx (fun q=>h2 q.2)];have h1':ep>=0:=h1
   go_enter Tryz.func51,Tryz.ntmps51
   exact z27_3
 ·rw[Zx (fun q=>h1 q.1)];have h1':¬ep>=0:=h1
  go_enter Tryz.func51,Tryz.ntmps51
  exact z27_3
theorem pcount_any{x:Int}(hx:IntKind.i64.wrap (g.k+g.m)=x):Calls Tryz.prog 55 #[aggP pa pf g st ep] w fun e w'=>e= .returned (.int .i64 x)/\Below w.heap.size w w':=by
 obtain⟨k,m,z,s,t,o⟩:=g;simp only at hx;have L0:=(spot_new w pa pf ⟨k,m,z,s,t,o⟩ st ep 103).all;simp only[cellsP]at L0;obtain⟨x0,x1,x2,x3,x4,x5,x6,x7,x8,x9⟩:=L0;have F0:=belL w (.cells (cellsP pa pf ⟨k,m,z,s,t,o⟩ st ep) 103);simp only[cellsP]at F0;unfold aggP;simp only[cellsP]
 go_enter Tryz.func55,Tryz.ntmps55
 exact z27_3
theorem z27_2{p:Prop} (h:p:=by
 go_wp2_with fail
 refine(K _).mono ?_
 rintro _ w1 ⟨rfl,B1⟩;have F1:=F0.stepL B1 F0.size;clear K B1 F0 x0 x1 x2 x3 x4 x5 x6 x7 x8 x9;go_wp2;go_ret;exact⟨rfl,F1⟩
 ):p:=h
theorem pplace_any(hg:g.Wf)(hst:(Lit.int .i64 st).wf=true){x:Int}(hx:stG g st=x):Calls Tryz.prog 86 #[aggP pa pf g st ep] w fun e w'=>e= .returned (.int .i64 x)/\Below w.heap.size w w':=by
 have K:=fun W=>@lstripe_any W g hg st hst x hx
 clear hx;obtain⟨k,m,z,s,t,o⟩:=g;rw[aggE]at K;have L0:=(spot_new w pa pf ⟨k,m,z,s,t,o⟩ st ep 103).all;simp only[cellsP]at L0;obtain⟨x0,x1,x2,x3,x4,x5,x6,x7,x8,x9⟩:=L0;have F0:=belL w (.cells (cellsP pa pf ⟨k,m,z,s,t,o⟩ st ep) 103);simp only[cellsP]at F0;unfold aggP;simp only[cellsP]
 go_enter Tryz.func86,Tryz.ntmps86
 exact z27_2
theorem pdisk_any(hg:g.Wf)(hst:(Lit.int .i64 st).wf=true){sh:Int}(hsh:(Lit.int .i64 sh).wf=true){x:Int}(hx:diG g st sh=x):Calls Tryz.prog 87 #[aggP pa pf g st ep,.int .i64 sh] w fun e w'=>e= .returned (.int .i64 x)/\Below w.heap.size w w':=by
 have K:=fun W=>@ldisk_any W g hg st sh hst hsh x hx
 clear hx;obtain⟨k,m,z,s,t,o⟩:=g;rw[aggE]at K;have L0:=(spot_new w pa pf ⟨k,m,z,s,t,o⟩ st ep 103).all;simp only[cellsP]at L0;obtain⟨x0,x1,x2,x3,x4,x5,x6,x7,x8,x9⟩:=L0;have F0:=belL w (.cells (cellsP pa pf ⟨k,m,z,s,t,o⟩ st ep) 103);simp only[cellsP]at F0;unfold aggP;simp only[cellsP]
 go_enter Tryz.func87,Tryz.ntmps87
 exact z27_2
end
def IdxB(w:World)(bs:List Bool)(e:Ending)(w':World):Prop:=∃z:Int,e= .returned (.int .i64 z)/\(0<=z↔false∈bs)/\w'=w
theorem idxb_any{w:World}{v:Value}{bs:List Bool}(h:RdB w v bs)(hl:bs.length<=1000):Calls Tryz.prog 123 #[v,.bool false] w (IdxB w bs):=by
 obtain⟨a,c,rfl⟩:=h.form;have H:Hid (RdB w (.slice a bs.length c) bs):=h;clear h
 go_enter Tryz.func123,Tryz.ntmps123
 go_wp2
 go_loopw [8] (fun i wr=>∃r:Nat,r<=bs.length/\i= .int .i64 (r:Int)/\wr=w/\∀j,j<r->hb bs j=true) (fun i _=>bs.length-(intOf i).toNat)
 case atStart=>exact⟨0,Zz,rfl,rfl,fun j hj=>absurd hj (Nat.not_lt_zero _)⟩
 case round=>
  obtain⟨r,hr,rfl,rfl,hall⟩:=hrel
  by_cases hlt:r<bs.length
  ·have hlt':(r:Int)<(bs.length:Int):=by omega
   have g1:IntKind.i64.wrap ((r:Int)+1)=((r+1:Nat):Int):=Zw
   obtain⟨b,off,rfl,_,cx⟩:=H.out.at hlt;cases hx:hb bs r with
   |false=>
    rw[hx]at cx;have E:Hid (false∈bs):=by
     show _∈_
     rw[<-hx];unfold hb;rw[show bs.getD r false=bs[r] by simp[List.getD,hlt]];exact List.getElem_mem hlt
    clear hall hx;go_wp2;go_ret;exact⟨_,rfl,⟨fun _=>E.out,fun _=>Zo⟩,rfl⟩
   |true=>
    rw[hx]at cx;have E:Hid (∀j,j<r+1->hb bs j=true):=fun j hj=>by
     by_cases e:j=r
     ·rw[e];exact hx
     ·exact hall j Zo
    clear hall hx;go_wp2;go_roundw
    case rel=>exact⟨r+1,Zo,Zg,by first|rfl|trivial,E.out⟩
    case measure=>simp[intOf];omega
  ·obtain rfl:r=bs.length:=by omega
   have hlt':¬(bs.length:Int)<(bs.length:Int):=Zo
   have E:Hid (¬false∈bs):=fun hm=>by
    obtain⟨j,hj,e⟩:=List.getElem_of_mem hm;have:=hall j hj;unfold hb at this;rw[show bs.getD j false=bs[j] by simp[List.getD,hj],e]at this;cases this
   clear hall;go_wp2;go_ret;exact⟨_,rfl,⟨fun h=>Zo,fun h=>absurd h E.out⟩,rfl⟩
theorem contb_any{w:World}{v:Value}{bs:List Bool}(h:RdB w v bs)(hl:bs.length<=1000):Calls Tryz.prog 84 #[v,.bool false] w fun e w'=>e= .returned (.bool (decide (false∈bs)))/\w'=w:=by
 have K:=idxb_any h hl;obtain⟨a,c,rfl⟩:=h.form;clear h
 by_cases hm:false∈bs
 ·rw[Zy hm]
  go_enter Tryz.func84,Tryz.ntmps84
  go_wp2_with fail
  refine K.mono ?_
  rintro _ wq ⟨z,rfl,hz,hwq⟩;rw[hwq];have z1:z>=0:=hz.2 hm;clear hwq wq K hz hm;go_wp2;go_ret;exact⟨rfl,rfl⟩
 ·rw[Zx hm]
  go_enter Tryz.func84,Tryz.ntmps84
  go_wp2_with fail
  refine K.mono ?_
  rintro _ wq ⟨z,rfl,hz,hwq⟩;rw[hwq];have z1:z<0:=by
   by_cases q:0<=z
   ·exact absurd (hz.1 q) hm
   ·omega
  have z2:¬0<=z:=Zo
  have z3:decide (0<=z)=false:=Zx z2;clear hwq wq K hz hm;go_wp2;go_ret;exact⟨rfl,rfl⟩
def rfX(g:GeoS)(bs:List Bool):Int:=if okG g then (if false∈bs then 1 else 0)else 50
section
variable {w:World} {g:GeoS} {st ep:Int}
theorem z27_1{p:Prop} (h:p:=by
 subst hx;clear hm
 go_enter Tryz.func49,Tryz.ntmps49
 go_wp2_with fail
 refine(KC _).mono ?_
 rintro _ w1 ⟨rfl,B1⟩;have F1:=F0.stepL B1 F0.size;have K1:=KK _ (hb.below F1);clear KC KK B1 F0 x0 x1 x2 x3 x4 x5 x6 x7 x8 x9
 go_wp2_with fail
 refine K1.mono ?_
 rintro _ wq ⟨rfl,hwq⟩;rw[hwq];clear hwq wq K1;go_wp2;go_ret;exact⟨rfl,F1⟩
 ):p:=h
theorem pref_any{ab fb:Nat}(hg:g.Wf){v:Value}{bs:List Bool}(hb:RdB w v bs)(hl:bs.length<=1000){x:Int}(hx:rfX g bs=x):Calls Tryz.prog 49 #[aggP (some ⟨ab,0,none⟩) (some ⟨fb,0,none⟩) g st ep,v] w fun e w'=>e= .returned (.int .i64 x)/\Below w.heap.size w w':=by
 have KC:=fun W=>@lcheck_any W g hg _ rfl
 have KK:=fun W (h:RdB W v bs)=>contb_any h hl
 by_cases ok:okG g
 ·have ec:chG g=0:=if_pos ok;rw[ec]at KC;have ex:rfX g bs=if false∈bs then 1 else 0:=if_pos ok
  rw[ex]at hx;clear ec ex ok;obtain⟨k,m,z,s,t,o⟩:=g;rw[aggE]at KC;have L0:=(spot_new w (some ⟨ab,0,none⟩) (some ⟨fb,0,none⟩) ⟨k,m,z,s,t,o⟩ st ep 103).all;simp only[cellsP]at L0;obtain⟨x0,x1,x2,x3,x4,x5,x6,x7,x8,x9⟩:=L0;have F0:=belL w (.cells (cellsP (some ⟨ab,0,none⟩) (some ⟨fb,0,none⟩) ⟨k,m,z,s,t,o⟩ st ep) 103);simp only[cellsP]at F0;unfold aggP;simp only[cellsP];obtain⟨va,vc,rfl⟩:=hb.form
  by_cases hm:false∈bs
  ·rw[Zy hm]at KK;rw[if_pos hm]at hx;exact z27_1
  ·rw[Zx hm]at KK;rw[if_neg hm]at hx;exact z27_1
 ·have ec:chG g=50:=if_neg ok;rw[ec]at KC;have ex:rfX g bs=50:=if_neg ok;rw[ex]at hx;subst hx;clear ec ex ok KK;obtain⟨k,m,z,s,t,o⟩:=g;rw[aggE]at KC;have L0:=(spot_new w (some ⟨ab,0,none⟩) (some ⟨fb,0,none⟩) ⟨k,m,z,s,t,o⟩ st ep 103).all;simp only[cellsP]at L0;obtain⟨x0,x1,x2,x3,x4,x5,x6,x7,x8,x9⟩:=L0;have F0:=belL w (.cells (cellsP (some ⟨ab,0,none⟩) (some ⟨fb,0,none⟩) ⟨k,m,z,s,t,o⟩ st ep) 103);simp only[cellsP]at F0;unfold aggP;simp only[cellsP];obtain⟨va,vc,rfl⟩:=hb.form
  go_enter Tryz.func49,Tryz.ntmps49
  go_wp2_with fail
  refine(KC _).mono ?_
  rintro _ w1 ⟨rfl,B1⟩;have F1:=F0.stepL B1 F0.size;clear KC B1 F0 x0 x1 x2 x3 x4 x5 x6 x7 x8 x9;go_wp2;go_ret;exact⟨rfl,F1⟩
end
end Go.Proofs.YtddnfhfangfgeaaGreat.Gf
