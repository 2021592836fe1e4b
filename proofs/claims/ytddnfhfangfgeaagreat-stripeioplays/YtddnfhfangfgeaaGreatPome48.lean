/- TEXTS JOINED: StTold, StCW, StCB. -/
import Derived.Test.YtddnfhfangfgeaaGreatPome47
import Derived.Test.YtddnfhfangfgeaaGreatPome41
set_option maxHeartbeats 4000000
set_option maxRecDepth 100000
namespace Go.Proofs.YtddnfhfangfgeaaGreat.Gf
set_option linter.unusedVariables false
set_option linter.unusedSimpArgs false
open Go.RowKit
structure ToldL(w:World)(G:Nat->Prop)(v:Value)(L:List (List UInt8)):Prop where
 rs:Rs w v L
 ap:∀(b off n c:Nat),v= .slice (some ⟨b,off,none⟩) n c->L.length=0∨¬G b
 each:∀(i b off n c:Nat) (x:Value),i<L.length->v= .slice (some ⟨b,off,none⟩) n c->w.cell? ⟨b,off+i,none⟩=some x->ApartG G x
section
variable {w w':World} {G G':Nat->Prop} {v:Value} {L:List (List UInt8)}
theorem ToldL.spot(h:ToldL w G v L){i b off n c:Nat}(hi:i<L.length)(e:v= .slice (some ⟨b,off,none⟩) n c):∃xa xc,w.cell? ⟨b,off+i,none⟩=some (.slice xa (ro L i).length xc)/\Told w G (.slice xa (ro L i).length xc) (ro L i)/\b<w.heap.size/\¬G b:=by
 have hr:=h.rs;subst e;obtain⟨b',off',xa,xc,e1,hb,hc,hR⟩:=hr.at hi;simp at e1;obtain⟨rfl,rfl⟩:=e1;exact⟨xa,xc,hc,⟨hR,h.each i _ _ _ _ _ hi rfl hc⟩,hb,(h.ap _ _ _ _ rfl).resolve_left (by omega)⟩
theorem ToldL.keep(h:ToldL w G v L)(hs:w.heap.size<=w'.heap.size)(hc:∀k,k<w.heap.size->¬G k->w'.heap[k]? =w.heap[k]?)(hG:∀k,k<w.heap.size->¬G k->¬G' k)(hR:∀x p,Told w G x p->Told w' G' x p):ToldL w' G' v L:=by
 have hr:=h.rs;obtain⟨a,cap,h1,h2,h3,h4,h5⟩:=hr;have cell:∀i b off,i<L.length->a=some ⟨b,off,none⟩->w'.cell? ⟨b,off+i,none⟩=w.cell? ⟨b,off+i,none⟩:=fun i b off hi e=>by
  obtain⟨_,_,_,_,hb,hg⟩:=h.spot hi (h1.trans (by rw[e]));exact World.cell?_of_block (w:=w) (hc b hb hg)
 refine⟨⟨a,cap,h1,h2,h3,h4,fun i hi=>?_⟩,fun b off n c e=>?_,fun i b off n c x hi e hx=>?_⟩
 ·obtain⟨b,off,x,k1,k2,k3,k4⟩:=h5 i hi;exact⟨b,off,x,k1,Nat.lt_of_lt_of_le k2 hs,(cell i b off hi k1).trans k3,(hR x _ ⟨k4,h.each i b off _ _ x hi (h1.trans (by rw[k1])) k3⟩).rd⟩
 ·rcases Nat.eq_zero_or_pos L.length with e0|e0
  ·exact Or.inl e0
  ·obtain⟨_,_,_,_,hb,hg⟩:=h.spot e0 e;exact Or.inr (hG b hb hg)
 ·have ea:a=some ⟨b,off,none⟩:=by
   rw[h1]at e;simp at e;exact e.1
  rw[cell i b off hi ea]at hx;obtain⟨xa,xc,hc2,hT,_⟩:=h.spot hi e;rw[hx]at hc2;simp at hc2;subst hc2;exact(hR _ _ hT).ap
theorem ToldL.below(h:ToldL w G v L)(hb:Below w.heap.size w w'):ToldL w' G v L:=h.keep hb.size (fun k hk _=>hb.block k hk) (fun _ _ hg=>hg) (fun x p t=>t.below hb)
theorem ToldL.grew(h:ToldL w G v L)(g:Grew G w G' w'):ToldL w' G' v L:=h.keep g.turn.size (fun k hk hg=>g.turn.block k hk hg) (fun k hk hg=>g.off hk hg) (fun x p t=>t.grew g)
theorem ToldL.turn(h:ToldL w G v L)(t:TurnG G w w'):ToldL w' G v L:=h.grew (Grew.of_turn t)
theorem ToldL.far{base:Nat}(h:FarL w base v L)(hG:∀k,G k->k<base):ToldL w G v L:=by
 have hr:=h.rs;obtain⟨T,u,vals,hv,ho⟩:=h;have hlen:vals.length=L.length:=by have:=hv.1;omega
 refine⟨hr,fun b off n c e=>?_,fun i b off n c x hi e hx=>?_⟩
 ·refine Or.inr fun hg=>?_
  have:=World.ownsRow.lt hv b (by rw[e];rfl);have:=hG b hg;omega
 ·obtain⟨_,⟨e2,hn⟩|⟨g,cap,cur,e2,hgg,hh,hc,hm,hs,ht⟩⟩:=id hv
  ·omega
  ·rw[e]at e2;simp at e2;obtain⟨⟨rfl,rfl⟩,rfl,rfl⟩:=e2;rw[e]at hv;rw[Nat.zero_add,World.ownsRow.cellAt hv i (by omega)]at hx;have hp:=ho.own i x hx;exact ApartG.own hp (fun k hk=>hG k hk)
end
def wnT(a:ArS)(g:GeoS)(st ep:Int)(R:List (List UInt8))(B:List Nat):Nat:=if pcT a g st ep R B=true then 0 else pnT a g st ep R B B.length
def wxT(a:ArS)(g:GeoS)(st ep:Int)(R:List (List UInt8))(B:List Nat):Int:=if pcT a g st ep R B=true then 130 else 0
theorem wf_small{x:Int}(h0:0<=x)(h1:x<=100000):(Lit.int .i64 x).wf=true:=by
 simp[Lit.wf,IntKind.min,IntKind.max,IntKind.signed,IntKind.bits];omega
theorem getD_memN{B:List Nat}{r:Nat}(h:r<B.length):B.getD r 0∈B:=by
 rw[show B.getD r 0=B[r] by simp[List.getD,h]];exact List.getElem_mem h
theorem pwrite_any{w:World}{ab:Nat}{GA:Nat->Prop}{a:ArS}(h:ArAt w ab GA a){pf:Option Addr}{g:GeoS}(hg:g.Wf){st ep:Int}(hst:(Lit.int .i64 st).wf=true)(hT:OkT g st ep){vs vi:Value}{R:List (List UInt8)}{B:List Nat}(hR:ToldL w GA vs R)(hI:ToldI w GA vi B)(hB:∀i,i∈B->i<nT g/\i<R.length)(hrow:∀i,i<R.length->(ro R i).length<=4096)(hl:B.length<=1000):
  Calls Tryz.prog 52 #[aggP (some ⟨ab,0,none⟩) pf g st ep,vs,vi] w (LeavesA w ab GA (psT a g st ep R B B.length) (.tuple #[.int .i64 ((wnT a g st ep R B:Nat):Int),.int .i64 (wxT a g st ep R B)])):=by
 have zz:=okG_nat hT.1;have sin:=stG_in hT.1 hT.2.1 hT.2.2.1;obtain⟨at_,t0⟩:∃x,Hid (x=stG g st):=⟨_,rfl⟩;rw[<-t0.out]at sin;obtain⟨AR,hAR⟩:∃AR:Nat->ArS,Hid (AR=psT a g st ep R B):=⟨_,rfl⟩;obtain⟨PN,hPN⟩:∃PN:Nat->Nat,Hid (PN=pnT a g st ep R B):=⟨_,rfl⟩;have AR0:Hid (AR 0=a):=by show _=_;rw[hAR.out];rfl
 have PN0:Hid (PN 0=0):=by show _=_;rw[hPN.out];rfl
 have ARs:Hid (∀r,AR (r+1)=puS (AR r) g st ep (B.getD r 0) (ro R (B.getD r 0))):=fun r=>by rw[hAR.out];rfl
 have PNs:Hid (∀r,PN (r+1)=PN r+(if puX (AR r) g st ep (B.getD r 0) (ro R (B.getD r 0))=0 then 1 else 0)):=fun r=>by rw[hPN.out,hAR.out];rfl
 have SX:Hid (∀r,r<B.length->(AR r).off=true->wnT a g st ep R B=0/\wxT a g st ep R B=130/\psT a g st ep R B B.length=AR r):=fun r hr ho=>by
  rw[hAR.out]at ho ⊢;obtain⟨q1,q2⟩:=pc_at hr ho;exact⟨if_pos q1,if_pos q1,q2⟩
 have SN:Hid ((∀r,r<B.length->(AR r).off=false)->wnT a g st ep R B=PN B.length/\wxT a g st ep R B=0/\psT a g st ep R B B.length=AR B.length):=fun ho=>by
  have q1:¬pcT a g st ep R B=true:=by rw[pc_end (fun i hi=>by rw[<-hAR.out];exact ho i hi)];decide
  exact⟨by rw[hPN.out];exact if_neg q1,if_neg q1,by rw[hAR.out]⟩
 have PNle:Hid (∀r,r<=1001->PN r<=r):=fun r _=>by
  rw[hPN.out]
  induction r with
  |zero=>exact Nat.le_refl _
  |succ r ih=>
   have:=ih (by omega)
   show pnT a g st ep R B r+_<=_
   split<;>omega
 have KP:=fun W=>@pplace_any W (some ⟨ab,0,none⟩) pf g st ep hg hst _ t0.out.symm
 have KD:=fun W (i:Nat) (hi:i<nT g)=>@pdisk_any W (some ⟨ab,0,none⟩) pf g st ep hg hst (i:Int) (wf_small (by omega) (by have:=zz.2.2.2.2.1;omega)) _ rfl
 have KK:=fun W (v:Value) (b:List UInt8) (hb:b.length<=4096) (hr:Rd W v b)=>spack_any (a:=at_) (e:=ep) hr
 have KX:Hid (∀b:List UInt8,b.length<=4096->paX at_ ep b=0/\paR at_ ep b=pkT g st ep b):=fun b hb=>by
  rw[t0.out];exact pa_ok (hT.se hb)
 have DI:Hid (∀i:Nat,i<nT g->0<=diG g st (i:Int)/\diG g st (i:Int)<=100000):=fun i hi=>by
  have:=diG_in hT.1 hT.2.1 hT.2.2.1 hi;have:=zz.2.2.2.2.1;omega
 have EX:Hid (∀r,puX (AR r) g st ep (B.getD r 0) (ro R (B.getD r 0))=wrAX (AR r) (diG g st ((B.getD r 0:Nat):Int)) at_ (pkT g st ep (ro R (B.getD r 0)))):=fun r=>by rw[t0.out];rfl
 have ES:Hid (∀r,puS (AR r) g st ep (B.getD r 0) (ro R (B.getD r 0))=wrAS (AR r) (diG g st ((B.getD r 0:Nat):Int)) at_ (pkT g st ep (ro R (B.getD r 0)))):=fun r=>by rw[t0.out];rfl
 have wat:(Lit.int .i64 at_).wf=true:=wf_small (by omega) (by omega);have HB:Hid (∀i,i∈B->i<nT g/\i<R.length):=hB;have Hrow:Hid (∀i,i<R.length->(ro R i).length<=4096):=hrow;have HGA:Hid (∀k,GA k->k<w.heap.size):=h.lt;clear zz sin t0 hAR hPN hB hrow hT;obtain⟨DG,hDG⟩:∃DG:Nat->Int,Hid (DG=fun i:Nat=>diG g st (i:Int)):=⟨_,rfl⟩;have KD':∀W (i:Nat),i<nT g->Calls Tryz.prog 87 #[aggP (some ⟨ab,0,none⟩) pf g st ep,.int .i64 (i:Int)] W fun e w'=>e= .returned (.int .i64 (DG i))/\Below W.heap.size W w':=fun W i hi=>by rw[hDG.out];exact KD W i hi
 have DI':Hid (∀i:Nat,i<nT g->0<=DG i/\DG i<=100000):=by rw[hDG.out];exact DI
 have EX':Hid (∀r,puX (AR r) g st ep (B.getD r 0) (ro R (B.getD r 0))=wrAX (AR r) (DG (B.getD r 0)) at_ (pkT g st ep (ro R (B.getD r 0)))):=by rw[hDG.out];exact EX
 have ES':Hid (∀r,puS (AR r) g st ep (B.getD r 0) (ro R (B.getD r 0))=wrAS (AR r) (DG (B.getD r 0)) at_ (pkT g st ep (ro R (B.getD r 0)))):=by rw[hDG.out];exact ES
 clear KD DI EX ES hDG;obtain⟨k,m,z,s,t,o⟩:=g;obtain⟨fin1,hf1⟩:∃x,Hid (x=psT a ⟨k,m,z,s,t,o⟩ st ep R B B.length):=⟨_,rfl⟩;obtain⟨fin2,hf2⟩:∃x,Hid (x=wnT a ⟨k,m,z,s,t,o⟩ st ep R B):=⟨_,rfl⟩;obtain⟨fin3,hf3⟩:∃x,Hid (x=wxT a ⟨k,m,z,s,t,o⟩ st ep R B):=⟨_,rfl⟩;rw[<-hf1.out,<-hf2.out,<-hf3.out];have LB:=spot_laid w (some ⟨ab,0,none⟩) pf ⟨k,m,z,s,t,o⟩ st ep 103;unfold aggP at KP KD' ⊢;simp only[cellsP]at KP KD' LB ⊢;obtain⟨sa,sc,rfl⟩:=hR.rs.form;obtain⟨ia,ic,rfl⟩:=hI.form;obtain⟨W0,hW0⟩:∃W0,W0=w.alloc (.cells #[.pointer (some ⟨ab,0,none⟩),.pointer pf,.int .i64 k,.int .i64 m,.int .i64 z,.int .i64 s,.int .i64 t,.int .i64 o,.int .i64 st,.int .i64 ep] 103):=⟨_,rfl⟩;rw[<-hW0]at LB;obtain⟨SP0,F0⟩:=LB _ (Below.refl _ _);have HSP:Hid (SpotAt W0 w.heap.size (some ⟨ab,0,none⟩) pf ⟨k,m,z,s,t,o⟩ st ep/\¬GA w.heap.size):=⟨SP0,fun q=>Nat.lt_irrefl _ (HGA.out _ q)⟩;have TL:Hid (ToldL W0 GA (.slice sa R.length sc) R):=hR.below F0;have TI:Hid (ToldI W0 GA (.slice ia B.length ic) B):=hI.below F0;have A0:Hid (ArAt W0 ab GA (AR 0)):=by rw[AR0.out];exact h.below F0
 have G0:Hid (Grew GA w GA W0):=Grew.of_below F0;clear LB SP0 F0 hR hI h
 go_enter Tryz.func52,Tryz.ntmps52
 go_wp2_with fail
 rw[<-hW0];clear hW0;go_step3
 go_wp2_with fail
 go_step3
 go_wp2_with fail
 go_loopw [8,9,16] (fun wn wt i wr=>∃r:Nat,r<=B.length/\i= .int .i64 (r:Int)/\wn= .int .i64 ((PN r:Nat):Int)/\wt= .int .i64 0/\(∃G',ArAt wr ab G' (AR r)/\Grew GA W0 G' wr)/\∀j,j<r->(AR j).off=false) (fun _ _ i _=>B.length-(intOf i).toNat)
 case atStart=>exact⟨0,Nat.zero_le _,rfl,by rw[PN0.out];rfl,rfl,⟨GA,A0.out,Grew.refl _ _⟩,fun j hj=>absurd hj (Nat.not_lt_zero _)⟩
 case round=>
  clear A0;obtain⟨r,hr,rfl,rfl,rfl,⟨G',hA,hGr⟩,hoff⟩:=hrel;obtain⟨pn,hpn⟩:∃pn,Hid (PN r=pn):=⟨_,rfl⟩;rw[hpn.out]
  by_cases hlt:r<B.length
  ·have hlt':(r:Int)<(B.length:Int):=by omega
   have g1:IntKind.i64.wrap ((r:Int)+1)=((r+1:Nat):Int):=by rw[IntKind.wrap_i64];omega
   obtain⟨sh,hsh⟩:∃sh,Hid (B.getD r 0=sh):=⟨_,rfl⟩;obtain⟨hsn,hsR⟩:Hid (sh<nT ⟨k,m,z,s,t,o⟩)/\sh<R.length:=by
    have:=HB.out _ (getD_memN hlt);rw[hsh.out]at this;exact this
   have hsR':(sh:Int)<(R.length:Int):=by omega
   obtain⟨ib,rfl,_,_,ci⟩:=(TI.out.grew hGr).at hlt;rw[hsh.out]at ci;obtain⟨xb,xo,esx⟩:∃xb xo,sa=some ⟨xb,xo,none⟩:=by
    obtain⟨b,off,_,_,e,_⟩:=TL.out.rs.at hsR;exact⟨b,off,e⟩
   subst esx;obtain⟨xa,xc,cx,Tx,xlt,xng⟩:=(TL.out.grew hGr).spot hsR rfl;obtain⟨LN,hLN⟩:∃LN,Hid (LN=(ro R sh).length):=⟨_,rfl⟩;rw[<-hLN.out]at cx Tx;have ng:Hid (¬G' w.heap.size):=hGr.off HSP.out.1.lt HSP.out.2;have SPr:Hid (SpotAt wr w.heap.size (some ⟨ab,0,none⟩) pf ⟨k,m,z,s,t,o⟩ st ep):=HSP.out.1.turn HSP.out.2 hGr.turn;have BD:Below wr.heap.size wr wr.drew:=(Below.refl _ _).drew;have SE:Hid (∀W,Below wr.heap.size wr W->W.cell? ⟨xb,xo+sh,none⟩=some (.slice xa LN xc)/\W.cell? ⟨w.heap.size,0,none⟩=some (.pointer (some ⟨ab,0,none⟩))/\W.cell? ⟨w.heap.size,1,none⟩=some (.pointer pf)/\W.cell? ⟨w.heap.size,2,none⟩=some (.int .i64 k)/\W.cell? ⟨w.heap.size,3,none⟩=some (.int .i64 m)/\W.cell? ⟨w.heap.size,4,none⟩=some (.int .i64 z)/\W.cell? ⟨w.heap.size,5,none⟩=some (.int .i64 s)/\W.cell? ⟨w.heap.size,6,none⟩=some (.int .i64 t)/\W.cell? ⟨w.heap.size,7,none⟩=some (.int .i64 o)/\W.cell? ⟨w.heap.size,8,none⟩=some (.int .i64 st)/\W.cell? ⟨w.heap.size,9,none⟩=some (.int .i64 ep)):=fun W b=>⟨(b.cell (p:=⟨xb,xo+sh,none⟩) xlt).trans cx,(SPr.out.below SPr.out.lt b).all⟩
   have SB:Hid (∀W,Below wr.drew.heap.size wr.drew W->W.cell? ⟨xb,xo+sh,none⟩=some (.slice xa LN xc)/\W.cell? ⟨w.heap.size,0,none⟩=some (.pointer (some ⟨ab,0,none⟩))/\W.cell? ⟨w.heap.size,1,none⟩=some (.pointer pf)/\W.cell? ⟨w.heap.size,2,none⟩=some (.int .i64 k)/\W.cell? ⟨w.heap.size,3,none⟩=some (.int .i64 m)/\W.cell? ⟨w.heap.size,4,none⟩=some (.int .i64 z)/\W.cell? ⟨w.heap.size,5,none⟩=some (.int .i64 s)/\W.cell? ⟨w.heap.size,6,none⟩=some (.int .i64 t)/\W.cell? ⟨w.heap.size,7,none⟩=some (.int .i64 o)/\W.cell? ⟨w.heap.size,8,none⟩=some (.int .i64 st)/\W.cell? ⟨w.heap.size,9,none⟩=some (.int .i64 ep)):=fun W b=>SE.out W (BD.stepL b BD.size)
   have s0:=SE.out wr (Below.refl _ _);have sD:=SE.out _ BD;have RX:Hid (∀W,Below wr.heap.size wr W->Rd W (.slice xa LN xc) (ro R sh)):=fun W b=>Tx.rd.below b
   obtain⟨pk,hpk⟩:∃pk,Hid (pk=pkT ⟨k,m,z,s,t,o⟩ st ep (ro R sh)):=⟨_,rfl⟩;have KK1:∀W,Rd W (.slice xa LN xc) (ro R sh)->Calls Tryz.prog 85 #[.int .i64 at_,.int .i64 ep,.slice xa LN xc] W (MakesS W 0 pk):=fun W hr=>by
    have:=KK W _ (ro R sh) (Hrow.out _ hsR) hr;rw[(KX.out _ (Hrow.out _ hsR)).1,(KX.out _ (Hrow.out _ hsR)).2,<-hpk.out]at this;exact this
   have KD1:=fun W=>KD' W sh hsn
   obtain⟨dd,hdd⟩:∃dd,Hid (dd=DG sh):=⟨_,rfl⟩;rw[<-hdd.out]at KD1;have wdd:(Lit.int .i64 dd).wf=true:=by rw[hdd.out];exact wf_small (DI'.out sh hsn).1 (DI'.out sh hsn).2
   obtain⟨px,hpx⟩:∃px,Hid (puX (AR r) ⟨k,m,z,s,t,o⟩ st ep sh (ro R sh)=px):=⟨_,rfl⟩;obtain⟨AN,hAN⟩:∃AN,Hid (puS (AR r) ⟨k,m,z,s,t,o⟩ st ep sh (ro R sh)=AN):=⟨_,rfl⟩;have KW:∀W,Below wr.heap.size wr W->∀{pa:Option Addr} {pc LP:Nat},Rd W (.slice pa LP pc) pk->Calls Tryz.prog 70 #[.pointer (some ⟨ab,0,none⟩),.int .i64 dd,.int .i64 at_,.slice pa LP pc] W (LeavesA W ab G' AN (.int .i64 px)):=fun W b _ _ _ hp=>by
    have:=awrite_any (hA.below b) wdd wat hp;have e1:=EX'.out r;have e2:=ES'.out r;rw[hsh.out,<-hdd.out,<-hpk.out,hpx.out]at e1;rw[hsh.out,<-hdd.out,<-hpk.out,hAN.out]at e2;rw[<-e1,<-e2]at this;exact this
   have ST:Hid (∀W G5 W5,Below wr.heap.size wr W->Grew G' W G5 W5->W5.cell? ⟨w.heap.size,0,none⟩=some (.pointer (some ⟨ab,0,none⟩))/\W5.cell? ⟨w.heap.size,1,none⟩=some (.pointer pf)/\W5.cell? ⟨w.heap.size,2,none⟩=some (.int .i64 k)/\W5.cell? ⟨w.heap.size,3,none⟩=some (.int .i64 m)/\W5.cell? ⟨w.heap.size,4,none⟩=some (.int .i64 z)/\W5.cell? ⟨w.heap.size,5,none⟩=some (.int .i64 s)/\W5.cell? ⟨w.heap.size,6,none⟩=some (.int .i64 t)/\W5.cell? ⟨w.heap.size,7,none⟩=some (.int .i64 o)/\W5.cell? ⟨w.heap.size,8,none⟩=some (.int .i64 st)/\W5.cell? ⟨w.heap.size,9,none⟩=some (.int .i64 ep)):=fun W G5 W5 b gg=>((SPr.out.below SPr.out.lt b).turn ng.out gg.turn).all
   have E2D:Hid (∀{v2 v3:World},Below v2.drew.heap.size v2.drew v3->Below v2.heap.size v2 v3):=fun b=>((Below.refl _ _).drew).stepL b (Nat.le_refl _)
   have HARs:Hid _:=ARs.out r;have HPNs:Hid _:=PNs.out r;rw[hsh.out]at HARs HPNs;clear cx Tx hA xlt xng wdd
   by_cases ho:(AR r).off=true
   ·have e1:px=130:=by rw[<-hpx.out];exact puX_crash.2 ho
    have e2:Hid (AN=AR r):=by show _=_;rw[<-hAN.out];exact puS_off ho _ _
    have E9:Hid _:=SX.out r hlt ho;clear ho hoff;subst e1
    go_wp2_with fail
    go_region_held3 (fun wx=>wx.cell? ⟨xb,xo+sh,none⟩=some (.slice xa LN xc)/\wx.cell? ⟨w.heap.size,0,none⟩=some (.pointer (some ⟨ab,0,none⟩))/\wx.cell? ⟨w.heap.size,1,none⟩=some (.pointer pf)/\wx.cell? ⟨w.heap.size,2,none⟩=some (.int .i64 k)/\wx.cell? ⟨w.heap.size,3,none⟩=some (.int .i64 m)/\wx.cell? ⟨w.heap.size,4,none⟩=some (.int .i64 z)/\wx.cell? ⟨w.heap.size,5,none⟩=some (.int .i64 s)/\wx.cell? ⟨w.heap.size,6,none⟩=some (.int .i64 t)/\wx.cell? ⟨w.heap.size,7,none⟩=some (.int .i64 o)/\wx.cell? ⟨w.heap.size,8,none⟩=some (.int .i64 st)/\wx.cell? ⟨w.heap.size,9,none⟩=some (.int .i64 ep)) (first|exact s0|exact sD|exact s1|exact s2) (first
     |(go_at_call 86;go_loud (refine(KP _).mono ?_);rintro _ v1 ⟨rfl,b1⟩;go_loud (have s1:=SB.out _ b1);go_loud (have E1:Hid (Below wr.heap.size wr v1):=BD.stepL b1 BD.size))
     |(go_at_call 85;go_loud (refine(KK1 _ (RX.out _ E1.out)).mono ?_);rintro _ v2 ⟨vp,rfl,R2,b2⟩;have E2:Hid (Below wr.heap.size wr v2):=E1.out.stepL b2 E1.out.size;have s2:=SE.out _ E2.out;obtain⟨pa,pc,rfl⟩:=R2.form))
    have HR2:Hid (Rd v2 (.slice pa pk.length pc) pk):=R2;have c2:=s2.2;clear s0 sD s1 s2 b1 b2 R2 E1;obtain⟨LP,hLP⟩:∃LP,Hid (LP=pk.length):=⟨_,rfl⟩;rw[<-hLP.out]at HR2 ⊢;have d2:=(SE.out _ (E2.out.drew)).2;have BD2:Hid (Below wr.heap.size wr v2.drew):=E2.out.drew
    go_wp2_with fail
    go_region_held3 (fun wx=>wx.cell? ⟨w.heap.size,0,none⟩=some (.pointer (some ⟨ab,0,none⟩))/\wx.cell? ⟨w.heap.size,1,none⟩=some (.pointer pf)/\wx.cell? ⟨w.heap.size,2,none⟩=some (.int .i64 k)/\wx.cell? ⟨w.heap.size,3,none⟩=some (.int .i64 m)/\wx.cell? ⟨w.heap.size,4,none⟩=some (.int .i64 z)/\wx.cell? ⟨w.heap.size,5,none⟩=some (.int .i64 s)/\wx.cell? ⟨w.heap.size,6,none⟩=some (.int .i64 t)/\wx.cell? ⟨w.heap.size,7,none⟩=some (.int .i64 o)/\wx.cell? ⟨w.heap.size,8,none⟩=some (.int .i64 st)/\wx.cell? ⟨w.heap.size,9,none⟩=some (.int .i64 ep)) (first|exact c2|exact d2|exact c3|exact c4|exact c5) (first
     |(go_at_call 87;go_loud (refine(KD1 _).mono ?_);rintro _ v3 ⟨rfl,b3⟩;have E3:Hid (Below wr.heap.size wr v3):=BD2.out.stepL b3 BD2.out.size;have c3:=(SE.out _ E3.out).2)
     |(go_at_call 86;go_loud (refine(KP _).mono ?_);rintro _ v4 ⟨rfl,b4⟩;have E4:Hid (Below wr.heap.size wr v4):=E3.out.stepL b4 E3.out.size;have c4:=(SE.out _ E4.out).2;go_loud (have R4:=(HR2.out.below (E2D.out b3)).below b4))
     |(go_at_call 70;go_loud (refine(KW _ E4.out R4).mono ?_);rintro _ v5 ⟨rfl,G5,A5,g5⟩;go_loud (have c5:=ST.out _ _ _ E4.out g5)))
    have HA5:Hid _:=A5;have HG5:Hid (Grew GA W0 G5 v5):=hGr.trans ((Grew.of_below E4.out).trans g5);clear c2 d2 c3 c4 c5 b3 b4 R4 A5 g5 E2 E3 E4 BD2 KK1 KD1 KW HR2 hGr;go_wp2
    try rw[Exit.noGoto_ret]
    refine bodyPost_ret (v:=.tuple #[.int .i64 0,.int .i64 130]) (by simp[results,Tryz.results52,go_sem]) rfl ?_
    exact⟨by rw[hf2.out,hf3.out,E9.out.1,E9.out.2.1];rfl,G5,by rw[hf1.out,E9.out.2.2,<-e2.out];exact HA5.out,G0.out.trans HG5.out⟩
   ·have ho':(AR r).off=false:=by simpa using ho
    have e1:¬px=130:=by rw[<-hpx.out];exact fun e=>ho (puX_crash.1 e)
    have e1':(px==130)=false:=beq_eq_false_iff_ne.2 e1;have e2:Hid (AN=AR (r+1)):=by show _=_;rw[<-hAN.out];exact HARs.out.symm
    have H2:Hid (∀j,j<r+1->(AR j).off=false):=fun j hj=>by
     by_cases e:j=r
     ·rw[e];exact ho'
     ·exact hoff j (by omega)
    have HP:Hid (PN (r+1)=pn+(if px=0 then 1 else 0)):=by
     show _=_
     rw[HPNs.out,hpx.out,hpn.out]
    clear hoff ho ho' HPNs
    by_cases hp0:px=0
    ·have HP1:Hid (PN (r+1)=pn+1):=by show _=_;rw[HP.out,if_pos hp0]
     have gp:IntKind.i64.wrap ((pn:Int)+1)=((pn+1:Nat):Int):=by
      have:=PNle.out (r+1) (by omega);have:=HP1.out;rw[IntKind.wrap_i64];omega
     subst hp0
     go_wp2_with fail
     go_region_held3 (fun wx=>wx.cell? ⟨xb,xo+sh,none⟩=some (.slice xa LN xc)/\wx.cell? ⟨w.heap.size,0,none⟩=some (.pointer (some ⟨ab,0,none⟩))/\wx.cell? ⟨w.heap.size,1,none⟩=some (.pointer pf)/\wx.cell? ⟨w.heap.size,2,none⟩=some (.int .i64 k)/\wx.cell? ⟨w.heap.size,3,none⟩=some (.int .i64 m)/\wx.cell? ⟨w.heap.size,4,none⟩=some (.int .i64 z)/\wx.cell? ⟨w.heap.size,5,none⟩=some (.int .i64 s)/\wx.cell? ⟨w.heap.size,6,none⟩=some (.int .i64 t)/\wx.cell? ⟨w.heap.size,7,none⟩=some (.int .i64 o)/\wx.cell? ⟨w.heap.size,8,none⟩=some (.int .i64 st)/\wx.cell? ⟨w.heap.size,9,none⟩=some (.int .i64 ep)) (first|exact s0|exact sD|exact s1|exact s2) (first
      |(go_at_call 86;go_loud (refine(KP _).mono ?_);rintro _ v1 ⟨rfl,b1⟩;go_loud (have s1:=SB.out _ b1);go_loud (have E1:Hid (Below wr.heap.size wr v1):=BD.stepL b1 BD.size))
      |(go_at_call 85;go_loud (refine(KK1 _ (RX.out _ E1.out)).mono ?_);rintro _ v2 ⟨vp,rfl,R2,b2⟩;have E2:Hid (Below wr.heap.size wr v2):=E1.out.stepL b2 E1.out.size;have s2:=SE.out _ E2.out;obtain⟨pa,pc,rfl⟩:=R2.form))
     have HR2:Hid (Rd v2 (.slice pa pk.length pc) pk):=R2;have c2:=s2.2;clear s0 sD s1 s2 b1 b2 R2 E1;obtain⟨LP,hLP⟩:∃LP,Hid (LP=pk.length):=⟨_,rfl⟩;rw[<-hLP.out]at HR2 ⊢;have d2:=(SE.out _ (E2.out.drew)).2;have BD2:Hid (Below wr.heap.size wr v2.drew):=E2.out.drew
     go_wp2_with fail
     go_region_held3 (fun wx=>wx.cell? ⟨w.heap.size,0,none⟩=some (.pointer (some ⟨ab,0,none⟩))/\wx.cell? ⟨w.heap.size,1,none⟩=some (.pointer pf)/\wx.cell? ⟨w.heap.size,2,none⟩=some (.int .i64 k)/\wx.cell? ⟨w.heap.size,3,none⟩=some (.int .i64 m)/\wx.cell? ⟨w.heap.size,4,none⟩=some (.int .i64 z)/\wx.cell? ⟨w.heap.size,5,none⟩=some (.int .i64 s)/\wx.cell? ⟨w.heap.size,6,none⟩=some (.int .i64 t)/\wx.cell? ⟨w.heap.size,7,none⟩=some (.int .i64 o)/\wx.cell? ⟨w.heap.size,8,none⟩=some (.int .i64 st)/\wx.cell? ⟨w.heap.size,9,none⟩=some (.int .i64 ep)) (first|exact c2|exact d2|exact c3|exact c4|exact c5) (first
      |(go_at_call 87;go_loud (refine(KD1 _).mono ?_);rintro _ v3 ⟨rfl,b3⟩;have E3:Hid (Below wr.heap.size wr v3):=BD2.out.stepL b3 BD2.out.size;have c3:=(SE.out _ E3.out).2)
      |(go_at_call 86;go_loud (refine(KP _).mono ?_);rintro _ v4 ⟨rfl,b4⟩;have E4:Hid (Below wr.heap.size wr v4):=E3.out.stepL b4 E3.out.size;have c4:=(SE.out _ E4.out).2;go_loud (have R4:=(HR2.out.below (E2D.out b3)).below b4))
      |(go_at_call 70;go_loud (refine(KW _ E4.out R4).mono ?_);rintro _ v5 ⟨rfl,G5,A5,g5⟩;go_loud (have c5:=ST.out _ _ _ E4.out g5)))
     have HA5:Hid _:=A5;have HG5:Hid (Grew GA W0 G5 v5):=hGr.trans ((Grew.of_below E4.out).trans g5);clear c2 d2 c3 c4 c5 b3 b4 R4 A5 g5 E2 E3 E4 BD2 KK1 KD1 KW HR2 hGr;go_wp2;go_roundw
     case rel=>exact⟨r+1,by omega,by go_num,by rw[HP1.out]<;>first|rfl|go_num,rfl,⟨G5,by rw[<-e2.out];exact HA5.out,HG5.out⟩,H2.out⟩
     case measure=>simp[intOf];omega
    ·have HP1:Hid (PN (r+1)=pn):=by show _=_;rw[HP.out,if_neg hp0];rfl
     have hp0':(px==0)=false:=beq_eq_false_iff_ne.2 hp0
     go_wp2_with fail
     go_region_held3 (fun wx=>wx.cell? ⟨xb,xo+sh,none⟩=some (.slice xa LN xc)/\wx.cell? ⟨w.heap.size,0,none⟩=some (.pointer (some ⟨ab,0,none⟩))/\wx.cell? ⟨w.heap.size,1,none⟩=some (.pointer pf)/\wx.cell? ⟨w.heap.size,2,none⟩=some (.int .i64 k)/\wx.cell? ⟨w.heap.size,3,none⟩=some (.int .i64 m)/\wx.cell? ⟨w.heap.size,4,none⟩=some (.int .i64 z)/\wx.cell? ⟨w.heap.size,5,none⟩=some (.int .i64 s)/\wx.cell? ⟨w.heap.size,6,none⟩=some (.int .i64 t)/\wx.cell? ⟨w.heap.size,7,none⟩=some (.int .i64 o)/\wx.cell? ⟨w.heap.size,8,none⟩=some (.int .i64 st)/\wx.cell? ⟨w.heap.size,9,none⟩=some (.int .i64 ep)) (first|exact s0|exact sD|exact s1|exact s2) (first
      |(go_at_call 86;go_loud (refine(KP _).mono ?_);rintro _ v1 ⟨rfl,b1⟩;go_loud (have s1:=SB.out _ b1);go_loud (have E1:Hid (Below wr.heap.size wr v1):=BD.stepL b1 BD.size))
      |(go_at_call 85;go_loud (refine(KK1 _ (RX.out _ E1.out)).mono ?_);rintro _ v2 ⟨vp,rfl,R2,b2⟩;have E2:Hid (Below wr.heap.size wr v2):=E1.out.stepL b2 E1.out.size;have s2:=SE.out _ E2.out;obtain⟨pa,pc,rfl⟩:=R2.form))
     have HR2:Hid (Rd v2 (.slice pa pk.length pc) pk):=R2;have c2:=s2.2;clear s0 sD s1 s2 b1 b2 R2 E1;obtain⟨LP,hLP⟩:∃LP,Hid (LP=pk.length):=⟨_,rfl⟩;rw[<-hLP.out]at HR2 ⊢;have d2:=(SE.out _ (E2.out.drew)).2;have BD2:Hid (Below wr.heap.size wr v2.drew):=E2.out.drew
     go_wp2_with fail
     go_region_held3 (fun wx=>wx.cell? ⟨w.heap.size,0,none⟩=some (.pointer (some ⟨ab,0,none⟩))/\wx.cell? ⟨w.heap.size,1,none⟩=some (.pointer pf)/\wx.cell? ⟨w.heap.size,2,none⟩=some (.int .i64 k)/\wx.cell? ⟨w.heap.size,3,none⟩=some (.int .i64 m)/\wx.cell? ⟨w.heap.size,4,none⟩=some (.int .i64 z)/\wx.cell? ⟨w.heap.size,5,none⟩=some (.int .i64 s)/\wx.cell? ⟨w.heap.size,6,none⟩=some (.int .i64 t)/\wx.cell? ⟨w.heap.size,7,none⟩=some (.int .i64 o)/\wx.cell? ⟨w.heap.size,8,none⟩=some (.int .i64 st)/\wx.cell? ⟨w.heap.size,9,none⟩=some (.int .i64 ep)) (first|exact c2|exact d2|exact c3|exact c4|exact c5) (first
      |(go_at_call 87;go_loud (refine(KD1 _).mono ?_);rintro _ v3 ⟨rfl,b3⟩;have E3:Hid (Below wr.heap.size wr v3):=BD2.out.stepL b3 BD2.out.size;have c3:=(SE.out _ E3.out).2)
      |(go_at_call 86;go_loud (refine(KP _).mono ?_);rintro _ v4 ⟨rfl,b4⟩;have E4:Hid (Below wr.heap.size wr v4):=E3.out.stepL b4 E3.out.size;have c4:=(SE.out _ E4.out).2;go_loud (have R4:=(HR2.out.below (E2D.out b3)).below b4))
      |(go_at_call 70;go_loud (refine(KW _ E4.out R4).mono ?_);rintro _ v5 ⟨rfl,G5,A5,g5⟩;go_loud (have c5:=ST.out _ _ _ E4.out g5)))
     have HA5:Hid _:=A5;have HG5:Hid (Grew GA W0 G5 v5):=hGr.trans ((Grew.of_below E4.out).trans g5);clear c2 d2 c3 c4 c5 b3 b4 R4 A5 g5 E2 E3 E4 BD2 KK1 KD1 KW HR2 hGr;go_wp2;go_roundw
     case rel=>exact⟨r+1,by omega,by go_num,by rw[HP1.out]<;>first|rfl|go_num,rfl,⟨G5,by rw[<-e2.out];exact HA5.out,HG5.out⟩,H2.out⟩
     case measure=>simp[intOf];omega
  ·obtain rfl:r=B.length:=by omega
   have hlt':¬(B.length:Int)<(B.length:Int):=by omega
   have E9:Hid _:=SN.out hoff;have HA5:Hid (ArAt wr ab G' (AR B.length)):=hA;have HG5:Hid (Grew GA W0 G' wr):=hGr;clear hA hGr hoff;go_wp2
   try rw[Exit.noGoto_ret]
   refine bodyPost_ret (v:=.tuple #[.int .i64 (pn:Int),.int .i64 0]) (by simp[results,Tryz.results52,go_sem]) rfl ?_
   exact⟨by rw[hf2.out,hf3.out,E9.out.1,E9.out.2.1,hpn.out],G',by rw[hf1.out,E9.out.2.2];exact HA5.out,G0.out.trans HG5.out⟩
theorem pupto_any{w:World}{n:Nat}(hn:n<=1000):Calls Tryz.prog 54 #[.int .i64 (n:Int)] w (MadeRow w 3 n (fun i=>.int .i64 (i:Int))):=by
 have mk1:=run_make_row' (P:=Tryz.prog) 45 3 (.int .i64 0) 8 Tryz.underlying45 info_int13 rfl .i64 .i64 n (by omega) (by omega);obtain⟨u,hu⟩:∃u,u=w.alloc (Obj.cells (madeCells #[Value.int .i64 0] n) 3):=⟨_,rfl⟩;have hub:Below w.heap.size w u:=by rw[hu];exact belA _ _
 have hur:u.rowIs w.heap.size 3 n (fun _=>.int .i64 0):=by rw[hu];exact World.rowIs_made _ _ _ _
 have mk2:=mk1 w;obtain⟨g,hg⟩:∃g,Hid (g=w.heap.size):=⟨_,rfl⟩;rw[<-hu,<-hg.out]at mk2;rw[<-hg.out]at hur;clear mk1 hu
 go_enter Tryz.func54,Tryz.ntmps54
 go_wp2;have START:Hid (u.rowIs g 3 n (fun j=>if j<0 then .int .i64 (j:Int)else .int .i64 0)/\Below w.heap.size w u):=⟨hur,hub⟩;clear mk2 hub hur
 go_loopw [9] (fun i wr=>∃k:Nat,k<=n/\i= .int .i64 (k:Int)/\wr.rowIs g 3 n (fun j=>if j<k then .int .i64 (j:Int)else .int .i64 0)/\Below w.heap.size w wr) (fun i _=>n-(intOf i).toNat)
 case atStart=>exact⟨0,Nat.zero_le _,rfl,START.out⟩
 case round=>
  clear START;obtain⟨k,hk,rfl,hr,hb⟩:=hrel
  by_cases hlt:k<n
  ·have hlt':(k:Int)<(n:Int):=by omega
   have g1:IntKind.i64.wrap ((k:Int)+1)=((k+1:Nat):Int):=by rw[IntKind.wrap_i64];omega
   have cq:=hr.cell hlt;have fq:=hr.frozen k;have E2:Hid ((wr.setCell ⟨g,k,none⟩ (.int .i64 (k:Int))).rowIs g 3 n (fun j=>if j<k+1 then .int .i64 (j:Int)else .int .i64 0)/\Below w.heap.size w (wr.setCell ⟨g,k,none⟩ (.int .i64 (k:Int)))):=by
    refine⟨(hr.set k (.int .i64 (k:Int))).congr fun j hj=>?_,hb.setCell (by rw[hg.out];exact Nat.le_refl _) _⟩
    by_cases e:j=k
    ·rw[if_pos e,if_pos (by omega),e]
    ·rw[if_neg e]
     by_cases e2:j<k
     ·rw[if_pos e2,if_pos (by omega)]
     ·rw[if_neg e2,if_neg (by omega)]
   clear hr hb;go_wp2;go_roundw
   case rel=>exact⟨k+1,by omega,by go_num,E2.out⟩
   case measure=>simp[intOf];omega
  ·have hlt':¬(k:Int)<(n:Int):=by omega
   have hkn:Hid (k=n):=by show k=n;omega
   have FIN:Hid (wr.rowIs g 3 n (fun j=>.int .i64 (j:Int))/\w.heap.size<=g/\Below w.heap.size w wr):=⟨hr.congr fun j hj=>if_pos (by have:=hkn.out;omega),by rw[hg.out];exact Nat.le_refl _,hb⟩;clear hr hb;go_wp2;go_ret;exact⟨g,rfl,FIN.out⟩
def MakesP15(w:World)(L:List UInt8)(b:Bool)(e:Ending)(w':World):Prop:=∃v,e= .returned (.tuple #[v,.bool b])/\Rd w' v L/\FarV w v/\Below w.heap.size w w'
section
variable {w:World} {pa pf:Option Addr} {g:GeoS} {st ep:Int}
theorem punpack_any(hg:g.Wf)(hst:(Lit.int .i64 st).wf=true){v:Value}{p:List UInt8}(hp:Rd w v p)(hl:p.length<=100000){F:Bool}{L:List UInt8}
  (hF:decide (upX (stG g st) p=0/\((upN (stG g st) p:Nat):Int)=ep/\(((upD (stG g st) p).length:Nat):Int)=g.z)=F) (hL:(if F=true then upD (stG g st) p else [])=L):
  Calls Tryz.prog 132 #[aggP pa pf g st ep,v] w (MakesP15 w L F):=by
 obtain⟨at_,t0⟩:∃x,Hid (x=stG g st):=⟨_,rfl⟩;rw[<-t0.out]at hF hL;have KP:=fun W=>@pplace_any W pa pf g st ep hg hst _ t0.out.symm
 have KU:=fun W (hr:Rd W v p)=>sunpack_far (a:=at_) hr hl
 obtain⟨X,hX⟩:∃X,Hid (X=upX at_ p):=⟨_,rfl⟩;obtain⟨N,hN⟩:∃N,Hid (N=upN at_ p):=⟨_,rfl⟩;obtain⟨D,hD⟩:∃D,Hid (D=upD at_ p):=⟨_,rfl⟩;rw[<-hX.out,<-hN.out,<-hD.out]at hF KU;rw[<-hD.out]at hL;clear t0 hX hN hD;obtain⟨k,m,z,s,t,o⟩:=g;simp only at hF;have LA:=spot_laid w pa pf ⟨k,m,z,s,t,o⟩ st ep 103;unfold aggP at KP ⊢;simp only[cellsP]at KP LA ⊢;have F0:=(LA _ (Below.refl _ _)).2;obtain⟨x0,x1,x2,x3,x4,x5,x6,x7,x8,x9⟩:=(LA _ (Below.refl _ _)).1.all;simp only at x0 x1 x2 x3 x4 x5 x6 x7 x8 x9;obtain⟨va,vc,rfl⟩:=hp.form
 by_cases h1:X=0
 rotate_left
 ·rw[decide_eq_false (fun q=>h1 q.1)]at hF;subst hF;rw[if_neg (by decide)]at hL;subst hL
  go_enter Tryz.func132,Tryz.ntmps132
  go_wp2_with fail
  refine(KP _).mono ?_
  rintro _ w1 ⟨rfl,B1⟩;obtain⟨S1,F1⟩:=LA _ B1;clear x0 x1 x2 x3 x4 x5 x6 x7 x8 x9;obtain⟨x0,x1,x2,x3,x4,x5,x6,x7,x8,x9⟩:=S1.all;simp only at x0 x1 x2 x3 x4 x5 x6 x7 x8 x9
  go_wp2_with fail
  refine(KU _ (hp.below F1)).mono ?_
  rintro _ w2 ⟨vd,rfl,R2,V2,B2⟩;have FB:Hid (Below w.heap.size w w2):=F1.stepL B2 F1.size;obtain⟨da,dc,rfl⟩:=R2.form;clear x0 x1 x2 x3 x4 x5 x6 x7 x8 x9 S1 F1 B1 B2 R2 V2 LA KP KU F0;go_wp2;refine bodyPost_ret (v:=.tuple #[.slice none 0 0,.bool false]) (by simp[results,Tryz.results132,go_sem]) rfl ?_
  exact⟨_,rfl,rd_nil0,FarV.nil _ _ _,FB.out⟩
 subst h1
 by_cases h2:(N:Int)=ep
 rotate_left
 ·rw[decide_eq_false (fun q=>h2 q.2.1)]at hF;subst hF;rw[if_neg (by decide)]at hL;subst hL;have h2':((N:Int)!=ep)=true:=by simp[h2]
  go_enter Tryz.func132,Tryz.ntmps132
  go_wp2_with fail
  refine(KP _).mono ?_
  rintro _ w1 ⟨rfl,B1⟩;obtain⟨S1,F1⟩:=LA _ B1;clear x0 x1 x2 x3 x4 x5 x6 x7 x8 x9;obtain⟨x0,x1,x2,x3,x4,x5,x6,x7,x8,x9⟩:=S1.all;simp only at x0 x1 x2 x3 x4 x5 x6 x7 x8 x9
  go_wp2_with fail
  refine(KU _ (hp.below F1)).mono ?_
  rintro _ w2 ⟨vd,rfl,R2,V2,B2⟩;have FB:Hid (Below w.heap.size w w2):=F1.stepL B2 F1.size;obtain⟨da,dc,rfl⟩:=R2.form;have S2:=(LA _ (B1.stepL B2 B1.size)).1;clear x0 x1 x2 x3 x4 x5 x6 x7 x8 x9 S1 F1 B1 B2 R2 V2 LA KP KU F0;obtain⟨x0,x1,x2,x3,x4,x5,x6,x7,x8,x9⟩:=S2.all;simp only at x0 x1 x2 x3 x4 x5 x6 x7 x8 x9;go_wp2;refine bodyPost_ret (v:=.tuple #[.slice none 0 0,.bool false]) (by simp[results,Tryz.results132,go_sem]) rfl ?_
  exact⟨_,rfl,rd_nil0,FarV.nil _ _ _,FB.out⟩
 subst h2
 by_cases h3:(D.length:Int)=z
 rotate_left
 ·rw[decide_eq_false (fun q=>h3 q.2.2)]at hF;subst hF;rw[if_neg (by decide)]at hL;subst hL;have h3':((D.length:Int)!=z)=true:=by simp[h3]
  go_enter Tryz.func132,Tryz.ntmps132
  go_wp2_with fail
  refine(KP _).mono ?_
  rintro _ w1 ⟨rfl,B1⟩;obtain⟨S1,F1⟩:=LA _ B1;clear x0 x1 x2 x3 x4 x5 x6 x7 x8 x9;obtain⟨x0,x1,x2,x3,x4,x5,x6,x7,x8,x9⟩:=S1.all;simp only at x0 x1 x2 x3 x4 x5 x6 x7 x8 x9
  go_wp2_with fail
  refine(KU _ (hp.below F1)).mono ?_
  rintro _ w2 ⟨vd,rfl,R2,V2,B2⟩;have FB:Hid (Below w.heap.size w w2):=F1.stepL B2 F1.size;obtain⟨da,dc,rfl⟩:=R2.form;have S2:=(LA _ (B1.stepL B2 B1.size)).1;clear x0 x1 x2 x3 x4 x5 x6 x7 x8 x9 S1 F1 B1 B2 R2 V2 LA KP KU F0;obtain⟨x0,x1,x2,x3,x4,x5,x6,x7,x8,x9⟩:=S2.all;simp only at x0 x1 x2 x3 x4 x5 x6 x7 x8 x9;go_wp2;refine bodyPost_ret (v:=.tuple #[.slice none 0 0,.bool false]) (by simp[results,Tryz.results132,go_sem]) rfl ?_
  exact⟨_,rfl,rd_nil0,FarV.nil _ _ _,FB.out⟩
 rw[decide_eq_true ⟨rfl,rfl,h3⟩]at hF;subst hF;rw[if_pos rfl]at hL;subst hL;have h3':((D.length:Int)!=z)=false:=by simp[h3]
 subst h3
 go_enter Tryz.func132,Tryz.ntmps132
 go_wp2_with fail
 refine(KP _).mono ?_
 rintro _ w1 ⟨rfl,B1⟩;obtain⟨S1,F1⟩:=LA _ B1;clear x0 x1 x2 x3 x4 x5 x6 x7 x8 x9;obtain⟨x0,x1,x2,x3,x4,x5,x6,x7,x8,x9⟩:=S1.all;simp only at x0 x1 x2 x3 x4 x5 x6 x7 x8 x9
 go_wp2_with fail
 refine(KU _ (hp.below F1)).mono ?_
 rintro _ w2 ⟨vd,rfl,R2,V2,B2⟩;have FB:Hid (Below w.heap.size w w2):=F1.stepL B2 F1.size;have FV:Hid (FarV w vd):=fun x n c e=>(V2 x n c e).imp id fun q=>Nat.le_trans F1.size q
 obtain⟨da,dc,rfl⟩:=R2.form;have HR:Hid _:=R2;have S2:=(LA _ (B1.stepL B2 B1.size)).1;clear x0 x1 x2 x3 x4 x5 x6 x7 x8 x9 S1 F1 B1 B2 R2 V2 LA KP KU F0;obtain⟨x0,x1,x2,x3,x4,x5,x6,x7,x8,x9⟩:=S2.all;simp only at x0 x1 x2 x3 x4 x5 x6 x7 x8 x9;go_wp2;refine bodyPost_ret (v:=.tuple #[.slice da D.length dc,.bool true]) (by simp[results,Tryz.results132,go_sem]) rfl ?_
 exact⟨_,rfl,HR.out,FV.out,FB.out⟩
end
end Go.Proofs.YtddnfhfangfgeaaGreat.Gf
