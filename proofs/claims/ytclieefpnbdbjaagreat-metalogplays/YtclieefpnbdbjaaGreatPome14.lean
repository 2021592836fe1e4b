/- JOINED: ArRN, ArDid, ArVec, ArShow. -/
import Derived.Test.YtclieefpnbdbjaaGreatPome13
set_option maxHeartbeats 4000000
set_option maxRecDepth 100000
namespace Go.Proofs.YtclieefpnbdbjaaGreat.Gf
set_option linter.unusedVariables false
set_option linter.unusedSimpArgs false
open Go.RowKit
theorem info_pdisk13:(Tryz.prog.info? 88).map (fun i=>(i.zero,i.size,i.bytes))=some (some (.pointer none),1,8):=Zk
def rbF(vx vy:Value)(j:Nat):Value:=if j=0 then vx else if j=1 then vy else if j=2 then .int .i64 (-1)else .bool false
def dkF(s:Int)(j:Nat):Value:=if j=0 then .int .i64 s else if j=1 then .slice none 0 0 else if j=2 then .slice none 0 0 else .bool false
def ptrL(rd:Nat->Nat)(k:Nat):List Value:=(List.range k).map fun i=>.pointer (some ⟨rd i,0,none⟩)
def zrL(k:Nat):List Value:=(List.range k).map fun _=>.int .i64 0
theorem ptrL_succ(rd:Nat->Nat)(k:Nat):ptrL rd k++[.pointer (some ⟨rd k,0,none⟩)]=ptrL rd (k+1):=by simp[ptrL,List.range_succ]
theorem zrL_succ(k:Nat):zrL k++[.int .i64 0]=zrL (k+1):=by simp[zrL,List.range_succ]
theorem ptrL_at(rd:Nat->Nat){k i:Nat}(h:i<k):(ptrL rd k)[i]? =some (.pointer (some ⟨rd i,0,none⟩)):=by simp[ptrL,h]
theorem zrL_at{k i:Nat}(h:i<k):(zrL k)[i]? =some (.int .i64 0):=by simp[zrL,h]
structure NewR(w wr:World)(rb k kx ky:Nat)(vx vy:Value)(rd:Nat->Nat)(s:Int):Prop where
 b:Below w.heap.size w wr
 lr:w.heap.size<=rb
 rr:wr.rowIs rb 87 4 (rbF vx vy)
 ox:wr.ownsRow w.heap.size 88 1 vx kx (ptrL rd kx)
 oy:wr.ownsRow w.heap.size 3 1 vy ky (zrL ky)
 hx:kx<=k
 dk:∀i,i<k->wr.rowIs (rd i) 105 4 (dkF s)
 ld:∀i,i<k->w.heap.size<=rd i
 inj:∀i j,i<k->j<k->rd i=rd j->i=j
 nr:∀i,i<k->rd i≠rb
 nx:∀q,vx.ownBlock=some q->q≠rb/\vy.ownBlock≠some q/\∀i,i<k->rd i≠q
 ny:∀q,vy.ownBlock=some q->q≠rb/\∀i,i<k->rd i≠q
section
variable {w wr w3:World} {rb k kx ky:Nat} {vx vy vx' vy':Value} {rd:Nat->Nat} {s:Int}
theorem NewR.alloc(h:NewR w wr rb k kx ky vx vy rd s)(o:Obj):NewR w (wr.alloc o) rb k kx ky vx vy rd s:=
 ⟨h.b.trans ((belA wr o).mono h.b.size),h.lr,h.rr.alloc o,World.ownsRow.alloc h.ox o,World.ownsRow.alloc h.oy o,h.hx,fun i hi=>(h.dk i hi).alloc o,h.ld,h.inj,h.nr,h.nx,h.ny⟩
theorem NewR.disk(h:NewR w wr rb k kx ky vx vy rd s):NewR w (wr.alloc (.cells #[.int .i64 s,.slice none 0 0,.slice none 0 0,.bool false] 105)) rb (k+1) kx ky vx vy (fun i=>if i=k then wr.heap.size else rd i) s:=by
 have h2:=h.alloc (.cells #[.int .i64 s,.slice none 0 0,.slice none 0 0,.bool false] 105);have lt:∀i,i<k->rd i<wr.heap.size:=fun i hi=>(h.dk i hi).lt
 have ep:ptrL (fun i=>if i=k then wr.heap.size else rd i) kx=ptrL rd kx:=by
  unfold ptrL;refine List.map_congr_left fun i hi=>?_
  have h3:i<kx:=by simpa using hi
  have h4:=h.hx
  show Value.pointer (some ⟨if i=k then wr.heap.size else rd i,0,none⟩)=_
  rw[if_neg Zo]
 refine⟨h2.b,h.lr,h2.rr,by rw[ep];exact h2.ox,h2.oy,by have:=h.hx;omega,fun i hi=>?_,fun i hi=>?_,fun i j hi hj e=>?_,fun i hi=>?_,fun q hq=>⟨(h.nx q hq).1,(h.nx q hq).2.1,fun i hi=>?_⟩,fun q hq=>⟨(h.ny q hq).1,fun i hi=>?_⟩⟩
 ·show World.rowIs _ (if i=k then wr.heap.size else rd i) _ _ _
  by_cases e:i=k
  ·rw[if_pos e];exact World.rowIs_alloc wr #[.int .i64 s,.slice none 0 0,.slice none 0 0,.bool false] 105 (dkF s) (fun j hj=>by
    have hj2:j<4:=hj
    match j,hj2 with
    |0,_=>rfl
    |1,_=>rfl
    |2,_=>rfl
    |3,_=>rfl)
  ·rw[if_neg e];exact h2.dk i Zo
 ·show _<=(if i=k then wr.heap.size else rd i)
  by_cases e:i=k
  ·rw[if_pos e];exact h.b.size
  ·rw[if_neg e];exact h.ld i Zo
 ·replace e:(if i=k then wr.heap.size else rd i)=(if j=k then wr.heap.size else rd j):=e
  by_cases e1:i=k
  ·rw[if_pos e1]at e
   by_cases e2:j=k
   ·omega
   ·rw[if_neg e2]at e;have:=lt j Zo;omega
  ·rw[if_neg e1]at e
   by_cases e2:j=k
   ·rw[if_pos e2]at e;have:=lt i Zo;omega
   ·rw[if_neg e2]at e;exact h.inj i j Zo Zo e
 ·show(if i=k then wr.heap.size else rd i)≠rb
  by_cases e:i=k
  ·rw[if_pos e];have:=h.rr.lt;omega
  ·rw[if_neg e];exact h.nr i Zo
 ·show(if i=k then wr.heap.size else rd i)≠q
  by_cases e:i=k
  ·rw[if_pos e];have:=(row_at h.ox hq).2.1;omega
  ·rw[if_neg e];exact(h.nx q hq).2.2 i Zo
 ·show(if i=k then wr.heap.size else rd i)≠q
  by_cases e:i=k
  ·rw[if_pos e];have:=(row_at h.oy hq).2.1;omega
  ·rw[if_neg e];exact(h.ny q hq).2 i Zo
theorem NewR.preX(h:NewR w wr rb k kx ky vx vy rd s)(g:wr.grownBy w3 vx.ownBlock):w3.rowIs rb 87 4 (rbF vx vy):=
 h.rr.of_block (g.block rb h.rr.lt (fun e=>(h.nx rb e.symm).1 rfl))
theorem NewR.preY(h:NewR w wr rb k kx ky vx vy rd s)(g:wr.grownBy w3 vy.ownBlock):w3.rowIs rb 87 4 (rbF vx vy):=
 h.rr.of_block (g.block rb h.rr.lt (fun e=>(h.ny rb e.symm).1 rfl))
theorem NewR.pushX(h:NewR w wr rb k kx ky vx vy rd s)(hk:kx<k)(hr:w3.ownsRow w.heap.size 88 1 vx' (kx+1) (ptrL rd kx++[.pointer (some ⟨rd kx,0,none⟩)]))(g:wr.grownBy w3 vx.ownBlock)(e:vx'.ownBlock=vx.ownBlock∨vx'.ownBlock=some wr.heap.size):
  NewR w (w3.setCell ⟨rb,0,none⟩ vx') rb k (kx+1) ky vx' vy rd s:=by
 have nb:∀q,vx'.ownBlock=some q->q≠rb/\vy.ownBlock≠some q/\∀i,i<k->rd i≠q:=fun q hq=>by
  rcases e with e|e
  ·rw[e]at hq;exact h.nx q hq
  ·rw[e]at hq;cases hq;exact⟨by have:=h.rr.lt;omega,fun e2=>by have:=(row_at h.oy e2).2.1;omega,fun i hi=>by have:=(h.dk i hi).lt;omega⟩
 have kb:∀q,q≠rb->(w3.setCell ⟨rb,0,none⟩ vx').heap[q]? =w3.heap[q]? :=fun q hq=>Below.heap_setCell w3 ⟨rb,0,none⟩ _ q hq
 rw[ptrL_succ]at hr;refine⟨(h.b.grown g h.b.size (fun q hq=>(row_at h.ox hq).1)).setCell h.lr _,h.lr,((h.preX g).set 0 vx').congr (fun j hj=>?_),owns_block hr (fun q hq=>kb q (nb q hq).1),owns_block h.oy (fun q hq=>(kb q (h.ny q hq).1).trans (g.block q (row_at h.oy hq).2.1 (fun e2=>(h.nx q e2.symm).2.1 hq))),Zo,fun i hi=>?_,h.ld,h.inj,h.nr,nb,h.ny⟩
 ·unfold rbF
  by_cases e0:j=0
  ·rw[if_pos e0,if_pos e0]
  ·rw[if_neg e0,if_neg e0,if_neg e0]
 ·exact(h.dk i hi).of_block ((kb _ (h.nr i hi)).trans (g.block _ (h.dk i hi).lt (fun e2=>(h.nx _ e2.symm).2.2 i hi rfl)))
theorem NewR.pushY(h:NewR w wr rb k kx ky vx vy rd s)(hr:w3.ownsRow w.heap.size 3 1 vy' (ky+1) (zrL ky++[.int .i64 0]))(g:wr.grownBy w3 vy.ownBlock)(e:vy'.ownBlock=vy.ownBlock∨vy'.ownBlock=some wr.heap.size):
  NewR w (w3.setCell ⟨rb,1,none⟩ vy') rb k kx (ky+1) vx vy' rd s:=by
 have nb:∀q,vy'.ownBlock=some q->q≠rb/\vx.ownBlock≠some q/\∀i,i<k->rd i≠q:=fun q hq=>by
  rcases e with e|e
  ·rw[e]at hq;exact⟨(h.ny q hq).1,fun e2=>(h.nx q e2).2.1 hq,(h.ny q hq).2⟩
  ·rw[e]at hq;cases hq;exact⟨by have:=h.rr.lt;omega,fun e2=>by have:=(row_at h.ox e2).2.1;omega,fun i hi=>by have:=(h.dk i hi).lt;omega⟩
 have kb:∀q,q≠rb->(w3.setCell ⟨rb,1,none⟩ vy').heap[q]? =w3.heap[q]? :=fun q hq=>Below.heap_setCell w3 ⟨rb,1,none⟩ _ q hq
 rw[zrL_succ]at hr;refine⟨(h.b.grown g h.b.size (fun q hq=>(row_at h.oy hq).1)).setCell h.lr _,h.lr,((h.preY g).set 1 vy').congr (fun j hj=>?_),owns_block h.ox (fun q hq=>(kb q (h.nx q hq).1).trans (g.block q (row_at h.ox hq).2.1 (fun e2=>(h.nx q hq).2.1 e2.symm))),owns_block hr (fun q hq=>kb q (nb q hq).1),h.hx,fun i hi=>?_,h.ld,h.inj,h.nr,fun q hq=>⟨(h.nx q hq).1,fun e2=>(nb q e2).2.1 hq,(h.nx q hq).2.2⟩,fun q hq=>⟨(nb q hq).1,(nb q hq).2.2⟩⟩
 ·unfold rbF
  by_cases e1:j=1
  ·subst e1;rfl
  ·rw[if_neg e1]
   by_cases e0:j=0
   ·rw[if_pos e0,if_pos e0]
   ·rw[if_neg e0,if_neg e0,if_neg e1,if_neg e1]
 ·exact(h.dk i hi).of_block ((kb _ (h.nr i hi)).trans (g.block _ (h.dk i hi).lt (fun e2=>(h.ny _ e2.symm).2 i hi rfl)))
theorem NewR.done{n:Nat}(h:NewR w wr rb n n n vx vy rd s)(h1:1<=n)(h2:n<=32)(h3:1<=s)(h4:s<=4096){GA:Nat->Prop}(hG:∀k,GA k->k<w.heap.size):
  ∃HR,RaAt wr rb HR GA (newA n s.toNat)/\∀k,HR k->w.heap.size<=k:=by
 have hl:(newA n s.toNat).D.length=n:=by simp[newA]
 obtain⟨gx,cx,ex,bx,ox⟩:=owns_formD h.ox Zo;obtain⟨gy,cy,ey,by_,oy⟩:=owns_formD h.oy Zo;subst ex ey;have nx:=h.nx gx rfl;have ny:=h.ny gy rfl;have hge:∀k,(k=rb∨k=gx∨k=gy∨∃i,i<n/\k=rd i)->w.heap.size<=k/\k<wr.heap.size:=fun k hk=>by
  rcases hk with e|e|e|⟨i,hi,e⟩
  ·rw[e];exact⟨h.lr,h.rr.lt⟩
  ·rw[e];exact⟨bx,(row_at h.ox rfl).2.1⟩
  ·rw[e];exact⟨by_,(row_at h.oy rfl).2.1⟩
  ·rw[e];exact⟨h.ld i hi,(h.dk i hi).lt⟩
 have hGs:∀k,GA k->k<wr.heap.size:=fun k hk=>Zu (hG k hk) h.b.size
 have hn:((s.toNat:Nat):Int)=s:=Zo
 refine⟨fun k=>k=rb∨k=gx∨k=gy∨∃i,i<n/\k=rd i,⟨gx,gy,cx,cy,rd,⟨?_,?_,h.rr.cell (i:=2) Zo,h.rr.cell (i:=3) Zo,h.rr.frozen 2,h.rr.frozen 3,fun i hi=>?_,fun i hi=>?_,fun i hi=>World.ownsRow.frozenAt oy i,fun i hi=>?_,fun i j hi hj=>h.inj i j (hl▸hi) (hl▸hj),fun i hi=>⟨h.nr i (hl▸hi),nx.2.2 i (hl▸hi),ny.2 i (hl▸hi)⟩,fun e=>nx.1 e.symm,fun e=>ny.1 e.symm,fun e=>nx.2.1 (by rw[e];rfl),Or.inl rfl,Or.inr (Or.inl rfl),Or.inr (Or.inr (Or.inl rfl)),fun i hi=>Or.inr (Or.inr (Or.inr ⟨i,hl▸hi,rfl⟩)),fun k hk hg=>by have:=(hge k hk).1;have:=hG k hg;omega,fun k hk=>(hge k hk).2,hGs,by rw[hl];exact h1,by rw[hl];exact h2,by simp[newA],by simp[newA];decide⟩,newA_ok h1 h2 Zo Zo⟩,fun k hk=>(hge k hk).1⟩
 ·rw[hl];exact h.rr.cell (i:=0) Zo
 ·rw[hl];exact h.rr.cell (i:=1) Zo
 ·rw[hl]at hi;rw[World.ownsRow.cellAt ox i Zo];exact ptrL_at rd hi
 ·rw[hl]at hi;rw[World.ownsRow.cellAt oy i Zo,zrL_at hi];simp only[newA];rw[rep_getD hi]
 ·rw[hl]at hi;simp only[newA];rw[rep_getD hi];have r:=h.dk i hi;refine⟨.slice none 0 0,.slice none 0 0,[],[],?_,r.cell (i:=1) Zo,r.cell (i:=2) Zo,r.cell (i:=3) Zo,r.frozen 1,r.frozen 2,r.frozen 3,(heldL_none _).symm,(heldL_none _).symm,told_nil _ _,told_nil _ _,cap_nil,cap_nil,Or.inl (Or.inr (Or.inr (Or.inr ⟨i,hi,rfl⟩))),fun k hk=>hk.elim (fun h5=>(hge k h5).2) (hGs k),by show s.toNat<=4096;omega⟩;rw[r.cell (i:=0) Zo]
  show some (Value.int .i64 s)=some (.int .i64 ((s.toNat:Nat):Int))
  rw[hn]
end
def NewsR(w:World)(n s:Nat)(GA:Nat->Prop)(e:Ending)(w':World):Prop:=∃rb HR,e= .returned (.tuple #[.pointer (some ⟨rb,0,none⟩),.int .i64 0])/\RaAt w' rb HR GA (newA n s)/\(∀k,HR k->w.heap.size<=k)/\Below w.heap.size w w'
theorem laid_r(w:World):(w.alloc (.cells #[.slice none 0 0,.slice none 0 0,.int .i64 (-1),.bool false] 87)).rowIs w.heap.size 87 4 (rbF (.slice none 0 0) (.slice none 0 0)):=
 World.rowIs_alloc w #[.slice none 0 0,.slice none 0 0,.int .i64 (-1),.bool false] 87 (rbF (.slice none 0 0) (.slice none 0 0)) (fun i hi=>by
  have hi2:i<4:=hi
  match i,hi2 with
  |0,_=>rfl
  |1,_=>rfl
  |2,_=>rfl
  |3,_=>rfl)
theorem lit_after(w:World)(rb:Nat)(v x:Value)(e:Nat):((w.setCell ⟨rb,0,none⟩ v).alloc (.cells #[x] e)).cell? ⟨w.heap.size,0,none⟩=some x:=by
 have h:=World.cell?_alloc_new (w.setCell ⟨rb,0,none⟩ v) #[x] e 0;have s:(w.setCell ⟨rb,0,none⟩ v).heap.size=w.heap.size:=Zs
 rw[s]at h;exact h
theorem rnewA_any{w:World}{n:Nat}{s:Int}(h1:1<=n)(h2:n<=32)(h3:1<=s)(h4:s<=4096){GA:Nat->Prop}(hG:∀k,GA k->k<w.heap.size):Calls Tryz.prog 10 #[.int .i64 (n:Int),.int .i64 s] w (NewsR w n s.toNat GA):=by
 have q1:¬(n:Int)<1:=Zo
 have q2:¬(n:Int)>32:=Zo
 obtain⟨i0,hi,hz0,hz1,hz2⟩:=info_parts info_pdisk13;obtain⟨j0,hj,hy0,hy1,hy2⟩:=info_parts info_int13;have LR:=laid_r w;have START:Hid (∃vx vy rd,NewR w (w.alloc (.cells #[.slice none 0 0,.slice none 0 0,.int .i64 (-1),.bool false] 87)) w.heap.size 0 0 0 vx vy rd s):=
  ⟨.slice none 0 0,.slice none 0 0,fun _=>0,belA _ _,Zr,LR,⟨rfl,Or.inl ⟨rfl,rfl⟩⟩,⟨rfl,Or.inl ⟨rfl,rfl⟩⟩,Zr,(fun i hi=>absurd hi (Nat.not_lt_zero _)),(fun i hi=>absurd hi (Nat.not_lt_zero _)),(fun i j hi=>absurd hi (Nat.not_lt_zero _)),(fun i hi=>absurd hi (Nat.not_lt_zero _)),(fun q hq=>by cases hq),(fun q hq=>by cases hq)⟩
 clear LR
 go_enter Tryz.func10,Tryz.ntmps10
 go_wp2;obtain⟨rb,hrb⟩:∃rb,Hid (rb=w.heap.size):=⟨_,rfl⟩;rw[<-hrb.out];rw[show w.heap.size=rb from hrb.out.symm]at START
 go_loopw [7] (fun i wr=>∃k:Nat,k<=n/\i= .int .i64 (k:Int)/\∃vx vy rd,NewR w wr rb k k k vx vy rd s) (fun i _=>n-(intOf i).toNat)
 case atStart=>exact⟨0,Zz,rfl,by obtain⟨vx,vy,rd,h⟩:=START.out;exact⟨vx,vy,rd,by rw[hrb.out]at h ⊢;exact h⟩⟩
 case round=>
  clear START;obtain⟨k,hk,rfl,vx,vy,rd,hN⟩:=hrel
  by_cases hlt:k<n
  ·have hlt':(k:Int)<(n:Int):=by omega
   have g1:IntKind.i64.wrap ((k:Int)+1)=((k+1:Nat):Int):=Zw
   go_wp2_with fail
   refine(rnew_any h3 h4).mono ?_
   rintro _ w1 ⟨rfl,hw1⟩;have N1:=hN.disk;rw[<-hw1]at N1;obtain⟨d,hd⟩:∃d,Hid (d=wr.heap.size):=⟨_,rfl⟩;have hrk:Hid ((fun i=>if i=k then wr.heap.size else rd i) k=d):=by show(if k=k then wr.heap.size else rd k)=d;rw[if_pos rfl,hd.out]
   obtain⟨rd1,hrd1⟩:∃rd1,rd1=(fun i=>if i=k then wr.heap.size else rd i):=⟨_,rfl⟩;rw[<-hrd1]at N1 hrk;rw[<-hd.out];clear hN hw1 hrd1 hd;have c0:=N1.rr.cell (i:=0) Zo;rw[show rbF vx vy 0=vx from rfl]at c0;have N2:=N1.alloc (.cells #[.pointer (some ⟨d,0,none⟩)] 88);obtain⟨xa,xc,rfl⟩:=owns_slice N1.ox;have kd:k<k+1:=Nat.lt_succ_self k;have hdd:Hid (∀X:Value,X= .pointer (some ⟨d,0,none⟩)->X= .pointer (some ⟨rd1 k,0,none⟩)):=fun X hX=>by rw[hX,hrk.out]
   obtain⟨ya,yc,rfl⟩:=owns_slice N1.oy
   go_wp2_with (first
    |(at_builtin;(refine wpList_append_v _ rfl (.tmp 35) (.tmp 37) 85 rfl w.heap.size 88 i0 (.pointer none) 8 Tryz.underlying85 hi hz0 hz1 hz2 rfl Zd (.slice xa k xc) k (ptrL rd1 k) rfl N2.ox w1.heap.size 1 (.pointer (some ⟨d,0,none⟩)) rfl (World.cell?_alloc_new _ _ _ 0) rfl Zo N2.b.size ?_);intro vx' w3 h3x g3 e3;have d0:=(N2.preX g3).cell (i:=0) Zo;have f0:=(N2.preX g3).frozen 0;have d1:=(N2.preX g3).cell (i:=1) Zo;rw[show rbF (.slice xa k xc) (.slice ya k yc) 1= .slice ya k yc from rfl]at d1;rw[hdd.out _ rfl]at h3x;have N4:=N2.pushX kd h3x g3 e3;have N5:=N4.alloc (.cells #[.int .i64 0] 3);obtain⟨xa',xc',rfl⟩:=owns_slice h3x)
    |(at_builtin;(refine wpList_append_v _ rfl (.tmp 45) (.tmp 46) 35 rfl w.heap.size 3 j0 (.int .i64 0) 8 Tryz.underlying35 hj hy0 hy1 hy2 rfl Zd (.slice ya k yc) k (zrL k) rfl N5.oy w3.heap.size 1 (.int .i64 0) rfl (lit_after _ _ _ _ _) rfl Zo N5.b.size ?_);intro vy' w6 h6y g6 e6;have c6:=(N5.preY g6).cell (i:=1) Zo;have f6:=(N5.preY g6).frozen 1;have N7:=N5.pushY h6y g6 e6;obtain⟨ya',yc',rfl⟩:=owns_slice h6y))
   have E7:Hid (∃vx vy rd,NewR w (w6.setCell ⟨rb,1,none⟩ (.slice ya' (k+1) yc')) rb (k+1) (k+1) (k+1) vx vy rd s):=⟨_,_,_,N7⟩;clear N7 N5 N4 N2 N1 h3x g3 e3 h6y g6 e6;go_roundw
   case rel=>exact⟨k+1,Zo,Zg,E7.out⟩
   case measure=>simp[intOf];omega
  ·have hlt':¬(k:Int)<(n:Int):=by omega
   obtain rfl:k=n:=Zo
   have FIN:Hid (∃HR,(RaAt wr rb HR GA (newA k s.toNat)/\∀q,HR q->w.heap.size<=q)/\Below w.heap.size w wr):=by
    obtain⟨HR,h5⟩:=hN.done h1 h2 h3 h4 hG;exact⟨HR,h5,hN.b⟩
   clear hN;go_wp2;refine bodyPost_ret (v:=.tuple #[.pointer (some ⟨rb,0,none⟩),.int .i64 0]) (by simp[results,Tryz.results10,go_sem]) rfl ?_
   obtain⟨HR,⟨h5,h6⟩,h7⟩:=FIN.out;exact⟨rb,HR,rfl,h5,h6,h7⟩
structure BothA(u1 w:World)(ab rb:Nat)(G HR:Nat->Prop)(a:ArS):Prop where
 D:ArB w u1.heap.size ab G a
 R:RaAt w rb HR G a
 rN:∀k,HR k->u1.heap.size<=k
 B:Below u1.heap.size u1 w
theorem RaAt.lt{w:World}{rb:Nat}{HR GA:Nat->Prop}{a:ArS}(h:RaAt w rb HR GA a):∀k,HR k->k<w.heap.size:=by
 obtain⟨xb,yb,cx,cy,rd,h,ok⟩:=h;exact h.lt
section
variable {u1 w w2 w3:World} {ab rb:Nat} {G G2 HR:Nat->Prop} {a a':ArS}
theorem BothA.below{w':World}(h:BothA u1 w ab rb G HR a)(hb:Below w.heap.size w w'):BothA u1 w' ab rb G HR a:=⟨h.D.below hb,h.R.below hb,h.rN,h.B.step12 hb h.B.size⟩
theorem BothA.step(h:BothA u1 w ab rb G HR a)(hD:ArAt w2 ab G2 a')(g:Grew G w G2 w2)(hR:RaAt w3 rb HR G2 a')(t:TurnG HR w2 w3):BothA u1 w3 ab rb G2 HR a':=by
 have D2:=h.D.grew hD g;have hs:=D2.size;exact⟨⟨D2.at_.other hR.dis t,D2.low,Nat.le_trans hs t.size⟩,hR,h.rN,(h.B.trans (h.D.bel g)).trans (t.below h.rN hs)⟩
def DidA(u1:World)(ab rb:Nat)(HR:Nat->Prop)(a':ArS)(e:Ending)(w':World):Prop:=e= .returned (.bool true)/\∃G',BothA u1 w' ab rb G' HR a'
theorem rwriteA_is(h:RaAt w rb HR G a){i ad:Int}{v:Value}{p:List UInt8}(hp:Rd w v p){x:Int}(hx:wrAX a i ad p=x):Calls Tryz.prog 84 #[.pointer (some ⟨rb,0,none⟩),.int .i64 i,.int .i64 ad,v] w (LeavesRA w rb HR G (wrAS a i ad p) (.int .i64 x)):=by
 rw[<-hx];exact rwriteA_any h hp
theorem rflushA_is(h:RaAt w rb HR G a){x:Int}(hx:flAX a=x):Calls Tryz.prog 86 #[.pointer (some ⟨rb,0,none⟩)] w (LeavesRA w rb HR G (flAS a) (.int .i64 x)):=by
 rw[<-hx];exact rflushA_any h
theorem rfailA_is(h:RaAt w rb HR G a){i x:Int}(hx:thX a i=x):Calls Tryz.prog 101 #[.pointer (some ⟨rb,0,none⟩),.int .i64 i] w (LeavesRA w rb HR G (faAS a i) (.int .i64 x)):=by
 rw[<-hx];exact rfailA_any h
theorem rreplA_is(h:RaAt w rb HR G a){i x:Int}(hx:thX a i=x):Calls Tryz.prog 102 #[.pointer (some ⟨rb,0,none⟩),.int .i64 i] w (LeavesRA w rb HR G (rpAS a i) (.int .i64 x)):=by
 rw[<-hx];exact rreplA_any h
theorem arepl_is(h:ArAt w ab G a){i:Int}(hi:(Lit.int .i64 i).wf=true){x:Int}(hx:thX a i=x):Calls Tryz.prog 17 #[.pointer (some ⟨ab,0,none⟩),.int .i64 i] w (LeavesA w ab G (rpAS a i) (.int .i64 x)):=by
 rw[<-hx];exact arepl_any h hi
theorem rcorrA_is(h:RaAt w rb HR G a){i ad at_:Int}(hat:(Lit.int .i64 at_).wf=true)(y:UInt8){x:Int}(hx:coAX a i ad=x):Calls Tryz.prog 103 #[.pointer (some ⟨rb,0,none⟩),.int .i64 i,.int .i64 ad,.int .i64 at_,.int .u8 ((y.toNat:Nat):Int)] w (LeavesRA w rb HR G (coAS a i ad at_ y) (.int .i64 x)):=by
 rw[<-hx];exact rcorrA_any h hat y
theorem acorr_is(h:ArAt w ab G a){i ad at_:Int}(hi:(Lit.int .i64 i).wf=true)(ha:(Lit.int .i64 ad).wf=true)(hat:(Lit.int .i64 at_).wf=true)(y:UInt8){x:Int}(hx:coAX a i ad=x):Calls Tryz.prog 31 #[.pointer (some ⟨ab,0,none⟩),.int .i64 i,.int .i64 ad,.int .i64 at_,.int .u8 ((y.toNat:Nat):Int)] w (LeavesA w ab G (coAS a i ad at_ y) (.int .i64 x)):=by
 rw[<-hx];exact acorr_any h hi ha hat y
theorem rreadA_is(h:RaAt w rb HR G a){i ad x:Int}(hx:rdAX a i ad=x){p:List UInt8}(hp:rdAB a i ad=p):Calls Tryz.prog 87 #[.pointer (some ⟨rb,0,none⟩),.int .i64 i,.int .i64 ad] w (TellsR w x p):=by
 rw[<-hx,<-hp];exact rreadA_any h
end
section
variable {u1 w:World} {ab rb:Nat} {G HR:Nat->Prop} {a:ArS}
theorem z14_1{p:Prop} (h:p:=by
 rintro _ v3 ⟨rfl,R3,t3⟩;have F:=hA.step A2 g2 R3 t3;have FF:Hid (∃G',BothA u1 v3 ab rb G' HR PL):=⟨G2,by rw[HP.out];exact F⟩;clear F R3 t3 R2 B2 m1 m2 m3 m4 m5 m6 A2 g2 hA HP cellsAt;go_wp2;go_ret;exact⟨rfl,FF.out⟩
 ):p:=h
theorem didA_any(h:BothA u1 w ab rb G HR a){kd cd cn cm:Int}{cy:UInt8}{cb:List UInt8}{ck:List VI}{ba ka:Option Addr}{bc kc:Nat}(pb:Rd u1 (.slice ba cb.length bc) cb)(pk:RdII u1 (.slice ka ck.length kc) ck)(wd:(Lit.int .i64 cd).wf=true)(wn:(Lit.int .i64 cn).wf=true)(wm:(Lit.int .i64 cm).wf=true)(hk:∀r∈ck,r.2.length<=9223372036854775807):
  Calls Tryz.prog 42 #[.pointer (some ⟨ab,0,none⟩),.pointer (some ⟨rb,0,none⟩),.agg #[.int .i64 kd,.int .i64 cd,.int .i64 cn,.int .i64 cm,.int .u8 ((cy.toNat:Nat):Int),.slice ba cb.length bc,.slice ka ck.length kc]] w (DidA u1 ab rb HR (playA a ⟨kd,cd,cn,cm,cy,.slice ba cb.length bc,.slice ka ck.length kc,cb,ck⟩)):=by
 obtain⟨PL,hPL⟩:∃PL,Hid (PL=playA a ⟨kd,cd,cn,cm,cy,.slice ba cb.length bc,.slice ka ck.length kc,cb,ck⟩):=⟨_,rfl⟩;rw[<-hPL.out];obtain⟨wa,hwa⟩:∃x,x=w.alloc (.cells #[.int .i64 kd,.int .i64 cd,.int .i64 cn,.int .i64 cm,.int .u8 ((cy.toNat:Nat):Int),.slice ba cb.length bc,.slice ka ck.length kc] 45):=⟨_,rfl⟩;have bA:Below w.heap.size w wa:=by rw[hwa];exact belA _ _
 have cA:∀j,wa.cell? ⟨w.heap.size,j,none⟩=(#[.int .i64 kd,.int .i64 cd,.int .i64 cn,.int .i64 cm,.int .u8 ((cy.toNat:Nat):Int),.slice ba cb.length bc,.slice ka ck.length kc]:Array Value)[j]? :=fun j=>by rw[hwa];exact World.cell?_alloc_new _ _ _ _
 have lA:w.heap.size<wa.heap.size:=by rw[hwa];simp
 have hA:=h.below bA;have nX:Hid (¬G w.heap.size):=fun e=>by have:=h.D.at_.lt _ e;omega
 have rX:Hid (¬HR w.heap.size):=fun e=>by have:=h.R.lt _ e;omega
 clear h bA;obtain⟨X,hX⟩:∃X,Hid (X=w.heap.size):=⟨_,rfl⟩;rw[<-hX.out]at cA lA nX rX;have a0:=cA 0;have a1:=cA 1;have a2:=cA 2;have a3:=cA 3;have a4:=cA 4;have a5:=cA 5;have a6:=cA 6;simp at a0 a1 a2 a3 a4 a5 a6;have cellsAt:Hid (∀W:World,(∀j,W.cell? ⟨X,j,none⟩=wa.cell? ⟨X,j,none⟩)->W.cell? ⟨X,1,none⟩=some (.int .i64 cd)/\W.cell? ⟨X,2,none⟩=some (.int .i64 cn)/\W.cell? ⟨X,3,none⟩=some (.int .i64 cm)/\W.cell? ⟨X,4,none⟩=some (.int .u8 ((cy.toNat:Nat):Int))/\W.cell? ⟨X,5,none⟩=some (.slice ba cb.length bc)/\W.cell? ⟨X,6,none⟩=some (.slice ka ck.length kc)):=fun W hW=>⟨(hW 1).trans a1,(hW 2).trans a2,(hW 3).trans a3,(hW 4).trans a4,(hW 5).trans a5,(hW 6).trans a6⟩
 clear cA
 by_cases k1:kd=1
 ·subst k1;obtain⟨x,hx⟩:∃x,wrAX a cd cn cb=x:=⟨_,rfl⟩;have HP:Hid (PL=wrAS a cd cn cb):=by rw[hPL.out];rfl
  have bD:Below wa.heap.size wa wa.drew:=Zf.drew;have hD:=hA.below bD;have pbD:=pb.below hD.B;clear hPL hA
  go_enter Tryz.func42,Tryz.ntmps42
  go_wp2_with fail
  rw[<-hwa];rw[<-hX.out];clear hwa hX
  go_region_held3 (fun wx=>wx.cell? ⟨X,1,none⟩=some (.int .i64 cd)/\wx.cell? ⟨X,2,none⟩=some (.int .i64 cn)/\wx.cell? ⟨X,3,none⟩=some (.int .i64 cm)/\wx.cell? ⟨X,4,none⟩=some (.int .u8 ((cy.toNat:Nat):Int))/\wx.cell? ⟨X,5,none⟩=some (.slice ba cb.length bc)/\wx.cell? ⟨X,6,none⟩=some (.slice ka ck.length kc)) (first|exact⟨a1,a2,a3,a4,a5,a6⟩|exact m3|exact m2) (first
   |(go_at_call 81;(refine(awrite_is hD.D.at_ wd wn pbD hx rfl).mono ?_);rintro _ v2 ⟨rfl,G2,A2,g2⟩;have R2:=RaAt.other hD.R g2 A2.lt;have p2:=pb.below (hD.B.trans (hD.D.bel g2));have e2:∀j,v2.cell? ⟨X,j,none⟩=wa.cell? ⟨X,j,none⟩:=(fun j=>g2.turn.cell (p:=⟨X,j,none⟩) lA nX.out);have m2:=cellsAt.out v2 e2;have lX:=Zu lA g2.turn.size)
   |(go_at_call 84;(refine(rwriteA_is R2 p2 hx).mono ?_);rintro _ v3 ⟨rfl,R3,t3⟩;have F:=hD.step A2 g2 R3 t3;have m3:=cellsAt.out v3 (fun j=>(t3.cell (p:=⟨X,j,none⟩) lX rX.out).trans (e2 j))))
  all_goals
   have FF:Hid (∃G',BothA u1 v3 ab rb G' HR PL):=⟨G2,by rw[HP.out];exact F⟩;clear F R3 t3 R2 p2 e2 m2 m3 lX A2 g2 hD pbD bD HP cellsAt;go_wp2;go_ret;exact⟨rfl,FF.out⟩
 by_cases k6:kd=6
 ·subst k6;obtain⟨x,hx⟩:∃x,thX a cd=x:=⟨_,rfl⟩;have HP:Hid (PL=faAS a cd):=by rw[hPL.out];rfl
  have bD:Below wa.heap.size wa wa.drew:=Zf.drew;have hD:=hA.below bD;have pbD:=pb.below hD.B;clear hPL hA
  go_enter Tryz.func42,Tryz.ntmps42
  go_wp2_with fail
  rw[<-hwa];rw[<-hX.out];clear hwa hX
  go_region_held3 (fun wx=>wx.cell? ⟨X,1,none⟩=some (.int .i64 cd)/\wx.cell? ⟨X,2,none⟩=some (.int .i64 cn)/\wx.cell? ⟨X,3,none⟩=some (.int .i64 cm)/\wx.cell? ⟨X,4,none⟩=some (.int .u8 ((cy.toNat:Nat):Int))/\wx.cell? ⟨X,5,none⟩=some (.slice ba cb.length bc)/\wx.cell? ⟨X,6,none⟩=some (.slice ka ck.length kc)) (first|exact⟨a1,a2,a3,a4,a5,a6⟩|exact m3|exact m2) (first
   |(go_at_call 16;(refine(afail_is hD.D.at_ wd hx).mono ?_);rintro _ v2 ⟨rfl,G2,A2,g2⟩;have R2:=RaAt.other hD.R g2 A2.lt;have p2:=pb.below (hD.B.trans (hD.D.bel g2));have e2:∀j,v2.cell? ⟨X,j,none⟩=wa.cell? ⟨X,j,none⟩:=(fun j=>g2.turn.cell (p:=⟨X,j,none⟩) lA nX.out);have m2:=cellsAt.out v2 e2;have lX:=Zu lA g2.turn.size)
   |(go_at_call 101;(refine(rfailA_is R2 hx).mono ?_);rintro _ v3 ⟨rfl,R3,t3⟩;have F:=hD.step A2 g2 R3 t3;have m3:=cellsAt.out v3 (fun j=>(t3.cell (p:=⟨X,j,none⟩) lX rX.out).trans (e2 j))))
  all_goals
   have FF:Hid (∃G',BothA u1 v3 ab rb G' HR PL):=⟨G2,by rw[HP.out];exact F⟩;clear F R3 t3 R2 p2 e2 m2 m3 lX A2 g2 hD pbD bD HP cellsAt;go_wp2;go_ret;exact⟨rfl,FF.out⟩
 by_cases k7:kd=7
 ·subst k7;obtain⟨x,hx⟩:∃x,thX a cd=x:=⟨_,rfl⟩;have HP:Hid (PL=rpAS a cd):=by rw[hPL.out];rfl
  have bD:Below wa.heap.size wa wa.drew:=Zf.drew;have hD:=hA.below bD;have pbD:=pb.below hD.B;clear hPL hA
  go_enter Tryz.func42,Tryz.ntmps42
  go_wp2_with fail
  rw[<-hwa];rw[<-hX.out];clear hwa hX
  go_region_held3 (fun wx=>wx.cell? ⟨X,1,none⟩=some (.int .i64 cd)/\wx.cell? ⟨X,2,none⟩=some (.int .i64 cn)/\wx.cell? ⟨X,3,none⟩=some (.int .i64 cm)/\wx.cell? ⟨X,4,none⟩=some (.int .u8 ((cy.toNat:Nat):Int))/\wx.cell? ⟨X,5,none⟩=some (.slice ba cb.length bc)/\wx.cell? ⟨X,6,none⟩=some (.slice ka ck.length kc)) (first|exact⟨a1,a2,a3,a4,a5,a6⟩|exact m3|exact m2) (first
   |(go_at_call 17;(refine(arepl_is hD.D.at_ wd hx).mono ?_);rintro _ v2 ⟨rfl,G2,A2,g2⟩;have R2:=RaAt.other hD.R g2 A2.lt;have p2:=pb.below (hD.B.trans (hD.D.bel g2));have e2:∀j,v2.cell? ⟨X,j,none⟩=wa.cell? ⟨X,j,none⟩:=(fun j=>g2.turn.cell (p:=⟨X,j,none⟩) lA nX.out);have m2:=cellsAt.out v2 e2;have lX:=Zu lA g2.turn.size)
   |(go_at_call 102;(refine(rreplA_is R2 hx).mono ?_);rintro _ v3 ⟨rfl,R3,t3⟩;have F:=hD.step A2 g2 R3 t3;have m3:=cellsAt.out v3 (fun j=>(t3.cell (p:=⟨X,j,none⟩) lX rX.out).trans (e2 j))))
  all_goals
   have FF:Hid (∃G',BothA u1 v3 ab rb G' HR PL):=⟨G2,by rw[HP.out];exact F⟩;clear F R3 t3 R2 p2 e2 m2 m3 lX A2 g2 hD pbD bD HP cellsAt;go_wp2;go_ret;exact⟨rfl,FF.out⟩
 by_cases k8:kd=8
 ·subst k8;obtain⟨x,hx⟩:∃x,coAX a cd cn=x:=⟨_,rfl⟩;have HP:Hid (PL=coAS a cd cn cm cy):=by rw[hPL.out];rfl
  have bD:Below wa.heap.size wa wa.drew:=Zf.drew;have hD:=hA.below bD;have pbD:=pb.below hD.B;clear hPL hA
  go_enter Tryz.func42,Tryz.ntmps42
  go_wp2_with fail
  rw[<-hwa];rw[<-hX.out];clear hwa hX
  go_region_held3 (fun wx=>wx.cell? ⟨X,1,none⟩=some (.int .i64 cd)/\wx.cell? ⟨X,2,none⟩=some (.int .i64 cn)/\wx.cell? ⟨X,3,none⟩=some (.int .i64 cm)/\wx.cell? ⟨X,4,none⟩=some (.int .u8 ((cy.toNat:Nat):Int))/\wx.cell? ⟨X,5,none⟩=some (.slice ba cb.length bc)/\wx.cell? ⟨X,6,none⟩=some (.slice ka ck.length kc)) (first|exact⟨a1,a2,a3,a4,a5,a6⟩|exact m3|exact m2) (first
   |(go_at_call 31;(refine(acorr_is hD.D.at_ wd wn wm cy hx).mono ?_);rintro _ v2 ⟨rfl,G2,A2,g2⟩;have R2:=RaAt.other hD.R g2 A2.lt;have p2:=pb.below (hD.B.trans (hD.D.bel g2));have e2:∀j,v2.cell? ⟨X,j,none⟩=wa.cell? ⟨X,j,none⟩:=(fun j=>g2.turn.cell (p:=⟨X,j,none⟩) lA nX.out);have m2:=cellsAt.out v2 e2;have lX:=Zu lA g2.turn.size)
   |(go_at_call 103;(refine(rcorrA_is R2 wm cy hx).mono ?_);rintro _ v3 ⟨rfl,R3,t3⟩;have F:=hD.step A2 g2 R3 t3;have m3:=cellsAt.out v3 (fun j=>(t3.cell (p:=⟨X,j,none⟩) lX rX.out).trans (e2 j))))
  all_goals
   have FF:Hid (∃G',BothA u1 v3 ab rb G' HR PL):=⟨G2,by rw[HP.out];exact F⟩;clear F R3 t3 R2 p2 e2 m2 m3 lX A2 g2 hD pbD bD HP cellsAt;go_wp2;go_ret;exact⟨rfl,FF.out⟩
 by_cases k3:kd=3
 ·subst k3;obtain⟨x,hx⟩:∃x,flAX a=x:=⟨_,rfl⟩;have HP:Hid (PL=flAS a):=by rw[hPL.out];rfl
  clear hPL
  go_enter Tryz.func42,Tryz.ntmps42
  go_wp2_with fail
  rw[<-hwa];rw[<-hX.out];clear hwa hX;refine(aflush_is hA.D.at_ hx rfl).mono ?_
  rintro _ v2 ⟨rfl,G2,A2,g2⟩;have R2:=RaAt.other hA.R g2 A2.lt;have B2:=hA.B.trans (hA.D.bel g2);have e2:∀j,v2.cell? ⟨X,j,none⟩=wa.cell? ⟨X,j,none⟩:=(fun j=>g2.turn.cell (p:=⟨X,j,none⟩) lA nX.out);obtain⟨m1,m2,m3,m4,m5,m6⟩:=cellsAt.out v2 e2;clear e2
  go_wp2_with fail
  refine(rflushA_is R2 hx).mono ?_
  exact z14_1
 by_cases k4:kd=4
 ·subst k4;have HP:Hid (PL=caA a cn):=by rw[hPL.out];rfl
  clear hPL
  go_enter Tryz.func42,Tryz.ntmps42
  go_wp2_with fail
  rw[<-hwa];rw[<-hX.out];clear hwa hX;refine(aafter_any hA.D.at_ wn).mono ?_
  rintro _ v2 ⟨rfl,G2,A2,g2⟩;have R2:=RaAt.other hA.R g2 A2.lt;have B2:=hA.B.trans (hA.D.bel g2);have e2:∀j,v2.cell? ⟨X,j,none⟩=wa.cell? ⟨X,j,none⟩:=(fun j=>g2.turn.cell (p:=⟨X,j,none⟩) lA nX.out);obtain⟨m1,m2,m3,m4,m5,m6⟩:=cellsAt.out v2 e2;clear e2
  go_wp2_with fail
  refine(rafter_any R2 wn).mono ?_
  exact z14_1
 by_cases k5:kd=5
 ·subst k5;have HP:Hid (PL=reAS a (ck.map (·.2))):=by rw[hPL.out];rfl
  clear hPL
  go_enter Tryz.func42,Tryz.ntmps42
  go_wp2_with fail
  rw[<-hwa];rw[<-hX.out];clear hwa hX;refine(arestart_any hA.D.at_ (ToldII.old pk hA.D.low hA.B) hk).mono ?_
  rintro _ v2 ⟨rfl,G2,A2,g2⟩;have R2:=RaAt.other hA.R g2 A2.lt;have B2:=hA.B.trans (hA.D.bel g2);have e2:∀j,v2.cell? ⟨X,j,none⟩=wa.cell? ⟨X,j,none⟩:=(fun j=>g2.turn.cell (p:=⟨X,j,none⟩) lA nX.out);obtain⟨m1,m2,m3,m4,m5,m6⟩:=cellsAt.out v2 e2;clear e2
  go_wp2_with fail
  refine(rrestartA_any R2 (ToldII.old pk hA.rN B2) hk).mono ?_
  exact z14_1
 by_cases k2:kd=2
 ·subst k2;have HP:Hid (PL=a):=by rw[hPL.out];rfl
  clear hPL;obtain⟨x,hx⟩:∃x,rdAX a cd cn=x:=⟨_,rfl⟩;obtain⟨pr,hpr⟩:∃p,rdAB a cd cn=p:=⟨_,rfl⟩
  go_enter Tryz.func42,Tryz.ntmps42
  go_wp2_with fail
  rw[<-hwa];rw[<-hX.out];clear hwa hX;refine(aread_is hA.D.at_ wd wn hx hpr).mono ?_
  rintro _ v2 ⟨xv,rfl,O2,C2⟩;have h2:=hA.below C2;have r2:=Rd.owned O2;obtain⟨va,vc,rfl⟩:=owns_slice O2;have e2:∀j,v2.cell? ⟨X,j,none⟩=wa.cell? ⟨X,j,none⟩:=(fun j=>C2.cell (p:=⟨X,j,none⟩) lA);obtain⟨m1,m2,m3,m4,m5,m6⟩:=cellsAt.out v2 e2;clear e2
  go_wp2_with fail
  refine(rreadA_is h2.R hx hpr).mono ?_
  rintro _ v3 ⟨xw,rfl,r3,C3⟩;have h3:=h2.below C3;obtain⟨wa2,wc2,rfl⟩:=r3.form
  go_wp2_with fail
  refine(same_is (r2.below C3) r3 (sameB_self _)).mono ?_
  rintro _ v4 ⟨rfl,nq,hq⟩;have C4:Below v3.heap.size v3 v4:=by rw[hq];exact Zf.drewN _
  have FF:Hid (∃G',BothA u1 v4 ab rb G' HR PL):=⟨G,by rw[HP.out];exact h3.below C4⟩;clear C4 h3 r3 C3 h2 r2 O2 C2 m1 m2 m3 m4 m5 m6 hA HP cellsAt hq hx hpr;go_wp2;go_ret;exact⟨rfl,FF.out⟩
 have HP:Hid (PL=a):=by show PL=a;rw[hPL.out];unfold playA;simp[k1,k3,k4,k5,k6,k7,k8]
 have z1:(kd==1)=false:=Zq.2 k1;have z2:(kd==2)=false:=Zq.2 k2;have z3:(kd==3)=false:=Zq.2 k3;have z4:(kd==4)=false:=Zq.2 k4;have z5:(kd==5)=false:=Zq.2 k5;have z6:(kd==6)=false:=Zq.2 k6;have z7:(kd==7)=false:=Zq.2 k7;have z8:(kd==8)=false:=Zq.2 k8;have FF:Hid (∃G',BothA u1 wa ab rb G' HR PL):=⟨G,by rw[HP.out];exact hA⟩;rw[hwa]at FF;clear hPL hA HP cellsAt k1 k2 k3 k4 k5 k6 k7 k8 a0 a1 a2 a3 a4 a5 a6 lA hwa nX rX
 go_enter Tryz.func42,Tryz.ntmps42
 go_wp2;go_ret;exact⟨rfl,FF.out⟩
end
theorem z14_2{p:Prop} (h:p:=by
 have hlt':¬(k:Int)<(n:Int):=Zo
 clear h1 h2;go_wp2;go_ret;exact⟨rfl,m,rfl⟩
 ):p:=h
theorem aints_eq{w:World}{g1 g2 n c1 c2:Nat}{f:Nat->Int}(h1:∀i,i<n->w.cell? ⟨g1,i,none⟩=some (.int .i64 (f i)))(h2:∀i,i<n->w.cell? ⟨g2,i,none⟩=some (.int .i64 (f i)))(hn:n<=1000):
  Calls Tryz.prog 48 #[.slice (some ⟨g1,0,none⟩) n c1,.slice (some ⟨g2,0,none⟩) n c2] w fun e w'=>e= .returned (.bool true)/\∃m,w'=w.drewN m:=by
 go_enter Tryz.func48,Tryz.ntmps48
 go_wp2
 go_loopw [5] (fun i wr=>∃k:Nat,k<=n/\i= .int .i64 (k:Int)/\∃m,wr=w.drewN m) (fun i _=>n-(intOf i).toNat)
 case atStart=>exact⟨0,Zz,rfl,0,rfl⟩
 case round=>
  obtain⟨k,hk,rfl,m,rfl⟩:=hrel
  by_cases hlt:k<n
  ·have hlt':(k:Int)<(n:Int):=by omega
   have g1':IntKind.i64.wrap ((k:Int)+1)=((k+1:Nat):Int):=Zw
   have k1:(w.drewN m).cell? ⟨g1,k,none⟩=some (.int .i64 (f k)):=h1 k hlt;have k2:(w.drewN m).cell? ⟨g2,k,none⟩=some (.int .i64 (f k)):=h2 k hlt;generalize f k=y at k1 k2;obtain⟨wq,hq⟩:∃wq,wq=w.drewN m:=⟨_,rfl⟩;have HQ:Hid (wq=w.drewN m):=hq;rw[<-hq]at k1 k2 ⊢;clear hq h1 h2
   go_wp2_with fail
   try go_quiet (fail)
   try go_wp2
   go_roundw
   case rel=>exact⟨k+1,Zo,Zg,by first|exact⟨_,HQ.out⟩|exact⟨_,by rw[HQ.out];exact World.drewN_drewN _ _ _⟩⟩
   case measure=>simp[intOf];omega
  ·exact z14_2
theorem abools_eq{w:World}{g1 g2 n c1 c2:Nat}{f:Nat->Bool}(h1:∀i,i<n->w.cell? ⟨g1,i,none⟩=some (.bool (f i)))(h2:∀i,i<n->w.cell? ⟨g2,i,none⟩=some (.bool (f i)))(hn:n<=1000):
  Calls Tryz.prog 37 #[.slice (some ⟨g1,0,none⟩) n c1,.slice (some ⟨g2,0,none⟩) n c2] w fun e w'=>e= .returned (.bool true)/\∃m,w'=w.drewN m:=by
 go_enter Tryz.func37,Tryz.ntmps37
 go_wp2
 go_loopw [5] (fun i wr=>∃k:Nat,k<=n/\i= .int .i64 (k:Int)/\∃m,wr=w.drewN m) (fun i _=>n-(intOf i).toNat)
 case atStart=>exact⟨0,Zz,rfl,0,rfl⟩
 case round=>
  obtain⟨k,hk,rfl,m,rfl⟩:=hrel
  by_cases hlt:k<n
  ·have hlt':(k:Int)<(n:Int):=by omega
   have g1':IntKind.i64.wrap ((k:Int)+1)=((k+1:Nat):Int):=Zw
   have k1:(w.drewN m).cell? ⟨g1,k,none⟩=some (.bool (f k)):=h1 k hlt;have k2:(w.drewN m).cell? ⟨g2,k,none⟩=some (.bool (f k)):=h2 k hlt;generalize f k=y at k1 k2;obtain⟨wq,hq⟩:∃wq,wq=w.drewN m:=⟨_,rfl⟩;have HQ:Hid (wq=w.drewN m):=hq;rw[<-hq]at k1 k2 ⊢;clear hq h1 h2;cases y
   all_goals
    go_wp2_with fail
    try go_quiet (fail)
    try go_wp2
    go_roundw
    case rel=>exact⟨k+1,Zo,Zg,by first|exact⟨_,HQ.out⟩|exact⟨_,by rw[HQ.out];exact World.drewN_drewN _ _ _⟩⟩
    case measure=>simp[intOf];omega
  ·exact z14_2
section
variable {u1 w:World} {ab rb:Nat} {G HR:Nat->Prop} {a:ArS}
theorem showsA_any(h:BothA u1 w ab rb G HR a):Calls Tryz.prog 13 #[.pointer (some ⟨ab,0,none⟩),.pointer (some ⟨rb,0,none⟩)] w fun e w'=>e= .returned (.bool true)/\BothA u1 w' ab rb G HR a:=by
 have ok:Hid a.Ok:=h.D.at_.ok;have d2:a.D.length<=32:=ok.out.d2;have START:Hid (BothA u1 w ab rb G HR a):=h;clear h
 go_enter Tryz.func13,Tryz.ntmps13
 go_wp2
 go_loopw [5] (fun i wr=>∃k:Nat,k<=a.D.length/\i= .int .i64 (k:Int)/\BothA u1 wr ab rb G HR a) (fun i _=>a.D.length-(intOf i).toNat)
 case atStart=>exact⟨0,Zz,rfl,START.out⟩
 case round=>
  clear START;obtain⟨k,hk,rfl,hB⟩:=hrel;obtain⟨xb,yb,cx,cy,rd,hM,_⟩:=hB.R
  by_cases hlt:k<a.D.length
  ·have hlt':(k:Int)<(a.D.length:Int):=by omega
   have g1:IntKind.i64.wrap ((k:Int)+1)=((k+1:Nat):Int):=Zw
   have hfl:=held_few ok.out hlt (a.D.getD k default).last;have hfw:=held_few ok.out hlt (a.D.getD k default).wait;obtain⟨vl,vw,Tl,Tw,hI⟩:=hM.dk k hlt;have SA:Hid (∀W,Below wr.heap.size wr W->(W.cell? ⟨rb,0,none⟩=some (.slice (some ⟨xb,0,none⟩) a.D.length cx)/\W.cell? ⟨xb,k,none⟩=some (.pointer (some ⟨rd k,0,none⟩))/\W.cell? ⟨rd k,1,none⟩=some vl)/\W.cell? ⟨rd k,2,none⟩=some vw/\RdH W vl (heldL (a.D.getD k default).last (a.D.getD k default).s)/\RdH W vw (heldL (a.D.getD k default).wait (a.D.getD k default).s)):=fun W hW=>by
    have hM2:=hM.below hW;have hI2:=hI.below hW;exact⟨⟨hM2.c0,hM2.x k hlt,hI2.c1⟩,hI2.c2,⟨Tl,hI2.el,hI2.tl.rd⟩,⟨Tw,hI2.ew,hI2.tw.rd⟩⟩
   have s0:=SA.out wr Zf;have c0:=s0.1.1;have bD:Below wr.heap.size wr wr.drew:=Zf.drew;have h3:=hB.below bD;have s3:=SA.out _ bD;clear hM hI
   go_wp2_with fail
   go_region_held3 (fun wx=>wx.cell? ⟨rb,0,none⟩=some (.slice (some ⟨xb,0,none⟩) a.D.length cx)/\wx.cell? ⟨xb,k,none⟩=some (.pointer (some ⟨rd k,0,none⟩))/\wx.cell? ⟨rd k,1,none⟩=some vl) (first|exact s0.1|exact s3.1|exact s6.1|exact s5.1) (first
    |(go_at_call 44;go_loud (refine(alasts_at h3.D.at_ hlt).mono ?_);rintro _ v5 ⟨x5,rfl,O5,C5⟩;have h5:=h3.below C5;have B5:=bD.step12 C5 bD.size;have s5:=SA.out _ B5;have r5:=OwnH.rdA O5 hfl)
    |(go_at_call 43;go_loud (refine(same12_is r5 s5.2.2.1 (Zy rfl)).mono ?_);rintro _ v6 ⟨rfl,nq6,hq6⟩;have C6:Below v5.heap.size v5 v6:=(by rw[hq6];exact Zf.drewN _);clear hq6;have h6:=h5.below C6;have B6:=B5.step12 C6 B5.size;have s6:=SA.out _ B6))
   clear h3 s0 s3 s5 r5 O5 C5 C6 h5 B5 c0 bD;have bD:Below v6.heap.size v6 v6.drew:=Zf.drew;have h7:=h6.below bD;have B7:=B6.step12 bD B6.size;have s7:=SA.out _ B7
   go_wp2_with fail
   go_region_held3 (fun wx=>wx.cell? ⟨rb,0,none⟩=some (.slice (some ⟨xb,0,none⟩) a.D.length cx)/\wx.cell? ⟨xb,k,none⟩=some (.pointer (some ⟨rd k,0,none⟩))/\wx.cell? ⟨rd k,2,none⟩=some vw) (first|exact⟨s6.1.1,s6.1.2.1,s6.2.1⟩|exact⟨s7.1.1,s7.1.2.1,s7.2.1⟩|exact⟨s9.1.1,s9.1.2.1,s9.2.1⟩|exact⟨s8.1.1,s8.1.2.1,s8.2.1⟩) (first
    |(go_at_call 45;go_loud (refine(awaits_at h7.D.at_ hlt).mono ?_);rintro _ v8 ⟨x8,rfl,O8,C8⟩;have h8:=h7.below C8;have B8:=B7.step12 C8 B7.size;have s8:=SA.out _ B8;have r8:=OwnH.rdA O8 hfw)
    |(go_at_call 43;go_loud (refine(same12_is r8 s8.2.2.2 (Zy rfl)).mono ?_);rintro _ v9 ⟨rfl,nq9,hq9⟩;have C9:Below v8.heap.size v8 v9:=(by rw[hq9];exact Zf.drewN _);clear hq9;have h9:=h8.below C9;have B9:=B8.step12 C9 B8.size;have s9:=SA.out _ B9))
   have E9:Hid _:=h9;clear h6 s6 B6 h7 s7 B7 s8 r8 O8 C8 C9 h8 B8 h9 B9 s9 bD SA hB;go_wp2;go_roundw
   case rel=>exact⟨k+1,Zo,Zg,E9.out⟩
   case measure=>simp[intOf];omega
  ·have hlt':¬(k:Int)<(a.D.length:Int):=by omega
   have c0:=hM.c0;have hn0:a.D.length≠0:=by have:=ok.out.d1;omega
   go_wp2_with fail
   refine(alive_any hB.D.at_).mono ?_
   rintro _ v2 ⟨g2,rfl,R2,_,C2⟩;have h2:=hB.below C2;clear hB hM c0
   go_wp2_with fail
   refine(rliveA_any h2.R).mono ?_
   rintro _ v3 ⟨xv,rfl,O3,C3⟩;have h3:=h2.below C3;have R3:=R2.of_block (C3.block g2 R2.lt);obtain⟨g3,c3,e3,_,o3⟩:=owns_formD O3 hn0;subst e3;clear O3 C3 h2 R2 C2;have KB:=@abools_eq v3 g2 g3 a.D.length a.D.length c3 (fun i=> !(a.D.getD i default).dead) (fun i hi=>R3.cell hi) (fun i hi=>by rw[World.ownsRow.cellAt o3 i Zo];simp[lvF,hi]) Zo
   go_wp2_with fail
   refine KB.mono ?_
   rintro _ v4 ⟨rfl,n4,hq4⟩;have C4:Below v3.heap.size v3 v4:=by rw[hq4];exact Zf.drewN _
   have h4:=h3.below C4;clear C4 h3 R3 o3 KB hq4;obtain⟨xb,yb,cx,cy,rd,hM,_⟩:=h4.R;have SB:Hid (∀W,Below v4.heap.size v4 W->W.cell? ⟨rb,1,none⟩=some (.slice (some ⟨yb,0,none⟩) a.D.length cy)/\∀i,i<a.D.length->W.cell? ⟨yb,i,none⟩=some (.int .i64 (a.B.getD i 0))):=fun W hW=>⟨(hM.below hW).c1,(hM.below hW).y⟩
   have SC:Hid (∀W,Below v4.heap.size v4 W->W.cell? ⟨rb,3,none⟩=some (.bool a.off)/\W.cell? ⟨rb,0,none⟩=some (.slice (some ⟨xb,0,none⟩) a.D.length cx)):=fun W hW=>⟨(hM.below hW).c3,(hM.below hW).c0⟩
   have bD:Below v4.heap.size v4 v4.drew:=Zf.drew;have h5:=h4.below bD;have s4:=(SB.out v4 Zf).1;have s5:=(SB.out _ bD).1;clear hM
   go_wp2_with fail
   go_region_held3 (fun wx=>wx.cell? ⟨rb,1,none⟩=some (.slice (some ⟨yb,0,none⟩) a.D.length cy)) (first|exact s4|exact s5|exact s7|exact s6) (first
    |(go_at_call 49;go_loud (refine(abirths_any h5.D.at_).mono ?_);rintro _ v6 ⟨g6,rfl,R6,_,C6⟩;have h6:=h5.below C6;have B6:=bD.step12 C6 bD.size;have q6:=SB.out _ B6;have s6:=q6.1)
    |(go_at_call 48;go_loud (refine(@aints_eq v6 g6 yb a.D.length a.D.length cy (fun i=>a.B.getD i 0) (fun i hi=>R6.cell hi) q6.2 Zo).mono ?_);rintro _ v7 ⟨rfl,nq7,hq7⟩;have C7:Below v6.heap.size v6 v7:=(by rw[hq7];exact Zf.drewN _);clear hq7;have h7:=h6.below C7;have B7:=B6.step12 C7 B6.size;have s7:=(SB.out _ B7).1))
   clear h4 h5 bD s4 s5 h6 B6 q6 s6 R6 C6 C7 s7 SB;have bD:Below v7.heap.size v7 v7.drew:=Zf.drew;have h8:=h7.below bD;have s7:=SC.out v7 B7;have s8:=SC.out _ (B7.step12 bD B7.size);have no1:¬thA a (-1):=fun h=>by have:=h.1;omega
   have no2:¬thA a (a.D.length:Int):=fun h=>by have:=h.2;omega
   have FIN:Hid (BothA u1 v7.drew ab rb G HR a):=h8;obtain⟨x,hx⟩:∃x,Hid (a.off=x):=⟨_,rfl⟩;rw[hx.out]at s7 s8;have KD:=adown_is h8.D.at_ hx.out;have KL:=alasts_no h8.D.at_ no1;have KW:=awaits_no h8.D.at_ no2;clear SC B7 h7 h8 bD no1 no2;cases x
   ·go_wp2_with fail
    go_region_held3 (fun wx=>wx.cell? ⟨rb,3,none⟩=some (.bool false)/\wx.cell? ⟨rb,0,none⟩=some (.slice (some ⟨xb,0,none⟩) a.D.length cx)) (first|exact s7|exact s8) (first
     |(go_at_call 50;go_loud (refine KD.mono ?_);rintro _ v9 ⟨rfl,hq⟩;rw[hq];clear hq v9)
     |(go_at_call 44;go_loud (refine KL.mono ?_);rintro _ v9 ⟨rfl,hq⟩;rw[hq];clear hq v9)
     |(go_at_call 45;go_loud (refine KW.mono ?_);rintro _ v9 ⟨rfl,hq⟩;rw[hq];clear hq v9))
    clear KD KL KW s7 s8;go_wp2;go_ret;exact⟨rfl,FIN.out⟩
   ·go_wp2_with fail
    go_region_held3 (fun wx=>wx.cell? ⟨rb,3,none⟩=some (.bool true)/\wx.cell? ⟨rb,0,none⟩=some (.slice (some ⟨xb,0,none⟩) a.D.length cx)) (first|exact s7|exact s8) (first
     |(go_at_call 50;go_loud (refine KD.mono ?_);rintro _ v9 ⟨rfl,hq⟩;rw[hq];clear hq v9)
     |(go_at_call 44;go_loud (refine KL.mono ?_);rintro _ v9 ⟨rfl,hq⟩;rw[hq];clear hq v9)
     |(go_at_call 45;go_loud (refine KW.mono ?_);rintro _ v9 ⟨rfl,hq⟩;rw[hq];clear hq v9))
    clear KD KL KW s7 s8;go_wp2;go_ret;exact⟨rfl,FIN.out⟩
end
end Go.Proofs.YtclieefpnbdbjaaGreat.Gf
