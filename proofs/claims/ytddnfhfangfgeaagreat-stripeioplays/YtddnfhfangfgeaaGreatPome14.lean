/- JOINED: WdCA, WdSh, WdLawM, WdStr, WdCB, WdRefN, WdCC, WdCD. -/
import Derived.Test.YtddnfhfangfgeaaGreatPome13
import Derived.Lib.SliceRun
set_option maxHeartbeats 4000000
set_option maxRecDepth 100000
namespace Go.Proofs.YtddnfhfangfgeaaGreat.Gf
set_option linter.unusedVariables false
set_option linter.unusedSimpArgs false
open Go.RowKit
theorem info_int10:(Tryz.prog.info? 3).map (fun i=>(i.zero,i.size,i.bytes))=some (some (.int .i64 0),1,8):=Zk
theorem info_bool10:(Tryz.prog.info? 4).map (fun i=>(i.zero,i.size,i.bytes))=some (some (.bool false),1,1):=Zk
theorem z14_4{p:Prop} (h:p:=by
 go_wp2
 try rw[Exit.noGoto_ret]
 go_ret;exact⟨_,rfl,hO,hB⟩
 ):p:=h
theorem epl_any{va:Value}{h:List Bool}{w:World}(hH:RdB w va h)(hl:h.length<=300):Calls Tryz.prog 140 #[va] w fun e w'=>∃v,e= .returned v/\OwnI w' w.heap.size 3 v (plc (hb h) h.length)/\Below w.heap.size w w':=by
 obtain⟨i0,hi,hz0,hz1,hz2⟩:=info_parts info_int10;obtain⟨a,c,rfl⟩:=hH.form
 go_enter Tryz.func140,Tryz.ntmps140
 go_wp2
 go_loopw [3,8] (fun o i wr=>∃r:Nat,r<=h.length/\i= .int .i64 r/\OwnI wr w.heap.size 3 o (plc (hb h) r)/\Below w.heap.size w wr) (fun _ i _=>h.length-(intOf i).toNat)
 case atStart=>exact⟨0,Zo,rfl,OwnI.nil _ _ _,Zf⟩
 case round=>
  obtain⟨r,hr,rfl,hO,hB⟩:=hrel;have hsz:=hB.size;have hn:Hid ((plc (hb h) r).length<=300):=by show _<=_;rw[plc_length];have:=cnt_le (hb h) r;omega
  by_cases hlt:r<h.length
  ·obtain⟨b,off,rfl,_,c1⟩:=(hH.below hB).at hlt;have hlt':(r:Int)<(h.length:Int):=by omega
   obtain⟨av,cv,rfl⟩:=hO.form;have E:=plc_succ (hb h) r;cases e:hb h r with
   |false=>
    rw[e]at c1 E;have E':Hid (plc (hb h) (r+1)=plc (hb h) r):=by show _=_;rw[E];simp
    clear hH e E;go_wp2;go_roundw
    case rel=>exact⟨r+1,Zo,Zg,by rw[E'.out];exact hO,hB⟩
    case measure=>simp[intOf];omega
   |true=>
    rw[e]at c1 E;have E':Hid (plc (hb h) (r+1)=plc (hb h) r++[r]):=E;clear hH e E
    go_wp2_with (at_builtin;go_loud (refine wpList_append_int rfl (.tmp 14) (.tmp 16) 45 rfl w.heap.size 3 i0 Tryz.underlying45 hi hz0 hz1 hz2 (.slice av (plc (hb h) r).length cv) (plc (hb h) r) rfl hO r _ 1 rfl (by have:=hn.out;omega) hsz ?_);intro v' w2 hv2 hb2)
    have HO:Hid (OwnI w2 w.heap.size 3 v' (plc (hb h) (r+1))):=by show OwnI _ _ _ _ _;rw[E'.out];exact hv2
    have HB:Hid (Below w.heap.size w w2):=hB.trans hb2;clear hO hv2 hb2 hB c1;go_wp2;go_roundw
    case rel=>exact⟨r+1,Zo,Zg,HO.out,HB.out⟩
    case measure=>simp[intOf];omega
  ·have e:r=h.length:=by omega
   subst e;have hge:¬(h.length:Int)<(h.length:Int):=Zo
   clear hH;exact z14_4
def ptsL(zs:List Nat):List UInt8:=zs.map pt
theorem ptsL_length(zs:List Nat):(ptsL zs).length=zs.length:=List.length_map ..
def ptsF(zs:List Nat)(r i:Nat):UInt8:=if i<r then pt (zs.getD i 0)else 0
theorem z14_2{p:Prop} (h:p:=by
 by_cases e:i=r
 ·subst e;rw[if_pos Zo,if_pos rfl]
 ·rw[if_neg e]
  by_cases h:i<r
  ·rw[if_pos h,if_pos Zo]
  ·rw[if_neg h,if_neg Zo]
 ):p:=h
theorem ptsF_step(zs:List Nat)(r i:Nat):ptsF zs (r+1) i=if i=r then pt (zs.getD r 0)else ptsF zs r i:=by
 unfold ptsF;exact z14_2
theorem ptsF_all(zs:List Nat):upto (ptsF zs zs.length) zs.length=ptsL zs:=by
 refine co_ext (by rw[upto_length,ptsL_length]) fun i hi=>?_
 rw[upto_length]at hi;rw[co_upto_in hi];unfold ptsF ptsL;rw[if_pos hi,co_lt (by rw[List.length_map];exact hi)];simp[List.getD,hi]
theorem z14_3{p:Prop} (h:p:=by
 clear hR hB hH;go_wp2;go_roundw
 case rel=>exact⟨i+1,Zo,Zg,HN.out,HB.out⟩
 case measure=>simp[intOf];omega
 ):p:=h
theorem ept_any{va:Value}{zs:List Nat}{w:World}(hH:RdI w va (toI zs))(hl:zs.length<=300)(hz:∀i,i<zs.length->zs.getD i 0<256):Calls Tryz.prog 166 #[va] w fun e w'=>∃v,e= .returned v/\Rd w' v (ptsL zs)/\Below w.heap.size w w':=by
 obtain⟨a,c,e⟩:=hH.form;rw[toI_length]at e;subst e;have hz':Hid _:=hz;clear hz;obtain⟨n,hn⟩:∃n,Hid (n=zs.length):=⟨_,rfl⟩;rw[<-hn.out]at hl ⊢;obtain⟨i0,hi,hz0,hz1,hz2⟩:=info_parts info_u8
 go_enter Tryz.func166,Tryz.ntmps166
 go_wp2_with (at_make;go_loud (refine wpList_make_full _ rfl (.tmp 7) (.tmp 7) 36 rfl w.heap.size 5 i0 (.int .u8 0) 1 Tryz.underlying36 hi hz0 hz1 _ _ _ _ n rfl rfl Zo Zo (by rw[hz2];omega) Zl Zr ?_);intro w1 hown1 hgrow1)
 have R1:Hid (RowF w1 w.heap.size 5 w.heap.size n n (fun _=>0)):=RowF.made hown1;have B1:Hid (Below w.heap.size w w1):=Zf.grown hgrow1 Zr (fun k h=>by cases h);clear hown1 hgrow1;go_wp2
 go_loopw [11] (fun v wr=>∃i:Nat,i<=n/\v= .int .i64 i/\RowF wr w.heap.size 5 w.heap.size n n (ptsF zs i)/\Below w.heap.size w wr) (fun v _=>n-(intOf v).toNat)
 case atStart=>exact⟨0,Zo,rfl,R1.out.congr fun j hj=>(if_neg (Nat.not_lt_zero _)).symm,B1.out⟩
 case round=>
  obtain⟨i,hi9,rfl,hR,hB⟩:=hrel;clear R1 B1
  by_cases hlt:i<n
  ·have hlt':(i:Int)<(n:Int):=by omega
   obtain⟨sb,so,es,_,cs⟩:=(hH.below hB).at (i:=i) (by rw[toI_length,<-hn.out];exact hlt);subst es;rw[toI_getD]at cs;have hx:=hz'.out i (by rw[<-hn.out];exact hlt);obtain⟨x,hxx⟩:∃x,Hid (x=zs.getD i 0):=⟨_,rfl⟩;rw[<-hxx.out]at cs hx;have m1:(x:Int)%256=(x:Int):=Zo
   have c1:=hR.cell hlt;have f1:=hR.unfrozen i;have HN:Hid (RowF (World.setCell wr ⟨w.heap.size,i,none⟩ (.int .u8 (x:Int))) w.heap.size 5 w.heap.size n n (ptsF zs (i+1))):=by
    have:=hR.store hlt (pt x) (f':=ptsF zs (i+1)) (fun j=>by rw[ptsF_step,hxx.out]);rw[pt_toNat hx]at this;exact this
   have HB:Hid (Below w.heap.size w (World.setCell wr ⟨w.heap.size,i,none⟩ (.int .u8 (x:Int)))):=hB.setCell (p:=⟨w.heap.size,i,none⟩) Zr _;exact z14_3
  ·have hge:¬(i:Int)<(n:Int):=by omega
   have ei:i=n:=Zo
   have Rt:Hid (Rd wr (.slice (some ⟨w.heap.size,0,none⟩) n n) (ptsL zs)):=by
    show Rd _ _ _
    rw[<-ptsF_all,<-hn.out,<-ei];have:=hR.rd;rw[ei]at this ⊢;exact this
   clear ei hR hH;go_wp2;go_ret;exact⟨_,rfl,Rt.out,hB⟩
def notM(h:List Bool):List Bool:=(List.range h.length).map fun i=> !hb h i
theorem notM_length(h:List Bool):(notM h).length=h.length:=by simp[notM]
theorem notM_at{h:List Bool}{i:Nat}(hi:i<h.length):hb (notM h) i= !hb h i:=by simp[notM,hb,List.getD,hi]
def oppF(h:List Bool)(r i:Nat):Bool:=if i<r then !hb h i else false
theorem oppF_zero(h:List Bool):oppF h 0=fun _=>false:=by funext i;exact if_neg (Nat.not_lt_zero _)
theorem oppF_step(h:List Bool)(r i:Nat):oppF h (r+1) i=if i=r then !hb h r else oppF h r i:=by
 unfold oppF;exact z14_2
theorem oppF_all(h:List Bool):(List.range h.length).map (oppF h h.length)=notM h:=List.map_congr_left fun i hi=>if_pos (List.mem_range.1 hi)
theorem eopp_any{va:Value}{h:List Bool}{w:World}(hH:RdB w va h)(hl:h.length<=300):Calls Tryz.prog 136 #[va] w fun e w'=>∃v,e= .returned v/\RdB w' v (notM h)/\Below w.heap.size w w':=by
 obtain⟨i0,hi,hz0,hz1,hz2⟩:=info_parts info_bool10;obtain⟨a,c,rfl⟩:=hH.form;obtain⟨n,hn⟩:∃n,Hid (n=h.length):=⟨_,rfl⟩;rw[<-hn.out]at hl ⊢
 go_enter Tryz.func136,Tryz.ntmps136
 go_wp2_with (at_make;go_loud (refine wpList_make_full _ rfl (.tmp 7) (.tmp 7) 96 rfl w.heap.size 4 i0 (.bool false) 1 Tryz.underlying96 hi hz0 hz1 _ _ _ _ n rfl rfl Zo Zo (by rw[hz2];omega) Zl Zr ?_);intro w1 hown1 hgrow1)
 have R1:Hid (BoolF w1 w.heap.size 4 w.heap.size n (fun _=>false)):=BoolF.made hown1;have B1:Hid (Below w.heap.size w w1):=Zf.grown hgrow1 Zr (fun k h=>by cases h);clear hown1 hgrow1;go_wp2
 go_loopw [11] (fun v wr=>∃i:Nat,i<=n/\v= .int .i64 i/\BoolF wr w.heap.size 4 w.heap.size n (oppF h i)/\Below w.heap.size w wr) (fun v _=>n-(intOf v).toNat)
 case atStart=>exact⟨0,Zo,rfl,by rw[oppF_zero];exact R1.out,B1.out⟩
 case round=>
  obtain⟨i,hi9,rfl,hR,hB⟩:=hrel;clear R1 B1
  by_cases hlt:i<n
  ·have hlt':(i:Int)<(n:Int):=by omega
   obtain⟨sb,so,es,_,cs⟩:=(hH.below hB).at (i:=i) (by rw[<-hn.out];exact hlt);subst es;have c1:=hR.cell hlt;have f1:=hR.free i;have HN:Hid (BoolF (World.setCell wr ⟨w.heap.size,i,none⟩ (.bool (!hb h i))) w.heap.size 4 w.heap.size n (oppF h (i+1))):=hR.store hlt (!hb h i) fun j _=>oppF_step h i j
   have HB:Hid (Below w.heap.size w (World.setCell wr ⟨w.heap.size,i,none⟩ (.bool (!hb h i)))):=hB.setCell (p:=⟨w.heap.size,i,none⟩) Zr _;exact z14_3
  ·have hge:¬(i:Int)<(n:Int):=by omega
   have ei:i=n:=Zo
   have Rt:Hid (RdB wr (.slice (some ⟨w.heap.size,0,none⟩) n n) (notM h)):=by
    show RdB _ _ _
    rw[ei]at hR;have:=hR.rdB Zo;rw[hn.out,oppF_all]at this;rw[hn.out];exact this
   clear ei hR hH;go_wp2;go_ret;exact⟨_,rfl,Rt.out,hB⟩
def mrkF(f:Nat->Bool)(zs:List Nat)(i:Nat):Bool:=f i||decide (i∈zs)
theorem mrkF_step{f:Nat->Bool}{zs:List Nat}{r:Nat}(hr:r<zs.length)(i:Nat):mrkF f (zs.take (r+1)) i=if i=zs.getD r 0 then true else mrkF f (zs.take r) i:=by
 have e:zs.take (r+1)=zs.take r++[zs.getD r 0]:=by
  rw[List.take_add_one,List.getElem?_eq_getElem hr];simp[List.getD,hr]
 unfold mrkF;rw[e]
 by_cases q:i=zs.getD r 0
 ·rw[if_pos q,q];simp
 ·rw[if_neg q];simp only[List.mem_append,List.mem_singleton,q,or_false]
theorem emark_any{va:Value}{zs:List Nat}{w:World}{base e g n:Nat}{f:Nat->Bool}(hH:RdI w va (toI zs))(hl:zs.length<=300)(hz:∀i,i<zs.length->zs.getD i 0<n)(hB:BoolF w base e g n f)(hap:∀b off m c,va= .slice (some ⟨b,off,none⟩) m c->b≠g):Calls Tryz.prog 139 #[.slice (some ⟨g,0,none⟩) n n,va] w fun e' w'=>e'= .returned (.tuple #[])/\Only g w w'/\BoolF w' base e g n (mrkF f zs):=by
 obtain⟨a,c,ea⟩:=hH.form;rw[toI_length]at ea;subst ea;have hz':Hid _:=hz;clear hz;obtain⟨s,hs⟩:∃s,Hid (s=zs.length):=⟨_,rfl⟩;rw[<-hs.out]at hH hl hap ⊢;have HC:Hid (∀wr,Only g w wr->∀i,i<s->∃b off,a=some ⟨b,off,none⟩/\wr.cell? ⟨b,off+i,none⟩=some (.int .i64 ((zs.getD i 0:Nat):Int))):=fun wr o i hi=>by
  obtain⟨b,off,e1,_,e2⟩:=hH.at (i:=i) (by rw[toI_length,<-hs.out];exact hi);rw[toI_getD]at e2;exact⟨b,off,e1,(o.cell (p:=⟨b,off+i,none⟩) (hap b off s c (by rw[e1]))).trans e2⟩
 clear hH hap
 go_enter Tryz.func139,Tryz.ntmps139
 go_wp2_with fail
 go_loopw [8] (fun v wr=>∃i:Nat,i<=s/\v= .int .i64 i/\BoolF wr base e g n (mrkF f (zs.take i))/\Only g w wr) (fun v _=>s-(intOf v).toNat)
 case atStart=>exact⟨0,Zo,rfl,by have e0:mrkF f (zs.take 0)=f:=by {funext i;simp[mrkF]};rw[e0];exact hB,Only.refl _ _⟩
 case round=>
  obtain⟨i,hi9,rfl,hR,hO⟩:=hrel;clear hB
  by_cases hlt:i<s
  ·have hlt':(i:Int)<(s:Int):=by omega
   obtain⟨b,off,rfl,cs⟩:=HC.out wr hO i hlt;have hx:=hz'.out i (by rw[<-hs.out];exact hlt);have E:Hid _:=mrkF_step (f:=f) (zs:=zs) (r:=i) (by rw[<-hs.out];exact hlt);obtain⟨x,hxx⟩:∃x,Hid (x=zs.getD i 0):=⟨_,rfl⟩;rw[<-hxx.out]at cs hx E;have hx':(x:Int)<(n:Int):=Zo
   have c1:=hR.cell hx;have f1:=hR.free x;have HN:Hid (BoolF (World.setCell wr ⟨g,x,none⟩ (.bool true)) base e g n (mrkF f (zs.take (i+1)))):=hR.store hx true fun j _=>E.out j
   have HO:Hid (Only g w (World.setCell wr ⟨g,x,none⟩ (.bool true))):=hO.setCell x _;clear hR hO;go_wp2;go_roundw
   case rel=>exact⟨i+1,Zo,Zg,HN.out,HO.out⟩
   case measure=>simp[intOf];omega
  ·have hge:¬(i:Int)<(s:Int):=by omega
   have ei:i=s:=Zo
   have e2:zs.take i=zs:=by rw[ei,hs.out];exact List.take_length
   rw[e2]at hR;clear ei e2;go_wp2
   go_end0
   exact⟨rfl,hO,hR⟩
def atF(hs:List Bool)(L:List (List UInt8))(t i:Nat):UInt8:=if hb hs i then co (ro L i) t else 0
def wdAt(hs:List Bool)(L:List (List UInt8))(n t:Nat):List UInt8:=upto (atF hs L t) n
theorem wdAt_length(hs:List Bool)(L:List (List UInt8))(n t:Nat):(wdAt hs L n t).length=n:=upto_length _ _
noncomputable def oneX(hs:List Bool)(L:List (List UInt8)):Int:=by
 classical
 exact if EvenH hs L/\∃i,hb hs i=true then (((ro L ((plc (hb hs) hs.length).getD 0 0)).length:Nat):Int)else-1
theorem hb_in{hs:List Bool}{i:Nat}(h:hb hs i=true):i<hs.length:=by
 rcases Nat.lt_or_ge i hs.length with k|k
 ·exact k
 ·rw[hb_ge k]at h;cases h
theorem oneX_ok{hs:List Bool}{L:List (List UInt8)}{n:Nat}(h0:∃i,hb hs i=true)(h:∀i,hb hs i=true->(ro L i).length=n):oneX hs L=(n:Int):=by
 unfold oneX;rw[if_pos ⟨fun i j hi hj=>(h i hi).trans (h j hj).symm,h0⟩];obtain⟨i,hi⟩:=h0;have hm:0<(plc (hb hs) hs.length).length:=List.length_pos_of_mem (plc_mem.2 ⟨hb_in hi,hi⟩);rw[h _ (plc_mem.1 (getD_mem hm)).2]
theorem oneX_none{hs:List Bool}{L:List (List UInt8)}(h:¬∃i,hb hs i=true):oneX hs L= -1:=by unfold oneX;rw[if_neg fun e=>h e.2]
theorem oneX_odd{hs:List Bool}{L:List (List UInt8)}{i j:Nat}(hi:hb hs i=true)(hj:hb hs j=true)(h:(ro L i).length≠(ro L j).length):oneX hs L= -1:=by unfold oneX;rw[if_neg fun e=>h (e.1 i j hi hj)]
theorem oneX_cases(hs:List Bool)(L:List (List UInt8)):oneX hs L= -1∨∃n:Nat,oneX hs L=(n:Int)/\(∀i,hb hs i=true->(ro L i).length=n)/\∃i,hb hs i=true:=by
 classical
 by_cases h:EvenH hs L/\∃i,hb hs i=true
 ·right;obtain⟨i,hi⟩:=h.2;exact⟨(ro L i).length,oneX_ok h.2 (fun j hj=>h.1 j i hj hi),fun j hj=>h.1 j i hj hi,h.2⟩
 ·left;unfold oneX;rw[if_neg h]
section
variable (k m:Nat) (hs:List Bool) (L:List (List UInt8))
noncomputable def pX(t:Nat):Int:=wdX k m (wdAt hs L (k+m) t) (notM hs)
noncomputable def pR(t:Nat):List UInt8:=wdR k m (wdAt hs L (k+m) t) (notM hs)
noncomputable def pP(t:Nat):List Nat:=wdP k m (wdAt hs L (k+m) t) (notM hs)
noncomputable def rowsP(r:Nat):List (List UInt8):=mkL (k+m) (fun i=>upto (fun t=>co (pR k m hs L t) i) r)
noncomputable def hurtP:Nat->Nat->Bool
 |0,_=>false
 |r+1,i=>mrkF (hurtP r) (pP k m hs L r) i
end
open Classical in
noncomputable def shX(k m:Int)(hs:List Bool)(L:List (List UInt8)):Int:=
 if OkC k m then (if (hs.length:Int)=k+m/\(L.length:Int)=k+m/\oneX hs L≠-1 then (if ∀t,t<(oneX hs L).toNat->pX k.toNat m.toNat hs L t=0 then 0 else 100)else 60)else 50
open Classical in
noncomputable def shR(k m:Int)(hs:List Bool)(L:List (List UInt8)):List (List UInt8):=if shX k m hs L=0 then rowsP k.toNat m.toNat hs L (oneX hs L).toNat else []
open Classical in
noncomputable def shP(k m:Int)(hs:List Bool)(L:List (List UInt8)):List Nat:=if shX k m hs L=0 then plc (hurtP k.toNat m.toNat hs L (oneX hs L).toNat) (k.toNat+m.toNat)else []
theorem sh_no{k m:Int}{hs:List Bool}{L:List (List UInt8)}{x:Int}(h:shX k m hs L=x)(hx:x≠0):shX k m hs L=x/\shR k m hs L=[]/\shP k m hs L=[]:=by
 refine⟨h,?_,?_⟩
 ·unfold shR;rw[h,if_neg hx]
 ·unfold shP;rw[h,if_neg hx]
theorem sh_bad{k m:Int}{hs:List Bool}{L:List (List UInt8)}(c:¬OkC k m):shX k m hs L=50/\shR k m hs L=[]/\shP k m hs L=[]:=sh_no (by unfold shX;rw[if_neg c]) Zd
theorem sh_shard{k m:Int}{hs:List Bool}{L:List (List UInt8)}(c:OkC k m)(d:¬((hs.length:Int)=k+m/\(L.length:Int)=k+m/\oneX hs L≠-1)):shX k m hs L=60/\shR k m hs L=[]/\shP k m hs L=[]:=sh_no (by unfold shX;rw[if_pos c,if_neg d]) Zd
theorem sh_many{k m n t:Nat}{hs:List Bool}{L:List (List UInt8)}(c:OkC k m)(h1:hs.length=k+m)(h2:L.length=k+m)(h3:oneX hs L=(n:Int))(ht:t<n)(hx:pX k m hs L t≠0):shX k m hs L=100/\shR k m hs L=[]/\shP k m hs L=[]:=by
 refine sh_no ?_ Zd
 unfold shX;rw[if_pos c,if_pos ⟨Zo,Zo,by rw[h3];omega⟩,if_neg];intro h;exact hx (h t (by rw[h3];exact ht))
theorem sh_ok{k m n:Nat}{hs:List Bool}{L:List (List UInt8)}(c:OkC k m)(h1:hs.length=k+m)(h2:L.length=k+m)(h3:oneX hs L=(n:Int))(hx:∀t,t<n->pX k m hs L t=0):shX k m hs L=0/\shR k m hs L=rowsP k m hs L n/\shP k m hs L=plc (hurtP k m hs L n) (k+m):=by
 have h0:shX k m hs L=0:=by
  unfold shX;rw[if_pos c,if_pos ⟨Zo,Zo,by rw[h3];omega⟩,if_pos];intro t ht;rw[h3]at ht;exact hx t ht
 refine⟨h0,?_,?_⟩
 ·unfold shR;rw[if_pos h0,h3];rfl
 ·unfold shP;rw[if_pos h0,h3];rfl
theorem pX_told{k m:Nat}{hs:List Bool}{L:List (List UInt8)}{t:Nat}(h1:1<=k)(h2:k+m<=256)(hl:hs.length=k+m):(pX k m hs L t=100/\pR k m hs L t=[]/\pP k m hs L t=[])∨(pX k m hs L t=0/\(pR k m hs L t).length=k+m/\(∀i,i<(pP k m hs L t).length->(pP k m hs L t).getD i 0<k+m)/\(pP k m hs L t).length<=256):=by
 have okc:OkC (k:Int) (m:Int):=⟨Zo,Zo,Zo⟩;have okw:OkW (k:Int) (m:Int) (wdAt hs L (k+m) t) (notM hs):=⟨by rw[wdAt_length];omega,by rw[notM_length];omega⟩
 by_cases h:IsNear k m (wdAt hs L (k+m) t) (notM hs)
 ·right;obtain⟨c,hc⟩:=h;obtain⟨e1,e2,e3⟩:=wd_ok okc okw hc;refine⟨e1,?_,?_,?_⟩
  ·unfold pR;rw[e2,upto_length]
  ·intro i hi;unfold pP at hi ⊢;rw[e3]at hi ⊢;have:=List.getElem_mem hi;have hm:(plc (wrg (co (wdAt hs L (k+m) t)) c (hb (notM hs))) (k+m)).getD i 0∈plc (wrg (co (wdAt hs L (k+m) t)) c (hb (notM hs))) (k+m):=by
    simp only[List.getD,List.getElem?_eq_getElem hi,Option.getD_some];exact this
   exact(plc_mem.1 hm).1
  ·unfold pP;rw[e3,plc_length];have:=cnt_le (wrg (co (wdAt hs L (k+m) t)) c (hb (notM hs))) (k+m);omega
 ·left;exact wd_many okc okw h
theorem rowsP_length(k m:Nat)(hs:List Bool)(L:List (List UInt8))(r:Nat):(rowsP k m hs L r).length=k+m:=mkL_length _ _
theorem rowsP_ro{k m:Nat}{hs:List Bool}{L:List (List UInt8)}{r i:Nat}(hi:i<k+m):ro (rowsP k m hs L r) i=upto (fun t=>co (pR k m hs L t) i) r:=ro_mkL hi
theorem rowsP_zero(k m:Nat)(hs:List Bool)(L:List (List UInt8)):rowsP k m hs L 0=mkL (k+m) (fun _=>[]):=mkL_congr fun i hi=>rfl
noncomputable def layF(R:List (List UInt8))(p:List UInt8)(r i:Nat):List UInt8:=if i<r then ro R i++[co p i]else ro R i
theorem layF_zero(R:List (List UInt8))(p:List UInt8):layF R p 0=ro R:=by funext i;exact if_neg (Nat.not_lt_zero _)
theorem layF_old(R:List (List UInt8))(p:List UInt8)(r:Nat):layF R p r r=ro R r:=if_neg (Nat.lt_irrefl _)
theorem layF_new(R:List (List UInt8))(p:List UInt8)(r:Nat):layF R p (r+1) r=ro R r++[co p r]:=if_pos (Nat.lt_succ_self _)
theorem layF_step{R:List (List UInt8)}{p:List UInt8}{r i:Nat}(h:i≠r):layF R p (r+1) i=layF R p r i:=by
 unfold layF
 by_cases e:i<r
 ·rw[if_pos e,if_pos Zo]
 ·rw[if_neg e,if_neg Zo]
theorem rowsP_next{k m:Nat}{hs:List Bool}{L:List (List UInt8)}{r i:Nat}(hi:i<k+m):layF (rowsP k m hs L r) (pR k m hs L r) (k+m) i=ro (rowsP k m hs L (r+1)) i:=by
 unfold layF;rw[if_pos hi,rowsP_ro hi,rowsP_ro hi];unfold upto;rw[List.range_succ,List.map_append];rfl
theorem cnt_none{p:Nat->Bool}{n:Nat}(h:∀i,i<n->p i=false):cnt p n=0:=by
 induction n with
 |zero=>rfl
 |succ n ih=>rw[cnt,ih fun i hi=>h i Zo,h n Zo];rfl
theorem plc_none{p:Nat->Bool}{n:Nat}(h:∀i,i<n->p i=false):plc p n=[]:=List.length_eq_zero_iff.1 (by rw[plc_length,cnt_none h])
theorem many10{k m:Nat}{W:List UInt8}{ms:List Bool}(h1:1<=k)(h2:k+m<=256)(hWl:W.length=k+m)(hml:ms.length=k+m)(hf:m<cnt (hb ms) (k+m)):wdX k m W ms=100/\wdR k m W ms=[]/\wdP k m W ms=[]:=by
 have okc:OkC (k:Int) (m:Int):=⟨Zo,Zo,Zo⟩;refine wd_many okc ⟨Zo,Zo⟩ ?_
 rintro⟨c,hc⟩;have:=hc.few;omega
theorem col_code{k m n t:Nat}{D:List (List UInt8)}(h1:1<=k)(h2:k+m<=256)(hD:D.length=k)(hE:Even D)(hn:(ro D 0).length=n)(ht:t<n):CodeW k m (fun i=>co (ro (encL m k (parF k) D) i) t):=by
 intro l hl;refine par_syn h2 (fun i hi=>?_) hl
 show co (ro (encL m k (parF k) D) (k+i)) t=_
 rw[enc_row_ge' Zo Zo,show k+i-D.length=i by omega];unfold parR;rw[co_upto_in (by rw[hn];exact ht)];unfold wd;exact S_congr fun j hj=>by rw[enc_row_lt Zo]
def mdS(A:List (List UInt8))(hs bd:List Bool)(y:UInt8)(n i:Nat):List UInt8:=
 if hb hs i=false then [y]else if hb bd i=true/\0<n then (ro A i).set (i%n) (co (ro A i) (i%n)^^^y)else ro A i
def wrSt(hs bd:List Bool)(n i:Nat):Bool:=hb hs i&&(hb bd i&&decide (0<n))
theorem mds_len{A:List (List UInt8)}{hs bd:List Bool}{y:UInt8}{n i:Nat}(hA:(ro A i).length=n)(h:hb hs i=true):(mdS A hs bd y n i).length=n:=by
 unfold mdS;rw[if_neg (by rw[h];decide)]
 split
 ·rw[List.length_set];exact hA
 ·exact hA
theorem mds_co{A:List (List UInt8)}{hs bd:List Bool}{y:UInt8}{n i t:Nat}(hA:(ro A i).length=n)(h:hb hs i=true)(ht:t<n):co (mdS A hs bd y n i) t=if wrSt hs bd n i=true/\t=i%n then co (ro A i) t^^^y else co (ro A i) t:=by
 unfold mdS wrSt;rw[if_neg (by rw[h];decide),h,Bool.true_and];have hn:0<n:=Zo
 by_cases q:hb bd i=true
 ·rw[if_pos ⟨q,hn⟩,co_at (by rw[hA];exact Nat.mod_lt _ hn)]
  by_cases e:t=i%n
  ·rw[if_pos e,if_pos ⟨by simp[q,hn],e⟩,e]
  ·rw[if_neg e,if_neg fun z=>e z.2]
 ·rw[if_neg fun z=>q z.1,if_neg fun z=>q (by simpa[hn]using z.1)]
theorem stripes10{k m n:Nat}{D:List (List UInt8)}{hs bd:List Bool}{y:UInt8}(h1:1<=k)(h2:k+m<=256)(hD:D.length=k)(hE:Even D)(hn:(ro D 0).length=n)(hhs:hs.length=k+m)(hy:y≠0)
  (hex:cnt (fun i=> !hb hs i) (k+m)≠k+m) (hf:2*cnt (wrSt hs bd n) (k+m)+cnt (fun i=> !hb hs i) (k+m)<=m):
  shX k m hs (mkL (k+m) (mdS (encL m k (parF k) D) hs bd y n))=0/\shR k m hs (mkL (k+m) (mdS (encL m k (parF k) D) hs bd y n))=encL m k (parF k) D/\shP k m hs (mkL (k+m) (mdS (encL m k (parF k) D) hs bd y n))=plc (wrSt hs bd n) (k+m):=by
 have okc:OkC (k:Int) (m:Int):=⟨Zo,Zo,Zo⟩;obtain⟨A,hA⟩:∃A,A=encL m k (parF k) D:=⟨_,rfl⟩;obtain⟨M,hM⟩:∃M,M=mkL (k+m) (mdS A hs bd y n):=⟨_,rfl⟩;have hAl:A.length=k+m:=by rw[hA,encL_length,hD]
 have hAr:∀i,i<k+m->(ro A i).length=n:=fun i hi=>by rw[hA,enc_len hE Zo,hn]
 have hMl:M.length=k+m:=by rw[hM,mkL_length]
 have hMr:∀i,i<k+m->ro M i=mdS A hs bd y n i:=fun i hi=>by rw[hM,ro_mkL hi]
 have hin:∀i,hb hs i=true->i<k+m:=fun i hi=>by rw[<-hhs];exact hb_in hi
 have hone:oneX hs M=(n:Int):=by
  refine oneX_ok ?_ fun i hi=>by rw[hMr i (hin i hi)];exact mds_len (hAr i (hin i hi)) hi
  refine Classical.byContradiction fun q=>hex ?_
  have e:∀i,i<k+m->hb hs i=false:=fun i _=>by
   cases e9:hb hs i
   ·rfl
   ·exact absurd ⟨i,e9⟩ q
  have h9:=cnt_not (hb hs) (k+m);rw[cnt_none e]at h9;omega
 have hz:∀t i,t<n->i<k+m->co (wdAt hs M (k+m) t) i=if hb hs i then (if wrSt hs bd n i=true/\t=i%n then co (ro A i) t^^^y else co (ro A i) t)else 0:=fun t i ht hi=>by
  unfold wdAt;rw[co_upto_in hi];unfold atF;cases e:hb hs i
  ·rfl
  ·rw[if_pos rfl,if_pos rfl,hMr i hi,mds_co (hAr i hi) e ht]
 have hw:∀t i,t<n->i<k+m->wrg (co (wdAt hs M (k+m) t)) (fun i=>co (ro A i) t) (hb (notM hs)) i=(wrSt hs bd n i&&decide (t=i%n)):=fun t i ht hi=>by
  unfold wrg;rw[notM_at Zo,hz t i ht hi];cases e:hb hs i
  ·simp[wrSt,e]
  ·rw[if_pos rfl]
   by_cases q:wrSt hs bd n i=true/\t=i%n
   ·rw[if_pos q,q.1,Zy q.2]
    have:co (ro A i) t≠co (ro A i) t^^^y:=fun e9=>hy (by
     have e2:=congrArg (fun x=>co (ro A i) t^^^x) e9;rw[show co (ro A i) t^^^co (ro A i) t=0 from x_self _,show co (ro A i) t^^^(co (ro A i) t^^^y)=y from x_cancel _ _]at e2;exact e2.symm)
    simp[this]
   ·rw[if_neg q]
    by_cases q2:wrSt hs bd n i=true
    ·have:¬t=i%n:=fun e9=>q ⟨q2,e9⟩
     simp[this]
    ·simp[q2]
 have hN:∀t,t<n->Near k m (co (wdAt hs M (k+m) t)) (hb (notM hs)) (fun i=>co (ro A i) t):=fun t ht=>by
  refine⟨by rw[hA];exact col_code h1 h2 hD hE hn ht,?_⟩;have e1:cnt (wrg (co (wdAt hs M (k+m) t)) (fun i=>co (ro A i) t) (hb (notM hs))) (k+m)<=cnt (wrSt hs bd n) (k+m):=cnt_mono fun i hi q=>by
   rw[hw t i ht hi]at q;simp at q;exact q.1
  have e2:cnt (hb (notM hs)) (k+m)=cnt (fun i=> !hb hs i) (k+m):=cnt_congr fun i hi=>notM_at Zo
  omega
 have hP:∀t,t<n->pX k m hs M t=0/\pR k m hs M t=upto (fun i=>co (ro A i) t) (k+m)/\pP k m hs M t=plc (fun i=>wrSt hs bd n i&&decide (t=i%n)) (k+m):=fun t ht=>by
  obtain⟨e1,e2,e3⟩:=wd_ok (z:=wdAt hs M (k+m) t) (ms:=notM hs) okc ⟨by rw[wdAt_length];omega,by rw[notM_length];omega⟩ (hN t ht);refine⟨e1,e2,e3.trans ?_⟩;unfold plc;exact List.filter_congr fun i hi=>hw t i ht (List.mem_range.1 hi)
 obtain⟨e1,e2,e3⟩:=sh_ok okc hhs hMl hone fun t ht=>(hP t ht).1
 rw[<-hA,<-hM];refine⟨e1,e2.trans ?_,e3.trans ?_⟩
 ·refine ro_ext (by rw[rowsP_length,hAl]) fun i hi=>?_
  rw[rowsP_length]at hi;rw[rowsP_ro hi];refine co_ext (by rw[upto_length,hAr i hi]) fun t ht=>?_
  rw[upto_length]at ht;rw[co_upto_in ht,(hP t ht).2.1,co_upto_in hi]
 ·have hu:∀r,r<=n->∀i,i<k+m->(hurtP k m hs M r i=true↔wrSt hs bd n i=true/\i%n<r):=by
   intro r
   induction r with
   |zero=>intro _ i _;exact⟨fun q=>(by cases q),fun q=>absurd q.2 (Nat.not_lt_zero _)⟩
   |succ r ih=>
    intro hr i hi
    show mrkF (hurtP k m hs M r) (pP k m hs M r) i=true↔_
    unfold mrkF;rw[(hP r Zo).2.2,Bool.or_eq_true,decide_eq_true_eq,plc_mem,ih Zo i hi];constructor
    ·rintro(⟨a,b⟩|⟨_,b⟩)
     ·exact⟨a,Zo⟩
     ·simp at b;exact⟨b.1,Zo⟩
    ·rintro⟨a,b⟩
     by_cases q:i%n=r
     ·right;exact⟨hi,by simp[a,q]⟩
     ·left;exact⟨a,Zo⟩
  unfold plc;refine List.filter_congr fun i hi=>?_
  have hi':=List.mem_range.1 hi;rw[Bool.eq_iff_iff,hu n Zr i hi'];constructor
  ·exact fun q=>q.1
  ·intro q;refine⟨q,Nat.mod_lt _ ?_⟩;unfold wrSt at q;simp at q;exact q.2.2
theorem ert_any{b:Nat}{vp vm:Value}{p:List UInt8}{ms:List Bool}{w:World}(hF:FieldAt w b)(hp:Rd w vp p)(hm:RdB w vm ms)(hl:ms.length<=256)(hl2:p.length<=1000):
  Calls Tryz.prog 170 #[.pointer (some ⟨b,0,none⟩),vp,vm] w fun e w'=>∃v,e= .returned v/\OwnI w' w.heap.size 3 v (plc (rtF p (hb ms)) ms.length)/\Below w.heap.size w w':=by
 obtain⟨i0,hi,hz0,hz1,hz2⟩:=info_parts info_int10;obtain⟨a,c,rfl⟩:=hm.form;obtain⟨a2,c2,rfl⟩:=hp.form
 go_enter Tryz.func170,Tryz.ntmps170
 go_wp2
 go_loopw [7,12] (fun o i wr=>∃r:Nat,r<=ms.length/\i= .int .i64 r/\OwnI wr w.heap.size 3 o (plc (rtF p (hb ms)) r)/\Below w.heap.size w wr) (fun _ i _=>ms.length-(intOf i).toNat)
 case atStart=>exact⟨0,Zo,rfl,OwnI.nil _ _ _,Zf⟩
 case round=>
  obtain⟨r,hr,rfl,hO,hB⟩:=hrel;have hsz:=hB.size;have hn:Hid ((plc (rtF p (hb ms)) r).length<=300):=by show _<=_;rw[plc_length];have:=cnt_le (rtF p (hb ms)) r;omega
  by_cases hlt:r<ms.length
  ·obtain⟨bb,off,rfl,_,c1⟩:=(hm.below hB).at hlt;have hlt':(r:Int)<(ms.length:Int):=by omega
   obtain⟨av,cv,rfl⟩:=hO.form;have E:=plc_succ (rtF p (hb ms)) r;cases e:hb ms r with
   |true=>
    rw[e]at c1;have E':Hid (plc (rtF p (hb ms)) (r+1)=plc (rtF p (hb ms)) r):=by show _=_;rw[E];simp[rtF,e]
    clear hm hp e E;go_wp2;go_roundw
    case rel=>exact⟨r+1,Zo,Zg,by rw[E'.out];exact hO,hB⟩
    case measure=>simp[intOf];omega
   |false=>
    rw[e]at c1;have hr2:r<256:=Zo
    have m1:Hid ((r:Int)=(((pt r).toNat:Nat):Int)):=by show _=_;rw[pt_toNat hr2]
    have hpr:=hp.below hB;have hFr:=hF.below hB
    by_cases hv:evP p (pt r)=0
    ·have E':Hid (plc (rtF p (hb ms)) (r+1)=plc (rtF p (hb ms)) r++[r]):=by show _=_;rw[E];simp[rtF,e,hv]
     have hq:((((evP p (pt r)).toNat:Nat):Int)==0)=true:=by rw[eq_u8_zero];exact Zy hv
     clear hm hp e E hF hv
     go_wp2_with fail
     refine(peval_quiet hFr hpr (pt r) m1.out Zo).mono ?_
     rintro e w2 ⟨rfl,n2,hw2⟩;have hO2:OwnI w2 w.heap.size 3 (.slice av (plc (rtF p (hb ms)) r).length cv) (plc (rtF p (hb ms)) r):=by rw[hw2];exact hO
     have hB2:Below w.heap.size w w2:=by rw[hw2];exact hB.drewN _
     have hsz2:=hB2.size;clear hw2 hO hB hFr hpr c1
     go_wp2_with (at_builtin;go_loud (refine wpList_append_int rfl (.tmp 27) (.tmp 29) 45 rfl w.heap.size 3 i0 Tryz.underlying45 hi hz0 hz1 hz2 (.slice av (plc (rtF p (hb ms)) r).length cv) (plc (rtF p (hb ms)) r) rfl hO2 r _ 1 rfl (by have:=hn.out;omega) hsz2 ?_);intro v' w3 hv2 hb2)
     have HO:Hid (OwnI w3 w.heap.size 3 v' (plc (rtF p (hb ms)) (r+1))):=by show OwnI _ _ _ _ _;rw[E'.out];exact hv2
     have HB:Hid (Below w.heap.size w w3):=hB2.trans hb2;clear hO2 hv2 hb2 hB2 hq;go_wp2;go_roundw
     case rel=>exact⟨r+1,Zo,Zg,HO.out,HB.out⟩
     case measure=>simp[intOf];omega
    ·have E':Hid (plc (rtF p (hb ms)) (r+1)=plc (rtF p (hb ms)) r):=by show _=_;rw[E];simp[rtF,e,hv]
     have hq:((((evP p (pt r)).toNat:Nat):Int)==0)=false:=by rw[eq_u8_zero];exact Zx hv
     clear hm hp e E hF hv
     go_wp2_with fail
     refine(peval_quiet hFr hpr (pt r) m1.out Zo).mono ?_
     rintro e w2 ⟨rfl,n2,hw2⟩;have hO2:Hid (OwnI w2 w.heap.size 3 (.slice av (plc (rtF p (hb ms)) r).length cv) (plc (rtF p (hb ms)) (r+1))):=by show OwnI _ _ _ _ _;rw[hw2,E'.out];exact hO
     have hB2:Hid (Below w.heap.size w w2):=by show Below _ _ _;rw[hw2];exact hB.drewN _
     clear hw2 hO hB hFr hpr c1;go_wp2;go_roundw
     case rel=>exact⟨r+1,Zo,Zg,hO2.out,hB2.out⟩
     case measure=>simp[intOf];omega
  ·have e:r=ms.length:=by omega
   subst e;have hge:¬(ms.length:Int)<(ms.length:Int):=Zo
   clear hm hp;exact z14_4
structure Df10(w:World)(b fb sb wb eb:Nat)(vs vw ve:Value):Prop where
 cf:w.cell? ⟨fb,0,none⟩=some (.pointer (some ⟨b,0,none⟩))
 cs:w.cell? ⟨sb,0,none⟩=some vs
 cw:w.cell? ⟨wb,0,none⟩=some vw
 ce:w.cell? ⟨eb,0,none⟩=some ve
 lf:fb<w.heap.size
 ls:sb<w.heap.size
 lw:wb<w.heap.size
 le:eb<w.heap.size
theorem edif_any{b n1 n2 n3 c1 c2 c3:Nat}{a1 a2 a3:Option Addr}(w:World):Calls Tryz.prog 171 #[.pointer (some ⟨b,0,none⟩),.slice a1 n1 c1,.slice a2 n2 c2,.slice a3 n3 c3] w fun e w'=>
  ∃fb sb wb eb,e= .returned (.func (.func 200) #[] #[.pointer (some ⟨fb,0,none⟩),.pointer (some ⟨sb,0,none⟩),.pointer (some ⟨wb,0,none⟩),.pointer (some ⟨eb,0,none⟩)])/\Df10 w' b fb sb wb eb (.slice a3 n3 c3) (.slice a1 n1 c1) (.slice a2 n2 c2)/\Below w.heap.size w w':=by
 go_enter Tryz.func171,Tryz.ntmps171
 go_wp2;go_ret;refine⟨w.heap.size,w.heap.size+1+1+1,w.heap.size+1,w.heap.size+1+1,rfl,⟨by go_simp,by go_simp,by go_simp,by go_simp,Zn,Zn,Zn,Zn⟩,by repeat (first|exact Zf|apply below_lit)⟩
theorem edif1_any{w:World}{b fb sb wb eb k m i:Nat}{vs vw ve:Value}{D O:List UInt8}(hF:FieldAt w b)(hD:Df10 w b fb sb wb eb vs vw ve)(hs:Rd w vs D)(hw:Rd w vw (upto (wtF k m) (k+m)))(he:Rd w ve O)(hi:i<k+m)(h2:k+m<=256)(hl:D.length<=1000)(hl2:O.length<=1000){x:Int}(hx:x=(i:Int)):
  Calls Tryz.prog 200 #[.int .i64 x,.pointer (some ⟨fb,0,none⟩),.pointer (some ⟨sb,0,none⟩),.pointer (some ⟨wb,0,none⟩),.pointer (some ⟨eb,0,none⟩)] w fun e w'=>e= .returned (.int .u8 (((dfF k m O D i).toNat:Nat):Int))/\∃n,w'=w.drewN n:=by
 subst hx;have hr2:i<256:=Zo
 have m1:Hid ((i:Int)=(((pt i).toNat:Nat):Int)):=by show _=_;rw[pt_toNat hr2]
 obtain⟨sa,sc,rfl⟩:=hs.form;obtain⟨ea,ec,rfl⟩:=he.form;obtain⟨wa,wc,rfl⟩:=hw.form;rw[upto_length]at hw hD;obtain⟨wbb,wo,rfl,hwb,cw1⟩:=hw.byte (i:=i) (by rw[upto_length];exact hi);rw[co_upto_in hi]at cw1;obtain⟨N,hN⟩:∃N,Hid (N=k+m):=⟨_,rfl⟩;rw[<-hN.out]at hw hD hi;have hi':(i:Int)<(N:Int):=Zo
 obtain⟨cf,cs,cw,ce,_,_,_,_⟩:=hD;obtain⟨W,hW⟩:∃W,Hid (W=wtF k m i):=⟨_,rfl⟩;rw[<-hW.out]at cw1;clear hw
 go_enter Tryz.func200,Tryz.ntmps200
 go_wp2_with fail
 go_quiet (first
  |(go_at_call 199;go_loud (exact Calls.quiet_of (peval_quiet (hF.drewN _) (Rd.drewN hs _) (pt i) m1.out Zo)))
  |(go_at_call 188;go_loud (exact Calls.quiet_of (fmu_quiet (hF.drewN _) (evP D (pt i)) W rfl rfl))))
 obtain⟨n1,hn1⟩:∃n1,n1=nq:=⟨_,rfl⟩;subst hn1;obtain⟨u,hu⟩:∃u,u=w.drewN n1:=⟨_,rfl⟩;have hFu:FieldAt u b:=by rw[hu];exact hF.drewN _
 have heu:Rd u (.slice ea O.length ec) O:=by rw[hu];exact Rd.drewN he _
 have cfu:u.cell? ⟨fb,0,none⟩=some (.pointer (some ⟨b,0,none⟩)):=by rw[hu];exact cf
 have ceu:u.cell? ⟨eb,0,none⟩=some (.slice ea O.length ec):=by rw[hu];exact ce
 have HU:Hid _:=hu;rw[<-hu];obtain⟨d,hd⟩:∃d,Hid (d=mu (evP D (pt i)) W):=⟨_,rfl⟩;have HE:Hid (mulS (evP O (pt i)).toNat (invS d.toNat)=(dfF k m O D i).toNat):=by
  show _=_
  unfold dfF;rw[<-hW.out,<-hd.out,mu_toNat,iv_toNat]
 rw[<-hd.out];clear hF hs he cf cs cw ce cw1 hu
 go_wp2_with fail
 go_quiet (first
  |(go_at_call 199;go_loud (exact Calls.quiet_of (peval_quiet (hFu.drewN _) (Rd.drewN heu _) (pt i) m1.out Zo)))
  |(go_at_call 201;go_loud (exact Calls.quiet_of (div_all (hFu.drewN _) (evP O (pt i)).toNat d.toNat rfl rfl (u8_lt _) (u8_lt _)))))
 rw[HE.out];go_wp2;go_ret;exact⟨rfl,n1+nq,by rw[HU.out,World.drewN_drewN]⟩
theorem wpList_append_ints{P:Program}(w:World){ops:Array Oper}{rest:List Oper}{o:Oper}{a:Act}{Q:Exit->Act->World->Prop}(hgd:o.guard=none)(s x:Operand)(t:TypeId)
  (ho:o.op= .call {callee:=.builtin .append,args:=#[s,x],argTypes:=#[t,t]})
  (base e:Nat) (i:TypeInfo) (ht:P.underlying t=some (.slice e)) (hi:P.info? e=some i) (hz:i.zero=some (.int .i64 0)) (hsize:i.size=1) (hby:i.bytes=8)
  (v:Value) (zs:List Nat) (hs:a.eval s=v) (hown:OwnI w base e v zs) (va:Value) (ys:List Nat) (b' e':Nat) (hx:a.eval x=va) (hr:OwnI w b' e' va ys) (hl:zs.length+ys.length<=100000) (hbase:base<=w.heap.size)
  (h:∀v' w',OwnI w' base e v' (zs++ys)->w.grownBy w' v.ownBlock->wpList P ops Q rest (a.put o.dst v') w'):wpList P ops Q (o::rest) a w:=by
 have hr':=hr;obtain⟨hlen,⟨rfl,hn⟩|⟨g,cap,cur,rfl,hg,hh,hc,hm,hsz,ht2⟩⟩:=hr
 ·refine wpList_append_own_none hgd s x t ho base e i 1 ht hi v zs.length (zs.map vi) hs hown hx ?_
  have:ys=[]:=List.length_eq_zero_iff.1 hn
  subst this;exact h v w (by simpa using hown) (World.grownBy.refl _ _)
 ·refine wpList_append_own w hgd s x t ho base e i (.int .i64 0) 1 8 ht hi hz hsize hby rfl Zd v zs.length (zs.map vi) hs hown ⟨g,0,none⟩ ys.length cap (ys.map vi) hx Zs (fun j u hj=>?_) (by intro u hu;obtain⟨z,_,rfl⟩:=List.mem_map.1 hu;rfl) Zl Zo hbase ?_
  ·rw[add_at,Nat.zero_add];have hj2:j<ys.length:=by
    rw[List.getElem?_map]at hj
    by_cases q:j<ys.length
    ·exact q
    ·rw[List.getElem?_eq_none Zo]at hj;cases hj
   rw[World.ownsRow.cellAt hr' j Zo,hj]
  ·intro v' w' ho' hg' _;refine h v' w' ?_ hg'
   unfold OwnI;rw[List.length_append,List.map_append];exact ho'
theorem rnext_any{vs:Value}{g:Nat->Nat}{t n B E:Nat}{w:World}(hs:OwnI w B E vs (stL g t))(hI:Inc n t g)(hn:n<=300)(ht:t<=300){x:Int}(hx:x=(n:Int)):
  Calls Tryz.prog 182 #[vs,.int .i64 x] w fun e w'=>Below w.heap.size w w'/\
   ((∃i,i<t/\g i+t<n+i/\(∀j,i<j->j<t->g j+t=n+j)/\∃v,e= .returned (.tuple #[v,.bool true])/\OwnI w' w.heap.size 3 v (stL (nxF g i) t))∨
    ((∀j,j<t->g j+t=n+j)/\e= .returned (.tuple #[.slice none 0 0,.bool false]))):=by
 obtain⟨i0,hi,hz0,hz1,hz2⟩:=info_parts info_int;subst hx;have hlt:Hid _:=stL_length g t;obtain⟨a1,c1,e1⟩:=hs.form;rw[hlt.out]at e1;subst e1
 go_enter Tryz.func182,Tryz.ntmps182
 have hE:OwnI (w.alloc (.cells #[] 3)) w.heap.size 3 (.slice (some ⟨w.heap.size,0,none⟩) 0 0) []:=World.ownsRow_lit w #[] 0 Zr Zl rfl;have hs1:OwnI (w.alloc (.cells #[] 3)) B E (.slice a1 t c1) (stL g t):=hs.later (Zf.alloc Zr _)
 go_wp2_with (at_builtin;go_loud (refine wpList_append_ints _ rfl (.tmp 9) (.tmp 10) 45 rfl w.heap.size 3 i0 Tryz.underlying45 hi hz0 hz1 hz2 (.slice (some ⟨w.heap.size,0,none⟩) 0 0) [] rfl hE (.slice a1 t c1) (stL g t) B E rfl hs1 (by rw[hlt.out];simp;omega) Zs ?_);intro v1 w1 hO hg;rw[List.nil_append]at hO;obtain⟨a2,c2,e2⟩:=hO.form;rw[hlt.out]at e2;subst e2)
 have hB:Below w.heap.size w w1:=(Zf.alloc Zr _).grown hg Zs (fun q hq=>by cases hq;exact Zr);clear hE hs1 hs hg;have hI':Hid _:=hI;clear hI
 go_loop [7] (fun i=>∃r:Nat,r<=t/\i= .int .i64 ((r:Int)-1)/\Hid (∀j,r<=j->j<t->g j+t=n+j)) (fun i=>(intOf i+1).toNat)
 case atStart=>exact⟨t,Zr,rfl,fun j h1 h2=>Zo⟩
 case round=>
  obtain⟨r,hr,rfl,hT⟩:=hrel
  by_cases h0:r=0
  ·subst h0;have H:Hid (∀j,j<t->g j+t=n+j):=fun j hj=>hT.out j Zz hj
   clear hT hO;go_wp2;exact bodyPost_ret (v:=.tuple #[.slice none 0 0,.bool false]) (by simp[results,Tryz.results182,go_sem]) rfl ⟨hB,Or.inr ⟨H.out,rfl⟩⟩
  ·obtain⟨i,rfl⟩:∃i,r=i+1:=⟨r-1,Zo⟩;have ei:((i+1:Nat):Int)-1=(i:Int):=by omega
   rw[ei];have hit:i<t:=Zo
   obtain⟨G,rfl,G1,G2,k1⟩:=hO.cell (i:=i) (by rw[hlt.out];exact hit);rw[stL_getD hit]at k1;have hmx:=hI'.out.max hit;have hlt2:(i:Int)<(t:Int):=Zo
   by_cases hc:g i+t<n+i
   ·have hc':((g i:Nat):Int)<(n:Int)-(t:Int)+(i:Int):=by omega
    have hfr:=hO.free i;obtain⟨wq,hwq⟩:∃wq,wq=w1.setCell ⟨G,i,none⟩ (.int .i64 ((g i:Int)+1)):=⟨_,rfl⟩;have HO:Hid (OwnI wq w.heap.size 3 (.slice (some ⟨G,0,none⟩) t c2) (stL (fun j=>if j<i+1 then nxF g i j else g j) t)):=by
     show OwnI _ _ _ _ _
     have:=hO.store i (g i+1);rw[stL_set (g':=fun j=>if j<i+1 then nxF g i j else g j) hit (fun j hj=>?_)]at this
     ·rw[hwq];exact_mod_cast this
     ·unfold nxF
      by_cases q:j=i
      ·subst q;simp
      ·by_cases q2:j<i
       ·rw[if_pos Zo,if_pos q2,if_neg q]
       ·rw[if_neg Zo,if_neg q]
    have HB:Hid (Below w.heap.size w wq):=by show Below _ _ _;rw[hwq];exact hB.setCell (p:=⟨G,i,none⟩) G2 _
    have hgi:g i<=300:=Zo
    have HN:Hid (∀j,i<j->j<t->g j+t=n+j):=fun j h1 h2=>hT.out j Zo h2
    have hcc:Hid _:=hc;clear hT hO hB hc
    go_wp2_with fail
    rw[<-hwq];clear hwq k1 hfr
    go_loopw [8] (fun kk wz=>∃q:Nat,i+1<=q/\q<=t/\kk= .int .i64 (q:Int)/\OwnI wz w.heap.size 3 (.slice (some ⟨G,0,none⟩) t c2) (stL (fun j=>if j<q then nxF g i j else g j) t)/\Below w.heap.size w wz) (fun kk _=>t-(intOf kk).toNat)
    case atStart=>exact⟨i+1,Zr,Zo,Zg,HO.out,HB.out⟩
    case round=>
     obtain⟨q,hq1,hq2,rfl,hO,hB⟩:=hrel;clear HO HB
     by_cases hqt:q<t
     ·have hqt':(q:Int)<(t:Int):=by omega
      obtain⟨p,rfl⟩:∃p,q=p+1:=⟨q-1,Zo⟩;obtain⟨_,e3,_,_,k1⟩:=hO.cell (i:=p) (by rw[stL_length];omega);obtain⟨_,e4,_,_,k2⟩:=hO.cell (i:=p+1) (by rw[stL_length];omega);simp at e3 e4;subst e3 e4;rw[stL_getD Zo,if_pos Zo]at k1;have hfr:=hO.free (p+1);have hv:nxF g i (p+1)=nxF g i p+1:=by unfold nxF;rw[if_neg Zo];split<;>omega
      have hb1:nxF g i p<=1000:=by unfold nxF;rw[if_neg Zo];omega
      obtain⟨wz2,hwz⟩:∃wz2,wz2=wr.setCell ⟨G,p+1,none⟩ (.int .i64 ((nxF g i p:Int)+1)):=⟨_,rfl⟩;have HO:Hid (OwnI wz2 w.heap.size 3 (.slice (some ⟨G,0,none⟩) t c2) (stL (fun j=>if j<p+1+1 then nxF g i j else g j) t)):=by
       show OwnI _ _ _ _ _
       have:=hO.store (p+1) (nxF g i p+1);rw[stL_set (g':=fun j=>if j<p+1+1 then nxF g i j else g j) hqt (fun j hj=>?_)]at this
       ·rw[hwz];exact_mod_cast this
       ·by_cases q3:j=p+1
        ·subst q3;rw[if_pos Zo,if_pos rfl,hv]
        ·by_cases q4:j<p+1
         ·rw[if_pos Zo,if_neg q3,if_pos q4]
         ·rw[if_neg Zo,if_neg q3,if_neg q4]
      have HB:Hid (Below w.heap.size w wz2):=by show Below _ _ _;rw[hwz];exact hB.setCell (p:=⟨G,p+1,none⟩) G2 _
      generalize nxF g i p=y at*;generalize (stL (fun j=>if j<p+1 then nxF g i j else g j) t).getD (p+1) 0=y2 at k2;have e5:((p+1:Nat):Int)-1=(p:Int):=Zo
      have e6:(p:Int)<(t:Int):=Zo
      clear hO hB hv
      go_wp2_with fail
      rw[<-hwz];go_roundw
      case rel=>exact⟨p+1+1,Zo,Zo,Zg,HO.out,HB.out⟩
      case measure=>simp[intOf];omega
     ·have e:q=t:=by omega
      subst e;have hge:¬(q:Int)<(q:Int):=Zo
      have HE:Hid (OwnI wr w.heap.size 3 (.slice (some ⟨G,0,none⟩) q c2) (stL (nxF g i) q)):=by
       show OwnI _ _ _ _ _
       rw[<-stL_eqs (g:=fun j=>if j<q then nxF g i j else g j) (fun j hj=>if_pos hj)];exact hO
      clear hO;go_wp2;exact bodyPost_ret (v:=.tuple #[.slice (some ⟨G,0,none⟩) q c2,.bool true]) (by simp[results,Tryz.results182,go_sem]) rfl ⟨hB,Or.inl ⟨i,hit,hcc.out,HN.out,_,rfl,HE.out⟩⟩
   ·have hc':¬((g i:Nat):Int)<(n:Int)-(t:Int)+(i:Int):=by omega
    have H:Hid (∀j,i<=j->j<t->g j+t=n+j):=fun j h1 h2=>by
     by_cases q:j=i
     ·rw[q];omega
     ·exact hT.out j Zo h2
    clear hT hO;go_wp2
    go_round
    case rel=>exact⟨i,Zo,Zg,H⟩
    case measure=>simp[intOf]
theorem zeroCells_int(k:Nat):Builtin.zeroCells #[Value.int .i64 0] k=(List.replicate k (Value.int .i64 0)).toArray:=by
 apply Array.ext';unfold Builtin.zeroCells;simp only[Array.toList_map,Array.toList_range];refine List.ext_getElem Zs fun i h1 h2=>?_
 simp[Nat.mod_one]
theorem grow_any{n:Nat}{w:World}(hl:n<=1000){x:Int}(hx:x=(n:Int)):Calls Tryz.prog 205 #[.slice none 0 0,.int .i64 x] w fun e w'=>∃v,e= .returned v/\OwnI w' w.heap.size 3 v []/\Below w.heap.size w w':=by
 subst hx;have hb8:Tryz.t3.bytes=8:=Zk
 have h1:¬(281474976710656:Int)<(n:Int)*(Tryz.t3.bytes:Int):=by
  have:∀q:Nat,q=8->¬(281474976710656:Int)<(n:Int)*(q:Int):=fun q hq=>by subst hq;omega
  exact this _ hb8
 have hnn:¬(n:Int)<0:=Zo
 by_cases h0:n=0
 ·subst h0;clear hb8
  go_enter Tryz.func205,Tryz.ntmps205
  go_wp2;go_ret;exact⟨_,rfl,OwnI.nil _ _ _,Zf⟩
 ·have hpos:0<n:=by omega
  have h2:¬(281474976710656:Nat)<Builtin.nextslicecap n 0*Tryz.t3.bytes:=by
   have h3:=growslice_fits (need:=n) (old:=0) (bytes:=8) Zo Zo
   have:∀q:Nat,q=8->¬(281474976710656:Nat)<Builtin.nextslicecap n 0*q:=fun q hq=>by subst hq;omega
   exact this _ hb8
  clear hb8;have hge:=grownCap_ge w n 0 3;have hle:=grownCap_le_maxLen w n 0 3 Zl;unfold grownCap at hge hle
  go_enter Tryz.func205,Tryz.ntmps205
  go_wp2
  all_goals try omega
  go_ret;refine⟨_,rfl,⟨rfl,.inr ⟨w.heap.size,_,_,rfl,Zr,heap_alloc_new w _,Zz,hle,?_,rfl⟩⟩,?_⟩
  ·rw[zeroCells_int,zeroCells_int];simp;omega
  ·exact(Zf.alloc Zr _).drew
def catF(zs ys:List Nat)(r:Nat):List Nat:=if r=0 then []else if r=1 then zs else zs++ys
def szF(a N r:Nat):Nat:=if r=0 then 0 else if r=1 then a else N
theorem ccat_any{w:World}{b b1 b2 e1 e2:Nat}{v1 v2:Value}{zs ys:List Nat}(k1:w.cell? ⟨b,0,none⟩=some v1)(k2:w.cell? ⟨b,1,none⟩=some v2)(hb:b<w.heap.size)(h1:OwnI w b1 e1 v1 zs)(h2:OwnI w b2 e2 v2 ys)(hl:zs.length<=300)(hl2:ys.length<=300):
  Calls Tryz.prog 174 #[.slice (some ⟨b,0,none⟩) 2 2] w fun e w'=>∃v,e= .returned v/\OwnI w' w.heap.size 3 v (zs++ys)/\Below w.heap.size w w':=by
 obtain⟨i0,hi,hz0,hz1,hz2⟩:=info_parts info_int10;obtain⟨a1,c1,rfl⟩:=h1.form;obtain⟨a2,c2,rfl⟩:=h2.form;have w1:IntKind.i64.wrap ((zs.length:Int))=(zs.length:Int):=Zw
 obtain⟨N,hN⟩:∃N,Hid (N=zs.length+ys.length):=⟨_,rfl⟩;have g0:(zs.length:Int)+(ys.length:Int)=(N:Int):=by have:=hN.out;omega
 have hN6:N<=600:=by have:=hN.out;omega
 have w2:IntKind.i64.wrap (N:Int)=(N:Int):=Zw
 have n1:¬(zs.length:Int)<0:=Zo
 have n2:¬(N:Int)<0:=Zo
 go_enter Tryz.func174,Tryz.ntmps174
 go_wp2_with fail
 go_loopw [3,11] (fun s i wr=>∃r:Nat,r<=2/\i= .int .i64 (r:Int)/\s= .int .i64 ((szF zs.length N r:Nat):Int)/\wr=w) (fun _ i _=>2-(intOf i).toNat)
 case atStart=>exact⟨0,Zo,rfl,rfl,rfl⟩
 case round=>
  obtain⟨r,hr,rfl,rfl,rfl⟩:=hrel
  by_cases r0:r=0
  ·subst r0;have E:szF zs.length N 0=0:=rfl;rw[E];clear E h1 h2;go_wp2;go_roundw
   case rel=>exact⟨1,Zo,Zg,by show _=Value.int .i64 ((zs.length:Nat):Int);go_num,by first|rfl|trivial⟩
   case measure=>simp[intOf]
  by_cases r1:r=1
  ·subst r1;have E:szF zs.length N 1=zs.length:=rfl;rw[E];clear E h1 h2;go_wp2;go_roundw
   case rel=>exact⟨2,Zo,Zg,by show _=Value.int .i64 ((N:Nat):Int);go_num,by first|rfl|trivial⟩
   case measure=>simp[intOf]
  ·have r2:r=2:=by omega
   subst r2;obtain⟨wo,hwo⟩:∃wo,wo=wr:=⟨_,rfl⟩;subst hwo;have E:szF zs.length N 2=N:=rfl;rw[E];clear E r0 r1
   go_wp2_with fail
   refine(grow_any (n:=N) Zo rfl).mono ?_
   rintro e u1 ⟨v,rfl,O1,B1⟩;have k1':=(B1.cell (p:=⟨b,0,none⟩) hb).trans k1;have k2':=(B1.cell (p:=⟨b,1,none⟩) hb).trans k2;have h1':=owns_later h1 B1;have h2':=owns_later h2 B1;have hsz:=B1.size;obtain⟨av,cv,rfl⟩:=O1.form;have HB0:Hid (Below wo.heap.size wo u1):=B1;clear B1 h1' h2' k1' k2'
   go_wp2_with fail
   go_loopw [6,27] (fun o i wz=>∃r:Nat,r<=2/\i= .int .i64 (r:Int)/\OwnI wz wo.heap.size 3 o (catF zs ys r)/\Below wo.heap.size wo wz) (fun _ i _=>2-(intOf i).toNat)
   case atStart=>exact⟨0,Zo,rfl,O1,HB0.out⟩
   case round=>
    obtain⟨r,hr,rfl,hO,hB⟩:=hrel;clear HB0 O1;have hsz:=hB.size;have q1:=(hB.cell (p:=⟨b,0,none⟩) hb).trans k1;have q2:=(hB.cell (p:=⟨b,1,none⟩) hb).trans k2;have p1:OwnI wr b1 e1 (.slice a1 zs.length c1) zs:=owns_later h1 hB;have p2:OwnI wr b2 e2 (.slice a2 ys.length c2) ys:=owns_later h2 hB
    by_cases r0:r=0
    ·subst r0;have E:catF zs ys 0=[]:=rfl;rw[E]at hO;obtain⟨av,cv,rfl⟩:=hO.form;clear E h1 h2 k1 k2
     go_wp2_with (at_builtin;go_loud (refine wpList_append_ints _ rfl (.tmp 31) (.tmp 32) 45 rfl wo.heap.size 3 i0 Tryz.underlying45 hi hz0 hz1 hz2 (.slice av 0 cv) [] rfl hO (.slice a1 zs.length c1) zs b1 e1 rfl p1 Zm hsz ?_);intro v' w9 hv9 hg9)
     have HB:Hid (Below wo.heap.size wo w9):=hB.grown hg9 hsz (fun q hq=>(Zv hO q hq).1);have HO:Hid (OwnI w9 wo.heap.size 3 v' zs):=hv9;clear hO hv9 hB hg9 p1 p2 q1 q2;go_wp2;go_roundw
     case rel=>exact⟨1,Zo,Zg,HO.out,HB.out⟩
     case measure=>simp[intOf]
    by_cases r1:r=1
    ·subst r1;have E:catF zs ys 1=zs:=rfl;rw[E]at hO;obtain⟨av,cv,rfl⟩:=hO.form;clear E h1 h2 k1 k2
     go_wp2_with (at_builtin;go_loud (refine wpList_append_ints _ rfl (.tmp 31) (.tmp 32) 45 rfl wo.heap.size 3 i0 Tryz.underlying45 hi hz0 hz1 hz2 (.slice av zs.length cv) zs rfl hO (.slice a2 ys.length c2) ys b2 e2 rfl p2 Zo hsz ?_);intro v' w9 hv9 hg9)
     have HB:Hid (Below wo.heap.size wo w9):=hB.grown hg9 hsz (fun q hq=>(Zv hO q hq).1);have HO:Hid (OwnI w9 wo.heap.size 3 v' (zs++ys)):=hv9;clear hO hv9 hB hg9 p1 p2 q1 q2;go_wp2;go_roundw
     case rel=>exact⟨2,Zo,Zg,HO.out,HB.out⟩
     case measure=>simp[intOf]
    ·have r2:r=2:=by omega
     subst r2;have E:catF zs ys 2=zs++ys:=rfl;rw[E]at hO;clear E r0 r1 h1 h2 k1 k2 p1 p2 q1 q2;exact z14_4
theorem clone_any{v:Value}{p:List UInt8}{w:World}(hp:Rd w v p)(hl:p.length<=1000)(h0:0<p.length):Calls Tryz.prog 143 #[v] w fun e w'=>∃g c,e= .returned (.slice (some ⟨g,0,none⟩) p.length c)/\RowF w' w.heap.size 5 g p.length c (co p)/\Below w.heap.size w w':=by
 obtain⟨i0,hi,hz0,hz1,hz2⟩:=info_parts info_u8;obtain⟨a,c,rfl⟩:=hp.form;obtain⟨bb,off,rfl,_,_⟩:=hp.byte h0;have qT:∀(w:World) (a:Option Addr) (n c n' c':Nat),(binOp .eql 36 (.slice a n c) (.slice none n' c')).run Tryz.prog w= .ok (.bool a.isNone) w:=fun w a n c n' c'=>Lib.run_eql_slice_nil w _ _ a n c n' c' Tryz.underlying36
 have B1:Below w.heap.size w (w.alloc (.cells #[] 5)):=Zf.alloc Zr _;have O1:(w.alloc (.cells #[] 5)).ownsRow w.heap.size 5 1 (.slice (some ⟨w.heap.size,0,none⟩) 0 0) 0 []:=⟨rfl,.inr ⟨w.heap.size,0,#[],rfl,Zr,heap_alloc_new w _,Zr,Zz,rfl,rfl⟩⟩;have hp1:=hp.below B1;have hsz:w.heap.size<=(w.alloc (.cells #[] 5)).heap.size:=B1.size
 go_enter Tryz.func143,Tryz.ntmps143
 go_wp2_with (at_builtin;go_loud (refine wpList_append_rd _ rfl (.tmp 5) (.tmp 6) 36 rfl w.heap.size 5 i0 Tryz.underlying36 hi hz0 hz1 hz2 (.slice (some ⟨w.heap.size,0,none⟩) 0 0) 0 [] rfl O1 (.slice (some ⟨bb,off,none⟩) p.length c) p rfl hp1 Zo hsz ?_);intro v' w9 hv9 hg9)
 have HB:Hid (Below w.heap.size w w9):=B1.grown hg9 hsz (fun q hq=>by cases hq;exact Zr);have HO:Hid (OwnP w9 w.heap.size 5 v' p):=by
  show OwnP _ _ _ _ _
  unfold OwnP;rw[Nat.zero_add]at hv9;exact hv9
 clear hv9 hg9 B1 O1 hp1 hp qT;obtain⟨g,c9,rfl,hR⟩:=RowF.of HO.out h0;go_wp2;go_ret;exact⟨g,c9,rfl,hR,HB.out⟩
structure Rt10(w:World)(b gb mb fb kb nb sb wb:Nat)(k m:Int)(vg vn vm vw:Value):Prop where
 cg:w.cell? ⟨gb,0,none⟩=some vg
 cm:w.cell? ⟨mb,0,none⟩=some (.int .i64 m)
 cf:w.cell? ⟨fb,0,none⟩=some (.pointer (some ⟨b,0,none⟩))
 ck:w.cell? ⟨kb,0,none⟩=some (.int .i64 k)
 cn:w.cell? ⟨nb,0,none⟩=some vn
 cs:w.cell? ⟨sb,0,none⟩=some vm
 cw:w.cell? ⟨wb,0,none⟩=some vw
 lt:gb<w.heap.size/\mb<w.heap.size/\fb<w.heap.size/\kb<w.heap.size/\nb<w.heap.size/\sb<w.heap.size/\wb<w.heap.size
theorem Rt10.below{w w':World}{b gb mb fb kb nb sb wb:Nat}{k m:Int}{vg vn vm vw:Value}(h:Rt10 w b gb mb fb kb nb sb wb k m vg vn vm vw)(hb:Below w.heap.size w w'):Rt10 w' b gb mb fb kb nb sb wb k m vg vn vm vw:=by
 obtain⟨l1,l2,l3,l4,l5,l6,l7⟩:=h.lt;have hs:=hb.size;exact⟨(hb.cell (p:=⟨gb,0,none⟩) l1).trans h.cg,(hb.cell (p:=⟨mb,0,none⟩) l2).trans h.cm,(hb.cell (p:=⟨fb,0,none⟩) l3).trans h.cf,(hb.cell (p:=⟨kb,0,none⟩) l4).trans h.ck,(hb.cell (p:=⟨nb,0,none⟩) l5).trans h.cn,(hb.cell (p:=⟨sb,0,none⟩) l6).trans h.cs,(hb.cell (p:=⟨wb,0,none⟩) l7).trans h.cw,Zo,Zo,Zo,Zo,Zo,Zo,Zo⟩
theorem rd_not{W:World}{v:Value}{p:List UInt8}{q:Nat}(h:Rd W v p)(hq:∀i x,W.cell? ⟨q,i,none⟩≠some (.int .u8 x)):Apart q v:=by
 intro a m c e;subst e
 by_cases hm:m=0
 ·exact Or.inl hm
 ·right;obtain⟨_,_,e2⟩:=h.form;simp at e2;obtain⟨b,off,e3,_,e4⟩:=h.byte (i:=0) Zo;simp at e3;subst e3;intro e5;subst e5;exact hq _ _ e4
theorem z14_1{p:Prop} (h:p:=by
 clear HC1 HC2 FIN;refine rnH 5 fun K hK=>?_
 go_simp;refine hK.out _ _ ?_ (fun hHeld=>?_)
 ·exact FW.1
 clear hK K;refine wpAnyH_done Zk ?_ _
 have FW2:Hid _:=FW.2;clear FW
 try simp only[Act.put,List.setIfInBounds_toArray,List.set_cons_zero,List.set_cons_succ]
 go_wp2;go_ret;rw[<-HZ.out];exact FW2.out
 ):p:=h
theorem erig_any{b:Nat}{k m:Int}{vw vm:Value}{ws:List UInt8}{ms:List Bool}{w:World}(hF:FieldAt w b)(hw:Rd w vw ws)(hm:RdB w vm ms)(hl:ms.length<=256):
  Calls Tryz.prog 135 #[.pointer (some ⟨b,0,none⟩),.int .i64 k,.int .i64 m,vw,vm] w fun e w'=>∃gb mb fb kb nb sb wb vg vn,e= .returned (.func (.func 167) #[] #[.pointer (some ⟨gb,0,none⟩),.pointer (some ⟨mb,0,none⟩),.pointer (some ⟨fb,0,none⟩),.pointer (some ⟨kb,0,none⟩),.pointer (some ⟨nb,0,none⟩),.pointer (some ⟨sb,0,none⟩),.pointer (some ⟨wb,0,none⟩)])/\
   Rt10 w' b gb mb fb kb nb sb wb k m vg vn vm vw/\OwnI w' w.heap.size 3 vg (plc (hb ms) ms.length)/\Rd w' vn (locL (ptsL (plc (hb ms) ms.length)))/\Below w.heap.size w w':=by
 obtain⟨a1,c1,rfl⟩:=hw.form;obtain⟨a2,c2,rfl⟩:=hm.form
 go_enter Tryz.func135,Tryz.ntmps135
 go_wp2_with fail
 obtain⟨u0,hu0⟩:∃u0,u0=(((((w.alloc (.cells #[.pointer (some ⟨b,0,none⟩)] 26)).alloc (.cells #[.int .i64 k] 3)).alloc (.cells #[.int .i64 m] 3)).alloc (.cells #[.slice a1 ws.length c1] 36)).alloc (.cells #[.slice a2 ms.length c2] 96)):=⟨_,rfl⟩;rw[<-hu0];obtain⟨x0,hx0⟩:∃x0,Hid (x0=w.heap.size):=⟨_,rfl⟩;have B0:Below w.heap.size w u0:=by rw[hu0];repeat (first|exact Zf|apply below_lit)
 have cf:u0.cell? ⟨x0,0,none⟩=some (.pointer (some ⟨b,0,none⟩)):=by rw[hu0,hx0.out];go_simp
 have ck:u0.cell? ⟨x0+1,0,none⟩=some (.int .i64 k):=by rw[hu0,hx0.out];go_simp
 have cm:u0.cell? ⟨x0+1+1,0,none⟩=some (.int .i64 m):=by rw[hu0,hx0.out];go_simp
 have cw:u0.cell? ⟨x0+1+1+1,0,none⟩=some (.slice a1 ws.length c1):=by rw[hu0,hx0.out];go_simp
 have cs:u0.cell? ⟨x0+1+1+1+1,0,none⟩=some (.slice a2 ms.length c2):=by rw[hu0,hx0.out];go_simp
 have hsz0:u0.heap.size=x0+5:=by rw[hu0,hx0.out];simp
 have hm0:=hm.below B0;have hF0:=hF.below B0;rw[<-hx0.out];clear hu0 hm hF hw;refine(epl_any hm0 Zo).mono ?_
 rintro e u1 ⟨vg,rfl,O1,B1⟩;obtain⟨ga,gc,rfl⟩:=O1.form;have hl1:Hid ((plc (hb ms) ms.length).length<=300):=by show _<=_;rw[plc_length];have:=cnt_le (hb ms) ms.length;omega
 have hl2:Hid (∀i,i<(plc (hb ms) ms.length).length->(plc (hb ms) ms.length).getD i 0<256):=fun i hi=>by have:=(plc_mem.1 (getD_mem hi)).1;omega
 obtain⟨Z,hZ⟩:∃Z,Z=plc (hb ms) ms.length:=⟨_,rfl⟩;rw[<-hZ]at O1 hl1 hl2 ⊢;have HZ:Hid _:=hZ;clear hZ;have s1:=B1.size;have R1:=(O1.rd (by have:=hl1.out;omega));have A1:Below u1.heap.size u1 (u1.alloc (.cells #[.slice ga Z.length gc] 45)):=Zf.alloc Zr _;have cf1:=(A1.cell (p:=⟨x0,0,none⟩) (show x0<u1.heap.size by omega)).trans ((B1.cell (p:=⟨x0,0,none⟩) (show x0<u0.heap.size by omega)).trans cf);obtain⟨G,hG⟩:∃G,Hid (G=u1.heap.size):=⟨_,rfl⟩;obtain⟨u2,hu2⟩:∃u2,u2=u1.alloc (.cells #[.slice ga Z.length gc] 45):=⟨_,rfl⟩;have cg2:u2.cell? ⟨G,0,none⟩=some (.slice ga Z.length gc):=by rw[hu2,hG.out];go_simp
 have s2:u2.heap.size=G+1:=by rw[hu2,hG.out];simp
 rw[<-hu2]at A1 cf1;have B2:Below u0.heap.size u0 u2:=Below.next B1 A1;have s3:x0+5<=G:=by have:=hG.out;omega
 have P1:=And.intro cf1 cg2;have Q1:Hid (∀W,Below u2.heap.size u2 W->W.cell? ⟨x0,0,none⟩=some (.pointer (some ⟨b,0,none⟩))/\W.cell? ⟨G,0,none⟩=some (.slice ga Z.length gc)):=fun W h=>⟨(h.cell (p:=⟨x0,0,none⟩) (show x0<u2.heap.size by omega)).trans cf1,(h.cell (p:=⟨G,0,none⟩) (show G<u2.heap.size by omega)).trans cg2⟩
 have R2:=R1.below A1;have F2:=hF0.below B2;have HC1:∀W,Below u2.heap.size u2 W->Calls Tryz.prog 166 #[.slice ga Z.length gc] W fun e w'=>∃v,e= .returned v/\Rd w' v (ptsL Z)/\Below W.heap.size W w':=fun W h=>ept_any (R2.below h) hl1.out hl2.out
 have HC2:∀W v,Below u2.heap.size u2 W->Rd W v (ptsL Z)->Calls Tryz.prog 165 #[.pointer (some ⟨b,0,none⟩),v] W fun e w'=>∃v',e= .returned v'/\Rd w' v' (locL (ptsL Z))/\Below W.heap.size W w':=fun W v h r=>kloc_any (F2.below h) r (by rw[ptsL_length];exact hl1.out)
 have FIN:∀W0 W q a8 c8,Below u2.heap.size u2 W0->Below u2.heap.size u2 W->q<W.heap.size->u2.heap.size<=q->W.cell? ⟨q,0,none⟩=some (.slice none 0 0)->(∀i x,W.cell? ⟨q,i,none⟩≠some (.int .u8 x))->Rd W (.slice a8 (locL (ptsL Z)).length c8) (locL (ptsL Z))->
   ((W.setCell ⟨q,0,none⟩ (.slice a8 (locL (ptsL Z)).length c8)).cell? ⟨x0,0,none⟩=some (.pointer (some ⟨b,0,none⟩))/\(W.setCell ⟨q,0,none⟩ (.slice a8 (locL (ptsL Z)).length c8)).cell? ⟨G,0,none⟩=some (.slice ga Z.length gc))/\
   ∃gb mb fb kb nb sb wb vg vn,Ending.returned (.func (.func 167) #[] #[.pointer (some ⟨G,0,none⟩),.pointer (some ⟨x0+1+1,0,none⟩),.pointer (some ⟨x0,0,none⟩),.pointer (some ⟨x0+1,0,none⟩),.pointer (some ⟨q,0,none⟩),.pointer (some ⟨x0+1+1+1+1,0,none⟩),.pointer (some ⟨x0+1+1+1,0,none⟩)])= .returned (.func (.func 167) #[] #[.pointer (some ⟨gb,0,none⟩),.pointer (some ⟨mb,0,none⟩),.pointer (some ⟨fb,0,none⟩),.pointer (some ⟨kb,0,none⟩),.pointer (some ⟨nb,0,none⟩),.pointer (some ⟨sb,0,none⟩),.pointer (some ⟨wb,0,none⟩)])/\
   Rt10 (W.setCell ⟨q,0,none⟩ (.slice a8 (locL (ptsL Z)).length c8)) b gb mb fb kb nb sb wb k m vg vn (.slice a2 ms.length c2) (.slice a1 ws.length c1)/\OwnI (W.setCell ⟨q,0,none⟩ (.slice a8 (locL (ptsL Z)).length c8)) w.heap.size 3 vg Z/\Rd (W.setCell ⟨q,0,none⟩ (.slice a8 (locL (ptsL Z)).length c8)) vn (locL (ptsL Z))/\Below w.heap.size w (W.setCell ⟨q,0,none⟩ (.slice a8 (locL (ptsL Z)).length c8)):=by
  intro W0 W q a8 c8 h0 h hq hqu kq kn hR;have hb:Below u2.heap.size u2 (W.setCell ⟨q,0,none⟩ (.slice a8 (locL (ptsL Z)).length c8)):=h.setCell (p:=⟨q,0,none⟩) hqu _;have hb0:Below u0.heap.size u0 (W.setCell ⟨q,0,none⟩ (.slice a8 (locL (ptsL Z)).length c8)):=Below.next B2 hb;have hap:Apart q (.slice a8 (locL (ptsL Z)).length c8):=rd_not hR kn;have hR2:=hR.only hap ((Only.refl q W).setCell 0 (.slice a8 (locL (ptsL Z)).length c8));have hl:=hb.size;obtain⟨t1,t2⟩:=Q1.out _ hb;refine⟨⟨t1,t2⟩,G,x0+1+1,x0,x0+1,q,x0+1+1+1+1,x0+1+1+1,_,_,rfl,⟨t2,(hb0.cell (p:=⟨x0+1+1,0,none⟩) (show x0+1+1<u0.heap.size by omega)).trans cm,t1,(hb0.cell (p:=⟨x0+1,0,none⟩) (show x0+1<u0.heap.size by omega)).trans ck,World.cell?_setCell_same W ⟨q,0,none⟩ _ kq,(hb0.cell (p:=⟨x0+1+1+1+1,0,none⟩) (show x0+1+1+1+1<u0.heap.size by omega)).trans cs,(hb0.cell (p:=⟨x0+1+1+1,0,none⟩) (show x0+1+1+1<u0.heap.size by omega)).trans cw,Zo,Zo,Zo,Zo,?_,Zo,Zo⟩,?_,hR2,B0.trans (hb0.mono B0.size)⟩
  ·simpa using hq
  ·exact ownsRow_base (owns_later O1 (Below.next A1 hb)) (by have:=B0.size;omega)
 have D0:Below u2.heap.size u2 u2.drew:=Zf.drew;have D1:Below u2.heap.size u2 (u2.drew.alloc (.cells #[.slice none 0 0] 36)):=below_lit D0 _;clear R2 F2 R1 cf1 hF0 hm0 cg2 A1 O1 B2 B1 B0 cf ck cm cw cs s2
 go_wp2_with fail
 rw[<-hu2,<-hG.out];clear hu2
 --REGION
 refine wp_region_held_drew (S:=(fun wx=>wx.cell? ⟨x0,0,none⟩=some (.pointer (some ⟨b,0,none⟩))/\wx.cell? ⟨G,0,none⟩=some (.slice ga Z.length gc))) Zk ?_ (fun hHeld=>?_)
 ·exact P1
 refine tkH 0 ?_
 refine tkH 1 ?_
 refine rmH 2 4 (fun K hK=>?_) fun K hK=>?_
 ·go_simp;refine(HC1 _ (by first|assumption|exact D0|exact D1|exact below_lit C9 _|exact below_lit C8 _)).mono ?_
  rintro e w9 ⟨v9,rfl,R9,B9⟩;obtain⟨a9,c9,rfl⟩:=R9.form;have C9:Below u2.heap.size u2 w9:=by first|exact Below.next D0 B9|exact Below.next D1 B9
  have R9a:=R9.below (Zf.alloc Zr (.cells #[.slice none 0 0] 36))
  try go_simp
  refine koH hK (Q1.out _ C9) fun hHeld=>?_
  clear hK K;refine rmH 3 4 (fun K hK=>?_) fun K hK=>?_
  ·go_simp;refine(HC2 _ _ (by first|assumption|exact D0|exact D1|exact below_lit C9 _|exact below_lit C8 _) Za).mono ?_
   rintro e w8 ⟨v8,rfl,R8,B8⟩;obtain⟨a8,c8,rfl⟩:=R8.form;have C8:Below u2.heap.size u2 w8:=by first|exact Below.next C9 B8|exact Below.next (below_lit C9 _) B8
   try go_simp
   refine koH hK (Q1.out _ C8) fun hHeld=>?_
   clear hK K;refine rnH 4 fun K hK=>?_
   go_simp;refine koH hK (Q1.out _ (by first|assumption|exact D0|exact D1|exact below_lit C9 _|exact below_lit C8 _)) fun hHeld=>?_
   clear hK K;have kq:(w8.alloc (.cells #[.slice none 0 0] 36)).cell? ⟨w8.heap.size,0,none⟩=some (.slice none 0 0):=by go_simp
   have kf:(w8.alloc (.cells #[.slice none 0 0] 36)).frozen? ⟨w8.heap.size,0,none⟩=false:=by go_simp
   have FW:=FIN w8 (w8.alloc (.cells #[.slice none 0 0] 36)) w8.heap.size a8 c8 C8 (below_lit C8 _) Zs (by have:=C8.size;omega) kq (fun i x=>by rw[World.cell?_alloc_new];rcases i with _|i<;>simp) (R8.below (Zf.alloc Zr _));rw[World.setCell_alloc_new]at FW;simp only[List.setIfInBounds_toArray,List.set_cons_zero]at FW;exact z14_1
  ·go_simp;refine koH hK (Q1.out _ (by first|assumption|exact D0|exact D1|exact below_lit C9 _|exact below_lit C8 _)) fun hHeld=>?_
   clear hK K;refine rnH 3 fun K hK=>?_
   go_simp;refine(HC2 _ _ (by first|assumption|exact D0|exact D1|exact below_lit C9 _|exact below_lit C8 _) Za).mono ?_
   rintro e w8 ⟨v8,rfl,R8,B8⟩;obtain⟨a8,c8,rfl⟩:=R8.form;have C8:Below u2.heap.size u2 w8:=by first|exact Below.next C9 B8|exact Below.next (below_lit C9 _) B8
   try go_simp
   refine koH hK (Q1.out _ C8) fun hHeld=>?_
   clear hK K;have lq:w9.heap.size<(w9.alloc (.cells #[.slice none 0 0] 36)).heap.size:=Zs
   have kq:=(B8.cell (p:=⟨w9.heap.size,0,none⟩) lq).trans (show(w9.alloc (.cells #[.slice none 0 0] 36)).cell? ⟨w9.heap.size,0,none⟩=some (.slice none 0 0) by go_simp);have kf:=(B8.frozen (p:=⟨w9.heap.size,0,none⟩) lq).trans (show(w9.alloc (.cells #[.slice none 0 0] 36)).frozen? ⟨w9.heap.size,0,none⟩=false by go_simp);have FW:=FIN w8 w8 w9.heap.size a8 c8 C8 C8 (Zu lq B8.size) (by have:=C9.size;omega) kq (fun i x=>by rw[B8.cell (p:=⟨w9.heap.size,i,none⟩) lq,World.cell?_alloc_new];rcases i with _|i<;>simp) R8;exact z14_1
 ·go_simp;refine koH hK (Q1.out _ (by first|assumption|exact D0|exact D1|exact below_lit C9 _|exact below_lit C8 _)) fun hHeld=>?_
  clear hK K;refine rnH 2 fun K hK=>?_
  go_simp;refine(HC1 _ (by first|assumption|exact D0|exact D1|exact below_lit C9 _|exact below_lit C8 _)).mono ?_
  rintro e w9 ⟨v9,rfl,R9,B9⟩;obtain⟨a9,c9,rfl⟩:=R9.form;have C9:Below u2.heap.size u2 w9:=by first|exact Below.next D0 B9|exact Below.next D1 B9
  have R9a:=R9.below (Zf.alloc Zr (.cells #[.slice none 0 0] 36))
  try go_simp
  refine koH hK (Q1.out _ C9) fun hHeld=>?_
  clear hK K;refine rnH 3 fun K hK=>?_
  go_simp;refine(HC2 _ _ (by first|assumption|exact D0|exact D1|exact below_lit C9 _|exact below_lit C8 _) Za).mono ?_
  rintro e w8 ⟨v8,rfl,R8,B8⟩;obtain⟨a8,c8,rfl⟩:=R8.form;have C8:Below u2.heap.size u2 w8:=by first|exact Below.next C9 B8|exact Below.next (below_lit C9 _) B8
  try go_simp
  refine koH hK (Q1.out _ C8) fun hHeld=>?_
  clear hK K;have lq:u2.heap.size<(u2.drew.alloc (.cells #[.slice none 0 0] 36)).heap.size:=Zs
  have lq9:u2.heap.size<w9.heap.size:=Zu lq B9.size;have kq:=(B8.cell (p:=⟨u2.heap.size,0,none⟩) lq9).trans ((B9.cell (p:=⟨u2.heap.size,0,none⟩) lq).trans (show(u2.drew.alloc (.cells #[.slice none 0 0] 36)).cell? ⟨u2.heap.size,0,none⟩=some (.slice none 0 0) by go_simp));have kf:=(B8.frozen (p:=⟨u2.heap.size,0,none⟩) lq9).trans ((B9.frozen (p:=⟨u2.heap.size,0,none⟩) lq).trans (show(u2.drew.alloc (.cells #[.slice none 0 0] 36)).frozen? ⟨u2.heap.size,0,none⟩=false by go_simp));have FW:=FIN w8 w8 u2.heap.size a8 c8 C8 C8 (Zu lq9 B8.size) Zr kq (fun i x=>by rw[B8.cell (p:=⟨u2.heap.size,i,none⟩) lq9,B9.cell (p:=⟨u2.heap.size,i,none⟩) lq];show(u2.alloc (.cells #[.slice none 0 0] 36)).cell? ⟨u2.heap.size,i,none⟩≠_;rw[World.cell?_alloc_new];rcases i with _|i<;>simp) R8;exact z14_1
 --REGION END
end Go.Proofs.YtddnfhfangfgeaaGreat.Gf
