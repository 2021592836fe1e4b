/- JOINED: MxRInvA, MxRInvB, MxRInvC. -/
import Derived.Test.YtddnfhfangfgeaaGreatPome5
set_option maxHeartbeats 8000000
set_option maxRecDepth 100000
namespace Go.Proofs.YtddnfhfangfgeaaGreat.Gf
set_option linter.unusedVariables false
set_option linter.unusedSimpArgs false
open Go.RowKit
theorem info_bytes:(Tryz.prog.info? 36).map (fun i=>(i.zero,i.size,i.bytes))=some (some (.slice none 0 0),1,24):=Zk
theorem ownBlock_some(b n c:Nat):(Value.slice (some ⟨b,0,none⟩) n c).ownBlock=some b:=rfl
theorem rwide_any{w:World}{n:Nat}{vs:Value}{A:List UInt8}(h:Rd w vs A)(hok:OkM n n A):
  Calls Tryz.prog 246 #[.agg #[.int .i64 (n:Int),.int .i64 (n:Int),vs]] w fun e w'=>∃v vals,e= .returned v/\vals.length=n/\w'.ownsRow w.heap.size 36 1 v n vals/\RowsO w' w.heap.size 5 v vals (fun i=>upto (fun j=>en n A i j) n)/\Below w.heap.size w w':=by
 obtain⟨i0,hi,hz0,hz1,hz2⟩:=info_parts info_u8;obtain⟨i1,hj,hy0,hy1,hy2⟩:=info_parts info_bytes;have hn:n<=256:=by have:=hok.2.1;omega
 have hl:A.length=n*n:=by exact_mod_cast hok.2.2.2.2
 go_enter Tryz.func246,Tryz.ntmps246
 have B0:Below w.heap.size w (w.alloc (.cells #[.int .i64 (n:Int),.int .i64 (n:Int),vs] 148)):=Zf.alloc Zr _;have X0:=Box.new w (n:Int) (n:Int) vs 148;go_wp2
 go_loopw [3,4] (fun o i wr=>∃(k:Nat) (vals:List Value),k<=n/\i= .int .i64 k/\vals.length=k/\wr.ownsRow (w.heap.size+1) 36 1 o k vals/\RowsO wr (w.heap.size+1) 5 o vals (fun i=>upto (fun j=>en n A i j) n)/\Below (w.heap.size+1) (w.alloc (.cells #[.int .i64 (n:Int),.int .i64 (n:Int),vs] 148)) wr) (fun _ i _=>n-(intOf i).toNat)
 case atStart=>exact⟨0,[],Zo,rfl,rfl,World.ownsRow_nil _ _ _ _,RowsO.nil _ _ _ _ _,Zf⟩
 case round=>
  obtain⟨k,vals,hk,rfl,hvl,hown,hrows,hB⟩:=hrel;have X1:=X0.below (show w.heap.size<w.heap.size+1 by omega) hB;have x0:=X1.c0;have x1:=X1.c1;have x2:=X1.c2;have hsz:w.heap.size+1<=wr.heap.size:=by have:=hB.size;simpa using this
  have l0:w.heap.size<wr.heap.size:=Zo
  by_cases hlt:k<n
  ·have hlt':(k:Int)<(n:Int):=by omega
   obtain⟨lo,hlo⟩:∃lo,Hid (lo=k*n):=⟨_,rfl⟩;obtain⟨hh,hhi⟩:∃hh,Hid (hh=lo+n):=⟨_,rfl⟩;have p1:lo+n<=A.length:=by rw[hlo.out,hl,<-Nat.succ_mul];exact Nat.mul_le_mul_right n hlt
   have p2:lo<=256*256:=by rw[hlo.out];exact Nat.mul_le_mul Zo hn
   have g1:(k:Int)*(n:Int)=(lo:Int):=by rw[hlo.out];exact_mod_cast rfl
   have g2:((k:Int)+1)*(n:Int)=(hh:Int):=by rw[Int.add_mul,Int.one_mul,g1,hhi.out];exact_mod_cast rfl
   have g3:hh-lo=n:=by rw[hhi.out];omega
   have w1:IntKind.i64.wrap (lo:Int)=(lo:Int):=Zw
   have w2:IntKind.i64.wrap (hh:Int)=(hh:Int):=by rw[IntKind.wrap_i64];have:=hhi.out;omega
   have hR:=(h.below B0).below (hB.mono Zs)
   rcases h with⟨ao,cap,hA,_⟩|⟨b,off,cap,hA0,rfl,h6,h7,h8,h9⟩
   ·subst hA;simp at p1;omega
   ·have hR2:=hR.sub lo n Zo p1;have hRL:upto (fun j=>co A (lo+j)) n=upto (fun j=>en n A k j) n:=upto_congr fun j hj=>by rw[hlo.out];rfl
    rw[hRL]at hR2;have hlc:lo<cap:=Zo
    have hhc:hh<=cap:=by have:=hhi.out;omega
    have hne:¬cap=lo:=Zo
    have hlh:lo<=hh:=by have:=hhi.out;omega
    have hlh':(lo:Int)<=(hh:Int):=Zo
    have hhc':(hh:Int)<=(cap:Int):=Zo
    have HU:Hid ((upto (fun j=>en n A k j) n).length=n):=upto_length _ _;have hA1:Below wr.heap.size wr (wr.alloc (.cells #[] 5)):=Zf.alloc Zr _;have hE:(wr.alloc (.cells #[] 5)).ownsRow (w.heap.size+1) 5 1 (.slice (some ⟨wr.heap.size,0,none⟩) 0 0) 0 []:=World.ownsRow_made wr #[] 0 hsz Zz rfl;unfold maxLen at h7;clear h9 h6 hR hRL;have HR2:Hid _:=hR2.below hA1;clear hR2;have hl':Hid _:=hl;clear hl;have e0:0+(upto (fun j=>en n A k j) n).length=n:=by rw[upto_length,Nat.zero_add]
    have E0:Hid _:=e0;clear e0
    go_wp2_with (first
     |(at_builtin;refine wpList_append_rd2 _ rfl (.tmp 12) (.tmp 24) 36 rfl (w.heap.size+1) 5 i0 Tryz.underlying36 hi hz0 hz1 hz2 (.slice (some ⟨wr.heap.size,0,none⟩) 0 0) 0 [] rfl hE _ _ rfl HR2.out (by rw[HU.out];omega) Zm ?_;intro x w5 hx5 hg5 hb5;rw[ownBlock_some]at hg5 hb5;obtain⟨ax,cx,ex⟩:=owns_form hx5;rw[E0.out]at ex;subst ex;have ho5:=World.ownsRow.kept (World.ownsRow.alloc hown (.cells #[] 5)) hg5 (block_apart (fun q hq=>(Zv hown q hq).2) (fun q e=>by cases e;exact Zr));have s5:wr.heap.size+1<=w5.heap.size:=(by have:=hg5.size;simpa using this))
     |(at_builtin;refine wpList_append_one _ rfl (.tmp 11) (.tmp 26) 106 rfl (w.heap.size+1) 36 i1 Tryz.underlying106 hj hy0 hy1 hy2 u3 k vals rfl (World.ownsRow.alloc ho5 _) w5.heap.size 1 (.slice ax n cx) rfl Zs rfl Zo Zm ?_;intro v' w6 hv6 hg6 hb6))
    have HP:Hid (RowsO w6 (w.heap.size+1) 5 v' (vals++[.slice ax n cx]) (fun i=>upto (fun j=>en n A i j) n)):=by
     refine RowsO.push hrows (by rw[hvl];exact hown) hg5 ?_ ?_ hg6 hb6
     ·rw[hvl];unfold OwnP;rw[List.nil_append,Nat.zero_add]at hx5;exact hx5
     ·intro q hq
      rcases hb5 with e|e
      ·rw[e]at hq;cases hq;exact Zr
      ·rw[e]at hq;cases hq;simp
    have HB:Hid (Below (w.heap.size+1) (w.alloc (.cells #[.int .i64 (n:Int),.int .i64 (n:Int),.slice (some ⟨b,off,none⟩) A.length cap] 148)) w6):=
     ((((hB.alloc hsz _).grown hg5 Zm (fun q hq=>by cases hq;exact hsz)).alloc Zo _).grown hg6 Zm (fun q hq=>(Zv hown q hq).1))
    clear hB hrows hg5 hg6 hb5 hb6 hx5 ho5 hE HR2 x0 x1 x2 X1;go_roundw
    case rel=>exact⟨k+1,vals++[.slice ax n cx],Zo,Zg,by simp[hvl],hv6,HP.out,HB.out⟩
    case measure=>simp[intOf];omega
  ·have e:k=n:=by omega
   subst e;clear hl;go_wp2;go_ret;refine⟨_,vals,rfl,hvl,ownsRow_base hown Zo,⟨fun i x hx=>ownsRow_base (hrows.own i x hx) Zo,hrows.diff,hrows.out⟩,B0.trans (hB.mono Zo)⟩
theorem rdiv3_at{w:World}(a b:UInt8){x y:Int}(hx:x=((a.toNat:Nat):Int))(hy:y=((b.toNat:Nat):Int)):
  Calls Tryz.prog 248 #[.int .u8 x,.int .u8 y] w fun e w'=>e= .returned (.tuple #[.int .u8 ((mu a (iv b)).toNat:Nat),.int .i64 (zE b.toNat:Nat)])/\w'=w:=by
 rw[mu_toNat,iv_toNat];exact rdiv_at a.toNat b.toNat hx hy (u8_lt a) (u8_lt b)
theorem cell_alloc{W:World}{a:Addr}{v:Value}(h:W.cell? a=some v)(o:Obj):(W.alloc o).cell? a=some v:=
 (((Below.refl W.heap.size W).alloc Zr o).cell (World.block_lt_of_cell? W _ h)).trans h
theorem cell_grown{W W':World}{a:Addr}{v:Value}{r:Option Nat}{B:Nat}(hg:W.grownBy W' r)(h:W.cell? a=some v)(ha:a.block<B)(hr:∀k,r=some k->B<=k):W'.cell? a=some v:=by
 rw[hg.cell_far a (World.block_lt_of_cell? W _ h) (fun e=>by have:=hr _ e.symm;omega)];exact h
def clearL(p q:Nat->UInt8)(c j:Nat):UInt8:=p j^^^mu (mu (p c) (iv (q c))) (q j)
theorem rcleared_any{w:World}{vp vq:Value}{p q:List UInt8}{c:Nat}{x:Int}(hx:x=(c:Int))(hp:Rd w vp p)(hq:Rd w vq q)(hpq:p.length=q.length)(hl:p.length<=1000)(hc:c<p.length):
  Calls Tryz.prog 247 #[vp,vq,.int .i64 x] w fun e w'=>∃v,e= .returned v/\OwnP w' w.heap.size 5 v (upto (clearL (co p) (co q) c) p.length)/\Below w.heap.size w w':=by
 subst hx;obtain⟨i0,hi,hz0,hz1,hz2⟩:=info_parts info_u8
 rcases hp with⟨a1,c1,rfl,_⟩|⟨b1,o1,c1,hp0,rfl,h1,h2,h3,hpc⟩
 ·simp at hc
 rcases hq with⟨a2,c2,rfl,_⟩|⟨b2,o2,c2,hq0,rfl,h4,h5,h6,hqc⟩
 ·simp at hpq;subst hpq;simp at hc
 have hpl:=hpq;rw[<-hpq]at hqc h4 ⊢;clear hpq hq0 hp0;obtain⟨L,hL⟩:∃L,Hid (L=p.length):=⟨_,rfl⟩;rw[<-hL.out]at hpc hqc hl hc h1 h4 ⊢;have d1:=hpc c hc;have d2:=hqc c hc;have hc':(c:Int)<(L:Int):=Zo
 obtain⟨y,hy⟩:∃y,Hid (y=mu (co p c) (iv (co q c))):=⟨_,rfl⟩;clear hpl h1 h2 h4 h5
 go_enter Tryz.func247,Tryz.ntmps247
 go_wp2
 go_quiet ((go_at_call 248;go_loud (exact Calls.quiet_of_same (rdiv3_at (co p c) (co q c) rfl rfl))))
 rw[<-hy.out];clear d1 d2;have hpc':∀i,i<L->(w.drewN nq).cell? ⟨b1,o1+i,none⟩=some (.int .u8 ((co p i).toNat:Nat)):=hpc;have hqc':∀i,i<L->(w.drewN nq).cell? ⟨b2,o2+i,none⟩=some (.int .u8 ((co q i).toNat:Nat)):=hqc;have B0:Below w.heap.size w (w.drewN nq):=below_draws _ _;go_wp2
 go_loopw [9,10] (fun o i wr=>∃k:Nat,k<=L/\i= .int .i64 k/\wr.ownsRow w.heap.size 5 1 o k ((upto (clearL (co p) (co q) c) k).map vb)/\Below w.heap.size w wr) (fun _ i _=>L-(intOf i).toNat)
 case atStart=>exact⟨0,Zo,rfl,World.ownsRow_nil _ _ _ _,B0⟩
 case round=>
  obtain⟨k,hk,rfl,hown,hB⟩:=hrel;clear hpc' hqc' B0
  by_cases hlt:k<L
  ·have hlt':(k:Int)<(L:Int):=by omega
   have k1:=(hB.cell (p:=⟨b1,o1+k,none⟩) h3).trans (hpc k hlt);have k2:=(hB.cell (p:=⟨b2,o2+k,none⟩) h6).trans (hqc k hlt);have E:=xor_u8 (co p k) (mu y (co q k));have hsz:=hB.size;have HS:Hid (∀(v':Value) (w1:World),w1.ownsRow w.heap.size 5 1 v' (k+1) ((upto (clearL (co p) (co q) c) k).map vb++[co p k^^^mu y (co q k)].map vb)->w1.ownsRow w.heap.size 5 1 v' (k+1) ((upto (clearL (co p) (co q) c) (k+1)).map vb)):=fun v' w1 h=>by
    rw[hy.out]at h;rw[upto_vb_succ];exact h
   clear hpc hqc;go_wp2
   go_region_held3 (fun wx=>wx.cell? ⟨b1,o1+k,none⟩=some (.int .u8 ((co p k).toNat:Nat))/\wx.cell? ⟨b2,o2+k,none⟩=some (.int .u8 ((co q k).toNat:Nat))) (first|exact⟨k1,k2⟩|exact⟨cell_alloc k1 _,cell_alloc k2 _⟩|exact⟨cell_grown hg5 (cell_alloc k1 _) h3 (fun q hq=>(Zv hown q hq).1),cell_grown hg5 (cell_alloc k2 _) h6 (fun q hq=>(Zv hown q hq).1)⟩) (first|(go_at_call 146;refine(rmu3_at y (co q k) rfl rfl).mono ?_;rintro e w' ⟨rfl,rfl⟩)|(refine step_append_rd rfl (.tmp 29) (.tmp 41) 36 rfl w.heap.size 5 i0 Tryz.underlying36 hi hz0 hz1 hz2 u9 k _ rfl (World.ownsRow.alloc (World.ownsRow.drew hown) _) (.slice (some ⟨wr.heap.size,0,none⟩) 1 1) [co p k^^^mu y (co q k)] rfl (rd_lit _ rfl (by simp[vb,UInt8.toNat_xor]) Zd) Zm Zm ?_;intro v' w5 hv5 hg5))
   have HN:Hid _:=HS.out _ _ hv5;have HB:Hid (Below w.heap.size w w5):=((hB.alloc hsz _).drew).grown hg5 (by show w.heap.size<=(wr.alloc _).heap.size;simp;omega) (fun q hq=>(Zv hown q hq).1);clear hv5 hg5 hB hown k1 k2 E HS;go_wp2;go_roundw
   case rel=>exact⟨k+1,Zo,Zg,HN.out,HB.out⟩
   case measure=>simp[intOf];omega
  ·have e:k=L:=by omega
   subst e;clear hpc hqc;go_wp2;go_ret;refine⟨_,rfl,?_,hB⟩;unfold OwnP;rw[upto_length];exact hown
def clr2(F:Mx)(c k:Nat):Mx:=fun i j=>if i=c then F c j else if i<k then clearL (F i) (F c) c j else F i j
theorem clr2_zero(F:Mx)(c:Nat):clr2 F c 0=F:=by
 funext i j;unfold clr2
 by_cases e:i=c
 ·rw[if_pos e,e]
 ·rw[if_neg e,if_neg (Nat.not_lt_zero _)]
theorem clr2_skip(F:Mx)(c:Nat):clr2 F c (c+1)=clr2 F c c:=by
 funext i j;unfold clr2
 by_cases e:i=c
 ·rw[if_pos e,if_pos e]
 ·rw[if_neg e,if_neg e]
  by_cases h:i<c
  ·rw[if_pos h,if_pos Zo]
  ·rw[if_neg h,if_neg Zo]
theorem clr2_other{F:Mx}{c k i:Nat}(hi:i≠k)(j:Nat):clr2 F c k i j=clr2 F c (k+1) i j:=by
 unfold clr2
 by_cases e:i=c
 ·rw[if_pos e,if_pos e]
 ·rw[if_neg e,if_neg e]
  by_cases h:i<k
  ·rw[if_pos h,if_pos Zo]
  ·rw[if_neg h,if_neg Zo]
theorem clr2_row{F:Mx}{c k:Nat}(hk:k≠c):clr2 F c k k=F k:=by
 funext j;unfold clr2;rw[if_neg hk,if_neg Zo]
theorem clr2_piv(F:Mx)(c k:Nat):clr2 F c k c=F c:=by
 funext j;unfold clr2;rw[if_pos rfl]
theorem clr2_new{F:Mx}{c k:Nat}(hk:k≠c)(j:Nat):clr2 F c (k+1) k j=clearL (F k) (F c) c j:=by
 unfold clr2;rw[if_neg hk,if_pos Zo]
theorem gj2_clear{n k:Nat}{A F:Mx}(h:GJ n A F (rt n F) k)(hk:k<n)(j:Nat)(hj:j<=n):GJ n A (clr2 F k j) (rt n (clr2 F k j)) k:=by
 induction j with
 |zero=>rw[clr2_zero];exact h
 |succ j ih=>
  have g:=ih Zo
  by_cases e:j=k
  ·subst e;rw[clr2_skip];exact g
  ·have key:∀i x,(if i=j then clr2 F k j i x^^^mu (mu (F j k) (iv (F k k))) (clr2 F k j k x)else clr2 F k j i x)=clr2 F k (j+1) i x:=by
    intro i x
    by_cases e2:i=j
    ·subst e2;rw[if_pos rfl,clr2_row e,clr2_piv,clr2_new e];rfl
    ·rw[if_neg e2,clr2_other e2]
   exact(g.clear (r:=j) (x:=mu (F j k) (iv (F k k))) Zo hk e).congr Zo (fun _ _ _ _=>rfl) (fun i x _ _=>key i x) (fun i x _ _=>key i (n+x))
theorem sw_self{l k:Nat}:sw l k k=l:=by
 unfold sw
 by_cases e:k=l
 ·rw[if_pos e];exact e
 ·rw[if_neg e,if_pos rfl]
theorem gj2_round{n k l:Nat}{A W:Mx}(h:GJ n A W (rt n W) k)(hkl:k<=l)(hl:l<n)(hp:W l k≠0):
  GJ n A (clr2 (fun i j=>W (sw l k i) j) k n) (rt n (clr2 (fun i j=>W (sw l k i) j) k n)) (k+1):=by
 have g1:GJ n A (fun i j=>W (sw l k i) j) (rt n (fun i j=>W (sw l k i) j)) k:=h.swap hkl hl;obtain⟨F,hF⟩:∃F:Mx,F=fun i j=>W (sw l k i) j:=⟨_,rfl⟩
 rw[<-hF]at g1 ⊢;have hpF:F k k≠0:=by rw[hF];show W (sw l k k) k≠0;rw[sw_self];exact hp
 refine(gj2_clear g1 Zo n Zr).next (fun i hi hik=>?_) (by rw[clr2_piv];exact hpF);unfold clr2 clearL;rw[if_neg hik,if_pos hi,mu_assoc,mu_comm (iv (F k k)) (F k k),mu_iv hpF,mu_one,x_self]
def wrow(n:Nat)(A:List UInt8)(k i:Nat):List UInt8:=if i<k then upto (wideF n A i) (n+n)else upto (fun j=>en n A i j) n
theorem wrow_step{n:Nat}{A:List UInt8}{k i:Nat}(h:i≠k):wrow n A (k+1) i=wrow n A k i:=by
 unfold wrow
 by_cases h2:i<k
 ·rw[if_pos h2,if_pos Zo]
 ·rw[if_neg h2,if_neg Zo]
theorem wrow_new(n:Nat)(A:List UInt8)(k:Nat):wrow n A (k+1) k=upto (fun j=>en n A k j) n++upto (fun j=>one k j) n:=by
 unfold wrow;rw[if_pos Zo,upto_add];congr 1
 ·exact upto_congr fun j hj=>if_pos hj
 ·refine upto_congr fun j hj=>?_
  show(if n+j<n then en n A k (n+j)else one k (n+j-n))=one k j
  rw[if_neg Zo,Nat.add_sub_cancel_left]
theorem wrow_old(n:Nat)(A:List UInt8)(k:Nat):wrow n A k k=upto (fun j=>en n A k j) n:=by unfold wrow;rw[if_neg Zo]
theorem wrow_zero(n:Nat)(A:List UInt8):wrow n A 0=fun i=>upto (fun j=>en n A i j) n:=by funext i;unfold wrow;rw[if_neg (Nat.not_lt_zero _)]
theorem RowsO.grid{w:World}{base u bt G n C:Nat}{vals:List Value}{A:List UInt8}(h:RowsO w base u (.slice (some ⟨G,0,none⟩) n C) vals (wrow n A n))(hv:w.ownsRow base bt 1 (.slice (some ⟨G,0,none⟩) n C) n vals):Grid w base bt G n C (n+n) (wideF n A):=by
 have hlen:vals.length=n:=by have:=hv.1;omega
 refine⟨vals,hv,fun i hi=>?_⟩;have hx:vals[i]? =some (vals[i]'Zo):=List.getElem?_eq_getElem Zo
 refine⟨_,hx,?_,fun a m c e=>?_⟩
 ·have:=Rd.owned (h.own i _ hx);unfold wrow at this;rw[if_pos hi]at this;exact this
 ·right
  rcases h.out i _ hx with h1|h1
  ·rw[e]at h1;cases h1
  ·rw[e]at h1;intro e2;exact h1 (by show some a.block=some G;rw[e2])
theorem Free.new1'(w:World)(o:Obj)(cs:Array Value)(t:TypeId):Free ((w.alloc o).alloc (.cells cs t)) (w.heap.size+1):=by
 have h:=Free.new (w.alloc o) cs t;rwa[World.size_alloc]at h
theorem oneK_step(k t:Nat):one k t=if t=k then 1 else 0:=by
 unfold one
 by_cases e:k=t
 ·rw[if_pos e,if_pos e.symm]
 ·rw[if_neg e,if_neg (fun h=>e h.symm)]
theorem unit_facts{wr w5:World}{u n k G:Nat}{x:Value}(hown:w5.ownsRow wr.heap.size u 1 (.slice (some ⟨wr.heap.size,0,none⟩) n n) n (madeCells (Value.cells (.int .u8 0)) (n*1)).toList)(hgrow:wr.grownBy w5 none)(hk:k<n)(hG:G<wr.heap.size)(c1:wr.cell? ⟨G,k,none⟩=some x):
  w5.cell? ⟨wr.heap.size,k,none⟩=some (.int .u8 0)/\w5.frozen? ⟨wr.heap.size,k,none⟩=false/\w5.cell? ⟨G,k,none⟩=some x/\Hid (Rd (w5.setCell ⟨wr.heap.size,k,none⟩ (.int .u8 1)) (.slice (some ⟨wr.heap.size,0,none⟩) n n) (upto (fun j=>one k j) n))/\Hid (Below wr.heap.size wr (w5.setCell ⟨wr.heap.size,k,none⟩ (.int .u8 1))):=by
 have R5:=RowF.made hown;have B5:Below wr.heap.size wr w5:=Zf.grown hgrow Zr (fun q h=>by cases h);refine⟨R5.cell hk,R5.unfrozen k,(B5.cell (p:=⟨G,k,none⟩) hG).trans c1,?_,B5.setCell Zr _⟩;exact(R5.store (f':=fun j=>one k j) hk 1 (fun t=>oneK_step k t)).rd
theorem rinvm_main{va:Value}{n:Nat}{A:List UInt8}{w:World}(ha:RdM w va n n A)(k1:OkM n n A)(hn0:0<n):
  Calls Tryz.prog 236 #[va] w fun e w'=>(∃V,IsInv n (en n A) V/\MakesM w n n V e w')∨(IsSing n (en n A)/\MakesErr w 31 e w'):=by
 obtain⟨i0,hi,hz0,hz1,hz2⟩:=info_parts info_u8;obtain⟨vs,rfl,h1⟩:=ha;have hn:n<=256:=by have:=k1.2.1;omega
 go_enter Tryz.func236,Tryz.ntmps236
 go_wp2_with fail
 refine(rcheck_ok ⟨vs,rfl,h1.below (by repeat (first|exact Zf|apply below_lit))⟩ k1).mono ?_
 rintro e w2 ⟨rfl,b2⟩;have X1:Box w2 w.heap.size n n vs:=Below.box b2 Zn ((Box.new w n n vs _).alloc Zs _);have X3:Box w2 (w.heap.size+1) 0 0 (.slice none 0 0):=Below.box b2 Zn (Box.new1 w _ 0 0 (.slice none 0 0) 148);have F3:Free w2 (w.heap.size+1):=Below.free b2 Zn (Free.new1' w _ _ 148);have B2:Below w.heap.size w w2:=Below.next (by repeat (first|exact Zf|apply below_lit)) b2;have s2:w.heap.size+1<w2.heap.size:=by have:=b2.size;simp at this;omega
 clear b2;have x10:=X1.c0;have x11:=X1.c1;have x12:=X1.c2
 go_wp2_with fail
 refine(rwide_any (h1.below B2) k1).mono ?_
 rintro e w3 ⟨v,vals,rfl,hvl,hown,hrows,b3⟩;obtain⟨G,C,rfl,hG⟩:∃G C,v= .slice (some ⟨G,0,none⟩) n C/\w2.heap.size<=G:=by
  rcases hown.2 with⟨_,e⟩|⟨g,cap,cur,e,e2,_⟩
  ·omega
  ·exact⟨g,cap,e,e2⟩
 rw[<-wrow_zero]at hrows;clear x10 x11 x12 h1 X1;obtain⟨base,hbase⟩:∃base,Hid (base=w2.heap.size):=⟨_,rfl⟩;have s2':=s2;rw[<-hbase.out]at hown hrows b3 s2;have hbw:base<=w3.heap.size:=by rw[hbase.out];exact b3.size
 go_wp2
 go_loopw [6] (fun i wr=>∃(k:Nat) (vals:List Value),k<=n/\i= .int .i64 k/\vals.length=n/\wr.ownsRow base 36 1 (.slice (some ⟨G,0,none⟩) n C) n vals/\RowsO wr base 5 (.slice (some ⟨G,0,none⟩) n C) vals (wrow n A k)/\Below base w2 wr) (fun i _=>n-(intOf i).toNat)
 case atStart=>exact⟨0,vals,Zo,rfl,hvl,hown,hrows,b3⟩
 case round=>
  clear hown hrows hvl b3;obtain⟨k,vals,hk,rfl,hvl,hown,hrows,hB⟩:=hrel;have hsb:=hB.size
  by_cases hlt:k<n
  ·have hlt':(k:Int)<(n:Int):=by omega
   obtain⟨x,hx⟩:∃x,vals[k]? =some x:=⟨_,List.getElem?_eq_getElem Zo⟩
   have hxo:=hrows.own k x hx;have hx2:OwnP wr base 5 x (upto (fun j=>en n A k j) n):=by rw[<-wrow_old];exact hxo
   have HX2:Hid (OwnP wr base 5 x (upto (fun j=>en n A k j) n)):=hx2;clear hxo hx2;have c1:=World.ownsRow.cellAt hown k Zo;rw[hx]at c1;have f1:=World.ownsRow.frozenAt hown k;have hGw:=Zv hown G rfl;have hl2:wr.heap.size≠G:=Zo
   have hl3:G<wr.heap.size:=hGw.2;have HL:Hid ((upto (fun j=>one k j) n).length=n):=upto_length _ _
   go_wp2_with (first
    |(at_make;refine wpList_make_full _ rfl (.tmp 37) (.tmp 37) 36 rfl wr.heap.size 5 i0 (.int .u8 0) 1 Tryz.underlying36 hi hz0 hz1 _ _ _ _ n rfl rfl Zo Zo (by rw[hz2];omega) Zl Zr ?_;intro w5 hown5 hgrow5;obtain⟨c5,f5,c6,R6,B6⟩:=unit_facts hown5 hgrow5 hlt hl3 c1;clear hown5 hgrow5)
    |(at_builtin;(refine wpList_append_rd2 _ rfl (.tmp 47) (.tmp 48) 36 rfl base 5 i0 Tryz.underlying36 hi hz0 hz1 hz2 x n ((upto (fun j=>en n A k j) n).map vb) rfl (by have h:=owns_later HX2.out B6.out;rwa[upto_length]at h) _ (upto (fun j=>one k j) n) rfl R6.out (by rw[HL.out];omega) (by have:=B6.out.size;omega) ?_);intro x' w7 hx7 hg7 hb7;rw[HL.out]at hx7;obtain⟨ax,cx,ex⟩:=owns_form hx7;subst ex;obtain⟨c7,f7⟩:=hrows.outer hown hx hlt B6.out hg7))
   have HP:Hid _:=RowsO.put (row':=wrow n A (k+1)) hrows hown hx B6.out hg7 (by rw[wrow_new];unfold OwnP;rw[List.length_append,upto_length,upto_length,List.map_append];exact hx7) hb7 (fun i hi=>wrow_step hi);have HB:Hid (Below base w2 (w7.setCell ⟨G,k,none⟩ (.slice ax (n+n) cx))):=by
    have hxb:∀q,x.ownBlock=some q->base<=q:=fun q hq=>(OwnP.lt HX2.out hq).1
    exact((hB.trans (B6.out.mono (by rw[hbase.out];exact hsb))).grown hg7 (by have:=B6.out.size;rw[hbase.out];omega) hxb).setCell (by show base<=G;rw[hbase.out];exact hG) _
   clear hrows hown c1 f1 c5 f5 c6 R6 B6 hx7 hg7 hb7 c7 f7 hB HX2;go_roundw
   case rel=>exact⟨k+1,vals.set k (.slice ax (n+n) cx),Zo,Zg,by simp[hvl],HP.out.1,HP.out.2,HB.out⟩
   case measure=>simp[intOf];omega
  ·have e:k=n:=by omega
   rw[e]at hrows;have HG:=hrows.grid hown;clear hrows hown hvl e;obtain⟨M,hM⟩:∃M,Hid (M=n+n):=⟨_,rfl⟩;have hM0:n<=M:=by have:=hM.out;omega
   have hM5:M<=512:=by have:=hM.out;omega
   rw[<-hM.out]at HG;have hge:¬(k:Int)<(n:Int):=Zo
   go_wp2;clear hk hge hlt
   go_loopw [8] (fun i w5=>∃(k:Nat) (W:Mx),k<=n/\i= .int .i64 k/\Grid w5 base 36 G n C M W/\Hid (GJ n (en n A) W (rt n W) k)/\Below base w2 w5) (fun i _=>n-(intOf i).toNat)
   case atStart=>exact⟨0,wideF n A,Zo,rfl,HG,gj_wide n A,hB⟩
   case round=>
    clear HG hB hsb;obtain⟨k,W,hk,rfl,HG,hgj,hB⟩:=hrel
    by_cases hlt:k<n
    ·have hlt':(k:Int)<(n:Int):=by omega
     obtain⟨wo,rfl⟩:∃wo,wo=wr:=⟨_,rfl⟩;have hkM:k<M:=Zo
     have hkM':(k:Int)<(M:Int):=Zo
     go_wp2
     go_loop [9] (fun i=>∃l:Nat,k<=l/\l<=n/\i= .int .i64 l/\Hid (∀i,k<=i->i<l->W i k=0)) (fun i=>n-(intOf i).toNat)
     case atStart=>exact⟨k,Zr,Zo,rfl,(fun i h1 h2=>by omega:∀i,k<=i->i<k->W i k=0)⟩
     case round=>
      obtain⟨l,hkl,hl,rfl,hz⟩:=hrel
      by_cases hl2:l<n
      ·have hl2':(l:Int)<(n:Int):=by omega
       have d1:decide ((l:Int)<(n:Int))=true:=Zy hl2';obtain⟨bl,ol,cl,g1,g2,g3,g4,g5⟩:=HG.at hl2 Zo;have g6:=g5 k hkM
       by_cases hz0:W l k=0
       ·have d0:(((W l k).toNat:Int)==0)=true:=by rw[hz0];rfl
        have HZ:Hid (∀i,k<=i->i<l+1->W i k=0):=fun i h1 h2=>by
         by_cases e:i=l
         ·subst e;exact hz0
         ·exact hz.out i h1 Zo
        clear hz hz0 g5 g3;go_wp2
        go_round
        case rel=>exact⟨l+1,Zo,Zo,Zg,HZ⟩
        case measure=>simp[intOf];omega
       ·have d0:(((W l k).toNat:Int)==0)=false:=by rw[eq_u8_zero];exact Zx hz0
        have d2:((l:Int)==(n:Int))=false:=by rw[Zq];omega
        obtain⟨bk,ok,ck,q1,q2,q3,q4,_⟩:=HG.at hlt Zo;have O1:Only G wo (wo.setCell ⟨G,l,none⟩ (.slice (some ⟨bk,ok,none⟩) M ck)):=(Only.refl _ _).setCell _ _;have G1:=HG.set (W':=fun i j=>if i=l then W k j else W i j) hl2 (by rw[show(fun j=>if l=l then W k j else W l j)=W k from funext fun j=>if_pos rfl];exact q3) (apart_block q4) (fun i j _ hi _=>(if_neg hi).symm);have G2:=G1.set (W':=fun i j=>W (sw l k i) j) hlt (x:=.slice (some ⟨bl,ol,none⟩) M cl) (by rw[show(fun j=>W (sw l k k) j)=W l from by rw[sw_self]];exact g3.only (apart_block g4) O1) (apart_block g4) (fun i j _ hi _=>by
         show(if i=l then W k j else W i j)=W (sw l k i) j
         unfold sw
         by_cases e:i=l
         ·rw[if_pos e,if_pos e]
         ·rw[if_neg e,if_neg e,if_neg hi])
        obtain⟨xx,cxx⟩:=cell?_setCell_some (w:=wo) (p:=⟨G,l,none⟩) (x:=.slice (some ⟨bk,ok,none⟩) M ck) (q:=⟨G,k,none⟩) (v:=.slice (some ⟨bk,ok,none⟩) M ck) q1;have H2:Hid (Grid ((wo.setCell ⟨G,l,none⟩ (.slice (some ⟨bk,ok,none⟩) M ck)).setCell ⟨G,k,none⟩ (.slice (some ⟨bl,ol,none⟩) M cl)) base 36 G n C M (fun i j=>W (sw l k i) j)):=G2;have HB2:Hid (Below base w2 ((wo.setCell ⟨G,l,none⟩ (.slice (some ⟨bk,ok,none⟩) M ck)).setCell ⟨G,k,none⟩ (.slice (some ⟨bl,ol,none⟩) M cl))):=(hB.setCell (by show base<=G;rw[hbase.out];exact hG) _).setCell (by show base<=G;rw[hbase.out];exact hG) _;have HJ:Hid _:=gj2_round hgj.out hkl hl2 hz0;clear G1 G2 O1 hgj hz hz0 g5 g3 q3 HG hB;go_wp2;obtain⟨F,hF⟩:∃F:Mx,Hid (F=fun i j=>W (sw l k i) j):=⟨_,rfl⟩;have H3:=H2.out;have HB3:=HB2.out;rw[<-hF.out]at H3 HJ;clear H2 HB2 g1 g2 g4 g6 q1 q2 q4 cxx;generalize (wo.setCell ⟨G,l,none⟩ (.slice (some ⟨bk,ok,none⟩) M ck)).setCell ⟨G,k,none⟩ (.slice (some ⟨bl,ol,none⟩) M cl)=w5 at*
        go_loopw [11] (fun i w6=>∃j:Nat,j<=n/\i= .int .i64 j/\Grid w6 base 36 G n C M (clr2 F k j)/\Below base w2 w6) (fun i _=>n-(intOf i).toNat)
        case atStart=>exact⟨0,Zo,rfl,by rw[clr2_zero];exact H3,HB3⟩
        case round=>
         clear H3 HB3;obtain⟨j,hj,rfl,H4,HB4⟩:=hrel
         by_cases hj2:j<n
         ·have hj2':(j:Int)<(n:Int):=by omega
          by_cases hjk:j=k
          ·subst hjk;have HN:Hid _:=H4;rw[<-clr2_skip]at HN;clear H4;go_wp2;go_roundw
           case rel=>exact⟨j+1,Zo,Zg,HN.out,HB4⟩
           case measure=>simp[intOf];omega
          ·have hne:((j:Int)!=(k:Int))=true:=by simp;omega
           obtain⟨bj,oj,cj,r1,r2,r3,r4,_⟩:=H4.at hj2 Zo;obtain⟨bp,op,cp,p1,p2,p3,p4,_⟩:=H4.at hlt Zo;rw[clr2_row hjk]at r3;rw[clr2_piv]at p3;have H4':Hid (Grid wr base 36 G n C M (clr2 F k j)):=H4;have HGl:=H4.lt;clear H4;have hcl:∀w8,Below wr.heap.size wr w8->Calls Tryz.prog 247 #[.slice (some ⟨bj,oj,none⟩) M cj,.slice (some ⟨bp,op,none⟩) M cp,.int .i64 (k:Int)] w8 fun e w'=>∃a c,e= .returned (.slice a M c)/\Rd w' (.slice a M c) (upto (clearL (F j) (F k) k) M)/\Apart G (.slice a M c)/\w'.cell? ⟨G,j,none⟩=some (.slice (some ⟨bj,oj,none⟩) M cj)/\w'.frozen? ⟨G,j,none⟩=false/\Below wr.heap.size wr w':=by
            intro w8 hb8;refine(rcleared_any rfl (r3.below hb8) (p3.below hb8) (by rw[upto_length,upto_length]) (by rw[upto_length];omega) (by rw[upto_length];exact hkM)).mono ?_
            rintro e w' ⟨v,rfl,hv,hb⟩;rw[upto_length]at hv;obtain⟨a,c,ev⟩:=owns_form hv;rw[upto_length]at ev;subst ev;have hb':=Below.next hb8 hb;have e1:upto (clearL (co (upto (F j) M)) (co (upto (F k) M)) k) M=upto (clearL (F j) (F k) k) M:=upto_congr fun t ht=>by
             unfold clearL;rw[co_upto_lt ht,co_upto_lt ht,co_upto_lt hkM,co_upto_lt hkM]
            refine⟨a,c,rfl,by rw[<-e1];exact Rd.owned hv,fun y m' c' ey=>?_,(hb'.cell (p:=⟨G,j,none⟩) HGl.2).trans r1,(hb'.frozen (p:=⟨G,j,none⟩) HGl.2).trans r2,hb'⟩;right;intro eG;have:=(OwnP.lt hv (k:=G) (by rw[ey];show some y.block=some G;rw[eG])).1;have:=hb8.size;omega
           clear r3 p3;go_wp2
           go_region_with ((go_at_call 247;refine(hcl _ (by first|assumption|exact Zf.drew)).mono ?_;rintro e v5 ⟨an,cn,rfl,hrn,han,cn1,fn1,bn⟩))
           all_goals
            have HN:Hid (Grid (v5.setCell ⟨G,j,none⟩ (.slice an M cn)) base 36 G n C M (clr2 F k (j+1))):=(H4'.out.later bn).set hj2 (by rw[show clr2 F k (j+1) j=clearL (F j) (F k) k from funext fun t=>clr2_new hjk t];exact hrn) han (fun i t _ hi _=>clr2_other hi t);have HBN:Hid (Below base w2 (v5.setCell ⟨G,j,none⟩ (.slice an M cn))):=(HB4.trans (bn.mono (by have:=HGl.1;omega))).setCell (by show base<=G;exact HGl.1) _;clear hcl hrn han cn1 fn1 bn H4' HB4;go_wp2;go_roundw
            case rel=>exact⟨j+1,Zo,Zg,HN.out,HBN.out⟩
            case measure=>simp[intOf];omega
         ·have e:j=n:=by omega
          rw[e]at H4;have hge:¬(j:Int)<(n:Int):=Zo
          clear e;go_wp2;go_roundw
          case rel=>exact⟨k+1,_,Zo,Zg,H4,HJ,HB4⟩
          case measure=>simp[intOf];omega
      ·have hge:¬(l:Int)<(n:Int):=by omega
       have d1:decide ((l:Int)<(n:Int))=false:=Zx hge;have e:l=n:=Zo
       have d2:((l:Int)==(n:Int))=true:=by rw[beq_iff_eq];omega
       have HS:Hid (IsSing n (en n A)):=hgj.out.sing hlt (fun i h1 h2=>hz.out i h1 Zo);have hBB:Below w2.heap.size w2 wo:=by rw[<-hbase.out];exact hB
       have X4:=X3.below Zo hBB;have F4:=F3.below Zo hBB;have x30:=X4.c0;have x31:=X4.c1;have x32:=X4.c2;have f30:=F4.f0;have f31:=F4.f1;have f32:=F4.f2;clear e hz hgj HG;go_wp2;exact bodyPost_ret (v:=.tuple #[.agg #[.int .i64 0,.int .i64 0,.slice none 0 0],.int .i64 31]) (by simp[results,Tryz.results236,go_sem,x30,x31,x32,f30,f31,f32]) rfl (Or.inr ⟨HS.out,_,rfl,rd_none,(B2.trans (hBB.mono Zo)).trans ((((Only.refl _ _).setCell 0 _).setCell 1 _).setCell 2 _|>.below Zo)⟩)
    ·have e:k=n:=by omega
     have hinv:GJ n (en n A) W (rt n W) n:=by have h:=hgj.out;rw[e]at h;exact h
     have HI:Hid (IsInv n (en n A) (fun i j=>mu (iv (W i i)) (rt n W i j))):=hinv.finish;obtain⟨V,hV⟩:∃V:Mx,Hid (V=fun i j=>mu (iv (W i i)) (rt n W i j)):=⟨_,rfl⟩;rw[<-hV.out]at HI;have hge:¬(k:Int)<(n:Int):=Zo
     have hBB:Below w2.heap.size w2 wr:=by rw[<-hbase.out];exact hB
     have X4:=X3.below Zo hBB;have F4:=F3.below Zo hBB;have B4:=B2.trans (hBB.mono Zo);have HGl:=HG.lt;have hsz4:=hBB.size;have hM0':0<M:=Zo
     clear hgj hinv e hB hBB hk hlt;obtain⟨w4,rfl⟩:∃w4,w4=wr:=⟨_,rfl⟩;have hAl:Below w4.heap.size w4 (w4.alloc (.cells #[.int .i64 (n:Int),.int .i64 (n:Int),.slice none 0 0] 148)):=Zf.alloc Zr _;have YM:=Box.new w4 (n:Int) (n:Int) (.slice none 0 0) 148;have GM:=Free.new w4 #[.int .i64 (n:Int),.int .i64 (n:Int),.slice none 0 0] 148;have hmsz:w4.heap.size<(w4.alloc (.cells #[.int .i64 (n:Int),.int .i64 (n:Int),.slice none 0 0] 148)).heap.size:=Zs
     go_wp2;clear hge;generalize w4.alloc (.cells #[.int .i64 (n:Int),.int .i64 (n:Int),.slice none 0 0] 148)=w5 at*
     go_loopw [13] (fun i w6=>∃(k:Nat) (v:Value),k<=n/\i= .int .i64 k/\Box w6 w4.heap.size (n:Int) (n:Int) v/\Free w6 w4.heap.size/\w6.ownsRow (w4.heap.size+1) 5 1 v (k*n) ((upto (pl n V) (k*n)).map vb)/\w4.heap.size<w6.heap.size/\Below w4.heap.size w4 w6) (fun i _=>n-(intOf i).toNat)
     case atStart=>exact⟨0,.slice none 0 0,Zo,rfl,YM,GM,by rw[Nat.zero_mul];exact World.ownsRow_nil _ _ _ _,hmsz,hAl⟩
     case round=>
      clear YM GM hmsz hAl;obtain⟨k,v,hk,rfl,YM,GM,hown,hms,hB⟩:=hrel
      by_cases hlt:k<n
      ·have hlt':(k:Int)<(n:Int):=by omega
       go_wp2
       go_loopw [14] (fun i w6=>∃(l:Nat) (v:Value),l<=n/\i= .int .i64 l/\Box w6 w4.heap.size (n:Int) (n:Int) v/\Free w6 w4.heap.size/\w6.ownsRow (w4.heap.size+1) 5 1 v (k*n+l) ((upto (pl n V) (k*n+l)).map vb)/\w4.heap.size<w6.heap.size/\Below w4.heap.size w4 w6) (fun i _=>n-(intOf i).toNat)
       case atStart=>exact⟨0,v,Zo,rfl,YM,GM,hown,hms,hB⟩
       case round=>
        clear YM GM hown hms hB;obtain⟨l,v,hl,rfl,YM,GM,hown,hms,hB⟩:=hrel
        by_cases hl2:l<n
        ·have hl2':(l:Int)<(n:Int):=by omega
         have HG6:=HG.later hB;obtain⟨bk,ok,ck,q1,q2,q3,q4,q5⟩:=HG6.at hlt hM0';obtain⟨t,ht⟩:∃t,Hid (t=n+l):=⟨_,rfl⟩;have g0:(n:Int)+(l:Int)=(t:Int):=by have:=ht.out;omega
         have gw:IntKind.i64.wrap (t:Int)=(t:Int):=by rw[IntKind.wrap_i64];have:=ht.out;omega
         have htM:t<M:=by have:=ht.out;have:=hM.out;omega
         have htM':(t:Int)<(M:Int):=Zo
         have hkM:k<M:=Zo
         have hkM':(k:Int)<(M:Int):=Zo
         have c1:=q5 t htM;have c2:=q5 k hkM;have m2:=YM.c2;have n2:=GM.f2;obtain⟨y,hy⟩:∃y,Hid (y=mu (W k t) (iv (W k k))):=⟨_,rfl⟩;have HY:Hid (y=pl n V (k*n+l)):=by
          show _=_
          rw[pl_at _ hl2,hV.out,hy.out,mu_comm,ht.out];rfl
         clear q5 q3 HG6 q4;go_wp2
         go_quiet ((go_at_call 248;go_loud (exact Calls.quiet_of_same (rdiv3_at (W k t) (W k k) rfl rfl))))
         rw[<-hy.out];obtain⟨w7,hw7⟩:∃w7,w7=wr.drewN nq:=⟨_,rfl⟩;have YM7:Box w7 w4.heap.size (n:Int) (n:Int) v:=by rw[hw7];exact YM.drewN nq
         have GM7:Free w7 w4.heap.size:=by rw[hw7];exact GM.drewN nq
         have hown7:w7.ownsRow (w4.heap.size+1) 5 1 v (k*n+l) ((upto (pl n V) (k*n+l)).map vb):=by rw[hw7];exact hown
         have hms7:w4.heap.size<w7.heap.size:=by rw[hw7];exact hms
         have hB7:Below w4.heap.size w4 w7:=by rw[hw7];exact hB.drewN nq
         rw[<-hw7];clear hw7 YM GM hown hms hB m2 n2 c1 c2 q1 q2;have m2:=YM7.c2;have n2:=GM7.f2;obtain⟨av,cv,ev⟩:=owns_form hown7;subst ev;obtain⟨T,hT⟩:∃T,Hid (T=k*n+l):=⟨_,rfl⟩;have hT2:T<=70000:=by have:=hT.out;have:=Nat.mul_le_mul (show k<=256 by omega) hn;omega
         rw[<-hT.out]at hown7 m2 YM7 HY;have hvn:∀q,(Value.slice av T cv).ownBlock=some q->w4.heap.size+1<=q:=fun q hq=>(Zv hown7 q hq).1
         have hvne:some w4.heap.size≠(Value.slice av T cv).ownBlock:=fun e=>by have:=hvn _ e.symm;omega
         go_wp2_with (at_builtin;refine wpList_append_rd2 _ rfl (.tmp 146) (.tmp 148) 36 rfl (w4.heap.size+1) 5 i0 Tryz.underlying36 hi hz0 hz1 hz2 (.slice av T cv) T _ rfl (World.ownsRow.alloc hown7 _) _ [y] rfl (rd_lit [y] rfl rfl Zd) Zm Zm ?_;intro x' w8 hx8 hg8 hb8;rw[show T+[y].length=T+1 from rfl]at hx8;obtain⟨ax,cx,ex⟩:=owns_form hx8;subst ex;have YM8:=(YM7.alloc hms7 _).grown hg8 Zm hvne;have GM8:=(GM7.alloc hms7 _).grown hg8 Zm hvne;have m8:=YM8.c2;have n8:=GM8.f2)
         have HO:Hid (World.ownsRow (w8.setCell ⟨w4.heap.size,2,none⟩ (.slice ax (T+1) cx)) (w4.heap.size+1) 5 1 (.slice ax (T+1) cx) (T+1) ((upto (pl n V) (T+1)).map vb)):=by
          have h1:w8.grownBy (w8.setCell ⟨w4.heap.size,2,none⟩ (.slice ax (T+1) cx)) (some w4.heap.size):=by
           have O:=(Only.refl w4.heap.size w8).setCell 2 (.slice ax (T+1) cx);exact⟨O.os,O.tape,O.output,by rw[O.size];exact Zr,fun q _ hq=>O.block q (fun e=>hq (by rw[e]))⟩
          refine World.ownsRow.kept (by rw[upto_vb_succ,<-HY.out];exact hx8) h1 ?_
          rcases hq:(Value.slice ax (T+1) cx).ownBlock with _|q
          ·exact Or.inl rfl
          ·right;intro e;cases e;have:=(Zv hx8 _ hq).1;omega
         have HB8:Hid (Below w4.heap.size w4 (w8.setCell ⟨w4.heap.size,2,none⟩ (.slice ax (T+1) cx))):=((hB7.alloc Zo _).grown hg8 Zm (fun q hq=>by have:=hvn q hq;omega)).setCell Zr _;have HY8:Hid (Box (w8.setCell ⟨w4.heap.size,2,none⟩ (.slice ax (T+1) cx)) w4.heap.size (n:Int) (n:Int) (.slice ax (T+1) cx)):=YM8.set2 _;have HF8:Hid (Free (w8.setCell ⟨w4.heap.size,2,none⟩ (.slice ax (T+1) cx)) w4.heap.size):=GM8.setCell _ _;have HS8:Hid (w4.heap.size<(w8.setCell ⟨w4.heap.size,2,none⟩ (.slice ax (T+1) cx)).heap.size):=by have:=hg8.size;show _<_;simp at this ⊢;omega
         have HT:Hid (T+1=k*n+(l+1)):=by show _=_;rw[hT.out];rfl
         clear hx8 hg8 hb8 YM8 GM8 m8 n8 m2 n2 hown7 YM7 GM7 hB7 hvn hvne hms7;go_roundw
         case rel=>exact⟨l+1,.slice ax (T+1) cx,Zo,Zg,HY8.out,HF8.out,by rw[<-HT.out];exact HO.out,HS8.out,HB8.out⟩
         case measure=>simp[intOf];omega
        ·have e:l=n:=by omega
         have hge:¬(l:Int)<(n:Int):=Zo
         have HO:Hid (wr.ownsRow (w4.heap.size+1) 5 1 v ((k+1)*n) ((upto (pl n V) ((k+1)*n)).map vb)):=by
          show World.ownsRow _ _ _ _ _ _ _
          rw[Nat.add_mul,Nat.one_mul,<-e];subst e;exact hown
         clear hown e;go_wp2;go_roundw
         case rel=>exact⟨k+1,v,Zo,Zg,YM,GM,HO.out,hms,hB⟩
         case measure=>simp[intOf];omega
      ·have e:k=n:=by omega
       have hge:¬(k:Int)<(n:Int):=Zo
       have hRd:Rd wr v (flat n n V):=by
        rw[<-pl_flat];refine Rd.owned (base:=w4.heap.size+1) (e:=5) ?_
        rw[upto_length,<-e];subst e;exact hown
       have hvb:∀q,v.ownBlock=some q->w4.heap.size+1<=q:=fun q hq=>(Zv hown q hq).1
       obtain⟨av,cv,ev⟩:=owns_form hown;clear hown e;subst ev;have X5:=X4.below Zo hB;have F5:=F4.below Zo hB;have x30:=X5.c0;have x31:=X5.c1;have x32:=X5.c2;have f30:=F5.f0;have f31:=F5.f1;have f32:=F5.f2;have y0:=YM.c0;have y1:=YM.c1;have y2:=YM.c2;go_wp2;have O1:Only (w.heap.size+1) wr (((wr.setCell ⟨w.heap.size+1,0,none⟩ (.int .i64 (n:Int))).setCell ⟨w.heap.size+1,1,none⟩ (.int .i64 (n:Int))).setCell ⟨w.heap.size+1,2,none⟩ (.slice av (k*n) cv)):=
        (((Only.refl _ _).setCell 0 _).setCell 1 _).setCell 2 _
       have hap:Apart (w.heap.size+1) (.slice av (k*n) cv):=fun x m' c' ex=>by
        right;intro eb;simp at ex;obtain⟨rfl,_⟩:=ex;have:=hvb x.block rfl;omega
       exact bodyPost_ret (v:=.tuple #[.agg #[.int .i64 (n:Int),.int .i64 (n:Int),.slice av (k*n) cv],.int .i64 0]) (by simp[results,Tryz.results236,go_sem,x30,x31,x32,f30,f31,f32]) rfl (Or.inl ⟨V,HI.out,_,rfl,hRd.only hap O1,(B4.trans (hB.mono Zo)).trans (O1.below Zo)⟩)
theorem rinvm_zero{va:Value}{A:List UInt8}{w:World}(ha:RdM w va 0 0 A)(k1:OkM 0 0 A):
  Calls Tryz.prog 236 #[va] w fun e w'=>∃vs,e= .returned (.tuple #[.agg #[.int .i64 0,.int .i64 0,vs],.int .i64 0])/\Rd w' vs []/\Below w.heap.size w w':=by
 obtain⟨vs,rfl,h1⟩:=ha
 go_enter Tryz.func236,Tryz.ntmps236
 go_wp2_with fail
 refine(rcheck_ok ⟨vs,rfl,h1.below (by repeat (first|exact Zf|apply below_lit))⟩ k1).mono ?_
 rintro e w2 ⟨rfl,b2⟩;have X1:Box w2 w.heap.size 0 0 vs:=Below.box b2 Zn ((Box.new w 0 0 vs _).alloc Zs _);have X3:Box w2 (w.heap.size+1) 0 0 (.slice none 0 0):=Below.box b2 Zn (Box.new1 w _ 0 0 (.slice none 0 0) 148);have F3:Free w2 (w.heap.size+1):=Below.free b2 Zn (Free.new1' w _ _ 148);have B2:Below w.heap.size w w2:=Below.next (by repeat (first|exact Zf|apply below_lit)) b2;have s2:w.heap.size+1<w2.heap.size:=by have:=b2.size;simp at this;omega
 clear b2;have x10:=X1.c0;have x11:=X1.c1;have x12:=X1.c2
 go_wp2_with fail
 refine(rwide_any (n:=0) (h1.below B2) k1).mono ?_
 rintro e w3 ⟨v,vals,rfl,hvl,hown,hrows,b3⟩;have X4:=X3.below Zo b3;have F4:=F3.below Zo b3;have B4:=Below.next B2 b3;have hs3:=b3.size;clear x10 x11 x12 h1 X1 hown hrows b3 X3 F3 hvl;go_wp2
 go_loopw [6] (fun i wr=>i= .int .i64 0/\wr=w3) (fun _ _=>0)
 case atStart=>exact⟨rfl,rfl⟩
 case round=>
  obtain⟨rfl,rfl⟩:=hrel;go_wp2
  go_loopw [8] (fun i w5=>i= .int .i64 0/\w5=wr) (fun _ _=>0)
  case atStart=>exact⟨rfl,rfl⟩
  case round=>
   obtain⟨rfl,rfl⟩:=hrel;have hA:Below wr.heap.size wr (wr.alloc (.cells #[.int .i64 0,.int .i64 0,.slice none 0 0] 148)):=Zf.alloc Zr _;have YM:=Box.new wr 0 0 (.slice none 0 0) 148;have X5:=X4.below Zo hA;have F5:=F4.below Zo hA;have B5:=Below.next B4 hA;go_wp2;generalize wr.alloc (.cells #[.int .i64 0,.int .i64 0,.slice none 0 0] 148)=w5 at*;obtain⟨w6,rfl⟩:∃w6,w6=wr:=⟨_,rfl⟩
   go_loopw [13] (fun i w7=>i= .int .i64 0/\w7=w5) (fun _ _=>0)
   case atStart=>exact⟨rfl,rfl⟩
   case round=>
    obtain⟨rfl,rfl⟩:=hrel;have x30:=X5.c0;have x31:=X5.c1;have x32:=X5.c2;have f30:=F5.f0;have f31:=F5.f1;have f32:=F5.f2;have y0:=YM.c0;have y1:=YM.c1;have y2:=YM.c2;go_wp2;refine bodyPost_ret (v:=.tuple #[.agg #[.int .i64 0,.int .i64 0,.slice none 0 0],.int .i64 0]) (by simp[results,Tryz.results236,go_sem,x30,x31,x32,f30,f31,f32]) rfl ⟨_,rfl,rd_none,B5.trans ((((Only.refl _ _).setCell 0 _).setCell 1 _).setCell 2 _|>.below Zo)⟩
theorem rinvm_ok{va:Value}{n:Nat}{A:List UInt8}{w:World}(ha:RdM w va n n A)(k1:OkM n n A):
  Calls Tryz.prog 236 #[va] w fun e w'=>(∃V,IsInv n (en n A) V/\MakesM w n n V e w')∨(IsSing n (en n A)/\MakesErr w 31 e w'):=by
 rcases Nat.eq_zero_or_pos n with e|h0
 ·subst e;refine(rinvm_zero ha k1).mono ?_
  rintro e w' ⟨vs,rfl,hr,hb⟩;refine Or.inl ⟨one,⟨fun i j hi=>Zo,fun i j hi=>Zo⟩,vs,rfl,?_,hb⟩;have e:flat 0 0 one=[]:=List.length_eq_zero_iff.1 (by rw[flat_length]);rw[e];exact hr
 ·exact rinvm_main ha k1 h0
end Go.Proofs.YtddnfhfangfgeaaGreat.Gf
