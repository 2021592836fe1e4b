/- TEXTS JOINED: PoSame, PoAppend, PoLaws, PoTop, PoShort1, PoCodeB, PoSumInto, PoCodeA, PoTimes. -/
import Derived.Test.YtddnfhfangfgeaaGreatPome2
import Derived.Laws.AppendOwnNone
import Derived.Deep.RegionWith
set_option maxHeartbeats 2000000
set_option maxRecDepth 100000
namespace Go.Proofs.YtddnfhfangfgeaaGreat.Gf
set_option linter.unusedVariables false
set_option linter.unusedSimpArgs false
open Go.RowKit
def sameB(p q:List UInt8):Bool:=decide (p=q)
theorem sameB_self(p:List UInt8):sameB p p=true:=decide_eq_true rfl
theorem sameB_of{p q:List UInt8}(h:p=q):sameB p q=true:=decide_eq_true h
theorem same_len(a b:Option Addr)(n m c d:Nat)(w:World)(h:n≠m):
  Calls Tryz.prog 25 #[.slice a n c,.slice b m d] w fun e w'=>e= .returned (.bool false)/\w'=w:=by
 have hb:((n:Int)!=(m:Int))=true:=by simp;omega
 go_enter Tryz.func25,Tryz.ntmps25
 go_wp2;go_ret;exact⟨rfl,rfl⟩
theorem same_nil(a b:Option Addr)(c d:Nat)(w:World):
  Calls Tryz.prog 25 #[.slice a 0 c,.slice b 0 d] w fun e w'=>e= .returned (.bool true)/\w'=w:=by
 go_enter Tryz.func25,Tryz.ntmps25
 go_wp2
 go_loop [5] (fun i=>i= .int .i64 0) (fun _=>0)
 case atStart=>rfl
 case round=>
  subst hrel;go_wp2;go_ret;exact⟨rfl,rfl⟩
theorem same_main(b off b' off' c d:Nat)(p q:List UInt8)(w:World)(hl:q.length=p.length)(hm:p.length<=9223372036854775807)
  (hp:∀i,i<p.length->w.cell? ⟨b,off+i,none⟩=some (.int .u8 ((co p i).toNat:Nat)))
  (hq:∀i,i<p.length->w.cell? ⟨b',off'+i,none⟩=some (.int .u8 ((co q i).toNat:Nat))):
  Calls Tryz.prog 25 #[.slice (some ⟨b,off,none⟩) p.length c,.slice (some ⟨b',off',none⟩) p.length d] w fun e w'=>e= .returned (.bool (sameB p q))/\∃n,w'=w.drewN n:=by
 have hb:((p.length:Int)!=(p.length:Int))=false:=by simp
 go_enter Tryz.func25,Tryz.ntmps25
 go_wp2;clear hb
 go_loopw [5] (fun i wr=>∃k:Nat,k<=p.length/\i= .int .i64 k/\Hid (∀j,j<k->co p j=co q j)/\∃n,wr=w.drewN n) (fun i _=>p.length-(intOf i).toNat)
 case atStart=>exact⟨0,by omega,rfl,fun j hj=>by omega,0,rfl⟩
 case round=>
  obtain⟨k,hk,rfl,hs,nd,rfl⟩:=hrel
  by_cases hlt:k<p.length
  ·have c1:=hp k hlt;have c2:=hq k hlt
   by_cases e:co p k=co q k
   ·have hn:((((co p k).toNat:Nat):Int)!=(((co q k).toNat:Nat):Int))=false:=by rw[ne_u8];simp[e]
    have HS:Hid (∀j,j<k+1->co p j=co q j):=fun j hj=>by
     by_cases e2:j=k
     ·rw[e2];exact e
     ·exact hs.out j (by omega)
    clear e hp hq hs;go_wp2
    go_quiet (fail)
    go_wp2;go_roundw
    case rel=>exact⟨k+1,by omega,by go_num,HS,_,rfl⟩
    case measure=>simp[intOf];omega
   ·have hn:((((co p k).toNat:Nat):Int)!=(((co q k).toNat:Nat):Int))=true:=by rw[ne_u8];simp[e]
    have E:Hid (sameB p q=false):=by
     refine decide_eq_false (fun h=>e ?_);rw[h]
    clear e hp hq hs;go_wp2
    go_quiet (fail)
    go_wp2;go_ret;exact⟨by rw[E.out];rfl,_,World.drewN_drewN _ _ _⟩
  ·have E:Hid (sameB p q=true):=sameB_of (co_ext hl.symm (fun i hi=>hs.out i (by omega)));clear hp hq hs;go_wp2;go_ret;exact⟨by rw[E.out];rfl,_,rfl⟩
theorem same_any{va vb:Value}{p q:List UInt8}{w:World}(hp:Rd w va p)(hq:Rd w vb q):
  Calls Tryz.prog 25 #[va,vb] w fun e w'=>e= .returned (.bool (sameB p q))/\∃n,w'=w.drewN n:=by
 have l1:=hp.len;have l2:=hq.len;unfold maxLen at l1 l2
 by_cases hl:p.length=q.length
 ·rcases hp with⟨a,c,rfl,rfl,_⟩|⟨b,off,c,hp0,rfl,_,_,_,hpc⟩
  ·have:q=[]:=List.length_eq_zero_iff.1 (by simpa using hl.symm)
   subst this
   rcases hq with⟨a',c',_,rfl,_⟩|⟨_,_,_,h,_⟩
   ·exact(same_nil a a' c c' w).mono fun e w' ⟨he,hw⟩=>⟨by rw[he,sameB_self],0,hw⟩
   ·exact absurd rfl h
  ·rcases hq with⟨a',c',rfl,rfl,_⟩|⟨b',off',c',hq0,rfl,_,_,_,hqc⟩
   ·exact absurd (List.length_eq_zero_iff.1 hl) hp0
   ·rw[<-hl];exact same_main b off b' off' c c' p q w hl.symm (by omega) hpc (fun i hi=>hqc i (by omega))
 ·have E:sameB p q=false:=decide_eq_false (fun h=>hl (by rw[h]));have key:∃a n c,va= .slice a n c/\n=p.length:=by
   rcases hp with⟨a,c,rfl,rfl,_⟩|⟨b,off,c,hp0,rfl,_⟩
   ·exact⟨_,_,_,rfl,rfl⟩
   ·exact⟨_,_,_,rfl,rfl⟩
  have key2:∃a n c,vb= .slice a n c/\n=q.length:=by
   rcases hq with⟨a,c,rfl,rfl,_⟩|⟨b,off,c,hp0,rfl,_⟩
   ·exact⟨_,_,_,rfl,rfl⟩
   ·exact⟨_,_,_,rfl,rfl⟩
  obtain⟨a,n,c,rfl,rfl⟩:=key;obtain⟨a',n',c',rfl,rfl⟩:=key2;exact(same_len a a' _ _ c c' w hl).mono fun e w' ⟨he,hw⟩=>⟨by rw[he,E],0,hw⟩
theorem wpList_append_rd{P:Program}(w:World){ops:Array Oper}{rest:List Oper}{o:Oper}{a:Act}{Q:Exit->Act->World->Prop}(hgd:o.guard=none)(s x:Operand)(t:TypeId)
  (ho:o.op= .call {callee:=.builtin .append,args:=#[s,x],argTypes:=#[t,t]})
  (base:Nat) (e:TypeId) (i:TypeInfo) (ht:P.underlying t=some (.slice e)) (hi:P.info? e=some i) (hz:i.zero=some (.int .u8 0)) (hsize:i.size=1) (hby:i.bytes=1)
  (v:Value) (n:Nat) (xs:List Value) (hs:a.eval s=v) (hown:w.ownsRow base e 1 v n xs) (va:Value) (p:List UInt8) (hx:a.eval x=va) (hr:Rd w va p) (hl:n+p.length<=1000000) (hbase:base<=w.heap.size)
  (h:∀v' w',w'.ownsRow base e 1 v' (n+p.length) (xs++p.map vb)->w.grownBy w' v.ownBlock->wpList P ops Q rest (a.put o.dst v') w'):wpList P ops Q (o::rest) a w:=by
 rcases hr with⟨ao,cap,rfl,rfl,hc,hn⟩|⟨b,off,cap,hp0,rfl,h1,h2,h3,hpc⟩
 ·rcases ao with _|ad
  ·have:=hn rfl;subst this;refine wpList_append_own_none hgd s x t ho base e i 1 ht hi v n xs hs hown hx ?_
   exact h v w (by simpa using hown) (World.grownBy.refl _ _)
  ·refine wpList_append_own w hgd s x t ho base e i (.int .u8 0) 1 1 ht hi hz hsize hby rfl (by decide) v n xs hs hown ad 0 cap [] hx rfl (by intro j u hj;simp at hj) (by intro u hu;simp at hu) (by unfold maxLen;omega) (by omega) hbase ?_
   intro v' w' ho' hg' _;exact h v' w' (by simpa using ho') hg'
 ·refine wpList_append_own w hgd s x t ho base e i (.int .u8 0) 1 1 ht hi hz hsize hby rfl (by decide) v n xs hs hown ⟨b,off,none⟩ p.length cap ((p.take p.length).map vb) hx (by simp) (news_of hpc) (vb_one _) (by unfold maxLen;omega) (by omega) hbase ?_
  intro v' w' ho' hg' _;exact h v' w' (by simpa using ho') hg'
end Go.Proofs.YtddnfhfangfgeaaGreat.Gf
namespace Go.Proofs.YtddnfhfangfgeaaGreat.Gf
set_option linter.unusedVariables false
set_option linter.unusedSimpArgs false
theorem norm_length(p:List UInt8):(norm p).length=deg (co p) p.length:=mk_length _ _
theorem norm_length_le(p:List UInt8):(norm p).length<=p.length:=by rw[norm_length];exact deg_le _ _
theorem norm_norm(p:List UInt8):norm (norm p)=norm p:=norm_mk (co_fin p)
theorem mulP_length_le(p q:List UInt8):(mulP p q).length<=p.length+q.length:=by rw[mulP,mk_length];exact deg_le _ _
theorem mulP_comm(p q:List UInt8):mulP p q=mulP q p:=mk_ext (fin_conv _ _) (fin_conv _ _) (conv_comm _ _)
theorem mulP_length(p q:List UInt8):(mulP p q).length=if (norm p).length=0∨(norm q).length=0 then 0 else (norm p).length+(norm q).length-1:=by
 rw[mulP,mk_length,norm_length,norm_length];exact deg_conv (co_fin p) (co_fin q) (fin_conv p q)
open Go.RowKit
theorem topg_step{f:Nat->UInt8}{k:Nat}(hk:0<k)(h:f (k-1)=0):deg f k=deg f (k-1):=by
 obtain⟨j,rfl⟩:∃j,k=j+1:=⟨k-1,by omega⟩;rw[Nat.add_sub_cancel]at h ⊢;rw[deg,if_pos h]
theorem topg_stop{f:Nat->UInt8}{k:Nat}(h:k=0∨f (k-1)≠0):deg f k=k:=by
 match k,h with
 |0,_=>rfl
 |j+1,h=>
  rw[Nat.add_sub_cancel]at h;rw[deg,if_neg (by simpa using h)]
def lenV:Value->Nat
 | .slice _ n _=>n
 |_=>0
theorem top_main(b off c:Nat)(p:List UInt8)(w:World)(hl:p.length<=140737488355328)(hm:p.length<=c)(hcm:c<=maxLen)
  (hp:∀i,i<p.length->w.cell? ⟨b,off+i,none⟩=some (.int .u8 ((co p i).toNat:Nat))):
  Calls Tryz.prog 202 #[.slice (some ⟨b,off,none⟩) p.length c] w fun e w'=>e= .returned (.slice (some ⟨b,off,none⟩) (norm p).length c)/\w'=w:=by
 unfold maxLen at hcm
 go_enter Tryz.func202,Tryz.ntmps202
 go_wp2
 go_loop [0] (fun v=>∃k:Nat,k<=p.length/\v= .slice (some ⟨b,off,none⟩) k c/\Hid (deg (co p) p.length=deg (co p) k)) (fun v=>lenV v)
 case atStart=>exact⟨p.length,Nat.le_refl _,rfl,rfl⟩
 case round=>
  obtain⟨k,hk,rfl,hd⟩:=hrel
  by_cases hgo:0<k/\co p (k-1)=0
  ·obtain⟨h0,hz⟩:=hgo;have c1:w.cell? ⟨b,off+(k-1),none⟩=some (.int .u8 0):=by rw[hp (k-1) (by omega),hz];rfl
   have HD:Hid (deg (co p) p.length=deg (co p) (k-1)):=by show _=_;rw[hd.out];exact topg_step h0 hz
   clear hz hd;go_wp2
   go_round
   case rel=>exact⟨k-1,by omega,by go_num,HD⟩
   case measure=>simp[lenV];omega
  ·have hstop:k=0∨co p (k-1)≠0:=by
    by_cases h0:k=0
    ·exact Or.inl h0
    ·exact Or.inr (fun h=>hgo ⟨by omega,h⟩)
   have HK:Hid ((norm p).length=k):=by show _=_;rw[norm_length,hd.out];exact topg_stop hstop
   clear hd hgo
   by_cases h0:k=0
   ·subst h0;clear hp hstop;go_wp2;go_ret;exact⟨by rw[HK.out];rfl,rfl⟩
   ·have hne:=hstop.resolve_left h0;have c1:=hp (k-1) (by omega);have c2:((((co p (k-1)).toNat:Nat):Int)==0)=false:=by rw[eq_u8_zero];simpa using hne
    clear hne hstop hp;go_wp2;go_ret;exact⟨by rw[HK.out];rfl,rfl⟩
theorem top_nil(ao:Option Addr)(c:Nat)(w:World):
  Calls Tryz.prog 202 #[.slice ao 0 c] w fun e w'=>e= .returned (.slice ao 0 c)/\w'=w:=by
 go_enter Tryz.func202,Tryz.ntmps202
 go_wp2
 go_loop [0] (fun v=>v= .slice ao 0 c) (fun v=>0)
 case atStart=>rfl
 case round=>
  subst hrel;go_wp2;go_ret;exact⟨rfl,rfl⟩
theorem Rd.n{w:World}{ao:Option Addr}{n c:Nat}{p:List UInt8}(h:Rd w (.slice ao n c) p):n=p.length:=by
 obtain⟨a,c',e⟩:=h.form;simp at e;exact e.2.1
theorem Rd.part{w:World}{ao:Option Addr}{n c:Nat}{p:List UInt8}(h:Rd w (.slice ao n c) p):Rd w (.slice ao (norm p).length c) (norm p):=by
 by_cases h0:norm p=[]
 ·rw[h0]
  rcases h with⟨a,c',e1,e2,hc,hn⟩|⟨b,off,c',hp0,e2,h1,h2,h3,hpc⟩
  ·simp at e2;obtain⟨rfl,_,rfl⟩:=e2;exact Or.inl ⟨_,_,rfl,rfl,hc,hn⟩
  ·simp at e2;obtain⟨rfl,rfl,rfl⟩:=e2;exact Or.inl ⟨_,_,rfl,rfl,h2,fun h=>by cases h⟩
 ·have hle:=norm_length_le p
  rcases h with⟨a,c',e1,e2,hc,hn⟩|⟨b,off,c',hp0,e2,h1,h2,h3,hpc⟩
  ·subst e1;exact absurd rfl h0
  ·simp at e2;obtain⟨rfl,rfl,rfl⟩:=e2;exact Or.inr ⟨b,off,_,h0,rfl,Nat.le_trans hle h1,h2,h3,fun i hi=>by rw[co_norm];exact hpc i (Nat.lt_of_lt_of_le hi hle)⟩
theorem top_any{ao:Option Addr}{n c:Nat}{p:List UInt8}{w:World}(hp:Rd w (.slice ao n c) p)(hl:p.length<=140737488355328):
  Calls Tryz.prog 202 #[.slice ao n c] w fun e w'=>e= .returned (.slice ao (norm p).length c)/\w'=w:=by
 have hn:=hp.n;subst hn
 rcases hp with⟨a,c',rfl,e2,hc,hn⟩|⟨b,off,c',hp0,e2,h1,h2,h3,hpc⟩
 ·exact top_nil ao c w
 ·simp at e2;obtain⟨rfl,rfl⟩:=e2;exact top_main b off _ p w hl h1 h2 hpc
theorem rd_nil_any{w:World}:Rd w (.slice none 0 0) []:=Or.inl ⟨none,0,rfl,rfl,Nat.zero_le _,fun _=>rfl⟩
theorem fmu_at{b:Nat}{w:World}(hF:FieldAt w b)(a c:UInt8){x y:Int}(hx:x=((a.toNat:Nat):Int))(hy:y=((c.toNat:Nat):Int)):
  Calls Tryz.prog 188 #[.pointer (some ⟨b,0,none⟩),.int .u8 x,.int .u8 y] w fun e w'=>e= .returned (.int .u8 ((mu a c).toNat:Nat))/\Below w.heap.size w w':=by
 rw[mu_toNat];exact(mul_at hF a.toNat c.toNat hx hy (u8_lt a) (u8_lt c)).mono fun e w' ⟨he,n,hw⟩=>⟨he,by rw[hw];exact below_draws w n⟩
theorem pder_even{f:Nat->UInt8}{k:Nat}(h:k%2=0):der f k=f (k+1):=by unfold der od;rw[if_pos (by omega)]
theorem pder_odd{f:Nat->UInt8}{k:Nat}(h:k%2=1):der f k=0:=by unfold der od;rw[if_neg (by omega)]
def dk(f:Nat->UInt8)(k t:Nat):UInt8:=if t<k then der f t else 0
theorem dk_zero(f:Nat->UInt8)(t:Nat):dk f 0 t=0:=if_neg (by omega)
theorem dk_even{f:Nat->UInt8}{k:Nat}(h:k%2=0)(t:Nat):dk f (k+1) t=if t=k then f (k+1)else dk f k t:=by
 unfold dk
 by_cases e:t=k
 ·subst e;rw[if_pos (by omega),if_pos rfl,pder_even h]
 ·rw[if_neg e]
  by_cases h2:t<k
  ·rw[if_pos h2,if_pos (by omega)]
  ·rw[if_neg h2,if_neg (by omega)]
theorem dk_odd{f:Nat->UInt8}{k:Nat}(h:k%2=1):dk f (k+1)=dk f k:=by
 funext t;unfold dk
 by_cases e:t=k
 ·subst e;rw[if_pos (by omega),if_neg (by omega),pder_odd h]
 ·by_cases h2:t<k
  ·rw[if_pos h2,if_pos (by omega)]
  ·rw[if_neg h2,if_neg (by omega)]
theorem pderiv_nil(a:Option Addr)(c:Nat)(w:World):
  Calls Tryz.prog 172 #[.slice a 0 c] w fun e w'=>e= .returned (.slice none 0 0)/\w'=w:=by
 go_enter Tryz.func172,Tryz.ntmps172
 go_wp2;go_ret;exact⟨rfl,rfl⟩
theorem pderiv_main(b off c:Nat)(p:List UInt8)(w:World)(hp0:p≠[])(hl:p.length<=1000000)(hb:b<w.heap.size)
  (hpc:∀i,i<p.length->w.cell? ⟨b,off+i,none⟩=some (.int .u8 ((co p i).toNat:Nat))):
  Calls Tryz.prog 172 #[.slice (some ⟨b,off,none⟩) p.length c] w (Makes w (derP p)):=by
 obtain⟨i0,hi,hz0,hz1,hz2⟩:=info_parts info_u8;obtain⟨n,hn⟩:∃n,p.length=n+1:=⟨p.length-1,by have:=List.length_pos_iff.2 hp0;omega⟩;have HN:Hid (norm (upto (der (co p)) n)=derP p):=norm_upto (by have:=(co_fin p).der;rw[hn]at this;exact this) (fin_der p);have HU:Hid ((upto (der (co p)) n).length=n):=upto_length _ _;rw[hn]at hpc hl;simp only[hn];clear hp0 hn;have hnz:(((n:Int)+1)==0)=false:=by simp;omega
 go_enter Tryz.func172,Tryz.ntmps172
 go_wp2_with (at_make;go_loud (refine wpList_make_full _ rfl (.tmp 10) (.tmp 10) 36 rfl w.heap.size 5 i0 (.int .u8 0) 1 Tryz.underlying36 hi hz0 hz1 _ _ _ _ n rfl rfl (by omega) (by omega) (by rw[hz2];omega) (by unfold maxLen;omega) (Nat.le_refl _) ?_);intro w1 hown1 hgrow1)
 have R1:=RowF.made hown1;have B1:Below w.heap.size w w1:=(Below.refl _ _).grown hgrow1 (Nat.le_refl _) (fun k h=>by cases h);clear hown1 hgrow1
 go_loopw [14] (fun i wr=>∃k:Nat,k<=n/\i= .int .i64 k/\RowF wr w.heap.size 5 w.heap.size n n (dk (co p) k)/\Below w.heap.size w wr) (fun i _=>n-(intOf i).toNat)
 case atStart=>exact⟨0,by omega,rfl,R1.congr (fun t _=>(dk_zero _ t).symm),B1⟩
 case round=>
  obtain⟨k,hk,rfl,hR,hB⟩:=hrel;clear R1 B1
  by_cases hlt:k<n
  ·by_cases hev:k%2=0
   ·have c1:wr.cell? ⟨b,off+(k+1),none⟩=some (.int .u8 (((co p (k+1)).toNat:Nat):Int)):=(hB.cell (p:=⟨b,off+(k+1),none⟩) hb).trans (hpc (k+1) (by omega));have c2:=hR.cell hlt;have f1:=hR.unfrozen k;have N1:Hid _:=hR.store hlt (co p (k+1)) (dk_even hev);have N2:Hid _:=hB.setCell (p:=⟨w.heap.size,k,none⟩) (Nat.le_refl _) (.int .u8 (((co p (k+1)).toNat:Nat):Int));clear hpc hR hB;go_wp2;go_roundw
    case rel=>exact⟨k+1,by omega,by go_num,N1.out,N2.out⟩
    case measure=>simp[intOf];omega
   ·have hev2:k%2=1:=by omega
    have N1:Hid (RowF wr w.heap.size 5 w.heap.size n n (dk (co p) (k+1))):=by rw[dk_odd hev2];exact hR
    clear hpc hR;go_wp2;go_roundw
    case rel=>exact⟨k+1,by omega,by go_num,N1.out,hB⟩
    case measure=>simp[intOf];omega
  ·have e:k=n:=by omega
   subst e;have hR2:RowF wr w.heap.size 5 w.heap.size k k (der (co p)):=hR.congr (fun t ht=>if_pos ht);have hRd:=hR2.rd;have hRN:=hRd.part;clear hR hR2 hpc
   go_wp2_with fail
   refine(top_any hRd (by rw[HU.out];omega)).mono ?_
   rintro e w'' ⟨rfl,rfl⟩;go_wp2;go_ret;rw[<-HN.out];exact⟨_,rfl,hRN,hB⟩
theorem pderiv_any{v:Value}{p:List UInt8}{w:World}(hp:Rd w v p)(hl:p.length<=400000):
  Calls Tryz.prog 172 #[v] w (Makes w (derP p)):=by
 rcases hp with⟨a,c,rfl,rfl,hc,hn⟩|⟨b,off,c,hp0,rfl,h1,h2,h3,hpc⟩
 ·refine(pderiv_nil a c w).mono ?_
  rintro e w' ⟨rfl,rfl⟩;exact⟨_,rfl,rd_nil_any,Below.refl _ _⟩
 ·exact pderiv_main b off c p w hp0 (by omega) h3 hpc
def hor(p:Nat->UInt8)(x:UInt8)(n k:Nat):UInt8:=ev k (fun i=>p (n-k+i)) x
theorem hor_step(p:Nat->UInt8)(x:UInt8)(n k:Nat)(h:k<n):hor p x n (k+1)=mu (hor p x n k) x^^^p (n-1-k):=by
 unfold hor ev;rw[S_head,S_mu,x_comm];congr 1
 ·refine S_congr fun i hi=>?_
  rw[pwr,mu_assoc]
  show mu (p (n-(k+1)+(i+1))) _=mu (p (n-k+i)) _
  rw[show n-(k+1)+(i+1)=n-k+i by omega]
 ·rw[pwr,mu_one]
  show p (n-(k+1)+0)=_
  rw[show n-(k+1)+0=n-1-k by omega]
theorem hor_all(p:List UInt8)(x:UInt8):hor (co p) x p.length p.length=evP p x:=by
 unfold hor evP ev;refine S_congr fun i _=>?_
 show mu (co p (p.length-p.length+i)) _=_
 rw[Nat.sub_self,Nat.zero_add]
theorem peval_quiet{b:Nat}{v:Value}{p:List UInt8}{w:World}(hF:FieldAt w b)(hp:Rd w v p)(x:UInt8){y:Int}(hy:y=((x.toNat:Nat):Int))(hl:p.length<=400000):
  Calls Tryz.prog 199 #[.pointer (some ⟨b,0,none⟩),v,.int .u8 y] w fun e w'=>e= .returned (.int .u8 ((evP p x).toNat:Nat))/\∃n,w'=w.drewN n:=by
 subst hy
 rcases hp with⟨a,c,rfl,rfl,hc,hn⟩|⟨bb,off,c,hp0,rfl,h1,h2,h3,hpc⟩
 ·have e:evP [] x=0:=rfl;have E:Hid _:=e;clear e
  go_enter Tryz.func199,Tryz.ntmps199
  go_wp2
  go_loop [7,13] (fun o i=>o= .int .u8 0/\i= .int .i64 0) (fun _ _=>0)
  case atStart=>exact⟨rfl,rfl⟩
  case round=>
   obtain⟨rfl,rfl⟩:=hrel;go_wp2;go_ret;exact⟨by rw[E.out];rfl,0,rfl⟩
 ·have HE:Hid _:=hor_all p x;clear hp0
  go_enter Tryz.func199,Tryz.ntmps199
  go_wp2
  go_loopw [7,13] (fun o i wr=>∃k:Nat,k<=p.length/\i= .int .i64 k/\o= .int .u8 ((hor (co p) x p.length k).toNat:Nat)/\∃d,Hid (wr=w.drewN d)) (fun _ i _=>p.length-(intOf i).toNat)
  case atStart=>exact⟨0,by omega,rfl,rfl,0,rfl⟩
  case round=>
   obtain⟨k,hk,rfl,rfl,d,hd⟩:=hrel
   by_cases hlt:k<p.length
   ·have c1:wr.cell? ⟨bb,off+(p.length-1-k),none⟩=some (.int .u8 ((co p (p.length-1-k)).toNat:Nat)):=by rw[hd.out];exact hpc (p.length-1-k) (by omega)
    obtain⟨t,ht⟩:∃t,t=p.length-1-k:=⟨_,rfl⟩;have hx:bits .xor .u8 (((mu (hor (co p) x p.length k) x).toNat:Nat):Int) (((co p t).toNat:Nat):Int)=(((hor (co p) x p.length (k+1)).toNat:Nat):Int):=by
     rw[hor_step _ _ _ _ hlt,<-ht];exact xor_u8 _ _
    have HX:Hid _:=hx;rw[<-ht]at c1;clear hpc;have g0:(p.length:Int)-1-(k:Int)=(t:Int):=by omega
    have htl:t<p.length:=by omega
    have gw1:IntKind.i64.wrap ((p.length:Int)-1)=(p.length:Int)-1:=by rw[IntKind.wrap_i64];omega
    have gw3:IntKind.i64.wrap (t:Int)=(t:Int):=by rw[IntKind.wrap_i64];omega
    have g1:(t:Int)<(p.length:Int):=by omega
    clear ht;have hFd:FieldAt wr b:=by rw[hd.out];exact hF.drewN d
    go_wp2
    go_quiet ((go_at_call 188;go_loud (exact Calls.quiet_of (fmu_quiet (hFd.drewN _) (hor (co p) x p.length k) x rfl rfl))))
    go_wp2;go_roundw
    case rel=>exact⟨k+1,by omega,by go_num,by first|exact congrArg _ HX.out|(rw[<-HX.out,xor_u8]),_,by show _=_;rw[hd.out,World.drewN_drewN]⟩
    case measure=>simp[intOf];omega
   ·have e:k=p.length:=by omega
    subst e;clear hpc;go_wp2;go_ret;exact⟨by rw[<-HE.out];rfl,d,hd.out⟩
def addAt(f:Nat->UInt8)(o:Nat)(q:List UInt8)(t:Nat):UInt8:=f t^^^(if o<=t then co q (t-o)else 0)
def addK(f:Nat->UInt8)(o:Nat)(q:List UInt8)(k t:Nat):UInt8:=f t^^^(if o<=t/\t<o+k then co q (t-o)else 0)
theorem addK_zero(f:Nat->UInt8)(o:Nat)(q:List UInt8):addK f o q 0=f:=by
 funext t;unfold addK;rw[if_neg (by omega),x_zero]
theorem addK_whole(f:Nat->UInt8)(o:Nat)(q:List UInt8):addK f o q q.length=addAt f o q:=by
 funext t;unfold addK addAt
 by_cases h:o<=t
 ·rw[if_pos h]
  by_cases h2:t<o+q.length
  ·rw[if_pos ⟨h,h2⟩]
  ·rw[if_neg (by omega),co_ge (by omega)]
 ·rw[if_neg h,if_neg (by omega)]
theorem addK_step(f:Nat->UInt8)(o:Nat)(q:List UInt8)(k t:Nat):addK f o q (k+1) t=if t=o+k then addK f o q k (o+k)^^^co q k else addK f o q k t:=by
 by_cases e:t=o+k
 ·subst e;rw[if_pos rfl];unfold addK;rw[if_pos (by omega),if_neg (by omega),x_zero,show o+k-o=k by omega]
 ·rw[if_neg e];unfold addK
  by_cases h:o<=t/\t<o+k
  ·rw[if_pos h,if_pos (by omega)]
  ·rw[if_neg h,if_neg (by omega)]
def addAll(f:Nat->UInt8)(o:Nat)(ts:List (Value×List UInt8)):Nat->UInt8:=ts.foldl (fun f x=>addAt f o x.2) f
theorem addAll_step(f:Nat->UInt8)(o:Nat)(ts:List (Value×List UInt8)){j:Nat}{x:Value×List UInt8}(h:ts[j]? =some x):addAll f o (ts.take (j+1))=addAt (addAll f o (ts.take j)) o x.2:=by
 unfold addAll;rw[List.take_add_one,h];simp
theorem sum_into{w:World}{base u g L C o n c tb tc:Nat}{f:Nat->UInt8}(ts:List (Value×List UInt8))(hR:RowF w base u g L C f)(ho:o+n<=L)(hn:n<=140737488355328)(hL:L<=140737488355328)(htb:tb≠g)(htl:ts.length<=1000)
  (hts:∀j x,ts[j]? =some x->w.cell? ⟨tb,j,none⟩=some x.1/\Rd w x.1 x.2/\Apart g x.1/\x.2.length<=n):
  Calls Tryz.prog 203 #[.slice (some ⟨g,o,none⟩) n c,.slice (some ⟨tb,0,none⟩) ts.length tc] w fun e w'=>e= .returned (.tuple #[])/\Only g w w'/\RowF w' base u g L C (addAll f o ts):=by
 go_enter Tryz.func203,Tryz.ntmps203
 go_wp2
 go_loopw [9] (fun i wr=>∃j:Nat,j<=ts.length/\i= .int .i64 j/\Only g w wr/\RowF wr base u g L C (addAll f o (ts.take j))) (fun i _=>ts.length-(intOf i).toNat)
 case atStart=>exact⟨0,by omega,rfl,Only.refl _ _,hR⟩
 case round=>
  obtain⟨j,hj,rfl,hO,hRj⟩:=hrel;clear hR
  by_cases hlt:j<ts.length
  ·obtain⟨x,hx⟩:∃x,ts[j]? =some x:=⟨_,List.getElem?_eq_getElem hlt⟩
   obtain⟨c0,hrd,hap,hxl⟩:=hts j x hx;have HS:=addAll_step f o ts hx;have HS':Hid _:=HS;obtain⟨v,q⟩:=x;clear HS hts hx;have c1:wr.cell? ⟨tb,j,none⟩=some v:=(hO.cell (p:=⟨tb,j,none⟩) htb).trans c0;clear c0;obtain⟨fj,hfj⟩:∃fj,fj=addAll f o (ts.take j):=⟨_,rfl⟩;rw[<-hfj]at hRj HS';clear hfj;have R0:RowF wr base u g L C (addK fj o q 0):=by rw[addK_zero];exact hRj
   clear hRj;simp only at hrd hap hxl HS'
   rcases hrd with⟨a,cc,rfl,rfl,hc,hnn⟩|⟨b,off,cc,hq0,rfl,h1,h2,h3,hqc⟩
   ·go_wp2
    go_loopw [15] (fun i w2=>i= .int .i64 0/\w2=wr) (fun _ _=>0)
    case atStart=>exact⟨rfl,rfl⟩
    case round=>
     obtain⟨rfl,rfl⟩:=hrel;go_wp2;go_roundw
     case rel=>exact⟨j+1,by omega,by go_num,hO,by rw[HS'.out,<-addK_whole];exact R0⟩
     case measure=>simp[intOf];omega
   ·have hb:b≠g:=by
     rcases hap _ _ _ rfl with e|e
     ·exact absurd (List.length_eq_zero_iff.1 e) hq0
     ·exact e
    clear hap;go_wp2
    go_loopw [15] (fun i w2=>∃l:Nat,l<=q.length/\i= .int .i64 l/\Only g w w2/\RowF w2 base u g L C (addK fj o q l)) (fun i _=>q.length-(intOf i).toNat)
    case atStart=>exact⟨0,by omega,rfl,hO,R0⟩
    case round=>
     obtain⟨l,hll,rfl,hO2,hR2⟩:=hrel;clear R0 hO c1
     by_cases hl3:l<q.length
     ·obtain⟨t,ht⟩:∃t,Hid (t=o+l):=⟨_,rfl⟩;have ht':=ht.out;have htl2:t<L:=by omega
      have k1:=hR2.cell htl2;have f1:=hR2.unfrozen t;have k3:=(hO2.cell (p:=⟨b,off+l,none⟩) hb).trans (hqc l hl3);have E:=xor_u8 (addK fj o q l t) (co q l);have N1:Hid (RowF (wr.setCell ⟨g,t,none⟩ (.int .u8 (((addK fj o q l t).toNat^^^(co q l).toNat:Nat):Int))) base u g L C (addK fj o q (l+1))):=by
       rw[<-UInt8.toNat_xor];exact hR2.store htl2 _ (by rw[ht'];exact addK_step fj o q l)
      have N2:Hid (Only g w (wr.setCell ⟨g,t,none⟩ (.int .u8 (((addK fj o q l t).toNat^^^(co q l).toNat:Nat):Int)))):=hO2.setCell t _;rw[ht']at k1 f1 E N1 N2;clear hqc hR2 hO2 ht ht' htl2;go_wp2
      go_region
      go_wp2;go_roundw
      case rel=>exact⟨l+1,by omega,by go_num,N2.out.drew,N1.out.drew⟩
      case measure=>simp[intOf];omega
     ·have e:l=q.length:=by omega
      subst e;clear hqc;go_wp2;go_roundw
      case rel=>exact⟨j+1,by omega,by go_num,hO2,by rw[HS'.out,<-addK_whole];exact hR2⟩
      case measure=>simp[intOf];omega
  ·have e:j=ts.length:=by omega
   subst e;rw[List.take_length]at hRj;clear hts;go_wp2
   go_end0
   exact⟨rfl,hO,hRj⟩
theorem sum_terms{w:World}{base u g L C o n c k kc:Nat}{f:Nat->UInt8}{tt:TypeId}{cs:Array Value}(ts:List (Value×List UInt8))(hR:RowF w base u g L C f)(ho:o+n<=L)(hL:L<=140737488355328)(hcs:cs.toList=ts.map (·.1))(hk:k=ts.length)(htl:ts.length<=1000)
  (hts:∀x∈ts,Rd w x.1 x.2/\Apart g x.1/\x.2.length<=n):
  Calls Tryz.prog 203 #[.slice (some ⟨g,o,none⟩) n c,.slice (some ⟨w.heap.size,0,none⟩) k kc] (w.alloc (.cells cs tt)) fun e w'=>e= .returned (.tuple #[])/\Only g (w.alloc (.cells cs tt)) w'/\RowF w' base u g L C (addAll f o ts):=by
 subst hk;have hB:Below w.heap.size w (w.alloc (.cells cs tt)):=(Below.refl _ _).alloc (Nat.le_refl _) _;have hg:=hR.lt;refine sum_into ts (hR.later hB) ho (by omega) hL (by omega) htl fun j x hx=>?_
 obtain⟨h1,h2,h3⟩:=hts x (List.mem_of_getElem? hx);refine⟨?_,h1.below hB,h2,h3⟩;rw[World.cell?_alloc_new,<-Array.getElem?_toList,hcs,List.getElem?_map,hx];rfl
theorem addAll_one(v:Value)(p:List UInt8):addAll (fun _=>0) 0 [(v,p)]=co p:=by
 funext t;simp[addAll,addAt]
theorem addAll_two(v v':Value)(p q:List UInt8):addAll (fun _=>0) 0 [(v,p),(v',q)]=addF (co p) (co q):=by
 funext t;simp[addAll,addAt,addF]
theorem pnorm_own{v:Value}{p:List UInt8}{w:World}(hp:Rd w v p)(hl:p.length<=140737488355328):
  Calls Tryz.prog 194 #[v] w fun e w'=>e= .returned (.slice (some ⟨w.heap.size,0,none⟩) (norm p).length (norm p).length)/\RowF w' w.heap.size 5 w.heap.size (norm p).length (norm p).length (co p)/\Below w.heap.size w w':=by
 obtain⟨i0,hi,hz0,hz1,hz2⟩:=info_parts info_u8;obtain⟨ao,c,rfl⟩:=hp.form;have hP:=hp.part;have hle:=norm_length_le p;have HC:=co_norm p;have HC':Hid _:=HC;clear HC
 go_enter Tryz.func194,Tryz.ntmps194
 go_wp2_with fail
 refine(top_any hp hl).mono ?_
 rintro e w ⟨rfl,rfl⟩;obtain⟨q,hq⟩:∃q,q=norm p:=⟨_,rfl⟩;rw[<-hq]at hP hle HC';simp only[<-hq];have HQ:Hid (q=norm p):=hq;clear hq
 go_wp2_with (at_make;go_loud (refine wpList_make_full _ rfl (.tmp 7) (.tmp 7) 36 rfl w.heap.size 5 i0 (.int .u8 0) 1 Tryz.underlying36 hi hz0 hz1 _ _ _ _ q.length rfl rfl (by omega) (by omega) (by rw[hz2];omega) (by unfold maxLen;omega) (Nat.le_refl _) ?_);intro w1 hown1 hgrow1)
 have R1:=RowF.made hown1;have B1:Below w.heap.size w w1:=(Below.refl _ _).grown hgrow1 (Nat.le_refl _) (fun k h=>by cases h);clear hown1 hgrow1;have hA:Apart w.heap.size (.slice ao q.length c):=hP.apart (Nat.le_refl _);have hP1:=hP.below B1
 go_wp2_with (go_at_call 203;refine(sum_terms [(.slice ao q.length c,q)] R1 (by omega) (by omega) rfl rfl (by simp) (by intro x hx;simp at hx;subst hx;exact⟨hP1,hA,Nat.le_refl _⟩)).mono ?_;rintro e w' ⟨rfl,hO,hR⟩)
 go_ret;rw[addAll_one,HC'.out]at hR;exact⟨by rw[<-HQ.out];rfl,by rw[<-HQ.out];exact hR,(below_lit B1 _).trans (hO.below (Nat.le_refl _))⟩
theorem pnorm_far{v:Value}{p:List UInt8}{w:World}(hp:Rd w v p)(hl:p.length<=140737488355328):
  Calls Tryz.prog 194 #[v] w (MakesF w (norm p)):=by
 refine(pnorm_own hp hl).mono ?_
 rintro e w' ⟨rfl,hR,hB⟩;have e1:upto (co p) (norm p).length=norm p:=co_ext (upto_length _ _) fun i hi=>by
  rw[upto_length]at hi;rw[co_norm];exact co_map_range _ hi
 exact⟨_,rfl,by have:=hR.rd;rwa[e1]at this,hB,far_some (Nat.le_refl _)⟩
theorem pnorm_any{v:Value}{p:List UInt8}{w:World}(hp:Rd w v p)(hl:p.length<=140737488355328):
  Calls Tryz.prog 194 #[v] w (Makes w (norm p)):=(pnorm_far hp hl).mono fun _ _ h=>h.plain
theorem padd_far{va vq:Value}{p q:List UInt8}{w:World}(hp:Rd w va p)(hq:Rd w vq q)(hl:p.length<=400000)(hl2:q.length<=400000):
  Calls Tryz.prog 221 #[va,vq] w (MakesF w (addP p q)):=by
 obtain⟨i0,hi,hz0,hz1,hz2⟩:=info_parts info_u8;obtain⟨ao,c,rfl⟩:=hp.form;obtain⟨ao',c',rfl⟩:=hq.form;obtain⟨n,hn⟩:∃n,(p.length<q.length/\n=q.length)∨(¬p.length<q.length/\n=p.length):=by
  by_cases h:p.length<q.length
  ·exact⟨_,Or.inl ⟨h,rfl⟩⟩
  ·exact⟨_,Or.inr ⟨h,rfl⟩⟩
 have hpn:p.length<=n:=by omega
 have hqn:q.length<=n:=by omega
 have hnn:n<=400000:=by omega
 have HN:Hid (norm (upto (addF (co p) (co q)) n)=addP p q):=norm_upto (((co_fin p).mono (by omega)).add ((co_fin q).mono (by omega))) (fin_add p q);have HU:Hid ((upto (addF (co p) (co q)) n).length=n):=upto_length _ _
 rcases hn with⟨hlt,rfl⟩|⟨hlt,rfl⟩
 ·go_enter Tryz.func221,Tryz.ntmps221
  go_wp2_with (at_make;go_loud (refine wpList_make_full _ rfl (.tmp 10) (.tmp 10) 36 rfl w.heap.size 5 i0 (.int .u8 0) 1 Tryz.underlying36 hi hz0 hz1 _ _ _ _ q.length rfl rfl (by omega) (by omega) (by rw[hz2];omega) (by unfold maxLen;omega) (Nat.le_refl _) ?_);intro w1 hown1 hgrow1)
  have R1:=RowF.made hown1;have B1:Below w.heap.size w w1:=(Below.refl _ _).grown hgrow1 (Nat.le_refl _) (fun k h=>by cases h);clear hown1 hgrow1;have hA:=hp.apart (Nat.le_refl _);have hA2:=hq.apart (Nat.le_refl _);have hP1:=hp.below B1;have hQ1:=hq.below B1
  go_wp2_with fail
  refine(sum_terms [(.slice ao p.length c,p),(.slice ao' q.length c',q)] R1 (by omega) (by omega) rfl rfl (by simp) (by intro x hx;simp at hx;rcases hx with rfl|rfl;exact⟨hP1,hA,hpn⟩;exact⟨hQ1,hA2,hqn⟩)).mono ?_
  rintro e w' ⟨rfl,hO,hR⟩;rw[addAll_two]at hR;have B2:=(below_lit B1 _).trans (hO.below (Nat.le_refl _));have hRd:=hR.rd;clear hR hO hP1 hQ1;have hRN:=hRd.part
  go_wp2_with fail
  refine(top_any hRd (by rw[HU.out];omega)).mono ?_
  rintro e w'' ⟨rfl,rfl⟩;go_wp2;go_ret;rw[<-HN.out];exact⟨_,rfl,hRN,B2,far_some (Nat.le_refl _)⟩
 ·go_enter Tryz.func221,Tryz.ntmps221
  go_wp2_with (at_make;go_loud (refine wpList_make_full _ rfl (.tmp 10) (.tmp 10) 36 rfl w.heap.size 5 i0 (.int .u8 0) 1 Tryz.underlying36 hi hz0 hz1 _ _ _ _ p.length rfl rfl (by omega) (by omega) (by rw[hz2];omega) (by unfold maxLen;omega) (Nat.le_refl _) ?_);intro w1 hown1 hgrow1)
  have R1:=RowF.made hown1;have B1:Below w.heap.size w w1:=(Below.refl _ _).grown hgrow1 (Nat.le_refl _) (fun k h=>by cases h);clear hown1 hgrow1;have hA:=hp.apart (Nat.le_refl _);have hA2:=hq.apart (Nat.le_refl _);have hP1:=hp.below B1;have hQ1:=hq.below B1
  go_wp2_with fail
  refine(sum_terms [(.slice ao p.length c,p),(.slice ao' q.length c',q)] R1 (by omega) (by omega) rfl rfl (by simp) (by intro x hx;simp at hx;rcases hx with rfl|rfl;exact⟨hP1,hA,hpn⟩;exact⟨hQ1,hA2,hqn⟩)).mono ?_
  rintro e w' ⟨rfl,hO,hR⟩;rw[addAll_two]at hR;have B2:=(below_lit B1 _).trans (hO.below (Nat.le_refl _));have hRd:=hR.rd;clear hR hO hP1 hQ1;have hRN:=hRd.part
  go_wp2_with fail
  refine(top_any hRd (by rw[HU.out];omega)).mono ?_
  rintro e w'' ⟨rfl,rfl⟩;go_wp2;go_ret;rw[<-HN.out];exact⟨_,rfl,hRN,B2,far_some (Nat.le_refl _)⟩
def tk(q:Nat->UInt8)(a:UInt8)(k t:Nat):UInt8:=if t<k then mu (q t) a else 0
theorem tk_zero(q:Nat->UInt8)(a:UInt8)(t:Nat):tk q a 0 t=0:=if_neg (by omega)
theorem tk_step(q:Nat->UInt8)(a:UInt8)(k t:Nat):tk q a (k+1) t=if t=k then mu (q k) a else tk q a k t:=by
 unfold tk
 by_cases e:t=k
 ·subst e;rw[if_pos (by omega),if_pos rfl]
 ·rw[if_neg e]
  by_cases h2:t<k
  ·rw[if_pos h2,if_pos (by omega)]
  ·rw[if_neg h2,if_neg (by omega)]
def mulBy(q:List UInt8)(a:UInt8):List UInt8:=upto (fun t=>mu (co q t) a) q.length
theorem mulBy_length(q:List UInt8)(a:UInt8):(mulBy q a).length=q.length:=upto_length _ _
theorem co_mulBy(q:List UInt8)(a:UInt8)(t:Nat):co (mulBy q a) t=mu (co q t) a:=
 co_upto (k:=q.length) (f:=fun t=>mu (co q t) a) (fun i hi=>by show mu (co q i) a=0;rw[co_ge hi,zero_mu]) t
theorem times_main(b b' off' c':Nat)(q:List UInt8)(a:UInt8)(w:World)(hF:FieldAt w b)(hl:q.length<=400000)(hb:b'<w.heap.size)
  (hqc:∀i,i<q.length->w.cell? ⟨b',off'+i,none⟩=some (.int .u8 ((co q i).toNat:Nat))):
  Calls Tryz.prog 204 #[.pointer (some ⟨b,0,none⟩),.slice (some ⟨b',off',none⟩) q.length c',.int .u8 ((a.toNat:Nat):Int)] w fun e w'=>
   e= .returned (.slice (some ⟨w.heap.size,0,none⟩) q.length q.length)/\RowF w' w.heap.size 5 w.heap.size q.length q.length (fun t=>mu (co q t) a)/\Below w.heap.size w w':=by
 obtain⟨i0,hi,hz0,hz1,hz2⟩:=info_parts info_u8
 go_enter Tryz.func204,Tryz.ntmps204
 go_wp2_with (at_make;go_loud (refine wpList_make_full _ rfl (.tmp 10) (.tmp 10) 36 rfl w.heap.size 5 i0 (.int .u8 0) 1 Tryz.underlying36 hi hz0 hz1 _ _ _ _ q.length rfl rfl (by omega) (by omega) (by rw[hz2];omega) (by unfold maxLen;omega) (Nat.le_refl _) ?_);intro w1 hown1 hgrow1)
 have R1:=RowF.made hown1;have B1:Below w.heap.size w w1:=(Below.refl _ _).grown hgrow1 (Nat.le_refl _) (fun k h=>by cases h);clear hown1 hgrow1
 go_loopw [14] (fun i wr=>∃k:Nat,k<=q.length/\i= .int .i64 k/\RowF wr w.heap.size 5 w.heap.size q.length q.length (tk (co q) a k)/\Below w.heap.size w wr) (fun i _=>q.length-(intOf i).toNat)
 case atStart=>exact⟨0,by omega,rfl,R1.congr (fun t _=>(tk_zero _ _ t).symm),B1⟩
 case round=>
  obtain⟨k,hk,rfl,hR,hB⟩:=hrel;clear R1 B1
  by_cases hlt:k<q.length
  ·have c1:=(hB.cell (p:=⟨b',off'+k,none⟩) hb).trans (hqc k hlt);have hF1:=hF.below hB;clear hqc
   go_wp2_with fail
   refine(fmu_at hF1 (co q k) a rfl rfl).mono ?_
   rintro e w2 ⟨rfl,hb2⟩;have hR2:=hR.later hb2;have hB2:=Below.next hB hb2;have c2:=hR2.cell hlt;have f1:=hR2.unfrozen k;have N1:Hid _:=hR2.store hlt (mu (co q k) a) (tk_step (co q) a k);have N2:Hid _:=hB2.setCell (p:=⟨w.heap.size,k,none⟩) (Nat.le_refl _) (.int .u8 (((mu (co q k) a).toNat:Nat):Int));clear hR hR2 hB hB2 hb2 hF1;go_wp2;go_roundw
   case rel=>exact⟨k+1,by omega,by go_num,N1.out,N2.out⟩
   case measure=>simp[intOf];omega
  ·have e:k=q.length:=by omega
   subst e;clear hqc;go_wp2;go_ret;exact⟨rfl,hR.congr (fun t ht=>if_pos ht),hB⟩
theorem times_nil(v1:Value)(ao:Option Addr)(c':Nat)(y:Int)(w:World):
  Calls Tryz.prog 204 #[v1,.slice ao 0 c',.int .u8 y] w fun e w'=>e= .returned (.slice (some ⟨w.heap.size,0,none⟩) 0 0)/\RowF w' w.heap.size 5 w.heap.size 0 0 (fun _=>0)/\Below w.heap.size w w':=by
 obtain⟨i0,hi,hz0,hz1,hz2⟩:=info_parts info_u8
 go_enter Tryz.func204,Tryz.ntmps204
 go_wp2_with (at_make;go_loud (refine wpList_make_full _ rfl (.tmp 10) (.tmp 10) 36 rfl w.heap.size 5 i0 (.int .u8 0) 1 Tryz.underlying36 hi hz0 hz1 _ _ _ _ 0 rfl rfl (by omega) (by omega) (by rw[hz2];omega) (by unfold maxLen;omega) (Nat.le_refl _) ?_);intro w1 hown1 hgrow1)
 have R1:=RowF.made hown1;have B1:Below w.heap.size w w1:=(Below.refl _ _).grown hgrow1 (Nat.le_refl _) (fun k h=>by cases h);clear hown1 hgrow1
 go_loop [14] (fun i=>i= .int .i64 0) (fun _=>0)
 case atStart=>rfl
 case round=>
  subst hrel;go_wp2;go_ret;exact⟨rfl,R1,B1⟩
theorem times_any{b n c:Nat}{ao:Option Addr}{q:List UInt8}{w:World}(hF:FieldAt w b)(hq:Rd w (.slice ao n c) q)(hl:q.length<=400000)(a:UInt8){y:Int}(hy:y=((a.toNat:Nat):Int)):
  Calls Tryz.prog 204 #[.pointer (some ⟨b,0,none⟩),.slice ao n c,.int .u8 y] w fun e w'=>
   e= .returned (.slice (some ⟨w.heap.size,0,none⟩) n n)/\Rd w' (.slice (some ⟨w.heap.size,0,none⟩) n n) (mulBy q a)/\Below w.heap.size w w':=by
 subst hy;have hn:=hq.n;subst hn
 rcases hq with⟨a',c',rfl,e2,hc,hn⟩|⟨b',off',c',hp0,e2,h1,h2,h3,hqc⟩
 ·refine(times_nil _ _ _ _ w).mono ?_
  rintro e w' ⟨rfl,hR,hB⟩;exact⟨rfl,hR.rd,hB⟩
 ·simp at e2;obtain⟨rfl,rfl⟩:=e2;refine(times_main b b' off' _ q a w hF hl h3 hqc).mono ?_
  rintro e w' ⟨rfl,hR,hB⟩;exact⟨rfl,hR.rd,hB⟩
end Go.Proofs.YtddnfhfangfgeaaGreat.Gf
