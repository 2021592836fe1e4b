/- JOINED: VoCG, VoCR, VoSd. -/
import Derived.Deep.CutRange
import Derived.Test.YtclieefpnbdbjaaGreatPome24
set_option maxHeartbeats 4000000
set_option maxRecDepth 100000
namespace Go.Proofs.YtclieefpnbdbjaaGreat.Gf
set_option linter.unusedVariables false
set_option linter.unusedSimpArgs false
open Go.RowKit Go.Shelf
open Go.Maps (Keyed)
def OkL17(S:List SaS):Prop:=∀i,i<S.length->(sF S i).is=true->0<=(sF S i).ep/\(sF S i).ep<=2147483647/\(sF S i).da.length<=4096
theorem OkL17.key{S:List SaS}(h:OkL17 S){e:Int}{d:List UInt8}(hp:0<cpV S e d):OkK e d/\0<=e:=by
 obtain⟨i,hi,hv⟩:=cpR_pos.1 hp;obtain⟨h1,rfl,rfl⟩:=isV_iff.1 hv;obtain⟨a,b,c⟩:=h i hi h1;exact⟨⟨WalkArith.wf_i64 Zo,Zl⟩,a⟩
theorem cp_le{S:List SaS}{r:Nat}{e:Int}{d:List UInt8}:cpR S r e d<=r:=cnt_le _ _
theorem CntM.yes{w:World}{b r:Nat}{S:List SaS}{e:Int}{d:List UInt8}(h:CntM w b (r+1) (fun x y=>cpR S r x y+if x=e/\y=d then 1 else 0))(hv:isV (sF S r) e d=true):CntM w b (r+1) (cpR S (r+1)):=by
 have:(fun x y=>cpR S r x y+if x=e/\y=d then 1 else 0)=cpR S (r+1):=by
  funext x y;rw[cpR_step];obtain⟨h1,rfl,rfl⟩:=isV_iff.1 hv
  by_cases q:x=(sF S r).ep/\y=(sF S r).da
  ·rw[if_pos q,if_pos (isV_iff.2 ⟨h1,q.1.symm,q.2.symm⟩)]
  ·rw[if_neg q,if_neg fun k=>q (by obtain⟨_,a,b⟩:=isV_iff.1 k;exact⟨a.symm,b.symm⟩)]
 rw[<-this];exact h
theorem CntM.no{w:World}{b r:Nat}{S:List SaS}(h:CntM w b r (cpR S r))(hv:(sF S r).is=false):CntM w b (r+1) (cpR S (r+1)):=by
 have:cpR S r=cpR S (r+1):=by
  funext x y;rw[cpR_step,if_neg fun k=>by have:=(isV_iff.1 k).1;rw[hv]at this;cases this];rfl
 rw[<-this];obtain⟨D,h1,h2⟩:=h;exact⟨D,h1.mono (Nat.le_succ _),h2⟩
theorem setC2{w:World}{g:Nat}{a b x0 x1:Value}(m0:w.cell? ⟨g,0,none⟩=some x0)(m1:w.cell? ⟨g,1,none⟩=some x1){W:World}(hW:W=(w.setCell ⟨g,0,none⟩ a).setCell ⟨g,1,none⟩ b):Only g w W/\W.cell? ⟨g,0,none⟩=some a/\W.cell? ⟨g,1,none⟩=some b/\∀j,W.frozen? ⟨g,j,none⟩=w.frozen? ⟨g,j,none⟩:=by
 subst hW;refine⟨((Only.refl _ _).setCell _ _).setCell _ _,?_,?_,fun j=>?_⟩
 ·rw[cell_setO Zd,World.cell?_setCell_same _ _ _ m0]
 ·exact World.cell?_setCell_same _ _ _ ((cell_setO Zd).trans m1)
 ·rw[World.frozen?_setCell,World.frozen?_setCell]
theorem ranges_blocks{P:Program}{w w':World}{k b r n cnt:Nat}{R:Value->Option (DataW Value×List MemPlace)}{D:DataW Value}{left:Lit->Bool}(h:w.ranges P k R b r n D left cnt)(hb:w'.heap[b]? =w.heap[b]?)(hr:w'.heap[r]? =w.heap[r]?):w'.ranges P k R b r n D left cnt:=by
 obtain⟨es,clock,since,seen,c0,h1,F,hs,hD,h2,rest⟩:=h;exact⟨es,clock,since,seen,c0,hb.trans h1,F,hs,hD,hr.trans h2,rest⟩
theorem invK17(key:Value)(kl:Lit)(h:keyOf Tryz.prog 177 key=some kl):∃x:Int×List UInt8,key= .agg #[.int .i64 x.1,.string ⟨x.2.toArray⟩]:=by
 obtain⟨e,d,h1,_⟩:=key_inv h;exact⟨(e,d),h1⟩
theorem invV17(v:Value)(y:DataW Value×List MemPlace)(h:plainElem Tryz.prog 3 v=some y):∃c:Int,v= .int .i64 c:=by
 obtain⟨c,h1,_⟩:=plainElem_int_inv Tryz.underlying3 h;exact⟨c,h1⟩
def lfP(left:Lit->Bool)(e:Int)(d:List UInt8):Prop:=OkK e d/\left (kL e d)=true
theorem lf_step{left:Lit->Bool}{e:Int}{d:List UInt8}(h:OkK e d)(x:Int)(y:List UInt8):lfP (fun z=>left z&& !z.sameKey (kL e d)) x y↔(lfP left x y/\¬(x=e/\y=d)):=by
 unfold lfP;simp only[Bool.and_eq_true,Bool.not_eq_true'];constructor
 ·rintro⟨h1,h2,h3⟩;refine⟨⟨h1,h2⟩,?_⟩;rintro⟨rfl,rfl⟩;rw[WideAt.sameKey_self (isK h)]at h3;cases h3
 ·rintro⟨⟨h1,h2⟩,h3⟩;refine⟨h1,h2,?_⟩;cases q:(kL x y).sameKey (kL e d)with
  |false=>rfl
  |true=>exact absurd (kL_inj h1 h (WideAt.sameKey_eq q)) h3
theorem lf_start{S:List SaS}{D:DataW Value}{n:Nat}(hn:n=S.length)(h:CntD D (cpR S n)):Elec S (lfP (Maps.has D)) 0 0 []:=by
 have:lfP (Maps.has D)=fun e d=>0<cpV S e d:=by
  funext e d;apply propext;unfold lfP;have e0:cpV S e d=cpR S n e d:=by rw[hn];rfl
  constructor
  ·rintro⟨h1,h2⟩;rw[e0];exact(h.has e d h1).1 h2
  ·intro q;rw[e0]at q;have:=h.in_ e d q;exact⟨this,(h.has e d this).2 q⟩
 rw[this];exact Elec.start S
theorem elected_any{w:World}{g n:Nat}{S:List SaS}(hn:n=S.length)(hb:n<=900)(hS:OkL17 S)(hR:RpRow w g n (fun i=>rpS (sF S i))):
  Calls Tryz.prog 115 #[.slice (some ⟨g,0,none⟩) n n] w fun x w'=>x= .returned (.tuple #[.agg #[.int .i64 (elE S),.string ⟨(elD S).toArray⟩],.int .i64 ((elN S:Nat):Int)])/\Below w.heap.size w w':=by
 have HN:Hid (n=S.length):=hn;clear hn
 go_enter Tryz.func115,Tryz.ntmps115
 have hmm:=@run_makeMap Tryz.prog
 go_wp2_with fail
 obtain⟨W1,hW1⟩:∃W1,W1=(w.alloc (.cells #[.int .i64 0,.string ⟨#[]⟩] 177)).alloc (.map #[] 0):=⟨_,rfl⟩;obtain⟨B1,r0,r1,f0,f1,C1,z1⟩:Below w.heap.size w W1/\W1.cell? ⟨w.heap.size,0,none⟩=some (.int .i64 0)/\W1.cell? ⟨w.heap.size,1,none⟩=some (.string ⟨#[]⟩)/\W1.frozen? ⟨w.heap.size,0,none⟩=false/\W1.frozen? ⟨w.heap.size,1,none⟩=false/\CntM W1 (w.heap.size+1) 0 (fun _ _=>0)/\W1.heap.size=w.heap.size+2:=by
  obtain⟨u,hu⟩:∃u,u=w.alloc (.cells #[.int .i64 0,.string ⟨#[]⟩] 177):=⟨_,rfl⟩;rw[<-hu]at hW1;have s1:u.heap.size=w.heap.size+1:=by rw[hu];simp
  have b1:Below w.heap.size w u:=by rw[hu];exact belR _ _
  have b2:Below u.heap.size u W1:=by rw[hW1];exact belR _ _
  have k0:u.cell? ⟨w.heap.size,0,none⟩=some (.int .i64 0):=by rw[hu];exact World.cell?_alloc_new _ _ _ _
  have k1:u.cell? ⟨w.heap.size,1,none⟩=some (.string ⟨#[]⟩):=by rw[hu];exact World.cell?_alloc_new _ _ _ _
  have j0:∀j,u.frozen? ⟨w.heap.size,j,none⟩=false:=fun j=>by rw[hu];simp[go_sem]
  have lt:w.heap.size<u.heap.size:=Zo
  refine⟨b1.step16 b2 b1.size,(b2.cell (p:=⟨w.heap.size,0,none⟩) lt).trans k0,(b2.cell (p:=⟨w.heap.size,1,none⟩) lt).trans k1,(b2.frozen (p:=⟨w.heap.size,0,none⟩) lt).trans (j0 0),(b2.frozen (p:=⟨w.heap.size,1,none⟩) lt).trans (j0 1),?_,?_⟩
  ·rw[<-s1,hW1];exact CntM.made u
  ·have:W1.heap.size=u.heap.size+1:=by rw[hW1];simp
   omega
 have R1:=hR.below B1;have lg:g<w.heap.size:=hR.lt;rw[<-hW1];clear hW1 hR hmm;obtain⟨mb,hmb⟩:∃mb,Hid (mb=w.heap.size+1):=⟨_,rfl⟩;rw[<-hmb.out]at C1 ⊢
 go_loopw [14] (fun i wr=>∃k:Nat,k<=n/\i= .int .i64 (k:Int)/\CntM wr mb k (cpR S k)/\Hid (TurnG (fun x=>x=mb) W1 wr)) (fun i _=>n-(intOf i).toNat)
 case atStart=>exact⟨0,Zz,rfl,C1,TurnG.refl _ _⟩
 case round=>
  obtain⟨k,hk,rfl,hC,hT⟩:=hrel
  by_cases hlt:k<n
  ·have hlt':(k:Int)<(n:Int):=by omega
   obtain⟨z0,z1',z2,z3⟩:=(R1.block (hT.out.block g R1.lt (by show ¬g=mb;rw[hmb.out];omega))).cells hlt;have hlS:k<S.length:=by rw[<-HN.out];exact hlt
   obtain⟨V,hV⟩:∃V,V=wr.alloc (.cells #[.bool (rpS (sF S k)).sp,.bool (rpS (sF S k)).has,.int .i64 (rpS (sF S k)).ep,.string ⟨(rpS (sF S k)).da.toArray⟩] 215):=⟨_,rfl⟩;have bV:Below wr.heap.size wr V:=by rw[hV];exact belR _ _
   have v1:V.cell? ⟨wr.heap.size,1,none⟩=some (.bool (rpS (sF S k)).has):=by rw[hV,World.cell?_alloc_new];rfl
   have v2:V.cell? ⟨wr.heap.size,2,none⟩=some (.int .i64 (rpS (sF S k)).ep):=by rw[hV,World.cell?_alloc_new];rfl
   have v3:V.cell? ⟨wr.heap.size,3,none⟩=some (.string ⟨(rpS (sF S k)).da.toArray⟩):=by rw[hV,World.cell?_alloc_new];rfl
   have CV:CntM V mb k (cpR S k):=hC.of_block (bV.block mb hC.lt);have TV:Hid (TurnG (fun x=>x=mb) W1 V):=hT.out.trans (Below.turnG bV _);have IV:isV (sF S k) (rpS (sF S k)).ep (rpS (sF S k)).da=(rpS (sF S k)).has:=by
    unfold isV rpS;cases(sF S k).is<;>simp
   have OV:(rpS (sF S k)).has=true->OkK (rpS (sF S k)).ep (rpS (sF S k)).da:=fun q=>(hS.key (cpR_pos.2 ⟨k,hlS,IV.trans q⟩)).1
   have NV:(rpS (sF S k)).has=(sF S k).is:=rp_has;generalize rpS (sF S k)=R at z0 z1' z2 z3 hV v1 v2 v3 IV OV NV;obtain⟨rs,rh,re,rd⟩:=R;simp only at z0 z1' z2 z3 hV v1 v2 v3 IV OV NV;cases rh with
   |false=>
    have CN:Hid (CntM V mb (k+1) (cpR S (k+1))):=CV.no NV.symm;clear IV OV NV CV hC hT bV v2 v3
    go_wp2_with fail
    rw[<-hV];clear hV;go_wp2;go_roundw
    case rel=>exact⟨k+1,Zo,Zg,CN.out,TV⟩
    case measure=>simp[intOf];omega
   |true=>
    obtain⟨st,V1,V2,l1,l2,l3,l4,l5,l6⟩:=CntM.up (w:=V.drew) (CV.of_block rfl) Zo (OV rfl) (by have:=cp_le (S:=S) (r:=k) (e:=re) (d:=rd);omega);unfold kV at l1 l2 l3;have CN:Hid (CntM V2 mb (k+1) (cpR S (k+1))):=CntM.yes l5 IV;have TN:Hid (TurnG (fun x=>x=mb) W1 V2):=TV.out.trans ⟨l6.os,l6.tape,l6.output,l6.size,fun j hj hne=>l6.block j hj (by intro e;simp at e;exact hne e)⟩;have hc:cpR S k re rd<=900:=by have:=cp_le (S:=S) (r:=k) (e:=re) (d:=rd);omega
    obtain⟨c,hcc⟩:∃c,c=cpR S k re rd:=⟨_,rfl⟩;rw[<-hcc]at l1 l2 l3 l4 hc;have w1:IntKind.i64.wrap ((c:Int)+1)=(c:Int)+1:=Zw
    clear IV OV NV CV hC hT bV l5 l6 hcc TV
    go_wp2_with fail
    rw[<-hV];clear hV
    go_wp2_with fail
    go_region
    all_goals
     clear l1 l2 l3 l4 z0 z1' z2 z3 v1 v2 v3 hlt';go_wp2;go_roundw
     case rel=>exact⟨k+1,Zo,Zg,CN.out,TN⟩
     case measure=>simp[intOf];omega
  ·obtain rfl:k=n:=by omega
   have hge:¬(k:Int)<(k:Int):=Zo
   have nm:mb≠w.heap.size:=by rw[hmb.out];omega
   have mlt:mb<wr.heap.size:=hC.lt;replace r0:=(hT.out.cell (p:=⟨w.heap.size,0,none⟩) (by show w.heap.size<_;omega) (fun e=>nm e.symm)).trans r0;replace r1:=(hT.out.cell (p:=⟨w.heap.size,1,none⟩) (by show w.heap.size<_;omega) (fun e=>nm e.symm)).trans r1;replace f0:=(hT.out.frozen (p:=⟨w.heap.size,0,none⟩) (by show w.heap.size<_;omega) (fun e=>nm e.symm)).trans f0;replace f1:=(hT.out.frozen (p:=⟨w.heap.size,1,none⟩) (by show w.heap.size<_;omega) (fun e=>nm e.symm)).trans f1;have Br:Below w.heap.size w wr:=B1.trans (hT.out.below (fun x hx=>by rw[hx,hmb.out];omega) B1.size);have zr:w.heap.size+2<=wr.heap.size:=by have:=hT.out.size;omega
   obtain⟨V,hV⟩:∃V,V=wr.alloc (.cells #[.int .i64 0,.string ⟨#[]⟩] 177):=⟨_,rfl⟩;have bV:Below wr.heap.size wr V:=by rw[hV];exact belR _ _
   have m0:V.cell? ⟨wr.heap.size,0,none⟩=some (.int .i64 0):=by rw[hV];exact World.cell?_alloc_new _ _ _ _
   have m1:V.cell? ⟨wr.heap.size,1,none⟩=some (.string ⟨#[]⟩):=by rw[hV];exact World.cell?_alloc_new _ _ _ _
   have mf:∀j,V.frozen? ⟨wr.heap.size,j,none⟩=false:=fun j=>by rw[hV];simp[go_sem]
   have zV:V.heap.size=wr.heap.size+1:=by rw[hV];simp
   obtain⟨D,hown,hD⟩:=hC.of_block (bV.block mb hC.lt);obtain⟨mo,hmo⟩:∃mo,Hid (mo=wr.heap.size):=⟨_,rfl⟩;rw[<-hmo.out]at m0 m1 mf;have hown':(wr.alloc (.cells #[.int .i64 0,.string ⟨#[]⟩] 177)).ownsMap Tryz.prog 177 (plainElem Tryz.prog 3) mb k D:=by rw[<-hV];exact hown
   clear hC hT R1 B1 hown
   go_wp2_with (first|(at_range;go_loud (refine wpList_range_own _ rfl _ 217 rfl 177 3 keyed17 Tryz.underlying217 _ mb k D rfl hown' ?_);intro w0 hrg0 hg0 hs0)|go_in)
   rw[<-hV]at hrg0 hg0 hs0;obtain⟨it,hit⟩:∃it,Hid (it=V.heap.size):=⟨_,rfl⟩;rw[<-hit.out]at hrg0;have eit:(wr.alloc (.cells #[.int .i64 0,.string ⟨#[]⟩] 177)).heap.size=it:=by rw[hit.out,hV]
   have em:it=wr.heap.size+1:=by rw[hit.out];exact zV
   rw[<-em,<-hmo.out];have nmi:mo≠it:=by rw[hmo.out,em];omega
   have keep:∀j,j<V.heap.size->w0.heap[j]? =V.heap[j]? :=fun j hj=>hg0.block j hj Zs
   have B0:Below V.heap.size V w0:=⟨hg0.os,hg0.tape,hg0.output,hg0.size,keep⟩;have lmo:mo<V.heap.size:=by rw[hmo.out];omega
   have a0:w0.cell? ⟨mo,0,none⟩=some (.int .i64 0):=(B0.cell (p:=⟨mo,0,none⟩) lmo).trans m0;have a1:w0.cell? ⟨mo,1,none⟩=some (.string ⟨([]:List UInt8).toArray⟩):=(B0.cell (p:=⟨mo,1,none⟩) lmo).trans m1;have af:∀j,w0.frozen? ⟨mo,j,none⟩=false:=fun j=>(B0.frozen (p:=⟨mo,j,none⟩) lmo).trans (mf j)
   have Bw0:Below wr.heap.size wr w0:=bV.step16 B0 bV.size;replace r0:=(Bw0.cell (p:=⟨w.heap.size,0,none⟩) (by show w.heap.size<_;omega)).trans r0;replace r1:=(Bw0.cell (p:=⟨w.heap.size,1,none⟩) (by show w.heap.size<_;omega)).trans r1;replace f0:=(Bw0.frozen (p:=⟨w.heap.size,0,none⟩) (by show w.heap.size<_;omega)).trans f0;replace f1:=(Bw0.frozen (p:=⟨w.heap.size,1,none⟩) (by show w.heap.size<_;omega)).trans f1;have B2:Below w.heap.size w w0:=Br.step16 Bw0 Br.size;have lw0:w.heap.size<w0.heap.size:=by have:=Bw0.size;omega
   have nw:w.heap.size≠mo/\w.heap.size≠it:=by rw[em,hmo.out];omega
   have iw:w.heap.size<=mo/\w.heap.size<=it:=by rw[em,hmo.out];omega
   have lmi:mo<w0.heap.size/\it<w0.heap.size:=by rw[em,hmo.out];have:=hs0;omega
   have nmb:mb≠mo/\mb≠it:=by rw[em,hmo.out];omega
   have EL:=lf_start HN.out hD;have HD:Hid (CntD D (cpR S k)):=hD;clear m0 m1 mf zV bV hV hg0 hs0 keep B0 lmo Bw0 Br zr hown' eit hit em hD mlt nm z1 lg C1 hmb hk hlt hge V hmo
   go_loopw [8] (fun c wq=>∃(left:Lit->Bool) (cn:Nat) (e0:Int) (n0:Nat) (d0:List UInt8),c= .int .i64 (n0:Int)/\wq.ranges Tryz.prog 177 (plainElem Tryz.prog 3) mb it k D left cn/\Hid (Elec S (lfP left) e0 n0 d0)/\wq.cell? ⟨mo,0,none⟩=some (.int .i64 e0)/\wq.cell? ⟨mo,1,none⟩=some (.string ⟨d0.toArray⟩)/\(∀j,wq.frozen? ⟨mo,j,none⟩=false)/\Hid (TurnG (fun x=>x=mo∨x=it) w0 wq)/\n0<=900) (fun _ wq=>wq.rangeLeft mb it)
   case atStart=>exact⟨_,_,0,0,[],rfl,hrg0,EL,a0,a1,af,TurnG.refl _ _,Zo⟩
   case round=>
    clear hrg0 EL a0 a1 af;obtain⟨left,cn,e0,n0,d0,rfl,hrg,hEl,y0,y1,yf,hT,hn0⟩:=hrel
    go_wp2_with (first|(at_next;go_loud (refine wpList_next_ranges _ rfl _ rfl 177 keyed17 (plainElem Tryz.prog 3) (fun x:Int×List UInt8=>Value.agg #[.int .i64 x.1,.string ⟨x.2.toArray⟩]) (Value.int .i64) invK17 invV17 mb it k D left cn rfl hrg ?_ ?_))|go_in)
    ·intro hc0 hl0;obtain⟨ee,en,ed⟩:=hEl.out.done fun x y q=>by have:=q.2;rw[hl0]at this;cases this
     have BW:Below w.heap.size w wr:=B2.trans (hT.out.below (fun x hx=>by rcases hx with rfl|rfl;exact iw.1;exact iw.2) B2.size);have ap:∀x,(x=mo∨x=it)->¬w.heap.size=x:=fun x hx e=>by rcases hx with rfl|rfl;exact nw.1 e;exact nw.2 e
     have ap':¬(w.heap.size=mo∨w.heap.size=it):=fun e=>ap _ e rfl
     replace r0:=(hT.out.cell (p:=⟨w.heap.size,0,none⟩) lw0 ap').trans r0;replace r1:=(hT.out.cell (p:=⟨w.heap.size,1,none⟩) lw0 ap').trans r1;replace f0:=(hT.out.frozen (p:=⟨w.heap.size,0,none⟩) lw0 ap').trans f0;replace f1:=(hT.out.frozen (p:=⟨w.heap.size,1,none⟩) lw0 ap').trans f1;obtain⟨X,hX⟩:∃X,X=(wr.setCell ⟨w.heap.size,0,none⟩ (.int .i64 e0)).setCell ⟨w.heap.size,1,none⟩ (.string ⟨d0.toArray⟩):=⟨_,rfl⟩;obtain⟨oX,x0,x1,xf⟩:=setC2 r0 r1 hX;have FIN:Hid (Below w.heap.size w X):=BW.trans (oX.below Zr);have EE:Hid (e0=elE S/\n0=elN S/\d0=elD S):=⟨ee,en,ed⟩;clear hEl ee en ed BW ap ap' hT oX xf hrg hl0 hc0
     go_wp2_with fail
     rw[<-hX];clear hX;exact bodyPost_ret (v:=.tuple #[.agg #[.int .i64 e0,.string ⟨d0.toArray⟩],.int .i64 (n0:Int)]) (by simp[results,Tryz.results115,go_sem,x0,x1]) rfl ⟨by rw[<-EE.out.1,<-EE.out.2.1,<-EE.out.2.2],FIN.out⟩
    ·intro e d c kl yd ys w1 cn1 hkey hlk hv hat hrg1 hlt1 hg1 hs1 hen;obtain⟨e',d',ek,hok,rfl⟩:=key_inv hkey;obtain⟨rfl,rfl⟩:=kV_inj (show kV e d=kV e' d' from ek);obtain⟨c',ec,ey,hwc⟩:=plainElem_int_inv Tryz.underlying3 hv;simp at ec ey;subst ec;obtain⟨rfl,rfl⟩:=ey;have hhas:Maps.has D (kL e d)=true:=Maps.has_true_of_atKey hat;have ecp:cpR S k e d=cpV S e d:=by rw[HN.out];rfl
     have hp:0<cpV S e d:=by rw[<-ecp];exact(HD.out.has e d hok).1 hhas
     have hcc:c=((cpV S e d:Nat):Int):=by
      have h1:=HD.out.at_ e d hok;rw[hat]at h1;rw[<-ecp];simpa using h1
     subst hcc;obtain⟨n,hn⟩:∃n,Hid (n=cpV S e d):=⟨_,rfl⟩;have hn9:n<=900:=by rw[hn.out,<-ecp];have:=cp_le (S:=S) (r:=k) (e:=e) (d:=d);omega
     have he0:0<=e:=(hS.key hp).2;have ET:Hid (0<orL [cmI e e0,cmI (n:Int) (n0:Int),cmS d0 d]->Elec S (lfP (fun z=>left z&& !z.sameKey (kL e d))) e n d):=fun q=>by
      rw[hn.out]at q ⊢;exact hEl.out.take hp (fun x y=>lf_step hok x y) (cm_gt.1 q)
     have EP:Hid (¬0<orL [cmI e e0,cmI (n:Int) (n0:Int),cmS d0 d]->Elec S (lfP (fun z=>left z&& !z.sameKey (kL e d))) e0 n0 d0):=fun q=>by
      rw[hn.out]at q;exact hEl.out.pass hp he0 (fun x y=>lf_step hok x y) fun g=>q (cm_gt.2 g)
     have K1:=fun W=>@cmp_i e e0 W
     have K2:=fun W=>@cmp_i (n:Int) (n0:Int) W
     have K3:=fun W=>@cmp_s d0 d W
     rw[<-hn.out]at hen ⊢;generalize cmI e e0=x1 at K1 ET EP;generalize cmI (n:Int) (n0:Int)=x2 at K2 ET EP;generalize cmS d0 d=x3 at K3 ET EP;have K4:=fun W v (h:RdI W v [x1,x2,x3])=>or_any h Zs
     generalize orL [x1,x2,x3]=Z at K4 ET EP;have lmi1:mo<w1.heap.size/\it<w1.heap.size:=by have:=hT.out.size;omega
     have g1:TurnG (fun x=>x=mo∨x=it) wr w1:=⟨hg1.os,hg1.tape,hg1.output,hg1.size,fun j hj hne=>hg1.block j hj (by intro q;simp at q;exact hne (Or.inr q))⟩;have kmo:w1.heap[mo]? =wr.heap[mo]? :=hg1.block mo Zo (by intro q;simp at q;exact nmi q)
     replace y0:w1.cell? ⟨mo,0,none⟩=some (.int .i64 e0):=(Zc (w:=wr) kmo).trans y0;replace y1:w1.cell? ⟨mo,1,none⟩=some (.string ⟨d0.toArray⟩):=(Zc (w:=wr) kmo).trans y1;have yf1:∀j,w1.frozen? ⟨mo,j,none⟩=false:=fun j=>(World.frozen?_of_block (w:=wr) kmo).trans (yf j)
     have HM:Hid (cn1<cn):=hlt1;have HQ:Hid (wr.rangeLeft mb it=cn):=hrg.left_eq;have HT:Hid (TurnG (fun x=>x=mo∨x=it) w0 w1):=hT.out.trans g1;clear hEl hp ecp hhas hat hv hwc hkey ek he0 hlk hT g1 hg1 hs1 kmo yf hlt1 hn hrg;obtain⟨V,hV⟩:∃V,V=w1.alloc (.cells #[.int .i64 e,.string ⟨d.toArray⟩] 177):=⟨_,rfl⟩;have bV:Below w1.heap.size w1 V:=by rw[hV];exact belR _ _
     have lV:w1.heap.size<V.heap.size:=by rw[hV];simp
     have v0:V.cell? ⟨w1.heap.size,0,none⟩=some (.int .i64 e):=by rw[hV];exact World.cell?_alloc_new _ _ _ _
     have v1:V.cell? ⟨w1.heap.size,1,none⟩=some (.string ⟨d.toArray⟩):=by rw[hV];exact World.cell?_alloc_new _ _ _ _
     replace y0:=(bV.cell (p:=⟨mo,0,none⟩) lmi1.1).trans y0;replace y1:=(bV.cell (p:=⟨mo,1,none⟩) lmi1.1).trans y1;obtain⟨sb,hsb⟩:∃sb,Hid (sb=w1.heap.size):=⟨_,rfl⟩;have s0:V.cell? ⟨sb,0,none⟩=some (.int .i64 e)/\V.cell? ⟨sb,1,none⟩=some (.string ⟨d.toArray⟩)/\V.cell? ⟨mo,0,none⟩=some (.int .i64 e0)/\V.cell? ⟨mo,1,none⟩=some (.string ⟨d0.toArray⟩):=⟨by rw[hsb.out];exact v0,by rw[hsb.out];exact v1,y0,y1⟩;have lsV:sb<V.heap.size/\mo<V.heap.size:=⟨by rw[hsb.out];exact lV,Zo⟩;have SE:Hid (∀W,Below V.heap.size V W->W.cell? ⟨sb,0,none⟩=some (.int .i64 e)/\W.cell? ⟨sb,1,none⟩=some (.string ⟨d.toArray⟩)/\W.cell? ⟨mo,0,none⟩=some (.int .i64 e0)/\W.cell? ⟨mo,1,none⟩=some (.string ⟨d0.toArray⟩)):=fun W b=>⟨(b.cell (p:=⟨sb,0,none⟩) lsV.1).trans s0.1,(b.cell (p:=⟨sb,1,none⟩) lsV.1).trans s0.2.1,(b.cell (p:=⟨mo,0,none⟩) lsV.2).trans s0.2.2.1,(b.cell (p:=⟨mo,1,none⟩) lsV.2).trans s0.2.2.2⟩
     have BD:Below V.heap.size V V.drew:=Zf.drew;have sD:=SE.out _ BD;have ZV:Hid (w1.heap.size=sb):=hsb.out.symm;clear v0 v1 y0 y1 lV
     go_wp2_with fail
     rw[<-hV,ZV.out];clear hV
     go_region_held3 (fun wx=>wx.cell? ⟨sb,0,none⟩=some (.int .i64 e)/\wx.cell? ⟨sb,1,none⟩=some (.string ⟨d.toArray⟩)/\wx.cell? ⟨mo,0,none⟩=some (.int .i64 e0)/\wx.cell? ⟨mo,1,none⟩=some (.string ⟨d0.toArray⟩)) (first|exact s0|exact sD|exact SE.out _ (BD.step16 (belR _ _) BD.size)) (first
      |(go_at_call_of 164 (Value.int IntKind.i64 e0);go_loud (refine(K1 _).mono ?_);rintro _ _ ⟨rfl,rfl⟩)
      |(go_at_call_of 164 (Value.int IntKind.i64 (n0:Int));go_loud (refine(K2 _).mono ?_);rintro _ _ ⟨rfl,rfl⟩)
      |(go_at_call 165;go_loud (refine(K3 _).mono ?_);rintro _ _ ⟨rfl,rfl⟩)
      |(go_at_call 163;go_loud (refine(K4 _ (.slice (some ⟨V.heap.size,0,none⟩) 3 3) (rdI_lit2 (w:=V.drew) [x1,x2,x3] rfl rfl rfl Zd)).mono ?_);rintro _ _ ⟨rfl,rfl⟩))
     rename_i hU
     obtain⟨U,hUU⟩:∃U,U=(V.alloc (.cells #[.int .i64 x1,.int .i64 x2,.int .i64 x3] 3)).drew:=⟨_,rfl⟩;have bU:Below V.heap.size V U:=by rw[hUU];exact(belR _ _).drew
     rw[<-hUU]at hU ⊢;clear hUU s0 sD SE BD K1 K2 K3 K4 ZV;have b1U:Below w1.heap.size w1 U:=bV.step16 bU bV.size;have mbl:=hrg1.owns.lt;have rU:U.ranges Tryz.prog 177 (plainElem Tryz.prog 3) mb it k D (fun z=>left z&& !z.sameKey (kL e d)) cn1:=ranges_blocks hrg1 (b1U.block mb mbl) (b1U.block it lmi1.2);have fU:∀j,U.frozen? ⟨mo,j,none⟩=false:=fun j=>(b1U.frozen (p:=⟨mo,j,none⟩) lmi1.1).trans (yf1 j)
     have TU:Hid (TurnG (fun x=>x=mo∨x=it) w0 U):=HT.out.trans (Below.turnG b1U _);obtain⟨q0,q1,q2,q3⟩:=hU;have f0U:=fU 0;have f1U:=fU 1;clear bV bU b1U hrg1 hen yf1 HT hsb
     by_cases hz:0<Z
     ·have EN:Hid (Elec S (lfP (fun z=>left z&& !z.sameKey (kL e d))) e n d):=ET.out hz;obtain⟨X,hX⟩:∃X,X=(U.setCell ⟨mo,0,none⟩ (.int .i64 e)).setCell ⟨mo,1,none⟩ (.string ⟨d.toArray⟩):=⟨_,rfl⟩;obtain⟨oX,x0,x1',xf⟩:=setC2 q2 q3 hX;have rX:X.ranges Tryz.prog 177 (plainElem Tryz.prog 3) mb it k D (fun z=>left z&& !z.sameKey (kL e d)) cn1:=ranges_blocks rU (oX.block mb nmb.1) (oX.block it nmi.symm);have fX:∀j,X.frozen? ⟨mo,j,none⟩=false:=fun j=>(xf j).trans (fU j)
      have TX:Hid (TurnG (fun x=>x=mo∨x=it) w0 X):=TU.out.trans (Only.turnG oX (Or.inl rfl));have LX:Hid (X.rangeLeft mb it=cn1):=rX.left_eq;clear ET EP rU TU oX xf
      go_wp2_with fail
      rw[<-hX];clear hX;go_roundw
      case rel=>exact⟨_,cn1,e,n,d,rfl,rX,EN,x0,x1',fX,TX,hn9⟩
      case measure=>
       have a1:=LX.out;have a2:=HQ.out;have a3:=HM.out;rw[a1,a2];exact a3
     ·have EN:Hid (Elec S (lfP (fun z=>left z&& !z.sameKey (kL e d))) e0 n0 d0):=EP.out Zo;have LX:Hid (U.rangeLeft mb it=cn1):=rU.left_eq;clear ET EP
      go_wp2_with fail
      go_roundw
      case rel=>exact⟨_,cn1,e0,n0,d0,rfl,rU,EN,q2,q3,fU,TU,hn0⟩
      case measure=>
       have a1:=LX.out;have a2:=HQ.out;have a3:=HM.out;rw[a1,a2];exact a3
end Go.Proofs.YtclieefpnbdbjaaGreat.Gf
namespace Go.Proofs.YtclieefpnbdbjaaGreat.Gf
set_option linter.unusedVariables false
set_option linter.unusedSimpArgs false
open Go.RowKit Go.Shelf
theorem okL17_say{a:ArS}{ad:Int}:OkL17 (sayL a ad):=fun i hi hs=>by
 rw[sayL_length]at hi;rw[sF_say hi]at hs ⊢;obtain⟨_,⟨h1,h2⟩,h3⟩:=(say_ok hs).1;exact⟨h1,h2,h3⟩
theorem RpRow.say{w:World}{g n:Nat}{a:ArS}{ad:Int}(hn:n=a.D.length)(h:RpRow w g n (fun i=>rpS (sayV a ad i))):RpRow w g n (fun i=>rpS (sF (sayL a ad) i)):=h.congr fun i hi=>by rw[sF_say (by rw[<-hn];exact hi)]
theorem lay5{w:World}{a b c d e:Value}{t:Nat}:(w.alloc (.cells #[a,b,c,d,e] t)).cell? ⟨w.heap.size,0,none⟩=some a/\(w.alloc (.cells #[a,b,c,d,e] t)).cell? ⟨w.heap.size,1,none⟩=some b/\(w.alloc (.cells #[a,b,c,d,e] t)).cell? ⟨w.heap.size,2,none⟩=some c/\(w.alloc (.cells #[a,b,c,d,e] t)).cell? ⟨w.heap.size,3,none⟩=some d/\(w.alloc (.cells #[a,b,c,d,e] t)).cell? ⟨w.heap.size,4,none⟩=some e/\Below w.heap.size w (w.alloc (.cells #[a,b,c,d,e] t))/\(∀j,(w.alloc (.cells #[a,b,c,d,e] t)).frozen? ⟨w.heap.size,j,none⟩=false)/\w.heap.size<(w.alloc (.cells #[a,b,c,d,e] t)).heap.size:=by
 have z:∀j,(w.alloc (.cells #[a,b,c,d,e] t)).cell? ⟨w.heap.size,j,none⟩= #[a,b,c,d,e][j]? :=fun j=>World.cell?_alloc_new _ _ _ _
 exact⟨z 0,z 1,z 2,z 3,z 4,belR _ _,fun j=>by simp[go_sem],Zs⟩
theorem vr_tail{p:Prop} (h:p:=by
 refine koH hK sF' fun hHeld=>?_
 clear hK K';refine tkH 11 ?_
 obtain⟨y0,y1,y2,y3,y4,yf⟩:=CY.out w4 (CV.out w4 bF);have f0:=yf 0;have f1:=yf 1;have f2:=yf 2;have f3:=yf 3;have f4:=yf 4;refine rnH 12 fun K' hK=>?_
 go_simp;obtain⟨X,hX⟩:∃X,X=((((w4.setCell ⟨rb,0,none⟩ (.bool (decide (0<N)))).setCell ⟨rb,1,none⟩ (.int .i64 E)).setCell ⟨rb,2,none⟩ (.slice (some ⟨bd,0,none⟩) D.length kF)).setCell ⟨rb,3,none⟩ (.int .i64 (N:Int))).setCell ⟨rb,4,none⟩ (.bool Z):=⟨_,rfl⟩;obtain⟨oX,x0,x1,x2,x3,x4⟩:=set5 y0 y1 y2 y3 y4 hX;have sX:=HKO.out _ _ oX sF';have F:Hid (TellsVF w (rvX a) (rvV a K ad) (.returned (.tuple #[.agg #[.bool (decide (0<N)),.int .i64 E,.slice (some ⟨bd,0,none⟩) D.length kF,.int .i64 (N:Int),.bool Z],.int .i64 0])) X):=by
  show TellsVF _ _ _ _ _
  have z1:=BV.size;have z2:=lF.out;have z3:=hrb.out;have z4:=LV.out;rw[HV.out.1,HV.out.2];refine⟨_,rfl,?_,fun x n' c' e=>?_,(BV.step16 bF BV.size).trans (oX.below Zo)⟩
  ·exact rF.only (apart_block Zo) oX
  ·simp at e;obtain⟨rfl,_⟩:=e;exact Or.inr (by show w.heap.size<=bd;omega)
 rw[<-hX];refine koH hK sX fun hHeld=>?_
 clear hK K' hX y0 y1 y2 y3 y4 yf f0 f1 f2 f3 f4 oX bF sF' rF lF;refine tkH 13 ?_
 refine wpAnyH_done Zk ?_ _
 clear sX HV HKO LV CY CV SE BV hHeld;go_wp2;exact bodyPost_ret (v:=.tuple #[.agg #[.bool (decide (0<N)),.int .i64 E,.slice (some ⟨bd,0,none⟩) D.length kF,.int .i64 (N:Int),.bool Z],.int .i64 0]) (by simp[results,x0,x1,x2,x3,x4,go_sem,Tryz.results69]) rfl F.out):p:=h
theorem vread17_any{w:World}{ab:Nat}{GA:Nat->Prop}{a:ArS}(h:ArAt w ab GA a){ad:Int}(ha:(Lit.int .i64 ad).wf=true){u:Value}{K:List Bool}(hk:RdB w u K):
  Calls Tryz.prog 69 #[.pointer (some ⟨ab,0,none⟩),u,.int .i64 ad] w (TellsVF w (rvX a) (rvV a K ad)):=by
 have d2:=h.ok.d2;obtain⟨W,hW⟩:∃W,W=w.alloc (.cells #[.bool false,.int .i64 0,.slice none 0 0,.int .i64 0,.bool false] 130):=⟨_,rfl⟩;obtain⟨y0,y1,y2,y3,y4,BW,yf,lW⟩:=@lay5 w (.bool false) (.int .i64 0) (.slice none 0 0) (.int .i64 0) (.bool false) 130;rw[<-hW]at y0 y1 y2 y3 y4 BW yf lW;have KQ:=vask_any (h.below BW) ha;have HK:Hid (RdB w u K):=hk;obtain⟨ua,uc,eu⟩:=hk.form;subst eu;obtain⟨n,hn⟩:∃n,Hid (n=a.D.length):=⟨_,rfl⟩;rw[<-hn.out]at d2;obtain⟨rb,hrb⟩:∃rb,Hid (rb=w.heap.size):=⟨_,rfl⟩;rw[<-hrb.out]at y0 y1 y2 y3 y4 yf lW;clear h hk
 go_enter Tryz.func69,Tryz.ntmps69
 go_wp2_with fail
 rw[<-hW,<-hrb.out];clear hW;refine KQ.mono ?_
 have CY:Hid (∀W1,Below W.heap.size W W1->W1.cell? ⟨rb,0,none⟩=some (.bool false)/\W1.cell? ⟨rb,1,none⟩=some (.int .i64 0)/\W1.cell? ⟨rb,2,none⟩=some (.slice none 0 0)/\W1.cell? ⟨rb,3,none⟩=some (.int .i64 0)/\W1.cell? ⟨rb,4,none⟩=some (.bool false)/\∀j,W1.frozen? ⟨rb,j,none⟩=false):=fun W1 b=>
  ⟨(b.cell (p:=⟨rb,0,none⟩) lW).trans y0,(b.cell (p:=⟨rb,1,none⟩) lW).trans y1,(b.cell (p:=⟨rb,2,none⟩) lW).trans y2,(b.cell (p:=⟨rb,3,none⟩) lW).trans y3,(b.cell (p:=⟨rb,4,none⟩) lW).trans y4,fun j=>(b.frozen (p:=⟨rb,j,none⟩) lW).trans (yf j)⟩
 clear y0 y1 y2 y3 y4 yf;rintro _ w1 (⟨ho,va,vn,vc,rfl,B1⟩|⟨ho,g,rfl,R1,lg,B1⟩)
 ·obtain⟨y0,y1,y2,y3,y4,yf⟩:=CY.out w1 B1;have f0:=yf 0;have f1:=yf 1;have f2:=yf 2;have f3:=yf 3;have f4:=yf 4;obtain⟨X,hX⟩:∃X,X=((((w1.setCell ⟨rb,0,none⟩ (.bool false)).setCell ⟨rb,1,none⟩ (.int .i64 0)).setCell ⟨rb,2,none⟩ (.slice none 0 0)).setCell ⟨rb,3,none⟩ (.int .i64 0)).setCell ⟨rb,4,none⟩ (.bool false):=⟨_,rfl⟩;obtain⟨oX,x0,x1,x2,x3,x4⟩:=set5 y0 y1 y2 y3 y4 hX;have F:Hid (TellsVF w (rvX a) (rvV a K ad) (.returned (.tuple #[.agg #[.bool false,.int .i64 0,.slice none 0 0,.int .i64 0,.bool false],.int .i64 130])) X):=by
   have e1:rvX a=130:=if_pos ho;have e2:rvV a K ad=noV:=if_pos ho
   show TellsVF _ _ _ _ _
   rw[e1,e2];exact⟨_,rfl,Or.inl ⟨none,0,rfl,rfl,Zl,fun _=>rfl⟩,FarV.nil _ _ _,(BW.step16 B1 BW.size).trans (oX.below (by rw[hrb.out];exact Zr))⟩
  clear KQ CY B1 ho oX yf BW;go_wp2;rw[<-hX];clear hX;exact bodyPost_ret (v:=.tuple #[.agg #[.bool false,.int .i64 0,.slice none 0 0,.int .i64 0,.bool false],.int .i64 130]) (by simp[results,Tryz.results69,go_sem,x0,x1,x2,x3,x4]) rfl F.out
 ·rw[<-hn.out]at R1 ⊢;have KE:=elected_any (S:=sayL a ad) (by rw[sayL_length];exact hn.out) Zo okL17_say (RpRow.say hn.out R1);clear KQ
  go_wp2_with fail
  refine KE.mono ?_
  rintro _ w2 ⟨rfl,B2⟩;clear KE;have HV:Hid (rvX a=0/\rvV a K ad=⟨decide (0<elN (sayL a ad)),elE (sayL a ad),elD (sayL a ad),elN (sayL a ad),wiF (sayL a ad) K n⟩):=by
   have e0:rvV a K ad=votS (sayL a ad) K:=by unfold rvV;rw[if_neg (by rw[ho];decide)]
   refine⟨if_neg (by rw[ho];decide),?_⟩;rw[e0,vot_same,el_has (sayL a ad) [],hn.out,sayL_length]
  have hDl:Hid ((elD (sayL a ad)).length<=maxLen):=by
   show _<=_
   by_cases q:0<elN (sayL a ad)
   ·rcases vo_or (sayL a ad)with h|⟨e,d,h⟩
    ·unfold elD;rw[vo_none h []];exact Zz
    ·have:OkSe ad e d.length:=top_se h
     unfold elD;rw[vo_top h []];have:=this.2.2
     show d.length<=_
     unfold maxLen;omega
   ·rcases vo_or (sayL a ad)with h|⟨e,d,h⟩
    ·unfold elD;rw[vo_none h []];exact Zz
    ·have:OkSe ad e d.length:=top_se h
     unfold elD;rw[vo_top h []];have:=this.2.2
     show d.length<=_
     unfold maxLen;omega
  have RS:=RpRow.say hn.out R1;generalize elE (sayL a ad)=E at HV;generalize elD (sayL a ad)=D at HV hDl;generalize elN (sayL a ad)=N at HV;have B12:Below W.heap.size W w2:=B1.step16 B2 B1.size;have BW2:Below w.heap.size w w2:=BW.step16 B12 BW.size;obtain⟨V,hV⟩:∃V,V=w2.alloc (.cells #[.int .i64 E,.string ⟨D.toArray⟩] 177):=⟨_,rfl⟩;have bV:Below w2.heap.size w2 V:=by rw[hV];exact belR _ _
  have v0:V.cell? ⟨w2.heap.size,0,none⟩=some (.int .i64 E):=by rw[hV];exact World.cell?_alloc_new _ _ _ _
  have v1:V.cell? ⟨w2.heap.size,1,none⟩=some (.string ⟨D.toArray⟩):=by rw[hV];exact World.cell?_alloc_new _ _ _ _
  have lV:w2.heap.size<V.heap.size:=by rw[hV];simp
  obtain⟨ob,hob⟩:∃ob,Hid (ob=w2.heap.size):=⟨_,rfl⟩;rw[<-hob.out]at v0 v1 lV;have RV:=(RS.below B2).below bV;have BV:Below w.heap.size w V:=BW2.step16 bV BW2.size;have KI:=fun W2 (b:Below V.heap.size V W2)=>iswit_any (RV.below b) Zo (HK.out.below (BV.step16 b BV.size))
  generalize wiF (sayL a ad) K n=Z at HV KI;have s0:V.cell? ⟨ob,0,none⟩=some (.int .i64 E)/\V.cell? ⟨ob,1,none⟩=some (.string ⟨D.toArray⟩):=⟨v0,v1⟩;have SE:Hid (∀W2,Below V.heap.size V W2->W2.cell? ⟨ob,0,none⟩=some (.int .i64 E)/\W2.cell? ⟨ob,1,none⟩=some (.string ⟨D.toArray⟩)):=fun W2 b=>⟨(b.cell (p:=⟨ob,0,none⟩) lV).trans v0,(b.cell (p:=⟨ob,1,none⟩) lV).trans v1⟩
  have BD:Below V.heap.size V V.drew:=Zf.drew;have sD:=SE.out _ BD;have HKO:Hid (∀W2 W3,Only rb W2 W3->(W2.cell? ⟨ob,0,none⟩=some (.int .i64 E)/\W2.cell? ⟨ob,1,none⟩=some (.string ⟨D.toArray⟩))->(W3.cell? ⟨ob,0,none⟩=some (.int .i64 E)/\W3.cell? ⟨ob,1,none⟩=some (.string ⟨D.toArray⟩))):=by
   have ne:ob≠rb:=by rw[hob.out,hrb.out];have:=B12.size;rw[hrb.out]at lW;omega
   exact fun W2 W3 o k=>⟨(o.cell (p:=⟨ob,0,none⟩) ne).trans k.1,(o.cell (p:=⟨ob,1,none⟩) ne).trans k.2⟩
  have LV:Hid (rb<V.heap.size):=by show _<_;have:=B12.size;have:=bV.size;omega
  have CV:Hid (∀W2,Below V.heap.size V W2->Below W.heap.size W W2):=fun W2 b=>(B12.step16 bV B12.size).step16 b (B12.step16 bV B12.size).size
  have CC:Hid (∀Y,∃c U,(convert 9 42 (.string ⟨D.toArray⟩)).run Tryz.prog Y= .ok (.slice (some ⟨Y.heap.size,0,none⟩) D.length c) U/\Rd U (.slice (some ⟨Y.heap.size,0,none⟩) D.length c) D/\Below Y.heap.size Y U/\Y.heap.size<U.heap.size):=fun Y=>conv_key Y D hDl.out
  clear R1 RS B1 B2 B12 bV v0 v1 RV
  go_wp2_with fail
  rw[<-hV,<-hob.out];clear hV;obtain⟨kF,U1,e1,r1,bU1,lU1⟩:=CC.out V.drew;have b1:Below V.heap.size V U1:=BD.step16 bU1 BD.size;have s1:=SE.out _ b1;obtain⟨y0,y1,y2,y3,y4,yf⟩:=CY.out _ (CV.out _ b1);refine wp_region_held_drew (S:=fun wx=>wx.cell? ⟨ob,0,none⟩=some (.int .i64 E)/\wx.cell? ⟨ob,1,none⟩=some (.string ⟨D.toArray⟩)) Zk sD (fun hHeld=>?_);refine tkH 0 ?_
  refine tkH 1 ?_
  refine tkH 2 ?_
  refine tkH 3 ?_
  refine tkH 4 ?_
  refine tkH 5 ?_
  refine tkH 7 ?_
  refine tkH 8 ?_
  refine tkH 9 ?_
  refine rmH 6 10 (fun K' hK=>?_) (fun K' hK=>?_)
  ·go_simp;refine koH hK s1 fun hHeld=>?_
   clear hK K';refine rnH 10 fun K' hK=>?_
   go_simp
   go_at_call 116
   refine(KI _ b1).mono ?_
   rintro _ w4 ⟨rfl,B4⟩;dsimp only;have bF:=b1.step16 B4 b1.size;have sF':=SE.out _ bF;have rF:=r1.below B4;obtain⟨bd,hbd⟩:∃bd,Hid (bd=V.heap.size):=⟨_,rfl⟩;have lF:Hid (V.heap.size<=bd):=by show _<=_;rw[hbd.out];exact Zr
   rw[show V.drew.heap.size=V.heap.size from rfl,<-hbd.out]at rF;rw[<-hbd.out];clear e1 r1 bU1 lU1 b1 s1 B4 hbd KI sD BD s0 y0 y1 y2 y3 y4 yf CC lV;exact vr_tail
  ·go_simp
   go_at_call 116
   refine(KI _ BD).mono ?_
   rintro _ w3 ⟨rfl,B3⟩;dsimp only;have b3:=BD.step16 B3 BD.size;have s3:=SE.out _ b3;refine koH hK s3 fun hHeld=>?_
   clear hK K';obtain⟨kF,w4,e3,r3,bU3,lU3⟩:=CC.out w3;have bF:=b3.step16 bU3 b3.size;have sF':=SE.out _ bF;refine rnH 6 fun K' hK=>?_
   go_simp;obtain⟨bd,hbd⟩:∃bd,Hid (bd=w3.heap.size):=⟨_,rfl⟩;have lF:Hid (V.heap.size<=bd):=by show _<=_;rw[hbd.out];exact b3.size
   have rF:=r3;rw[<-hbd.out]at rF ⊢;clear e1 r1 bU1 lU1 b1 s1 hbd KI sD BD s0 y0 y1 y2 y3 y4 yf CC lV e3 r3 bU3 lU3 B3 b3 s3;exact vr_tail
end Go.Proofs.YtclieefpnbdbjaaGreat.Gf
namespace Go.Proofs.YtclieefpnbdbjaaGreat.Gf
set_option linter.unusedVariables false
set_option linter.unusedSimpArgs false
open Go.RowKit
structure SaV where
 s:SaS
 vs:Value
instance:Inhabited SaV:=⟨⟨default,.slice none 0 0⟩⟩
def sL(L:List SaV):List SaS:=L.map SaV.s
theorem sL_length(L:List SaV):(sL L).length=L.length:=by simp[sL]
theorem sL_at(L:List SaV)(i:Nat):sF (sL L) i=(L.getD i default).s:=by
 unfold sF sL
 by_cases h:i<L.length
 ·simp[List.getD,h]
 ·simp[List.getD,Nat.le_of_not_lt h];rfl
structure SaAt(w:World)(b off:Nat)(c:SaV):Prop where
 c0:w.cell? ⟨b,off,none⟩=some (.bool c.s.is)
 c1:w.cell? ⟨b,off+1,none⟩=some (.bool c.s.no)
 c2:w.cell? ⟨b,off+2,none⟩=some (.int .i64 c.s.ep)
 c3:w.cell? ⟨b,off+3,none⟩=some c.vs
 rd:Rd w c.vs c.s.da
theorem SaAt.below{w w':World}{b off:Nat}{c:SaV}(h:SaAt w b off c)(hb:b<w.heap.size)(hw:Below w.heap.size w w'):SaAt w' b off c:=
 ⟨(hw.cell (p:=⟨b,off,none⟩) hb).trans h.c0,(hw.cell (p:=⟨b,off+1,none⟩) hb).trans h.c1,(hw.cell (p:=⟨b,off+2,none⟩) hb).trans h.c2,(hw.cell (p:=⟨b,off+3,none⟩) hb).trans h.c3,h.rd.below hw⟩
def RdSa(w:World)(v:Value)(L:List SaV):Prop:=
 (∃ao cap,L=[]/\v= .slice ao 0 cap)∨(∃b off cap,L≠[]/\v= .slice (some ⟨b,off,none⟩) L.length cap/\L.length<=maxLen/\b<w.heap.size/\∀i,i<L.length->SaAt w b (off+i*4) (L.getD i default))
theorem RdSa.below{w w':World}{v:Value}{L:List SaV}(h:RdSa w v L)(hb:Below w.heap.size w w'):RdSa w' v L:=by
 rcases h with h|⟨b,off,cap,h1,h2,h3,h5,h6⟩
 ·exact Or.inl h
 ·exact Or.inr ⟨b,off,cap,h1,h2,h3,Zu h5 hb.size,fun i hi=>(h6 i hi).below h5 hb⟩
theorem RdSa.form{w:World}{v:Value}{L:List SaV}(h:RdSa w v L):∃a c,v= .slice a L.length c:=by
 rcases h with⟨a,c,rfl,rfl⟩|⟨b,off,c,_,rfl,_⟩
 ·exact⟨a,c,rfl⟩
 ·exact⟨_,c,rfl⟩
theorem RdSa.at{w:World}{a:Option Addr}{n c:Nat}{L:List SaV}(h:RdSa w (.slice a n c) L){i:Nat}(hi:i<L.length):∃b off,a=some ⟨b,off,none⟩/\b<w.heap.size/\SaAt w b (off+i*4) (L.getD i default):=by
 rcases h with⟨_,_,h1,_⟩|⟨b,off,cp,h1,h2,h3,h5,h6⟩
 ·rw[h1]at hi;simp at hi
 ·simp at h2;exact⟨b,off,h2.1,h5,h6 i hi⟩
def fourS(c:SaV):List Value:=[.bool c.s.is,.bool c.s.no,.int .i64 c.s.ep,c.vs]
def cellsS:List SaV->List Value
 |[]=>[]
 |c::L=>fourS c++cellsS L
theorem cellsS_append(L M:List SaV):cellsS (L++M)=cellsS L++cellsS M:=by
 induction L with
 |nil=>rfl
 |cons c L ih=>show fourS c++cellsS (L++M)=fourS c++cellsS L++cellsS M;rw[ih,List.append_assoc]
theorem cellsS_at(L:List SaV){i j:Nat}(hi:i<L.length)(hj:j<4):(cellsS L)[i*4+j]? =(fourS (L.getD i default))[j]? :=by
 induction L generalizing i with
 |nil=>simp at hi
 |cons c L ih=>
  show(fourS c++cellsS L)[i*4+j]? =_
  have h4:(fourS c).length=4:=rfl
  rcases i with _|i
  ·rw[List.getElem?_append_left (by rw[h4];omega),Nat.zero_mul,Nat.zero_add];rfl
  ·rw[List.getElem?_append_right (by rw[h4];omega),h4,show(i+1)*4+j-4=i*4+j by omega,ih (by simpa using hi)];rfl
def NearV(base lim:Nat)(v u:Value):Prop:=∀x n c,u= .slice (some x) n c->n=0∨(base<=x.block/\x.block<lim/\v.ownBlock≠some x.block)
structure OwnSa(w:World)(base:Nat)(v:Value)(L:List SaV):Prop where
 row:w.ownsRow base 229 4 v L.length (cellsS L)
 ea:∀c∈L,Rd w c.vs c.s.da
 ap:∀c∈L,NearV base w.heap.size v c.vs
theorem OwnSa.nil(w:World)(base:Nat):OwnSa w base (.slice none 0 0) []:=⟨World.ownsRow_nil _ _ _ _,(fun c hc=>by cases hc),(fun c hc=>by cases hc)⟩
theorem OwnSa.rd{w:World}{base:Nat}{v:Value}{L:List SaV}(h:OwnSa w base v L)(hl:L.length<=1000000):RdSa w v L:=by
 by_cases h0:L=[]
 ·subst h0;obtain⟨_,⟨e,_⟩|⟨g,cap,cur,e,_⟩⟩:=h.row
  ·exact Or.inl ⟨none,0,rfl,e⟩
  ·exact Or.inl ⟨_,cap,rfl,e⟩
 ·have hpos:0<L.length:=List.length_pos_iff.2 h0;have hr:=h.row;obtain⟨_,⟨e,hn⟩|⟨g,cap,cur,rfl,hg,hh,hc,hm,hs,ht⟩⟩:=h.row
  ·omega
  ·refine Or.inr ⟨g,0,cap,h0,rfl,Zl,(Zv hr g rfl).2,fun i hi=>?_⟩;have hmem:L.getD i default∈L:=by rw[List.getD_eq_getElem?_getD,List.getElem?_eq_getElem hi];exact List.getElem_mem hi
   have cc:∀j,j<4->w.cell? ⟨g,i*4+j,none⟩=(fourS (L.getD i default))[j]? :=fun j hj=>(World.ownsRow.cellAt hr (i*4+j) Zo).trans (cellsS_at L hi hj)
   refine⟨?_,?_,?_,?_,h.ea _ hmem⟩
   ·rw[Nat.zero_add];exact cc 0 Zo
   ·rw[Nat.zero_add];exact cc 1 Zo
   ·rw[Nat.zero_add];exact cc 2 Zo
   ·rw[Nat.zero_add];exact cc 3 Zo
theorem row_later17{w w':World}{base e s n:Nat}{v:Value}{xs:List Value}(h:w.ownsRow base e s v n xs)(t:Below w.heap.size w w'):w'.ownsRow base e s v n xs:=by
 obtain⟨h0,h|⟨g2,cap,cur,hv,hgg,hh,r⟩⟩:=h
 ·exact⟨h0,Or.inl h⟩
 ·have hlt:g2<w.heap.size:=(Array.getElem?_eq_some_iff.1 hh).1;exact⟨h0,Or.inr ⟨g2,cap,cur,hv,hgg,by rw[t.block g2 hlt];exact hh,r⟩⟩
theorem NearV.mono{base lim lim':Nat}{v u:Value}(h:NearV base lim v u)(hl:lim<=lim'):NearV base lim' v u:=fun x n c e=>(h x n c e).imp id fun q=>⟨q.1,Zo,q.2.2⟩
theorem OwnSa.later{w w':World}{base:Nat}{v:Value}{L:List SaV}(h:OwnSa w base v L)(t:Below w.heap.size w w'):OwnSa w' base v L:=
 ⟨row_later17 h.row t,fun c hc=>(h.ea c hc).below t,fun c hc=>(h.ap c hc).mono t.size⟩
theorem Rd.groV{w w':World}{base lim:Nat}{v v' x:Value}{p:List UInt8}(h:Rd w x p)(g:Gro w v w' v')(hn:NearV base lim v x):Rd w' x p:=by
 rcases h with h|⟨b,off,cap,h1,rfl,h3,h4,h5,h6⟩
 ·exact Or.inl h
 ·have hp:p.length≠0:=fun e=>h1 (List.length_eq_zero_iff.1 e)
  have ne:=((hn _ _ _ rfl).resolve_left hp).2.2;exact Or.inr ⟨b,off,cap,h1,rfl,h3,h4,Zu h5 g.gr.size,fun i hi=>(g.cell (p:=⟨b,off+i,none⟩) h5 ne).trans (h6 i hi)⟩
theorem info_said:(Tryz.prog.info? 229).map (fun i=>(i.zero,i.size,i.bytes))=some (some (.agg #[.bool false,.bool false,.int .i64 0,.slice none 0 0]),4,40):=Zk
theorem info_said':∃i,Tryz.prog.info? 229=some i/\i.zero=some (.agg #[.bool false,.bool false,.int .i64 0,.slice none 0 0])/\i.size=4/\i.bytes=40:=by
 have h:=info_said;cases e:Tryz.prog.info? 229 with
 |none=>rw[e]at h;cases h
 |some i=>
  rw[e]at h;simp only[Option.map_some,Option.some.injEq,Prod.mk.injEq]at h;exact⟨i,rfl,h.1,h.2.1,h.2.2⟩
theorem run_append_sa{w W:World}{base b:Nat}{v:Value}{L:List SaV}{c:SaV}(ty:TypeId)(h:OwnSa w base v L)(hc:Rd w c.vs c.s.da)(ha:NearV base w.heap.size v c.vs)(hv1:c.vs.oneCell'=true)(hW:W=w.alloc (.cells #[.bool c.s.is,.bool c.s.no,.int .i64 c.s.ep,c.vs] 229))(hb:b=w.heap.size)(hl:L.length<=100000)(hbase:base<=w.heap.size):
  ∃v' w',(Builtin.append_ #[194,194] ty #[v,.slice (some ⟨b,0,none⟩) 1 1]).run Tryz.prog W= .ok v' w'/\OwnSa w' base v' (L++[c])/\Gro w v w' v':=by
 subst hW hb;obtain⟨i,hi,hz,hs,hy⟩:=info_said';obtain⟨v',w',hrun,h2,h3,_,h5⟩:=run_append_own_at (P:=Tryz.prog) (w.alloc (.cells #[.bool c.s.is,.bool c.s.no,.int .i64 c.s.ep,c.vs] 229)) base 194 ty 229 i (.agg #[.bool false,.bool false,.int .i64 0,.slice none 0 0]) 4 40 Tryz.underlying194 hi hz hs hy rfl Zd v L.length (cellsS L) (World.ownsRow.alloc h.row _) ⟨w.heap.size,0,none⟩ 1 1 (fourS c) rfl
  (by intro j y hj;rw[add_at,Nat.zero_add,World.cell?_alloc_new,<-hj];unfold fourS;simp) (by
   intro y hy;simp only[fourS,List.mem_cons,List.not_mem_nil,or_false]at hy
   rcases hy with rfl|rfl|rfl|rfl
   ·rfl
   ·rfl
   ·rfl
   ·exact hv1) Zl Zo Zm
 have G:Gro w v w' v':=(Gro.bel v (belR w _)).trans (Gro.of h3 h5);have key:∀u,NearV base w.heap.size v u->NearV base w'.heap.size v' u:=fun u hu x n c e=>(hu x n c e).imp id fun q=>⟨q.1,Zu q.2.1 G.gr.size,G.ne q.2.1 q.2.2⟩
 refine⟨v',w',hrun,⟨?_,?_,?_⟩,G⟩
 ·rw[List.length_append,cellsS_append]
  have:cellsS [c]=fourS c:=by show fourS c++[]=_;rw[List.append_nil]
  rw[this];exact h2
 ·intro d hd
  rcases List.mem_append.1 hd with hd|hd
  ·exact(h.ea d hd).groV G (h.ap d hd)
  ·simp only[List.mem_singleton]at hd;subst hd;exact hc.groV G ha
 ·intro d hd
  rcases List.mem_append.1 hd with hd|hd
  ·exact key _ (h.ap d hd)
  ·simp only[List.mem_singleton]at hd;subst hd;exact key _ ha
theorem wpList_append_sa{w W:World}{base b:Nat}{v:Value}{L:List SaV}{c:SaV}{ops:Array Oper}{rest:List Oper}{o:Oper}{a:Act}{Q:Exit->Act->World->Prop}(hgd:o.guard=none)(s x:Operand)
  (ho:o.op= .call {callee:=.builtin .append,args:=#[s,x],argTypes:=#[194,194]}) (hs:a.eval s=v) (hx:a.eval x= .slice (some ⟨b,0,none⟩) 1 1)
  (h:OwnSa w base v L) (hc:Rd w c.vs c.s.da) (ha:NearV base w.heap.size v c.vs) (hv1:c.vs.oneCell'=true) (hW:W=w.alloc (.cells #[.bool c.s.is,.bool c.s.no,.int .i64 c.s.ep,c.vs] 229)) (hb:b=w.heap.size) (hl:L.length<=100000) (hbase:base<=w.heap.size)
  (k:∀v' w',OwnSa w' base v' (L++[c])->Gro w v w' v'->wpList Tryz.prog ops Q rest (a.put o.dst v') w'):wpList Tryz.prog ops Q (o::rest) a W:=by
 refine wpList_plain hgd fun K hK=>?_
 obtain⟨v',w',hrun,h2,h3⟩:=run_append_sa o.type h hc ha hv1 hW hb hl hbase;unfold Oper.wp execOp;simp only[ho,resolve,invoke,builtin,Sem.run_bind,Sem.run_pure,Result.andThen_ok,List.map_toArray,List.map_cons,List.map_nil,hs,hx,hrun];exact hK _ _ (k v' w' h2 h3)
end Go.Proofs.YtclieefpnbdbjaaGreat.Gf
