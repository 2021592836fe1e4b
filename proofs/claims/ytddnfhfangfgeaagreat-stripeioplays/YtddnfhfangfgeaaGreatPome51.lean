/- TEXTS JOINED: StCQ, StCc, StCU. -/
import Derived.Test.YtddnfhfangfgeaaGreatPome50
import Derived.Test.YtddnfhfangfgeaaGreatPome27
import Derived.Test.YtddnfhfangfgeaaGreatPome49
set_option maxHeartbeats 4000000
set_option maxRecDepth 100000
namespace Go.Proofs.YtddnfhfangfgeaaGreat.Gf
set_option linter.unusedVariables false
set_option linter.unusedSimpArgs false
open Go.RowKit
theorem alP_in{a:ArS}{g:GeoS}{st ep:Int}:∀i,i∈alP a g st ep->i<nT g:=fun i hi=>shP_in i hi
theorem MakesT15.off{w w':World}{n:Nat}{L:Nat->List UInt8}{H:Nat->Bool}{e:Ending}(h:MakesT15 w true n L H e w'):MakesOff15 w e w':=h.1 rfl
theorem MakesT15.on{w w':World}{n:Nat}{L:Nat->List UInt8}{H:Nat->Bool}{e:Ending}(h:MakesT15 w false n L H e w'):MakesOn15 w n L H e w':=h.2 rfl
theorem pput_any{w:World}{ab fb:Nat}{GA:Nat->Prop}{a:ArS}(h:ArAt w ab GA a)(hF:FieldAt w fb){g:GeoS}(hg:g.Wf){st ep:Int}(hst:(Lit.int .i64 st).wf=true)(hT:OkT g st ep)(hz:g.z<=300):
  Calls Tryz.prog 61 #[aggP (some ⟨ab,0,none⟩) (some ⟨fb,0,none⟩) g st ep] w (MakesA15 w (rtX a g st ep) (rtR a g st ep) (rtB a g st ep)):=by
 have zz:=okG_nat hT.1;have KR:=fun W (hA:ArAt W ab GA a)=>pread_any (pf:=some ⟨fb,0,none⟩) hA hg hst hT
 cases ho:a.off with
 |true=>
  obtain⟨e1,e2,e3⟩:=rtX_off hT ho;rw[e1,e2,e3];rw[ho]at KR;clear e1 e2 e3 ho zz hz hT;obtain⟨k,m,z,s,t,o⟩:=g;have LB:=spot_laid w (some ⟨ab,0,none⟩) (some ⟨fb,0,none⟩) ⟨k,m,z,s,t,o⟩ st ep 103;unfold aggP at KR ⊢;simp only[cellsP]at KR LB ⊢;obtain⟨x0,x1,x2,x3,x4,x5,x6,x7,x8,x9⟩:=(LB _ (Below.refl _ _)).1.all;simp only at x0 x1 x2 x3 x4 x5 x6 x7 x8 x9;have K1:=KR _ (h.below (LB _ (Below.refl _ _)).2)
  go_enter Tryz.func61,Tryz.ntmps61
  go_wp2_with fail
  refine K1.mono ?_
  rintro _ v1 q;obtain⟨va,vb,rfl,b1⟩:=q.off;have F1:Hid (Below w.heap.size w v1):=(LB _ b1).2;clear x0 x1 x2 x3 x4 x5 x6 x7 x8 x9 K1 KR b1 LB q;go_wp2;refine bodyPost_ret (v:=.tuple #[.slice none 0 0,.slice none 0 0,.int .i64 130]) (by simp[results,Tryz.results61,go_sem]) rfl ?_
  exact nilA15 F1.out ⟨rfl,rfl,rfl⟩
 |false=>
  rw[ho]at KR;have eX:rtX a g st ep=if shX g.k g.m (hsT a g st ep) (dsT a g st)=0 then 0 else 150:=by
   unfold rtX;rw[if_pos hT];exact al_ok ho
  obtain⟨s1,s2,s3⟩:=@ls_sh a g st ep;rw[<-s1]at eX;have KE:=fun W (v1 v2:Value) (hh:RdB W v1 (hsT a g st ep)) (hl:Rs W v2 (shdT a g st ep)) (hf:FieldAt W fb)=>esh_far (k:=g.k) (m:=g.m) hf hh hl (fun i hi=>by
   have hi2:i<nT g:=by rw[<-hsT_length (a:=a) (st:=st) (ep:=ep)];exact hb_in hi
   unfold shdT;rw[ro_mkL hi2];have:=ls_len (a:=a) (st:=st) (ep:=ep) hT.1 i;omega)
  rw[s2,s3]at KE;obtain⟨X,hX⟩:∃X,Hid (X=shX g.k g.m (hsT a g st ep) (shdT a g st ep)):=⟨_,rfl⟩;rw[<-hX.out]at eX KE;obtain⟨n,hn⟩:∃n,Hid (n=nT g):=⟨_,rfl⟩;have hn':Hid (n=nT g):=hn;have n1:1<=n/\n<=32:=by rw[hn.out];exact⟨nT_pos hT.1,zz.2.2.2.2.1⟩
  obtain⟨AP,hAP⟩:∃AP,Hid (AP=alP a g st ep):=⟨_,rfl⟩;obtain⟨AL,hAL⟩:∃AL,Hid (AL=alR a g st ep):=⟨_,rfl⟩;rw[<-hAP.out,<-hAL.out]at KE;have HPn:Hid (∀i,i∈AP->i<n):=fun i hi=>by rw[hAP.out]at hi;rw[hn.out];exact alP_in i hi
  have HPl:Hid (AP.length<=1000):=by
   show _<=_
   rw[hAP.out];unfold alP shP
   split
   ·rw[plc_length];have:=cnt_le (hurtP g.k.toNat g.m.toNat (hsT a g st ep) (dsT a g st) (oneX (hsT a g st ep) (dsT a g st)).toNat) (g.k.toNat+g.m.toNat);have:=zz.2.2.2.2.1;unfold nT at this;omega
   ·simp
  have KB:=fun W (hA:ArAt W ab GA a) (gh:Nat) (H:Nat->Bool) (hr:W.rowIs gh 4 n (fun i=>.bool (H i)))=>pbad_any (pf:=some ⟨fb,0,none⟩) hA hg hst hT hr hn.out
  have HRD:Hid (∀W gs gh V,TwoL W gs gh n V (shdF a g st ep) (hsF a g st ep)->Rs W (.slice (some ⟨gs,0,none⟩) n n) (shdT a g st ep)/\RdB W (.slice (some ⟨gh,0,none⟩) n n) (hsT a g st ep)):=fun W gs gh V hV=>by
   refine⟨?_,?_⟩
   ·unfold shdT;rw[<-hn'.out];exact hV.rsOf
   ·unfold hsT;rw[<-hn'.out];exact hV.rdB
  have RR:Hid (X=0->rtX a g st ep=0/\rtR a g st ep=AL/\rtB a g st ep=plc (fun i=> !gdF a g st ep AP i&&lvT a (diG g st (i:Int))) n):=fun e=>by
   have r0:rtX a g st ep=0:=by rw[eX,if_pos e]
   refine⟨r0,?_,?_⟩
   ·unfold rtR;rw[if_pos r0,hAL.out]
   ·unfold rtB bdT;rw[if_pos r0,hn'.out,hAP.out];unfold plc;exact List.filter_congr fun i _=>bd_gd i
  have RN:Hid (¬X=0->rtX a g st ep=150/\rtR a g st ep=[]/\rtB a g st ep=[]):=fun e=>by
   have r0:rtX a g st ep=150:=by rw[eX,if_neg e]
   refine⟨r0,?_,?_⟩
   ·unfold rtR;rw[r0,if_neg (by decide)]
   ·unfold rtB;rw[r0,if_neg (by decide)]
  have GD0:Hid (∀i,hsF a g st ep i=gdF a g st ep (AP.take 0) i):=fun i=>(gd_nil i).symm
  have GDs:Hid (∀r,r<AP.length->∀i,gdF a g st ep (AP.take (r+1)) i=if i=AP.getD r 0 then false else gdF a g st ep (AP.take r) i):=fun r hr i=>by
   rw[take_getD hr];exact gd_snoc _ _ _
  rw[<-hn.out]at KR;obtain⟨fX,hfX⟩:∃x,Hid (x=rtX a g st ep):=⟨_,rfl⟩;obtain⟨fR,hfR⟩:∃x,Hid (x=rtR a g st ep):=⟨_,rfl⟩;obtain⟨fB,hfB⟩:∃x,Hid (x=rtB a g st ep):=⟨_,rfl⟩;rw[<-hfX.out,<-hfR.out,<-hfB.out]at RR RN;rw[<-hfX.out,<-hfR.out,<-hfB.out];obtain⟨GD,hGD⟩:∃GD:List Nat->Nat->Bool,Hid (GD=gdF a g st ep):=⟨_,rfl⟩;rw[<-hGD.out]at RR GD0 GDs;clear hfX hfR hfB eX s1 s2 s3 hX zz hz ho hn hn' hAP hAL hGD;obtain⟨LF,hLF⟩:∃LF,Hid (LF=shdF a g st ep):=⟨_,rfl⟩;obtain⟨HF,hHF⟩:∃HF,Hid (HF=hsF a g st ep):=⟨_,rfl⟩;rw[<-hLF.out,<-hHF.out]at KR HRD;rw[<-hHF.out]at GD0;obtain⟨DG,hDG⟩:∃DG:Nat->Bool,Hid (DG=fun i:Nat=>lvT a (diG g st (i:Int))):=⟨_,rfl⟩;have KB':∀W (hA:ArAt W ab GA a) (gh:Nat) (H:Nat->Bool) (hr:W.rowIs gh 4 n (fun i=>.bool (H i))),Calls Tryz.prog 95 #[aggP (some ⟨ab,0,none⟩) (some ⟨fb,0,none⟩) g st ep,.slice (some ⟨gh,0,none⟩) n n] W fun e w'=>∃v,e= .returned v/\OwnI w' W.heap.size 3 v (plc (fun i=> !H i&&DG i) n)/\Below W.heap.size W w':=fun W hA gh H hr=>by rw[hDG.out];exact KB W hA gh H hr
  have RR':Hid (X=0->fX=0/\fR=AL/\fB=plc (fun i=> !GD AP i&&DG i) n):=by rw[hDG.out];exact RR
  clear KB RR hDG hLF hHF;obtain⟨HSL,hHSL⟩:∃x,Hid (x=hsT a g st ep):=⟨_,rfl⟩;obtain⟨SDL,hSDL⟩:∃x,Hid (x=shdT a g st ep):=⟨_,rfl⟩;rw[<-hHSL.out,<-hSDL.out]at KE HRD;clear hHSL hSDL hT;obtain⟨k,m,z,s,t,o⟩:=g;simp only at KE;have LB:=spot_laid w (some ⟨ab,0,none⟩) (some ⟨fb,0,none⟩) ⟨k,m,z,s,t,o⟩ st ep 103;unfold aggP at KR KB' ⊢;simp only[cellsP]at KR KB' LB ⊢;obtain⟨W0,hW0⟩:∃W0,W0=w.alloc (.cells #[.pointer (some ⟨ab,0,none⟩),.pointer (some ⟨fb,0,none⟩),.int .i64 k,.int .i64 m,.int .i64 z,.int .i64 s,.int .i64 t,.int .i64 o,.int .i64 st,.int .i64 ep] 103):=⟨_,rfl⟩;rw[<-hW0]at LB;have gb:Hid (w.heap.size<W0.heap.size):=by rw[hW0];show _<_;simp
  obtain⟨x0,x1,x2,x3,x4,x5,x6,x7,x8,x9⟩:=(LB _ (Below.refl _ _)).1.all;simp only at x0 x1 x2 x3 x4 x5 x6 x7 x8 x9;have K1:=KR _ (h.below (LB _ (Below.refl _ _)).2);have HA:Hid (ArAt w ab GA a):=h;have HFd:Hid (FieldAt w fb):=hF;clear h hF
  go_enter Tryz.func61,Tryz.ntmps61
  go_wp2_with fail
  rw[<-hW0];clear hW0;refine K1.mono ?_
  rintro _ v1 q;obtain⟨gs,gh,V,rfl,V1,l1,l2,b1⟩:=q.on;clear x0 x1 x2 x3 x4 x5 x6 x7 x8 x9 K1 KR q;obtain⟨SP1,F1⟩:=LB _ b1;obtain⟨x0,x1,x2,x3,x4,x5,x6,x7,x8,x9⟩:=SP1.all;simp only at x0 x1 x2 x3 x4 x5 x6 x7 x8 x9;obtain⟨R1,H1⟩:=HRD.out _ _ _ _ V1;have K2:=KE _ _ _ H1 R1 (HFd.out.belowF F1);have RH1:Hid (v1.rowIs gh 4 n (fun i=>.bool (GD (AP.take 0) i))):=V1.rh.congr fun i _=>by rw[GD0.out i]
  have HGH:Hid (W0.heap.size<=gh/\gh<v1.heap.size):=⟨l2,V1.rh.lt⟩;clear R1 H1 V1 l1 l2 KE HRD
  by_cases hX0:X=0
  rotate_left
  ·have E9:Hid _:=RN.out hX0
   go_wp2_with fail
   refine K2.mono ?_
   rintro _ v2 ⟨va,vd,rfl,R2,O2,b2⟩;have F2:Hid (Below w.heap.size w v2):=F1.stepL b2 F1.size;obtain⟨aa,ac,rfl⟩:=R2.form;obtain⟨da,dc,rfl⟩:=O2.form;clear x0 x1 x2 x3 x4 x5 x6 x7 x8 x9 K2 R2 O2 b1 b2 SP1 F1 LB;go_wp2;refine bodyPost_ret (v:=.tuple #[.slice none 0 0,.slice none 0 0,.int .i64 150]) (by simp[results,Tryz.results61,go_sem]) rfl ?_
   exact nilA15 F2.out E9.out
  have E9:Hid _:=RR'.out hX0;subst hX0
  go_wp2_with fail
  refine K2.mono ?_
  rintro _ v2 ⟨va,vd,rfl,R2,O2,b2⟩;have B2:Below W0.heap.size W0 v2:=b1.stepL b2 b1.size;have F2:=(LB _ B2).2;have SP2:Hid (SpotAt v2 w.heap.size (some ⟨ab,0,none⟩) (some ⟨fb,0,none⟩) ⟨k,m,z,s,t,o⟩ st ep):=(LB _ B2).1;obtain⟨aa,ac,rfl⟩:=R2.form;obtain⟨da,dc,rfl⟩:=O2.form;have RH2:Hid (v2.rowIs gh 4 n (fun i=>.bool (GD (AP.take 0) i))):=RH1.out.of_block (b2.block gh HGH.out.2);have HR2:Hid (FarL v2 v1.heap.size (.slice aa AL.length ac) AL):=R2;have HO2:Hid (OwnI v2 v1.heap.size 3 (.slice da AP.length dc) AP):=O2;have HF2:Hid (Below w.heap.size w v2):=F2;have HB1:Hid (w.heap.size<=v1.heap.size):=F1.size;clear x0 x1 x2 x3 x4 x5 x6 x7 x8 x9 K2 R2 O2 b1 b2 B2 F2 SP1 F1 LB RH1;go_wp2
  go_loopw [42] (fun i wr=>∃r:Nat,r<=AP.length/\i= .int .i64 (r:Int)/\wr.rowIs gh 4 n (fun i=>.bool (GD (AP.take r) i))/\Only gh v2 wr) (fun i _=>AP.length-(intOf i).toNat)
  case atStart=>exact⟨0,Nat.zero_le _,rfl,RH2.out,Only.refl _ _⟩
  case round=>
   clear RH2;obtain⟨r,hr,rfl,hR,hO⟩:=hrel
   by_cases hlt:r<AP.length
   ·have hlt':(r:Int)<(AP.length:Int):=by omega
    have g1:IntKind.i64.wrap ((r:Int)+1)=((r+1:Nat):Int):=by have:=HPl.out;rw[IntKind.wrap_i64];omega
    obtain⟨q,hq⟩:∃q,Hid (AP.getD r 0=q):=⟨_,rfl⟩;have hqn:q<n:=by rw[<-hq.out];exact HPn.out _ (getD_memN hlt)
    have hqn':(q:Int)<(n:Int):=by omega
    obtain⟨gd,rfl,_,_,ci⟩:=(HO2.out.only hO HGH.out.2).cell hlt;rw[hq.out]at ci;have cq:=hR.cell hqn;have fq:=hR.frozen q;have E3:Hid ((wr.setCell ⟨gh,q,none⟩ (.bool false)).rowIs gh 4 n (fun i=>.bool (GD (AP.take (r+1)) i))/\Only gh v2 (wr.setCell ⟨gh,q,none⟩ (.bool false))):=by
     refine⟨(hR.set q (.bool false)).congr fun i _=>?_,hO.setCell _ _⟩;rw[GDs.out r hlt i,hq.out]
     by_cases e:i=q
     ·rw[if_pos e,if_pos e]
     ·rw[if_neg e,if_neg e]
    clear hR hO;go_wp2;go_roundw
    case rel=>exact⟨r+1,by omega,by go_num,E3.out.1,E3.out.2⟩
    case measure=>simp[intOf];omega
   ·obtain rfl:r=AP.length:=by omega
    have hlt':¬(AP.length:Int)<(AP.length:Int):=by omega
    rw[List.take_of_length_le (Nat.le_refl _)]at hR;have ne:¬w.heap.size=gh:=by have:=HGH.out;have:=gb.out;omega
    have SPr:=SP2.out.turn (G:=fun k=>k=gh) ne (Only.turnG hO rfl);obtain⟨x0,x1,x2,x3,x4,x5,x6,x7,x8,x9⟩:=SPr.all;simp only at x0 x1 x2 x3 x4 x5 x6 x7 x8 x9;have FB:Below w.heap.size w wr:=HF2.out.trans (hO.below (by have:=HGH.out;have:=gb.out;omega));have K3:=KB' _ (HA.out.below FB) gh _ hR;have HFr:Hid (FarL wr v1.heap.size (.slice aa AL.length ac) AL):=HR2.out.only hO HGH.out.2;clear hR hO SPr KB'
    go_wp2_with fail
    refine K3.mono ?_
    rintro _ v4 ⟨vb,rfl,O4,b4⟩;have E4:Hid (OwnI v4 w.heap.size 3 vb fB/\FarL v4 w.heap.size (.slice aa AL.length ac) AL/\Below w.heap.size w v4):=by
     refine⟨?_,(HFr.out.later b4).rebase HB1.out,FB.stepL b4 FB.size⟩;rw[E9.out.2.2];exact ownsRow_base O4 FB.size
    obtain⟨oa,oc,rfl⟩:=O4.form;obtain⟨LN,hLN⟩:∃LN,Hid (LN=(plc (fun i=> !GD AP i&&DG i) n).length):=⟨_,rfl⟩;rw[<-hLN.out]at E4 ⊢;clear O4 b4 FB K3 x0 x1 x2 x3 x4 x5 x6 x7 x8 x9;go_wp2;refine bodyPost_ret (v:=.tuple #[.slice aa AL.length ac,.slice oa LN oc,.int .i64 0]) (by simp[results,Tryz.results61,go_sem]) rfl ?_
    exact⟨_,_,by rw[E9.out.1],by rw[E9.out.2.1];exact E4.out.2.1,E4.out.1,E4.out.2.2⟩
theorem zeroCells_u8(k:Nat):Builtin.zeroCells #[Value.int .u8 0] k=(List.replicate k (Value.int .u8 0)).toArray:=by
 apply Array.ext';unfold Builtin.zeroCells;simp only[Array.toList_map,Array.toList_range];refine List.ext_getElem (by simp) fun i h1 h2=>?_
 simp[Nat.mod_one]
theorem info_u8c:(Tryz.prog.info? 5).map (fun i=>(i.zero,i.size,i.bytes))=some (some (.int .u8 0),1,1):=by kernel_rfl
theorem growb_any{n:Nat}{w:World}(hl:n<=1000000){x:Int}(hx:x=(n:Int)):Calls Tryz.prog 96 #[.slice none 0 0,.int .i64 x] w fun e w'=>∃v,e= .returned v/\w'.ownsRow w.heap.size 5 1 v 0 []/\Below w.heap.size w w':=by
 subst hx;have hb8:Tryz.t5.bytes=1:=by kernel_rfl
 have h1:¬(281474976710656:Int)<(n:Int)*(Tryz.t5.bytes:Int):=by
  have:∀q:Nat,q=1->¬(281474976710656:Int)<(n:Int)*(q:Int):=fun q hq=>by subst hq;omega
  exact this _ hb8
 have hnn:¬(n:Int)<0:=by omega
 by_cases h0:n=0
 ·subst h0;clear hb8
  go_enter Tryz.func96,Tryz.ntmps96
  go_wp2;go_ret;exact⟨_,rfl,World.ownsRow_nil _ _ _ _,Below.refl _ _⟩
 ·have hpos:0<n:=by omega
  have h2:¬(281474976710656:Nat)<Builtin.nextslicecap n 0*Tryz.t5.bytes:=by
   have h3:=growslice_fits (need:=n) (old:=0) (bytes:=1) (by omega) (by omega)
   have:∀q:Nat,q=1->¬(281474976710656:Nat)<Builtin.nextslicecap n 0*q:=fun q hq=>by subst hq;omega
   exact this _ hb8
  clear hb8;have hge:=grownCap_ge w n 0 5;have hle:=grownCap_le_maxLen w n 0 5 (by unfold maxLen;omega);unfold grownCap at hge hle
  go_enter Tryz.func96,Tryz.ntmps96
  go_wp2
  all_goals try omega
  go_ret;refine⟨_,rfl,⟨rfl,.inr ⟨w.heap.size,_,_,rfl,Nat.le_refl _,heap_alloc_new w _,Nat.zero_le _,hle,?_,rfl⟩⟩,?_⟩
  ·rw[zeroCells_u8,zeroCells_u8];simp;omega
  ·exact((Below.refl _ _).alloc (Nat.le_refl _) _).drew
theorem flat_take15{L:List (List UInt8)}{r:Nat}(h:r<L.length):(L.take (r+1)).flatten=(L.take r).flatten++ro L r:=by
 rw[List.take_add_one,List.flatten_append,ro_some h];simp
theorem flat_mono{L:List (List UInt8)}(r:Nat):(L.take r).flatten.length<=L.flatten.length:=by
 have:=congrArg (fun M=>M.flatten.length) (List.take_append_drop r L);simp only[List.flatten_append,List.length_append]at this;omega
theorem ccatb_any{w:World}{v:Value}{L:List (List UInt8)}(hR:Rs w v L)(hl:L.flatten.length<=1000000)(hl2:L.length<=1000):
  Calls Tryz.prog 62 #[v] w fun e w'=>∃v',e= .returned v'/\w'.ownsRow w.heap.size 5 1 v' L.flatten.length (L.flatten.map vb)/\Below w.heap.size w w':=by
 obtain⟨i0,hi,hz0,hz1,hz2⟩:=info_parts info_u8c;obtain⟨a1,c1,rfl⟩:=hR.form;obtain⟨N,hN⟩:∃N,Hid (N=L.flatten.length):=⟨_,rfl⟩;have hN6:N<=1000000:=by rw[hN.out];exact hl
 have n2:¬(N:Int)<0:=by omega
 have HR:Hid (Rs w (.slice a1 L.length c1) L):=hR;obtain⟨FL,hFL⟩:∃FL,Hid (FL=L.flatten):=⟨_,rfl⟩;rw[<-hFL.out];clear hR hl
 go_enter Tryz.func62,Tryz.ntmps62
 go_wp2_with fail
 go_loopw [3,11] (fun s i wr=>∃r:Nat,r<=L.length/\i= .int .i64 (r:Int)/\s= .int .i64 (((L.take r).flatten.length:Nat):Int)/\wr=w) (fun _ i _=>L.length-(intOf i).toNat)
 case atStart=>exact⟨0,by omega,rfl,rfl,rfl⟩
 case round=>
  obtain⟨r,hr,rfl,rfl,rfl⟩:=hrel
  by_cases hlt:r<L.length
  ·have hlt':(r:Int)<(L.length:Int):=by omega
   have g1:IntKind.i64.wrap ((r:Int)+1)=((r+1:Nat):Int):=by rw[IntKind.wrap_i64];omega
   obtain⟨xb,xo,xa,xc,rfl,_,cx,Rx⟩:=HR.out.at hlt;obtain⟨LN,hLN⟩:∃LN,Hid (LN=(ro L r).length):=⟨_,rfl⟩;obtain⟨S0,hS0⟩:∃S0,Hid (S0=(L.take r).flatten.length):=⟨_,rfl⟩;obtain⟨S1,hS1⟩:∃S1,Hid (S1=(L.take (r+1)).flatten.length):=⟨_,rfl⟩;have eS:S0+LN=S1:=by rw[hS0.out,hLN.out,hS1.out,flat_take15 hlt,List.length_append]
   have bS:S1<=1000000:=by rw[hS1.out];have:=flat_mono (L:=L) (r+1);have:=hN.out;omega
   have w1:IntKind.i64.wrap ((S0:Int)+(LN:Int))=(S1:Int):=by rw[IntKind.wrap_i64];omega
   have n1:¬(S1:Int)<0:=by omega
   have HE:Hid (S0+LN=S1):=eS;rw[<-hLN.out]at cx Rx;rw[<-hS0.out];clear Rx eS;go_wp2;go_roundw
   case rel=>exact⟨r+1,by omega,by go_num,by rw[<-hS1.out],by first|rfl|trivial⟩
   case measure=>simp[intOf];omega
  ·obtain rfl:r=L.length:=by omega
   have hlt':¬(L.length:Int)<(L.length:Int):=by omega
   obtain⟨wo,hwo⟩:∃wo,wo=wr:=⟨_,rfl⟩;subst hwo;rw[List.take_of_length_le (Nat.le_refl _),<-hN.out]
   go_wp2_with fail
   refine(growb_any (n:=N) (by omega) rfl).mono ?_
   rintro e u1 ⟨v,rfl,O1,B1⟩;obtain⟨av,cv,rfl⟩:=owns_form O1;have HB0:Hid (Below wo.heap.size wo u1):=B1;have HO1:Hid (u1.ownsRow wo.heap.size 5 1 (.slice av 0 cv) (L.take 0).flatten.length ((L.take 0).flatten.map vb)):=O1;clear B1 O1
   go_wp2_with fail
   go_loopw [6,27] (fun o i wz=>∃r:Nat,r<=L.length/\i= .int .i64 (r:Int)/\wz.ownsRow wo.heap.size 5 1 o (L.take r).flatten.length ((L.take r).flatten.map vb)/\Below wo.heap.size wo wz) (fun _ i _=>L.length-(intOf i).toNat)
   case atStart=>exact⟨0,by omega,rfl,HO1.out,HB0.out⟩
   case round=>
    obtain⟨r,hr,rfl,hO,hB⟩:=hrel;clear HB0 HO1;have hsz:=hB.size;obtain⟨DD,hDD⟩:∃DD,Hid (DD=(L.take r).flatten):=⟨_,rfl⟩;rw[<-hDD.out]at hO;obtain⟨da,dc,rfl⟩:=owns_form hO
    by_cases hlt:r<L.length
    ·have hlt':(r:Int)<(L.length:Int):=by omega
     have g1:IntKind.i64.wrap ((r:Int)+1)=((r+1:Nat):Int):=by rw[IntKind.wrap_i64];omega
     obtain⟨xb,xo,xa,xc,rfl,_,cx,Rx⟩:=(HR.out.below hB).at hlt;obtain⟨LN,hLN⟩:∃LN,Hid (LN=(ro L r).length):=⟨_,rfl⟩;rw[<-hLN.out]at cx Rx;have hl9:Hid (DD.length+(ro L r).length<=1000000):=by
      have q1:=flat_mono (L:=L) (r+1);rw[flat_take15 hlt,List.length_append,<-hDD.out]at q1
      show _<=_
      have:=hN.out;omega
     go_wp2_with (at_builtin;go_loud (refine wpList_append_rd _ rfl (.tmp 31) (.tmp 32) 36 rfl wo.heap.size 5 i0 Tryz.underlying36 hi hz0 hz1 hz2 (.slice da DD.length dc) DD.length (DD.map vb) rfl hO (.slice xa LN xc) (ro L r) rfl Rx hl9.out hsz ?_);intro v5 w5 h5 g5)
     have H5:Hid (w5.ownsRow wo.heap.size 5 1 v5 (L.take (r+1)).flatten.length ((L.take (r+1)).flatten.map vb)):=by
      show World.ownsRow _ _ _ _ _ _ _
      rw[flat_take15 hlt,List.length_append,List.map_append,<-hDD.out];exact h5
     have B5:Hid (Below wo.heap.size wo w5):=hB.grown g5 hsz (fun q hq=>(World.ownsRow.lt hO q hq).1);clear hO h5 g5 cx Rx hB;go_wp2;go_roundw
     case rel=>exact⟨r+1,by omega,by go_num,H5.out,B5.out⟩
     case measure=>simp[intOf];omega
    ·obtain rfl:r=L.length:=by omega
     have hlt':¬(L.length:Int)<(L.length:Int):=by omega
     have e9:Hid ((L.take L.length).flatten=L.flatten):=by show _=_;rw[List.take_of_length_le (Nat.le_refl _)]
     have FO:Hid (wr.ownsRow wo.heap.size 5 1 (.slice da DD.length dc) FL.length (FL.map vb)):=by
      show World.ownsRow _ _ _ _ _ _ _
      rw[hFL.out,<-e9.out,<-hDD.out];exact hO
     have FB:Hid (Below wo.heap.size wo wr):=hB;clear hO hB e9;go_wp2
     try rw[Exit.noGoto_ret]
     go_ret;exact⟨_,rfl,FO.out,FB.out⟩
theorem sread_any{w:World}{ab fb:Nat}{GA:Nat->Prop}{a:ArS}(h:ArAt w ab GA a)(hF:FieldAt w fb){g:GeoS}(hg:g.Wf){st ep:Int}(hst:(Lit.int .i64 st).wf=true)(hz:okG g->g.z<=300):
  Calls Tryz.prog 24 #[.pointer (some ⟨ab,0,none⟩),.pointer (some ⟨fb,0,none⟩),aggG g,.int .i64 st,.int .i64 ep] w (MakesL15 w (rtX a g st ep) (rtD a g st ep) (rtB a g st ep)):=by
 have KS:=fun W=>@piss_any W (some ⟨ab,0,none⟩) (some ⟨fb,0,none⟩) g st ep _ rfl
 have KE:=fun W=>@pise_any W (some ⟨ab,0,none⟩) (some ⟨fb,0,none⟩) g st ep _ rfl
 obtain⟨x,hx⟩:∃x,Hid (ckT g st ep=x):=⟨_,rfl⟩;have KF:=fun W (vv:Value) (hr:RdB W vv [decide (0<=st/\st<g.s),decide (0<=ep/\ep<=2147483647)])=>@pref_any W g st ep ab fb hg vv _ hr (by simp) _ (rf_two.trans hx.out)
 obtain⟨b1,hb1⟩:∃b,Hid (b=decide (0<=st/\st<g.s)):=⟨_,rfl⟩;obtain⟨b2,hb2⟩:∃b,Hid (b=decide (0<=ep/\ep<=2147483647)):=⟨_,rfl⟩;rw[<-hb1.out]at KS KF;rw[<-hb2.out]at KE KF;clear hb1 hb2;have KP:=fun (hT:OkT g st ep) W (hA:ArAt W ab GA a) (hf:FieldAt W fb)=>pput_any hA hf hg hst hT (hz hT.1)
 by_cases hT:OkT g st ep
 rotate_left
 ·have c0:¬x=0:=by rw[<-hx.out];exact ckT_not hT
  have e1:rtX a g st ep=x:=by unfold rtX;rw[if_neg hT];exact hx.out
  have e2:rtD a g st ep=[]:=by unfold rtD;rw[e1,if_neg c0]
  have e3:rtB a g st ep=[]:=by unfold rtB;rw[e1,if_neg c0]
  rw[e1,e2,e3];clear e1 e2 e3 KP hx;obtain⟨k,m,z,s,t,o⟩:=g;have LB:=two_laid w (some ⟨ab,0,none⟩) (some ⟨fb,0,none⟩) ⟨k,m,z,s,t,o⟩ st ep 24 103;rw[show aggG ⟨k,m,z,s,t,o⟩= .agg #[.int .i64 k,.int .i64 m,.int .i64 z,.int .i64 s,.int .i64 t,.int .i64 o]from rfl];unfold aggP at KS KE KF;simp only[cellsP,cellsG]at KS KE KF LB;have LG:=geo_laid w ⟨k,m,z,s,t,o⟩ 24;obtain⟨⟨y0,y1,y2,y3,y4,y5⟩,_⟩:=LG _ (Below.refl _ _);simp only[cellsG]at y0 y1 y2 y3 y4 y5;have KF1:=KF;obtain⟨W1,hW1⟩:∃W1,W1=((w.alloc (.cells #[.int .i64 k,.int .i64 m,.int .i64 z,.int .i64 s,.int .i64 t,.int .i64 o] 24)).alloc (.cells #[.pointer (some ⟨ab,0,none⟩),.pointer (some ⟨fb,0,none⟩),.int .i64 k,.int .i64 m,.int .i64 z,.int .i64 s,.int .i64 t,.int .i64 o,.int .i64 st,.int .i64 ep] 103)):=⟨_,rfl⟩;rw[<-hW1]at LB;have SE:Hid (∀W,Below W1.heap.size W1 W->(W.cell? ⟨w.heap.size+1,0,none⟩=some (.pointer (some ⟨ab,0,none⟩))/\W.cell? ⟨w.heap.size+1,1,none⟩=some (.pointer (some ⟨fb,0,none⟩))/\W.cell? ⟨w.heap.size+1,2,none⟩=some (.int .i64 k)/\W.cell? ⟨w.heap.size+1,3,none⟩=some (.int .i64 m)/\W.cell? ⟨w.heap.size+1,4,none⟩=some (.int .i64 z)/\W.cell? ⟨w.heap.size+1,5,none⟩=some (.int .i64 s)/\W.cell? ⟨w.heap.size+1,6,none⟩=some (.int .i64 t)/\W.cell? ⟨w.heap.size+1,7,none⟩=some (.int .i64 o)/\W.cell? ⟨w.heap.size+1,8,none⟩=some (.int .i64 st)/\W.cell? ⟨w.heap.size+1,9,none⟩=some (.int .i64 ep))/\(W.cell? ⟨w.heap.size,0,none⟩=some (.int .i64 k)/\W.cell? ⟨w.heap.size,1,none⟩=some (.int .i64 m)/\W.cell? ⟨w.heap.size,2,none⟩=some (.int .i64 z)/\W.cell? ⟨w.heap.size,3,none⟩=some (.int .i64 s)/\W.cell? ⟨w.heap.size,4,none⟩=some (.int .i64 t)/\W.cell? ⟨w.heap.size,5,none⟩=some (.int .i64 o))):=fun W b=>⟨(LB W b).1.all,(LB W b).2.1⟩
  have FE:Hid (∀W,Below W1.heap.size W1 W->Below w.heap.size w W):=fun W b=>(LB W b).2.2
  have LBS:Hid (∀W,Below W1.heap.size W1 W->SpotAt W (w.heap.size+1) (some ⟨ab,0,none⟩) (some ⟨fb,0,none⟩) ⟨k,m,z,s,t,o⟩ st ep):=fun W b=>(LB W b).1
  clear LB LG KF
  go_enter Tryz.func24,Tryz.ntmps24
  go_upto_region 2 with fail
  rw[<-hW1];clear hW1 y0 y1 y2 y3 y4 y5;have s0:=(SE.out W1 (Below.refl _ _)).1;have BD:Below W1.heap.size W1 W1.drew:=(Below.refl _ _).drew;have sD:=(SE.out _ BD).1
  go_region_held3 (fun wx=>wx.cell? ⟨w.heap.size+1,0,none⟩=some (.pointer (some ⟨ab,0,none⟩))/\wx.cell? ⟨w.heap.size+1,1,none⟩=some (.pointer (some ⟨fb,0,none⟩))/\wx.cell? ⟨w.heap.size+1,2,none⟩=some (.int .i64 k)/\wx.cell? ⟨w.heap.size+1,3,none⟩=some (.int .i64 m)/\wx.cell? ⟨w.heap.size+1,4,none⟩=some (.int .i64 z)/\wx.cell? ⟨w.heap.size+1,5,none⟩=some (.int .i64 s)/\wx.cell? ⟨w.heap.size+1,6,none⟩=some (.int .i64 t)/\wx.cell? ⟨w.heap.size+1,7,none⟩=some (.int .i64 o)/\wx.cell? ⟨w.heap.size+1,8,none⟩=some (.int .i64 st)/\wx.cell? ⟨w.heap.size+1,9,none⟩=some (.int .i64 ep)) (first|exact s0|exact sD|exact s1|exact s2|exact s3 _ _|exact s4) (first
   |(go_at_call 50;go_loud (refine(KS _).mono ?_);rintro _ v1 ⟨rfl,c1⟩;have B1:Below W1.heap.size W1 v1:=BD.stepL c1 BD.size;have s1:=(SE.out _ B1).1)
   |(go_at_call 51;go_loud (refine(KE _).mono ?_);rintro _ v2 ⟨rfl,c2⟩;have B2:Below W1.heap.size W1 v2:=B1.stepL c2 B1.size;have s2:=(SE.out _ B2).1;have s3:=fun q e=>(SE.out (v2.alloc (.cells q e)) (B2.stepL (belL _ _) B2.size)).1;have B3:=fun q e=>B2.stepL (belL v2 (.cells q e)) B2.size)
   |(go_at_call 49;go_loud (refine(KF1 _ _ (rdB_lit [b1,b2] rfl rfl rfl (by simp))).mono ?_);rintro _ v4 ⟨rfl,c4⟩;have B4:Below W1.heap.size W1 v4:=(B3 _ _).stepL c4 (B3 _ _).size;have s4:=(SE.out _ B4).1))
  have FB:Hid (Below w.heap.size w v4):=FE.out _ B4;clear s0 sD s1 s2 s3 s4 c1 c2 c4 B1 B2 B3 B4 BD KS KE KF1;go_wp2;refine bodyPost_ret (v:=.tuple #[.slice none 0 0,.slice none 0 0,.int .i64 x]) (by simp[results,Tryz.results24,go_sem]) rfl ?_
  exact⟨_,_,rfl,World.ownsRow_nil _ _ _ _,OwnI.nil _ _ _,FB.out⟩
 have c0:x=0:=by rw[<-hx.out];exact ckT_ok hT
 subst c0;replace KP:=KP hT;have zz:=okG_nat hT.1;obtain⟨X,hX⟩:∃X,Hid (X=rtX a g st ep):=⟨_,rfl⟩;obtain⟨RR,hRR⟩:∃RR,Hid (RR=rtR a g st ep):=⟨_,rfl⟩;obtain⟨BB,hBB⟩:∃BB,Hid (BB=rtB a g st ep):=⟨_,rfl⟩;rw[<-hX.out,<-hRR.out,<-hBB.out]at KP;rw[<-hX.out,<-hBB.out];have HA:Hid (ArAt w ab GA a):=h;have HFd:Hid (FieldAt w fb):=hF;clear h hF
 by_cases hX0:X=0
 rotate_left
 ·have e2:rtD a g st ep=[]:=by unfold rtD;rw[if_neg (by rw[<-hX.out];exact hX0)]
  have e3:Hid (BB=[]):=by show _=_;rw[hBB.out];unfold rtB;rw[if_neg (by rw[<-hX.out];exact hX0)]
  rw[e2];clear e2 zz hX hRR hBB hx;obtain⟨k,m,z,s,t,o⟩:=g;have LB:=two_laid w (some ⟨ab,0,none⟩) (some ⟨fb,0,none⟩) ⟨k,m,z,s,t,o⟩ st ep 24 103;rw[show aggG ⟨k,m,z,s,t,o⟩= .agg #[.int .i64 k,.int .i64 m,.int .i64 z,.int .i64 s,.int .i64 t,.int .i64 o]from rfl];unfold aggP at KS KE KF;simp only[cellsP,cellsG]at KS KE KF LB;have LG:=geo_laid w ⟨k,m,z,s,t,o⟩ 24;obtain⟨⟨y0,y1,y2,y3,y4,y5⟩,_⟩:=LG _ (Below.refl _ _);simp only[cellsG]at y0 y1 y2 y3 y4 y5;have KF1:=KF;obtain⟨W1,hW1⟩:∃W1,W1=((w.alloc (.cells #[.int .i64 k,.int .i64 m,.int .i64 z,.int .i64 s,.int .i64 t,.int .i64 o] 24)).alloc (.cells #[.pointer (some ⟨ab,0,none⟩),.pointer (some ⟨fb,0,none⟩),.int .i64 k,.int .i64 m,.int .i64 z,.int .i64 s,.int .i64 t,.int .i64 o,.int .i64 st,.int .i64 ep] 103)):=⟨_,rfl⟩;rw[<-hW1]at LB;have SE:Hid (∀W,Below W1.heap.size W1 W->(W.cell? ⟨w.heap.size+1,0,none⟩=some (.pointer (some ⟨ab,0,none⟩))/\W.cell? ⟨w.heap.size+1,1,none⟩=some (.pointer (some ⟨fb,0,none⟩))/\W.cell? ⟨w.heap.size+1,2,none⟩=some (.int .i64 k)/\W.cell? ⟨w.heap.size+1,3,none⟩=some (.int .i64 m)/\W.cell? ⟨w.heap.size+1,4,none⟩=some (.int .i64 z)/\W.cell? ⟨w.heap.size+1,5,none⟩=some (.int .i64 s)/\W.cell? ⟨w.heap.size+1,6,none⟩=some (.int .i64 t)/\W.cell? ⟨w.heap.size+1,7,none⟩=some (.int .i64 o)/\W.cell? ⟨w.heap.size+1,8,none⟩=some (.int .i64 st)/\W.cell? ⟨w.heap.size+1,9,none⟩=some (.int .i64 ep))/\(W.cell? ⟨w.heap.size,0,none⟩=some (.int .i64 k)/\W.cell? ⟨w.heap.size,1,none⟩=some (.int .i64 m)/\W.cell? ⟨w.heap.size,2,none⟩=some (.int .i64 z)/\W.cell? ⟨w.heap.size,3,none⟩=some (.int .i64 s)/\W.cell? ⟨w.heap.size,4,none⟩=some (.int .i64 t)/\W.cell? ⟨w.heap.size,5,none⟩=some (.int .i64 o))):=fun W b=>⟨(LB W b).1.all,(LB W b).2.1⟩
  have FE:Hid (∀W,Below W1.heap.size W1 W->Below w.heap.size w W):=fun W b=>(LB W b).2.2
  have LBS:Hid (∀W,Below W1.heap.size W1 W->SpotAt W (w.heap.size+1) (some ⟨ab,0,none⟩) (some ⟨fb,0,none⟩) ⟨k,m,z,s,t,o⟩ st ep):=fun W b=>(LB W b).1
  clear LB LG KF;unfold aggP at KP;simp only[cellsP]at KP
  go_enter Tryz.func24,Tryz.ntmps24
  go_upto_region 2 with fail
  rw[<-hW1];clear hW1 y0 y1 y2 y3 y4 y5;have s0:=(SE.out W1 (Below.refl _ _)).1;have BD:Below W1.heap.size W1 W1.drew:=(Below.refl _ _).drew;have sD:=(SE.out _ BD).1
  go_region_held3 (fun wx=>wx.cell? ⟨w.heap.size+1,0,none⟩=some (.pointer (some ⟨ab,0,none⟩))/\wx.cell? ⟨w.heap.size+1,1,none⟩=some (.pointer (some ⟨fb,0,none⟩))/\wx.cell? ⟨w.heap.size+1,2,none⟩=some (.int .i64 k)/\wx.cell? ⟨w.heap.size+1,3,none⟩=some (.int .i64 m)/\wx.cell? ⟨w.heap.size+1,4,none⟩=some (.int .i64 z)/\wx.cell? ⟨w.heap.size+1,5,none⟩=some (.int .i64 s)/\wx.cell? ⟨w.heap.size+1,6,none⟩=some (.int .i64 t)/\wx.cell? ⟨w.heap.size+1,7,none⟩=some (.int .i64 o)/\wx.cell? ⟨w.heap.size+1,8,none⟩=some (.int .i64 st)/\wx.cell? ⟨w.heap.size+1,9,none⟩=some (.int .i64 ep)) (first|exact s0|exact sD|exact s1|exact s2|exact s3 _ _|exact s4) (first
   |(go_at_call 50;go_loud (refine(KS _).mono ?_);rintro _ v1 ⟨rfl,c1⟩;have B1:Below W1.heap.size W1 v1:=BD.stepL c1 BD.size;have s1:=(SE.out _ B1).1)
   |(go_at_call 51;go_loud (refine(KE _).mono ?_);rintro _ v2 ⟨rfl,c2⟩;have B2:Below W1.heap.size W1 v2:=B1.stepL c2 B1.size;have s2:=(SE.out _ B2).1;have s3:=fun q e=>(SE.out (v2.alloc (.cells q e)) (B2.stepL (belL _ _) B2.size)).1;have B3:=fun q e=>B2.stepL (belL v2 (.cells q e)) B2.size)
   |(go_at_call 49;go_loud (refine(KF1 _ _ (rdB_lit [b1,b2] rfl rfl rfl (by simp))).mono ?_);rintro _ v4 ⟨rfl,c4⟩;have B4:Below W1.heap.size W1 v4:=(B3 _ _).stepL c4 (B3 _ _).size;have s4:=(SE.out _ B4).1))
  have F4:=FE.out _ B4;have K5:=KP _ (HA.out.below F4) (HFd.out.belowF F4);obtain⟨x0,x1,x2,x3,x4,x5,x6,x7,x8,x9⟩:=s4;clear s0 sD s1 s2 s3 c1 c2 c4 B1 B2 B3 B4 BD KS KE KF1 KP
  go_wp2_with fail
  refine K5.mono ?_
  rintro _ v5 ⟨va,vb,rfl,R5,O5,b5⟩;have F5:Hid (Below w.heap.size w v5):=F4.stepL b5 F4.size;obtain⟨aa,ac,rfl⟩:=R5.form;obtain⟨oa,oc,rfl⟩:=O5.form;clear x0 x1 x2 x3 x4 x5 x6 x7 x8 x9 K5 R5 O5 b5 F4;go_wp2;refine bodyPost_ret (v:=.tuple #[.slice none 0 0,.slice none 0 0,.int .i64 X]) (by simp[results,Tryz.results24,go_sem]) rfl ?_
  exact⟨_,_,rfl,World.ownsRow_nil _ _ _ _,by rw[e3.out];exact OwnI.nil _ _ _,F5.out⟩
 subst hX0;obtain⟨rl1,rl2⟩:=rtR_row hT hX.out.symm;have eD:Hid (rtD a g st ep=(RR.take g.k.toNat).flatten):=by
  show _=_
  unfold rtD;rw[if_pos hX.out.symm,hRR.out];unfold rtR;rw[if_pos hX.out.symm]
 rw[eD.out];rw[<-hRR.out]at rl1 rl2;obtain⟨K,hK⟩:∃K,Hid (K=g.k.toNat):=⟨_,rfl⟩;have ek:g.k=(K:Int):=by rw[hK.out];exact zz.1.symm
 rw[<-hK.out];have hKR:Hid (K<=RR.length/\1<=K/\RR.length<=32):=by
  have:=zz.2.2.2.2.1;refine⟨?_,?_,?_⟩
  ·rw[hK.out,rl1];unfold nT;omega
  ·rw[hK.out];exact zz.2.2.2.1
  ·rw[rl1];exact this
 have hfl:Hid ((RR.take K).flatten.length<=1000000):=by
  show _<=_
  have hle:∀r,r<=K->(RR.take r).flatten.length<=r*300:=fun r=>by
   induction r with
   |zero=>intro _;simp
   |succ r ih=>
    intro hr;rw[flat_take15 (by have:=hKR.out;omega),List.length_append,Nat.add_mul,Nat.one_mul];have:=ih (by omega);have h2:=rl2 r (by rw[<-rl1];have:=hKR.out;omega);have:=hz hT.1;have:=zz.2.2.1;omega
  have:=hle K (Nat.le_refl _);have:=hKR.out
  have:K*300<=32*300:=Nat.mul_le_mul_right _ (by omega)
  omega
 obtain⟨FD,hFD⟩:∃FD,Hid (FD=(RR.take K).flatten):=⟨_,rfl⟩;rw[<-hFD.out];have KC:=fun W (vv:Value) (hr:Rs W vv (RR.take K))=>ccatb_any hr hfl.out (by rw[List.length_take];have:=hKR.out;omega)
 rw[<-hFD.out]at KC;clear zz rl1 rl2 eD hX hRR hBB hT hx hK;obtain⟨k,m,z,s,t,o⟩:=g;simp only at ek;subst ek;have LB:=two_laid w (some ⟨ab,0,none⟩) (some ⟨fb,0,none⟩) ⟨(K:Int),m,z,s,t,o⟩ st ep 24 103;rw[show aggG ⟨(K:Int),m,z,s,t,o⟩= .agg #[.int .i64 (K:Int),.int .i64 m,.int .i64 z,.int .i64 s,.int .i64 t,.int .i64 o]from rfl];unfold aggP at KS KE KF;simp only[cellsP,cellsG]at KS KE KF LB;have LG:=geo_laid w ⟨(K:Int),m,z,s,t,o⟩ 24;obtain⟨⟨y0,y1,y2,y3,y4,y5⟩,_⟩:=LG _ (Below.refl _ _);simp only[cellsG]at y0 y1 y2 y3 y4 y5;have KF1:=KF;obtain⟨W1,hW1⟩:∃W1,W1=((w.alloc (.cells #[.int .i64 (K:Int),.int .i64 m,.int .i64 z,.int .i64 s,.int .i64 t,.int .i64 o] 24)).alloc (.cells #[.pointer (some ⟨ab,0,none⟩),.pointer (some ⟨fb,0,none⟩),.int .i64 (K:Int),.int .i64 m,.int .i64 z,.int .i64 s,.int .i64 t,.int .i64 o,.int .i64 st,.int .i64 ep] 103)):=⟨_,rfl⟩;rw[<-hW1]at LB;have SE:Hid (∀W,Below W1.heap.size W1 W->(W.cell? ⟨w.heap.size+1,0,none⟩=some (.pointer (some ⟨ab,0,none⟩))/\W.cell? ⟨w.heap.size+1,1,none⟩=some (.pointer (some ⟨fb,0,none⟩))/\W.cell? ⟨w.heap.size+1,2,none⟩=some (.int .i64 (K:Int))/\W.cell? ⟨w.heap.size+1,3,none⟩=some (.int .i64 m)/\W.cell? ⟨w.heap.size+1,4,none⟩=some (.int .i64 z)/\W.cell? ⟨w.heap.size+1,5,none⟩=some (.int .i64 s)/\W.cell? ⟨w.heap.size+1,6,none⟩=some (.int .i64 t)/\W.cell? ⟨w.heap.size+1,7,none⟩=some (.int .i64 o)/\W.cell? ⟨w.heap.size+1,8,none⟩=some (.int .i64 st)/\W.cell? ⟨w.heap.size+1,9,none⟩=some (.int .i64 ep))/\(W.cell? ⟨w.heap.size,0,none⟩=some (.int .i64 (K:Int))/\W.cell? ⟨w.heap.size,1,none⟩=some (.int .i64 m)/\W.cell? ⟨w.heap.size,2,none⟩=some (.int .i64 z)/\W.cell? ⟨w.heap.size,3,none⟩=some (.int .i64 s)/\W.cell? ⟨w.heap.size,4,none⟩=some (.int .i64 t)/\W.cell? ⟨w.heap.size,5,none⟩=some (.int .i64 o))):=fun W b=>⟨(LB W b).1.all,(LB W b).2.1⟩
 have FE:Hid (∀W,Below W1.heap.size W1 W->Below w.heap.size w W):=fun W b=>(LB W b).2.2
 have LBS:Hid (∀W,Below W1.heap.size W1 W->SpotAt W (w.heap.size+1) (some ⟨ab,0,none⟩) (some ⟨fb,0,none⟩) ⟨(K:Int),m,z,s,t,o⟩ st ep):=fun W b=>(LB W b).1
 clear LB LG KF;unfold aggP at KP;simp only[cellsP]at KP
 go_enter Tryz.func24,Tryz.ntmps24
 go_upto_region 2 with fail
 rw[<-hW1];clear hW1 y0 y1 y2 y3 y4 y5;have s0:=(SE.out W1 (Below.refl _ _)).1;have BD:Below W1.heap.size W1 W1.drew:=(Below.refl _ _).drew;have sD:=(SE.out _ BD).1
 go_region_held3 (fun wx=>wx.cell? ⟨w.heap.size+1,0,none⟩=some (.pointer (some ⟨ab,0,none⟩))/\wx.cell? ⟨w.heap.size+1,1,none⟩=some (.pointer (some ⟨fb,0,none⟩))/\wx.cell? ⟨w.heap.size+1,2,none⟩=some (.int .i64 (K:Int))/\wx.cell? ⟨w.heap.size+1,3,none⟩=some (.int .i64 m)/\wx.cell? ⟨w.heap.size+1,4,none⟩=some (.int .i64 z)/\wx.cell? ⟨w.heap.size+1,5,none⟩=some (.int .i64 s)/\wx.cell? ⟨w.heap.size+1,6,none⟩=some (.int .i64 t)/\wx.cell? ⟨w.heap.size+1,7,none⟩=some (.int .i64 o)/\wx.cell? ⟨w.heap.size+1,8,none⟩=some (.int .i64 st)/\wx.cell? ⟨w.heap.size+1,9,none⟩=some (.int .i64 ep)) (first|exact s0|exact sD|exact s1|exact s2|exact s3 _ _|exact s4) (first
  |(go_at_call 50;go_loud (refine(KS _).mono ?_);rintro _ v1 ⟨rfl,c1⟩;have B1:Below W1.heap.size W1 v1:=BD.stepL c1 BD.size;have s1:=(SE.out _ B1).1)
  |(go_at_call 51;go_loud (refine(KE _).mono ?_);rintro _ v2 ⟨rfl,c2⟩;have B2:Below W1.heap.size W1 v2:=B1.stepL c2 B1.size;have s2:=(SE.out _ B2).1;have s3:=fun q e=>(SE.out (v2.alloc (.cells q e)) (B2.stepL (belL _ _) B2.size)).1;have B3:=fun q e=>B2.stepL (belL v2 (.cells q e)) B2.size)
  |(go_at_call 49;go_loud (refine(KF1 _ _ (rdB_lit [b1,b2] rfl rfl rfl (by simp))).mono ?_);rintro _ v4 ⟨rfl,c4⟩;have B4:Below W1.heap.size W1 v4:=(B3 _ _).stepL c4 (B3 _ _).size;have s4:=(SE.out _ B4).1))
 have F4:=FE.out _ B4;have HB4:Hid (Below W1.heap.size W1 v4):=B4;have K5:=KP _ (HA.out.below F4) (HFd.out.belowF F4);obtain⟨x0,x1,x2,x3,x4,x5,x6,x7,x8,x9⟩:=s4;clear s0 sD s1 s2 s3 c1 c2 c4 B1 B2 B3 B4 BD KS KE KF1 KP
 go_wp2_with fail
 refine K5.mono ?_
 rintro _ v5 ⟨va,vb,rfl,R5,O5,b5⟩;have F5:=F4.stepL b5 F4.size;have S5:=SE.out _ (HB4.out.stepL b5 HB4.out.size);have HO5:Hid (OwnI v5 v4.heap.size 3 vb BB):=O5;have HR5:Hid (Rs v5 va RR):=R5.rs;obtain⟨oa,oc,rfl⟩:=O5.form;obtain⟨aa,ac,rfl,q1,q2,q3,q4⟩:=R5.rs;obtain⟨xb,xo,xx,rfl,_,_,_⟩:=q4 0 (by have:=hKR.out;omega);have g1:K<=ac:=by have:=hKR.out;omega
 have g2:(K:Int)<=(ac:Int):=by omega
 have K6:=KC _ _ (HR5.out.first hKR.out.1);obtain⟨⟨x0,x1,x2,x3,x4,x5,x6,x7,x8,x9⟩,z0,z1,z2,z3,z4,z5⟩:=S5;have HF4:Hid (w.heap.size<=v4.heap.size):=F4.size;clear K5 R5 O5 b5 F4 KC q1 q2 q3 q4
 go_wp2_with fail
 refine K6.mono ?_
 rintro _ v6 ⟨vd,rfl,O6,b6⟩;have E6:Hid (v6.ownsRow w.heap.size 5 1 vd FD.length (FD.map Gf.vb)/\OwnI v6 w.heap.size 3 (.slice oa BB.length oc) BB/\Below w.heap.size w v6):=⟨ownsRow_base O6 F5.size,ownsRow_base (HO5.out.later b6) HF4.out,F5.stepL b6 F5.size⟩;obtain⟨da,dc,rfl⟩:=owns_form O6;clear K6 O6 b6 F5 x0 x1 x2 x3 x4 x5 x6 x7 x8 x9 z0 z1 z2 z3 z4 z5;go_wp2;refine bodyPost_ret (v:=.tuple #[.slice da FD.length dc,.slice oa BB.length oc,.int .i64 0]) (by simp[results,Tryz.results24,go_sem]) rfl ?_
 exact⟨_,_,rfl,E6.out.1,E6.out.2.1,E6.out.2.2⟩
end Go.Proofs.YtddnfhfangfgeaaGreat.Gf
