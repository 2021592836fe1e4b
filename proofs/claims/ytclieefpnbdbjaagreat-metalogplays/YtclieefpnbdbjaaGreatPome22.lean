/- JOINED: ReRefS, ReRefH, ReRefJ. -/
import Derived.Test.YtclieefpnbdbjaaGreatPome20
set_option maxHeartbeats 4000000
set_option maxRecDepth 100000
namespace Go.Proofs.YtclieefpnbdbjaaGreat.Gf
set_option linter.unusedVariables false
set_option linter.unusedSimpArgs false
open Go.RowKit
theorem info_bytesS:(Tryz.prog.info? 42).map (fun i=>(i.zero,i.size,i.bytes))=some (some (.slice none 0 0),1,24):=Zk
theorem info_bytesS':∃i,Tryz.prog.info? 42=some i/\i.zero=some (.slice none 0 0)/\i.size=1/\i.bytes=24:=by
 have h:=info_bytesS;cases e:Tryz.prog.info? 42 with
 |none=>rw[e]at h;cases h
 |some i=>
  rw[e]at h;simp only[Option.map_some,Option.some.injEq,Prod.mk.injEq]at h;exact⟨i,rfl,h.1,h.2.1,h.2.2⟩
theorem ownS{w:World}{B e:Nat}{v:Value}{p q:List UInt8}(h:OwnP w B e v p)(k:p=q):OwnP w B e v q:=k▸h
theorem Rd.gro16{w w':World}{v x:Value}{p:List UInt8}(h:Rd w x p)(g:w.grownBy w' v.ownBlock)(hne:∀k,x.ownBlock=some k->v.ownBlock≠some k):Rd w' x p:=by
 rcases h with h|⟨b,off,cap,h1,rfl,h3,h4,h5,h6⟩
 ·exact Or.inl h
 ·exact Or.inr ⟨b,off,cap,h1,rfl,h3,h4,Zu h5 g.size,fun i hi=>(Zc (w:=w) (a:=⟨b,off+i,none⟩) (g.block b h5 (fun e=>hne b rfl e.symm))).trans (h6 i hi)⟩
theorem par_step{p:Prop} (h:p:=by
 have oA:=World.ownsRow.alloc hP.row (.cells #[.slice ua k uc] 42);have bA:=hP.bl.step16 (belR wr (.cells #[.slice ua k uc] 42)) hP.bl.size;have cA:(wr.alloc (.cells #[.slice ua k uc] 42)).cell? ⟨wr.heap.size,0,none⟩=some (.slice ua k uc):=by rw[World.cell?_alloc_new];rfl
 go_wp2_with (at_builtin;(refine wpList_append_one _ rfl (.tmp 53) (.tmp 57) 140 rfl wb.heap.size 42 j0 Tryz.underlying140 hj hy0 hy1 hy2 _ _ _ rfl oA _ _ _ rfl cA rfl Zo bA.size ?_);intro v7 w7 h7 g7 e7;have C7:=bA.grown g7 bA.size (fun q hq=>(Zv oA q hq).1);clear g7 e7 oA bA cA)
 go_roundw
 case rel=>exact⟨_,_,_,by first|exact hr1|omega,by first|rfl|go_num,rfl,R2.out,⟨h7,C7,HV0.out,HV1.out⟩⟩
 case measure=>simp[intOf]):p:=h
structure Par16(N:Nat)(wb:World)(p:List UInt8)(wr:World)(ov:Value)(r:Nat)(vals:List Value):Prop where
 row:wr.ownsRow wb.heap.size 42 1 ov r vals
 bl:Below wb.heap.size wb wr
 v0:∀x,vals[0]? =some x->Rk N wb x (p.take 4096)
 v1:∀x,vals[1]? =some x->Rk N wb x ((p.drop 4096).take 4096)
theorem z22_1{p:Prop} (h:p:=by
 have HV1:Hid (∀x,(vals++[Value.slice ua k uc])[1]? =some x->Rk w.heap.size wb x ((Q.drop 4096).take 4096)):=by
  intro x hx;rw[List.length_eq_zero_iff.1 hlen]at hx;simp at hx
 clear R1 hu hq hcap;generalize (Q.drop (4096*0)).length=m at E1 E2 hm;exact par_step
 ):p:=h
theorem rsnap16_far{w:World}{v:Value}{L:List ObV}(h:RdO w v L)(hs:∀i,i<L.length->(L.getD i default).o.st.length<=1000000):Calls Tryz.prog 96 #[v] w (Snaps16F w L):=by
 have K0:=rmay16_any h hs;obtain⟨a,cp,rfl⟩:=h.form
 go_enter Tryz.func96,Tryz.ntmps96
 go_wp2_with fail
 refine K0.mono ?_
 rintro _ w2 ⟨x,rfl,hx,B2⟩;clear K0;have HX:Hid (x=true↔MayL (oL L)):=hx;clear hx;cases x with
 |false=>
  have N:Hid (¬MayL (oL L)):=fun q=>by have:=HX.out.2 q;cases this
  clear HX h hs;go_wp2;exact bodyPost_ret (v:=.tuple #[.slice none 0 0,.int .i64 1]) (by simp[results,Tryz.results96,go_sem]) rfl (Or.inr ⟨N.out,rfl,B2⟩)
 |true=>
  have Y:Hid (MayL (oL L)):=HX.out.1 rfl;clear HX;have l64:L.length<=64:=by have:=Y.out.1;rwa[oL_length]at this
  obtain⟨i0,hi,hz0,hz1,hz2⟩:=info_parts info_u8
  go_wp2_with fail
  refine(rtwo_any (n:=L.length) Zo rfl).mono ?_
  rintro _ w3 ⟨v3,rfl,o3',B3⟩;have o3:OwnP w3 w2.heap.size 5 v3 (tw L.length):=o3';clear o3';obtain⟨a3,c3,e3⟩:=owns_form o3;subst e3;have LB:Hid (∀r,(obsB ((oL L).take r)).length<=6000):=fun r=>obs_take Y.out r
  go_wp2_with fail
  go_loopw [5,6] (fun ov i wr=>∃r:Nat,r<=L.length/\i= .int .i64 (r:Int)/\OwnP wr w2.heap.size 5 ov (tw L.length++obsB ((oL L).take r))/\Hid (Below w2.heap.size w2 wr)) (fun _ i _=>L.length-(intOf i).toNat)
  case atStart=>exact⟨0,Zz,rfl,ownS o3 (by rw[List.take_zero,show obsB []=[]from rfl,List.append_nil]),B3⟩
  case round=>
   clear o3 B3;obtain⟨r,hr,rfl,hO,hB⟩:=hrel;obtain⟨Q,hQ⟩:∃Q,Hid (Q=tw L.length++obsB ((oL L).take r)):=⟨_,rfl⟩;have hQl:Q.length<=6002:=by rw[hQ.out,List.length_append,tw_length];have:=LB.out r;omega
   rw[<-hQ.out]at hO;obtain⟨oa,oc,rfl⟩:=owns_form hO;have BW:=B2.step16 hB.out B2.size
   by_cases hlt:r<L.length
   ·have hlt':(r:Int)<(L.length:Int):=by omega
    obtain⟨b,off,rfl,hb,cz⟩:=(h.below BW).at hlt;have ok:Hid (OkO (L.getD r default).o):=((may_up.1 Y.out).2.1 r hlt).1;have HQ2:Hid (Q++obB (L.getD r default).o=tw L.length++obsB ((oL L).take (r+1))):=by
     show _=_
     rw[hQ.out,obs_step hlt,List.append_assoc]
    have PK:=rput_any (c:=L.getD r default) (w:=wr) cz.rs;have IN:=cz.in_putM;generalize L.getD r default=c at cz ok HQ2 PK IN;obtain⟨⟨ky,ln,ep,st⟩,vs⟩:=c;obtain⟨a2,c2,e⟩:=cz.rs.form;simp only at e ok HQ2;subst e;have z0:wr.cell? ⟨b,off+r*4,none⟩=some (.string ⟨ky.toArray⟩):=cz.c0;have z1:wr.cell? ⟨b,off+r*4+1,none⟩=some (.int .i64 ln):=cz.c1;have z2:wr.cell? ⟨b,off+r*4+2,none⟩=some (.int .i64 ep):=cz.c2;have z3:wr.cell? ⟨b,off+r*4+3,none⟩=some (.slice a2 st.length c2):=cz.c3;have PK1:Calls Tryz.prog 74 #[.agg #[.string ⟨ky.toArray⟩,.int .i64 ln,.int .i64 ep,.slice a2 st.length c2]] wr (fun e w'=>e= .returned (.agg #[.int .i64 1,.string ⟨ky.toArray⟩,.int .i64 ln,.slice a2 st.length c2])/\Below wr.heap.size wr w'):=PK;clear cz PK
    go_wp2_with fail
    refine PK1.mono ?_
    rintro _ w4 ⟨rfl,B4⟩;clear PK1;have KE:Calls Tryz.prog 91 #[.agg #[.int .i64 1,.string ⟨ky.toArray⟩,.int .i64 ln,.slice a2 st.length c2]] w4 (MakesF16 w4 0 (enR (putR ⟨ky,ln,ep,st⟩))):=renc16_far (c:=⟨putR ⟨ky,ln,ep,st⟩,.slice a2 st.length c2⟩) (IN.below B4) (if_pos ok.out.1) (if_pos ok.out.1)
    go_wp2_with fail
    refine KE.mono ?_
    rintro _ w5 ⟨v5,rfl,R5,B5,F5⟩;clear KE IN;have b45:Below wr.heap.size wr w5:=B4.step16 B5 B4.size;have y2:w5.cell? ⟨b,off+r*4+2,none⟩=some (.int .i64 ep):=(b45.cell (p:=⟨b,off+r*4+2,none⟩) hb).trans z2;have o5:=owns_later hO b45;have C5:=hB.out.step16 b45 hB.out.size;have hep:=ok.out.2;have w32:IntKind.u32.wrap ep=ep:=by rw[IntKind.wrap_u32];simp only at hep;omega
    obtain⟨E5,hE5⟩:∃E5,Hid (E5=enR (putR ⟨ky,ln,ep,st⟩)):=⟨_,rfl⟩;rw[<-hE5.out]at R5;have lE:E5.length<=600:=by
     have h1:=ok.out.1.2.2.1;have h2:=ok.out.1.2.2.2.2.2.1;rw[hE5.out,enR_length];omega
    obtain⟨a5,c5,e5⟩:=R5.form;subst e5;have AP:Hid (∀k,(Value.slice a5 E5.length c5).ownBlock=some k->(Value.slice oa Q.length oc).ownBlock≠some k):=fun k hk e=>by
     have a1:=F5 k hk;have a2:=(Zv hO k e).2;have a3:=B4.size;omega
    clear F5;clear z0 z1 z2 z3 B4 B5 b45 hO hB BW
    go_wp2_with fail
    refine(rfour_any (n:=ep.toNat) (Int.toNat_of_nonneg hep.1).symm).mono ?_
    rintro _ w6 ⟨v6,rfl,o6,b6⟩;have R6:Rd w6 v6 (fo ep.toNat):=Rd.owned o6;have p6:=owns_later o5 b6;have C6:=C5.step16 b6 C5.size;have R5':=R5.below b6;clear o6 b6 o5 C5 y2 R5
    go_wp2_with (first
     |(at_builtin;(refine wpList_append_rd2 _ rfl (.tmp 34) (.tmp 41) 42 rfl w2.heap.size 5 i0 Tryz.underlying42 hi hz0 hz1 hz2 _ _ _ rfl p6 _ _ rfl R6 (by rw[fo_length];omega) C6.size ?_);intro v7 w7 h7 g7 e7;have o7:=cat16 h7;have R7:=R5'.gro16 g7 AP.out;have C7:=C6.grown g7 C6.size (fun q hq=>(Zv p6 q hq).1);clear h7 g7 e7 p6 R6 C6)
     |(at_builtin;(refine wpList_append_rd2 _ rfl (.tmp 42) (.tmp 43) 42 rfl w2.heap.size 5 i0 Tryz.underlying42 hi hz0 hz1 hz2 _ _ _ rfl o7 _ E5 rfl R7 (by rw[List.length_append,fo_length];omega) C7.size ?_);intro v8 w8 h8 g8 e8;have o8:=cat16 h8;have C8:=C7.grown g8 C7.size (fun q hq=>(Zv o7 q hq).1);clear h8 g8 e8 o7 R7 C7))
    have o9:=ownS o8 (show _=tw L.length++obsB ((oL L).take (r+1)) by rw[hE5.out,List.append_assoc];exact HQ2.out);have C8':Hid (Below w2.heap.size w2 w8):=C8;exact⟨⟨r+1,Zo,Zg,o9,C8'⟩,by simp[intOf];omega⟩
   ·obtain rfl:r=L.length:=by omega
    have hge:¬(L.length:Int)<(L.length:Int):=Zo
    have eQ:Hid (Q=snB (oL L)):=by
     show _=_
     rw[hQ.out];unfold snB;rw[oL_length,<-oL_length L,List.take_length]
    have RQ:Rk w.heap.size wr (.slice oa Q.length oc) Q:=Rk.own hO (Rd.owned hO) B2.size;obtain⟨j0,hj,hy0,hy1,hy2⟩:=info_bytesS';clear h hs hO
    go_wp2_with fail
    obtain⟨wb,hwb⟩:∃wb,wb=wr:=⟨_,rfl⟩;subst hwb;have PN:Par16 w.heap.size wb Q wb (.slice none 0 0) 0 []:=⟨World.ownsRow_nil _ _ _ _,Zf,(fun x hx=>by cases hx),(fun x hx=>by cases hx)⟩;have lQ:Q.length<=5378:=by rw[eQ.out];exact snB_le Y.out
    go_loopw [5,9,10] (fun bv ov i wr=>∃(r:Nat) (u:Value) (vals:List Value),r<=2/\i= .int .i64 (r:Int)/\bv=u/\Rk w.heap.size wb u (Q.drop (4096*r))/\Par16 w.heap.size wb Q wr ov r vals) (fun _ _ i _=>2-(intOf i).toNat)
    case atStart=>exact⟨0,_,[],Zz,rfl,rfl,RQ,PN⟩
    case round=>
     obtain⟨r,u,vals,hr2,rfl,rfl,hu,hP⟩:=hrel;clear RQ PN;have hc:r=0∨r=1∨r=2:=Zo
     obtain⟨ua,uc,rfl⟩:=hu.form;obtain⟨pa,pc,ep⟩:=owns_form hP.row;subst ep;have hlen:vals.length=r:=by have:=hP.row.1;omega
     rcases hc with rfl|rfl|rfl
     ·have hcap:=(rd_cap hu.rd).2;have hq:(Q.drop (4096*0)).length=Q.length-4096*0:=List.length_drop
      by_cases hm:((Q.drop (4096*0)).length:Int)>4096
      ·have hr1:1<=2:=by omega
       obtain⟨k,hk⟩:∃k:Nat,Hid (k=4096):=⟨_,rfl⟩;have E1:∀W,(Instr.slice 42 (.slice ua (Q.drop (4096*0)).length uc) none (some (.int .i64 4096)) none).run Tryz.prog W= .ok (.slice ua k uc) W:=fun W=>by rw[hk.out];exact cut_hi16 W ua (k:=4096) Zo
       have E2:∀W,(Instr.slice 42 (.slice ua (Q.drop (4096*0)).length uc) (some (.int .i64 4096)) none none).run Tryz.prog W= .ok (.slice (if uc=k then ua else ua.map (·.add k)) ((Q.drop (4096*0)).length-k) (uc-k)) W:=fun W=>by rw[hk.out];exact cut_lo16 W ua (k:=4096) Zo
       have R1:=hu.first16 (k:=k) (by have:=hk.out;omega);have R2:Hid (Rk w.heap.size wb (.slice (if uc=k then ua else ua.map (·.add k)) ((Q.drop (4096*0)).length-k) (uc-k)) (Q.drop (4096*(0+1)))):=by
        have e:=hu.rest16 (k:=k) (by have:=hk.out;omega);rw[hk.out,List.drop_drop]at e;rw[hk.out];exact e
       generalize (if uc=k then ua else ua.map (·.add k))=a2 at E2 R2;generalize (Q.drop (4096*0)).length-k=n2 at E2 R2;generalize uc-k=c2 at E2 R2;have HV0:Hid (∀x,(vals++[Value.slice ua k uc])[0]? =some x->Rk w.heap.size wb x (Q.take 4096)):=by
        intro x hx;rw[List.length_eq_zero_iff.1 hlen]at hx;simp at hx;subst hx;rw[hk.out]at R1 ⊢;exact R1
       exact z22_1
      ·have hr1:1<=2:=by omega
       obtain⟨k,hk⟩:∃k:Nat,Hid (k=(Q.drop (4096*0)).length):=⟨_,rfl⟩;have E1:∀W,(Instr.slice 42 (.slice ua (Q.drop (4096*0)).length uc) none (some (.int .i64 ((Q.drop (4096*0)).length:Int))) none).run Tryz.prog W= .ok (.slice ua k uc) W:=fun W=>by rw[hk.out];exact cut_hi16 W ua Zo
       have E2:∀W,(Instr.slice 42 (.slice ua (Q.drop (4096*0)).length uc) (some (.int .i64 ((Q.drop (4096*0)).length:Int))) none none).run Tryz.prog W= .ok (.slice (if uc=k then ua else ua.map (·.add k)) ((Q.drop (4096*0)).length-k) (uc-k)) W:=fun W=>by rw[hk.out];exact cut_lo16 W ua Zo
       have R1:=hu.first16 (k:=k) (by have:=hk.out;omega);have R2:Hid (Rk w.heap.size wb (.slice (if uc=k then ua else ua.map (·.add k)) ((Q.drop (4096*0)).length-k) (uc-k)) (Q.drop (4096*(0+1)))):=by
        have e:=hu.rest16 (k:=k) (by have:=hk.out;omega);rw[hk.out]at e ⊢;rw[List.drop_length]at e;rw[List.drop_eq_nil_of_le (show Q.length<=4096*(0+1) by omega)];exact e
       generalize (if uc=k then ua else ua.map (·.add k))=a2 at E2 R2;generalize (Q.drop (4096*0)).length-k=n2 at E2 R2;generalize uc-k=c2 at E2 R2;have HV0:Hid (∀x,(vals++[Value.slice ua k uc])[0]? =some x->Rk w.heap.size wb x (Q.take 4096)):=by
        intro x hx;rw[List.length_eq_zero_iff.1 hlen]at hx;simp at hx;subst hx;rw[hk.out,List.take_length]at R1;rw[hk.out,List.take_of_length_le (show Q.length<=4096 by omega)];exact R1
       exact z22_1
     ·have hcap:=(rd_cap hu.rd).2;have hq:(Q.drop (4096*1)).length=Q.length-4096*1:=List.length_drop;have hm:¬((Q.drop (4096*1)).length:Int)>4096:=by omega
      obtain⟨x0,ex⟩:=List.length_eq_one_iff.1 hlen;have V0:=hP.v0;have hr1:2<=2:=Zo
      obtain⟨k,hk⟩:∃k:Nat,Hid (k=(Q.drop (4096*1)).length):=⟨_,rfl⟩;have E1:∀W,(Instr.slice 42 (.slice ua (Q.drop (4096*1)).length uc) none (some (.int .i64 ((Q.drop (4096*1)).length:Int))) none).run Tryz.prog W= .ok (.slice ua k uc) W:=fun W=>by rw[hk.out];exact cut_hi16 W ua Zo
      have E2:∀W,(Instr.slice 42 (.slice ua (Q.drop (4096*1)).length uc) (some (.int .i64 ((Q.drop (4096*1)).length:Int))) none none).run Tryz.prog W= .ok (.slice (if uc=k then ua else ua.map (·.add k)) ((Q.drop (4096*1)).length-k) (uc-k)) W:=fun W=>by rw[hk.out];exact cut_lo16 W ua Zo
      have R1:=hu.first16 (k:=k) (by have:=hk.out;omega);have R2:Hid (Rk w.heap.size wb (.slice (if uc=k then ua else ua.map (·.add k)) ((Q.drop (4096*1)).length-k) (uc-k)) (Q.drop (4096*(1+1)))):=by
       have e:=hu.rest16 (k:=k) (by have:=hk.out;omega);rw[hk.out]at e ⊢;rw[List.drop_length]at e;rw[List.drop_eq_nil_of_le (show Q.length<=4096*(1+1) by omega)];exact e
      generalize (if uc=k then ua else ua.map (·.add k))=a2 at E2 R2;generalize (Q.drop (4096*1)).length-k=n2 at E2 R2;generalize uc-k=c2 at E2 R2;have HV0:Hid (∀x,(vals++[Value.slice ua k uc])[0]? =some x->Rk w.heap.size wb x (Q.take 4096)):=by
       intro x hx;rw[ex]at hx;simp at hx;exact V0 x (by rw[ex];simpa using hx)
      have HV1:Hid (∀x,(vals++[Value.slice ua k uc])[1]? =some x->Rk w.heap.size wb x ((Q.drop 4096).take 4096)):=by
       intro x hx;rw[ex]at hx;simp at hx;subst hx;rw[hk.out]at R1 ⊢;exact(by rw[List.take_length]at R1;rw[List.take_of_length_le (show(Q.drop 4096).length<=4096 by rw[List.length_drop];omega)];exact R1)
      clear R1 hu hq hcap;generalize (Q.drop (4096*1)).length=m at E1 E2 hm;exact par_step
     ·have FIN:Hid (Snaps16F w L (.returned (.tuple #[.slice pa 2 pc,.int .i64 0])) wr):=by
       have hrow:=hP.row;obtain⟨_,⟨_,hn⟩|⟨g,cap,cur,e,hg,hh,hc1,hc2,_⟩⟩:=hP.row
       ·cases hn
       ·simp at e;obtain⟨rfl,rfl⟩:=e;have eS:snP (oL L)=[Q.take 4096,Q.drop 4096]:=by rw[eQ.out];rfl
        have lw:=(Zv hrow g rfl).2;have lg:w.heap.size<=g:=Nat.le_trans (Nat.le_trans B2.size hB.out.size) hg;have get:∀j,j<2->∃x,vals[j]? =some x/\wr.cell? ⟨g,0+j,none⟩=some x:=fun j hj=>⟨vals[j]'Zo,List.getElem?_eq_getElem Zo,by rw[Nat.zero_add,World.ownsRow.cellAt hrow j Zo,List.getElem?_eq_getElem Zo]⟩
        have eD:(Q.drop 4096).take 4096=Q.drop 4096:=List.take_of_length_le (show(Q.drop 4096).length<=4096 by rw[List.length_drop];omega);refine Or.inl ⟨Y.out,_,rfl,?_,?_,(B2.step16 hB.out B2.size).step16 hP.bl (Nat.le_trans B2.size hB.out.size)⟩
        ·rw[eS];refine⟨_,pc,rfl,hc1,hc2,(fun q=>by cases q),fun i hi=>?_⟩;have hi2:i=0∨i=1:=by simp at hi;omega
         rcases hi2 with rfl|rfl
         ·obtain⟨x,h1,h2⟩:=get 0 Zo;exact⟨g,0,x,rfl,lw,h2,((hP.v0 x h1).below hP.bl).rd⟩
         ·obtain⟨x,h1,h2⟩:=get 1 Zo;refine⟨g,0,x,rfl,lw,h2,?_⟩;have h3:=((hP.v1 x h1).below hP.bl).rd;rw[eD]at h3;exact h3
        ·rw[eS];refine⟨_,pc,rfl,hc1,hc2,(fun q=>by cases q),fun i hi=>?_⟩;have hi2:i=0∨i=1:=by simp at hi;omega
         rcases hi2 with rfl|rfl
         ·obtain⟨x,h1,h2⟩:=get 0 Zo;exact⟨g,0,x,rfl,lg,lw,h2,(hP.v0 x h1).below hP.bl⟩
         ·obtain⟨x,h1,h2⟩:=get 1 Zo;refine⟨g,0,x,rfl,lg,lw,h2,?_⟩;have h3:=(hP.v1 x h1).below hP.bl;rw[eD]at h3;exact h3
      clear hP hu;go_wp2;exact bodyPost_ret (v:=.tuple #[.slice pa 2 pc,.int .i64 0]) (by simp[results,Tryz.results96,go_sem]) rfl FIN.out
def sameR(a b:RcS):Bool:=decide (a.st=b.st)&&(a.kind==b.kind)&&(a.key==b.key)&&(a.len==b.len)
theorem sameR_iff{a b:RcS}:sameR a b=true↔a=b:=by
 obtain⟨k,y,n,s⟩:=a;obtain⟨k',y',n',s'⟩:=b;unfold sameR;simp only[Bool.and_eq_true,decide_eq_true_iff,beq_iff_eq,RcS.mk.injEq];constructor
 ·rintro⟨⟨⟨h1,h2⟩,h3⟩,h4⟩;exact⟨h2,h3,h4,h1⟩
 ·rintro⟨h2,h3,h4,h1⟩;exact⟨⟨⟨h1,h2⟩,h3⟩,h4⟩
theorem same16_any{w:World}{c d:RcV}(h:c.In w)(k:d.In w)(hl:c.r.st.length<=1000000)(hl2:d.r.st.length<=1000000){x:Bool}(hx:sameR c.r d.r=x):Calls Tryz.prog 73 #[aggR c,aggR d] w fun e w'=>e= .returned (.bool x)/\Below w.heap.size w w':=by
 obtain⟨⟨kd,ky,ln,st⟩,vs⟩:=c;obtain⟨⟨kd',ky',ln',st'⟩,vs'⟩:=d;have HR:=h.rs;obtain⟨a,cp,e⟩:=HR.form;have KR:=k.rs;obtain⟨a',cp',e'⟩:=KR.form;simp only at e e' hl hl2 hx;have HX:Hid (sameR ⟨kd,ky,ln,st⟩ ⟨kd',ky',ln',st'⟩=x):=hx;clear hx;subst e e';clear h k
 show Calls Tryz.prog 73 #[.agg #[.int .i64 kd,.string ⟨ky.toArray⟩,.int .i64 ln,.slice a st.length cp],.agg #[.int .i64 kd',.string ⟨ky'.toArray⟩,.int .i64 ln',.slice a' st'.length cp']] w _
 obtain⟨w1,hw1⟩:∃w1,w1=(w.alloc (.cells #[.int .i64 kd,.string ⟨ky.toArray⟩,.int .i64 ln,.slice a st.length cp] 38)).alloc (.cells #[.int .i64 kd',.string ⟨ky'.toArray⟩,.int .i64 ln',.slice a' st'.length cp'] 38):=⟨_,rfl⟩;have B1:Below w.heap.size w w1:=by rw[hw1];exact(belR _ _).trans ((belR _ _).mono Zs)
 have s1:w.heap.size+2=w1.heap.size:=by rw[hw1];simp
 have K:=rints_any (HR.below B1) (KR.below B1) hl hl2;have c0:∀W,Below w1.heap.size w1 W->(W.cell? ⟨w.heap.size,0,none⟩=some (.int .i64 kd)/\W.cell? ⟨w.heap.size,1,none⟩=some (.string ⟨ky.toArray⟩)/\W.cell? ⟨w.heap.size,2,none⟩=some (.int .i64 ln))/\W.cell? ⟨w.heap.size+1,0,none⟩=some (.int .i64 kd')/\W.cell? ⟨w.heap.size+1,1,none⟩=some (.string ⟨ky'.toArray⟩)/\W.cell? ⟨w.heap.size+1,2,none⟩=some (.int .i64 ln'):=by
  have g:∀j,w1.cell? ⟨w.heap.size,j,none⟩= #[Value.int .i64 kd,.string ⟨ky.toArray⟩,.int .i64 ln,.slice a st.length cp][j]? :=fun j=>by
   rw[hw1,World.cell?_alloc_lt _ _ _ Zs,World.cell?_alloc_new]
  have g':∀j,w1.cell? ⟨w.heap.size+1,j,none⟩= #[Value.int .i64 kd',.string ⟨ky'.toArray⟩,.int .i64 ln',.slice a' st'.length cp'][j]? :=fun j=>by
   rw[hw1,show w.heap.size+1=(w.alloc (.cells #[.int .i64 kd,.string ⟨ky.toArray⟩,.int .i64 ln,.slice a st.length cp] 38)).heap.size by simp,World.cell?_alloc_new]
  exact fun W b=>⟨⟨(b.cell (p:=⟨w.heap.size,0,none⟩) (by show w.heap.size<_;omega)).trans (g 0),(b.cell (p:=⟨w.heap.size,1,none⟩) (by show w.heap.size<_;omega)).trans (g 1),(b.cell (p:=⟨w.heap.size,2,none⟩) (by show w.heap.size<_;omega)).trans (g 2)⟩,(b.cell (p:=⟨w.heap.size+1,0,none⟩) (by show w.heap.size+1<_;omega)).trans (g' 0),(b.cell (p:=⟨w.heap.size+1,1,none⟩) (by show w.heap.size+1<_;omega)).trans (g' 1),(b.cell (p:=⟨w.heap.size+1,2,none⟩) (by show w.heap.size+1<_;omega)).trans (g' 2)⟩
 have KP:Hid _:=c0;clear HR KR c0
 go_enter Tryz.func73,Tryz.ntmps73
 go_wp2_with fail
 rw[<-hw1];clear hw1;refine K.mono ?_
 rintro _ w2 ⟨rfl,B2⟩;obtain⟨⟨x0,x1,x2⟩,y0,y1,y2⟩:=KP.out w2 B2;have BF:=B1.trans (B2.mono Zo);clear K KP
 by_cases h1:st=st'
 ·by_cases h2:kd=kd'
  ·by_cases h3:ky=ky'
   ·by_cases h4:ln=ln'
    ·obtain rfl:x=true:=HX.out.symm.trans (sameR_iff.2 (by rw[h1,h2,h3,h4]));clear HX;subst h1 h2 h3 h4;go_wp2;go_ret;exact⟨by rfl,BF⟩
    ·obtain rfl:x=false:=HX.out.symm.trans (by simp[sameR,h4]);clear HX;subst h1 h2 h3;have h4':(ln==ln')=false:=Zq.2 h4;go_wp2;go_ret;exact⟨by first|rfl|(rw[h4'];rfl),BF⟩
   ·obtain rfl:x=false:=HX.out.symm.trans (by simp[sameR,h3]);clear HX;subst h1 h2;have h3':¬ky.toArray.toList=ky'.toArray.toList:=by simpa using h3
    go_wp2;go_ret;exact⟨by rfl,BF⟩
  ·obtain rfl:x=false:=HX.out.symm.trans (by simp[sameR,h2]);clear HX;subst h1;go_wp2;go_ret;exact⟨by rfl,BF⟩
 ·obtain rfl:x=false:=HX.out.symm.trans (by simp[sameR,h1]);clear HX;have h1':decide (st=st')=false:=Zx h1;rw[h1'];go_wp2;go_ret;exact⟨by rfl,BF⟩
theorem oL_ext{L M:List ObV}(hl:L.length=M.length)(h:∀i,i<L.length->(L.getD i default).o=(M.getD i default).o):oL L=oL M:=by
 refine List.ext_getElem (by rw[oL_length,oL_length,hl]) fun i h1 h2=>?_
 have e1:=oL_getD L i;have e2:=oL_getD M i;rw[List.getD_eq_getElem?_getD,List.getElem?_eq_getElem h1]at e1;rw[List.getD_eq_getElem?_getD,List.getElem?_eq_getElem h2]at e2;rw[oL_length]at h1;exact e1.trans ((h i h1).trans e2.symm)
theorem putR_eq{a b:ObS}:sameR (putR a) (putR b)=true/\a.ep=b.ep↔a=b:=by
 rw[sameR_iff];obtain⟨k,n,e,s⟩:=a;obtain⟨k',n',e',s'⟩:=b;unfold putR;simp only[RcS.mk.injEq,ObS.mk.injEq,true_and];constructor
 ·rintro⟨⟨h1,h2,h3⟩,h4⟩;exact⟨h1,h2,h4,h3⟩
 ·rintro⟨h1,h2,h4,h3⟩;exact⟨⟨h1,h2,h3⟩,h4⟩
theorem ObAt.in_put16{w:World}{b off:Nat}{c:ObV}(h:ObAt w b off c):RcV.In w ⟨putR c.o,c.vs⟩:=⟨by show(Lit.int .i64 1).wf=true;decide,h.wl,h.ky,h.rs,h.wi⟩
theorem robjs16_any{w:World}{v u:Value}{L M:List ObV}(h:RdO w v L)(k:RdO w u M)(hL:L.length<=1000)(hs:∀i,i<L.length->(L.getD i default).o.st.length<=1000000)(hs2:∀i,i<M.length->(M.getD i default).o.st.length<=1000000):Calls Tryz.prog 23 #[v,u] w (Says16 (oL L=oL M) w):=by
 obtain⟨a,cp,rfl⟩:=h.form;obtain⟨a',cp',rfl⟩:=k.form
 by_cases h5:L.length=M.length
 rotate_left
 ·have N:Hid (¬oL L=oL M):=fun q=>h5 (by have:=congrArg List.length q;rwa[oL_length,oL_length]at this)
  have h5':¬(L.length:Int)=(M.length:Int):=Zo
  clear h k hs hs2
  go_enter Tryz.func23,Tryz.ntmps23
  go_wp2;go_ret;exact Says16.no N.out rfl Zf
 have h5':(L.length:Int)=(M.length:Int):=Zo
 have h6:Hid (L.length=M.length):=h5;clear h5
 go_enter Tryz.func23,Tryz.ntmps23
 go_wp2
 go_loopw [5] (fun i wr=>∃r:Nat,r<=L.length/\i= .int .i64 (r:Int)/\Hid (Below w.heap.size w wr)/\Hid (∀j,j<r->(L.getD j default).o=(M.getD j default).o)) (fun i _=>L.length-(intOf i).toNat)
 case atStart=>exact⟨0,Zz,rfl,Zf,fun j hj=>absurd hj (Nat.not_lt_zero _)⟩
 case round=>
  obtain⟨r,hr,rfl,hB,hall⟩:=hrel
  by_cases hlt:r<L.length
  ·have hlt':(r:Int)<(L.length:Int):=by omega
   have hlt2:r<M.length:=by rw[<-h6.out];exact hlt
   have hlt3:(r:Int)<(M.length:Int):=Zo
   obtain⟨b,off,rfl,hb,cz⟩:=(h.below hB.out).at hlt;obtain⟨b',off',rfl,hb',cz'⟩:=(k.below hB.out).at hlt2;have HA:Hid ((L.getD r default).o=(M.getD r default).o->∀j,j<r+1->(L.getD j default).o=(M.getD j default).o):=fun q j hj=>by
    by_cases e:j=r
    ·rw[e];exact q
    ·exact hall.out j Zo
   have HN:Hid ((L.getD r default).o≠(M.getD r default).o->¬oL L=oL M):=fun q e=>q (by rw[<-oL_getD,<-oL_getD,e])
   have l1:=hs r hlt;have l2:=hs2 r hlt2;generalize L.getD r default=c at cz HA HN l1;generalize M.getD r default=d at cz' HA HN l2;have I1:=cz.in_put16;have I2:=cz'.in_put16;obtain⟨⟨ky,ln,ep,st⟩,vs⟩:=c;obtain⟨a2,c2,e⟩:=cz.rs.form;simp only at e HA HN l1;subst e;obtain⟨⟨ky',ln',ep',st'⟩,vs'⟩:=d;obtain⟨a3,c3,e⟩:=cz'.rs.form;simp only at e HA HN l2;subst e;have SB:∀W,Below wr.heap.size wr W->(W.cell? ⟨b,off+r*4,none⟩=some (.string ⟨ky.toArray⟩)/\W.cell? ⟨b,off+r*4+1,none⟩=some (.int .i64 ln)/\W.cell? ⟨b,off+r*4+2,none⟩=some (.int .i64 ep)/\W.cell? ⟨b,off+r*4+3,none⟩=some (.slice a2 st.length c2))/\W.cell? ⟨b',off'+r*4,none⟩=some (.string ⟨ky'.toArray⟩)/\W.cell? ⟨b',off'+r*4+1,none⟩=some (.int .i64 ln')/\W.cell? ⟨b',off'+r*4+2,none⟩=some (.int .i64 ep')/\W.cell? ⟨b',off'+r*4+3,none⟩=some (.slice a3 st'.length c3):=fun W q=>⟨⟨(q.cell (p:=⟨b,off+r*4,none⟩) hb).trans cz.c0,(q.cell (p:=⟨b,off+r*4+1,none⟩) hb).trans cz.c1,(q.cell (p:=⟨b,off+r*4+2,none⟩) hb).trans cz.c2,(q.cell (p:=⟨b,off+r*4+3,none⟩) hb).trans cz.c3⟩,(q.cell (p:=⟨b',off'+r*4,none⟩) hb').trans cz'.c0,(q.cell (p:=⟨b',off'+r*4+1,none⟩) hb').trans cz'.c1,(q.cell (p:=⟨b',off'+r*4+2,none⟩) hb').trans cz'.c2,(q.cell (p:=⟨b',off'+r*4+3,none⟩) hb').trans cz'.c3⟩
   have SH:Hid _:=SB;have KA:∀W,Below wr.heap.size wr W->Calls Tryz.prog 74 #[.agg #[.string ⟨ky.toArray⟩,.int .i64 ln,.int .i64 ep,.slice a2 st.length c2]] W (fun e w'=>e= .returned (.agg #[.int .i64 1,.string ⟨ky.toArray⟩,.int .i64 ln,.slice a2 st.length c2])/\Below wr.heap.size wr w'):=fun W q=>(rput_any (c:=⟨⟨ky,ln,ep,st⟩,.slice a2 st.length c2⟩) (w:=W) (cz.rs.below q)).mono fun e w' ⟨he,hb⟩=>⟨he,q.step16 hb q.size⟩
   have KB:∀W,Below wr.heap.size wr W->Calls Tryz.prog 74 #[.agg #[.string ⟨ky'.toArray⟩,.int .i64 ln',.int .i64 ep',.slice a3 st'.length c3]] W (fun e w'=>e= .returned (.agg #[.int .i64 1,.string ⟨ky'.toArray⟩,.int .i64 ln',.slice a3 st'.length c3])/\Below wr.heap.size wr w'):=fun W q=>(rput_any (c:=⟨⟨ky',ln',ep',st'⟩,.slice a3 st'.length c3⟩) (w:=W) (cz'.rs.below q)).mono fun e w' ⟨he,hb⟩=>⟨he,q.step16 hb q.size⟩
   obtain⟨x,hx⟩:∃x,Hid (sameR (putR ⟨ky,ln,ep,st⟩) (putR ⟨ky',ln',ep',st'⟩)=x):=⟨_,rfl⟩;have KS:∀W,Below wr.heap.size wr W->Calls Tryz.prog 73 #[.agg #[.int .i64 1,.string ⟨ky.toArray⟩,.int .i64 ln,.slice a2 st.length c2],.agg #[.int .i64 1,.string ⟨ky'.toArray⟩,.int .i64 ln',.slice a3 st'.length c3]] W (fun e w'=>e= .returned (.bool x)/\Below wr.heap.size wr w'):=fun W q=>(same16_any (c:=⟨putR ⟨ky,ln,ep,st⟩,.slice a2 st.length c2⟩) (d:=⟨putR ⟨ky',ln',ep',st'⟩,.slice a3 st'.length c3⟩) (w:=W) (I1.below q) (I2.below q) (by show st.length<=_;omega) (by show st'.length<=_;omega) hx.out).mono fun e w' ⟨he,hb⟩=>⟨he,q.step16 hb q.size⟩
   have D0:Below wr.heap.size wr wr.drew:=Zf.drew;clear h k hall I1 I2 cz cz';go_wp2
   go_region_held3 (fun wx=>(wx.cell? ⟨b,off+r*4,none⟩=some (.string ⟨ky.toArray⟩)/\wx.cell? ⟨b,off+r*4+1,none⟩=some (.int .i64 ln)/\wx.cell? ⟨b,off+r*4+2,none⟩=some (.int .i64 ep)/\wx.cell? ⟨b,off+r*4+3,none⟩=some (.slice a2 st.length c2))/\wx.cell? ⟨b',off'+r*4,none⟩=some (.string ⟨ky'.toArray⟩)/\wx.cell? ⟨b',off'+r*4+1,none⟩=some (.int .i64 ln')/\wx.cell? ⟨b',off'+r*4+2,none⟩=some (.int .i64 ep')/\wx.cell? ⟨b',off'+r*4+3,none⟩=some (.slice a3 st'.length c3)) (exact SB _ Za) (first|(go_at_call_of 74 (Value.agg #[.string ⟨ky.toArray⟩,.int .i64 ln,.int .i64 ep,.slice a2 st.length c2]);refine(KA _ Za).mono ?_;rintro _ w3 ⟨rfl,b3⟩)|(go_at_call_of 74 (Value.agg #[.string ⟨ky'.toArray⟩,.int .i64 ln',.int .i64 ep',.slice a3 st'.length c3]);refine(KB _ Za).mono ?_;rintro _ w4 ⟨rfl,b4⟩)|(go_at_call 73;refine(KS _ Za).mono ?_;rintro _ w5 ⟨rfl,b5⟩))
   obtain⟨⟨z0,z1,z2,z3⟩,y0,y1,y2,y3⟩:=SB _ b5;have BF:Hid (Below w.heap.size w w5):=hB.out.step16 b5 hB.out.size;clear SB SH KA KB KS D0 b3 b4 b5 hB z0 z1 z3 y0 y1 y3;cases x with
   |false=>
    have N:Hid (¬oL L=oL M):=HN.out fun e=>by
     have:=(putR_eq.2 e).1;rw[hx.out]at this;cases this
    clear HA HN hx
    go_wp2_with fail
    go_quiet (fail)
    go_wp2;go_ret;exact Says16.no N.out rfl (BF.out.drewN _)
   |true=>
    by_cases he:ep=ep'
    ·have H3:Hid _:=HA.out (putR_eq.1 ⟨hx.out,he⟩);subst he;clear HA HN hx
     go_wp2_with fail
     go_quiet (fail)
     have BF2:Hid (Below w.heap.size w (w5.drewN nq)):=BF.out.drewN nq;go_wp2;go_roundw
     case rel=>exact⟨r+1,Zo,Zg,BF2,H3⟩
     case measure=>simp[intOf];omega
    ·have N:Hid (¬oL L=oL M):=HN.out fun e=>he (putR_eq.2 e).2
     have he':(ep !=ep')=true:=bne_iff_ne.2 he;clear HA HN hx
     go_wp2_with fail
     go_quiet (fail)
     go_wp2;go_ret;exact Says16.no N.out rfl (BF.out.drewN _)
  ·obtain rfl:r=L.length:=by omega
   have hge:¬(L.length:Int)<(L.length:Int):=Zo
   have Y:Hid (oL L=oL M):=oL_ext h6.out hall.out;have BF:=hB.out;clear h k hall hs hs2;go_wp2;go_ret;exact Says16.yes Y.out rfl BF
end Go.Proofs.YtclieefpnbdbjaaGreat.Gf
