/- JOINED: ReCG, ReXO, ReCK, ReCL, ReUn, ReOF, ReCM. -/
import Derived.Recover
import Derived.Test.YtclieefpnbdbjaaGreatPome18
set_option maxHeartbeats 4000000
set_option maxRecDepth 100000
namespace Go.Proofs.YtclieefpnbdbjaaGreat.Gf
set_option linter.unusedVariables false
set_option linter.unusedSimpArgs false
open Go.RowKit
theorem rcl16_pan{eb:Nat}{x:Int}{w:World}(hc:w.cell? ⟨eb,0,none⟩=some (.int .i64 x))(hz:w.frozen? ⟨eb,0,none⟩=false):
  CallsD Tryz.prog 191 #[.pointer (some ⟨eb,0,none⟩)] (.panicking pz16) w fun e u' w'=>e= .returned (.tuple #[])/\u'= .panicking [{v:=.iface 28 (.int .i64 160),recovered:=true}]/\w'=w.setCell ⟨eb,0,none⟩ (.int .i64 160):=by
 have hta:∀w,(Instr.typeAssert (.iface 28 (.int .i64 160)) 20 28 false).run Tryz.prog w= .ok (.int .i64 160) w:=fun _=>Zk
 refine callsD_of_wpS Tryz.func191 rfl fun c₀ cs hu=>?_
 unfold pz16 at hu;apply wpS_seq;apply wpS_region;simp[wpOpsS,go_sem,recoverD,hu,Tryz.ntmps191,Exit.thenS];refine wpS_of_wp ?_
 rw[show(#[Value.pointer (some ⟨eb,0,none⟩)]++((Array.replicate 6 undef).setIfInBounds 1 (Value.iface 28 (.int .i64 160))).setIfInBounds 0 (Value.iface 28 (.int .i64 160)))= #[Value.pointer (some ⟨eb,0,none⟩),.iface 28 (.int .i64 160),.iface 28 (.int .i64 160),undef,undef,undef,undef]from rfl];go_wp2;exact⟨rfl,_,rfl,.tuple #[],by simp[results,Tryz.results191,go_sem],rfl,rfl,rfl⟩
theorem rcl16_ret{eb:Nat}{w:World}:
  CallsD Tryz.prog 191 #[.pointer (some ⟨eb,0,none⟩)] .returning w fun e u' w'=>e= .returned (.tuple #[])/\u'= .returning/\w'=w:=by
 refine callsD_of_wpS Tryz.func191 rfl fun c₀ cs hu=>?_
 apply wpS_seq;apply wpS_region;simp[wpOpsS,go_sem,recoverD,hu,Tryz.ntmps191,Exit.thenS];refine wpS_of_wp ?_
 rw[show(#[Value.pointer (some ⟨eb,0,none⟩)]++((Array.replicate 6 undef).setIfInBounds 1 Value.nilIface).setIfInBounds 0 Value.nilIface)= #[Value.pointer (some ⟨eb,0,none⟩),.nilIface,.nilIface,undef,undef,undef,undef]from rfl];go_wp2;cases c₀
 simp_all[bodyPostS,results,Tryz.results191]
theorem RdI.only{g:Nat}{w w':World}{v:Value}{zs:List Int}(h:RdI w v zs)(hne:v.ownBlock≠some g)(o:Only g w w'):RdI w' v zs:=by
 rcases h with h|⟨b,off,cap,h1,rfl,h3,h5,h6⟩
 ·exact Or.inl h
 ·have hb:b≠g:=fun e=>hne (by rw[e];rfl)
  exact Or.inr ⟨b,off,cap,h1,rfl,h3,by rw[o.size];exact h5,fun i hi=>(o.cell (p:=⟨b,off+i,none⟩) hb).trans (h6 i hi)⟩
theorem rw_pan{p:Prop} (h:p:=by
 obtain⟨kA,kE,fE,B4⟩:=AF.out w4 t4;have HX1:=HX.out;have HR1:=HR.out;rw[if_neg nI.out]at HX1 HR1;subst HX1 HR1;have kB:∀j,(w4.setCell ⟨w.heap.size+1,0,none⟩ (.int .i64 160)).cell? ⟨w.heap.size,j,none⟩= #[Value.int .i64 0,.string ⟨#[]⟩,.int .i64 0,.slice none 0 0][j]? :=fun j=>(World.cell?_setCell_other _ _ _ _ Zs).trans (kA j).1
 have k0:=kB 0;have k1:=kB 1;have k2:=kB 2;have k3:=kB 3;have kZ:=World.cell?_setCell_same w4 ⟨w.heap.size+1,0,none⟩ (.int .i64 160) kE;simp at k0 k1 k2 k3;have FIN:Hid (MakesD16 w 160 noR (.returned (.tuple #[.agg #[.int .i64 0,.string ⟨#[]⟩,.int .i64 0,.slice none 0 0],.int .i64 160])) (w4.setCell ⟨w.heap.size+1,0,none⟩ (.int .i64 160))):=⟨⟨noR,.slice none 0 0⟩,rfl,rfl,noR_in _,B4.setCell (Nat.le_succ _) _,fun k hk=>by cases hk⟩;refine leaves_cons (f:=191) (args:=#[.pointer (some ⟨w.heap.size+1,0,none⟩)]) Zs (by simp[go_sem]) ?_
 refine(rcl16_pan kE fE).mono ?_
 rintro e u' w'' ⟨rfl,rfl,rfl⟩;exact⟨.tuple #[.agg #[.int .i64 0,.string ⟨#[]⟩,.int .i64 0,.slice none 0 0],.int .i64 160],by simp[results,Tryz.results166,go_sem,k0,k1,k2,k3,kZ],FIN.out⟩):p:=h
theorem rw16_any{w:World}{v:Value}{p:List UInt8}(R:Rd w v p)(hp:p.length<=100000){X:Int}(hX:(if IsR p then (0:Int)else 160)=X){r:RcS}(hr:(if IsR p then raR p else noR)=r):Calls Tryz.prog 166 #[v,.func (.func 167) #[] #[]] w (MakesD16 w X r):=by
 obtain⟨a,cp,e⟩:=R.form;subst e;have HX:Hid ((if IsR p then (0:Int)else 160)=X):=hX;have HR:Hid ((if IsR p then raR p else noR)=r):=hr;clear hX hr;have hmf:∀(fn:Fn) (first cap:Array Value) (w:World),(Instr.makeFunc fn first cap).run Tryz.prog w= .ok (.func fn first cap) w:=fun _ _ _ _=>rfl
 obtain⟨w3,hw3⟩:∃w3,w3=((w.alloc (.cells #[.int .i64 0,.string ⟨#[]⟩,.int .i64 0,.slice none 0 0] 38)).alloc (.cells #[.int .i64 0] 28)).alloc (.cells #[.slice a p.length cp] 238):=⟨_,rfl⟩;have s3:w3.heap.size=w.heap.size+3:=by rw[hw3];simp
 have B3:Below w.heap.size w w3:=by rw[hw3];exact((belR _ _).trans ((belR _ _).mono Zs)).trans ((belR _ _).mono Zm)
 have cA:∀j,w3.cell? ⟨w.heap.size,j,none⟩= #[Value.int .i64 0,.string ⟨#[]⟩,.int .i64 0,.slice none 0 0][j]? :=fun j=>by
  rw[hw3,World.cell?_alloc_lt _ _ _ Zm,World.cell?_alloc_lt _ _ _ Zs,World.cell?_alloc_new]
 have cE:w3.cell? ⟨w.heap.size+1,0,none⟩=some (.int .i64 0):=by
  rw[hw3,World.cell?_alloc_lt _ _ _ Zs,show w.heap.size+1=(w.alloc (.cells #[.int .i64 0,.string ⟨#[]⟩,.int .i64 0,.slice none 0 0] 38)).heap.size by simp,World.cell?_alloc_new];rfl
 have cR:w3.cell? ⟨w.heap.size+1+1,0,none⟩=some (.slice a p.length cp):=by
  rw[hw3,show w.heap.size+1+1=((w.alloc (.cells #[.int .i64 0,.string ⟨#[]⟩,.int .i64 0,.slice none 0 0] 38)).alloc (.cells #[.int .i64 0] 28)).heap.size by simp,World.cell?_alloc_new];rfl
 have fA:∀j,w3.frozen? ⟨w.heap.size,j,none⟩=false:=fun j=>by rw[hw3];simp[go_sem]
 have fE:w3.frozen? ⟨w.heap.size+1,0,none⟩=false:=by rw[hw3];simp[go_sem]
 have fR:w3.frozen? ⟨w.heap.size+1+1,0,none⟩=false:=by rw[hw3];simp[go_sem]
 have r3:RdrAt w (w.heap.size+1+1) w3 p:=⟨⟨_,cR,R⟩,fR,B3,Zo⟩;have AF:Hid (∀W,Turn (w.heap.size+1+1) w3 W->(∀j,W.cell? ⟨w.heap.size,j,none⟩= #[Value.int .i64 0,.string ⟨#[]⟩,.int .i64 0,.slice none 0 0][j]?/\W.frozen? ⟨w.heap.size,j,none⟩=false)/\W.cell? ⟨w.heap.size+1,0,none⟩=some (.int .i64 0)/\W.frozen? ⟨w.heap.size+1,0,none⟩=false/\Below w.heap.size w W):=fun W t=>⟨fun j=>⟨(t.cell (p:=⟨w.heap.size,j,none⟩) (by show w.heap.size<_;omega) (by show w.heap.size≠_;omega)).trans (cA j),(t.frozen (p:=⟨w.heap.size,j,none⟩) (by show w.heap.size<_;omega) (by show w.heap.size≠_;omega)).trans (fA j)⟩,(t.cell (p:=⟨w.heap.size+1,0,none⟩) (by show w.heap.size+1<_;omega) (by show w.heap.size+1≠_;omega)).trans cE,(t.frozen (p:=⟨w.heap.size+1,0,none⟩) (by show w.heap.size+1<_;omega) (by show w.heap.size+1≠_;omega)).trans fE,B3.trans (t.below Zo Zo)⟩
 have S3:Hid (w3.heap.size=w.heap.size+3):=s3;have K:=rrec16_any r3 hp;clear cA cE cR fA fE fR R s3
 go_enter_defers Tryz.func166,Tryz.ntmps166
 go_wp2_with fail
 rw[<-hw3];clear hw3;refine K.mono ?_
 rintro _ w4 (⟨hn,c,rfl,hc,hi,hf,r4,t4⟩|⟨hn,rfl,t4⟩);rotate_left
 ·have nI:Hid (¬IsR p):=fun q=>hn q.1
  exact rw_pan
 obtain⟨⟨kd,ky,ln,st⟩,vs⟩:=c;obtain⟨va,vc,ev⟩:=hi.rs.form;simp only at ev hc;subst ev;have HF:Hid (∀g,g<w.heap.size+3->(Value.slice va st.length vc).ownBlock≠some g):=fun g hg e=>by
  have:=(hf g e).1;have:=S3.out;omega
 clear hf;rw[show aggR ⟨⟨kd,ky,ln,st⟩,.slice va st.length vc⟩= .agg #[.int .i64 kd,.string ⟨ky.toArray⟩,.int .i64 ln,.slice va st.length vc]from rfl];obtain⟨w5,hw5⟩:∃w5,w5=w4.alloc (.cells #[.int .i64 kd,.string ⟨ky.toArray⟩,.int .i64 ln,.slice va st.length vc] 38):=⟨_,rfl⟩;have B5:Below w4.heap.size w4 w5:=by rw[hw5];exact belR _ _
 have r5:=r4.below B5;have t5:Turn (w.heap.size+1+1) w3 w5:=t4.trans (Below.turn B5 _);have g0:w5.cell? ⟨w4.heap.size,0,none⟩=some (.int .i64 kd):=by rw[hw5,World.cell?_alloc_new];rfl
 have g1:w5.cell? ⟨w4.heap.size,1,none⟩=some (.string ⟨ky.toArray⟩):=by rw[hw5,World.cell?_alloc_new];rfl
 have g2:w5.cell? ⟨w4.heap.size,2,none⟩=some (.int .i64 ln):=by rw[hw5,World.cell?_alloc_new];rfl
 have g3:w5.cell? ⟨w4.heap.size,3,none⟩=some (.slice va st.length vc):=by rw[hw5,World.cell?_alloc_new];rfl
 have i5:=hi.below B5;obtain⟨u,cu,Ru⟩:=r5.at0;obtain⟨ua,uc,eu⟩:=Ru.form;subst eu;rw[hw5]at cu;have EN:Hid (IsR p↔(reR p).length=0):=⟨fun q=>by rw[q.2];rfl,fun q=>⟨hn,List.length_eq_zero_iff.1 q⟩⟩;have RD5:Hid (Rd w (.slice ua (reR p).length uc) (reR p)):=Ru;generalize hm:(reR p).length=m at cu EN;clear Ru RD5 hm r4 hi K r3
 by_cases h0:(m:Int)=0
 rotate_left
 ·have nI:Hid (¬IsR p):=fun q=>h0 (by rw[EN.out.1 q];rfl)
  clear r5 g0 g1 g2 g3 i5 t4
  go_wp2_with fail
  rw[<-hw5];clear hw5 cu;refine(ask16_no (Zq.2 h0)).mono ?_
  rintro _ w4 ⟨rfl,rfl⟩;have t4:=t5;exact rw_pan
 ·have yI:Hid (IsR p):=EN.out.2 Zo;have HX1:=HX.out;have HR1:=HR.out;rw[if_pos yI.out]at HX1 HR1;subst HX1 HR1;obtain⟨kA,kE,fE,BW⟩:=AF.out w5 t5;obtain⟨m0,f0⟩:=kA 0;obtain⟨m1,f1⟩:=kA 1;obtain⟨m2,f2⟩:=kA 2;obtain⟨m3,f3⟩:=kA 3;simp at m0 m1 m2 m3;clear kA r5 t4
  go_wp2_with fail
  rw[<-hw5];clear hw5 cu;refine(ask16_yes rfl).mono ?_
  rintro _ w6 ⟨rfl,rfl⟩;obtain⟨W,hW⟩:∃W,W=(((w6.setCell ⟨w.heap.size,0,none⟩ (.int .i64 kd)).setCell ⟨w.heap.size,1,none⟩ (.string ⟨ky.toArray⟩)).setCell ⟨w.heap.size,2,none⟩ (.int .i64 ln)).setCell ⟨w.heap.size,3,none⟩ (.slice va st.length vc):=⟨_,rfl⟩;obtain⟨OA,n0,n1,n2,n3⟩:=set4 (a:=.int .i64 kd) (b:=.string ⟨ky.toArray⟩) (c:=.int .i64 ln) (d:=.slice va st.length vc) m0 m1 m2 m3;rw[<-hW]at OA n0 n1 n2 n3;have OE:Only (w.heap.size+1) W (W.setCell ⟨w.heap.size+1,0,none⟩ (.int .i64 0)):=(Only.refl _ _).setCell _ _;have kE2:W.cell? ⟨w.heap.size+1,0,none⟩=some (.int .i64 0):=(OA.cell (p:=⟨w.heap.size+1,0,none⟩) (Nat.succ_ne_self _)).trans kE;have fE2:W.frozen? ⟨w.heap.size+1,0,none⟩=false:=(OA.frozen (p:=⟨w.heap.size+1,0,none⟩) (Nat.succ_ne_self _)).trans fE;have e5:=World.cell?_setCell_same W ⟨w.heap.size+1,0,none⟩ (.int .i64 0) kE2;have n0':=(OE.cell (p:=⟨w.heap.size,0,none⟩) (Nat.succ_ne_self _).symm).trans n0;have n1':=(OE.cell (p:=⟨w.heap.size,1,none⟩) (Nat.succ_ne_self _).symm).trans n1;have n2':=(OE.cell (p:=⟨w.heap.size,2,none⟩) (Nat.succ_ne_self _).symm).trans n2;have n3':=(OE.cell (p:=⟨w.heap.size,3,none⟩) (Nat.succ_ne_self _).symm).trans n3;have FIN:Hid (MakesD16 w 0 (raR p) (.returned (.tuple #[.agg #[.int .i64 kd,.string ⟨ky.toArray⟩,.int .i64 ln,.slice va st.length vc],.int .i64 0])) (W.setCell ⟨w.heap.size+1,0,none⟩ (.int .i64 0))):=by
   refine⟨⟨⟨kd,ky,ln,st⟩,.slice va st.length vc⟩,rfl,hc,⟨i5.wk,i5.wl,i5.ky,?_,i5.wi⟩,(BW.trans (OA.below Zr)).trans (OE.below (Nat.le_succ _)),fun k hk=>Nat.le_of_not_lt fun q=>HF.out k Zo hk⟩;exact(i5.rs.only (HF.out _ Zo) OA).only (HF.out _ Zo) OE
  clear i5 OA OE BW;go_wp2;rw[<-hW];clear hW;refine leaves_cons (f:=191) (args:=#[.pointer (some ⟨w.heap.size+1,0,none⟩)]) Zs (by simp[go_sem]) ?_
  refine rcl16_ret.mono ?_
  rintro e u' w'' ⟨rfl,rfl,rfl⟩;exact⟨.tuple #[.agg #[.int .i64 kd,.string ⟨ky.toArray⟩,.int .i64 ln,.slice va st.length vc],.int .i64 0],by simp[results,Tryz.results166,go_sem,n0',n1',n2',n3',e5],FIN.out⟩
theorem dec16_any{w:World}{v:Value}{p:List UInt8}(R:Rd w v p)(hp:p.length<=100000){X:Int}(hX:(if IsR p then (0:Int)else 160)=X){r:RcS}(hr:(if IsR p then raR p else noR)=r):Calls Tryz.prog 118 #[v] w (MakesD16 w X r):=by
 obtain⟨a,cp,e⟩:=R.form;subst e;obtain⟨w1,hw1⟩:∃w1,w1=w.alloc (.cells #[.int .i64 0,.string ⟨#[]⟩,.int .i64 0,.slice none 0 0] 38):=⟨_,rfl⟩;have B1:Below w.heap.size w w1:=by rw[hw1];exact belR _ _
 have s1:w.heap.size<w1.heap.size:=by rw[hw1];show w.heap.size<(w.heap.push _).size;rw[Array.size_push];exact Nat.lt_succ_self _
 have cA:∀j,w1.cell? ⟨w.heap.size,j,none⟩= #[Value.int .i64 0,.string ⟨#[]⟩,.int .i64 0,.slice none 0 0][j]? :=fun j=>by rw[hw1,World.cell?_alloc_new]
 have fA:∀j,w1.frozen? ⟨w.heap.size,j,none⟩=false:=fun j=>by rw[hw1];simp[go_sem]
 have K:=rw16_any (R.below B1) hp hX hr;clear hX hr R
 go_enter Tryz.func118,Tryz.ntmps118
 go_wp2_with fail
 rw[<-hw1];clear hw1;refine K.mono ?_
 rintro _ w2 ⟨c,rfl,hc,hi,B2,hf⟩;clear K;obtain⟨⟨kd,ky,ln,st⟩,vs⟩:=c;obtain⟨va,vc,ev⟩:=hi.rs.form;simp only at ev hc;subst ev;rw[show aggR ⟨⟨kd,ky,ln,st⟩,.slice va st.length vc⟩= .agg #[.int .i64 kd,.string ⟨ky.toArray⟩,.int .i64 ln,.slice va st.length vc]from rfl];have m0:=(B2.cell (p:=⟨w.heap.size,0,none⟩) s1).trans (cA 0);have m1:=(B2.cell (p:=⟨w.heap.size,1,none⟩) s1).trans (cA 1);have m2:=(B2.cell (p:=⟨w.heap.size,2,none⟩) s1).trans (cA 2);have m3:=(B2.cell (p:=⟨w.heap.size,3,none⟩) s1).trans (cA 3);have f0:=(B2.frozen (p:=⟨w.heap.size,0,none⟩) s1).trans (fA 0);have f1:=(B2.frozen (p:=⟨w.heap.size,1,none⟩) s1).trans (fA 1);have f2:=(B2.frozen (p:=⟨w.heap.size,2,none⟩) s1).trans (fA 2);have f3:=(B2.frozen (p:=⟨w.heap.size,3,none⟩) s1).trans (fA 3);simp at m0 m1 m2 m3;clear cA fA;obtain⟨W,hW⟩:∃W,W=(((w2.setCell ⟨w.heap.size,0,none⟩ (.int .i64 kd)).setCell ⟨w.heap.size,1,none⟩ (.string ⟨ky.toArray⟩)).setCell ⟨w.heap.size,2,none⟩ (.int .i64 ln)).setCell ⟨w.heap.size,3,none⟩ (.slice va st.length vc):=⟨_,rfl⟩;obtain⟨OA,n0,n1,n2,n3⟩:=set4 (a:=.int .i64 kd) (b:=.string ⟨ky.toArray⟩) (c:=.int .i64 ln) (d:=.slice va st.length vc) m0 m1 m2 m3;rw[<-hW]at OA n0 n1 n2 n3;have FIN:Hid (MakesD16 w X r (.returned (.tuple #[.agg #[.int .i64 kd,.string ⟨ky.toArray⟩,.int .i64 ln,.slice va st.length vc],.int .i64 X])) W):=⟨⟨⟨kd,ky,ln,st⟩,.slice va st.length vc⟩,rfl,hc,⟨hi.wk,hi.wl,hi.ky,hi.rs.only (fun e=>by have:=hf _ e;omega) OA,hi.wi⟩,(B1.step16 B2 (Nat.le_of_lt s1)).trans (OA.below Zr),fun k hk=>by have:=hf k hk;omega⟩;clear OA B1 B2 hi hf;go_wp2;rw[<-hW];clear hW;exact bodyPost_ret (v:=.tuple #[.agg #[.int .i64 kd,.string ⟨ky.toArray⟩,.int .i64 ln,.slice va st.length vc],.int .i64 X]) (by simp[results,Tryz.results118,go_sem,n0,n1,n2,n3]) rfl FIN.out
def LxO(b:List UInt8):Prop:=4<=b.length/\NxR (b.drop 4)/\(raR (b.drop 4)).kind=1
instance (b:List UInt8):Decidable (LxO b):=inferInstanceAs (Decidable (_/\_/\_))
def unX:Nat->List UInt8->Option (List ObS×List UInt8)
 |0,b=>some ([],b)
 |n+1,b=>if LxO b then (unX n (reO b)).map (fun x=>(raO b::x.1,x.2))else none
theorem nx_lx{b:List UInt8}:NxO b↔LxO b/\(raO b).ep<=2147483647:=by
 show _↔_/\((nu b:Nat):Int)<=_
 unfold NxO LxO;constructor
 ·rintro⟨h1,h2,h3,h4⟩;exact⟨⟨h1,h2,h4⟩,Zo⟩
 ·rintro⟨⟨h1,h2,h4⟩,h3⟩;exact⟨h1,h2,Zo,h4⟩
theorem unX_unO{n:Nat}{b:List UInt8}{l:List ObS}{r:List UInt8}(h:unX n b=some (l,r))(he:∀o∈l,o.ep<=2147483647):unO n b=some (l,r):=by
 induction n generalizing b l with
 |zero=>exact h
 |succ n ih=>
  unfold unX at h
  by_cases q:LxO b
  ·rw[if_pos q]at h;cases e:unX n (reO b)with
   |none=>rw[e]at h;cases h
   |some x=>
    obtain⟨l',r'⟩:=x;rw[e]at h;simp only[Option.map_some,Option.some.injEq,Prod.mk.injEq]at h;obtain⟨rfl,rfl⟩:=h;unfold unO;rw[if_pos (nx_lx.2 ⟨q,he _ (List.mem_cons_self ..)⟩),ih e fun o ho=>he o (List.mem_cons_of_mem _ ho)];rfl
  ·rw[if_neg q]at h;cases h
theorem unO_unX{n:Nat}{b:List UInt8}{x:List ObS×List UInt8}(h:unO n b=some x):unX n b=some x:=by
 induction n generalizing b x with
 |zero=>exact h
 |succ n ih=>
  unfold unO at h
  by_cases q:NxO b
  ·rw[if_pos q]at h;cases e:unO n (reO b)with
   |none=>rw[e]at h;cases h
   |some y=>
    rw[e]at h;unfold unX;rw[if_pos (nx_lx.1 q).1,ih e];exact h
  ·rw[if_neg q]at h;cases h
theorem unX_snoc{n:Nat}{b:List UInt8}{l:List ObS}{r:List UInt8}(h:unX n b=some (l,r)):unX (n+1) b=if LxO r then some (l++[raO r],reO r)else none:=by
 induction n generalizing b l with
 |zero=>
  have h:some (([]:List ObS),b)=some (l,r):=h;simp only[Option.some.injEq,Prod.mk.injEq]at h;obtain⟨rfl,rfl⟩:=h;rfl
 |succ n ih=>
  unfold unX at h
  by_cases q:LxO b
  ·rw[if_pos q]at h;cases e:unX n (reO b)with
   |none=>rw[e]at h;cases h
   |some x=>
    obtain⟨l',r'⟩:=x;rw[e]at h;simp only[Option.map_some,Option.some.injEq,Prod.mk.injEq]at h;obtain⟨rfl,rfl⟩:=h
    show(if LxO b then (unX (n+1) (reO b)).map (fun x=>(raO b::x.1,x.2))else none)=_
    rw[if_pos q,ih e]
    by_cases q2:LxO r'
    ·rw[if_pos q2,if_pos q2];rfl
    ·rw[if_neg q2,if_neg q2];rfl
  ·rw[if_neg q]at h;cases h
theorem unX_none{n m:Nat}{b:List UInt8}(h:unX n b=none)(hm:n<=m):unX m b=none:=by
 induction n generalizing b m with
 |zero=>cases h
 |succ n ih=>
  obtain⟨m,rfl⟩:∃k,m=k+1:=⟨m-1,Zo⟩;unfold unX at h ⊢
  by_cases q:LxO b
  ·rw[if_pos q]at h ⊢;cases e:unX n (reO b)with
   |none=>rw[ih e Zo];rfl
   |some x=>rw[e]at h;cases h
  ·rw[if_neg q]
theorem unX_rest{n:Nat}{b:List UInt8}{l:List ObS}{r:List UInt8}(h:unX n b=some (l,r)):r.length<=b.length/\l.length=n:=by
 induction n generalizing b l with
 |zero=>
  have h:some (([]:List ObS),b)=some (l,r):=h;simp only[Option.some.injEq,Prod.mk.injEq]at h;obtain⟨rfl,rfl⟩:=h;exact⟨Zr,rfl⟩
 |succ n ih=>
  unfold unX at h
  by_cases q:LxO b
  ·rw[if_pos q]at h;cases e:unX n (reO b)with
   |none=>rw[e]at h;cases h
   |some x=>
    obtain⟨l',r'⟩:=x;rw[e]at h;simp only[Option.map_some,Option.some.injEq,Prod.mk.injEq]at h;obtain⟨rfl,rfl⟩:=h;have:=ih e;refine⟨Nat.le_trans this.1 ?_,by rw[List.length_cons,this.2]⟩;unfold reO reR;rw[List.length_drop,List.length_drop];omega
  ·rw[if_neg q]at h;cases h
def IsB(p:List UInt8)(l:List ObS):Prop:=2<=p.length/\unX (un p) (p.drop 2)=some (l,[])/\MayL l
theorem isB_isP{p q:List UInt8}{l:List ObS}:IsP [p,q] l↔CutP p q/\IsB (p++q) l:=by
 constructor
 ·rintro⟨p',q',e,h1,h2,h3,h4⟩;simp only[List.cons.injEq,and_true]at e;obtain⟨rfl,rfl⟩:=e;exact⟨h1,h2,unO_unX h3,h4⟩
 ·rintro⟨h1,h2,h3,h4⟩;exact⟨p,q,rfl,h1,h2,unX_unO h3 fun o ho=>(h4.all ho).2.2,h4⟩
def ReadsX16(w0:World)(rb:Nat)(w:World)(p:List UInt8)(e:Ending)(w':World):Prop:=
 (LxO p/\∃c:ObV,e= .returned (aggO c)/\c.o=raO p/\ObOk w' c/\(∀k,c.vs.ownBlock=some k->w.heap.size<=k/\k<w'.heap.size)/\RdrAt w0 rb w' (reO p)/\Turn rb w w')∨(¬LxO p/\e= .panicked pz16/\Turn rb w w')
theorem ReadsX16.no{w0:World}{rb:Nat}{w:World}{p:List UInt8}{w':World}(h:¬LxO p)(t:Turn rb w w'):ReadsX16 w0 rb w p (.panicked pz16) w':=Or.inr ⟨h,rfl,t⟩
theorem robj16_any{w0 w:World}{rb:Nat}{p:List UInt8}(h:RdrAt w0 rb w p)(hp:p.length<=100000):Calls Tryz.prog 186 #[.pointer (some ⟨rb,0,none⟩)] w (ReadsX16 w0 rb w p):=by
 obtain⟨w1,hw1⟩:∃w1,w1=w.alloc (.cells #[.string ⟨#[]⟩,.int .i64 0,.int .i64 0,.slice none 0 0] 92):=⟨_,rfl⟩;have s1:w1.heap.size=w.heap.size+1:=by rw[hw1];simp
 have lr:=h.lt;have lo:=h.lo;have sz:=h.bl.size;have B1:Below w.heap.size w w1:=by rw[hw1];exact belR _ _
 have cA:∀j,w1.cell? ⟨w.heap.size,j,none⟩= #[Value.string ⟨#[]⟩,.int .i64 0,.int .i64 0,.slice none 0 0][j]? :=fun j=>by rw[hw1,World.cell?_alloc_new]
 have fA:∀j,w1.frozen? ⟨w.heap.size,j,none⟩=false:=fun j=>by rw[hw1];simp[go_sem]
 have r1:=h.below B1;have AF:Hid (∀W,Turn rb w1 W->(∀j,W.cell? ⟨w.heap.size,j,none⟩= #[Value.string ⟨#[]⟩,.int .i64 0,.int .i64 0,.slice none 0 0][j]?/\W.frozen? ⟨w.heap.size,j,none⟩=false)/\Turn rb w W):=fun W t=>⟨fun j=>⟨(t.cell (p:=⟨w.heap.size,j,none⟩) (by show w.heap.size<_;omega) (by show w.heap.size≠_;omega)).trans (cA j),(t.frozen (p:=⟨w.heap.size,j,none⟩) (by show w.heap.size<_;omega) (by show w.heap.size≠_;omega)).trans (fA j)⟩,(Below.turn B1 rb).trans t⟩
 have S1:Hid (w1.heap.size=w.heap.size+1):=s1;clear cA fA h s1
 go_enter Tryz.func186,Tryz.ntmps186
 go_wp2_with fail
 rw[<-hw1];clear hw1
 by_cases l4:4<=p.length
 rotate_left
 ·refine(rnum16_no r1 (k:=4) Zo rfl).mono ?_
  rintro _ _ ⟨rfl,rfl⟩;exact⟨rfl,ReadsX16.no (fun q=>by have:=q.1;omega) (AF.out _ (Turn.refl _ _)).2⟩
 refine(rnum16_yes r1 (k:=4) Zo l4 rfl rfl).mono ?_
 rintro _ w2 ⟨rfl,r2,o2⟩;rw[nuL4 l4];obtain⟨ep,hep⟩:∃ep:Int,Hid (ep=((nu p:Nat):Int)):=⟨_,rfl⟩;rw[<-hep.out];have z2:Hid (w2.heap.size=w1.heap.size):=o2.size;have t2:Turn rb w1 w2:=o2.turn;clear r1 o2;have K:=rrec16_any r2 (by rw[List.length_drop];omega)
 go_wp2_with fail
 refine K.mono ?_
 rintro _ w3 (⟨hn,c,rfl,hc,hi,hf,r3,t3⟩|⟨hn,rfl,t3⟩);rotate_left
 ·exact⟨rfl,ReadsX16.no (fun q=>hn q.2.1) (AF.out _ (t2.trans t3)).2⟩
 obtain⟨⟨kd,ky,ln,st⟩,vs⟩:=c;obtain⟨va,vc,ev⟩:=hi.rs.form;simp only at ev hc;subst ev;clear K r2;rw[show aggR ⟨⟨kd,ky,ln,st⟩,.slice va st.length vc⟩= .agg #[.int .i64 kd,.string ⟨ky.toArray⟩,.int .i64 ln,.slice va st.length vc]from rfl];obtain⟨w4,hw4⟩:∃w4,w4=w3.alloc (.cells #[.int .i64 kd,.string ⟨ky.toArray⟩,.int .i64 ln,.slice va st.length vc] 38):=⟨_,rfl⟩;have B4:Below w3.heap.size w3 w4:=by rw[hw4];exact belR _ _
 have r4:=r3.below B4;have t4:Turn rb w1 w4:=(t2.trans t3).trans (Below.turn B4 _);have g0:w4.cell? ⟨w3.heap.size,0,none⟩=some (.int .i64 kd):=by rw[hw4,World.cell?_alloc_new];rfl
 have g1:w4.cell? ⟨w3.heap.size,1,none⟩=some (.string ⟨ky.toArray⟩):=by rw[hw4,World.cell?_alloc_new];rfl
 have g2:w4.cell? ⟨w3.heap.size,2,none⟩=some (.int .i64 ln):=by rw[hw4,World.cell?_alloc_new];rfl
 have g3:w4.cell? ⟨w3.heap.size,3,none⟩=some (.slice va st.length vc):=by rw[hw4,World.cell?_alloc_new];rfl
 have i4:=hi.below B4;have HK:Hid (kd=(raR (p.drop 4)).kind):=by show _=_;rw[<-hc]
 have HC:Hid ((⟨ky,ln,ep,st⟩:ObS)=raO p):=by
  show _=_
  unfold raO;rw[<-hc,hep.out]
 have HF:Hid (∀k,(Value.slice va st.length vc).ownBlock=some k->w.heap.size<k/\k<w4.heap.size):=fun k hk=>by
  have a1:=hf k hk;have a2:=S1.out;have a3:=z2.out;have a4:=B4.size;omega
 clear hc hf hi r3 t2 t3
 by_cases h1:kd=1
 rotate_left
 ·have FIN:Hid (ReadsX16 w0 rb w p (.panicked pz16) w4):=ReadsX16.no (fun q=>h1 (HK.out.trans q.2.2)) (AF.out _ t4).2;clear r4 g1 g2 g3 i4 HC
  go_wp2_with fail
  rw[<-hw4];clear hw4;refine(ask16_no (Zq.2 h1)).mono ?_
  rintro _ _ ⟨rfl,rfl⟩;exact⟨rfl,FIN.out⟩
 ·have HY:Hid (LxO p):=⟨l4,hn,by rw[<-HK.out];exact h1⟩;subst h1;obtain⟨kA,tW⟩:=AF.out w4 t4;obtain⟨m0,f0⟩:=kA 0;obtain⟨m1,f1⟩:=kA 1;obtain⟨m2,f2⟩:=kA 2;obtain⟨m3,f3⟩:=kA 3;simp at m0 m1 m2 m3;clear kA
  go_wp2_with fail
  rw[<-hw4];clear hw4;refine(ask16_yes rfl).mono ?_
  rintro _ w6 ⟨rfl,rfl⟩;obtain⟨W,hW⟩:∃W,W=(((w6.setCell ⟨w.heap.size,0,none⟩ (.string ⟨ky.toArray⟩)).setCell ⟨w.heap.size,1,none⟩ (.int .i64 ln)).setCell ⟨w.heap.size,2,none⟩ (.int .i64 ep)).setCell ⟨w.heap.size,3,none⟩ (.slice va st.length vc):=⟨_,rfl⟩;obtain⟨OA,n0,n1,n2,n3⟩:=set4 (a:=.string ⟨ky.toArray⟩) (b:=.int .i64 ln) (c:=.int .i64 ep) (d:=.slice va st.length vc) m0 m1 m2 m3;rw[<-hW]at OA n0 n1 n2 n3;have FIN:Hid (ReadsX16 w0 rb w p (.returned (.agg #[.string ⟨ky.toArray⟩,.int .i64 ln,.int .i64 ep,.slice va st.length vc])) W):=by
   refine Or.inl ⟨HY.out,⟨⟨ky,ln,ep,st⟩,.slice va st.length vc⟩,rfl,HC.out,⟨i4.wl,?_,i4.ky,i4.rs.only (fun e=>by have:=HF.out _ e;omega) OA,i4.wi⟩,?_,r4.only OA sz Zo,?_⟩
   ·show(Lit.int .i64 ep).wf=true
    rw[hep.out];have:=nu_lt p;exact wf64 Zo Zo
   ·intro k hk;have:=HF.out k hk;rw[OA.size];omega
   ·exact⟨OA.os.trans tW.os,OA.tape.trans tW.tape,OA.output.trans tW.output,by rw[OA.size];exact tW.size,fun k hk hn=>(OA.block k Zo).trans (tW.block k hk hn)⟩
  clear OA r4 i4 tW t4;go_wp2;rw[<-hW];clear hW;exact bodyPost_ret (v:=.agg #[.string ⟨ky.toArray⟩,.int .i64 ln,.int .i64 ep,.slice va st.length vc]) (by simp[results,Tryz.results186,go_sem,n0,n1,n2,n3]) rfl FIN.out
theorem RdrAt.gro{w0:World}{rb:Nat}{w w':World}{p:List UInt8}{v v':Value}(h:RdrAt w0 rb w p)(g:Gro w v w' v')(hv:∀k,v.ownBlock=some k->w0.heap.size<=k/\k≠rb):RdrAt w0 rb w' p:=by
 obtain⟨u,c,R⟩:=h.at0;have l:=h.lt;have ne:v.ownBlock≠some rb:=fun e=>(hv rb e).2 rfl
 exact⟨⟨u,(g.cell (p:=⟨rb,0,none⟩) l ne).trans c,R⟩,(g.frozen (p:=⟨rb,0,none⟩) l ne).trans h.fz,h.bl.grown g.gr h.bl.size (fun q hq=>(hv q hq).1),h.lo⟩
theorem Turn.gro{g:Nat}{w w1 w':World}{v v':Value}(h:Turn g w w1)(k:Gro w1 v w' v')(hv:∀k,v.ownBlock=some k->w.heap.size<=k):Turn g w w':=
 ⟨k.gr.os.trans h.os,k.gr.tape.trans h.tape,k.gr.output.trans h.output,Nat.le_trans h.size k.gr.size,fun i hi hn=>(k.gr.block i (Zu hi h.size) (fun e=>by have:=hv i e.symm;omega)).trans (h.block i hi hn)⟩
theorem raO_st(q:List UInt8):(raO q).st.length<65536:=by
 show(stN _ _).length<_
 rw[stN_length];exact un_lt _
def ReadsL16(w0:World)(rb:Nat)(w:World)(p:List UInt8)(e:Ending)(w':World):Prop:=
 (∃(L:List ObV) (q:List UInt8) (v:Value),2<=p.length/\unX (un p) (p.drop 2)=some (oL L,q)/\MayL (oL L)/\e= .returned v/\OwnO w' w.heap.size v L/\RdrAt w0 rb w' q/\Turn rb w w')∨((∀l q,2<=p.length->unX (un p) (p.drop 2)=some (l,q)->¬MayL l)/\e= .panicked pz16/\Turn rb w w')
theorem ReadsL16.no{w0:World}{rb:Nat}{w:World}{p:List UInt8}{w':World}(h:∀l q,2<=p.length->unX (un p) (p.drop 2)=some (l,q)->¬MayL l)(t:Turn rb w w'):ReadsL16 w0 rb w p (.panicked pz16) w':=Or.inr ⟨h,rfl,t⟩
theorem robs16_any{w0 w:World}{rb:Nat}{p:List UInt8}(h:RdrAt w0 rb w p)(hp:p.length<=100000):Calls Tryz.prog 158 #[.pointer (some ⟨rb,0,none⟩)] w (ReadsL16 w0 rb w p):=by
 have lr:=h.lt;have lo:=h.lo;have sz:=h.bl.size
 go_enter Tryz.func158,Tryz.ntmps158
 go_wp2_with fail
 by_cases l2:2<=p.length
 rotate_left
 ·refine(rnum16_no h (k:=2) Zo rfl).mono ?_
  rintro _ _ ⟨rfl,rfl⟩;exact⟨rfl,ReadsL16.no (fun l q e=>Zo) (Turn.refl _ _)⟩
 refine(rnum16_yes h (k:=2) Zo l2 rfl rfl).mono ?_
 rintro _ w2 ⟨rfl,r2,o2⟩;rw[nuL2 l2];obtain⟨C,hC⟩:∃C:Nat,Hid (C=un p):=⟨_,rfl⟩;have C0:C<65536:=by rw[hC.out];exact un_lt _
 rw[<-hC.out];have t2:Turn rb w w2:=o2.turn;have hl2:(p.drop 2).length<=100000:=by rw[List.length_drop];omega
 clear h o2;go_wp2
 go_loopw [3,6] (fun lv i wr=>∃(r:Nat) (L:List ObV) (q:List UInt8),r<=C/\i= .int .i64 (r:Int)/\OwnO wr w.heap.size lv L/\Hid (unX r (p.drop 2)=some (oL L,q))/\RdrAt w0 rb wr q/\Turn rb w wr/\Hid (∀c∈L,c.o.st.length<=1000000)) (fun _ i _=>C-(intOf i).toNat)
 case atStart=>exact⟨0,[],p.drop 2,Zz,rfl,OwnO.nil _ _,rfl,r2,t2,fun c hc=>by cases hc⟩
 case round=>
  clear r2 t2;obtain⟨r,L,q,hr,rfl,hO,hU,hR,hT,hS⟩:=hrel;have lq:q.length<=100000:=Nat.le_trans (unX_rest hU.out).1 hl2;have ll:Hid (L.length=r):=by have:=(unX_rest hU.out).2;rwa[oL_length]at this
  obtain⟨la,lc,el⟩:=(hO.rd (by have:=ll.out;omega)).form;subst el
  by_cases hlt:r<C
  ·have hlt':(r:Int)<(C:Int):=by omega
   have K:=robj16_any hR lq;have sw:=hT.size;have vb:Hid (∀k,(Value.slice la L.length lc).ownBlock=some k->w.heap.size<=k/\k<wr.heap.size):=Zv hO.row
   go_wp2_with fail
   refine K.mono ?_
   rintro _ w3 (⟨hn,c,rfl,hc,hi,hf,r3,t3⟩|⟨hn,rfl,t3⟩);rotate_left
   ·have FIN:Hid (ReadsL16 w0 rb w p (.panicked pz16) w3):=ReadsL16.no (fun l q' _ e=>by
      have h1:=unX_snoc hU.out;rw[if_neg hn]at h1;rw[<-hC.out,unX_none h1 Zo]at e;cases e) (hT.trans t3)
    exact⟨rfl,FIN.out⟩
   have HU2:Hid (unX (r+1) (p.drop 2)=some (oL (L++[c]),reO q)):=by
    show _=_
    rw[unX_snoc hU.out,if_pos hn]
    show some (oL L++[raO q],reO q)=some ((L++[c]).map ObV.o,reO q)
    rw[List.map_append,<-hc];rfl
   have HS2:Hid (∀d∈L++[c],d.o.st.length<=1000000):=fun d hd=>by
    rcases List.mem_append.1 hd with hd|hd
    ·exact hS.out d hd
    ·simp only[List.mem_singleton]at hd;subst hd;rw[hc];have:=raO_st q;omega
   have HA:∀k,c.vs.ownBlock=some k->w.heap.size<=k/\k<w3.heap.size/\(Value.slice la L.length lc).ownBlock≠some k:=fun k hk=>⟨by have:=(hf k hk).1;omega,(hf k hk).2,fun e=>by have:=(hf k hk).1;have:=(vb.out k e).2;omega⟩
   have O3:=hO.turn t3 lr;have T3:=hT.trans t3;obtain⟨⟨ky,ln,ep,st⟩,vs⟩:=c;obtain⟨va,vc,ev⟩:=hi.rs.form;simp only at ev;subst ev;rw[show aggO ⟨⟨ky,ln,ep,st⟩,.slice va st.length vc⟩= .agg #[.string ⟨ky.toArray⟩,.int .i64 ln,.int .i64 ep,.slice va st.length vc]from rfl];clear hc hf hn hU hS hO hR hT K t3;have s3:w.heap.size<=w3.heap.size:=T3.size
   go_wp2_with (at_builtin;(refine wpList_append_o (w:=w3) rfl (.tmp 8) (.tmp 11) rfl rfl rfl O3 hi HA rfl rfl rfl (by have:=ll.out;omega) s3 ?_);intro v4 w4 o4 G4)
   have r4:=r3.gro G4 (fun k hk=>by have:=vb.out k hk;omega);have T4:=T3.gro G4 (fun k hk=>(vb.out k hk).1);clear O3 T3 r3 G4 hi HA;go_roundw
   case rel=>exact⟨r+1,_,_,Zo,Zg,o4,HU2,r4,T4,HS2⟩
   case measure=>simp[intOf];omega
  ·obtain rfl:r=C:=by omega
   have hge:¬(r:Int)<(r:Int):=Zo
   have K:=mbt16_any (hO.rd (by have:=ll.out;omega)) (fun i hi=>hS.out _ (by rw[List.getD_eq_getElem?_getD,List.getElem?_eq_getElem hi];exact List.getElem_mem hi));have HU:Hid (unX (un p) (p.drop 2)=some (oL L,q)):=by rw[<-hC.out];exact hU
   clear hU
   go_wp2_with fail
   refine K.mono ?_
   rintro _ w3 ⟨x,rfl,hx,B3⟩;have HX:Hid (x=true↔MayL (oL L)):=hx;clear K hx;cases x with
   |false=>
    have FIN:Hid (ReadsL16 w0 rb w p (.panicked pz16) w3):=ReadsL16.no (fun l q' _ e=>by
     rw[HU.out]at e;simp only[Option.some.injEq,Prod.mk.injEq]at e;rw[<-e.1];intro k;have:=HX.out.2 k;cases this) (hT.trans (Below.turn B3 _))
    go_wp2_with fail
    refine(ask16_no rfl).mono ?_
    rintro _ _ ⟨rfl,rfl⟩;exact⟨rfl,FIN.out⟩
   |true=>
    have FIN:Hid (ReadsL16 w0 rb w p (.returned (.slice la L.length lc)) w3):=Or.inl ⟨L,q,_,l2,HU.out,HX.out.1 rfl,rfl,hO.turn (Below.turn B3 rb) lr,hR.below B3,hT.trans (Below.turn B3 _)⟩;clear hO hR hT
    go_wp2_with fail
    refine(ask16_yes rfl).mono ?_
    rintro _ w4 ⟨rfl,rfl⟩;go_wp2;go_ret;exact FIN.out
def RdOF(N:Nat)(w:World)(v:Value)(L:List ObV):Prop:=RdO w v L/\∀(G:Nat->Prop) (W:World),(∀k,G k->k<N)->TurnG G w W->RdO W v L
theorem RdOF.mono{N N':Nat}{w:World}{v:Value}{L:List ObV}(h:RdOF N w v L)(hN:N'<=N):RdOF N' w v L:=⟨h.1,fun G W hG t=>h.2 G W (fun k g=>Zu (hG k g) hN) t⟩
theorem RdOF.turn{N:Nat}{w W:World}{v:Value}{L:List ObV}{G:Nat->Prop}(h:RdOF N w v L)(hG:∀k,G k->k<N)(t:TurnG G w W):RdO W v L:=h.2 G W hG t
theorem RdOF.form{N:Nat}{w:World}{v:Value}{L:List ObV}(h:RdOF N w v L):∃a c,v= .slice a L.length c:=h.1.form
theorem RdOF.below{N:Nat}{w W:World}{v:Value}{L:List ObV}(h:RdOF N w v L)(b:Below w.heap.size w W):RdOF N W v L:=⟨h.1.below b,fun G W2 hG t=>h.2 G W2 hG ((Below.turnG b G).trans t)⟩
def UnW16F(w:World)(p:List UInt8)(e:Ending)(w':World):Prop:=
 (∃(L:List ObV) (v:Value),IsB p (oL L)/\e= .returned (.tuple #[v,.int .i64 0])/\RdOF w.heap.size w' v L/\Below w.heap.size w w')∨((∀l,¬IsB p l)/\e= .returned (.tuple #[.slice none 0 0,.int .i64 160])/\Below w.heap.size w w')
def UnP16F(w:World)(P:List (List UInt8))(e:Ending)(w':World):Prop:=
 (∃(L:List ObV) (v:Value),IsP P (oL L)/\e= .returned (.tuple #[v,.int .i64 0])/\RdOF w.heap.size w' v L/\Below w.heap.size w w')∨((∀l,¬IsP P l)/\e= .returned (.tuple #[.slice none 0 0,.int .i64 160])/\Below w.heap.size w w')
theorem RdI.keepG{G:Nat->Prop}{w W:World}{x:Value}{zs:List Int}(h:RdI w x zs)(t:TurnG G w W)(hne:∀k,x.ownBlock=some k->¬G k):RdI W x zs:=by
 rcases h with h|⟨b,off,cap,h1,rfl,h3,h5,h6⟩
 ·exact Or.inl h
 ·exact Or.inr ⟨b,off,cap,h1,rfl,h3,Zu h5 t.size,fun i hi=>(t.cell (p:=⟨b,off+i,none⟩) h5 (hne b rfl)).trans (h6 i hi)⟩
theorem row_keepG{G:Nat->Prop}{w W:World}{base e s n N:Nat}{v:Value}{xs:List Value}(h:w.ownsRow base e s v n xs)(t:TurnG G w W)(hG:∀k,G k->k<N)(hN:N<=base):W.ownsRow base e s v n xs:=by
 obtain⟨h0,h|⟨g2,cap,cur,hv,hgg,hh,r⟩⟩:=h
 ·exact⟨h0,Or.inl h⟩
 ·have hlt:g2<w.heap.size:=(Array.getElem?_eq_some_iff.1 hh).1;exact⟨h0,Or.inr ⟨g2,cap,cur,hv,hgg,by rw[t.block g2 hlt (fun g=>by have:=hG _ g;omega)];exact hh,r⟩⟩
theorem OwnO.keepG{G:Nat->Prop}{w W:World}{base N:Nat}{v:Value}{L:List ObV}(h:OwnO w base v L)(t:TurnG G w W)(hG:∀k,G k->k<N)(hN:N<=base):OwnO W base v L:=
 ⟨row_keepG h.row t hG hN,fun c hc=>⟨(h.ea c hc).wl,(h.ea c hc).we,(h.ea c hc).ky,(h.ea c hc).rs.keepG t (fun k hk g=>by have:=(h.ap c hc k hk).1;have:=hG _ g;omega),(h.ea c hc).wi⟩,fun c hc k hk=>⟨(h.ap c hc k hk).1,Zu (h.ap c hc k hk).2.1 t.size,(h.ap c hc k hk).2.2⟩⟩
theorem OwnO.far{w:World}{base N:Nat}{v:Value}{L:List ObV}(h:OwnO w base v L)(hl:L.length<=1000000)(hN:N<=base):RdOF N w v L:=⟨h.rd hl,fun G W hG t=>(h.keepG t hG hN).rd hl⟩
theorem ocl16_pan{eb:Nat}{x:Int}{w:World}(hc:w.cell? ⟨eb,0,none⟩=some (.int .i64 x))(hz:w.frozen? ⟨eb,0,none⟩=false):
  CallsD Tryz.prog 182 #[.pointer (some ⟨eb,0,none⟩)] (.panicking pz16) w fun e u' w'=>e= .returned (.tuple #[])/\u'= .panicking [{v:=.iface 28 (.int .i64 160),recovered:=true}]/\w'=w.setCell ⟨eb,0,none⟩ (.int .i64 160):=by
 have hta:∀w,(Instr.typeAssert (.iface 28 (.int .i64 160)) 20 28 false).run Tryz.prog w= .ok (.int .i64 160) w:=fun _=>Zk
 refine callsD_of_wpS Tryz.func182 rfl fun c₀ cs hu=>?_
 unfold pz16 at hu;apply wpS_seq;apply wpS_region;simp[wpOpsS,go_sem,recoverD,hu,Tryz.ntmps182,Exit.thenS];refine wpS_of_wp ?_
 rw[show(#[Value.pointer (some ⟨eb,0,none⟩)]++((Array.replicate 6 undef).setIfInBounds 1 (Value.iface 28 (.int .i64 160))).setIfInBounds 0 (Value.iface 28 (.int .i64 160)))= #[Value.pointer (some ⟨eb,0,none⟩),.iface 28 (.int .i64 160),.iface 28 (.int .i64 160),undef,undef,undef,undef]from rfl];go_wp2;exact⟨rfl,_,rfl,.tuple #[],by simp[results,Tryz.results182,go_sem],rfl,rfl,rfl⟩
theorem ocl16_ret{eb:Nat}{w:World}:
  CallsD Tryz.prog 182 #[.pointer (some ⟨eb,0,none⟩)] .returning w fun e u' w'=>e= .returned (.tuple #[])/\u'= .returning/\w'=w:=by
 refine callsD_of_wpS Tryz.func182 rfl fun c₀ cs hu=>?_
 apply wpS_seq;apply wpS_region;simp[wpOpsS,go_sem,recoverD,hu,Tryz.ntmps182,Exit.thenS];refine wpS_of_wp ?_
 rw[show(#[Value.pointer (some ⟨eb,0,none⟩)]++((Array.replicate 6 undef).setIfInBounds 1 Value.nilIface).setIfInBounds 0 Value.nilIface)= #[Value.pointer (some ⟨eb,0,none⟩),.nilIface,.nilIface,undef,undef,undef,undef]from rfl];go_wp2;cases c₀
 simp_all[bodyPostS,results,Tryz.results182]
theorem rwo_pan{p:Prop} (h:p:=by
 obtain⟨kE,fE,B4⟩:=AF.out w4 t4;have kZ:=World.cell?_setCell_same w4 ⟨w.heap.size,0,none⟩ (.int .i64 160) kE;have FIN:Hid (UnW16F w p (.returned (.tuple #[.slice none 0 0,.int .i64 160])) (w4.setCell ⟨w.heap.size,0,none⟩ (.int .i64 160))):=Or.inr ⟨nI.out,rfl,B4.setCell Zr _⟩;refine leaves_cons (f:=182) (args:=#[.pointer (some ⟨w.heap.size,0,none⟩)]) Zs (by simp[go_sem]) ?_
 refine(ocl16_pan kE fE).mono ?_
 rintro e u' w'' ⟨rfl,rfl,rfl⟩;exact⟨.tuple #[.slice none 0 0,.int .i64 160],by simp[results,Tryz.results156,go_sem,kZ],FIN.out⟩):p:=h
theorem rwo16_any{w:World}{v:Value}{p:List UInt8}(R:Rd w v p)(hp:p.length<=100000):Calls Tryz.prog 156 #[v,.func (.func 158) #[] #[]] w (UnW16F w p):=by
 obtain⟨a,cp,e⟩:=R.form;subst e;have hmf:∀(fn:Fn) (first cap:Array Value) (w:World),(Instr.makeFunc fn first cap).run Tryz.prog w= .ok (.func fn first cap) w:=fun _ _ _ _=>rfl
 obtain⟨w3,hw3⟩:∃w3,w3=(w.alloc (.cells #[.int .i64 0] 28)).alloc (.cells #[.slice a p.length cp] 238):=⟨_,rfl⟩;have s3:w3.heap.size=w.heap.size+2:=by rw[hw3];simp
 have B3:Below w.heap.size w w3:=by rw[hw3];exact(belR _ _).trans ((belR _ _).mono Zs)
 have cE:w3.cell? ⟨w.heap.size,0,none⟩=some (.int .i64 0):=by
  rw[hw3,World.cell?_alloc_lt _ _ _ Zs,World.cell?_alloc_new];rfl
 have cR:w3.cell? ⟨w.heap.size+1,0,none⟩=some (.slice a p.length cp):=by
  rw[hw3,show w.heap.size+1=(w.alloc (.cells #[.int .i64 0] 28)).heap.size by simp,World.cell?_alloc_new];rfl
 have fE:w3.frozen? ⟨w.heap.size,0,none⟩=false:=by rw[hw3];simp[go_sem]
 have fR:w3.frozen? ⟨w.heap.size+1,0,none⟩=false:=by rw[hw3];simp[go_sem]
 have r3:RdrAt w (w.heap.size+1) w3 p:=⟨⟨_,cR,R⟩,fR,B3,Zo⟩;have AF:Hid (∀W,Turn (w.heap.size+1) w3 W->W.cell? ⟨w.heap.size,0,none⟩=some (.int .i64 0)/\W.frozen? ⟨w.heap.size,0,none⟩=false/\Below w.heap.size w W):=fun W t=>⟨(t.cell (p:=⟨w.heap.size,0,none⟩) (by show w.heap.size<_;omega) (by show w.heap.size≠_;omega)).trans cE,(t.frozen (p:=⟨w.heap.size,0,none⟩) (by show w.heap.size<_;omega) (by show w.heap.size≠_;omega)).trans fE,B3.trans (t.below Zo Zo)⟩
 have S3:Hid (w3.heap.size=w.heap.size+2):=s3;have K:=robs16_any r3 hp;clear cE cR fE fR R s3
 go_enter_defers Tryz.func156,Tryz.ntmps156
 go_wp2_with fail
 rw[<-hw3];clear hw3;refine K.mono ?_
 rintro _ w4 (⟨L,q,lv,h2,hu,hm,rfl,hO,r4,t4⟩|⟨hn,rfl,t4⟩);rotate_left
 ·have nI:Hid (∀l,¬IsB p l):=fun l k=>hn l [] k.1 k.2.1 k.2.2
  exact rwo_pan
 have lL:Hid (L.length<=64):=by have:=hm.1;rwa[oL_length]at this
 obtain⟨la,lc,el⟩:=(hO.rd (by have:=lL.out;omega)).form;subst el;obtain⟨u,cu,Ru⟩:=r4.at0;obtain⟨ua,uc,eu⟩:=Ru.form;subst eu;have EQ:Hid (q.length=0->IsB p (oL L)):=fun e=>⟨h2,by rw[hu,List.length_eq_zero_iff.1 e],hm⟩
 have EN:Hid (q.length≠0->∀l,¬IsB p l):=fun e l k=>by
  have h3:=k.2.1;rw[hu]at h3;simp only[Option.some.injEq,Prod.mk.injEq]at h3;exact e (by rw[h3.2];rfl)
 generalize q.length=m at cu EQ EN;clear Ru r4 K r3 hu hm
 by_cases h0:(m:Int)=0
 rotate_left
 ·have nI:Hid (∀l,¬IsB p l):=EN.out Zo;clear hO
  go_wp2_with fail
  refine(ask16_no (Zq.2 h0)).mono ?_
  rintro _ w4 ⟨rfl,rfl⟩;exact rwo_pan
 ·have yI:Hid (IsB p (oL L)):=EQ.out Zo;obtain⟨kE,fE,BW⟩:=AF.out w4 t4;clear EQ EN t4
  go_wp2_with fail
  refine(ask16_yes rfl).mono ?_
  rintro _ w6 ⟨rfl,rfl⟩;have OE:Only w.heap.size w6 (w6.setCell ⟨w.heap.size,0,none⟩ (.int .i64 0)):=(Only.refl _ _).setCell _ _;have e5:=World.cell?_setCell_same w6 ⟨w.heap.size,0,none⟩ (.int .i64 0) kE;have FIN:Hid (UnW16F w p (.returned (.tuple #[.slice la L.length lc,.int .i64 0])) (w6.setCell ⟨w.heap.size,0,none⟩ (.int .i64 0))):=Or.inl ⟨L,_,yI.out,rfl,(hO.turn OE.turn (by have:=S3.out;omega)).far (by have:=lL.out;omega) (by have:=S3.out;omega),BW.trans (OE.below Zr)⟩;clear hO OE BW cu;go_wp2;refine leaves_cons (f:=182) (args:=#[.pointer (some ⟨w.heap.size,0,none⟩)]) Zs (by simp[go_sem]) ?_
  refine ocl16_ret.mono ?_
  rintro e u' w'' ⟨rfl,rfl,rfl⟩;exact⟨.tuple #[.slice la L.length lc,.int .i64 0],by simp[results,Tryz.results156,go_sem,e5],FIN.out⟩
def Cuts16(P:List (List UInt8)):Prop:=∃p q,P=[p,q]/\CutP p q
def SaysC16(p:Prop)(w:World)(e:Ending)(w':World):Prop:=∃x:Bool,e= .returned (.bool x)/\(x=true↔p)/\w'=w
theorem SaysC16.no{p:Prop}{w:World}(h:¬p):SaysC16 p w (.returned (.bool false)) w:=⟨_,rfl,⟨fun e=>(by cases e),fun k=>absurd k h⟩,rfl⟩
theorem SaysC16.yes{p:Prop}{w:World}(h:p):SaysC16 p w (.returned (.bool true)) w:=⟨_,rfl,⟨fun _=>h,fun _=>rfl⟩,rfl⟩
theorem cut_no{p:Prop} (h:p:=by
 go_wp2;go_ret;exact SaysC16.no N.out):p:=h
theorem z19_1{p:Prop} (h:p:=by
 go_wp2;go_roundw
 case rel=>exact⟨2,rfl,by first|rfl|trivial,Or.inr (Or.inr ⟨rfl,Y⟩)⟩
 case measure=>simp[intOf]
 ):p:=h
theorem z19_2{p:Prop} (h:p:=by
 go_wp2;go_roundw
 case rel=>exact⟨1,rfl,by first|rfl|trivial,Or.inr (Or.inl ⟨rfl,rfl,by show _<=_;omega⟩)⟩
 case measure=>simp[intOf]
 ):p:=h
theorem areCut16_any{w:World}{v:Value}{P:List (List UInt8)}(h:Rs w v P):Calls Tryz.prog 155 #[v] w (SaysC16 (Cuts16 P) w):=by
 obtain⟨a,cp,rfl⟩:=h.form
 by_cases h2:P.length=2
 rotate_left
 ·have h2':¬(P.length:Int)=2:=by omega
  have N:Hid (¬Cuts16 P):=by
   rintro⟨p,q,e,_⟩;apply h2;rw[e];rfl
  clear h
  go_enter Tryz.func155,Tryz.ntmps155
  exact cut_no
 obtain⟨p,q,rfl⟩:∃p q,P=[p,q]:=by
  match P,h2 with
  |[p,q],_=>exact⟨p,q,rfl⟩
 clear h2;have E:Hid (Cuts16 [p,q]↔CutP p q):=⟨fun ⟨p',q',e,k⟩=>by simp only[List.cons.injEq,and_true]at e;obtain⟨rfl,rfl⟩:=e;exact k,fun k=>⟨p,q,rfl,k⟩⟩;obtain⟨b,off,xa,xc,rfl,_,c0,_⟩:=h.at (i:=0) Zs;obtain⟨b',off',ya,yc,e,_,c1,_⟩:=h.at (i:=1) Zs;simp at e;obtain⟨rfl,rfl⟩:=e;have z0:w.cell? ⟨b,off,none⟩=some (.slice xa p.length xc):=c0;have z1:w.cell? ⟨b,off+1,none⟩=some (.slice ya q.length yc):=c1
 show Calls Tryz.prog 155 #[.slice (some ⟨b,off,none⟩) 2 cp] w _
 have E2:Hid (CutP p q↔p.length<=4096/\q.length<=4096/\(q.length=0∨p.length=4096)):=by
  show _↔_
  unfold CutP;rw[List.length_eq_zero_iff]
 have EE:Hid (Cuts16 [p,q]↔p.length<=4096/\q.length<=4096/\(q.length=0∨p.length=4096)):=E.out.trans E2.out;clear E E2 c0 c1 h;generalize Cuts16 [p,q]=CC at EE;generalize p.length=m at z0 EE;generalize q.length=n at z1 EE
 go_enter Tryz.func155,Tryz.ntmps155
 go_wp2
 go_loopw [3,12] (fun s i wr=>∃r:Nat,i= .int .i64 (r:Int)/\wr=w/\((r=0/\s= .int .i64 0)∨(r=1/\s= .int .i64 (m:Int)/\Hid (m<=4096))∨(r=2/\Hid CC))) (fun _ i _=>2-(intOf i).toNat)
 case atStart=>exact⟨0,rfl,rfl,Or.inl ⟨rfl,rfl⟩⟩
 case round=>
  obtain⟨r,rfl,rfl,⟨rfl,rfl⟩|⟨rfl,rfl,hm⟩|⟨rfl,Y⟩⟩:=hrel
  ·by_cases hm:(m:Int)>4096
   ·have N:Hid (¬CC):=fun k=>by have:=(EE.out.1 k).1;omega
    clear EE;exact cut_no
   ·by_cases h0:(m:Int)>0
    ·exact z19_2
    ·exact z19_2
  ·have hm':=hm.out
   by_cases hn:(n:Int)>4096
   ·have N:Hid (¬CC):=fun k=>by have:=(EE.out.1 k).2.1;omega
    clear EE;exact cut_no
   by_cases h0:(n:Int)>0
   ·by_cases hf:(m:Int)=4096
    ·have Y:Hid CC:=EE.out.2 Zo;clear EE;exact z19_1
    ·have N:Hid (¬CC):=fun k=>by have:=(EE.out.1 k).2.2;omega
     have hf':((m:Int)==4096)=false:=Zq.2 hf;clear EE;exact cut_no
   ·have Y:Hid CC:=EE.out.2 Zo;clear EE
    by_cases hf:(m:Int)=4096
    ·exact z19_1
    ·have hf':((m:Int)==4096)=false:=Zq.2 hf;exact z19_1
  ·clear EE;go_wp2;go_ret;exact SaysC16.yes Y.out
theorem uns16_far{w:World}{v:Value}{P:List (List UInt8)}(h:Rs w v P)(hl:P.length<=1000):Calls Tryz.prog 113 #[v] w (UnP16F w P):=by
 have K0:=areCut16_any h;obtain⟨a,cp,rfl⟩:=h.form
 go_enter Tryz.func113,Tryz.ntmps113
 go_wp2_with fail
 refine K0.mono ?_
 rintro _ w2 ⟨x,rfl,hx,rfl⟩;have HX:Hid (x=true↔Cuts16 P):=hx;clear K0 hx;cases x with
 |false=>
  have N:Hid (∀l,¬IsP P l):=fun l ⟨p,q,e,k,_⟩=>by
   have:=HX.out.2 ⟨p,q,e,k⟩;cases this
  clear HX h;go_wp2;exact bodyPost_ret (v:=.tuple #[.slice none 0 0,.int .i64 160]) (by simp[results,Tryz.results113,go_sem]) rfl (Or.inr ⟨N.out,rfl,Zf⟩)
 |true=>
  obtain⟨p,q,e,hc⟩:=HX.out.1 rfl;subst e;have fl:[p,q].flatten=p++q:=Zs
  have l1:(p++q).length<=8192:=by rw[List.length_append];have:=hc.1;have:=hc.2.1;omega
  have K1:=ccatb_any h (by rw[fl];omega) Zs;rw[fl]at K1;have HC:Hid (CutP p q):=hc;clear HX hc fl
  go_wp2_with fail
  refine K1.mono ?_
  rintro _ w3 ⟨v3,rfl,o3,B3⟩;clear K1;have R3:Rd w3 v3 (p++q):=Rd.owned o3;have K2:=rwo16_any R3 Zo;have lp:(p++q).length<=100000:=Zo
  clear o3;obtain⟨a3,c3,e3⟩:=R3.form;rw[e3]at K2;rw[e3];generalize (p++q).length=m3 at K2;clear e3 R3 v3 h
  go_wp2_with fail
  refine K2.mono ?_
  rintro _ w4 (⟨L,u,hb,rfl,hr,B4⟩|⟨hn,rfl,B4⟩)
  ·have FIN:Hid (UnP16F w2 [p,q] (.returned (.tuple #[u,.int .i64 0])) w4):=Or.inl ⟨L,u,isB_isP.2 ⟨HC.out,hb⟩,rfl,hr.mono B3.size,B3.step16 B4 B3.size⟩;obtain⟨la,lc,el⟩:=hr.form;subst el;clear hb hr K2;go_wp2;exact bodyPost_ret (v:=.tuple #[.slice la L.length lc,.int .i64 0]) (by simp[results,Tryz.results113,go_sem]) rfl FIN.out
  ·have FIN:Hid (UnP16F w2 [p,q] (.returned (.tuple #[.slice none 0 0,.int .i64 160])) w4):=Or.inr ⟨fun l k=>hn l (isB_isP.1 k).2,rfl,B3.step16 B4 B3.size⟩;clear hn K2;go_wp2;exact bodyPost_ret (v:=.tuple #[.slice none 0 0,.int .i64 160]) (by simp[results,Tryz.results113,go_sem]) rfl FIN.out
end Go.Proofs.YtclieefpnbdbjaaGreat.Gf
