/- JOINED: ArCC, ArCL, ArRef, ArRm, ArRA. -/
import Derived.Test.YtclieefpnbdbjaaGreatPome11
import Derived.Deep.OwnRows
set_option maxRecDepth 100000
namespace Go.Proofs.YtclieefpnbdbjaaGreat.Gf
set_option linter.unusedVariables false
set_option linter.unusedSimpArgs false
open Go.RowKit
section
variable {w:World} {ab:Nat} {GA:Nat->Prop} {a:ArS}
theorem aflush_off(h:ArAt w ab GA a)(ho:a.off=true):Calls Tryz.prog 82 #[.pointer (some ⟨ab,0,none⟩)] w (LeavesA w ab GA (flAS a) (.int .i64 (flAX a))):=by
 have h0:=h;obtain⟨mb,db,GD,hM,ok⟩:=h;have c2:=hM.c2;rw[ho]at c2;have K:=aref_any c2;simp only[if_true]at K;rw[show flAX a=130 from if_pos ho];have FIN:Hid (∃GA',ArAt w ab GA' (flAS a)/\Grew GA w GA' w):=stays h0 (if_pos ho);clear h0 hM ok c2
 go_enter Tryz.func82,Tryz.ntmps82
 go_wp2_with fail
 refine K.mono ?_
 rintro _ wq ⟨rfl,hwq⟩;rw[hwq];clear hwq wq K;go_wp2;go_ret;exact⟨rfl,FIN.out⟩
def firstF(f:Nat->DkS->DkS)(L:List DkS)(k:Nat):List DkS:=L.mapIdx fun i d=>if i<k then f i d else d
section
variable {f:Nat->DkS->DkS} {L:List DkS} {k:Nat}
theorem firstF_len:(firstF f L k).length=L.length:=by simp[firstF]
theorem firstF_zero:firstF f L 0=L:=by
 unfold firstF;apply List.ext_getElem Zs;intro i h1 h2;simp
theorem firstF_all:firstF f L L.length=L.mapIdx f:=by
 unfold firstF;apply List.ext_getElem Zs;intro i h1 h2
 have:i<L.length:=by simpa using h1
 simp[this]
theorem firstF_at(hk:k<L.length):(firstF f L k).getD k default=L.getD k default:=by simp[firstF,List.getD,hk]
theorem firstF_succ(hk:k<L.length):(firstF f L k).set k (f k (L.getD k default))=firstF f L (k+1):=by
 unfold firstF;apply List.ext_getElem Zs;intro i h1 h2;have h3:i<L.length:=by simpa using h1
 simp only[List.getElem_set,List.getElem_mapIdx]
 by_cases e:k=i
 ·subst e;simp[List.getD,h3]
 ·rw[if_neg e]
  by_cases e2:i<k
  ·rw[if_pos e2,if_pos Zo]
  ·rw[if_neg e2,if_neg Zo]
end
theorem z12_1{p:Prop} (h:p:=by
 rw[<-hsu];exact⟨_,_,M1,(hg.trans (Grew.of_below (belA wr _))).trans gg1⟩
 ):p:=h
theorem aflush_on(h:ArAt w ab GA a)(ho:a.off=false):Calls Tryz.prog 82 #[.pointer (some ⟨ab,0,none⟩)] w (LeavesA w ab GA (flAS a) (.int .i64 (flAX a))):=by
 have h0:=h;obtain⟨mb,db,GD,hM,ok⟩:=h;have c0:=hM.c0;have c2:=hM.c2;rw[ho]at c2;have K:=aref_any c2;simp only[Bool.false_eq_true,if_false]at K;have no:¬a.off=true:=by rw[ho];simp
 rw[show flAX a=0 from if_neg no];have okS:=flAS_ok ok;have eS:flAS a={a with D:=a.D.mapIdx (fun _ d=>flS d)}:=by
  unfold flAS;rw[if_neg no];congr 1;apply List.ext_getElem Zs;intro i h1 h2;simp
 have START:Hid (∃GD' GA',ArM w ab mb db GD' GA' {a with D:=firstF (fun _ d=>flS d) a.D 0}/\Grew GA w GA' w):=⟨GD,GA,by rw[firstF_zero];exact hM,Grew.refl _ _⟩;have FINI:Hid (∀wr GD' GA',ArM wr ab mb db GD' GA' {a with D:=firstF (fun _ d=>flS d) a.D a.D.length}->Grew GA w GA' wr->∃GA',ArAt wr ab GA' (flAS a)/\Grew GA w GA' wr):=fun wr GD' GA' hM' g'=>by
  rw[firstF_all]at hM';exact⟨GA',⟨mb,db,GD',by rw[eS];exact hM',okS⟩,g'⟩
 clear h0 hM ok c2 eS okS
 go_enter Tryz.func82,Tryz.ntmps82
 go_wp2_with fail
 refine K.mono ?_
 rintro _ wq ⟨rfl,hwq⟩;rw[hwq];clear hwq wq K;go_wp2
 go_loopw [16] (fun i wr=>∃k:Nat,k<=a.D.length/\i= .int .i64 (k:Int)/\∃GD' GA',ArM wr ab mb db GD' GA' {a with D:=firstF (fun _ d=>flS d) a.D k}/\Grew GA w GA' wr) (fun i _=>a.D.length-(intOf i).toNat)
 case atStart=>exact⟨0,Zz,rfl,START.out⟩
 case round=>
  clear START;obtain⟨k,hk,rfl,GD',GA',hM,hg⟩:=hrel
  by_cases hlt:k<a.D.length
  ·have hlt':(k:Int)<(a.D.length:Int):=by omega
   have g1:IntKind.i64.wrap ((k:Int)+1)=((k+1:Nat):Int):=by rw[IntKind.wrap_i64];have:=hM.d2;have e:({a with D:=firstF (fun _ d=>flS d) a.D k}:ArS).D.length=a.D.length:=firstF_len;omega
   have hk2:k<(firstF (fun _ d=>flS d) a.D k).length:=by rw[firstF_len];exact hlt
   have m0:=hM.m0 k hk2;have m1:=hM.m1 k hk2;have dk:DiskAt wr (db k) (GD' k) ((firstF (fun _ d=>flS d) a.D k).getD k default):=hM.dk k hk2;have hsu:(firstF (fun _ d=>flS d) a.D k).set k (flS (a.D.getD k default))=firstF (fun _ d=>flS d) a.D (k+1):=firstF_succ (f:=fun _ d=>flS d) hlt;rw[firstF_at hlt]at dk;obtain⟨d,hd⟩:∃d,d=a.D.getD k default:=⟨_,rfl⟩;rw[<-hd]at dk hsu;obtain⟨z,hz⟩:∃z,z=(({a with D:=firstF (fun _ d=>flS d) a.D k}:ArS).B.getD k 0):=⟨_,rfl⟩;rw[<-hz]at m1;have KD:=fun o=>@ddead_any (wr.alloc o) (db k) d.dead (dk.below (belA wr o)).dead
   cases hdd:d.dead with
   |true=>
    have E2:Hid (∀o,∃GD' GA',ArM (wr.alloc o) ab mb db GD' GA' {a with D:=firstF (fun _ d=>flS d) a.D (k+1)}/\Grew GA w GA' (wr.alloc o)):=by
     intro o;refine⟨GD',GA',?_,hg.trans (Grew.of_below (belA wr o))⟩;rw[<-hsu,show flS d=d from if_pos hdd,hd,<-firstF_at (f:=fun _ d=>flS d) hlt,set_self _ _ _ hk2];exact hM.below (belA wr o)
    rw[hdd]at KD;clear hM hg dk hsu hd hz hk2
    go_wp2_with fail
    refine(KD _).mono ?_
    rintro _ wq ⟨rfl,hwq⟩;rw[hwq];clear hwq wq KD;go_wp2;go_roundw
    case rel=>exact⟨k+1,Zo,Zg,E2.out _⟩
    case measure=>simp[intOf];omega
   |false=>
    rw[hdd]at KD;have KF:=fun o=>dflush_any (dk.below (belA wr o))
    have HM:=fun o=>hM.below (belA wr o)
    clear hz
    go_wp2_with fail
    refine(KD _).mono ?_
    rintro _ wq ⟨rfl,hwq⟩;rw[hwq];clear hwq wq KD
    go_wp2_with fail
    refine(KF _).mono ?_
    rintro _ w1 ⟨rfl,G1,D1,gr1⟩;obtain⟨M1,gg1⟩:=(HM _).disk hk2 D1 gr1;have E2:Hid (∃GD' GA',ArM w1 ab mb db GD' GA' {a with D:=firstF (fun _ d=>flS d) a.D (k+1)}/\Grew GA w GA' w1):=by
     exact z12_1
    clear hM hg dk hsu hd hk2 M1 gg1 D1 gr1 KF HM;go_wp2;go_roundw
    case rel=>exact⟨k+1,Zo,Zg,E2.out⟩
    case measure=>simp[intOf];omega
  ·have hlt':¬(k:Int)<(a.D.length:Int):=by omega
   have hkn:k=a.D.length:=Zo
   rw[hkn]at hM;have E2:Hid (∃GA',ArAt wr ab GA' (flAS a)/\Grew GA w GA' wr):=FINI.out wr GD' GA' hM hg;clear hM hg FINI;go_wp2;go_ret;exact⟨rfl,E2.out⟩
theorem aflush_any(h:ArAt w ab GA a):Calls Tryz.prog 82 #[.pointer (some ⟨ab,0,none⟩)] w (LeavesA w ab GA (flAS a) (.int .i64 (flAX a))):=by
 cases ho:a.off with
 |true=>exact aflush_off h ho
 |false=>exact aflush_on h ho
theorem RdI.lay{w:World}{v:Value}{p:List Int}(h:RdI w v p){x:Addr}{n c:Nat}(e:v= .slice (some x) n c):n=0∨x.block<w.heap.size:=by
 rcases h with⟨a,c',_,e2⟩|⟨b,off,cap,h1,h2,h3,h5,h6⟩
 ·subst e2;simp at e;exact Or.inl e.2.1.symm
 ·subst h2;simp at e;obtain⟨rfl,rfl,rfl⟩:=e;exact Or.inr h5
theorem ApartG.grewI{G G':Nat->Prop}{w w':World}{v:Value}{p:List Int}(ha:ApartG G v)(h:RdI w v p)(g:Grew G w G' w'):ApartG G' v:=by
 intro x n c e
 rcases ha x n c e with h1|h1
 ·exact Or.inl h1
 ·rcases h.lay e with h2|h2
  ·exact Or.inl h2
  ·exact Or.inr (g.off h2 h1)
theorem RdI.turnG{G:Nat->Prop}{w w':World}{v:Value}{p:List Int}(h:RdI w v p)(ha:ApartG G v)(ho:TurnG G w w'):RdI w' v p:=by
 rcases h with h|⟨b,off,cap,h1,h2,h3,h5,h6⟩
 ·exact Or.inl h
 ·have hb:¬G b:=by
   rcases ha _ _ _ h2 with e|e
   ·exact absurd (List.length_eq_zero_iff.1 e) h1
   ·exact e
  exact Or.inr ⟨b,off,cap,h1,h2,h3,Zu h5 ho.size,fun i hi=>(ho.cell (p:=⟨b,off+i,none⟩) h5 hb).trans (h6 i hi)⟩
structure ToldII(w:World)(G:Nat->Prop)(v:Value)(K:List VI):Prop where
 rd:RdII w v K
 ap:ApartG G v
 each:∀r∈K,ApartG G r.1
theorem VI_mem{K:List VI}{k:Nat}(hk:k<K.length):K.getD k default∈K:=by
 rw[show K.getD k default=K[k] by simp[List.getD,hk]];exact List.getElem_mem hk
theorem VI_ex{K:List VI}{r:VI}(h:r∈K):∃k,k<K.length/\K.getD k default=r:=by
 obtain⟨i,hi,e⟩:=List.getElem_of_mem h;exact⟨i,hi,by rw[<-e];simp[List.getD,hi]⟩
theorem ToldII.grew{G G':Nat->Prop}{w w':World}{v:Value}{K:List VI}(h:ToldII w G v K)(g:Grew G w G' w'):ToldII w' G' v K:=by
 have h0:=h.rd
 rcases h0 with h1|⟨b,off,cap,h1,h2,h3,h4,h5⟩
 ·refine⟨Or.inl h1,?_,?_⟩
  ·obtain⟨ao,cp,e1,e2⟩:=h1;rw[e2];exact ApartG.nil _ _ _
  ·obtain⟨ao,cp,e1,e2⟩:=h1;rw[e1];intro r hr;cases hr
 ·have hb:¬G b:=by
   rcases h.ap _ _ _ h2 with e|e
   ·exact absurd (List.length_eq_zero_iff.1 e) h1
   ·exact e
  refine⟨Or.inr ⟨b,off,cap,h1,h2,h3,Zu h4 g.turn.size,fun i hi=>?_⟩,?_,?_⟩
  ·have h6:=h5 i hi;exact⟨(g.turn.cell (p:=⟨b,off+i,none⟩) h4 hb).trans h6.c,h6.rd.turnG (h.each _ (VI_mem hi)) g.turn,h6.wf⟩
  ·rw[h2];intro x n c e;simp at e;obtain⟨rfl,_⟩:=e;exact Or.inr (g.off h4 hb)
  ·intro r hr;obtain⟨i,hi,rfl⟩:=VI_ex hr;exact(h.each _ hr).grewI (h5 i hi).rd g
theorem ToldII.old{w0 w:World}{G:Nat->Prop}{v:Value}{K:List VI}(h:RdII w0 v K)(hg:∀g,G g->w0.heap.size<=g)(hw:Below w0.heap.size w0 w):ToldII w G v K:=by
 refine⟨h.below hw,?_,?_⟩
 ·rcases h with⟨ao,cp,e1,e2⟩|⟨b,off,cap,h1,h2,h3,h4,h5⟩
  ·rw[e2];exact ApartG.nil _ _ _
  ·rw[h2];intro x n c e;simp at e;obtain⟨rfl,_⟩:=e;exact Or.inr (fun e2=>by have:=hg _ e2;simp at this;omega)
 ·intro r hr
  rcases h with⟨ao,cp,e1,e2⟩|⟨b,off,cap,h1,h2,h3,h4,h5⟩
  ·rw[e1]at hr;cases hr
  ·obtain⟨i,hi,rfl⟩:=VI_ex hr;intro x n c e
   rcases(h5 i hi).rd.lay e with h6|h6
   ·exact Or.inl h6
   ·exact Or.inr (fun e2=>by have:=hg _ e2;omega)
def reF(K:List VI)(i:Nat)(d:DkS):DkS:=crS d ((K.map (·.2)).getD i [])
theorem reF_in{K:List VI}{k:Nat}(hk:k<K.length)(d:DkS):reF K k d=crS d (K.getD k default).2:=by
 unfold reF;simp[List.getD,hk]
theorem reF_out{K:List VI}{k:Nat}(hk:¬k<K.length)(d:DkS):reF K k d=crS d []:=by
 unfold reF
 have:K[k]? =none:=List.getElem?_eq_none Zo
 simp[List.getD,this]
theorem z12_3{p:Prop} (h:p:=by
 go_wp2;go_roundw
 case rel=>exact⟨k+1,Zo,Zg,E2.out⟩
 case measure=>simp[intOf];omega
 ):p:=h
theorem arestart_any(h:ArAt w ab GA a){v:Value}{K:List VI}(hK:ToldII w GA v K)(hs:∀r∈K,r.2.length<=9223372036854775807):Calls Tryz.prog 18 #[.pointer (some ⟨ab,0,none⟩),v] w (LeavesA w ab GA (reAS a (K.map (·.2))) (.tuple #[])):=by
 obtain⟨mb,db,GD,hM,ok⟩:=h;obtain⟨va,vc,rfl⟩:=hK.rd.form;have c0:=hM.c0;have okS:=reAS_ok ok (K.map (·.2));have START:Hid (∃GD' GA',ArM w ab mb db GD' GA' {a with D:=firstF (reF K) a.D 0}/\Grew GA w GA' w):=⟨GD,GA,by rw[firstF_zero];exact hM,Grew.refl _ _⟩;have FINI:Hid (∀wr GD' GA',ArM wr ab mb db GD' GA' {a with D:=firstF (reF K) a.D a.D.length}->Grew GA w GA' wr->∃GA',ArAt ((wr.setCell ⟨ab,1,none⟩ (.int .i64 0)).setCell ⟨ab,2,none⟩ (.bool false)) ab GA' (reAS a (K.map (·.2)))/\Grew GA w GA' ((wr.setCell ⟨ab,1,none⟩ (.int .i64 0)).setCell ⟨ab,2,none⟩ (.bool false))):=fun wr GD' GA' hM' g'=>by
  rw[firstF_all]at hM';have M2:=(hM'.setLeft (l:= -1) Zd).setOff false;exact⟨GA',⟨mb,db,GD',M2,okS⟩,g'.trans (Grew.of_turn ((setCell_turnG hM'.ga).trans (setCell_turnG hM'.ga)))⟩
 clear hM ok okS
 go_enter Tryz.func18,Tryz.ntmps18
 go_wp2
 go_loopw [14] (fun i wr=>∃k:Nat,k<=a.D.length/\i= .int .i64 (k:Int)/\∃GD' GA',ArM wr ab mb db GD' GA' {a with D:=firstF (reF K) a.D k}/\Grew GA w GA' wr) (fun i _=>a.D.length-(intOf i).toNat)
 case atStart=>exact⟨0,Zz,rfl,START.out⟩
 case round=>
  clear START;obtain⟨k,hk,rfl,GD',GA',hM,hg⟩:=hrel
  by_cases hlt:k<a.D.length
  ·have hlt':(k:Int)<(a.D.length:Int):=by omega
   have g1:IntKind.i64.wrap ((k:Int)+1)=((k+1:Nat):Int):=by rw[IntKind.wrap_i64];have:=hM.d2;have e:({a with D:=firstF (reF K) a.D k}:ArS).D.length=a.D.length:=firstF_len;omega
   have hk2:k<(firstF (reF K) a.D k).length:=by rw[firstF_len];exact hlt
   have m0:=hM.m0 k hk2;have m1:=hM.m1 k hk2;have dk:DiskAt wr (db k) (GD' k) ((firstF (reF K) a.D k).getD k default):=hM.dk k hk2;have hsu:(firstF (reF K) a.D k).set k (reF K k (a.D.getD k default))=firstF (reF K) a.D (k+1):=firstF_succ hlt;rw[firstF_at hlt]at dk;obtain⟨d,hd⟩:∃d,d=a.D.getD k default:=⟨_,rfl⟩;rw[<-hd]at dk hsu;obtain⟨z,hz⟩:∃z,z=(({a with D:=firstF (reF K) a.D k}:ArS).B.getD k 0):=⟨_,rfl⟩;rw[<-hz]at m1;have HK:=hK.grew hg;have KC:=fun (o:Obj) (v:Value) (L:List Int) (h1:RdI (wr.alloc o) v L) (h2:∀z∈L,(Lit.int .i64 z).wf=true) (h3:ApartG (GD' k) v) (h4:L.length<=9223372036854775807)=>dcrash_any (dk.below (belA wr o)) h1 h2 h3 h4
   have HM:=fun o=>hM.below (belA wr o)
   clear hz
   by_cases hkk:k<K.length
   ·have hkk':(k:Int)<(K.length:Int):=by omega
    obtain⟨b,off,rfl,hb,hrow⟩:=HK.rd.at hkk;have hAp:ApartG (GD' k) (K.getD k default).1:=fun x n c e=>(HK.each _ (VI_mem hkk) x n c e).imp id (fun h1 h2=>h1 (hM.gd k hk2 _ h2))
    have hsz:=hs _ (VI_mem hkk);rw[reF_in hkk]at hsu;obtain⟨r,hr⟩:∃r,r=K.getD k default:=⟨_,rfl⟩;rw[<-hr]at hrow hAp hsz hsu;obtain⟨rc,rrd,rwf⟩:=hrow;obtain⟨rv,rl⟩:=r;simp only at rc rrd rwf hAp hsz hsu;obtain⟨ra,rcp,rfl⟩:=rrd.form;clear hr
    go_wp2_with fail
    refine(KC _ _ rl (rrd.below (belA wr _)) rwf hAp hsz).mono ?_
    rintro _ w1 ⟨rfl,G1,D1,gr1⟩;obtain⟨M1,gg1⟩:=(HM _).disk hk2 D1 gr1;have E2:Hid (∃GD' GA',ArM w1 ab mb db GD' GA' {a with D:=firstF (reF K) a.D (k+1)}/\Grew GA w GA' w1):=by
     exact z12_1
    clear hM hg dk hsu hd hk2 M1 gg1 D1 gr1 KC HM HK hAp rrd rwf rc m0 m1;exact z12_3
   ·have hkk':¬(k:Int)<(K.length:Int):=by omega
    rw[reF_out hkk]at hsu
    go_wp2_with fail
    refine(KC _ _ [] (Or.inl ⟨none,0,rfl,rfl⟩) Zs (ApartG.nil _ _ _) Zs).mono ?_
    rintro _ w1 ⟨rfl,G1,D1,gr1⟩;obtain⟨M1,gg1⟩:=(HM _).disk hk2 D1 gr1;have E2:Hid (∃GD' GA',ArM w1 ab mb db GD' GA' {a with D:=firstF (reF K) a.D (k+1)}/\Grew GA w GA' w1):=by
     exact z12_1
    clear hM hg dk hsu hd hk2 M1 gg1 D1 gr1 KC HM HK m0 m1;exact z12_3
  ·have hlt':¬(k:Int)<(a.D.length:Int):=by omega
   have hkn:k=a.D.length:=Zo
   rw[hkn]at hM;have c1:=hM.c1;have c2:=hM.c2;have f1:=hM.f1;have f2:=hM.f2;have E2:Hid (∃GA',ArAt ((wr.setCell ⟨ab,1,none⟩ (.int .i64 0)).setCell ⟨ab,2,none⟩ (.bool false)) ab GA' (reAS a (K.map (·.2)))/\Grew GA w GA' ((wr.setCell ⟨ab,1,none⟩ (.int .i64 0)).setCell ⟨ab,2,none⟩ (.bool false))):=FINI.out wr GD' GA' hM hg;clear hM hg FINI hK;go_wp2
   go_end0
   exact⟨rfl,E2.out⟩
end
theorem info_bool13:(Tryz.prog.info? 4).map (fun i=>(i.zero,i.size,i.bytes))=some (some (.bool false),1,1):=Zk
def MadeRow(w:World)(t n:Nat)(f:Nat->Value)(e:Ending)(w':World):Prop:=∃g,e= .returned (.slice (some ⟨g,0,none⟩) n n)/\w'.rowIs g t n f/\w.heap.size<=g/\Below w.heap.size w w'
section
variable {w:World} {ab:Nat} {GA:Nat->Prop} {a:ArS}
theorem alive_any(h:ArAt w ab GA a):Calls Tryz.prog 46 #[.pointer (some ⟨ab,0,none⟩)] w (MadeRow w 4 a.D.length (fun i=>.bool (!(a.D.getD i default).dead))):=by
 obtain⟨mb,db,GD,hM,ok⟩:=h;have c0:=hM.c0;have d2:=hM.d2;have mk1:=run_make_row' (P:=Tryz.prog) 36 4 (.bool false) 1 Tryz.underlying36 info_bool13 rfl .i64 .i64 a.D.length Zo Zo;obtain⟨u,hu⟩:∃u,u=w.alloc (Obj.cells (madeCells #[Value.bool false] a.D.length) 4):=⟨_,rfl⟩;have hub:Below w.heap.size w u:=by rw[hu];exact belA _ _
 have hur:u.rowIs w.heap.size 4 a.D.length (fun _=>.bool false):=by rw[hu];exact World.rowIs_made _ _ _ _
 have hM1:=hM.below hub;have c0m:=hM1.c0;have mk2:=mk1 w;obtain⟨g,hg⟩:∃g,Hid (g=w.heap.size):=⟨_,rfl⟩;rw[<-hu,<-hg.out]at mk2;rw[<-hg.out]at hur;clear mk1 hu
 go_enter Tryz.func46,Tryz.ntmps46
 go_wp2;have START:Hid (u.rowIs g 4 a.D.length (fun j=>if j<0 then .bool (!(a.D.getD j default).dead)else .bool false)/\Below w.heap.size w u):=⟨hur,hub⟩;clear hM1 c0m mk2 hub hur ok c0
 go_loopw [19] (fun i wr=>∃k:Nat,k<=a.D.length/\i= .int .i64 (k:Int)/\wr.rowIs g 4 a.D.length (fun j=>if j<k then .bool (!(a.D.getD j default).dead)else .bool false)/\Below w.heap.size w wr) (fun i _=>a.D.length-(intOf i).toNat)
 case atStart=>exact⟨0,Zz,rfl,START.out⟩
 case round=>
  clear START;obtain⟨k,hk,rfl,hr,hb⟩:=hrel
  by_cases hlt:k<a.D.length
  ·have hlt':(k:Int)<(a.D.length:Int):=by omega
   have g1:IntKind.i64.wrap ((k:Int)+1)=((k+1:Nat):Int):=Zw
   have hMr:=hM.below hb;have m0:=hMr.m0 k hlt;have m1:=hMr.m1 k hlt;have KD:=fun o=>@ddead_any (wr.alloc o) (db k) (a.D.getD k default).dead ((hMr.dk k hlt).below (belA wr o)).dead
   have R1:Hid (∀o,(wr.alloc o).rowIs g 4 a.D.length (fun j=>if j<k then .bool (!(a.D.getD j default).dead)else .bool false)/\Below w.heap.size w (wr.alloc o)):=fun o=>⟨hr.alloc o,hb.trans ((belA wr o).mono hb.size)⟩
   obtain⟨z,hz⟩:∃z,z=a.B.getD k 0:=⟨_,rfl⟩;rw[<-hz]at m1;obtain⟨x,hx⟩:∃x,Hid (x=(a.D.getD k default).dead):=⟨_,rfl⟩;rw[<-hx.out]at KD;clear hz hMr hr hb
   go_wp2_with fail
   refine(KD _).mono ?_
   rintro _ wq ⟨rfl,hwq⟩;obtain⟨R2,B2⟩:=R1.out (Obj.cells #[Value.pointer (some ⟨db k,0,none⟩),.int .i64 z] 84);rw[<-hwq]at R2 B2;have cq:=R2.cell hlt;have fq:=R2.frozen k;have R3:=R2.set k (.bool (!x));have E2:Hid ((wq.setCell ⟨g,k,none⟩ (.bool (!x))).rowIs g 4 a.D.length (fun j=>if j<k+1 then .bool (!(a.D.getD j default).dead)else .bool false)/\Below w.heap.size w (wq.setCell ⟨g,k,none⟩ (.bool (!x)))):=by
    refine⟨R3.congr fun j hj=>?_,B2.setCell (by rw[hg.out];exact Zr) _⟩
    by_cases e:j=k
    ·rw[if_pos e,if_pos Zo,e,hx.out]
    ·rw[if_neg e]
     by_cases e2:j<k
     ·rw[if_pos e2,if_pos Zo]
     ·rw[if_neg e2,if_neg Zo]
   clear KD R1 R2 B2 R3 hwq m0 m1;cases x<;>simp only[Bool.not_true,Bool.not_false]at E2
   all_goals
    go_wp2;go_roundw
    case rel=>exact⟨k+1,Zo,Zg,E2.out⟩
    case measure=>simp[intOf];omega
  ·have hlt':¬(k:Int)<(a.D.length:Int):=by omega
   have hkn:k=a.D.length:=Zo
   have FIN:Hid (wr.rowIs g 4 a.D.length (fun j=>.bool (!(a.D.getD j default).dead))/\w.heap.size<=g/\Below w.heap.size w wr):=⟨hr.congr fun j hj=>if_pos Zo,by rw[hg.out];exact Zr,hb⟩;clear hr hb;go_wp2;go_ret;exact⟨g,rfl,FIN.out⟩
end
section
variable {w w':World} {rb db:Nat} {H H' K K' G:Nat->Prop} {d:DkS}
theorem RefAt.grewH(h:RefAt w rb H d)(g:Grew K w K' w')(hK:∀k,K k->H k)(hn:¬K rb)(hH:∀k,H' k->H k∨w.heap.size<=k)(hr:H' rb)(hl:∀k,H' k->k<w'.heap.size):RefAt w' rb H' d:=by
 obtain⟨vl,vw,Tl,Tw,h⟩:=h;have l:=h.lt rb h.hr;have gg:Grew H w H' w':=⟨⟨g.turn.os,g.turn.tape,g.turn.output,g.turn.size,fun k hk hn2=>g.turn.block k hk (fun e=>hn2 (hK k e))⟩,hH⟩;exact⟨vl,vw,Tl,Tw,(g.turn.cell (p:=⟨rb,0,none⟩) l hn).trans h.c0,(g.turn.cell (p:=⟨rb,1,none⟩) l hn).trans h.c1,(g.turn.cell (p:=⟨rb,2,none⟩) l hn).trans h.c2,(g.turn.cell (p:=⟨rb,3,none⟩) l hn).trans h.c3,
  (g.turn.frozen (p:=⟨rb,1,none⟩) l hn).trans h.f1,(g.turn.frozen (p:=⟨rb,2,none⟩) l hn).trans h.f2,(g.turn.frozen (p:=⟨rb,3,none⟩) l hn).trans h.f3,h.el,h.ew,h.tl.grew gg,h.tw.grew gg,h.kl,h.kw,hr,hl,h.s2⟩
end
structure RaM(w:World)(rb xb yb cx cy:Nat)(rd:Nat->Nat)(HR GA:Nat->Prop)(a:ArS):Prop where
 c0:w.cell? ⟨rb,0,none⟩=some (.slice (some ⟨xb,0,none⟩) a.D.length cx)
 c1:w.cell? ⟨rb,1,none⟩=some (.slice (some ⟨yb,0,none⟩) a.D.length cy)
 c2:w.cell? ⟨rb,2,none⟩=some (.int .i64 a.left)
 c3:w.cell? ⟨rb,3,none⟩=some (.bool a.off)
 f2:w.frozen? ⟨rb,2,none⟩=false
 f3:w.frozen? ⟨rb,3,none⟩=false
 x:∀i,i<a.D.length->w.cell? ⟨xb,i,none⟩=some (.pointer (some ⟨rd i,0,none⟩))
 y:∀i,i<a.D.length->w.cell? ⟨yb,i,none⟩=some (.int .i64 (a.B.getD i 0))
 fy:∀i,i<a.D.length->w.frozen? ⟨yb,i,none⟩=false
 dk:∀i,i<a.D.length->RefAt w (rd i) (fun k=>HR k∨GA k) (a.D.getD i default)
 inj:∀i j,i<a.D.length->j<a.D.length->rd i=rd j->i=j
 off:∀i,i<a.D.length->rd i≠rb/\rd i≠xb/\rd i≠yb
 rx:rb≠xb
 ry:rb≠yb
 xy:xb≠yb
 hr:HR rb
 hx:HR xb
 hy:HR yb
 hd:∀i,i<a.D.length->HR (rd i)
 dis:∀k,HR k->¬GA k
 lt:∀k,HR k->k<w.heap.size
 lg:∀k,GA k->k<w.heap.size
 d1:1<=a.D.length
 d2:a.D.length<=32
 b:a.B.length=a.D.length
 wl:(Lit.int .i64 a.left).wf=true
def RaIn(w:World)(rb xb yb cx cy:Nat)(rd:Nat->Nat)(HR GA:Nat->Prop)(a:ArS):Prop:=RaM w rb xb yb cx cy rd HR GA a/\a.Ok
def RaAt(w:World)(rb:Nat)(HR GA:Nat->Prop)(a:ArS):Prop:=∃xb yb cx cy rd,RaIn w rb xb yb cx cy rd HR GA a
def LeavesRA(w:World)(rb:Nat)(HR GA:Nat->Prop)(a':ArS)(x:Value)(e:Ending)(w':World):Prop:=e= .returned x/\RaAt w' rb HR GA a'/\TurnG HR w w'
section
variable {w w':World} {rb xb yb cx cy:Nat} {rd:Nat->Nat} {HR GA GA':Nat->Prop} {a:ArS}
theorem RaM.below(h:RaM w rb xb yb cx cy rd HR GA a)(hb:Below w.heap.size w w'):RaM w' rb xb yb cx cy rd HR GA a:=
 have l:=h.lt rb h.hr;have lx:=h.lt xb h.hx;have ly:=h.lt yb h.hy
 ⟨(hb.cell (p:=⟨rb,0,none⟩) l).trans h.c0,(hb.cell (p:=⟨rb,1,none⟩) l).trans h.c1,(hb.cell (p:=⟨rb,2,none⟩) l).trans h.c2,(hb.cell (p:=⟨rb,3,none⟩) l).trans h.c3,(hb.frozen (p:=⟨rb,2,none⟩) l).trans h.f2,(hb.frozen (p:=⟨rb,3,none⟩) l).trans h.f3,
  fun i hi=>(hb.cell (p:=⟨xb,i,none⟩) lx).trans (h.x i hi),fun i hi=>(hb.cell (p:=⟨yb,i,none⟩) ly).trans (h.y i hi),fun i hi=>(hb.frozen (p:=⟨yb,i,none⟩) ly).trans (h.fy i hi),fun i hi=>(h.dk i hi).below hb,
  h.inj,h.off,h.rx,h.ry,h.xy,h.hr,h.hx,h.hy,h.hd,h.dis,fun k hk=>Zu (h.lt k hk) hb.size,fun k hk=>Zu (h.lg k hk) hb.size,h.d1,h.d2,h.b,h.wl⟩
theorem RaAt.below(h:RaAt w rb HR GA a)(hb:Below w.heap.size w w'):RaAt w' rb HR GA a:=by
 obtain⟨xb,yb,cx,cy,rd,h,ok⟩:=h;exact⟨xb,yb,cx,cy,rd,h.below hb,ok⟩
theorem RaM.other(h:RaM w rb xb yb cx cy rd HR GA a)(g:Grew GA w GA' w')(hl:∀k,GA' k->k<w'.heap.size):RaM w' rb xb yb cx cy rd HR GA' a:=by
 have l:=h.lt rb h.hr;have lx:=h.lt xb h.hx;have ly:=h.lt yb h.hy;have nr:=h.dis rb h.hr;have nx:=h.dis xb h.hx;have ny:=h.dis yb h.hy;refine⟨(g.turn.cell (p:=⟨rb,0,none⟩) l nr).trans h.c0,(g.turn.cell (p:=⟨rb,1,none⟩) l nr).trans h.c1,(g.turn.cell (p:=⟨rb,2,none⟩) l nr).trans h.c2,(g.turn.cell (p:=⟨rb,3,none⟩) l nr).trans h.c3,(g.turn.frozen (p:=⟨rb,2,none⟩) l nr).trans h.f2,(g.turn.frozen (p:=⟨rb,3,none⟩) l nr).trans h.f3,
  fun i hi=>(g.turn.cell (p:=⟨xb,i,none⟩) lx nx).trans (h.x i hi),fun i hi=>(g.turn.cell (p:=⟨yb,i,none⟩) ly ny).trans (h.y i hi),fun i hi=>(g.turn.frozen (p:=⟨yb,i,none⟩) ly ny).trans (h.fy i hi),fun i hi=>?_,
  h.inj,h.off,h.rx,h.ry,h.xy,h.hr,h.hx,h.hy,h.hd,fun k hk=>g.off (h.lt k hk) (h.dis k hk),fun k hk=>Zu (h.lt k hk) g.turn.size,hl,h.d1,h.d2,h.b,h.wl⟩
 refine(h.dk i hi).grewH g (fun k hk=>Or.inr hk) (h.dis _ (h.hd i hi)) (fun k hk=>?_) (Or.inl (h.hd i hi)) (fun k hk=>?_)
 ·rcases hk with h1|h1
  ·exact Or.inl (Or.inl h1)
  ·rcases g.grow k h1 with h2|h2
   ·exact Or.inl (Or.inr h2)
   ·exact Or.inr h2
 ·rcases hk with h1|h1
  ·exact Zu (h.lt k h1) g.turn.size
  ·exact hl k h1
theorem RaAt.other(h:RaAt w rb HR GA a)(g:Grew GA w GA' w')(hl:∀k,GA' k->k<w'.heap.size):RaAt w' rb HR GA' a:=by
 obtain⟨xb,yb,cx,cy,rd,h,ok⟩:=h;exact⟨xb,yb,cx,cy,rd,h.other g hl,ok⟩
theorem RaAt.dis(h:RaAt w rb HR GA a):∀k,HR k->¬GA k:=by
 obtain⟨xb,yb,cx,cy,rd,h,ok⟩:=h;exact h.dis
theorem ArAt.other{ab:Nat}{a':ArS}(h:ArAt w ab GA a')(hd:∀k,HR k->¬GA k)(t:TurnG HR w w'):ArAt w' ab GA a':=
 h.keep (fun k hk=>t.block k (h.lt k hk) (fun e=>hd k e hk)) t.size
theorem RaM.disk(h:RaM w rb xb yb cx cy rd HR GA a){i:Nat}(hi:i<a.D.length){d':DkS}(hD:RefAt w' (rd i) (fun k=>HR k∨GA k) d')(t:TurnG (fun k=>k=rd i) w w'):
  RaM w' rb xb yb cx cy rd HR GA {a with D:=a.D.set i d'}:=by
 have l:=h.lt rb h.hr;have lx:=h.lt xb h.hx;have ly:=h.lt yb h.hy;obtain⟨o1,o2,o3⟩:=h.off i hi;have nr:¬rb=rd i:=fun e=>o1 e.symm
 have nx:¬xb=rd i:=fun e=>o2 e.symm
 have ny:¬yb=rd i:=fun e=>o3 e.symm
 have hl:(a.D.set i d').length=a.D.length:=Zs
 have up:∀k,HR k∨GA k->k<w.heap.size:=fun k hk=>hk.elim (h.lt k) (h.lg k)
 refine⟨?_,?_,(t.cell (p:=⟨rb,2,none⟩) l nr).trans h.c2,(t.cell (p:=⟨rb,3,none⟩) l nr).trans h.c3,(t.frozen (p:=⟨rb,2,none⟩) l nr).trans h.f2,(t.frozen (p:=⟨rb,3,none⟩) l nr).trans h.f3,
  fun j hj=>(t.cell (p:=⟨xb,j,none⟩) lx nx).trans (h.x j (hl▸hj)),fun j hj=>(t.cell (p:=⟨yb,j,none⟩) ly ny).trans (h.y j (hl▸hj)),fun j hj=>(t.frozen (p:=⟨yb,j,none⟩) ly ny).trans (h.fy j (hl▸hj)),fun j hj=>?_,
  fun j k hj hk=>h.inj j k (hl▸hj) (hl▸hk),fun j hj=>h.off j (hl▸hj),h.rx,h.ry,h.xy,h.hr,h.hx,h.hy,fun j hj=>h.hd j (hl▸hj),h.dis,fun k hk=>Zu (h.lt k hk) t.size,fun k hk=>Zu (h.lg k hk) t.size,?_,?_,?_,h.wl⟩
 ·show _=some (Value.slice _ (a.D.set i d').length _)
  rw[hl];exact(t.cell (p:=⟨rb,0,none⟩) l nr).trans h.c0
 ·show _=some (Value.slice _ (a.D.set i d').length _)
  rw[hl];exact(t.cell (p:=⟨rb,1,none⟩) l nr).trans h.c1
 ·have hj2:j<a.D.length:=hl▸hj
  show RefAt w' (rd j) _ ((a.D.set i d').getD j default)
  rw[getD_set hi]
  by_cases e:j=i
  ·subst e;rw[if_pos rfl];exact hD
  ·rw[if_neg e];refine(h.dk j hj2).grewH (Grew.of_turn t) (fun k hk=>?_) (fun e2=>e (h.inj j i hj2 hi e2)) (fun k hk=>Or.inl hk) (Or.inl (h.hd j hj2)) (fun k hk=>Zu (up k hk) t.size)
   have:k=rd i:=hk
   rw[this];exact Or.inl (h.hd i hi)
 ·show 1<=(a.D.set i d').length
  rw[hl];exact h.d1
 ·show(a.D.set i d').length<=32
  rw[hl];exact h.d2
 ·show a.B.length=(a.D.set i d').length
  rw[hl];exact h.b
theorem RaM.turnD(h:RaM w rb xb yb cx cy rd HR GA a){i:Nat}(hi:i<a.D.length)(t:TurnG (fun k=>k=rd i) w w'):TurnG HR w w':=
 ⟨t.os,t.tape,t.output,t.size,fun k hk hn=>t.block k hk (fun e=>hn (by have e2:k=rd i:=e;rw[e2];exact h.hd i hi))⟩
theorem RaM.own(h:RaM w rb xb yb cx cy rd HR GA a){g j:Nat}{v:Value}(hg:g=rb∨g=yb){i:Nat}(hi:i<a.D.length):RefAt (w.setCell ⟨g,j,none⟩ v) (rd i) (fun k=>HR k∨GA k) (a.D.getD i default):=by
 have t:TurnG (fun k=>k=g) w (w.setCell ⟨g,j,none⟩ v):=setCell_turnG rfl;obtain⟨o1,o2,o3⟩:=h.off i hi;have up:∀k,HR k∨GA k->k<w.heap.size:=fun k hk=>hk.elim (h.lt k) (h.lg k)
 refine(h.dk i hi).grewH (Grew.of_turn t) (fun k hk=>?_) (fun e=>?_) (fun k hk=>Or.inl hk) (Or.inl (h.hd i hi)) (fun k hk=>Zu (up k hk) t.size)
 ·have:k=g:=hk
  rw[this]
  rcases hg with e|e
  ·rw[e];exact Or.inl h.hr
  ·rw[e];exact Or.inl h.hy
 ·have e2:rd i=g:=e
  rcases hg with e3|e3
  ·exact o1 (e2.trans e3)
  ·exact o3 (e2.trans e3)
theorem RaM.setLeft(h:RaM w rb xb yb cx cy rd HR GA a){l:Int}(hl:(Lit.int .i64 l).wf=true):RaM (w.setCell ⟨rb,2,none⟩ (.int .i64 l)) rb xb yb cx cy rd HR GA {a with left:=l}:=by
 have hb:∀k,k≠rb->(w.setCell ⟨rb,2,none⟩ (.int .i64 l)).heap[k]? =w.heap[k]? :=fun k hk=>Below.heap_setCell w ⟨rb,2,none⟩ _ k hk
 have hx:=hb xb h.rx.symm;have hy:=hb yb h.ry.symm;refine⟨(cell_set_ne w _ Zd).trans h.c0,(cell_set_ne w _ Zd).trans h.c1,cell_set_eq _ h.c2,(cell_set_ne w _ Zd).trans h.c3,(frozen_set w _).trans h.f2,(frozen_set w _).trans h.f3,
  fun i hi=>(Zc (w:=w) hx).trans (h.x i hi),fun i hi=>(Zc (w:=w) hy).trans (h.y i hi),fun i hi=>(World.frozen?_of_block (w:=w) hy).trans (h.fy i hi),fun i hi=>h.own (Or.inl rfl) hi,
  h.inj,h.off,h.rx,h.ry,h.xy,h.hr,h.hx,h.hy,h.hd,h.dis,fun k hk=>by simpa using h.lt k hk,fun k hk=>by simpa using h.lg k hk,h.d1,h.d2,h.b,hl⟩
theorem RaM.setOff(h:RaM w rb xb yb cx cy rd HR GA a)(z:Bool):RaM (w.setCell ⟨rb,3,none⟩ (.bool z)) rb xb yb cx cy rd HR GA {a with off:=z}:=by
 have hb:∀k,k≠rb->(w.setCell ⟨rb,3,none⟩ (.bool z)).heap[k]? =w.heap[k]? :=fun k hk=>Below.heap_setCell w ⟨rb,3,none⟩ _ k hk
 have hx:=hb xb h.rx.symm;have hy:=hb yb h.ry.symm;refine⟨(cell_set_ne w _ Zd).trans h.c0,(cell_set_ne w _ Zd).trans h.c1,(cell_set_ne w _ Zd).trans h.c2,cell_set_eq _ h.c3,(frozen_set w _).trans h.f2,(frozen_set w _).trans h.f3,
  fun i hi=>(Zc (w:=w) hx).trans (h.x i hi),fun i hi=>(Zc (w:=w) hy).trans (h.y i hi),fun i hi=>(World.frozen?_of_block (w:=w) hy).trans (h.fy i hi),fun i hi=>h.own (Or.inl rfl) hi,
  h.inj,h.off,h.rx,h.ry,h.xy,h.hr,h.hx,h.hy,h.hd,h.dis,fun k hk=>by simpa using h.lt k hk,fun k hk=>by simpa using h.lg k hk,h.d1,h.d2,h.b,h.wl⟩
theorem RaM.setBorn(h:RaM w rb xb yb cx cy rd HR GA a){i:Nat}(hi:i<a.D.length)(z:Int):RaM (w.setCell ⟨yb,i,none⟩ (.int .i64 z)) rb xb yb cx cy rd HR GA {a with B:=a.B.set i z}:=by
 have hb:∀k,k≠yb->(w.setCell ⟨yb,i,none⟩ (.int .i64 z)).heap[k]? =w.heap[k]? :=fun k hk=>Below.heap_setCell w ⟨yb,i,none⟩ _ k hk
 have hx:=hb xb h.xy;have hr:=hb rb h.ry;have hB:i<a.B.length:=by rw[h.b];exact hi
 refine⟨(Zc (w:=w) hr).trans h.c0,(Zc (w:=w) hr).trans h.c1,(Zc (w:=w) hr).trans h.c2,(Zc (w:=w) hr).trans h.c3,(World.frozen?_of_block (w:=w) hr).trans h.f2,(World.frozen?_of_block (w:=w) hr).trans h.f3,
  fun j hj=>(Zc (w:=w) hx).trans (h.x j hj),fun j hj=>?_,fun j hj=>(frozen_set w _).trans (h.fy j hj),fun j hj=>h.own (Or.inr rfl) hj,
  h.inj,h.off,h.rx,h.ry,h.xy,h.hr,h.hx,h.hy,h.hd,h.dis,fun k hk=>by simpa using h.lt k hk,fun k hk=>by simpa using h.lg k hk,h.d1,h.d2,?_,h.wl⟩
 ·show _=some (Value.int .i64 ((a.B.set i z).getD j 0))
  rw[getD_set hB]
  by_cases e:j=i
  ·subst e;rw[if_pos rfl];exact cell_set_eq _ (h.y j hj)
  ·rw[if_neg e,cell_set_ne w _ e];exact h.y j hj
 ·show(a.B.set i z).length=_
  simp;exact h.b
end
section
variable {w:World} {rb:Nat} {HR GA:Nat->Prop} {a:ArS}
theorem z12_2{p:Prop} (h:p:=by
 subst hx
 go_enter Tryz.func131,Tryz.ntmps131
 go_wp2;go_ret;exact⟨rfl,rfl⟩
 ):p:=h
theorem rthereA_any{xb n c:Nat}(c0:w.cell? ⟨rb,0,none⟩=some (.slice (some ⟨xb,0,none⟩) n c)){i:Int}{x:Bool}(hx:decide (0<=i/\i<(n:Int))=x):Calls Tryz.prog 131 #[.pointer (some ⟨rb,0,none⟩),.int .i64 i] w fun e w'=>e= .returned (.bool x)/\w'=w:=by
 by_cases h0:i>=0
 ·by_cases h1:i<(n:Int)
  ·rw[Zy ⟨h0,h1⟩]at hx;exact z12_2
  ·rw[Zx (fun h=>h1 h.2)]at hx;exact z12_2
 ·rw[Zx (fun h=>h0 h.1)]at hx;exact z12_2
theorem Rd.nilR{w:World}:Rd w (.slice none 0 0) []:=by
 obtain⟨p,e,hp⟩:=rd_row (w:=w) (a:=none) (len:=0) (cap:=0) (zs:=[]) (Or.inl ⟨rfl,rfl,rfl,rfl⟩)
 have:p=[]:=List.length_eq_zero_iff.1 (by simpa using e.symm)
 rw[this]at hp;exact hp
theorem staysR{a':ArS}(h:RaAt w rb HR GA a)(e:a'=a):RaAt w rb HR GA a'/\TurnG HR w w:=⟨by rw[e];exact h,TurnG.refl _ _⟩
theorem z12_4{p:Prop} (h:p:=by
 clear M1 M2 eT h ok ok2 h0 t1
 go_enter Tryz.func99,Tryz.ntmps99
 go_wp2
 go_end0
 exact⟨rfl,FIN.out⟩
 ):p:=h
theorem rafter_any(h:RaAt w rb HR GA a){n:Int}(hn:(Lit.int .i64 n).wf=true):Calls Tryz.prog 99 #[.pointer (some ⟨rb,0,none⟩),.int .i64 n] w (LeavesRA w rb HR GA (caA a n) (.tuple #[])):=by
 have h0:=h;obtain⟨xb,yb,cx,cy,rd,h,ok⟩:=h;have c2:=h.c2;have c3:=h.c3;have f2:=h.f2;have f3:=h.f3;cases ho:a.off with
 |true=>
  have FIN:Hid (RaAt w rb HR GA (caA a n)/\TurnG HR w w):=staysR h0 (if_pos ho);rw[ho]at c3;clear h ok h0
  go_enter Tryz.func99,Tryz.ntmps99
  go_wp2;refine bodyPost_ret (v:=.tuple #[]) (by simp[results,Tryz.results99,go_sem]) rfl ?_
  exact⟨rfl,FIN.out⟩
 |false=>
  have eT:caA a n={{a with left:=if 0<=n then n else-1}with off:=decide (n=0)}:=if_neg (by rw[ho];simp);have ok2:=caA_ok ok n;rw[eT]at ok2;rw[ho]at c3;have q2:(n==0)=decide (n=0):=by by_cases e:n=0<;>simp[e]
  have M1:=h.setLeft (l:= -1) Zd;have t1:TurnG HR w (w.setCell ⟨rb,2,none⟩ (.int .i64 (-1))):=setCell_turnG h.hr
  by_cases hge:n>=0
  ·have M2:=(M1.setLeft (l:=n) hn).setOff (decide (n=0));have FIN:Hid (RaAt (((w.setCell ⟨rb,2,none⟩ (.int .i64 (-1))).setCell ⟨rb,2,none⟩ (.int .i64 n)).setCell ⟨rb,3,none⟩ (.bool (decide (n=0)))) rb HR GA (caA a n)/\TurnG HR w (((w.setCell ⟨rb,2,none⟩ (.int .i64 (-1))).setCell ⟨rb,2,none⟩ (.int .i64 n)).setCell ⟨rb,3,none⟩ (.bool (decide (n=0))))):=by
    rw[eT];rw[if_pos hge]at ok2 ⊢;exact⟨⟨xb,yb,cx,cy,rd,M2,ok2⟩,(t1.trans (setCell_turnG h.hr)).trans (setCell_turnG h.hr)⟩
   exact z12_4
  ·have M2:=M1.setOff (decide (n=0));have FIN:Hid (RaAt ((w.setCell ⟨rb,2,none⟩ (.int .i64 (-1))).setCell ⟨rb,3,none⟩ (.bool (decide (n=0)))) rb HR GA (caA a n)/\TurnG HR w ((w.setCell ⟨rb,2,none⟩ (.int .i64 (-1))).setCell ⟨rb,3,none⟩ (.bool (decide (n=0))))):=by
    rw[eT];rw[if_neg hge]at ok2 ⊢;exact⟨⟨xb,yb,cx,cy,rd,M2,ok2⟩,t1.trans (setCell_turnG h.hr)⟩
   exact z12_4
theorem rwriteA_any(h:RaAt w rb HR GA a){i ad:Int}{v:Value}{p:List UInt8}(hp:Rd w v p):
  Calls Tryz.prog 84 #[.pointer (some ⟨rb,0,none⟩),.int .i64 i,.int .i64 ad,v] w (LeavesRA w rb HR GA (wrAS a i ad p) (.int .i64 (wrAX a i ad p))):=by
 have h0:=h;obtain⟨xb,yb,cx,cy,rd,hM,ok⟩:=h;obtain⟨va,vc,rfl⟩:=hp.form;have c3:=hM.c3;cases ho:a.off with
 |true=>
  rw[ho]at c3;rw[show wrAX a i ad p=130 from if_pos ho];have FIN:Hid (RaAt w rb HR GA (wrAS a i ad p)/\TurnG HR w w):=staysR h0 (if_pos ho);clear h0 hM ok
  go_enter Tryz.func84,Tryz.ntmps84
  go_wp2;go_ret;exact⟨rfl,FIN.out⟩
 |false=>
  have no:¬a.off=true:=by rw[ho];simp
  have c0:=hM.c0;rw[ho]at c3
  by_cases ht:thA a i
  ·have KT:=rthereA_any (i:=i) c0 (Zy ht);have eX:wrAX a i ad p=wrX (diA a i) ad p:=by unfold wrAX;rw[if_neg no,if_pos ht]
   have eS:wrAS a i ad p=if wrX (diA a i) ad p=0 then tickA (setA a i (wrS (diA a i) ad p))else a:=by unfold wrAS;rw[if_neg no,if_pos ht]
   have okS:=wrAS_ok ok i ad p;obtain⟨j,rfl,hj⟩:=th_at ht;have hj':(j:Int)<(a.D.length:Int):=Zo
   have x0:=hM.x j hj;obtain⟨vl,vw,Tl,Tw,hI⟩:=hM.dk j hj;have KW:=rwrite_any hI (a:=ad) hp;rw[eX,eS];rw[eS]at okS;rw[show diA a (j:Int)=a.D.getD j default from rfl]at okS ⊢;clear eX eS hI;obtain⟨d,hd⟩:∃d,d=a.D.getD j default:=⟨_,rfl⟩;rw[<-hd]at KW okS ⊢
   by_cases hx:wrX d ad p=0
   ·rw[hx]at KW ⊢;rw[if_pos rfl];rw[hx,if_pos rfl]at okS
    by_cases hl:0<a.left
    ·have hl':a.left>0:=hl;have wb:=bounds_i64 hM.wl;have hwf:(Lit.int .i64 (a.left-1)).wf=true:=by simp[Lit.wf,IntKind.min,IntKind.max,IntKind.signed,IntKind.bits];omega
     have gl:IntKind.i64.wrap (a.left-1)=a.left-1:=Zw
     have q2:(a.left-1==0)=decide (a.left-1=0):=by by_cases e:a.left-1=0<;>simp[e]
     have eT:tickA (setA a (j:Int) (wrS d ad p))={{setA a (j:Int) (wrS d ad p)with left:=a.left-1}with off:=decide (a.left-1=0)}:=if_pos hl
     go_enter Tryz.func84,Tryz.ntmps84
     go_wp2_with fail
     refine KT.mono ?_
     rintro _ wq ⟨rfl,hwq⟩;rw[hwq];clear hwq wq KT
     go_wp2_with fail
     refine KW.mono ?_
     rintro _ w1 ⟨rfl,R1,t1⟩;have M1:=hM.disk hj R1 t1;have d2:w1.cell? ⟨rb,2,none⟩=some (.int .i64 a.left):=M1.c2;have d3:=M1.c3;have e2:=M1.f2;have e3:=M1.f3;have M2:=(M1.setLeft hwf).setOff (decide (a.left-1=0));have F2:Hid (RaAt ((w1.setCell ⟨rb,2,none⟩ (.int .i64 (a.left-1))).setCell ⟨rb,3,none⟩ (.bool (decide (a.left-1=0)))) rb HR GA (tickA (setA a (j:Int) (wrS d ad p)))/\TurnG HR w ((w1.setCell ⟨rb,2,none⟩ (.int .i64 (a.left-1))).setCell ⟨rb,3,none⟩ (.bool (decide (a.left-1=0))))):=by
      rw[eT]at okS ⊢;exact⟨⟨xb,yb,cx,cy,rd,M2,okS⟩,((hM.turnD hj t1).trans (setCell_turnG hM.hr)).trans (setCell_turnG hM.hr)⟩
     clear M1 M2 R1 t1 KW hM ok h0 okS c0 c3 x0 hp hd eT hwf wb hl;go_wp2;go_ret;exact⟨rfl,F2.out⟩
    ·have hl':¬a.left>0:=hl;have eT:tickA (setA a (j:Int) (wrS d ad p))=setA a (j:Int) (wrS d ad p):=if_neg hl
     go_enter Tryz.func84,Tryz.ntmps84
     go_wp2_with fail
     refine KT.mono ?_
     rintro _ wq ⟨rfl,hwq⟩;rw[hwq];clear hwq wq KT
     go_wp2_with fail
     refine KW.mono ?_
     rintro _ w1 ⟨rfl,R1,t1⟩;have M1:=hM.disk hj R1 t1;have d2:w1.cell? ⟨rb,2,none⟩=some (.int .i64 a.left):=M1.c2;have F2:Hid (RaAt w1 rb HR GA (tickA (setA a (j:Int) (wrS d ad p)))/\TurnG HR w w1):=by
      rw[eT]at okS ⊢;exact⟨⟨xb,yb,cx,cy,rd,M1,okS⟩,hM.turnD hj t1⟩
     clear M1 R1 t1 KW hM ok h0 okS c0 c3 x0 hp hd eT hl;go_wp2;go_ret;exact⟨rfl,F2.out⟩
   ·rw[if_neg hx];have eQ:wrS d ad p=d:=wrS_no hx;rw[eQ]at KW;obtain⟨x,hxx⟩:∃x,x=wrX d ad p:=⟨_,rfl⟩;rw[<-hxx]at KW hx ⊢;have q1:(x==0)=false:=Zq.2 hx
    go_enter Tryz.func84,Tryz.ntmps84
    go_wp2_with fail
    refine KT.mono ?_
    rintro _ wq ⟨rfl,hwq⟩;rw[hwq];clear hwq wq KT
    go_wp2_with fail
    refine KW.mono ?_
    rintro _ w1 ⟨rfl,R1,t1⟩;have M1:=hM.disk hj R1 t1;have F2:Hid (RaAt w1 rb HR GA a/\TurnG HR w w1):=⟨⟨xb,yb,cx,cy,rd,by
     have e2:({a with D:=a.D.set j d}:ArS)=a:=by rw[hd];exact setA_same hj
     rw[e2]at M1;exact M1,ok⟩,hM.turnD hj t1⟩
    clear M1 R1 t1 KW hM ok h0 okS c0 c3 x0 hp hd hxx eQ;go_wp2;go_ret;exact⟨rfl,F2.out⟩
  ·have KT:=rthereA_any (i:=i) c0 (Zx ht);rw[show wrAX a i ad p=1 by unfold wrAX;rw[if_neg no,if_neg ht]];have FIN:Hid (RaAt w rb HR GA (wrAS a i ad p)/\TurnG HR w w):=staysR h0 (by unfold wrAS;rw[if_neg no,if_neg ht]);clear h0 hM ok c0
   go_enter Tryz.func84,Tryz.ntmps84
   go_wp2_with fail
   refine KT.mono ?_
   rintro _ wq ⟨rfl,hwq⟩;rw[hwq];clear hwq wq KT;go_wp2;go_ret;exact⟨rfl,FIN.out⟩
theorem rreadA_far(h:RaAt w rb HR GA a){i ad:Int}:
  Calls Tryz.prog 87 #[.pointer (some ⟨rb,0,none⟩),.int .i64 i,.int .i64 ad] w (TellsF w (rdAX a i ad) (rdAB a i ad)):=by
 obtain⟨xb,yb,cx,cy,rd,hM,ok⟩:=h;have c3:=hM.c3;cases ho:a.off with
 |true=>
  rw[ho]at c3;rw[show rdAX a i ad=130 from if_pos ho,show rdAB a i ad=[]from if_pos ho];clear hM ok
  go_enter Tryz.func87,Tryz.ntmps87
  go_wp2;refine bodyPost_ret (v:=.tuple #[.slice none 0 0,.int .i64 130]) (by simp[results,Tryz.results87,go_sem]) rfl ?_
  exact⟨_,rfl,Rd.nilR,FarV.nil _ _ _,Zf⟩
 |false=>
  have no:¬a.off=true:=by rw[ho];simp
  have c0:=hM.c0;rw[ho]at c3
  by_cases ht:thA a i
  ·have KT:=rthereA_any (i:=i) c0 (Zy ht);rw[show rdAX a i ad=faX (diA a i) ad by unfold rdAX;rw[if_neg no,if_pos ht],show rdAB a i ad=rdB (diA a i) ad by unfold rdAB;rw[if_neg no,if_pos ht]];obtain⟨j,rfl,hj⟩:=th_at ht;have hj':(j:Int)<(a.D.length:Int):=by omega
   have x0:=hM.x j hj;obtain⟨vl,vw,Tl,Tw,hI⟩:=hM.dk j hj;have KR:=rread_far hI (ok.each _ (di_mem (th_j hj))) (a:=ad);rw[show diA a (j:Int)=a.D.getD j default from rfl];obtain⟨x,hx⟩:∃x,x=faX (a.D.getD j default) ad:=⟨_,rfl⟩;obtain⟨r,hr⟩:∃r,r=rdB (a.D.getD j default) ad:=⟨_,rfl⟩;rw[<-hx,<-hr]at KR ⊢;clear hM ok hx hr ht hI
   go_enter Tryz.func87,Tryz.ntmps87
   go_wp2_with fail
   refine KT.mono ?_
   rintro _ wq ⟨rfl,hwq⟩;rw[hwq];clear hwq wq KT
   go_wp2_with fail
   refine KR.mono ?_
   rintro _ w1 ⟨v,rfl,O1,V1,B1⟩;go_wp2;refine bodyPost_ret (v:=.tuple #[v,.int .i64 x]) (by simp[results,Tryz.results87,go_sem]) rfl ?_
   exact⟨_,rfl,O1,V1,B1⟩
  ·have KT:=rthereA_any (i:=i) c0 (Zx ht);rw[show rdAX a i ad=1 by unfold rdAX;rw[if_neg no,if_neg ht],show rdAB a i ad=[] by unfold rdAB;rw[if_neg no,if_neg ht]];clear hM ok c0
   go_enter Tryz.func87,Tryz.ntmps87
   go_wp2_with fail
   refine KT.mono ?_
   rintro _ wq ⟨rfl,hwq⟩;rw[hwq];clear hwq wq KT;go_wp2;refine bodyPost_ret (v:=.tuple #[.slice none 0 0,.int .i64 1]) (by simp[results,Tryz.results87,go_sem]) rfl ?_
   exact⟨_,rfl,Rd.nilR,FarV.nil _ _ _,Zf⟩
theorem rreadA_any(h:RaAt w rb HR GA a){i ad:Int}:
  Calls Tryz.prog 87 #[.pointer (some ⟨rb,0,none⟩),.int .i64 i,.int .i64 ad] w (TellsR w (rdAX a i ad) (rdAB a i ad)):=(rreadA_far h).mono fun _ _ h=>h.r
end
end Go.Proofs.YtclieefpnbdbjaaGreat.Gf
