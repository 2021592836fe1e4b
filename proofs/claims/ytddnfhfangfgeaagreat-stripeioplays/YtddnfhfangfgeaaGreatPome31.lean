/- JOINED: ArCC, ArCD, ArNew, ArAwM, ArRm. -/
import Derived.Test.YtddnfhfangfgeaaGreatPome30
set_option maxRecDepth 100000
namespace Go.Proofs.YtddnfhfangfgeaaGreat.Gf
set_option linter.unusedVariables false
set_option linter.unusedSimpArgs false
open Go.RowKit
section
variable {w:World} {ab:Nat} {GA:Nat->Prop} {a:ArS}
theorem aflush_off(h:ArAt w ab GA a)(ho:a.off=true):Calls Tryz.prog 74 #[.pointer (some ⟨ab,0,none⟩)] w (LeavesA w ab GA (flAS a) (.int .i64 (flAX a))):=by
 have h0:=h;obtain⟨mb,db,GD,hM,ok⟩:=h;have c2:=hM.c2;rw[ho]at c2;have K:=aref_any c2;simp only[if_true]at K;rw[show flAX a=130 from if_pos ho];have FIN:Hid (∃GA',ArAt w ab GA' (flAS a)/\Grew GA w GA' w):=stays h0 (if_pos ho);clear h0 hM ok c2
 go_enter Tryz.func74,Tryz.ntmps74
 go_wp2_with fail
 refine K.mono ?_
 rintro _ wq ⟨rfl,hwq⟩;rw[hwq];clear hwq wq K;go_wp2;go_ret;exact⟨rfl,FIN.out⟩
def firstF(f:Nat->DkS->DkS)(L:List DkS)(k:Nat):List DkS:=L.mapIdx fun i d=>if i<k then f i d else d
section
variable {f:Nat->DkS->DkS} {L:List DkS} {k:Nat}
theorem firstF_len:(firstF f L k).length=L.length:=by simp[firstF]
theorem firstF_zero:firstF f L 0=L:=by
 unfold firstF;apply List.ext_getElem Zs;intro i h1 h2;simp
theorem firstF_all:firstF f L L.length=L.mapIdx f:=by
 unfold firstF;apply List.ext_getElem Zs;intro i h1 h2
 have:i<L.length:=by simpa using h1
 simp[this]
theorem firstF_at(hk:k<L.length):(firstF f L k).getD k default=L.getD k default:=by simp[firstF,List.getD,hk]
theorem z31_3{p:Prop} (h:p:=by
 ·rw[if_pos e2,if_pos Zo]
 ·rw[if_neg e2,if_neg Zo]
 ):p:=h
theorem firstF_succ(hk:k<L.length):(firstF f L k).set k (f k (L.getD k default))=firstF f L (k+1):=by
 unfold firstF;apply List.ext_getElem Zs;intro i h1 h2;have h3:i<L.length:=by simpa using h1
 simp only[List.getElem_set,List.getElem_mapIdx]
 by_cases e:k=i
 ·subst e;simp[List.getD,h3]
 ·rw[if_neg e]
  by_cases e2:i<k
  exact z31_3
end
theorem z31_2{p:Prop} (h:p:=by
 rw[<-hsu];exact⟨_,_,M1,(hg.trans (Grew.of_below (belA wr _))).trans gg1⟩
 ):p:=h
theorem aflush_on(h:ArAt w ab GA a)(ho:a.off=false):Calls Tryz.prog 74 #[.pointer (some ⟨ab,0,none⟩)] w (LeavesA w ab GA (flAS a) (.int .i64 (flAX a))):=by
 have h0:=h;obtain⟨mb,db,GD,hM,ok⟩:=h;have c0:=hM.c0;have c2:=hM.c2;rw[ho]at c2;have K:=aref_any c2;simp only[Bool.false_eq_true,if_false]at K;have no:¬a.off=true:=by rw[ho];simp
 rw[show flAX a=0 from if_neg no];have okS:=flAS_ok ok;have eS:flAS a={a with D:=a.D.mapIdx (fun _ d=>flS d)}:=by
  unfold flAS;rw[if_neg no];congr 1;apply List.ext_getElem Zs;intro i h1 h2;simp
 have START:Hid (∃GD' GA',ArM w ab mb db GD' GA' {a with D:=firstF (fun _ d=>flS d) a.D 0}/\Grew GA w GA' w):=⟨GD,GA,by rw[firstF_zero];exact hM,Grew.refl _ _⟩;have FINI:Hid (∀wr GD' GA',ArM wr ab mb db GD' GA' {a with D:=firstF (fun _ d=>flS d) a.D a.D.length}->Grew GA w GA' wr->∃GA',ArAt wr ab GA' (flAS a)/\Grew GA w GA' wr):=fun wr GD' GA' hM' g'=>by
  rw[firstF_all]at hM';exact⟨GA',⟨mb,db,GD',by rw[eS];exact hM',okS⟩,g'⟩
 clear h0 hM ok c2 eS okS
 go_enter Tryz.func74,Tryz.ntmps74
 go_wp2_with fail
 refine K.mono ?_
 rintro _ wq ⟨rfl,hwq⟩;rw[hwq];clear hwq wq K;go_wp2
 go_loopw [16] (fun i wr=>∃k:Nat,k<=a.D.length/\i= .int .i64 (k:Int)/\∃GD' GA',ArM wr ab mb db GD' GA' {a with D:=firstF (fun _ d=>flS d) a.D k}/\Grew GA w GA' wr) (fun i _=>a.D.length-(intOf i).toNat)
 case atStart=>exact⟨0,Nat.zero_le _,rfl,START.out⟩
 case round=>
  clear START;obtain⟨k,hk,rfl,GD',GA',hM,hg⟩:=hrel
  by_cases hlt:k<a.D.length
  ·have hlt':(k:Int)<(a.D.length:Int):=by omega
   have g1:IntKind.i64.wrap ((k:Int)+1)=((k+1:Nat):Int):=by rw[IntKind.wrap_i64];have:=hM.d2;have e:({a with D:=firstF (fun _ d=>flS d) a.D k}:ArS).D.length=a.D.length:=firstF_len;omega
   have hk2:k<(firstF (fun _ d=>flS d) a.D k).length:=by rw[firstF_len];exact hlt
   have m0:=hM.m0 k hk2;have m1:=hM.m1 k hk2;have dk:DiskAt wr (db k) (GD' k) ((firstF (fun _ d=>flS d) a.D k).getD k default):=hM.dk k hk2;have hsu:(firstF (fun _ d=>flS d) a.D k).set k (flS (a.D.getD k default))=firstF (fun _ d=>flS d) a.D (k+1):=firstF_succ (f:=fun _ d=>flS d) hlt;rw[firstF_at hlt]at dk;obtain⟨d,hd⟩:∃d,d=a.D.getD k default:=⟨_,rfl⟩;rw[<-hd]at dk hsu;obtain⟨z,hz⟩:∃z,z=(({a with D:=firstF (fun _ d=>flS d) a.D k}:ArS).B.getD k 0):=⟨_,rfl⟩;rw[<-hz]at m1;have KD:=fun o=>@ddead_any (wr.alloc o) (db k) d.dead (dk.below (belA wr o)).dead
   cases hdd:d.dead with
   |true=>
    have E2:Hid (∀o,∃GD' GA',ArM (wr.alloc o) ab mb db GD' GA' {a with D:=firstF (fun _ d=>flS d) a.D (k+1)}/\Grew GA w GA' (wr.alloc o)):=by
     intro o;refine⟨GD',GA',?_,hg.trans (Grew.of_below (belA wr o))⟩;rw[<-hsu,show flS d=d from if_pos hdd,hd,<-firstF_at (f:=fun _ d=>flS d) hlt,set_self _ _ _ hk2];exact hM.below (belA wr o)
    rw[hdd]at KD;clear hM hg dk hsu hd hz hk2
    go_wp2_with fail
    refine(KD _).mono ?_
    rintro _ wq ⟨rfl,hwq⟩;rw[hwq];clear hwq wq KD;go_wp2;go_roundw
    case rel=>exact⟨k+1,Zo,Zg,E2.out _⟩
    case measure=>simp[intOf];omega
   |false=>
    rw[hdd]at KD;have KF:=fun o=>dflush_any (dk.below (belA wr o))
    have HM:=fun o=>hM.below (belA wr o)
    clear hz
    go_wp2_with fail
    refine(KD _).mono ?_
    rintro _ wq ⟨rfl,hwq⟩;rw[hwq];clear hwq wq KD
    go_wp2_with fail
    refine(KF _).mono ?_
    rintro _ w1 ⟨rfl,G1,D1,gr1⟩;obtain⟨M1,gg1⟩:=(HM _).disk hk2 D1 gr1;have E2:Hid (∃GD' GA',ArM w1 ab mb db GD' GA' {a with D:=firstF (fun _ d=>flS d) a.D (k+1)}/\Grew GA w GA' w1):=by
     exact z31_2
    clear hM hg dk hsu hd hk2 M1 gg1 D1 gr1 KF HM;go_wp2;go_roundw
    case rel=>exact⟨k+1,Zo,Zg,E2.out⟩
    case measure=>simp[intOf];omega
  ·have hlt':¬(k:Int)<(a.D.length:Int):=by omega
   have hkn:k=a.D.length:=Zo
   rw[hkn]at hM;have E2:Hid (∃GA',ArAt wr ab GA' (flAS a)/\Grew GA w GA' wr):=FINI.out wr GD' GA' hM hg;clear hM hg FINI;go_wp2;go_ret;exact⟨rfl,E2.out⟩
theorem aflush_any(h:ArAt w ab GA a):Calls Tryz.prog 74 #[.pointer (some ⟨ab,0,none⟩)] w (LeavesA w ab GA (flAS a) (.int .i64 (flAX a))):=by
 cases ho:a.off with
 |true=>exact aflush_off h ho
 |false=>exact aflush_on h ho
theorem RdI.lay{w:World}{v:Value}{p:List Int}(h:RdI w v p){x:Addr}{n c:Nat}(e:v= .slice (some x) n c):n=0∨x.block<w.heap.size:=by
 rcases h with⟨a,c',_,e2⟩|⟨b,off,cap,h1,h2,h3,h5,h6⟩
 ·subst e2;simp at e;exact Or.inl e.2.1.symm
 ·subst h2;simp at e;obtain⟨rfl,rfl,rfl⟩:=e;exact Or.inr h5
theorem ApartG.grewI{G G':Nat->Prop}{w w':World}{v:Value}{p:List Int}(ha:ApartG G v)(h:RdI w v p)(g:Grew G w G' w'):ApartG G' v:=by
 intro x n c e
 rcases ha x n c e with h1|h1
 ·exact Or.inl h1
 ·rcases h.lay e with h2|h2
  ·exact Or.inl h2
  ·exact Or.inr (g.off h2 h1)
theorem RdI.turnG{G:Nat->Prop}{w w':World}{v:Value}{p:List Int}(h:RdI w v p)(ha:ApartG G v)(ho:TurnG G w w'):RdI w' v p:=by
 rcases h with h|⟨b,off,cap,h1,h2,h3,h5,h6⟩
 ·exact Or.inl h
 ·have hb:¬G b:=by
   rcases ha _ _ _ h2 with e|e
   ·exact absurd (List.length_eq_zero_iff.1 e) h1
   ·exact e
  exact Or.inr ⟨b,off,cap,h1,h2,h3,Nat.lt_of_lt_of_le h5 ho.size,fun i hi=>(ho.cell (p:=⟨b,off+i,none⟩) h5 hb).trans (h6 i hi)⟩
structure ToldII(w:World)(G:Nat->Prop)(v:Value)(K:List VI):Prop where
 rd:RdII w v K
 ap:ApartG G v
 each:∀r∈K,ApartG G r.1
theorem VI_mem{K:List VI}{k:Nat}(hk:k<K.length):K.getD k default∈K:=by
 rw[show K.getD k default=K[k] by simp[List.getD,hk]];exact List.getElem_mem hk
theorem VI_ex{K:List VI}{r:VI}(h:r∈K):∃k,k<K.length/\K.getD k default=r:=by
 obtain⟨i,hi,e⟩:=List.getElem_of_mem h;exact⟨i,hi,by rw[<-e];simp[List.getD,hi]⟩
theorem ToldII.grew{G G':Nat->Prop}{w w':World}{v:Value}{K:List VI}(h:ToldII w G v K)(g:Grew G w G' w'):ToldII w' G' v K:=by
 have h0:=h.rd
 rcases h0 with h1|⟨b,off,cap,h1,h2,h3,h4,h5⟩
 ·refine⟨Or.inl h1,?_,?_⟩
  ·obtain⟨ao,cp,e1,e2⟩:=h1;rw[e2];exact ApartG.nil _ _ _
  ·obtain⟨ao,cp,e1,e2⟩:=h1;rw[e1];intro r hr;cases hr
 ·have hb:¬G b:=by
   rcases h.ap _ _ _ h2 with e|e
   ·exact absurd (List.length_eq_zero_iff.1 e) h1
   ·exact e
  refine⟨Or.inr ⟨b,off,cap,h1,h2,h3,Nat.lt_of_lt_of_le h4 g.turn.size,fun i hi=>?_⟩,?_,?_⟩
  ·have h6:=h5 i hi;exact⟨(g.turn.cell (p:=⟨b,off+i,none⟩) h4 hb).trans h6.c,h6.rd.turnG (h.each _ (VI_mem hi)) g.turn,h6.wf⟩
  ·rw[h2];intro x n c e;simp at e;obtain⟨rfl,_⟩:=e;exact Or.inr (g.off h4 hb)
  ·intro r hr;obtain⟨i,hi,rfl⟩:=VI_ex hr;exact(h.each _ hr).grewI (h5 i hi).rd g
theorem ToldII.old{w0 w:World}{G:Nat->Prop}{v:Value}{K:List VI}(h:RdII w0 v K)(hg:∀g,G g->w0.heap.size<=g)(hw:Below w0.heap.size w0 w):ToldII w G v K:=by
 refine⟨h.below hw,?_,?_⟩
 ·rcases h with⟨ao,cp,e1,e2⟩|⟨b,off,cap,h1,h2,h3,h4,h5⟩
  ·rw[e2];exact ApartG.nil _ _ _
  ·rw[h2];intro x n c e;simp at e;obtain⟨rfl,_⟩:=e;exact Or.inr (fun e2=>by have:=hg _ e2;simp at this;omega)
 ·intro r hr
  rcases h with⟨ao,cp,e1,e2⟩|⟨b,off,cap,h1,h2,h3,h4,h5⟩
  ·rw[e1]at hr;cases hr
  ·obtain⟨i,hi,rfl⟩:=VI_ex hr;intro x n c e
   rcases(h5 i hi).rd.lay e with h6|h6
   ·exact Or.inl h6
   ·exact Or.inr (fun e2=>by have:=hg _ e2;omega)
def reF(K:List VI)(i:Nat)(d:DkS):DkS:=crS d ((K.map (·.2)).getD i [])
theorem reF_in{K:List VI}{k:Nat}(hk:k<K.length)(d:DkS):reF K k d=crS d (K.getD k default).2:=by
 unfold reF;simp[List.getD,hk]
theorem reF_out{K:List VI}{k:Nat}(hk:¬k<K.length)(d:DkS):reF K k d=crS d []:=by
 unfold reF
 have:K[k]? =none:=List.getElem?_eq_none Zo
 simp[List.getD,this]
theorem z31_1{p:Prop} (h:p:=by
 go_wp2;go_roundw
 case rel=>exact⟨k+1,Zo,Zg,E2.out⟩
 case measure=>simp[intOf];omega
 ):p:=h
theorem arestart_any(h:ArAt w ab GA a){v:Value}{K:List VI}(hK:ToldII w GA v K)(hs:∀r∈K,r.2.length<=9223372036854775807):Calls Tryz.prog 78 #[.pointer (some ⟨ab,0,none⟩),v] w (LeavesA w ab GA (reAS a (K.map (·.2))) (.tuple #[])):=by
 obtain⟨mb,db,GD,hM,ok⟩:=h;obtain⟨va,vc,rfl⟩:=hK.rd.form;have c0:=hM.c0;have okS:=reAS_ok ok (K.map (·.2));have START:Hid (∃GD' GA',ArM w ab mb db GD' GA' {a with D:=firstF (reF K) a.D 0}/\Grew GA w GA' w):=⟨GD,GA,by rw[firstF_zero];exact hM,Grew.refl _ _⟩;have FINI:Hid (∀wr GD' GA',ArM wr ab mb db GD' GA' {a with D:=firstF (reF K) a.D a.D.length}->Grew GA w GA' wr->∃GA',ArAt ((wr.setCell ⟨ab,1,none⟩ (.int .i64 0)).setCell ⟨ab,2,none⟩ (.bool false)) ab GA' (reAS a (K.map (·.2)))/\Grew GA w GA' ((wr.setCell ⟨ab,1,none⟩ (.int .i64 0)).setCell ⟨ab,2,none⟩ (.bool false))):=fun wr GD' GA' hM' g'=>by
  rw[firstF_all]at hM';have M2:=(hM'.setLeft (l:= -1) Zd).setOff false;exact⟨GA',⟨mb,db,GD',M2,okS⟩,g'.trans (Grew.of_turn ((setCell_turnG hM'.ga).trans (setCell_turnG hM'.ga)))⟩
 clear hM ok okS
 go_enter Tryz.func78,Tryz.ntmps78
 go_wp2
 go_loopw [14] (fun i wr=>∃k:Nat,k<=a.D.length/\i= .int .i64 (k:Int)/\∃GD' GA',ArM wr ab mb db GD' GA' {a with D:=firstF (reF K) a.D k}/\Grew GA w GA' wr) (fun i _=>a.D.length-(intOf i).toNat)
 case atStart=>exact⟨0,Nat.zero_le _,rfl,START.out⟩
 case round=>
  clear START;obtain⟨k,hk,rfl,GD',GA',hM,hg⟩:=hrel
  by_cases hlt:k<a.D.length
  ·have hlt':(k:Int)<(a.D.length:Int):=by omega
   have g1:IntKind.i64.wrap ((k:Int)+1)=((k+1:Nat):Int):=by rw[IntKind.wrap_i64];have:=hM.d2;have e:({a with D:=firstF (reF K) a.D k}:ArS).D.length=a.D.length:=firstF_len;omega
   have hk2:k<(firstF (reF K) a.D k).length:=by rw[firstF_len];exact hlt
   have m0:=hM.m0 k hk2;have m1:=hM.m1 k hk2;have dk:DiskAt wr (db k) (GD' k) ((firstF (reF K) a.D k).getD k default):=hM.dk k hk2;have hsu:(firstF (reF K) a.D k).set k (reF K k (a.D.getD k default))=firstF (reF K) a.D (k+1):=firstF_succ hlt;rw[firstF_at hlt]at dk;obtain⟨d,hd⟩:∃d,d=a.D.getD k default:=⟨_,rfl⟩;rw[<-hd]at dk hsu;obtain⟨z,hz⟩:∃z,z=(({a with D:=firstF (reF K) a.D k}:ArS).B.getD k 0):=⟨_,rfl⟩;rw[<-hz]at m1;have HK:=hK.grew hg;have KC:=fun (o:Obj) (v:Value) (L:List Int) (h1:RdI (wr.alloc o) v L) (h2:∀z∈L,(Lit.int .i64 z).wf=true) (h3:ApartG (GD' k) v) (h4:L.length<=9223372036854775807)=>dcrash_any (dk.below (belA wr o)) h1 h2 h3 h4
   have HM:=fun o=>hM.below (belA wr o)
   clear hz
   by_cases hkk:k<K.length
   ·have hkk':(k:Int)<(K.length:Int):=by omega
    obtain⟨b,off,rfl,hb,hrow⟩:=HK.rd.at hkk;have hAp:ApartG (GD' k) (K.getD k default).1:=fun x n c e=>(HK.each _ (VI_mem hkk) x n c e).imp id (fun h1 h2=>h1 (hM.gd k hk2 _ h2))
    have hsz:=hs _ (VI_mem hkk);rw[reF_in hkk]at hsu;obtain⟨r,hr⟩:∃r,r=K.getD k default:=⟨_,rfl⟩;rw[<-hr]at hrow hAp hsz hsu;obtain⟨rc,rrd,rwf⟩:=hrow;obtain⟨rv,rl⟩:=r;simp only at rc rrd rwf hAp hsz hsu;obtain⟨ra,rcp,rfl⟩:=rrd.form;clear hr
    go_wp2_with fail
    refine(KC _ _ rl (rrd.below (belA wr _)) rwf hAp hsz).mono ?_
    rintro _ w1 ⟨rfl,G1,D1,gr1⟩;obtain⟨M1,gg1⟩:=(HM _).disk hk2 D1 gr1;have E2:Hid (∃GD' GA',ArM w1 ab mb db GD' GA' {a with D:=firstF (reF K) a.D (k+1)}/\Grew GA w GA' w1):=by
     exact z31_2
    clear hM hg dk hsu hd hk2 M1 gg1 D1 gr1 KC HM HK hAp rrd rwf rc m0 m1;exact z31_1
   ·have hkk':¬(k:Int)<(K.length:Int):=by omega
    rw[reF_out hkk]at hsu
    go_wp2_with fail
    refine(KC _ _ [] (Or.inl ⟨none,0,rfl,rfl⟩) Zs (ApartG.nil _ _ _) Zs).mono ?_
    rintro _ w1 ⟨rfl,G1,D1,gr1⟩;obtain⟨M1,gg1⟩:=(HM _).disk hk2 D1 gr1;have E2:Hid (∃GD' GA',ArM w1 ab mb db GD' GA' {a with D:=firstF (reF K) a.D (k+1)}/\Grew GA w GA' w1):=by
     exact z31_2
    clear hM hg dk hsu hd hk2 M1 gg1 D1 gr1 KC HM HK m0 m1;exact z31_1
  ·have hlt':¬(k:Int)<(a.D.length:Int):=by omega
   have hkn:k=a.D.length:=Zo
   rw[hkn]at hM;have c1:=hM.c1;have c2:=hM.c2;have f1:=hM.f1;have f2:=hM.f2;have E2:Hid (∃GA',ArAt ((wr.setCell ⟨ab,1,none⟩ (.int .i64 0)).setCell ⟨ab,2,none⟩ (.bool false)) ab GA' (reAS a (K.map (·.2)))/\Grew GA w GA' ((wr.setCell ⟨ab,1,none⟩ (.int .i64 0)).setCell ⟨ab,2,none⟩ (.bool false))):=FINI.out wr GD' GA' hM hg;clear hM hg FINI hK;go_wp2
   go_end0
   exact⟨rfl,E2.out⟩
end
theorem info_bool13:(Tryz.prog.info? 4).map (fun i=>(i.zero,i.size,i.bytes))=some (some (.bool false),1,1):=Zk
theorem info_int13:(Tryz.prog.info? 3).map (fun i=>(i.zero,i.size,i.bytes))=some (some (.int .i64 0),1,8):=Zk
def MadeRow(w:World)(t n:Nat)(f:Nat->Value)(e:Ending)(w':World):Prop:=∃g,e= .returned (.slice (some ⟨g,0,none⟩) n n)/\w'.rowIs g t n f/\w.heap.size<=g/\Below w.heap.size w w'
section
variable {w:World} {ab:Nat} {GA:Nat->Prop} {a:ArS}
theorem alive_any(h:ArAt w ab GA a):Calls Tryz.prog 41 #[.pointer (some ⟨ab,0,none⟩)] w (MadeRow w 4 a.D.length (fun i=>.bool (!(a.D.getD i default).dead))):=by
 obtain⟨mb,db,GD,hM,ok⟩:=h;have c0:=hM.c0;have d2:=hM.d2;have mk1:=run_make_row' (P:=Tryz.prog) 96 4 (.bool false) 1 Tryz.underlying96 info_bool13 rfl .i64 .i64 a.D.length Zo Zo;obtain⟨u,hu⟩:∃u,u=w.alloc (Obj.cells (madeCells #[Value.bool false] a.D.length) 4):=⟨_,rfl⟩;have hub:Below w.heap.size w u:=by rw[hu];exact belA _ _
 have hur:u.rowIs w.heap.size 4 a.D.length (fun _=>.bool false):=by rw[hu];exact World.rowIs_made _ _ _ _
 have hM1:=hM.below hub;have c0m:=hM1.c0;have mk2:=mk1 w;obtain⟨g,hg⟩:∃g,Hid (g=w.heap.size):=⟨_,rfl⟩;rw[<-hu,<-hg.out]at mk2;rw[<-hg.out]at hur;clear mk1 hu
 go_enter Tryz.func41,Tryz.ntmps41
 go_wp2;have START:Hid (u.rowIs g 4 a.D.length (fun j=>if j<0 then .bool (!(a.D.getD j default).dead)else .bool false)/\Below w.heap.size w u):=⟨hur,hub⟩;clear hM1 c0m mk2 hub hur ok c0
 go_loopw [19] (fun i wr=>∃k:Nat,k<=a.D.length/\i= .int .i64 (k:Int)/\wr.rowIs g 4 a.D.length (fun j=>if j<k then .bool (!(a.D.getD j default).dead)else .bool false)/\Below w.heap.size w wr) (fun i _=>a.D.length-(intOf i).toNat)
 case atStart=>exact⟨0,Nat.zero_le _,rfl,START.out⟩
 case round=>
  clear START;obtain⟨k,hk,rfl,hr,hb⟩:=hrel
  by_cases hlt:k<a.D.length
  ·have hlt':(k:Int)<(a.D.length:Int):=by omega
   have g1:IntKind.i64.wrap ((k:Int)+1)=((k+1:Nat):Int):=Zw
   have hMr:=hM.below hb;have m0:=hMr.m0 k hlt;have m1:=hMr.m1 k hlt;have KD:=fun o=>@ddead_any (wr.alloc o) (db k) (a.D.getD k default).dead ((hMr.dk k hlt).below (belA wr o)).dead
   have R1:Hid (∀o,(wr.alloc o).rowIs g 4 a.D.length (fun j=>if j<k then .bool (!(a.D.getD j default).dead)else .bool false)/\Below w.heap.size w (wr.alloc o)):=fun o=>⟨hr.alloc o,hb.trans ((belA wr o).mono hb.size)⟩
   obtain⟨z,hz⟩:∃z,z=a.B.getD k 0:=⟨_,rfl⟩;rw[<-hz]at m1;obtain⟨x,hx⟩:∃x,Hid (x=(a.D.getD k default).dead):=⟨_,rfl⟩;rw[<-hx.out]at KD;clear hz hMr hr hb
   go_wp2_with fail
   refine(KD _).mono ?_
   rintro _ wq ⟨rfl,hwq⟩;obtain⟨R2,B2⟩:=R1.out (Obj.cells #[Value.pointer (some ⟨db k,0,none⟩),.int .i64 z] 81);rw[<-hwq]at R2 B2;have cq:=R2.cell hlt;have fq:=R2.frozen k;have R3:=R2.set k (.bool (!x));have E2:Hid ((wq.setCell ⟨g,k,none⟩ (.bool (!x))).rowIs g 4 a.D.length (fun j=>if j<k+1 then .bool (!(a.D.getD j default).dead)else .bool false)/\Below w.heap.size w (wq.setCell ⟨g,k,none⟩ (.bool (!x)))):=by
    refine⟨R3.congr fun j hj=>?_,B2.setCell (by rw[hg.out];exact Nat.le_refl _) _⟩
    by_cases e:j=k
    ·rw[if_pos e,if_pos Zo,e,hx.out]
    ·rw[if_neg e]
     by_cases e2:j<k
     exact z31_3
   clear KD R1 R2 B2 R3 hwq m0 m1;cases x<;>simp only[Bool.not_true,Bool.not_false]at E2
   all_goals
    go_wp2;go_roundw
    case rel=>exact⟨k+1,Zo,Zg,E2.out⟩
    case measure=>simp[intOf];omega
  ·have hlt':¬(k:Int)<(a.D.length:Int):=by omega
   have hkn:k=a.D.length:=Zo
   have FIN:Hid (wr.rowIs g 4 a.D.length (fun j=>.bool (!(a.D.getD j default).dead))/\w.heap.size<=g/\Below w.heap.size w wr):=⟨hr.congr fun j hj=>if_pos Zo,by rw[hg.out];exact Nat.le_refl _,hb⟩;clear hr hb;go_wp2;go_ret;exact⟨g,rfl,FIN.out⟩
theorem abirths_any(h:ArAt w ab GA a):Calls Tryz.prog 43 #[.pointer (some ⟨ab,0,none⟩)] w (MadeRow w 3 a.D.length (fun i=>.int .i64 (a.B.getD i 0))):=by
 obtain⟨mb,db,GD,hM,ok⟩:=h;have c0:=hM.c0;have d2:=hM.d2;have mk1:=run_make_row' (P:=Tryz.prog) 45 3 (.int .i64 0) 8 Tryz.underlying45 info_int13 rfl .i64 .i64 a.D.length Zo Zo;obtain⟨u,hu⟩:∃u,u=w.alloc (Obj.cells (madeCells #[Value.int .i64 0] a.D.length) 3):=⟨_,rfl⟩;have hub:Below w.heap.size w u:=by rw[hu];exact belA _ _
 have hur:u.rowIs w.heap.size 3 a.D.length (fun _=>.int .i64 0):=by rw[hu];exact World.rowIs_made _ _ _ _
 have hM1:=hM.below hub;have c0m:=hM1.c0;have mk2:=mk1 w;obtain⟨g,hg⟩:∃g,Hid (g=w.heap.size):=⟨_,rfl⟩;rw[<-hu,<-hg.out]at mk2;rw[<-hg.out]at hur;clear mk1 hu
 go_enter Tryz.func43,Tryz.ntmps43
 go_wp2;have START:Hid (u.rowIs g 3 a.D.length (fun j=>if j<0 then .int .i64 (a.B.getD j 0)else .int .i64 0)/\Below w.heap.size w u):=⟨hur,hub⟩;clear hM1 c0m mk2 hub hur ok c0
 go_loopw [19] (fun i wr=>∃k:Nat,k<=a.D.length/\i= .int .i64 (k:Int)/\wr.rowIs g 3 a.D.length (fun j=>if j<k then .int .i64 (a.B.getD j 0)else .int .i64 0)/\Below w.heap.size w wr) (fun i _=>a.D.length-(intOf i).toNat)
 case atStart=>exact⟨0,Nat.zero_le _,rfl,START.out⟩
 case round=>
  clear START;obtain⟨k,hk,rfl,hr,hb⟩:=hrel
  by_cases hlt:k<a.D.length
  ·have hlt':(k:Int)<(a.D.length:Int):=by omega
   have g1:IntKind.i64.wrap ((k:Int)+1)=((k+1:Nat):Int):=Zw
   have hMr:=hM.below hb;have m0:=hMr.m0 k hlt;have m1:=hMr.m1 k hlt;obtain⟨z,hz⟩:∃z,Hid (z=a.B.getD k 0):=⟨_,rfl⟩;rw[<-hz.out]at m1;have cq:=fun o=>(hr.alloc o).cell hlt
   have fq:=fun o=>(hr.alloc o).frozen k
   have E2:Hid (∀o,((wr.alloc o).setCell ⟨g,k,none⟩ (.int .i64 z)).rowIs g 3 a.D.length (fun j=>if j<k+1 then .int .i64 (a.B.getD j 0)else .int .i64 0)/\Below w.heap.size w ((wr.alloc o).setCell ⟨g,k,none⟩ (.int .i64 z))):=by
    intro o;refine⟨((hr.alloc o).set k (.int .i64 z)).congr fun j hj=>?_,(hb.trans ((belA wr o).mono hb.size)).setCell (by rw[hg.out];exact Nat.le_refl _) _⟩
    by_cases e:j=k
    ·rw[if_pos e,if_pos Zo,e,hz.out]
    ·rw[if_neg e]
     by_cases e2:j<k
     exact z31_3
   clear hMr hr hb;go_wp2;go_roundw
   case rel=>exact⟨k+1,Zo,Zg,E2.out _⟩
   case measure=>simp[intOf];omega
  ·have hlt':¬(k:Int)<(a.D.length:Int):=by omega
   have hkn:k=a.D.length:=Zo
   have FIN:Hid (wr.rowIs g 3 a.D.length (fun j=>.int .i64 (a.B.getD j 0))/\w.heap.size<=g/\Below w.heap.size w wr):=⟨hr.congr fun j hj=>if_pos Zo,by rw[hg.out];exact Nat.le_refl _,hb⟩;clear hr hb;go_wp2;go_ret;exact⟨g,rfl,FIN.out⟩
end
theorem info_member:(Tryz.prog.info? 81).map (fun i=>(i.zero,i.size,i.bytes))=some (some (.agg #[.pointer none,.int .i64 0]),2,16):=Zk
theorem run_make_members(n:Nat)(hn:n<=32)(w:World):(Instr.makeSlice 74 (.int .i64 (n:Int)) (.int .i64 (n:Int))).run Tryz.prog w= .ok (.slice (some ⟨w.heap.size,0,none⟩) n n) (w.alloc (.cells (madeCells #[.pointer none,.int .i64 0] (n*2)) 81)):=by
 obtain⟨i,hi,hzz⟩:=Option.map_eq_some_iff.1 info_member;simp only[Prod.mk.injEq]at hzz;obtain⟨hz,hs,hb⟩:=hzz;have hr:=run_make (P:=Tryz.prog) w 74 81 i _ Tryz.underlying74 hi hz .i64 .i64 n n Zo (Int.le_refl _) (by rw[hb];omega) Zo;simp only[Int.toNat_natCast,hs]at hr;exact hr
def nfR(db:Nat->Nat)(k:Nat)(j:Nat):Value:=if j%2=0 then (if j/2<k then .pointer (some ⟨db (j/2),0,none⟩)else .pointer none)else .int .i64 0
def faR(mb n:Nat)(j:Nat):Value:=if j=0 then .slice (some ⟨mb,0,none⟩) n n else if j=1 then .int .i64 0 else .bool false
structure NewI(w wr:World)(ab mb n k s:Nat)(db:Nat->Nat)(GD:Nat->Nat->Prop):Prop where
 b:Below w.heap.size w wr
 la:w.heap.size<=ab
 lm:w.heap.size<=mb
 ne:ab≠mb
 ra:wr.rowIs ab 76 3 (faR mb n)
 rm:wr.rowIs mb 81 (n*2) (nfR db k)
 dk:∀i,i<k->DiskAt wr (db i) (GD i) (newD s)
 sep:∀i j,i<k->j<k->i≠j->∀x,GD i x->¬GD j x
 up:∀i,i<k->∀x,GD i x->x≠ab/\x≠mb/\w.heap.size<=x
section
variable {w wr w1:World} {ab mb n k s:Nat} {db:Nat->Nat} {GD:Nat->Nat->Prop}
theorem NewI.step(h:NewI w wr ab mb n k s db GD)(hk:k<n){d:Nat}{G:Nat->Prop}(hD:DiskAt w1 d G (newD s))(hG:∀x,G x->wr.heap.size<=x)(hb:Below wr.heap.size wr w1):
  NewI w (w1.setCell ⟨mb,k*2,none⟩ (.pointer (some ⟨d,0,none⟩))) ab mb n (k+1) s (fun i=>if i=k then d else db i) (fun i=>if i=k then G else GD i):=by
 have lm:=h.rm.lt;have la:=h.ra.lt;have kb:∀x,x≠mb->(w1.setCell ⟨mb,k*2,none⟩ (.pointer (some ⟨d,0,none⟩))).heap[x]? =w1.heap[x]? :=fun x hx=>Below.heap_setCell w1 ⟨mb,k*2,none⟩ _ x hx
 refine⟨(h.b.trans (hb.mono h.b.size)).setCell h.lm _,h.la,h.lm,h.ne,?_,?_,?_,?_,?_⟩
 ·exact(h.ra.of_block (hb.block ab la)).setOther h.ne _
 ·refine((h.rm.of_block (hb.block mb lm)).set (k*2) (.pointer (some ⟨d,0,none⟩))).congr fun j hj=>?_
  unfold nfR
  by_cases e:j=k*2
  ·subst e;rw[if_pos rfl,if_pos Zo,if_pos Zo]
   show _=Value.pointer (some ⟨if k*2/2=k then d else db (k*2/2),0,none⟩)
   rw[if_pos Zo]
  ·rw[if_neg e]
   by_cases e1:j%2=0
   ·rw[if_pos e1,if_pos e1]
    by_cases e2:j/2<k
    ·rw[if_pos e2,if_pos Zo]
     show _=Value.pointer (some ⟨if j/2=k then d else db (j/2),0,none⟩)
     rw[if_neg Zo]
    ·rw[if_neg e2,if_neg Zo]
   ·rw[if_neg e1,if_neg e1]
 ·intro i hi
  show DiskAt _ (if i=k then d else db i) (if i=k then G else GD i) _
  by_cases e:i=k
  ·rw[if_pos e,if_pos e];exact hD.keep (fun x hx=>kb x (fun e2=>by have:=hG x hx;omega)) Zs
  ·rw[if_neg e,if_neg e];have h1:=(h.dk i Zo).below hb;exact h1.keep (fun x hx=>kb x (h.up i Zo x hx).2.1) Zs
 ·intro i j hi hj hne x hx hx2;replace hx:(if i=k then G else GD i) x:=hx;replace hx2:(if j=k then G else GD j) x:=hx2
  by_cases e:i=k
  ·rw[if_pos e]at hx;rw[if_neg Zo]at hx2;have h1:=hG x hx;have h2:=(h.dk j Zo).lt x hx2;omega
  ·rw[if_neg e]at hx
   by_cases e2:j=k
   ·rw[if_pos e2]at hx2;have h1:=hG x hx2;have h2:=(h.dk i Zo).lt x hx;omega
   ·rw[if_neg e2]at hx2;exact h.sep i j Zo Zo hne x hx hx2
 ·intro i hi x hx;replace hx:(if i=k then G else GD i) x:=hx
  by_cases e:i=k
  ·rw[if_pos e]at hx;have h1:=hG x hx;have h2:=h.b.size;exact⟨Zo,Zo,Zo⟩
  ·rw[if_neg e]at hx;exact h.up i Zo x hx
theorem rep_getD{α:Type}{n i:Nat}{x d:α}(h:i<n):(List.replicate n x).getD i d=x:=by simp[List.getD,h]
theorem NewI.done(h:NewI w wr ab mb n n s db GD)(h1:1<=n)(h2:n<=32)(h3:1<=s)(h4:s<=4096):ArAt wr ab (fun x=>x=ab∨x=mb∨∃i,i<n/\GD i x) (newA n s):=by
 have hl:(newA n s).D.length=n:=by simp[newA]
 refine⟨mb,db,GD,⟨?_,h.ra.cell (i:=1) Zo,h.ra.cell (i:=2) Zo,h.ra.frozen 1,h.ra.frozen 2,fun i hi=>?_,fun i hi=>?_,fun i hi=>h.rm.frozen _,fun i hi=>?_,fun i j hi hj=>h.sep i j (hl▸hi) (hl▸hj),fun i hi=>⟨fun e=>(h.up i (hl▸hi) _ e).1 rfl,fun e=>(h.up i (hl▸hi) _ e).2.1 rfl⟩,h.ne,Or.inl rfl,Or.inr (Or.inl rfl),fun i hi x hx=>Or.inr (Or.inr ⟨i,hl▸hi,hx⟩),fun x hx=>?_,by rw[hl];exact h1,by rw[hl];exact h2,by simp[newA],by simp[newA];decide⟩,newA_ok h1 h2 h3 h4⟩
 ·rw[hl];exact h.ra.cell (i:=0) Zo
 ·rw[hl]at hi;rw[h.rm.cell Zo];unfold nfR;rw[if_pos Zo,if_pos Zo,show i*2/2=i by omega]
 ·rw[hl]at hi;rw[h.rm.cell Zo];unfold nfR;rw[if_neg Zo];simp only[newA];rw[rep_getD hi]
 ·rw[hl]at hi;simp only[newA];rw[rep_getD hi];exact h.dk i hi
 ·rcases hx with h5|h5|⟨i,hi,h5⟩
  ·rw[h5];exact h.ra.lt
  ·rw[h5];exact h.rm.lt
  ·exact(h.dk i hi).lt x h5
end
def NewsA(w:World)(n s:Nat)(e:Ending)(w':World):Prop:=∃ab GA,e= .returned (.tuple #[.pointer (some ⟨ab,0,none⟩),.int .i64 0])/\ArAt w' ab GA (newA n s)/\(∀k,GA k->w.heap.size<=k)/\Below w.heap.size w w'
theorem made_two(w:World)(n:Nat)(t:TypeId):(w.alloc (.cells (madeCells #[.pointer none,.int .i64 0] (n*2)) t)).rowIs w.heap.size t (n*2) (nfR (fun _=>0) 0):=by
 have hs:(madeCells #[Value.pointer none,.int .i64 0] (n*2)).size=n*2:=size_madeCells _ _;have h:=World.rowIs_alloc w (madeCells #[.pointer none,.int .i64 0] (n*2)) t (nfR (fun _=>0) 0) (fun i hi=>by
  rw[hs]at hi;unfold nfR
  rcases Nat.mod_two_eq_zero_or_one i with e|e<;>simp[madeCells,hi,e])
 rw[hs]at h;exact h
theorem laid_u(w:World)(n:Nat)(h2:n<=32):∃u,(Instr.makeSlice 74 (.int .i64 (n:Int)) (.int .i64 (n:Int))).run Tryz.prog w= .ok (.slice (some ⟨w.heap.size,0,none⟩) n n) u/\u.rowIs w.heap.size 81 (n*2) (nfR (fun _=>0) 0)/\Below w.heap.size w u/\u.heap.size=w.heap.size+1:=
 ⟨_,run_make_members n h2 w,made_two _ _ _,belA _ _,Zs⟩
theorem laid_a(u:World)(g n:Nat):(u.alloc (.cells #[.slice (some ⟨g,0,none⟩) n n,.int .i64 0,.bool false] 76)).rowIs u.heap.size 76 3 (faR g n):=
 World.rowIs_alloc u #[.slice (some ⟨g,0,none⟩) n n,.int .i64 0,.bool false] 76 (faR g n) (fun i hi=>by
  have hi2:i<3:=hi
  match i,hi2 with
  |0,_=>rfl
  |1,_=>rfl
  |2,_=>rfl)
theorem anew_any{w:World}{n:Nat}{s:Int}(h1:1<=n)(h2:n<=32)(h3:1<=s)(h4:s<=4096):Calls Tryz.prog 12 #[.int .i64 (n:Int),.int .i64 s] w (NewsA w n s.toNat):=by
 have q1:¬(n:Int)<1:=Zo
 have q2:¬(n:Int)>32:=Zo
 obtain⟨u,mk1,hr,hb,hs⟩:=laid_u w n h2;obtain⟨g,hg⟩:∃g,Hid (g=w.heap.size):=⟨_,rfl⟩;rw[<-hg.out]at mk1 hr;have hs':Hid (u.heap.size=w.heap.size+1):=hs;have LA:=laid_a u g n;have START:Hid (∃db GD,NewI w (u.alloc (.cells #[.slice (some ⟨g,0,none⟩) n n,.int .i64 0,.bool false] 76)) u.heap.size g n 0 s.toNat db GD):=
  ⟨fun _=>0,fun _ _=>False,(hb.alloc (by have:=hb.size;omega) _),Zo,by rw[hg.out];exact Nat.le_refl _,by rw[hg.out];omega,LA,hr.alloc _,fun i hi=>absurd hi (Nat.not_lt_zero _),fun i j hi=>absurd hi (Nat.not_lt_zero _),fun i hi=>absurd hi (Nat.not_lt_zero _)⟩
 have c0:=LA.cell (i:=0) Zo;simp only[faR,if_true]at c0;clear hs LA hb hr
 go_enter Tryz.func12,Tryz.ntmps12
 go_wp2;obtain⟨ab,hab⟩:∃ab,Hid (ab=u.heap.size):=⟨_,rfl⟩;rw[<-hab.out]at START ⊢
 go_loopw [25] (fun i wr=>∃k:Nat,k<=n/\i= .int .i64 (k:Int)/\∃db GD,NewI w wr ab g n k s.toNat db GD) (fun i _=>n-(intOf i).toNat)
 case atStart=>exact⟨0,Nat.zero_le _,rfl,START.out⟩
 case round=>
  clear START;obtain⟨k,hk,rfl,db,GD,hN⟩:=hrel
  by_cases hlt:k<n
  ·have hlt':(k:Int)<(n:Int):=by omega
   have g1:IntKind.i64.wrap ((k:Int)+1)=((k+1:Nat):Int):=Zw
   go_wp2_with fail
   refine(dmake_any h3 h4).mono ?_
   rintro _ w1 ⟨d,G,rfl,D1,H1,B1⟩;have c1:w1.cell? ⟨ab,0,none⟩=some (.slice (some ⟨g,0,none⟩) n n):=(B1.cell (p:=⟨ab,0,none⟩) hN.ra.lt).trans (hN.ra.cell (i:=0) Zo);have R1:=hN.rm.of_block (B1.block g hN.rm.lt);have c2:=R1.cell (i:=k*2) Zo;have f2:=R1.frozen (k*2);have E2:Hid (∃db GD,NewI w (w1.setCell ⟨g,k*2,none⟩ (.pointer (some ⟨d,0,none⟩))) ab g n (k+1) s.toNat db GD):=⟨_,_,hN.step hlt D1 H1 B1⟩;clear hN D1 H1 B1 R1;exact z31_1
  ·have hlt':¬(k:Int)<(n:Int):=by omega
   have hkn:k=n:=Zo
   rw[hkn]at hN;have FIN:Hid (∃GA,ArAt wr ab GA (newA n s.toNat)/\(∀k,GA k->w.heap.size<=k)/\Below w.heap.size w wr):=⟨_,hN.done h1 h2 Zo Zo,fun x hx=>by
    rcases hx with h5|h5|⟨i,hi,h5⟩
    ·rw[h5];exact hN.la
    ·rw[h5];exact hN.lm
    ·exact(hN.up i hi x h5).2.2,hN.b⟩
   clear hN;go_wp2;refine bodyPost_ret (v:=.tuple #[.pointer (some ⟨ab,0,none⟩),.int .i64 0]) (by simp[results,Tryz.results12,go_sem]) rfl ?_
   obtain⟨GA,r⟩:=FIN.out;exact⟨ab,GA,rfl,r⟩
section
variable {w w':World} {ab N:Nat} {GA GA':Nat->Prop} {a a':ArS}
structure ArB(w:World)(N:Nat)(ab:Nat)(GA:Nat->Prop)(a:ArS):Prop where
 at_:ArAt w ab GA a
 low:∀k,GA k->N<=k
 size:N<=w.heap.size
theorem ArB.below(h:ArB w N ab GA a)(hb:Below w.heap.size w w'):ArB w' N ab GA a:=⟨h.at_.below hb,h.low,Nat.le_trans h.size hb.size⟩
theorem ArB.grew(h:ArB w N ab GA a)(hd:ArAt w' ab GA' a')(g:Grew GA w GA' w'):ArB w' N ab GA' a':=⟨hd,g.base h.low h.size,Nat.le_trans h.size g.turn.size⟩
theorem ArB.bel(h:ArB w N ab GA a)(g:Grew GA w GA' w'):Below N w w':=g.below h.low h.size
theorem Told.ownA{v:Value}{p:List UInt8}{e:Nat}(h:ArAt w ab GA a)(ho:w'.ownsRow w.heap.size e 1 v p.length (p.map vb)):Told w' GA v p:=⟨Rd.owned ho,ApartG.own ho h.lt⟩
end
theorem newA_len(n s:Nat):(newA n s).D.length=n:=by simp[newA]
section
variable {w:World} {ab:Nat} {GA:Nat->Prop} {a:ArS}
theorem awrite_is(h:ArAt w ab GA a){i ad:Int}(hi:(Lit.int .i64 i).wf=true)(ha:(Lit.int .i64 ad).wf=true){v:Value}{p:List UInt8}(hp:Rd w v p){x:Int}(hx:wrAX a i ad p=x){a':ArS}(hd:wrAS a i ad p=a'):Calls Tryz.prog 70 #[.pointer (some ⟨ab,0,none⟩),.int .i64 i,.int .i64 ad,v] w (LeavesA w ab GA a' (.int .i64 x)):=by
 rw[<-hx,<-hd];exact awrite_any h hi ha hp
theorem aread_is(h:ArAt w ab GA a){i ad:Int}(hi:(Lit.int .i64 i).wf=true)(ha:(Lit.int .i64 ad).wf=true){x:Int}(hx:rdAX a i ad=x){p:List UInt8}(hp:rdAB a i ad=p):Calls Tryz.prog 72 #[.pointer (some ⟨ab,0,none⟩),.int .i64 i,.int .i64 ad] w (Tells w x p):=by
 rw[<-hx,<-hp];exact aread_any h hi ha
theorem afail_is(h:ArAt w ab GA a){i:Int}(hi:(Lit.int .i64 i).wf=true){x:Int}(hx:thX a i=x):Calls Tryz.prog 20 #[.pointer (some ⟨ab,0,none⟩),.int .i64 i] w (LeavesA w ab GA (faAS a i) (.int .i64 x)):=by
 rw[<-hx];exact afail_any h hi
theorem aflush_is(h:ArAt w ab GA a){x:Int}(hx:flAX a=x){a':ArS}(hd:flAS a=a'):Calls Tryz.prog 74 #[.pointer (some ⟨ab,0,none⟩)] w (LeavesA w ab GA a' (.int .i64 x)):=by
 rw[<-hx,<-hd];exact aflush_any h
theorem adown_is(h:ArAt w ab GA a){x:Bool}(hx:a.off=x):Calls Tryz.prog 44 #[.pointer (some ⟨ab,0,none⟩)] w fun e w'=>e= .returned (.bool x)/\w'=w:=by
 rw[<-hx];exact adown_any h
theorem anew_is{w:World}{n s:Int}{m:Nat}(e:n=(m:Int))(h1:1<=m)(h2:m<=32)(h3:1<=s)(h4:s<=4096){k:Nat}(hs:s.toNat=k):Calls Tryz.prog 12 #[.int .i64 n,.int .i64 s] w (NewsA w m k):=by
 subst e hs;exact anew_any h1 h2 h3 h4
end
structure RaM(w:World)(rb xb yb cx cy:Nat)(rd:Nat->Nat)(HR GA:Nat->Prop)(a:ArS):Prop where
 c0:w.cell? ⟨rb,0,none⟩=some (.slice (some ⟨xb,0,none⟩) a.D.length cx)
 c1:w.cell? ⟨rb,1,none⟩=some (.slice (some ⟨yb,0,none⟩) a.D.length cy)
 c2:w.cell? ⟨rb,2,none⟩=some (.int .i64 a.left)
 c3:w.cell? ⟨rb,3,none⟩=some (.bool a.off)
 f2:w.frozen? ⟨rb,2,none⟩=false
 f3:w.frozen? ⟨rb,3,none⟩=false
 x:∀i,i<a.D.length->w.cell? ⟨xb,i,none⟩=some (.pointer (some ⟨rd i,0,none⟩))
 y:∀i,i<a.D.length->w.cell? ⟨yb,i,none⟩=some (.int .i64 (a.B.getD i 0))
 fy:∀i,i<a.D.length->w.frozen? ⟨yb,i,none⟩=false
 dk:∀i,i<a.D.length->RefAt w (rd i) (fun k=>HR k∨GA k) (a.D.getD i default)
 inj:∀i j,i<a.D.length->j<a.D.length->rd i=rd j->i=j
 off:∀i,i<a.D.length->rd i≠rb/\rd i≠xb/\rd i≠yb
 rx:rb≠xb
 ry:rb≠yb
 xy:xb≠yb
 hr:HR rb
 hx:HR xb
 hy:HR yb
 hd:∀i,i<a.D.length->HR (rd i)
 dis:∀k,HR k->¬GA k
 lt:∀k,HR k->k<w.heap.size
 lg:∀k,GA k->k<w.heap.size
 d1:1<=a.D.length
 d2:a.D.length<=32
 b:a.B.length=a.D.length
 wl:(Lit.int .i64 a.left).wf=true
def RaIn(w:World)(rb xb yb cx cy:Nat)(rd:Nat->Nat)(HR GA:Nat->Prop)(a:ArS):Prop:=RaM w rb xb yb cx cy rd HR GA a/\a.Ok
def RaAt(w:World)(rb:Nat)(HR GA:Nat->Prop)(a:ArS):Prop:=∃xb yb cx cy rd,RaIn w rb xb yb cx cy rd HR GA a
def LeavesRA(w:World)(rb:Nat)(HR GA:Nat->Prop)(a':ArS)(x:Value)(e:Ending)(w':World):Prop:=e= .returned x/\RaAt w' rb HR GA a'/\TurnG HR w w'
section
variable {w w':World} {rb xb yb cx cy:Nat} {rd:Nat->Nat} {HR GA GA':Nat->Prop} {a:ArS}
theorem RaM.below(h:RaM w rb xb yb cx cy rd HR GA a)(hb:Below w.heap.size w w'):RaM w' rb xb yb cx cy rd HR GA a:=
 have l:=h.lt rb h.hr;have lx:=h.lt xb h.hx;have ly:=h.lt yb h.hy
 ⟨(hb.cell (p:=⟨rb,0,none⟩) l).trans h.c0,(hb.cell (p:=⟨rb,1,none⟩) l).trans h.c1,(hb.cell (p:=⟨rb,2,none⟩) l).trans h.c2,(hb.cell (p:=⟨rb,3,none⟩) l).trans h.c3,(hb.frozen (p:=⟨rb,2,none⟩) l).trans h.f2,(hb.frozen (p:=⟨rb,3,none⟩) l).trans h.f3,
  fun i hi=>(hb.cell (p:=⟨xb,i,none⟩) lx).trans (h.x i hi),fun i hi=>(hb.cell (p:=⟨yb,i,none⟩) ly).trans (h.y i hi),fun i hi=>(hb.frozen (p:=⟨yb,i,none⟩) ly).trans (h.fy i hi),fun i hi=>(h.dk i hi).below hb,
  h.inj,h.off,h.rx,h.ry,h.xy,h.hr,h.hx,h.hy,h.hd,h.dis,fun k hk=>Nat.lt_of_lt_of_le (h.lt k hk) hb.size,fun k hk=>Nat.lt_of_lt_of_le (h.lg k hk) hb.size,h.d1,h.d2,h.b,h.wl⟩
theorem RaAt.below(h:RaAt w rb HR GA a)(hb:Below w.heap.size w w'):RaAt w' rb HR GA a:=by
 obtain⟨xb,yb,cx,cy,rd,h,ok⟩:=h;exact⟨xb,yb,cx,cy,rd,h.below hb,ok⟩
theorem RaM.other(h:RaM w rb xb yb cx cy rd HR GA a)(g:Grew GA w GA' w')(hl:∀k,GA' k->k<w'.heap.size):RaM w' rb xb yb cx cy rd HR GA' a:=by
 have l:=h.lt rb h.hr;have lx:=h.lt xb h.hx;have ly:=h.lt yb h.hy;have nr:=h.dis rb h.hr;have nx:=h.dis xb h.hx;have ny:=h.dis yb h.hy;refine⟨(g.turn.cell (p:=⟨rb,0,none⟩) l nr).trans h.c0,(g.turn.cell (p:=⟨rb,1,none⟩) l nr).trans h.c1,(g.turn.cell (p:=⟨rb,2,none⟩) l nr).trans h.c2,(g.turn.cell (p:=⟨rb,3,none⟩) l nr).trans h.c3,(g.turn.frozen (p:=⟨rb,2,none⟩) l nr).trans h.f2,(g.turn.frozen (p:=⟨rb,3,none⟩) l nr).trans h.f3,
  fun i hi=>(g.turn.cell (p:=⟨xb,i,none⟩) lx nx).trans (h.x i hi),fun i hi=>(g.turn.cell (p:=⟨yb,i,none⟩) ly ny).trans (h.y i hi),fun i hi=>(g.turn.frozen (p:=⟨yb,i,none⟩) ly ny).trans (h.fy i hi),fun i hi=>?_,
  h.inj,h.off,h.rx,h.ry,h.xy,h.hr,h.hx,h.hy,h.hd,fun k hk=>g.off (h.lt k hk) (h.dis k hk),fun k hk=>Nat.lt_of_lt_of_le (h.lt k hk) g.turn.size,hl,h.d1,h.d2,h.b,h.wl⟩
 refine(h.dk i hi).grewH g (fun k hk=>Or.inr hk) (h.dis _ (h.hd i hi)) (fun k hk=>?_) (Or.inl (h.hd i hi)) (fun k hk=>?_)
 ·rcases hk with h1|h1
  ·exact Or.inl (Or.inl h1)
  ·rcases g.grow k h1 with h2|h2
   ·exact Or.inl (Or.inr h2)
   ·exact Or.inr h2
 ·rcases hk with h1|h1
  ·exact Nat.lt_of_lt_of_le (h.lt k h1) g.turn.size
  ·exact hl k h1
theorem RaAt.other(h:RaAt w rb HR GA a)(g:Grew GA w GA' w')(hl:∀k,GA' k->k<w'.heap.size):RaAt w' rb HR GA' a:=by
 obtain⟨xb,yb,cx,cy,rd,h,ok⟩:=h;exact⟨xb,yb,cx,cy,rd,h.other g hl,ok⟩
theorem RaAt.dis(h:RaAt w rb HR GA a):∀k,HR k->¬GA k:=by
 obtain⟨xb,yb,cx,cy,rd,h,ok⟩:=h;exact h.dis
theorem ArAt.other{ab:Nat}{a':ArS}(h:ArAt w ab GA a')(hd:∀k,HR k->¬GA k)(t:TurnG HR w w'):ArAt w' ab GA a':=
 h.keep (fun k hk=>t.block k (h.lt k hk) (fun e=>hd k e hk)) t.size
theorem RaM.disk(h:RaM w rb xb yb cx cy rd HR GA a){i:Nat}(hi:i<a.D.length){d':DkS}(hD:RefAt w' (rd i) (fun k=>HR k∨GA k) d')(t:TurnG (fun k=>k=rd i) w w'):
  RaM w' rb xb yb cx cy rd HR GA {a with D:=a.D.set i d'}:=by
 have l:=h.lt rb h.hr;have lx:=h.lt xb h.hx;have ly:=h.lt yb h.hy;obtain⟨o1,o2,o3⟩:=h.off i hi;have nr:¬rb=rd i:=fun e=>o1 e.symm
 have nx:¬xb=rd i:=fun e=>o2 e.symm
 have ny:¬yb=rd i:=fun e=>o3 e.symm
 have hl:(a.D.set i d').length=a.D.length:=Zs
 have up:∀k,HR k∨GA k->k<w.heap.size:=fun k hk=>hk.elim (h.lt k) (h.lg k)
 refine⟨?_,?_,(t.cell (p:=⟨rb,2,none⟩) l nr).trans h.c2,(t.cell (p:=⟨rb,3,none⟩) l nr).trans h.c3,(t.frozen (p:=⟨rb,2,none⟩) l nr).trans h.f2,(t.frozen (p:=⟨rb,3,none⟩) l nr).trans h.f3,
  fun j hj=>(t.cell (p:=⟨xb,j,none⟩) lx nx).trans (h.x j (hl▸hj)),fun j hj=>(t.cell (p:=⟨yb,j,none⟩) ly ny).trans (h.y j (hl▸hj)),fun j hj=>(t.frozen (p:=⟨yb,j,none⟩) ly ny).trans (h.fy j (hl▸hj)),fun j hj=>?_,
  fun j k hj hk=>h.inj j k (hl▸hj) (hl▸hk),fun j hj=>h.off j (hl▸hj),h.rx,h.ry,h.xy,h.hr,h.hx,h.hy,fun j hj=>h.hd j (hl▸hj),h.dis,fun k hk=>Nat.lt_of_lt_of_le (h.lt k hk) t.size,fun k hk=>Nat.lt_of_lt_of_le (h.lg k hk) t.size,?_,?_,?_,h.wl⟩
 ·show _=some (Value.slice _ (a.D.set i d').length _)
  rw[hl];exact(t.cell (p:=⟨rb,0,none⟩) l nr).trans h.c0
 ·show _=some (Value.slice _ (a.D.set i d').length _)
  rw[hl];exact(t.cell (p:=⟨rb,1,none⟩) l nr).trans h.c1
 ·have hj2:j<a.D.length:=hl▸hj
  show RefAt w' (rd j) _ ((a.D.set i d').getD j default)
  rw[getD_set hi]
  by_cases e:j=i
  ·subst e;rw[if_pos rfl];exact hD
  ·rw[if_neg e];refine(h.dk j hj2).grewH (Grew.of_turn t) (fun k hk=>?_) (fun e2=>e (h.inj j i hj2 hi e2)) (fun k hk=>Or.inl hk) (Or.inl (h.hd j hj2)) (fun k hk=>Nat.lt_of_lt_of_le (up k hk) t.size)
   have:k=rd i:=hk
   rw[this];exact Or.inl (h.hd i hi)
 ·show 1<=(a.D.set i d').length
  rw[hl];exact h.d1
 ·show(a.D.set i d').length<=32
  rw[hl];exact h.d2
 ·show a.B.length=(a.D.set i d').length
  rw[hl];exact h.b
theorem RaM.turnD(h:RaM w rb xb yb cx cy rd HR GA a){i:Nat}(hi:i<a.D.length)(t:TurnG (fun k=>k=rd i) w w'):TurnG HR w w':=
 ⟨t.os,t.tape,t.output,t.size,fun k hk hn=>t.block k hk (fun e=>hn (by have e2:k=rd i:=e;rw[e2];exact h.hd i hi))⟩
theorem RaM.own(h:RaM w rb xb yb cx cy rd HR GA a){g j:Nat}{v:Value}(hg:g=rb∨g=yb){i:Nat}(hi:i<a.D.length):RefAt (w.setCell ⟨g,j,none⟩ v) (rd i) (fun k=>HR k∨GA k) (a.D.getD i default):=by
 have t:TurnG (fun k=>k=g) w (w.setCell ⟨g,j,none⟩ v):=setCell_turnG rfl;obtain⟨o1,o2,o3⟩:=h.off i hi;have up:∀k,HR k∨GA k->k<w.heap.size:=fun k hk=>hk.elim (h.lt k) (h.lg k)
 refine(h.dk i hi).grewH (Grew.of_turn t) (fun k hk=>?_) (fun e=>?_) (fun k hk=>Or.inl hk) (Or.inl (h.hd i hi)) (fun k hk=>Nat.lt_of_lt_of_le (up k hk) t.size)
 ·have:k=g:=hk
  rw[this]
  rcases hg with e|e
  ·rw[e];exact Or.inl h.hr
  ·rw[e];exact Or.inl h.hy
 ·have e2:rd i=g:=e
  rcases hg with e3|e3
  ·exact o1 (e2.trans e3)
  ·exact o3 (e2.trans e3)
theorem RaM.setLeft(h:RaM w rb xb yb cx cy rd HR GA a){l:Int}(hl:(Lit.int .i64 l).wf=true):RaM (w.setCell ⟨rb,2,none⟩ (.int .i64 l)) rb xb yb cx cy rd HR GA {a with left:=l}:=by
 have hb:∀k,k≠rb->(w.setCell ⟨rb,2,none⟩ (.int .i64 l)).heap[k]? =w.heap[k]? :=fun k hk=>Below.heap_setCell w ⟨rb,2,none⟩ _ k hk
 have hx:=hb xb h.rx.symm;have hy:=hb yb h.ry.symm;refine⟨(cell_set_ne w _ Zd).trans h.c0,(cell_set_ne w _ Zd).trans h.c1,cell_set_eq _ h.c2,(cell_set_ne w _ Zd).trans h.c3,(frozen_set w _).trans h.f2,(frozen_set w _).trans h.f3,
  fun i hi=>(World.cell?_of_block (w:=w) hx).trans (h.x i hi),fun i hi=>(World.cell?_of_block (w:=w) hy).trans (h.y i hi),fun i hi=>(World.frozen?_of_block (w:=w) hy).trans (h.fy i hi),fun i hi=>h.own (Or.inl rfl) hi,
  h.inj,h.off,h.rx,h.ry,h.xy,h.hr,h.hx,h.hy,h.hd,h.dis,fun k hk=>by simpa using h.lt k hk,fun k hk=>by simpa using h.lg k hk,h.d1,h.d2,h.b,hl⟩
theorem RaM.setOff(h:RaM w rb xb yb cx cy rd HR GA a)(z:Bool):RaM (w.setCell ⟨rb,3,none⟩ (.bool z)) rb xb yb cx cy rd HR GA {a with off:=z}:=by
 have hb:∀k,k≠rb->(w.setCell ⟨rb,3,none⟩ (.bool z)).heap[k]? =w.heap[k]? :=fun k hk=>Below.heap_setCell w ⟨rb,3,none⟩ _ k hk
 have hx:=hb xb h.rx.symm;have hy:=hb yb h.ry.symm;refine⟨(cell_set_ne w _ Zd).trans h.c0,(cell_set_ne w _ Zd).trans h.c1,(cell_set_ne w _ Zd).trans h.c2,cell_set_eq _ h.c3,(frozen_set w _).trans h.f2,(frozen_set w _).trans h.f3,
  fun i hi=>(World.cell?_of_block (w:=w) hx).trans (h.x i hi),fun i hi=>(World.cell?_of_block (w:=w) hy).trans (h.y i hi),fun i hi=>(World.frozen?_of_block (w:=w) hy).trans (h.fy i hi),fun i hi=>h.own (Or.inl rfl) hi,
  h.inj,h.off,h.rx,h.ry,h.xy,h.hr,h.hx,h.hy,h.hd,h.dis,fun k hk=>by simpa using h.lt k hk,fun k hk=>by simpa using h.lg k hk,h.d1,h.d2,h.b,h.wl⟩
theorem RaM.setBorn(h:RaM w rb xb yb cx cy rd HR GA a){i:Nat}(hi:i<a.D.length)(z:Int):RaM (w.setCell ⟨yb,i,none⟩ (.int .i64 z)) rb xb yb cx cy rd HR GA {a with B:=a.B.set i z}:=by
 have hb:∀k,k≠yb->(w.setCell ⟨yb,i,none⟩ (.int .i64 z)).heap[k]? =w.heap[k]? :=fun k hk=>Below.heap_setCell w ⟨yb,i,none⟩ _ k hk
 have hx:=hb xb h.xy;have hr:=hb rb h.ry;have hB:i<a.B.length:=by rw[h.b];exact hi
 refine⟨(World.cell?_of_block (w:=w) hr).trans h.c0,(World.cell?_of_block (w:=w) hr).trans h.c1,(World.cell?_of_block (w:=w) hr).trans h.c2,(World.cell?_of_block (w:=w) hr).trans h.c3,(World.frozen?_of_block (w:=w) hr).trans h.f2,(World.frozen?_of_block (w:=w) hr).trans h.f3,
  fun j hj=>(World.cell?_of_block (w:=w) hx).trans (h.x j hj),fun j hj=>?_,fun j hj=>(frozen_set w _).trans (h.fy j hj),fun j hj=>h.own (Or.inr rfl) hj,
  h.inj,h.off,h.rx,h.ry,h.xy,h.hr,h.hx,h.hy,h.hd,h.dis,fun k hk=>by simpa using h.lt k hk,fun k hk=>by simpa using h.lg k hk,h.d1,h.d2,?_,h.wl⟩
 ·show _=some (Value.int .i64 ((a.B.set i z).getD j 0))
  rw[getD_set hB]
  by_cases e:j=i
  ·subst e;rw[if_pos rfl];exact cell_set_eq _ (h.y j hj)
  ·rw[if_neg e,cell_set_ne w _ e];exact h.y j hj
 ·show(a.B.set i z).length=_
  simp;exact h.b
end
end Go.Proofs.YtddnfhfangfgeaaGreat.Gf
