/- JOINED: ArRB, ArCel, ArNew, ArAwN, ArCBl, ArCD, ArLL, ArRC. -/
import Derived.Test.YtclieefpnbdbjaaGreatPome12
set_option maxRecDepth 100000
namespace Go.Proofs.YtclieefpnbdbjaaGreat.Gf
set_option linter.unusedVariables false
set_option linter.unusedSimpArgs false
open Go.RowKit
section
variable {w:World} {rb:Nat} {HR GA:Nat->Prop} {a:ArS}
theorem rfailA_any(h:RaAt w rb HR GA a){i:Int}:
  Calls Tryz.prog 101 #[.pointer (some ⟨rb,0,none⟩),.int .i64 i] w (LeavesRA w rb HR GA (faAS a i) (.int .i64 (thX a i))):=by
 have h0:=h;obtain⟨xb,yb,cx,cy,rd,hM,ok⟩:=h;have c0:=hM.c0
 by_cases ht:thA a i
 ·have KT:=rthereA_any (i:=i) c0 (Zy ht);have okS:=faAS_ok ok i;have eS:faAS a i=bornA (setA a i (faS (diA a i))) i:=if_pos ht;rw[show thX a i=0 from if_pos ht];rw[eS]at okS ⊢;obtain⟨j,rfl,hj⟩:=th_at ht;have hj':(j:Int)<(a.D.length:Int):=by omega
  have x0:=hM.x j hj;obtain⟨vl,vw,Tl,Tw,hI⟩:=hM.dk j hj;have KW:=rfail_any hI;rw[show diA a (j:Int)=a.D.getD j default from rfl]at okS ⊢;clear hI;obtain⟨d,hd⟩:∃d,d=a.D.getD j default:=⟨_,rfl⟩;rw[<-hd]at KW okS ⊢
  go_enter Tryz.func101,Tryz.ntmps101
  go_wp2_with fail
  refine KT.mono ?_
  rintro _ wq ⟨rfl,hwq⟩;rw[hwq];clear hwq wq KT
  go_wp2_with fail
  refine KW.mono ?_
  rintro _ w1 ⟨rfl,R1,t1⟩;have M1:=hM.disk hj R1 t1;have hl1:(a.D.set j (faS d)).length=a.D.length:=Zs
  have hj1:j<(a.D.set j (faS d)).length:=by rw[hl1];exact hj
  have d1:w1.cell? ⟨rb,1,none⟩=some (.slice (some ⟨yb,0,none⟩) a.D.length cy):=by have:=M1.c1;rw[show({a with D:=a.D.set j (faS d)}:ArS).D.length=a.D.length from hl1]at this;exact this
  have y1:w1.cell? ⟨yb,j,none⟩=some (.int .i64 (a.B.getD j 0)):=M1.y j hj1;have fy:=M1.fy j hj1;have M2:=M1.setBorn hj1 (IntKind.i64.wrap (a.B.getD j 0+1));have FIN:Hid (RaAt (w1.setCell ⟨yb,j,none⟩ (.int .i64 (IntKind.i64.wrap (a.B.getD j 0+1)))) rb HR GA (bornA (setA a (j:Int) (faS d)) (j:Int))/\TurnG HR w (w1.setCell ⟨yb,j,none⟩ (.int .i64 (IntKind.i64.wrap (a.B.getD j 0+1))))):=
   ⟨⟨xb,yb,cx,cy,rd,M2,okS⟩,(hM.turnD hj t1).trans (setCell_turnG hM.hy)⟩
  obtain⟨z,hz⟩:∃z,z=a.B.getD j 0:=⟨_,rfl⟩;rw[<-hz]at y1 FIN;obtain⟨z1,gz⟩:∃z1,IntKind.i64.wrap (z+1)=z1:=⟨_,rfl⟩;rw[gz]at FIN;clear M1 M2 R1 t1 KW hM ok h0 okS c0 x0 hd hj1 hz hl1;go_wp2;go_ret;exact⟨rfl,FIN.out⟩
 ·have KT:=rthereA_any (i:=i) c0 (Zx ht);rw[show thX a i=1 from if_neg ht];have FIN:Hid (RaAt w rb HR GA (faAS a i)/\TurnG HR w w):=staysR h0 (if_neg ht);clear h0 hM ok c0
  go_enter Tryz.func101,Tryz.ntmps101
  go_wp2_with fail
  refine KT.mono ?_
  rintro _ wq ⟨rfl,hwq⟩;rw[hwq];clear hwq wq KT;go_wp2;go_ret;exact⟨rfl,FIN.out⟩
theorem rreplA_any(h:RaAt w rb HR GA a){i:Int}:
  Calls Tryz.prog 102 #[.pointer (some ⟨rb,0,none⟩),.int .i64 i] w (LeavesRA w rb HR GA (rpAS a i) (.int .i64 (thX a i))):=by
 have h0:=h;obtain⟨xb,yb,cx,cy,rd,hM,ok⟩:=h;have c0:=hM.c0
 by_cases ht:thA a i
 ·have KT:=rthereA_any (i:=i) c0 (Zy ht);have okS:=rpAS_ok ok i;have eS:rpAS a i=bornA (setA a i (reS (diA a i))) i:=if_pos ht;rw[show thX a i=0 from if_pos ht];rw[eS]at okS ⊢;obtain⟨j,rfl,hj⟩:=th_at ht;have hj':(j:Int)<(a.D.length:Int):=by omega
  have x0:=hM.x j hj;obtain⟨vl,vw,Tl,Tw,hI⟩:=hM.dk j hj;have KW:=rrepl_any hI;rw[show diA a (j:Int)=a.D.getD j default from rfl]at okS ⊢;clear hI;obtain⟨d,hd⟩:∃d,d=a.D.getD j default:=⟨_,rfl⟩;rw[<-hd]at KW okS ⊢
  go_enter Tryz.func102,Tryz.ntmps102
  go_wp2_with fail
  refine KT.mono ?_
  rintro _ wq ⟨rfl,hwq⟩;rw[hwq];clear hwq wq KT
  go_wp2_with fail
  refine KW.mono ?_
  rintro _ w1 ⟨rfl,R1,t1⟩;have M1:=hM.disk hj R1 t1;have hl1:(a.D.set j (reS d)).length=a.D.length:=Zs
  have hj1:j<(a.D.set j (reS d)).length:=by rw[hl1];exact hj
  have d1:w1.cell? ⟨rb,1,none⟩=some (.slice (some ⟨yb,0,none⟩) a.D.length cy):=by have:=M1.c1;rw[show({a with D:=a.D.set j (reS d)}:ArS).D.length=a.D.length from hl1]at this;exact this
  have y1:w1.cell? ⟨yb,j,none⟩=some (.int .i64 (a.B.getD j 0)):=M1.y j hj1;have fy:=M1.fy j hj1;have M2:=M1.setBorn hj1 (IntKind.i64.wrap (a.B.getD j 0+1));have FIN:Hid (RaAt (w1.setCell ⟨yb,j,none⟩ (.int .i64 (IntKind.i64.wrap (a.B.getD j 0+1)))) rb HR GA (bornA (setA a (j:Int) (reS d)) (j:Int))/\TurnG HR w (w1.setCell ⟨yb,j,none⟩ (.int .i64 (IntKind.i64.wrap (a.B.getD j 0+1))))):=
   ⟨⟨xb,yb,cx,cy,rd,M2,okS⟩,(hM.turnD hj t1).trans (setCell_turnG hM.hy)⟩
  obtain⟨z,hz⟩:∃z,z=a.B.getD j 0:=⟨_,rfl⟩;rw[<-hz]at y1 FIN;obtain⟨z1,gz⟩:∃z1,IntKind.i64.wrap (z+1)=z1:=⟨_,rfl⟩;rw[gz]at FIN;clear M1 M2 R1 t1 KW hM ok h0 okS c0 x0 hd hj1 hz hl1;go_wp2;go_ret;exact⟨rfl,FIN.out⟩
 ·have KT:=rthereA_any (i:=i) c0 (Zx ht);rw[show thX a i=1 from if_neg ht];have FIN:Hid (RaAt w rb HR GA (rpAS a i)/\TurnG HR w w):=staysR h0 (if_neg ht);clear h0 hM ok c0
  go_enter Tryz.func102,Tryz.ntmps102
  go_wp2_with fail
  refine KT.mono ?_
  rintro _ wq ⟨rfl,hwq⟩;rw[hwq];clear hwq wq KT;go_wp2;go_ret;exact⟨rfl,FIN.out⟩
theorem rcorrA_any(h:RaAt w rb HR GA a){i ad at_:Int}(hat:(Lit.int .i64 at_).wf=true)(y:UInt8):
  Calls Tryz.prog 103 #[.pointer (some ⟨rb,0,none⟩),.int .i64 i,.int .i64 ad,.int .i64 at_,.int .u8 ((y.toNat:Nat):Int)] w (LeavesRA w rb HR GA (coAS a i ad at_ y) (.int .i64 (coAX a i ad))):=by
 have h0:=h;obtain⟨xb,yb,cx,cy,rd,hM,ok⟩:=h;have c0:=hM.c0
 by_cases ht:thA a i
 ·have KT:=rthereA_any (i:=i) c0 (Zy ht);have okS:=coAS_ok ok i ad at_ y;have eS:coAS a i ad at_ y=setA a i (coS (diA a i) ad at_ y):=if_pos ht;rw[show coAX a i ad=coX (diA a i) ad from if_pos ht];rw[eS]at okS ⊢;obtain⟨j,rfl,hj⟩:=th_at ht;have hj':(j:Int)<(a.D.length:Int):=by omega
  have x0:=hM.x j hj;obtain⟨vl,vw,Tl,Tw,hI⟩:=hM.dk j hj;have KW:=rcorr_any hI (ok.each _ (di_mem (th_j hj))) (a:=ad) hat y;rw[show diA a (j:Int)=a.D.getD j default from rfl]at okS ⊢;obtain⟨x,hx⟩:∃x,x=coX (a.D.getD j default) ad:=⟨_,rfl⟩;rw[<-hx]at KW ⊢;clear hI hx;obtain⟨d,hd⟩:∃d,d=a.D.getD j default:=⟨_,rfl⟩;rw[<-hd]at KW okS ⊢
  go_enter Tryz.func103,Tryz.ntmps103
  go_wp2_with fail
  refine KT.mono ?_
  rintro _ wq ⟨rfl,hwq⟩;rw[hwq];clear hwq wq KT
  go_wp2_with fail
  refine KW.mono ?_
  rintro _ w1 ⟨rfl,R1,t1⟩;have M1:=hM.disk hj R1 t1;have FIN:Hid (RaAt w1 rb HR GA (setA a (j:Int) (coS d ad at_ y))/\TurnG HR w w1):=⟨⟨xb,yb,cx,cy,rd,M1,okS⟩,hM.turnD hj t1⟩;clear M1 R1 t1 KW hM ok h0 okS c0 x0 hd;go_wp2;go_ret;exact⟨rfl,FIN.out⟩
 ·have KT:=rthereA_any (i:=i) c0 (Zx ht);rw[show coAX a i ad=1 from if_neg ht];have FIN:Hid (RaAt w rb HR GA (coAS a i ad at_ y)/\TurnG HR w w):=staysR h0 (if_neg ht);clear h0 hM ok c0
  go_enter Tryz.func103,Tryz.ntmps103
  go_wp2_with fail
  refine KT.mono ?_
  rintro _ wq ⟨rfl,hwq⟩;rw[hwq];clear hwq wq KT;go_wp2;go_ret;exact⟨rfl,FIN.out⟩
theorem okF{a:ArS}(ok:a.Ok){j:Nat}(hj:j<a.D.length):(a.D.getD j default).Ok:=ok.each _ (di_mem (th_j hj))
theorem rflushA_any(h:RaAt w rb HR GA a):Calls Tryz.prog 86 #[.pointer (some ⟨rb,0,none⟩)] w (LeavesRA w rb HR GA (flAS a) (.int .i64 (flAX a))):=by
 have h0:=h;obtain⟨xb,yb,cx,cy,rd,hM,ok⟩:=h;have c3:=hM.c3;cases ho:a.off with
 |true=>
  rw[ho]at c3;rw[show flAX a=130 from if_pos ho];have FIN:Hid (RaAt w rb HR GA (flAS a)/\TurnG HR w w):=staysR h0 (if_pos ho);clear h0 hM ok
  go_enter Tryz.func86,Tryz.ntmps86
  go_wp2;go_ret;exact⟨rfl,FIN.out⟩
 |false=>
  have no:¬a.off=true:=by rw[ho];simp
  rw[ho]at c3;rw[show flAX a=0 from if_neg no];have okS:=flAS_ok ok;have eS:flAS a={a with D:=a.D.mapIdx (fun _ d=>flS d)}:=by
   unfold flAS;rw[if_neg no];congr 1;apply List.ext_getElem Zs;intro i h1 h2;simp
  have START:Hid (RaM w rb xb yb cx cy rd HR GA {a with D:=firstF (fun _ d=>flS d) a.D 0}/\TurnG HR w w):=⟨by rw[firstF_zero];exact hM,TurnG.refl _ _⟩;have FINI:Hid (∀wr,RaM wr rb xb yb cx cy rd HR GA {a with D:=firstF (fun _ d=>flS d) a.D a.D.length}->TurnG HR w wr->RaAt wr rb HR GA (flAS a)/\TurnG HR w wr):=fun wr hM' t'=>by
   rw[firstF_all]at hM';exact⟨⟨xb,yb,cx,cy,rd,by rw[eS];exact hM',okS⟩,t'⟩
  have hd2:=hM.d2;clear h0 hM eS okS
  go_enter Tryz.func86,Tryz.ntmps86
  go_wp2
  go_loopw [3] (fun i wr=>∃k:Nat,k<=a.D.length/\i= .int .i64 (k:Int)/\RaM wr rb xb yb cx cy rd HR GA {a with D:=firstF (fun _ d=>flS d) a.D k}/\TurnG HR w wr) (fun i _=>a.D.length-(intOf i).toNat)
  case atStart=>exact⟨0,Zz,rfl,START.out⟩
  case round=>
   clear START;obtain⟨k,hk,rfl,hM,hT⟩:=hrel;have hfl:({a with D:=firstF (fun _ d=>flS d) a.D k}:ArS).D.length=a.D.length:=firstF_len;have c0:=hM.c0;rw[hfl]at c0
   by_cases hlt:k<a.D.length
   ·have hlt':(k:Int)<(a.D.length:Int):=by omega
    have g1:IntKind.i64.wrap ((k:Int)+1)=((k+1:Nat):Int):=Zw
    have hk2:k<(firstF (fun _ d=>flS d) a.D k).length:=by rw[firstF_len];exact hlt
    have x0:=hM.x k hk2;obtain⟨vl,vw,Tl,Tw,hI⟩:=hM.dk k hk2;have hsu:(firstF (fun _ d=>flS d) a.D k).set k (flS (a.D.getD k default))=firstF (fun _ d=>flS d) a.D (k+1):=firstF_succ (f:=fun _ d=>flS d) hlt;have hat:({a with D:=firstF (fun _ d=>flS d) a.D k}:ArS).D.getD k default=a.D.getD k default:=firstF_at hlt;rw[hat]at hI;have KF:=rflush_any hI (okF ok hlt);obtain⟨d,hd⟩:∃d,d=a.D.getD k default:=⟨_,rfl⟩;rw[<-hd]at KF hsu;clear hI hat hd
    go_wp2_with fail
    refine KF.mono ?_
    rintro _ w1 ⟨rfl,R1,t1⟩;have M1:=hM.disk hk2 R1 t1;have E2:Hid (RaM w1 rb xb yb cx cy rd HR GA {a with D:=firstF (fun _ d=>flS d) a.D (k+1)}/\TurnG HR w w1):=by
     rw[<-hsu];exact⟨M1,hT.trans (hM.turnD hk2 t1)⟩
    clear hM hT hsu hk2 M1 R1 t1 KF x0 c0 hfl;go_wp2;go_roundw
    case rel=>exact⟨k+1,Zo,Zg,E2.out⟩
    case measure=>simp[intOf];omega
   ·have hlt':¬(k:Int)<(a.D.length:Int):=by omega
    have hkn:k=a.D.length:=Zo
    rw[hkn]at hM;have E2:Hid (RaAt wr rb HR GA (flAS a)/\TurnG HR w wr):=FINI.out wr hM hT;clear hM hT FINI hfl;go_wp2;go_ret;exact⟨rfl,E2.out⟩
theorem rrestartA_any(h:RaAt w rb HR GA a){v:Value}{K:List VI}(hK:ToldII w HR v K)(hs:∀r∈K,r.2.length<=9223372036854775807):Calls Tryz.prog 100 #[.pointer (some ⟨rb,0,none⟩),v] w (LeavesRA w rb HR GA (reAS a (K.map (·.2))) (.tuple #[])):=by
 obtain⟨xb,yb,cx,cy,rd,hM,ok⟩:=h;obtain⟨va,vc,rfl⟩:=hK.rd.form;have okS:=reAS_ok ok (K.map (·.2));have START:Hid (RaM w rb xb yb cx cy rd HR GA {a with D:=firstF (reF K) a.D 0}/\TurnG HR w w):=⟨by rw[firstF_zero];exact hM,TurnG.refl _ _⟩;have FINI:Hid (∀wr,RaM wr rb xb yb cx cy rd HR GA {a with D:=firstF (reF K) a.D a.D.length}->TurnG HR w wr->RaAt ((wr.setCell ⟨rb,3,none⟩ (.bool false)).setCell ⟨rb,2,none⟩ (.int .i64 (-1))) rb HR GA (reAS a (K.map (·.2)))/\TurnG HR w ((wr.setCell ⟨rb,3,none⟩ (.bool false)).setCell ⟨rb,2,none⟩ (.int .i64 (-1)))):=fun wr hM' t'=>by
  rw[firstF_all]at hM';have M2:=(hM'.setOff false).setLeft (l:= -1) Zd;exact⟨⟨xb,yb,cx,cy,rd,M2,okS⟩,(t'.trans (setCell_turnG hM'.hr)).trans (setCell_turnG hM'.hr)⟩
 have hd2:=hM.d2;clear hM okS
 go_enter Tryz.func100,Tryz.ntmps100
 go_wp2
 go_loopw [4] (fun i wr=>∃k:Nat,k<=a.D.length/\i= .int .i64 (k:Int)/\RaM wr rb xb yb cx cy rd HR GA {a with D:=firstF (reF K) a.D k}/\TurnG HR w wr) (fun i _=>a.D.length-(intOf i).toNat)
 case atStart=>exact⟨0,Zz,rfl,START.out⟩
 case round=>
  clear START;obtain⟨k,hk,rfl,hM,hT⟩:=hrel;have hfl:({a with D:=firstF (reF K) a.D k}:ArS).D.length=a.D.length:=firstF_len;have c0:=hM.c0;rw[hfl]at c0
  by_cases hlt:k<a.D.length
  ·have hlt':(k:Int)<(a.D.length:Int):=by omega
   have g1:IntKind.i64.wrap ((k:Int)+1)=((k+1:Nat):Int):=Zw
   have hk2:k<(firstF (reF K) a.D k).length:=by rw[firstF_len];exact hlt
   have x0:=hM.x k hk2;obtain⟨vl,vw,Tl,Tw,hI⟩:=hM.dk k hk2;have hsu:(firstF (reF K) a.D k).set k (reF K k (a.D.getD k default))=firstF (reF K) a.D (k+1):=firstF_succ hlt;have hat:({a with D:=firstF (reF K) a.D k}:ArS).D.getD k default=a.D.getD k default:=firstF_at hlt;rw[hat]at hI;have okd:=okF ok hlt;obtain⟨d,hd⟩:∃d,d=a.D.getD k default:=⟨_,rfl⟩;rw[<-hd]at hsu hI okd;have HK:=hK.grew (Grew.of_turn hT);have hrd:HR (rd k):=hM.hd k hk2;clear hat hd
   by_cases hkk:k<K.length
   ·have hkk':(k:Int)<(K.length:Int):=by omega
    obtain⟨b,off,rfl,hb,hrow⟩:=HK.rd.at hkk;have hAp:ApartG (fun x=>x=rd k) (K.getD k default).1:=fun x n c e=>(HK.each _ (VI_mem hkk) x n c e).imp id (fun h1 h2=>h1 (by have h3:x.block=rd k:=h2;rw[h3];exact hrd))
    have hsz:=hs _ (VI_mem hkk);rw[reF_in hkk]at hsu;obtain⟨r,hr⟩:∃r,r=K.getD k default:=⟨_,rfl⟩;rw[<-hr]at hrow hAp hsz hsu;obtain⟨rc,rrd,rwf⟩:=hrow;obtain⟨rv,rl⟩:=r;simp only at rc rrd rwf hAp hsz hsu;obtain⟨ra,rcp,rfl⟩:=rrd.form;have bD:Below wr.heap.size wr wr.drew:=Zf.drew;have hMD:=hM.below bD;have KC:=rcrash_any (hI.below bD) okd (rrd.below bD) hAp hsz;have hTD:TurnG HR w wr.drew:=hT.drew;have c0D:wr.drew.cell? ⟨rb,0,none⟩=some (.slice (some ⟨xb,0,none⟩) a.D.length cx):=c0;have x0D:wr.drew.cell? ⟨xb,k,none⟩=some (.pointer (some ⟨rd k,0,none⟩)):=x0;have rcD:wr.drew.cell? ⟨b,off+k,none⟩=some (.slice ra rl.length rcp):=rc;have nb:¬HR b:=by
     rcases HK.ap _ _ _ rfl with e|e
     ·omega
     ·exact e
    have nx:xb≠rd k/\rb≠rd k/\b≠rd k:=⟨fun e=>(hM.off k hk2).2.1 e.symm,fun e=>(hM.off k hk2).1 e.symm,fun e=>nb (by rw[e];exact hrd)⟩;have ls:rb<wr.heap.size/\xb<wr.heap.size:=⟨hM.lt _ hM.hr,hM.lt _ hM.hx⟩;clear hr hI
    go_wp2_with fail
    go_region_held3 (fun wx=>wx.cell? ⟨rb,0,none⟩=some (.slice (some ⟨xb,0,none⟩) a.D.length cx)/\wx.cell? ⟨xb,k,none⟩=some (.pointer (some ⟨rd k,0,none⟩))/\wx.cell? ⟨b,off+k,none⟩=some (.slice ra rl.length rcp)) (first|exact⟨c0,x0,rc⟩|exact⟨c0D,x0D,rcD⟩|exact s1) (first
     |(go_at_call 146;go_loud (refine KC.mono ?_);rintro _ w1 ⟨rfl,R1,t1⟩;have M1:=hMD.disk hk2 R1 t1;have s1:=(show _/\_/\_ from⟨(t1.cell (p:=⟨rb,0,none⟩) ls.1 nx.2.1).trans c0D,(t1.cell (p:=⟨xb,k,none⟩) ls.2 nx.1).trans x0D,(t1.cell (p:=⟨b,off+k,none⟩) hb nx.2.2).trans rcD⟩)))
    have E2:Hid (RaM w1 rb xb yb cx cy rd HR GA {a with D:=firstF (reF K) a.D (k+1)}/\TurnG HR w w1):=by
     rw[<-hsu];exact⟨M1,hTD.trans (hMD.turnD hk2 t1)⟩
    clear hM hT hsu hk2 M1 R1 t1 KC HK hAp rrd rwf rc x0 c0 hfl hrd bD hMD hTD c0D x0D rcD nb nx ls s1;go_wp2;go_roundw
    case rel=>exact⟨k+1,Zo,Zg,E2.out⟩
    case measure=>simp[intOf];omega
   ·have hkk':¬(k:Int)<(K.length:Int):=by omega
    rw[reF_out hkk]at hsu;have KC:=rcrash_any hI okd (v:=.slice none 0 0) (K:=[]) (Or.inl ⟨none,0,rfl,rfl⟩) (ApartG.nil _ _ _) Zs;clear hI
    go_wp2_with fail
    refine KC.mono ?_
    rintro _ w1 ⟨rfl,R1,t1⟩;have M1:=hM.disk hk2 R1 t1;have E2:Hid (RaM w1 rb xb yb cx cy rd HR GA {a with D:=firstF (reF K) a.D (k+1)}/\TurnG HR w w1):=by
     rw[<-hsu];exact⟨M1,hT.trans (hM.turnD hk2 t1)⟩
    clear hM hT hsu hk2 M1 R1 t1 KC HK x0 c0 hfl hrd;go_wp2;go_roundw
    case rel=>exact⟨k+1,Zo,Zg,E2.out⟩
    case measure=>simp[intOf];omega
  ·have hlt':¬(k:Int)<(a.D.length:Int):=by omega
   have hkn:k=a.D.length:=Zo
   rw[hkn]at hM;have c2:=hM.c2;have c3:=hM.c3;have f2:=hM.f2;have f3:=hM.f3;have E2:=FINI.out wr hM hT;have E3:Hid _:=E2;clear hM hT FINI hfl E2 hK;go_wp2
   go_end0
   exact⟨rfl,E3.out⟩
end
open Go.ChangeShapes
section
variable {H:Type} {enc:TypeId×Value->H} {P:Program} {w:World} {base:Nat} {held:Bool}
theorem open_acell{t sb ss si:TypeId}{f0 f1 f2 f3 f4 f5 f6:Field}{fuel:Nat}{cs:List Value}{x:DataW H×List MemPlace}(he:P.underlying t=some (.struct #[f0,f1,f2,f3,f4,f5,f6]))(ce:P.cellsOf t=7)
  (o0:f0.offset=0) (o1:f1.offset=1) (o2:f2.offset=2) (o3:f3.offset=3) (o4:f4.offset=4) (o5:f5.offset=5) (o6:f6.offset=6)
  (t0:P.underlying f0.type=some (.int .i64)) (t1:P.underlying f1.type=some (.int .i64)) (t2:P.underlying f2.type=some (.int .i64)) (t3:P.underlying f3.type=some (.int .i64)) (t4:P.underlying f4.type=some (.int .u8)) (t5:P.underlying f5.type=some (.slice sb)) (t6:P.underlying f6.type=some (.slice ss))
  (tb:P.underlying sb=some (.int .u8)) (ts:P.underlying ss=some (.slice si)) (ti:P.underlying si=some (.int .i64)) (cb:P.cellsOf sb=1) (cs1:P.cellsOf ss=1) (ci:P.cellsOf si=1)
  (n0:P.cellsOf f0.type=1) (n1:P.cellsOf f1.type=1) (n2:P.cellsOf f2.type=1) (n3:P.cellsOf f3.type=1) (n4:P.cellsOf f4.type=1) (n5:P.cellsOf f5.type=1) (n6:P.cellsOf f6.type=1)
  (hf:DataW.trod enc P w base (fun _=>true) held fuel t cs=some x):∃c:CallA,cs=[.int .i64 c.kind,.int .i64 c.d,.int .i64 c.n,.int .i64 c.m,.int .u8 ((c.by8.toNat:Nat):Int),c.vb,c.vk]/\CallV w c:=by
 obtain⟨xs,n',_,_,hlen,hxl,hfd⟩:=DataW.trod_struct he hf;rw[ce]at hlen;obtain⟨v0,v1,v2,v3,v4,v5,v6,rfl⟩:=seven hlen;have hxl':xs.length=7:=hxl;have g:∀k,k<7->∃y,xs[k]? =some y:=fun k hk=>⟨xs[k],List.getElem?_eq_getElem Zo⟩
 obtain⟨y0,e0⟩:=g 0 Zo;obtain⟨y1,e1⟩:=g 1 Zo;obtain⟨y2,e2⟩:=g 2 Zo;obtain⟨y3,e3⟩:=g 3 Zo;obtain⟨y4,e4⟩:=g 4 Zo;obtain⟨y5,e5⟩:=g 5 Zo;obtain⟨y6,e6⟩:=g 6 Zo;have q0:=hfd 0 f0 rfl;have q1:=hfd 1 f1 rfl;have q2:=hfd 2 f2 rfl;have q3:=hfd 3 f3 rfl;have q4:=hfd 4 f4 rfl;have q5:=hfd 5 f5 rfl;have q6:=hfd 6 f6 rfl;rw[o0,n0,e0]at q0;rw[o1,n1,e1]at q1;rw[o2,n2,e2]at q2;rw[o3,n3,e3]at q3;rw[o4,n4,e4]at q4;rw[o5,n5,e5]at q5;rw[o6,n6,e6]at q6;obtain⟨z0,r0,_,w0⟩:=DataW.trod_int t0 q0;obtain⟨z1,r1,_,w1⟩:=DataW.trod_int t1 q1;obtain⟨z2,r2,_,w2⟩:=DataW.trod_int t2 q2;obtain⟨z3,r3,_,w3⟩:=DataW.trod_int t3 q3;obtain⟨z4,r4,_,w4⟩:=DataW.trod_int t4 q4;simp at r0 r1 r2 r3 r4;subst r0 r1 r2 r3 r4;have b4:=bounds_u8 w4;obtain⟨pb,hvb⟩:∃pb,Rd w v5 pb:=by
  rcases open_ints t5 tb cb q5 with⟨hcs,_⟩|⟨x4,l4,c4,zs,hcs,_,hl4,hm4,hz,_,hcell,hwz⟩
  ·simp at hcs;subst hcs;obtain⟨p,_,hp⟩:=rd_row (w:=w) (a:=none) (len:=0) (cap:=0) (zs:=[]) (Or.inl ⟨rfl,rfl,rfl,rfl⟩);exact⟨p,hp⟩
  ·simp at hcs;subst hcs;obtain⟨p,_,hp⟩:=rd_row (w:=w) (a:=some x4) (len:=l4) (cap:=c4) (zs:=zs) (Or.inr ⟨x4,rfl,hl4,hm4,by simpa using hz,hcell,hwz⟩);exact⟨p,hp⟩
 obtain⟨ra,rl,rc,Lk,hcs,_,hvk⟩:=open_rows t6 ts ti ci cs1 q6;simp at hcs;subst hcs;refine⟨⟨z0,z1,z2,z3,UInt8.ofNat z4.toNat,v5,_,pb,Lk⟩,?_,w0,w1,w2,w3,hvb,hvk⟩;have e:(((UInt8.ofNat z4.toNat).toNat:Nat):Int)=z4:=by rw[ofNat_u8 Zo];omega
 show _=[Value.int .i64 z0,.int .i64 z1,.int .i64 z2,.int .i64 z3,.int .u8 (((UInt8.ofNat z4.toNat).toNat:Nat):Int),v5,_]
 rw[e]
end
end Go.Proofs.YtclieefpnbdbjaaGreat.Gf
namespace Go.Proofs.YtclieefpnbdbjaaGreat.Gf
set_option linter.unusedVariables false
set_option linter.unusedSimpArgs false
open Go.RowKit
theorem info_member:(Tryz.prog.info? 84).map (fun i=>(i.zero,i.size,i.bytes))=some (some (.agg #[.pointer none,.int .i64 0]),2,16):=Zk
theorem run_make_members(n:Nat)(hn:n<=32)(w:World):(Instr.makeSlice 77 (.int .i64 (n:Int)) (.int .i64 (n:Int))).run Tryz.prog w= .ok (.slice (some ⟨w.heap.size,0,none⟩) n n) (w.alloc (.cells (madeCells #[.pointer none,.int .i64 0] (n*2)) 84)):=by
 obtain⟨i,hi,hzz⟩:=Option.map_eq_some_iff.1 info_member;simp only[Prod.mk.injEq]at hzz;obtain⟨hz,hs,hb⟩:=hzz;have hr:=run_make (P:=Tryz.prog) w 77 84 i _ Tryz.underlying77 hi hz .i64 .i64 n n Zo (Int.le_refl _) (by rw[hb];omega) Zo;simp only[Int.toNat_natCast,hs]at hr;exact hr
def nfR(db:Nat->Nat)(k:Nat)(j:Nat):Value:=if j%2=0 then (if j/2<k then .pointer (some ⟨db (j/2),0,none⟩)else .pointer none)else .int .i64 0
def faR(mb n:Nat)(j:Nat):Value:=if j=0 then .slice (some ⟨mb,0,none⟩) n n else if j=1 then .int .i64 0 else .bool false
structure NewI(w wr:World)(ab mb n k s:Nat)(db:Nat->Nat)(GD:Nat->Nat->Prop):Prop where
 b:Below w.heap.size w wr
 la:w.heap.size<=ab
 lm:w.heap.size<=mb
 ne:ab≠mb
 ra:wr.rowIs ab 79 3 (faR mb n)
 rm:wr.rowIs mb 84 (n*2) (nfR db k)
 dk:∀i,i<k->DiskAt wr (db i) (GD i) (newD s)
 sep:∀i j,i<k->j<k->i≠j->∀x,GD i x->¬GD j x
 up:∀i,i<k->∀x,GD i x->x≠ab/\x≠mb/\w.heap.size<=x
section
variable {w wr w1:World} {ab mb n k s:Nat} {db:Nat->Nat} {GD:Nat->Nat->Prop}
theorem NewI.step(h:NewI w wr ab mb n k s db GD)(hk:k<n){d:Nat}{G:Nat->Prop}(hD:DiskAt w1 d G (newD s))(hG:∀x,G x->wr.heap.size<=x)(hb:Below wr.heap.size wr w1):
  NewI w (w1.setCell ⟨mb,k*2,none⟩ (.pointer (some ⟨d,0,none⟩))) ab mb n (k+1) s (fun i=>if i=k then d else db i) (fun i=>if i=k then G else GD i):=by
 have lm:=h.rm.lt;have la:=h.ra.lt;have kb:∀x,x≠mb->(w1.setCell ⟨mb,k*2,none⟩ (.pointer (some ⟨d,0,none⟩))).heap[x]? =w1.heap[x]? :=fun x hx=>Below.heap_setCell w1 ⟨mb,k*2,none⟩ _ x hx
 refine⟨(h.b.trans (hb.mono h.b.size)).setCell h.lm _,h.la,h.lm,h.ne,?_,?_,?_,?_,?_⟩
 ·exact(h.ra.of_block (hb.block ab la)).setOther h.ne _
 ·refine((h.rm.of_block (hb.block mb lm)).set (k*2) (.pointer (some ⟨d,0,none⟩))).congr fun j hj=>?_
  unfold nfR
  by_cases e:j=k*2
  ·subst e;rw[if_pos rfl,if_pos Zo,if_pos Zo]
   show _=Value.pointer (some ⟨if k*2/2=k then d else db (k*2/2),0,none⟩)
   rw[if_pos Zo]
  ·rw[if_neg e]
   by_cases e1:j%2=0
   ·rw[if_pos e1,if_pos e1]
    by_cases e2:j/2<k
    ·rw[if_pos e2,if_pos Zo]
     show _=Value.pointer (some ⟨if j/2=k then d else db (j/2),0,none⟩)
     rw[if_neg Zo]
    ·rw[if_neg e2,if_neg Zo]
   ·rw[if_neg e1,if_neg e1]
 ·intro i hi
  show DiskAt _ (if i=k then d else db i) (if i=k then G else GD i) _
  by_cases e:i=k
  ·rw[if_pos e,if_pos e];exact hD.keep (fun x hx=>kb x (fun e2=>by have:=hG x hx;omega)) Zs
  ·rw[if_neg e,if_neg e];have h1:=(h.dk i Zo).below hb;exact h1.keep (fun x hx=>kb x (h.up i Zo x hx).2.1) Zs
 ·intro i j hi hj hne x hx hx2;replace hx:(if i=k then G else GD i) x:=hx;replace hx2:(if j=k then G else GD j) x:=hx2
  by_cases e:i=k
  ·rw[if_pos e]at hx;rw[if_neg Zo]at hx2;have h1:=hG x hx;have h2:=(h.dk j Zo).lt x hx2;omega
  ·rw[if_neg e]at hx
   by_cases e2:j=k
   ·rw[if_pos e2]at hx2;have h1:=hG x hx2;have h2:=(h.dk i Zo).lt x hx;omega
   ·rw[if_neg e2]at hx2;exact h.sep i j Zo Zo hne x hx hx2
 ·intro i hi x hx;replace hx:(if i=k then G else GD i) x:=hx
  by_cases e:i=k
  ·rw[if_pos e]at hx;have h1:=hG x hx;have h2:=h.b.size;exact⟨Zo,Zo,Zo⟩
  ·rw[if_neg e]at hx;exact h.up i Zo x hx
theorem rep_getD{α:Type}{n i:Nat}{x d:α}(h:i<n):(List.replicate n x).getD i d=x:=by simp[List.getD,h]
theorem NewI.done(h:NewI w wr ab mb n n s db GD)(h1:1<=n)(h2:n<=32)(h3:1<=s)(h4:s<=4096):ArAt wr ab (fun x=>x=ab∨x=mb∨∃i,i<n/\GD i x) (newA n s):=by
 have hl:(newA n s).D.length=n:=by simp[newA]
 refine⟨mb,db,GD,⟨?_,h.ra.cell (i:=1) Zo,h.ra.cell (i:=2) Zo,h.ra.frozen 1,h.ra.frozen 2,fun i hi=>?_,fun i hi=>?_,fun i hi=>h.rm.frozen _,fun i hi=>?_,fun i j hi hj=>h.sep i j (hl▸hi) (hl▸hj),fun i hi=>⟨fun e=>(h.up i (hl▸hi) _ e).1 rfl,fun e=>(h.up i (hl▸hi) _ e).2.1 rfl⟩,h.ne,Or.inl rfl,Or.inr (Or.inl rfl),fun i hi x hx=>Or.inr (Or.inr ⟨i,hl▸hi,hx⟩),fun x hx=>?_,by rw[hl];exact h1,by rw[hl];exact h2,by simp[newA],by simp[newA];decide⟩,newA_ok h1 h2 h3 h4⟩
 ·rw[hl];exact h.ra.cell (i:=0) Zo
 ·rw[hl]at hi;rw[h.rm.cell Zo];unfold nfR;rw[if_pos Zo,if_pos Zo,show i*2/2=i by omega]
 ·rw[hl]at hi;rw[h.rm.cell Zo];unfold nfR;rw[if_neg Zo];simp only[newA];rw[rep_getD hi]
 ·rw[hl]at hi;simp only[newA];rw[rep_getD hi];exact h.dk i hi
 ·rcases hx with h5|h5|⟨i,hi,h5⟩
  ·rw[h5];exact h.ra.lt
  ·rw[h5];exact h.rm.lt
  ·exact(h.dk i hi).lt x h5
end
def NewsA(w:World)(n s:Nat)(e:Ending)(w':World):Prop:=∃ab GA,e= .returned (.tuple #[.pointer (some ⟨ab,0,none⟩),.int .i64 0])/\ArAt w' ab GA (newA n s)/\(∀k,GA k->w.heap.size<=k)/\Below w.heap.size w w'
theorem made_two(w:World)(n:Nat)(t:TypeId):(w.alloc (.cells (madeCells #[.pointer none,.int .i64 0] (n*2)) t)).rowIs w.heap.size t (n*2) (nfR (fun _=>0) 0):=by
 have hs:(madeCells #[Value.pointer none,.int .i64 0] (n*2)).size=n*2:=size_madeCells _ _;have h:=World.rowIs_alloc w (madeCells #[.pointer none,.int .i64 0] (n*2)) t (nfR (fun _=>0) 0) (fun i hi=>by
  rw[hs]at hi;unfold nfR
  rcases Nat.mod_two_eq_zero_or_one i with e|e<;>simp[madeCells,hi,e])
 rw[hs]at h;exact h
theorem laid_u(w:World)(n:Nat)(h2:n<=32):∃u,(Instr.makeSlice 77 (.int .i64 (n:Int)) (.int .i64 (n:Int))).run Tryz.prog w= .ok (.slice (some ⟨w.heap.size,0,none⟩) n n) u/\u.rowIs w.heap.size 84 (n*2) (nfR (fun _=>0) 0)/\Below w.heap.size w u/\u.heap.size=w.heap.size+1:=
 ⟨_,run_make_members n h2 w,made_two _ _ _,belA _ _,Zs⟩
theorem laid_a(u:World)(g n:Nat):(u.alloc (.cells #[.slice (some ⟨g,0,none⟩) n n,.int .i64 0,.bool false] 79)).rowIs u.heap.size 79 3 (faR g n):=
 World.rowIs_alloc u #[.slice (some ⟨g,0,none⟩) n n,.int .i64 0,.bool false] 79 (faR g n) (fun i hi=>by
  have hi2:i<3:=hi
  match i,hi2 with
  |0,_=>rfl
  |1,_=>rfl
  |2,_=>rfl)
theorem anew_any{w:World}{n:Nat}{s:Int}(h1:1<=n)(h2:n<=32)(h3:1<=s)(h4:s<=4096):Calls Tryz.prog 9 #[.int .i64 (n:Int),.int .i64 s] w (NewsA w n s.toNat):=by
 have q1:¬(n:Int)<1:=Zo
 have q2:¬(n:Int)>32:=Zo
 obtain⟨u,mk1,hr,hb,hs⟩:=laid_u w n h2;obtain⟨g,hg⟩:∃g,Hid (g=w.heap.size):=⟨_,rfl⟩;rw[<-hg.out]at mk1 hr;have hs':Hid (u.heap.size=w.heap.size+1):=hs;have LA:=laid_a u g n;have START:Hid (∃db GD,NewI w (u.alloc (.cells #[.slice (some ⟨g,0,none⟩) n n,.int .i64 0,.bool false] 79)) u.heap.size g n 0 s.toNat db GD):=
  ⟨fun _=>0,fun _ _=>False,(hb.alloc (by have:=hb.size;omega) _),Zo,by rw[hg.out];exact Zr,by rw[hg.out];omega,LA,hr.alloc _,fun i hi=>absurd hi (Nat.not_lt_zero _),fun i j hi=>absurd hi (Nat.not_lt_zero _),fun i hi=>absurd hi (Nat.not_lt_zero _)⟩
 have c0:=LA.cell (i:=0) Zo;simp only[faR,if_true]at c0;clear hs LA hb hr
 go_enter Tryz.func9,Tryz.ntmps9
 go_wp2;obtain⟨ab,hab⟩:∃ab,Hid (ab=u.heap.size):=⟨_,rfl⟩;rw[<-hab.out]at START ⊢
 go_loopw [25] (fun i wr=>∃k:Nat,k<=n/\i= .int .i64 (k:Int)/\∃db GD,NewI w wr ab g n k s.toNat db GD) (fun i _=>n-(intOf i).toNat)
 case atStart=>exact⟨0,Zz,rfl,START.out⟩
 case round=>
  clear START;obtain⟨k,hk,rfl,db,GD,hN⟩:=hrel
  by_cases hlt:k<n
  ·have hlt':(k:Int)<(n:Int):=by omega
   have g1:IntKind.i64.wrap ((k:Int)+1)=((k+1:Nat):Int):=Zw
   go_wp2_with fail
   refine(dmake_any h3 h4).mono ?_
   rintro _ w1 ⟨d,G,rfl,D1,H1,B1⟩;have c1:w1.cell? ⟨ab,0,none⟩=some (.slice (some ⟨g,0,none⟩) n n):=(B1.cell (p:=⟨ab,0,none⟩) hN.ra.lt).trans (hN.ra.cell (i:=0) Zo);have R1:=hN.rm.of_block (B1.block g hN.rm.lt);have c2:=R1.cell (i:=k*2) Zo;have f2:=R1.frozen (k*2);have E2:Hid (∃db GD,NewI w (w1.setCell ⟨g,k*2,none⟩ (.pointer (some ⟨d,0,none⟩))) ab g n (k+1) s.toNat db GD):=⟨_,_,hN.step hlt D1 H1 B1⟩;clear hN D1 H1 B1 R1;go_wp2;go_roundw
   case rel=>exact⟨k+1,Zo,Zg,E2.out⟩
   case measure=>simp[intOf];omega
  ·have hlt':¬(k:Int)<(n:Int):=by omega
   have hkn:k=n:=Zo
   rw[hkn]at hN;have FIN:Hid (∃GA,ArAt wr ab GA (newA n s.toNat)/\(∀k,GA k->w.heap.size<=k)/\Below w.heap.size w wr):=⟨_,hN.done h1 h2 Zo Zo,fun x hx=>by
    rcases hx with h5|h5|⟨i,hi,h5⟩
    ·rw[h5];exact hN.la
    ·rw[h5];exact hN.lm
    ·exact(hN.up i hi x h5).2.2,hN.b⟩
   clear hN;go_wp2;refine bodyPost_ret (v:=.tuple #[.pointer (some ⟨ab,0,none⟩),.int .i64 0]) (by simp[results,Tryz.results9,go_sem]) rfl ?_
   obtain⟨GA,r⟩:=FIN.out;exact⟨ab,GA,rfl,r⟩
section
variable {w w':World} {ab N:Nat} {GA GA':Nat->Prop} {a a':ArS}
structure ArB(w:World)(N:Nat)(ab:Nat)(GA:Nat->Prop)(a:ArS):Prop where
 at_:ArAt w ab GA a
 low:∀k,GA k->N<=k
 size:N<=w.heap.size
theorem ArB.below(h:ArB w N ab GA a)(hb:Below w.heap.size w w'):ArB w' N ab GA a:=⟨h.at_.below hb,h.low,Nat.le_trans h.size hb.size⟩
theorem ArB.grew(h:ArB w N ab GA a)(hd:ArAt w' ab GA' a')(g:Grew GA w GA' w'):ArB w' N ab GA' a':=⟨hd,g.base h.low h.size,Nat.le_trans h.size g.turn.size⟩
theorem ArB.bel(h:ArB w N ab GA a)(g:Grew GA w GA' w'):Below N w w':=g.below h.low h.size
end
section
variable {w:World} {ab:Nat} {GA:Nat->Prop} {a:ArS}
theorem awrite_is(h:ArAt w ab GA a){i ad:Int}(hi:(Lit.int .i64 i).wf=true)(ha:(Lit.int .i64 ad).wf=true){v:Value}{p:List UInt8}(hp:Rd w v p){x:Int}(hx:wrAX a i ad p=x){a':ArS}(hd:wrAS a i ad p=a'):Calls Tryz.prog 81 #[.pointer (some ⟨ab,0,none⟩),.int .i64 i,.int .i64 ad,v] w (LeavesA w ab GA a' (.int .i64 x)):=by
 rw[<-hx,<-hd];exact awrite_any h hi ha hp
theorem aread_is(h:ArAt w ab GA a){i ad:Int}(hi:(Lit.int .i64 i).wf=true)(ha:(Lit.int .i64 ad).wf=true){x:Int}(hx:rdAX a i ad=x){p:List UInt8}(hp:rdAB a i ad=p):Calls Tryz.prog 59 #[.pointer (some ⟨ab,0,none⟩),.int .i64 i,.int .i64 ad] w (Tells w x p):=by
 rw[<-hx,<-hp];exact aread_any h hi ha
theorem afail_is(h:ArAt w ab GA a){i:Int}(hi:(Lit.int .i64 i).wf=true){x:Int}(hx:thX a i=x):Calls Tryz.prog 16 #[.pointer (some ⟨ab,0,none⟩),.int .i64 i] w (LeavesA w ab GA (faAS a i) (.int .i64 x)):=by
 rw[<-hx];exact afail_any h hi
theorem aflush_is(h:ArAt w ab GA a){x:Int}(hx:flAX a=x){a':ArS}(hd:flAS a=a'):Calls Tryz.prog 82 #[.pointer (some ⟨ab,0,none⟩)] w (LeavesA w ab GA a' (.int .i64 x)):=by
 rw[<-hx,<-hd];exact aflush_any h
theorem adown_is(h:ArAt w ab GA a){x:Bool}(hx:a.off=x):Calls Tryz.prog 50 #[.pointer (some ⟨ab,0,none⟩)] w fun e w'=>e= .returned (.bool x)/\w'=w:=by
 rw[<-hx];exact adown_any h
theorem anew_is{w:World}{n s:Int}{m:Nat}(e:n=(m:Int))(h1:1<=m)(h2:m<=32)(h3:1<=s)(h4:s<=4096){k:Nat}(hs:s.toNat=k):Calls Tryz.prog 9 #[.int .i64 n,.int .i64 s] w (NewsA w m k):=by
 subst e hs;exact anew_any h1 h2 h3 h4
end
section
variable {w:World} {ab:Nat} {GA:Nat->Prop} {a:ArS}
theorem alasts_at(h:ArAt w ab GA a){j:Nat}(hj:j<a.D.length):Calls Tryz.prog 44 #[.pointer (some ⟨ab,0,none⟩),.int .i64 (j:Int)] w fun e w'=>∃v,e= .returned v/\OwnH w' w.heap.size v (heldL (a.D.getD j default).last (a.D.getD j default).s)/\Below w.heap.size w w':=by
 obtain⟨mb,db,GD,hM,ok⟩:=h;have KP:=@amem_at w ab mb _ hM.c0 j hj;have KW:=dlasts_any (hM.dk j hj);have m0:=hM.m0 j hj;clear hM ok
 go_enter Tryz.func44,Tryz.ntmps44
 go_wp2_with fail
 refine KP.mono ?_
 rintro _ wq ⟨rfl,hwq⟩;rw[hwq];clear hwq wq KP
 go_wp2_with fail
 refine KW.mono ?_
 rintro _ w1 ⟨v,rfl,O1,B1⟩;go_wp2;go_ret;exact⟨_,rfl,O1,B1⟩
theorem alasts_no(h:ArAt w ab GA a){i:Int}(hi:¬thA a i):Calls Tryz.prog 44 #[.pointer (some ⟨ab,0,none⟩),.int .i64 i] w fun e w'=>e= .returned (.slice none 0 0)/\w'=w:=by
 obtain⟨mb,db,GD,hM,ok⟩:=h;have K:=@amem_no w ab mb _ hM.c0 i hi;clear hM ok
 go_enter Tryz.func44,Tryz.ntmps44
 go_wp2_with fail
 refine K.mono ?_
 rintro _ wq ⟨rfl,hwq⟩;rw[hwq];clear hwq wq K;go_wp2;go_ret;exact⟨rfl,rfl⟩
theorem awaits_at(h:ArAt w ab GA a){j:Nat}(hj:j<a.D.length):Calls Tryz.prog 45 #[.pointer (some ⟨ab,0,none⟩),.int .i64 (j:Int)] w fun e w'=>∃v,e= .returned v/\OwnH w' w.heap.size v (heldL (a.D.getD j default).wait (a.D.getD j default).s)/\Below w.heap.size w w':=by
 obtain⟨mb,db,GD,hM,ok⟩:=h;have KP:=@amem_at w ab mb _ hM.c0 j hj;have KW:=dwaits_any (hM.dk j hj);have m0:=hM.m0 j hj;clear hM ok
 go_enter Tryz.func45,Tryz.ntmps45
 go_wp2_with fail
 refine KP.mono ?_
 rintro _ wq ⟨rfl,hwq⟩;rw[hwq];clear hwq wq KP
 go_wp2_with fail
 refine KW.mono ?_
 rintro _ w1 ⟨v,rfl,O1,B1⟩;go_wp2;go_ret;exact⟨_,rfl,O1,B1⟩
theorem awaits_no(h:ArAt w ab GA a){i:Int}(hi:¬thA a i):Calls Tryz.prog 45 #[.pointer (some ⟨ab,0,none⟩),.int .i64 i] w fun e w'=>e= .returned (.slice none 0 0)/\w'=w:=by
 obtain⟨mb,db,GD,hM,ok⟩:=h;have K:=@amem_no w ab mb _ hM.c0 i hi;clear hM ok
 go_enter Tryz.func45,Tryz.ntmps45
 go_wp2_with fail
 refine K.mono ?_
 rintro _ wq ⟨rfl,hwq⟩;rw[hwq];clear hwq wq K;go_wp2;go_ret;exact⟨rfl,rfl⟩
end
theorem info_int13:(Tryz.prog.info? 3).map (fun i=>(i.zero,i.size,i.bytes))=some (some (.int .i64 0),1,8):=Zk
section
variable {w:World} {ab:Nat} {GA:Nat->Prop} {a:ArS}
theorem abirths_any(h:ArAt w ab GA a):Calls Tryz.prog 49 #[.pointer (some ⟨ab,0,none⟩)] w (MadeRow w 3 a.D.length (fun i=>.int .i64 (a.B.getD i 0))):=by
 obtain⟨mb,db,GD,hM,ok⟩:=h;have c0:=hM.c0;have d2:=hM.d2;have mk1:=run_make_row' (P:=Tryz.prog) 35 3 (.int .i64 0) 8 Tryz.underlying35 info_int13 rfl .i64 .i64 a.D.length Zo Zo;obtain⟨u,hu⟩:∃u,u=w.alloc (Obj.cells (madeCells #[Value.int .i64 0] a.D.length) 3):=⟨_,rfl⟩;have hub:Below w.heap.size w u:=by rw[hu];exact belA _ _
 have hur:u.rowIs w.heap.size 3 a.D.length (fun _=>.int .i64 0):=by rw[hu];exact World.rowIs_made _ _ _ _
 have hM1:=hM.below hub;have c0m:=hM1.c0;have mk2:=mk1 w;obtain⟨g,hg⟩:∃g,Hid (g=w.heap.size):=⟨_,rfl⟩;rw[<-hu,<-hg.out]at mk2;rw[<-hg.out]at hur;clear mk1 hu
 go_enter Tryz.func49,Tryz.ntmps49
 go_wp2;have START:Hid (u.rowIs g 3 a.D.length (fun j=>if j<0 then .int .i64 (a.B.getD j 0)else .int .i64 0)/\Below w.heap.size w u):=⟨hur,hub⟩;clear hM1 c0m mk2 hub hur ok c0
 go_loopw [19] (fun i wr=>∃k:Nat,k<=a.D.length/\i= .int .i64 (k:Int)/\wr.rowIs g 3 a.D.length (fun j=>if j<k then .int .i64 (a.B.getD j 0)else .int .i64 0)/\Below w.heap.size w wr) (fun i _=>a.D.length-(intOf i).toNat)
 case atStart=>exact⟨0,Zz,rfl,START.out⟩
 case round=>
  clear START;obtain⟨k,hk,rfl,hr,hb⟩:=hrel
  by_cases hlt:k<a.D.length
  ·have hlt':(k:Int)<(a.D.length:Int):=by omega
   have g1:IntKind.i64.wrap ((k:Int)+1)=((k+1:Nat):Int):=Zw
   have hMr:=hM.below hb;have m0:=hMr.m0 k hlt;have m1:=hMr.m1 k hlt;obtain⟨z,hz⟩:∃z,Hid (z=a.B.getD k 0):=⟨_,rfl⟩;rw[<-hz.out]at m1;have cq:=fun o=>(hr.alloc o).cell hlt
   have fq:=fun o=>(hr.alloc o).frozen k
   have E2:Hid (∀o,((wr.alloc o).setCell ⟨g,k,none⟩ (.int .i64 z)).rowIs g 3 a.D.length (fun j=>if j<k+1 then .int .i64 (a.B.getD j 0)else .int .i64 0)/\Below w.heap.size w ((wr.alloc o).setCell ⟨g,k,none⟩ (.int .i64 z))):=by
    intro o;refine⟨((hr.alloc o).set k (.int .i64 z)).congr fun j hj=>?_,(hb.trans ((belA wr o).mono hb.size)).setCell (by rw[hg.out];exact Zr) _⟩
    by_cases e:j=k
    ·rw[if_pos e,if_pos Zo,e,hz.out]
    ·rw[if_neg e]
     by_cases e2:j<k
     ·rw[if_pos e2,if_pos Zo]
     ·rw[if_neg e2,if_neg Zo]
   clear hMr hr hb;go_wp2;go_roundw
   case rel=>exact⟨k+1,Zo,Zg,E2.out _⟩
   case measure=>simp[intOf];omega
  ·have hlt':¬(k:Int)<(a.D.length:Int):=by omega
   have hkn:k=a.D.length:=Zo
   have FIN:Hid (wr.rowIs g 3 a.D.length (fun j=>.int .i64 (a.B.getD j 0))/\w.heap.size<=g/\Below w.heap.size w wr):=⟨hr.congr fun j hj=>if_pos Zo,by rw[hg.out];exact Zr,hb⟩;clear hr hb;go_wp2;go_ret;exact⟨g,rfl,FIN.out⟩
end
theorem OwnH.rdA{w:World}{base:Nat}{v:Value}{L:List (Int×List UInt8)}(h:OwnH w base v L)(hl:L.length<=100000):RdH w v L:=by
 obtain⟨T,h1,h2⟩:=h;exact⟨T,h1,h2.rd (by rw[<-h1,bareT_length]at hl;exact hl)⟩
theorem held_few{a:ArS}(ok:a.Ok){i:Nat}(hi:i<a.D.length)(f:Int->Option (List UInt8)):(heldL f (a.D.getD i default).s).length<=100000:=by
 have h1:a.D.getD i default∈a.D:=by
  rw[show a.D.getD i default=a.D[i] by simp[List.getD,hi]];exact List.getElem_mem hi
 have h2:=(ok.each _ h1).s2;have h3:=heldL_length f (a.D.getD i default).s;omega
section
variable {w:World} {rb:Nat} {HR GA:Nat->Prop} {a:ArS}
def lvF(a:ArS)(k:Nat):List Value:=(List.range k).map fun i=>.bool (!(a.D.getD i default).dead)
theorem lvF_succ(a:ArS)(k:Nat):lvF a k++[.bool (!(a.D.getD k default).dead)]=lvF a (k+1):=by simp[lvF,List.range_succ]
theorem rliveA_any(h:RaAt w rb HR GA a):Calls Tryz.prog 47 #[.pointer (some ⟨rb,0,none⟩)] w fun e w'=>∃v,e= .returned v/\w'.ownsRow w.heap.size 4 1 v a.D.length (lvF a a.D.length)/\Below w.heap.size w w':=by
 obtain⟨xb,yb,cx,cy,rd,hM,ok⟩:=h;obtain⟨i0,hi,hz0,hz1,hz2⟩:=info_parts info_bool13;have hd2:=hM.d2;have START:Hid (w.ownsRow w.heap.size 4 1 (.slice none 0 0) 0 (lvF a 0)/\Below w.heap.size w w):=⟨⟨rfl,Or.inl ⟨rfl,rfl⟩⟩,Zf⟩
 go_enter Tryz.func47,Tryz.ntmps47
 go_wp2
 go_loopw [3,4] (fun ov i wr=>∃k:Nat,k<=a.D.length/\i= .int .i64 (k:Int)/\wr.ownsRow w.heap.size 4 1 ov k (lvF a k)/\Below w.heap.size w wr) (fun _ i _=>a.D.length-(intOf i).toNat)
 case atStart=>exact⟨0,Zz,rfl,START.out⟩
 case round=>
  clear START;obtain⟨k,hk,rfl,ho,hb⟩:=hrel;have hMr:=hM.below hb;have c0:=hMr.c0
  by_cases hlt:k<a.D.length
  ·have hlt':(k:Int)<(a.D.length:Int):=by omega
   have g1:IntKind.i64.wrap ((k:Int)+1)=((k+1:Nat):Int):=Zw
   have x0:=hMr.x k hlt;have d0:wr.cell? ⟨rd k,3,none⟩=some (.bool (a.D.getD k default).dead):=by
    obtain⟨vl,vw,Tl,Tw,hI⟩:=hMr.dk k hlt;exact hI.c3
   have hsu:Hid _:=lvF_succ a k;obtain⟨x,hx⟩:∃x,x=(a.D.getD k default).dead:=⟨_,rfl⟩;rw[<-hx]at d0 hsu;have oA:=World.ownsRow.alloc ho (.cells #[.bool (!x)] 4);have bA:=hb.trans ((belA wr (.cells #[.bool (!x)] 4)).mono hb.size);clear hMr hx
   ·go_wp2_with (at_builtin;go_loud (refine wpList_append_v _ rfl (.tmp 14) (.tmp 26) 36 rfl w.heap.size 4 i0 (.bool false) 1 Tryz.underlying36 hi hz0 hz1 hz2 rfl Zd u3 k (lvF a k) rfl oA wr.heap.size 1 (.bool (!x)) rfl (World.cell?_alloc_new _ _ _ 0) rfl Zo bA.size ?_);intro ov' w4 h4 g4 e4)
    rw[hsu.out]at h4;have E4:Hid (w4.ownsRow w.heap.size 4 1 ov' (k+1) (lvF a (k+1))/\Below w.heap.size w w4):=⟨h4,bA.grown g4 bA.size (fun q hq=>(row_at oA hq).1)⟩;clear h4 g4 e4 oA bA ho hb hsu c0 x0 d0;go_roundw
    case rel=>exact⟨k+1,Zo,Zg,E4.out⟩
    case measure=>simp[intOf];omega
  ·have hlt':¬(k:Int)<(a.D.length:Int):=by omega
   obtain rfl:k=a.D.length:=Zo
   have FIN:Hid _:=And.intro ho hb;clear ho hb hMr;go_wp2;go_ret;exact⟨_,rfl,FIN.out⟩
end
end Go.Proofs.YtclieefpnbdbjaaGreat.Gf
