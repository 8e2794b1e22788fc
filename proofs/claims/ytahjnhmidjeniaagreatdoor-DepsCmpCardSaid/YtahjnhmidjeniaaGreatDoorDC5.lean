import Derived.Test.YtahjnhmidjeniaaGreatDoorDC4
import Derived.Shelf.Slices.In.SortNone
import Derived.Maps.Keyed
import Derived.DeepKeys5
import Derived.Maps.OwnSet
import Derived.Lib.SliceRun
import Derived.Deep.OwnRows
set_option maxRecDepth 100000
set_option maxHeartbeats 64000000
namespace Go.Proofs.YtahjnhmidjeniaaGreatDoor
open Go.RowKit
theorem Elem.tx:Elem Tryz.prog 31 9 1 16:=⟨Tryz.underlying31,⟨.string ⟨#[]⟩,by kernel_rfl,rfl⟩,by decide⟩
theorem YG(w:World):Calls Tryz.prog 50 #[.slice none 0 0] w fun e w'=>e = .returned (.tuple #[])∧w'=w:=Any.slices_Sort_string_none Tryz.Kb none 0 w
def qB(l:List aZ):List ByteArray:=qw (qJ (l.map (·.sh)))
theorem Vk:qB []=[]:=by
 unfold qB qJ qw;simp[Lib.compact,Lib.compactUpTo]
theorem Vj (l:List aZ):(qB l).length≤l.length:=by
 unfold qB qw;rw[dQ];have h:=Ik ((qJ (l.map (·.sh))).map jS);rw[dQ,AV,dQ]at h;exact h
theorem Yp (w:World)(A:Option Addr)(n cap:Nat)(l:List aZ)(h:nJ w w.heap.size (.slice A n cap) l)(hn:n≤1000) :
 Calls Tryz.prog 35 #[.slice A n cap] w fun e w'=>Below w.heap.size w w'∧∃v,e = .returned v∧Own kr 9 w' w.heap.size v (qB l):=by
 have HL:=ae h.len.1;have HX:=ae h;clear h;go_enter Tryz.func35,Tryz.ntmps35;go_upto_region 3 with (fail)
 go_loopw [3,8] (fun jN iv wr=>∃(i:Nat)(v:Value),i≤n∧v=jN∧iv = .int .i64 (i:Int)∧Hid (Own kr 9 wr w.heap.size v ((l.take i).map (·.sh)))∧Hid (i=0→v = .slice none 0 0)∧Hid (Below w.heap.size w wr))
  (fun _ iv _=>n - (intOf iv).toNat)
 case atStart=>exact⟨0,_,bA _,rfl,rfl,ae (Own.nil _ _ _ _),ae (fun _=>rfl),ae (ak _ _)⟩
 case round =>
  obtain⟨i,v,hi,rfl,rfl,HO,ib,HR⟩:=hrel;by_cases hlt:i<n
  · have hii:(i:Int)<(n:Int):=by omega
    have hi0:(0:Int)≤(i:Int):=by omega
    obtain⟨a,ha⟩:∃a,l[i]? = some a:=⟨_,aX (by rw[HL.o];exact hlt)⟩;obtain⟨pb,po,rfl,hpb,hat⟩:=zI HX.o ha;obtain⟨x0,x1,x2,x3,x4,x5,x6,x7,aY,eF,eD⟩:=zJ HR.o hpb hat;have cO:=ae (show(l.take (i+1)).map (·.sh)=(l.take i).map (·.sh)++[a.sh]by rw[List.take_add_one,ha,gW];rfl);have oN:=ae (show((l.take i).map (·.sh)).length≤i by rw[dQ,iB];omega);clear hat ha hpb;have HB3:=ae (HR.o.trans ((iX wr a).mono HR.o.size));have mP:=ae (lu.new wr a);have bF:=ae (HO.o.below (iX wr a) (aj _));go_upto_region 5 with (fail)
    clear x0 x1 x2 x3 x4 x5 x6 x7 aY eF eD;generalize hz:wr.heap.size=z at mP ⊢;obtain⟨w3,hw3⟩:∃w3,wr.alloc (.cells (kG a) 109)=w3:=⟨_,rfl⟩;rw[show wr.alloc (.cells #[.string a.sh,.string a.f.sh,.int .i64 a.f.c,.int .i64 a.f.r,.bool a.f.ac,.bool a.f.ar,.string a.l.sh,.int .i64 a.l.c,.int .i64 a.l.r,.bool a.l.ac,.bool a.l.ar] 109)=w3 from hw3];rw[hw3]at HB3 mP bF;obtain⟨y0,y1,y2,y3,y4,iy,y6,iA,iR,kN,kM⟩:=mP.o.cells;clear hw3 hz HO HR;go_wp2_with (at_builtin;refine lW Elem.tx kr rfl (.tmp 12) (.tmp 15) rfl w.heap.size v _ rfl (bF.o.below ((ak w3.heap.size w3).alloc (aj _) (.cells #[.string a.sh] 9)) (aj _)) ⟨_,0,none⟩ 1 1 [a.sh] rfl rfl ?_ ?_ ?_ ?_ ?_;exact iH _ _ _ rfl;(have:=oN.o;omega);(have:=oN.o;unfold maxLen;omega);(have h2:=HB3.o.size;rw[iC];omega);intro v5 w5 h1 h2;have iU:=ae h1;have cz:=ae (HB3.o.trans ((((ak w3.heap.size w3).alloc (aj _) (.cells #[.string a.sh] 9)).mono HB3.o.size).trans h2));clear h1 h2)
    go_roundw
    case rel=>exact⟨i+1,_,by omega,rfl,by go_num,ae (by rw[cO.o];exact iU.o),ae (fun h=>absurd h (by omega)),cz⟩
    case measure=>simp[intOf];omega
  · have hii:¬ (i:Int)<(n:Int):=by omega
    have hin:i=n:=by omega
    have gD:=HO.o;rw[mM (by rw[HL.o];omega)]at gD;have nL:=ae (show(l.map (·.sh)).length=n by rw[dQ,HL.o]);clear HO;rcases gD.2 with ⟨hv,h0⟩|⟨g,ko,cur,hv,dF,hb,_⟩
    · subst hv
      have hl0:l=[]:=mK (by rw[dQ]at h0;exact h0);have HN:=ae (show qB l=[]by rw[hl0];exact Vk);clear h0 hl0 gD
      go_wp2_with (first
       | (go_at_call 50;((with_reducible refine(YG _).mono ?_);rintro e w2 ⟨rfl,rfl⟩))
       | (go_at_call 51;((with_reducible refine(Tryz.slices_Compact_string_empty none 0 _).mono ?_);rintro e w3 ⟨rfl,rfl⟩)))
      go_ret;exact⟨HR.o,_,rfl,by rw[HN.o];exact Own.nil _ _ _ _⟩
    · subst hv
      have Gu:=ae (YH wr w.heap.size g ko (l.map (·.sh)) gD (by rw[nL.o];exact hn));have qU:=ae dF;rw[nL.o]at Gu ⊢;clear hb gD dF
      go_wp2_with (first
       | (go_at_call 50;((with_reducible refine Gu.o.mono ?_);rintro e w2 ⟨rfl,h1,h2⟩;have HR2:=ae (HR.o.grown h2 HR.o.size (fun q e=>by injection e with e;rw[← e];exact qU.o));have HC:=(by have h:=QA w2 w.heap.size g ko (qJ (l.map (·.sh))) (by rw[AV,nL.o];exact h1);rw[AV,nL.o]at h;exact ae h);clear h1 h2))
       | (go_at_call 51;((with_reducible refine HC.o.mono ?_);rintro e w3 ⟨rfl,h1,h2⟩;have HR3:=ae (HR2.o.grown h2 HR2.o.size (fun q e=>by injection e with e;rw[← e];exact qU.o));have bF:=ae h1;clear h1 h2)))
      go_ret;exact⟨HR3.o,_,rfl,bF.o⟩
theorem Rv (av:List aU)(nm:ByteArray):∃o,ui av nm o∧o.map (·.2)=av.find? fun s=>decide (s.nm=nm):=by
 obtain⟨o,ho⟩:=Ru av nm;refine⟨o,ho, ?_⟩;cases o with
 | none =>
   symm;show _=none;rw[List.find?_eq_none];intro s hs;obtain⟨j,hj⟩:=List.getElem?_of_mem hs
   simpa using ho j s hj
 | some p =>
   obtain⟨i,s⟩:=p;obtain⟨h1,h2,h3⟩:=ho;symm;show _=some s;obtain⟨hi,he⟩:=eH.1 h1;rw[List.find?_eq_some_iff_getElem];refine⟨by simpa using h2,i,hi,he,fun j hj => ?_⟩;have:=h3 j av[j] hj (aX (by omega))
   simpa using this
def mg (av:List aU)(l:List aZ)(nm:ByteArray):List aG:=match av.find? fun s=>decide (s.nm=nm)with
 | none=>[]
 | some s=>rA (l.filter fun a=>decide (a.sh=nm)) s.nm (s.rows.map fun r=>r.l.length)
def yu(av:List aU)(l:List aZ):List aG:=(qB l).flatMap (mg av l)
theorem Ry {α β : Type}(f : α → List β)(l:List α)(i:Nat)(a : α)(h:l[i]? = some a):(l.take (i+1)).flatMap f=(l.take i).flatMap f++f a:=by
 rw[List.take_add_one,h,List.flatMap_append];congr 1;show List.flatMap _ [a]=_;rw[fD,List.flatMap_nil,bE]
theorem Ia (av:List aU)(hsz:∀s∈av,s.rows.length≤100∧∀r∈s.rows,r.l.length≤100)(l:List aZ)(nm:ByteArray):(mg av l nm).length≤10000:=by
 unfold mg;cases hq:av.find? fun s=>decide (s.nm=nm)with
 | none=>exact bA _
 | some s =>
   obtain⟨h1,h2⟩:=hsz s (List.mem_of_find?_eq_some hq);have h:=M6 (l.filter fun a=>decide (a.sh=nm)) s.nm (s.rows.map fun r=>r.l.length) (fun c hc=>by obtain⟨r,hr,rfl⟩:=List.mem_map.1 hc;exact h2 r hr) (s.rows.map fun r=>r.l.length).length;show(rA _ _ _).length≤_;unfold rA;rw[dQ]at h ⊢;omega
theorem Rx {α β : Type}(f : α → List β)(hf:∀a,(f a).length≤10000)(l:List α):(l.flatMap f).length≤l.length*10000:=by
 induction l with
 | nil=>simp
 | cons a t ih=>rw[fD,ax,aN];have:=hf a;omega
theorem YK {w:World}{base:Nat}{v:Value}{ys:List aG}(h:Own fH 23 w base v ys):Src Tryz.prog 3 32 v ys.length (fH.all ys) w:=by
 rcases h.shape with ⟨rfl,rfl⟩|⟨g,cap,rfl,h1,h2,h3,h4⟩
 · exact Src.ofNil w Tryz.underlying32 0
 · exact Src.ofSlice w Tryz.underlying32 _ _ _ _ (by rw[Enc.iZ]) (fun j u hu=>by rw[Addr.add_mid,Nat.zero_add];exact Own.cells h j u hu) (fH.tK ys)
theorem aad {P:Program}{α : Type}{size t tx e bytes:Nat}{w:World}{o:Oper}{a:Act}{K:Act→World→Prop}{Q:Exit→Act→World→Prop}(bS:Elem P t e size bytes)(E:Enc α size)
 (s x:Operand) (ho:o.op = .call { callee := .builtin .append,args:=#[s,x],argTypes:=#[t,tx] }) (base:Nat) (v:Value) (xs:List α)
 (hs:a.eval s=v) (dK:Own E e w base v xs) (y:Value) (m:Nat) (ys:List α) (hx:a.eval x=y) (hl:ys.length=m) (xX:Src P size tx y m (E.all ys) w)
 (hb:(xs.length+m)*bytes≤140737488355328) (hb2:xs.length+m≤maxLen) (dF:base≤w.heap.size)
 (h:∀(v':Value)(w':World),Own E e w' base v' (xs++ys)→Below base w w'→K (a.put o.dst v') w'):Oper.wp P o a w K Q:=by
 obtain⟨v',w',iP,h2,h3⟩:=LJ (ty:=o.type) bS E base v xs dK y m ys hl xX hb hb2 dF;unfold Oper.wp;simp[execOp,ho,resolve,invoke,builtin,hs,hx,iP,Result.andThen];exact h v' w' h2 h3
def FH(w:World)(A:Option Addr)(n cap:Nat)(s:aG)(x:ByteArray):Prop:=∀w1,Below w.heap.size w w1→Calls Tryz.prog 33 #[.agg #[.slice A n cap],.agg #[.string s.nm,.int .i64 (s.r:Int),.int .i64 (s.c:Int)]] w1 fun e w'=>e = .returned (.string x)∧Below w1.heap.size w1 w'
def FE(w:World)(x:ByteArray)(ns:List Nd):Prop:=∀w1,Below w.heap.size w w1→Calls Tryz.prog 32 #[.string x] w1 fun e w'=>∃g cap l,e = .returned (.tuple #[.slice (some ⟨g,0,none⟩) ns.length cap,.bool true])∧ig w' w'.heap.size (.slice (some ⟨g,0,none⟩) ns.length cap) l∧l.map Prod.fst=ns∧Below w1.heap.size w1 w'
theorem KQ (w:World)(A:Option Addr)(n cap:Nat)(av:List aU)(s:aG)(x:ByteArray)(ns:List Nd)(h:fQ w w.heap.size (.slice A n cap) av)(hn:n≤10)(hsz:∀s∈av,s.rows.length≤100∧∀r∈s.rows,r.l.length≤100)(hns:ns.length≤1000)(hg:FH w A n cap s x)(hf:FE w x ns) :
 Calls Tryz.prog 24 #[.agg #[.slice A n cap],.agg #[.string s.nm,.int .i64 (s.r:Int),.int .i64 (s.c:Int)]] w fun e w'=>Below w.heap.size w w'∧∃v,e = .returned v∧Own fH 23 w' w.heap.size v (yu av (kg s.nm ns)):=by
 obtain⟨w1,hw1,hb,hbk,hsp,Ta⟩:=yO w (.slice A n cap) s.nm s.r s.c;have HX:=ae (h.lift hb);have HB:=ae hb;have jZ:=ae hbk;have kQ:=ae hsp;have HL:=ae h.1.len.1;have HG:=ae (hg w1 hb);have HF:=ae (fun w2 (h2:Below w1.heap.size w1 w2)=>hf w2 (hb.trans (h2.mono hb.size)));have nO:=ae hsz;clear h hb hbk hsp Ta hg hf hsz;obtain⟨nl,hnl⟩:∃nl,ns.length=nl:=⟨_,rfl⟩;rw[hnl]at HF hns;have xh:=ae hnl;obtain⟨ar,har⟩:∃ar,kg s.nm ns=ar:=⟨_,rfl⟩;have dJ:=ae (show ar.length≤1000 by rw[← har];have h1:=Cz s.nm ns;omega);rw[har];have Nt:=ae har;clear hnl har;go_enter Tryz.func24,Tryz.ntmps24;go_upto_region 1 with (fail)
 clear hw1;have b0:=jZ.o.cell;obtain⟨s0,s1,s2⟩:=kQ.o.cells
 go_upto_region 4 with (first
  | (go_at_call 33;((with_reducible refine HG.o.mono ?_);rintro e w2 ⟨rfl,h1⟩;have H2:=ae h1;clear h1 b0 s0 s1 s2))
  | (go_at_call 32;((with_reducible refine(HF.o _ H2.o).mono ?_);rintro e w3 ⟨g,c3,l,rfl,hsn,hfs,h1⟩;have H3:=ae (H2.o.trans (h1.mono H2.o.size));have zt:=ae hsn;have uo:=ae hfs;obtain⟨s0,s1,s2⟩:=(kQ.o.over H3.o).cells;clear h1 hsn hfs)))
 have hll:l.length=nl:=by have h:=congrArg List.length uo.o;rw[dQ]at h;rw[h,xh.o]
 have yY:=ae (Pd w3 (some ⟨g,0,none⟩) nl c3 l s.nm zt.o hll hns);rw[uo.o]at yY;rw[Nt.o]at yY;clear hll;go_upto_region 6 with (go_at_call 34;((with_reducible refine yY.o.mono ?_);rintro e w4 ⟨h1,va,rfl,h2⟩;have H4:=ae (H3.o.trans (h1.mono H3.o.size));have yX:=ae h2;clear h1 h2 s0 s1 s2))
 obtain⟨wU,ca,rfl⟩:=rU yX.o;obtain⟨na,hna⟩:∃na,ar.length=na:=⟨_,rfl⟩;have Jz:na≤1000:=by have h:=dJ.o;omega
 rw[hna]at yX ⊢;have Cg:=ae (show nJ w4 w4.heap.size (.slice wU na ca) ar from yX.o.se);have Gs:=ae (Yp w4 wU na ca ar Cg.o Jz);go_upto_region 7 with (go_at_call 35;((with_reducible refine Gs.o.mono ?_);rintro e w5 ⟨h1,vn,rfl,h2⟩;obtain⟨An,cn,rfl⟩:=rU h2;have FJ:=ae h1;have lZ:=ae h2;clear h1 h2))
 have Gb:=ae (Vj ar);obtain⟨oo,DK⟩:∃oo,qB ar=oo:=⟨_,rfl⟩;obtain⟨N,hN⟩:∃N,oo.length=N:=⟨_,rfl⟩;have vM:=ae (show yu av ar=oo.flatMap (mg av ar)by unfold yu;rw[DK]);rw[DK,hN]at lZ Gb ⊢;have hN1:N≤1000:=by have h:=Gb.o;have h2:=dJ.o;omega
 have eP:=ae (H4.o.trans (FJ.o.mono H4.o.size));have Oq:=ae (show nJ w5 w5.heap.size (.slice wU na ca) ar from dE.lift Cg.o FJ.o);have qW:=ae lZ.o.se;have Ga:=ae hN;clear DK hN Cg Gs yX yY HF HG zt uo
 go_loopw [8,28] (fun jN iv wr=>∃(i:Nat)(v:Value),i≤N∧v=jN∧iv = .int .i64 (i:Int)∧Hid (Own fH 23 wr w5.heap.size v ((oo.take i).flatMap (mg av ar)))∧Hid (Below w5.heap.size w5 wr))
  (fun _ iv _=>N - (intOf iv).toNat)
 case atStart=>exact⟨0,_,bA _,rfl,rfl,ae (Own.nil _ _ _ _),ae (ak _ _)⟩
 case round =>
  obtain⟨i,v,hi,rfl,rfl,HO,HR⟩:=hrel;have HR1:=ae (eP.o.trans (HR.o.mono eP.o.size));by_cases hlt:i<N
  · have hii:(i:Int)<(N:Int):=by omega
    have hi0:(0:Int)≤(i:Int):=by omega
    obtain⟨nm,hnm⟩:∃nm,oo[i]? = some nm:=⟨_,aX (by rw[Ga.o];exact hlt)⟩;obtain⟨nu,ny,Jb,lN,q0⟩:=Be qW.o hnm;have q1:=(HR.o.cell (p:=⟨nu,ny+i,none⟩) lN).trans q0;have dS:=ae (Ry (mg av ar) oo i nm hnm)
    have oN:=ae (show((oo.take i).flatMap (mg av ar)).length≤10000000 by
     have h1:=Rx (mg av ar) (Ia av nO.o ar) (oo.take i);rw[iB]at h1;omega)
    obtain⟨o,ho,Ac⟩:=Rv av nm;have oO:=ae (zW wr A n cap av nm o (HX.o.lift HR1.o) (by omega) ho);have b0:=(jZ.o.over HR1.o).cell;rw[Jb];clear hnm Jb lN q0;cases o with
    | none =>
      have y8:=ae (show mg av ar nm=[]by unfold mg;rw[← Ac];rfl);clear ho Ac;go_wp2_with (go_at_call 36;((with_reducible refine oO.o.mono ?_);rintro e w6 ⟨rfl,h1⟩;have oU:=ae (HR.o.trans (h1.mono HR.o.size));have gY:=ae (HO.o.below h1 (aj _));clear h1 b0 q1))
      go_roundw
      case rel=>exact⟨i+1,_,by omega,rfl,by go_num,ae (by rw[dS.o,y8.o,bE];exact gY.o),oU⟩
      case measure=>simp[intOf];omega
    | some p =>
      obtain⟨k,t⟩:=p;obtain⟨hk,SA,_⟩:=ho;obtain⟨pb,po,Db,hpb,e0,e1,e2,jJ⟩:=vv HX.o hk;have hkn:(k:Int)<(n:Int):=by have h1:=(eH.1 hk).1;have h2:=HL.o;omega
      have hk0:(0:Int)≤(k:Int):=by omega
      have y8:=ae (show mg av ar nm=rA (ar.filter fun a=>decide (a.sh=nm)) t.nm (t.rows.map fun r=>r.l.length)by unfold mg;rw[← Ac];rfl);obtain⟨hR,hC⟩:=nO.o t (bN hk);have lX:=ae (show(rA (ar.filter fun a=>decide (a.sh=nm)) t.nm (t.rows.map fun r=>r.l.length)).length≤10000 by rw[← y8.o];exact Ia av nO.o ar nm);have uA:=ae jJ;have Og:=ae hR;have Bt:=ae hC
      have iD:=ae (fun (wq:World)(hq:Below w1.heap.size w1 wq)=>(show wq.cell? ⟨w.heap.size,0,none⟩=some (.slice (some ⟨pb,po,none⟩) n cap)∧wq.cell? ⟨pb,po+k*3,none⟩=some (.string t.nm)∧wq.cell? ⟨pb,po+k*3+1,none⟩=some (.int .i64 t.bB)∧wq.cell? ⟨pb,po+k*3+2,none⟩=some (.slice t.A t.rows.length t.cap)from
       ⟨by rw[← Db];exact(jZ.o.over hq).cell,(hq.cell (p:=⟨pb,po+k*3,none⟩) hpb).trans e0,(hq.cell (p:=⟨pb,po+k*3+1,none⟩) hpb).trans e1,(hq.cell (p:=⟨pb,po+k*3+2,none⟩) hpb).trans e2⟩))
      have oO:=ae (show Calls Tryz.prog 36 #[.agg #[.slice A n cap],.string nm] wr fun e w'=>e = .returned (.int .i64 (k:Int))∧Below wr.heap.size wr w' from oO.o);rw[Db]at oO b0;clear Ac hk SA hpb e0 e1 e2 jJ hR hC Db;go_upto_region 11 with (go_at_call 36;((with_reducible refine oO.o.mono ?_);rintro e w6 ⟨rfl,h1⟩;have oU:=ae (HR.o.trans (h1.mono HR.o.size));have gY:=ae (HO.o.below h1 (aj _));clear h1 b0 q1))
      have HD6:=ae (oU.o.drew);have qP:=ae (eP.o.trans (HD6.o.mono eP.o.size));have Ol:=ae (show nJ w6.drew w6.drew.heap.size (.slice wU na ca) ar from dE.lift Oq.o HD6.o);have BS:=ae (VM w6.drew wU na ca ar nm Ol.o Jz);have oQ:=ae (show Own fH 23 w6.drew w5.heap.size v ((oo.take i).flatMap (mg av ar))from gY.o.drew);refine wp_region_held_drew (S:=fun wq=>wq.cell? ⟨w.heap.size,0,none⟩=some (.slice (some ⟨pb,po,none⟩) n cap)∧wq.cell? ⟨pb,po+k*3,none⟩=some (.string t.nm)∧wq.cell? ⟨pb,po+k*3+1,none⟩=some (.int .i64 t.bB)∧wq.cell? ⟨pb,po+k*3+2,none⟩=some (.slice t.A t.rows.length t.cap)) (by kernel_rfl) (iD.o _ qP.o) (fun _ => ?_);show wpAnyH _ _ _ _ _ 12 #[false,false,false,false,false,false,false,false,false,false,false,false] _ _;refine hU 0 (iD.o _ qP.o) ?_;refine hU 1 (iD.o _ qP.o) ?_;refine hU 2 (iD.o _ qP.o) ?_;refine hU 4 (iD.o _ qP.o) ?_;refine hU 5 (iD.o _ qP.o) ?_;refine hU 6 (iD.o _ qP.o) ?_;refine hU 7 (iD.o _ qP.o) ?_;refine hU 8 (iD.o _ qP.o) ?_;refine hO 3 (fun K hK => ?_);go_simp;go_at_call 37;(with_reducible refine BS.o.mono ?_);rintro e w7 ⟨h1,abq,rfl,h2⟩;obtain⟨Nl,co,rfl⟩:=rU h2;have Cb:=ae (HD6.o.trans (h1.mono HD6.o.size));have FP:=ae (eP.o.trans (Cb.o.mono eP.o.size));have xk:=ae (oQ.o.below h1 (aj _));have hol:(ar.filter fun a=>decide (a.sh=nm)).length≤1000:=by have h3:=List.length_filter_le (fun a:aZ=>decide (a.sh=nm)) ar;have h4:=dJ.o;omega
      have Nz:=ae (Qg w7 Nl _ co (ar.filter fun a=>decide (a.sh=nm)) t h2.se hol (uA.o.lift FP.o) Og.o Bt.o);clear h1 h2;dsimp only;refine hK.o _ _ (iD.o _ FP.o) ?_;clear hK K;simp only[Act.put,sT,dn,dm];refine hO 9 (fun K hK => ?_);go_simp;go_at_call 38;(with_reducible refine Nz.o.mono ?_);rintro e w8 ⟨h1,vc,rfl,h2⟩;have Cc:=ae (Cb.o.trans (h1.mono Cb.o.size));have NC:=ae (eP.o.trans (Cc.o.mono eP.o.size));have uu:=ae (xk.o.below h1 (aj _));have Oo:=ae (YK h2);clear h1 h2;dsimp only;refine hK.o _ _ (iD.o _ NC.o) ?_;clear hK K;simp only[Act.put,sT,dn,dm];refine hO 10 (fun K hK => ?_);refine aad Elem.AY fH (.tmp 37) (.tmp 46) rfl w5.heap.size v _ ?_ uu.o vc _ _ ?_ rfl Oo.o ?_ ?_ Cc.o.size ?_
      · go_simp
      · go_simp
      · have h1:=oN.o;have h2:=lX.o;omega
      · have h1:=oN.o;have h2:=lX.o;unfold maxLen;omega
      intro v9 rY h1 h2;have NV:=ae h1;have Gl:=ae (Cc.o.trans h2);have FQ:=ae (eP.o.trans (Gl.o.mono eP.o.size));clear h1 h2;refine hK.o _ _ (iD.o _ FQ.o) ?_;clear hK K;simp only[Act.put,sT,dn,dm];refine hU 11 (iD.o _ FQ.o) ?_;refine wpAnyH_done (by kernel_rfl) ?_ _;go_wp2_with fail
      go_roundw
      case rel=>exact⟨i+1,_,by omega,rfl,by go_num,ae (by rw[dS.o,y8.o];exact NV.o),Gl⟩
      case measure=>simp[intOf];omega
  · have hii:¬ (i:Int)<(N:Int):=by omega
    have HE:=ae (show oo.take i=oo from mM (by rw[Ga.o];omega));go_wp2_with fail
    go_ret;have H0:=HB.o.trans (HR1.o.mono HB.o.size);exact⟨H0,_,rfl,by have h:=HO.o;rw[HE.o, ← vM.o]at h;exact h.mono (by have h1:=HB.o.size;have h2:=eP.o.size;omega)⟩
end Go.Proofs.YtahjnhmidjeniaaGreatDoor
namespace Go.Proofs.YtahjnhmidjeniaaGreatDoor
open Go Go.WideMaps Go.ChangeMaps Go.MapKept Go.Maps Go.WideElems Go.RowKit
variable {es:List (aG × Value)}{b:Nat}{w:World}
def nA(s:aG):Value := .agg #[.string s.nm,.int .i64 (s.r:Int),.int .i64 (s.c:Int)]
structure o7 (s:aG):Prop where
 nm:s.nm.size≤maxLen
 r:s.r≤1000000
 c:s.c≤1000000
theorem ES {a b:aG}(h:nA a=nA b):a=b:=by
 obtain⟨n,r,c⟩:=a;obtain⟨n',r',c'⟩:=b;unfold nA at h;injection h with h;have h:=congrArg Array.toList h;simp only[List.cons.injEq,and_true]at h;obtain⟨h1,h2,h3⟩:=h;injection h1 with h1;injection h2 with _ h2;injection h3 with _ h3;have:r=r':=by omega
 have:c=c':=by omega
 subst h1;subst r;subst c;rfl
theorem YI:KeyLaw Tryz.prog 23:=deep_law_gate (by kernel_rfl) (of_decide_eq_true (by kernel_rfl)) (of_decide_eq_true (by kernel_rfl)) (by kernel_rfl) (by rw[Tryz.underlying23])
theorem ET:Keyed Tryz.prog 23:=Keyed.of_law YI
theorem wo (s:aG)(h:o7 s):∃l,keyOf Tryz.prog 23 (nA s)=some l:=by
 have h1:Tryz.prog.keyType 23=true:=by kernel_rfl
 have h2:Tryz.prog.cellsOf 23=3:=by kernel_rfl
 have h3:Tryz.prog.cellsOf 9=1:=by kernel_rfl
 have h4:Tryz.prog.cellsOf 3=1:=by kernel_rfl
 obtain⟨n,hn⟩:∃n,Tryz.prog.types.size=n+1:=⟨Tryz.prog.types.size - 1,(Nat.sub_add_cancel (of_decide_eq_true (by kernel_rfl))).symm⟩;have hu:=Tryz.underlying23;have hr:=h.r;have hc:=h.c;have hs:=h.nm;have w1:(Lit.int .i64 (s.r:Int)).wf=true:=by simp only[Lit.wf,bu,decide_eq_true_eq];exact⟨by show(-9223372036854775808:Int)≤_;omega,by show _≤(9223372036854775807:Int);omega⟩
 have w2:(Lit.int .i64 (s.c:Int)).wf=true:=by simp only[Lit.wf,bu,decide_eq_true_eq];exact⟨by show(-9223372036854775808:Int)≤_;omega,by show _≤(9223372036854775807:Int);omega⟩
 unfold keyOf;rw[hu,hn];simp[nA,h1,h2,h3,h4,hu,hs,w1,w2,Value.formed,Value.cells,Program.keyLits,Tryz.underlying9,Tryz.underlying3]
def fZ (w:World)(b:Nat)(es:List (aG × Value)):Prop :=
 ∃a clock,w.heap[b]? = some (.map a clock)∧a.toList.map (fun e=>(e.key,e.val))=es.map (fun p=>(nA p.1,p.2))
theorem fZ.made(w:World):fZ (w.alloc (.map #[] 0)) w.heap.size []:=⟨#[],0,(MapKept.heap_alloc w _).1,rfl⟩
theorem fZ.lt (h:fZ w b es):b<w.heap.size:=by
 obtain⟨a,c,hb,_⟩:=h;exact(cu.1 hb).1
theorem fZ.keep {w':World}(h:fZ w b es)(hk:w'.heap[b]? = w.heap[b]?):fZ w' b es:=by
 obtain⟨a,c,h1,h2⟩:=h;exact⟨a,c,hk.trans h1,h2⟩
theorem fZ.below{w':World}{B:Nat}(h:fZ w b es)(hb:Below B w w')(hB:b<B):fZ w' b es:=h.keep (hb.block b hB)
theorem fZ.keys {a:Array MapEntry}(h:a.toList.map (fun e=>(e.key,e.val))=es.map (fun p=>(nA p.1,p.2))):∀e∈a.toList,∃p∈es,e.key=nA p.1∧e.val=p.2:=by
 intro e he;have h1:(e.key,e.val)∈a.toList.map (fun e=>(e.key,e.val)):=List.mem_map.2 ⟨e,he,rfl⟩;rw[h]at h1;obtain⟨p,hp,hpe⟩:=List.mem_map.1 h1;simp only[aJ]at hpe;exact⟨p,hp,hpe.1.symm,hpe.2.symm⟩
theorem fZ.put (h:fZ w b es)(hsz:∀p∈es,o7 p.1)(key:aG)(hks:o7 key)(DJ:∀p∈es,p.1≠key)(v:Value) :
 ∃w',(Instr.mapUpdate 58 (.map (some b)) (nA key) v).run Tryz.prog w = .ok () w'∧fZ w' b (es++[(key,v)])∧w'.heap.size=w.heap.size∧w.grownBy w' (some b):=by
 obtain⟨a,clock,hb,hes⟩:=h;have ht:=Tryz.underlying58;have K:=ET;obtain⟨kl,sU⟩:=wo key hks;have hgr:∀o:Obj,w.grownBy (setBlock w b o) (some b):=fun o=>⟨rfl,rfl,rfl,by simp[setBlock],fun j _ hne=>heap_setBlock_other hb _ (fun e=>hne (by rw[e]))⟩
 rcases K.find w sU a.toList (fun x hx=>by
  obtain⟨p,hp,h1,_⟩:=fZ.keys hes x hx;rw[h1];exact wo _ (hsz p hp))with ⟨h1,h2⟩|⟨j,x,_,h2,h3⟩
 · refine⟨setBlock w b (.map (a.push ⟨nA key,v,clock⟩) (clock+1)), ?_,⟨_,_,heap_setBlock_same hb _, ?_⟩,by simp[setBlock],hgr _⟩
   · simp[Instr.mapUpdate,run_underlying ht,MapKept.run_getObj_map hb,K.check w false sU,h1,MapKept.run_setObj_map _ hb,Result.andThen,setBlock]
   · rw[Array.toList_push,gW,gW,hes];rfl
 · exfalso
   obtain⟨p,hp,h4,_⟩:=fZ.keys hes x (bN h2);rw[h3]at h4;exact DJ p hp (ES h4).symm
theorem fZ.U7 (h:fZ w b es)(hsz:∀p∈es,o7 p.1)(key:aG)(hks:o7 key)(hno:∀p∈es,p.1≠key) :
 (Instr.lookup 58 (.map (some b)) (nA key) true).run Tryz.prog w = .ok (.tuple #[.int .i64 0,.bool false]) w:=by
 obtain⟨a,clock,hb,hes⟩:=h;have ht:=Tryz.underlying58;have hz:(zeroValue 3).run Tryz.prog w = .ok (.int .i64 0) w:=Tryz.zeroValue3 w;have K:=ET;obtain⟨kl,sU⟩:=wo key hks
 rcases K.find w sU a.toList (fun x hx=>by
  obtain⟨p,hp,h1,_⟩:=fZ.keys hes x hx;rw[h1];exact wo _ (hsz p hp))with ⟨h1,h2⟩|⟨j,x,_,h2,h3⟩
 · simp[Instr.lookup,run_underlying ht,MapKept.run_getObj_map hb,K.check w _ sU,h1,hz,Result.andThen]
 · exfalso
   obtain⟨p,hp,h4,_⟩:=fZ.keys hes x (bN h2);rw[h3]at h4;exact hno p hp (ES h4).symm
theorem fZ.find (h:fZ w b es)(hsz:∀p∈es,o7 p.1)(key:aG)(hks:o7 key)(v:Value)(hin:(key,v)∈es)(SQ:∀p∈es,p.1=key→p.2=v) :
 (Instr.lookup 58 (.map (some b)) (nA key) true).run Tryz.prog w = .ok (.tuple #[v,.bool true]) w:=by
 obtain⟨a,clock,hb,hes⟩:=h;have ht:=Tryz.underlying58;have K:=ET;obtain⟨kl,sU⟩:=wo key hks
 rcases K.find w sU a.toList (fun x hx=>by
  obtain⟨p,hp,h1,_⟩:=fZ.keys hes x hx;rw[h1];exact wo _ (hsz p hp))with ⟨h1,h2⟩|⟨j,x,h1,h2,h3⟩
 · exfalso
   have h4:(nA key,v)∈a.toList.map (fun e=>(e.key,e.val)):=by rw[hes];exact List.mem_map.2 ⟨_,hin,rfl⟩
   obtain⟨x,hx,hxe⟩:=List.mem_map.1 h4;simp only[aJ]at hxe;exact h2 x hx hxe.1
 · obtain⟨p,hp,h4,h5⟩:=fZ.keys hes x (bN h2)
   rw[h3]at h4;have h6:=SQ p hp (ES h4).symm;rw[h5,h6]at h1;simp[Instr.lookup,run_underlying ht,MapKept.run_getObj_map hb,K.check w _ sU,h1,Result.andThen]
end Go.Proofs.YtahjnhmidjeniaaGreatDoor
namespace Go.Proofs.YtahjnhmidjeniaaGreatDoor
open Go.RowKit
variable {ls:List Int}{B2 aM b gl n wb:Nat}{sv x y z:Value}{w w':World}
structure Iv where
 A:Option Addr
 cap:Nat
 l:List Int
def Iv.v(u:Iv):Value := .slice u.A u.l.length u.cap
def vV:Enc Iv 1:={ f:=fun u=>[u.v],len:=fun _=>rfl,one:=fun _ u hu=>by simp at hu;subst hu;rfl }
def kF(w:World)(b:Nat)(x y z:Value):Prop:=w.heap[b]? = some (.cells #[x,y,z] 61)
theorem kF.new(w:World)(x y z:Value):kF (w.alloc (.cells #[x,y,z] 61)) w.heap.size x y z:=(gV w _).1
theorem kF.lt(h:kF w b x y z):b<w.heap.size:=(cu.1 h).1
theorem kF.keep(h:kF w b x y z)(hk:w'.heap[b]? = w.heap[b]?):kF w' b x y z:=by unfold kF;rw[hk];exact h
theorem kF.over(h:kF w b x y z)(hb:Below w.heap.size w w'):kF w' b x y z:=h.keep (hb.block b h.lt)
theorem kF.cells (h:kF w b x y z):w.cell? ⟨b,0,none⟩=some x∧w.cell? ⟨b,1,none⟩=some y∧w.cell? ⟨b,2,none⟩=some z :=
 ⟨by rw[cell_of_row w b 0 _ _ _ h];rfl,by rw[cell_of_row w b 1 _ _ _ h];rfl,by rw[cell_of_row w b 2 _ _ _ h];rfl⟩
structure dX (aS w:World)(B2 wb aM gl n:Nat)(sv:Value)(us:List Iv)(ls:List Int):Prop where
 fK:kF w wb sv (.slice (some ⟨aM,0,none⟩) n n) (.slice (some ⟨gl,0,none⟩) n n)
 usr:ic vV 49 w aM us
 wy:ic (bK .i64) 3 w gl ls
 each:∀u∈us,Own (bK .i64) 3 w B2 u.v u.l
 apart:∀(i j:Nat)(u t:Iv),i≠j→us[i]? = some u→us[j]? = some t→∀g,u.v.ownBlock=some g→t.v.ownBlock≠some g
 rq:Below aS.heap.size aS w
 low:aS.heap.size≤wb∧aS.heap.size≤aM∧aS.heap.size≤gl∧wb<B2∧aM<B2∧gl<B2∧wb≠aM∧wb≠gl∧aM≠gl
 size:B2≤w.heap.size
 ul:us.length=n
 wB:ls.length=n
theorem dX.next {aS:World}{us:List Iv}(h:dX aS w B2 wb aM gl n sv us ls)(hb:Below w.heap.size w w'):dX aS w' B2 wb aM gl n sv us ls :=
 ⟨h.fK.over hb,h.usr.keep (hb.block _ h.usr.lt),h.wy.keep (hb.block _ h.wy.lt),fun u hu=>(h.each u hu).below hb (aj _),h.apart,h.rq.trans (hb.mono h.rq.size),h.low,eO h.size hb.size,h.ul,h.wB⟩
theorem dX.inc {aS:World}{us:List Iv}(h:dX aS w B2 wb aM gl n sv us ls)(i:Nat)(x:Int):dX aS (w.setCell ⟨gl,i,none⟩ (.int .i64 x)) B2 wb aM gl n sv us (ls.set i x):=by
 obtain⟨h1,h2,h3,h4,h5,h6,h7,h8,h9⟩:=h.low;have hk:∀g,g≠gl→(w.setCell ⟨gl,i,none⟩ (.int .i64 x)).heap[g]? = w.heap[g]? := fun g hg=>heap_setCell_other w ⟨gl,i,none⟩ g _ hg
 exact⟨h.fK.keep (hk _ h8),h.usr.keep (hk _ h9),h.wy.AU i x _ rfl,fun u hu=>(h.each u hu).keep fun g hl _ _=>hk g (by omega),h.apart,h.rq.setCell h3 _,h.low,by rw[World.size_setCell];exact h.size,h.ul,by rw[List.length_set];exact h.wB⟩
theorem dX.push {aS:World}{us:List Iv}(h:dX aS w B2 wb aM gl n sv us ls)(k:Nat)(u t:Iv)(hk:us[k]? = some u)(ho:Own (bK .i64) 3 w' B2 t.v t.l)(hg:w.grownBy w' u.v.ownBlock)(hn:t.v.ownBlock=u.v.ownBlock∨t.v.ownBlock=some w.heap.size) :
 dX aS (w'.setCell ⟨aM,k,none⟩ t.v) B2 wb aM gl n sv (us.set k t) ls:=by
 obtain⟨h1,h2,h3,h4,h5,h6,h7,h8,h9⟩:=h.low;have hu:=h.each u (bN hk);have uO:∀g,g<B2→w'.heap[g]? = w.heap[g]? := fun g hg2=>hg.block g (fM hg2 h.size) fun e=>by have:=(hu.lies e.symm).1;omega
 have rJ:∀g,g≠aM→(w'.setCell ⟨aM,k,none⟩ t.v).heap[g]? = w'.heap[g]? := fun g hg2=>heap_setCell_other w' ⟨aM,k,none⟩ g _ hg2
 have hlt:∀(j:Nat)(x:Iv),us[j]? = some x→∀g,x.v.ownBlock=some g→g<w.heap.size:=fun j x hj g e=>by
  obtain⟨_,cur,h3⟩:=(h.each x (bN hj)).lies e;exact(cu.1 h3).1
 have hr:ic vV 49 w' aM us:=h.usr.keep (uO aM h5);refine⟨(h.fK.keep (uO wb h4)).keep (rJ wb h7),hr.AU k t _ rfl,(h.wy.keep (uO gl h6)).keep (rJ gl (Ne.symm h9)),fun x hx => ?_, ?_,(h.rq.grown hg h.rq.size (fun g e=>eO (by omega) (hu.lies e).1)).setCell h2 _,h.low,by rw[World.size_setCell];exact eO h.size hg.size,by rw[List.length_set];exact h.ul,h.wB⟩
 · obtain ⟨j,hj⟩:=List.getElem?_of_mem hx
   rw[List.getElem?_set]at hj;split at hj
   · rename_i e
     split at hj
     · rw[← dV hj]
       exact ho.keep fun g hl _ _=>rJ g (by omega)
     · cases hj
   · rename_i e
     have hx2:=h.each x (bN hj);have h1:Own (bK .i64) 3 w' B2 x.v x.l:=hx2.keep fun g _ hl eg=>hg.block g hl fun e2=>h.apart k j u x e hk hj g e2.symm eg
     exact h1.keep fun g hl _ _=>rJ g (by omega)
 · intro i j x y hij hi hj g hx hy
   rw[List.getElem?_set]at hi hj;split at hi
   · rename_i e
     split at hi
     · rw [← dV hi]at hx
       split at hj
       · rename_i e2;omega
       · rename_i e2
         rcases hn with hn|hn
         · exact h.apart k j u y e2 hk hj g (by rw[← hn];exact hx) hy
         · rw[hn]at hx
           have:=hlt j y hj g hy;injection hx with hx;omega
     · cases hi
   · rename_i e
     split at hj
     · rename_i e2
       split at hj
       · rw [← dV hj]at hy
         rcases hn with hn|hn
         · exact h.apart k i u x e hk hi g (by rw[← hn];exact hy) hx
         · rw[hn]at hy
           have:=hlt i x hi g hx;injection hy with hy;omega
       · cases hj
     · exact h.apart i j x y hij hi hj g hx hy
theorem XP (n:Nat)(hn:n≤1000000)(w:World):(Instr.makeSlice 49 (.int .i64 (n:Int)) (.int .i64 (n:Int))).run Tryz.prog w = .ok (.slice (some ⟨w.heap.size,0,none⟩) n n) (w.alloc (.cells (madeCells #[.int .i64 0] n) 3)) :=
 run_make_row' 49 3 (.int .i64 0) 8 Tryz.underlying49 (by kernel_rfl) rfl .i64 .i64 n (by omega) (by omega) w
theorem XQ (n:Nat)(hn:n≤1000000)(w:World):(Instr.makeSlice 59 (.int .i64 (n:Int)) (.int .i64 (n:Int))).run Tryz.prog w = .ok (.slice (some ⟨w.heap.size,0,none⟩) n n) (w.alloc (.cells (madeCells #[.slice none 0 0] n) 49)) :=
 run_make_row' 59 49 (.slice none 0 0) 24 Tryz.underlying59 (by kernel_rfl) rfl .i64 .i64 n (by omega) (by omega) w
theorem Cy (l:List Iv):vV.all l=l.map Iv.v:=by
 induction l with
 | nil=>rfl
 | cons a t ih=>show a.v :: vV.all t=_;rw[ih];rfl
theorem KC (v:Value)(n:Nat):madeCells #[v] n=(List.replicate n v).toArray:=by
 apply Array.ext
 · simp[madeCells]
 · intro i h1 h2;simp[madeCells,Nat.mod_one]
def wD:Iv:=⟨none,0,[]⟩
theorem Kz (w:World)(n:Nat):ic (bK .i64) 3 (w.alloc (.cells (madeCells #[.int .i64 0] n) 3)) w.heap.size (List.replicate n 0):=by
 unfold ic;rw[(gV w (.cells (madeCells #[.int .i64 0] n) 3)).1,KC,uF,List.map_replicate]
theorem KA (w:World)(n:Nat):ic vV 49 (w.alloc (.cells (madeCells #[.slice none 0 0] n) 49)) w.heap.size (List.replicate n wD):=by
 unfold ic;rw[(gV w (.cells (madeCells #[.slice none 0 0] n) 49)).1,KC,Cy,List.map_replicate];rfl
theorem fA.RS {z lo:Nat}{nm:ByteArray}{c:Int}{u:Value}{st:List aG}(h:fA w z nm c u)(ho:Own fH 23 w lo sv st)(hg:w.grownBy w' sv.ownBlock):fA w' z nm c u:=by
 unfold fA
 rw [hg.block z h.lt (fun e=>by
  obtain⟨_,cur,h2⟩:=ho.lies e.symm;rw[show w.heap[z]? = _ from h]at h2;injection h2 with h2;injection h2 with _ h2;exact absurd h2 (by decide))]
 exact h
def rE(f:ByteArray→Bool)(nm:ByteArray)(i:Nat)(l:List ByteArray)(j:Nat):List aG:=((List.range j).filter fun c=>f (l.getD c ⟨#[]⟩)).map fun c=>⟨nm,i,c⟩
def nW(f:ByteArray→Bool)(s:aU)(i:Nat):List aG:=(List.range i).flatMap fun r=>rE f s.nm r ((s.rows.map (·.l)).getD r []) ((s.rows.map (·.l)).getD r []).length
def nX(f:ByteArray→Bool)(av:List aU):List aG:=av.flatMap fun s=>nW f s s.rows.length
theorem Rf (f:ByteArray→Bool)(nm:ByteArray)(i:Nat)(l:List ByteArray)(j:Nat)(x:ByteArray)(hx:l[j]? = some x):rE f nm i l (j+1)=rE f nm i l j++(if f x=true then [⟨nm,i,j⟩]else []):=by
 unfold rE;rw[List.range_succ,List.filter_append,gW];congr 1;have hg:l.getD j ⟨#[]⟩=x:=by rw[iM,hx];rfl
 by_cases h:f x=true
 · rw[ah h,List.filter_cons];simp only[hg,h,if_true,List.filter_nil,fP,List.map_nil]
 · rw[af h,List.filter_cons];simp only[hg,eq_false_of_ne_true h,Bool.false_eq_true,if_false,List.filter_nil,List.map_nil]
theorem IQ (f:ByteArray→Bool)(s:aU)(i:Nat)(r:iO)(hr:s.rows[i]? = some r):nW f s i++rE f s.nm i r.l r.l.length=nW f s (i+1):=by
 unfold nW;rw[List.range_succ,List.flatMap_append,fD,List.flatMap_nil,bE];have hg:(s.rows.map (·.l)).getD i []=r.l:=by rw[iM,List.getElem?_map,hr];rfl
 rw[hg]
theorem IV (f:ByteArray→Bool)(av:List aU)(i:Nat)(s:aU)(hs:av[i]? = some s):nX f (av.take i)++nW f s s.rows.length=nX f (av.take (i+1)):=by
 unfold nX;rw[List.take_add_one,hs,List.flatMap_append];congr 1;show _=List.flatMap _ [s];rw[fD,List.flatMap_nil,bE]
theorem IP (f:ByteArray→Bool)(nm:ByteArray)(i:Nat)(l:List ByteArray)(j:Nat):(rE f nm i l j).length≤j:=by
 unfold rE;rw[dQ];have h:=List.length_filter_le (fun c:Nat=>f (l.getD c ⟨#[]⟩)) (List.range j);rw[List.length_range]at h;exact h
theorem C8 (f:ByteArray→Bool)(s:aU)(hc:∀r∈s.rows,r.l.length≤100):∀i,i≤s.rows.length→(nW f s i).length≤i*100
 | 0,_=>by simp[nW]
 | i+1,hi=>by
   obtain⟨r,hr⟩:∃r,s.rows[i]? = some r:=⟨_,aX (by omega)⟩;rw[← IQ f s i r hr,ax];have h1:=C8 f s hc i (by omega);have h2:=IP f s.nm i r.l r.l.length;have h3:=hc r (bN hr);omega
theorem IU (f:ByteArray→Bool)(av:List aU)(h:∀s∈av,s.rows.length≤100∧∀r∈s.rows,r.l.length≤100):∀i,i≤av.length→(nX f (av.take i)).length≤i*10000
 | 0,_=>by simp[nX]
 | i+1,hi=>by
   obtain⟨s,hs⟩:∃s,av[i]? = some s:=⟨_,aX (by omega)⟩;rw[← IV f av i s hs,ax];have h1:=IU f av h i (by omega);obtain⟨h2,h3⟩:=h s (bN hs);have h4:=C8 f s h3 s.rows.length (aj _);omega
def Bl(f:ByteArray→Bool)(w:World)(av:List aU):Prop:=∀s∈av,∀r∈s.rows,∀x∈r.l,∀w1,Below w.heap.size w w1→Calls Tryz.prog 32 #[.string x] w1 fun e w'=>(∃v,e = .returned (.tuple #[v,.bool (f x)]))∧Below w1.heap.size w1 w'
theorem RB (w:World)(A:Option Addr)(n cap:Nat)(av:List aU)(f:ByteArray→Bool)(h:fQ w w.heap.size (.slice A n cap) av)(hn:n≤10)(hsz:∀s∈av,s.rows.length≤100∧∀r∈s.rows,r.l.length≤100)(hF:Bl f w av) :
 Calls Tryz.prog 23 #[.agg #[.slice A n cap]] w fun e w'=>Below w.heap.size w w'∧∃v,e = .returned v∧Own fH 23 w' w.heap.size v (nX f av):=by
 have HB:=ae (sN w (.slice A n cap));have HA:=ae (gy.new w (.slice A n cap));have HX:=ae (h.lift HB.o);have HL:=ae h.1.len.1;have nO:=ae hsz;have HF:=ae hF;clear h hsz hF;go_enter Tryz.func23,Tryz.ntmps23;go_upto_region 1 with (fail)
 obtain⟨w1,hw1⟩:∃w1,w.alloc (.cells #[.slice A n cap] 37)=w1:=⟨_,rfl⟩;rw[hw1]at HB HA HX ⊢;clear hw1;have b0:=HA.o.cell;go_upto_region 3 with (fail)
 clear b0
 go_loopw [3,15] (fun jN iv wr=>∃(i:Nat)(v:Value),i≤n∧v=jN∧iv = .int .i64 (i:Int)∧Hid (Own fH 23 wr w1.heap.size v (nX f (av.take i)))∧Hid (Below w1.heap.size w1 wr))
  (fun _ iv _=>n - (intOf iv).toNat)
 case atStart=>exact⟨0,_,bA _,rfl,rfl,ae (Own.nil _ _ _ _),ae (ak _ _)⟩
 case round =>
  obtain⟨i,v,hi,rfl,rfl,HO,HR⟩:=hrel;by_cases hlt:i<n
  · have hii : (i:Int)<(n:Int):=by omega
    have hi0:(0:Int)≤(i:Int):=by omega
    obtain⟨s,hs⟩:∃s,av[i]? = some s:=⟨_,aX (by rw[HL.o];exact hlt)⟩;obtain⟨pb,po,Ja,hpb,e0,e1,e2,jJ⟩:=vv HX.o hs;have hms:=bN hs;obtain⟨hR,hC⟩:=nO.o s hms;have dS:=ae (IV f av i s hs);have nL:=ae (IU f av nO.o i (by rw[HL.o];omega));have zm:=ae (C8 f s hC);obtain⟨R,hRR⟩:∃R,s.rows.length=R:=⟨_,rfl⟩;rw[hRR]at e2 hR jJ dS zm;have HRR:=ae hRR;have uA:=ae jJ;have x0:=(HR.o.cell (p:=⟨pb,po+i*3,none⟩) hpb).trans e0;have x1:=(HR.o.cell (p:=⟨pb,po+i*3+1,none⟩) hpb).trans e1;have x2:=(HR.o.cell (p:=⟨pb,po+i*3+2,none⟩) hpb).trans e2;have HB3:=ae (HR.o.trans ((sO wr s.nm s.bB (.slice s.A R s.cap)).mono HR.o.size));have sF:=ae (fA.new wr s.nm s.bB (.slice s.A R s.cap));have bF:=ae (HO.o.below (sO wr s.nm s.bB (.slice s.A R s.cap)) (aj _));have HM:=ae hms;have HC:=ae hC;rw[Ja];clear hs e0 e1 e2 jJ hpb hms hC hRR Ja;go_upto_region 5 with (fail)
    clear x0 x1 x2;generalize hz:wr.heap.size=z at sF ⊢;obtain⟨w3,hw3⟩:∃w3,wr.alloc (.cells #[.string s.nm,.int .i64 s.bB,.slice s.A R s.cap] 29)=w3:=⟨_,rfl⟩;rw[hw3]at HB3 sF bF ⊢;clear hw3 hz HO HR;obtain⟨y0,y1,y2⟩:=sF.o.cells;go_wp2_with fail
    clear y0 y1 y2
    go_loopw [3,22] (fun jN rv wx=>∃(r:Nat)(v:Value),r≤R∧v=jN∧rv = .int .i64 (r:Int)∧Hid (Own fH 23 wx w1.heap.size v (nX f (av.take i)++nW f s r))∧Hid (fA wx z s.nm s.bB (.slice s.A R s.cap))∧Hid (Below w1.heap.size w1 wx))
     (fun _ rv _=>R - (intOf rv).toNat)
    case atStart=>exact⟨0,_,bA _,rfl,rfl,ae (by simpa [nW]using bF.o),sF,HB3⟩
    case round =>
     clear bF sF HB3;obtain⟨r,v,hr,rfl,rfl,HO,HS,HR⟩:=hrel;by_cases hrt:r<R
     · have uR:(r:Int)<(R:Int):=by omega
       have hr0:(0:Int)≤(r:Int):=by omega
       obtain⟨rv,ky⟩:∃rv,s.rows[r]? = some rv:=⟨_,aX (by rw[HRR.o];exact hrt)⟩;obtain⟨nu,ny,hA2,lN,f0,hse⟩:=yC uA.o ky;have hmr:=bN ky;have Dl:=HC.o rv hmr;have Gc:=ae (IQ f s r rv ky);obtain⟨C,vX⟩:∃C,rv.l.length=C:=⟨_,rfl⟩;rw[vX]at f0 Dl hse Gc;have Bu:=ae vX;have xw:=ae hse;have NS:=ae hmr;have f1:=(HR.o.cell (p:=⟨nu,ny+r,none⟩) lN).trans f0;have xu:=ae (zm.o r (by omega));rw[hA2];have HA2:=ae hA2;clear ky hA2 lN f0 hse hmr vX;go_wp2_with fail
       clear f1
       go_loopw [3,29] (fun jN cv Fz=>∃(j:Nat)(v:Value),j≤C∧v=jN∧cv = .int .i64 (j:Int)∧Hid (Own fH 23 Fz w1.heap.size v (nX f (av.take i)++nW f s r++rE f s.nm r rv.l j))∧Hid (fA Fz z s.nm s.bB (.slice s.A R s.cap))∧Hid (Below w1.heap.size w1 Fz))
        (fun _ cv _=>C - (intOf cv).toNat)
       case atStart=>exact⟨0,_,bA _,rfl,rfl,ae (by simpa [rE]using HO.o),HS,HR⟩
       case round =>
        clear HO HS HR;obtain⟨j,v,hj,rfl,rfl,HO,HS,HR⟩:=hrel;by_cases hjt:j<C
        · have hji:(j:Int)<(C:Int):=by omega
          have hj0:(0:Int)≤(j:Int):=by omega
          obtain⟨x,hx⟩:∃x,rv.l[j]? = some x:=⟨_,aX (by rw[Bu.o];exact hjt)⟩;obtain⟨tb,Zd,hA3,htb,g0⟩:=Be xw.o hx;have g1:=(HR.o.cell (p:=⟨tb,Zd+j,none⟩) htb).trans g0;have kP:=ae (Rf f s.nm r rv.l j x hx);have Gm:=ae (IP f s.nm r rv.l j);obtain⟨q,hq⟩:∃q,f x=q:=⟨_,rfl⟩;have hf:=HF.o s HM.o rv NS.o x (bN hx) wr (HB.o.trans (HR.o.mono HB.o.size));rw[hq]at hf kP;have FV:=ae hf;rw[hA3];clear hf hq hx g0 hA3 htb;cases q with
          | true =>
            rw[ah rfl]at kP
            go_wp2_with (first
             | (go_at_call 32;((with_reducible refine FV.o.mono ?_);rintro e w4 ⟨⟨fv,rfl⟩,h1⟩;have HR4:=ae (HR.o.trans (h1.mono HR.o.size));have fq:=ae (HO.o.below h1 (aj _));have zq:=ae (HS.o.over h1);obtain⟨y0,y1,y2⟩:=zq.o.cells;clear h1 g1))
             | (at_builtin;refine Fw Elem.AY fH rfl (.tmp 40) (.tmp 46) rfl w1.heap.size v _ rfl (fq.o.below ((ak w4.heap.size w4).alloc (aj _) (.cells #[.string s.nm,.int .i64 (r:Int),.int .i64 (j:Int)] 23)) (aj _)) ⟨_,0,none⟩ 1 1 [⟨s.nm,r,j⟩] rfl rfl ?_ ?_ ?_ ?_ ?_;exact iH _ _ _ rfl;(have h1:=nL.o;have h2:=xu.o;have h3:=Gm.o;rw[ax,ax];omega);(have h1:=nL.o;have h2:=xu.o;have h3:=Gm.o;rw[ax,ax];unfold maxLen;omega);(have h1:=HR4.o.size;rw[iC];omega);intro v5 w5 h1 h2 _;have iU:=ae h1;have xc:=ae h2;clear h1 h2))
            have dz:=ae ((ak w4.heap.size w4).alloc (aj _) (.cells #[.string s.nm,.int .i64 (r:Int),.int .i64 (j:Int)] 23));have gY:=ae (fq.o.below dz.o (aj _));have Gp:=ae ((zq.o.over dz.o).RS gY.o xc.o);have oU:=HR4.o.trans (dz.o.mono HR4.o.size);have qh:=ae (oU.grown xc.o oU.size (fun g e=>(gY.o.lies e).1))
            go_roundw
            case rel=>exact⟨j+1,_,by omega,rfl,by go_num,ae (by rw[kP.o, ← bD];exact iU.o),Gp,qh⟩
            case measure=>simp[intOf];omega
          | false =>
            rw[af (by decide),bE]at kP;go_wp2_with (go_at_call 32;((with_reducible refine FV.o.mono ?_);rintro e w4 ⟨⟨fv,rfl⟩,h1⟩;have HR4:=ae (HR.o.trans (h1.mono HR.o.size));have fq:=ae (HO.o.below h1 (aj _));have zq:=ae (HS.o.over h1);clear h1 g1))
            go_roundw
            case rel=>exact⟨j+1,_,by omega,rfl,by go_num,ae (by rw[kP.o];exact fq.o),zq,HR4⟩
            case measure=>simp[intOf];omega
        · have hji:¬ (j:Int)<(C:Int):=by omega
          have Dv:j=C:=by omega
          subst Dv;go_wp2_with fail
          go_roundw
          case rel=>exact⟨r+1,_,by omega,rfl,by go_num,ae (by rw[← Gc.o, ← bD];exact HO.o),(by rw[← HA2.o];exact HS),HR⟩
          case measure=>simp[intOf];omega
     · have uR:¬ (r:Int)<(R:Int):=by omega
       have SX:r=R:=by omega
       subst SX;go_wp2_with fail
       go_roundw
       case rel=>exact⟨i+1,_,by omega,rfl,by go_num,ae (by rw[← dS.o];exact HO.o),HR⟩
       case measure=>simp[intOf];omega
  · have hii:¬ (i:Int)<(n:Int):=by omega
    have HE:=ae (show av.take i=av from mM (by rw[HL.o];omega));go_wp2_with fail
    go_ret;exact⟨HB.o.trans (HR.o.mono HB.o.size),_,rfl,by have h:=HO.o;rw[HE.o]at h;exact h.mono HB.o.size⟩
theorem hP {P:Program}{md:Region.Mode}{ops:Array Oper}{Q:Exit→Act→World→Prop}{S:World→Prop}(i j:Nat){oi oj:Oper}{d e:Option Tmp}{fuel:Nat}{listed l1 l2:Array Bool}{a:Act}
 (h:∀K:Act→World→Prop,Shut (∀v w,S w→wpAnyH P md ops Q S fuel l1 (a.put d v) w→K (a.put d v) w)→Oper.wp P oi a w K Q) (h':∀K:Act→World→Prop,Shut (∀v w,S w→wpAnyH P md ops Q S fuel l2 (a.put e v) w→K (a.put e v) w)→Oper.wp P oj a w K Q)
 (hi:ops[i]? = some oi:=by(first|(simp only[gA,gS,ku];done)|(simp only[gA,gS,ku];rfl))) (hj:ops[j]? = some oj:=by(first|(simp only[gA,gS,ku];done)|(simp only[gA,gS,ku];rfl)))
 (hd:oi.dst=d:=by(first|(dsimp only;done)|(dsimp only;rfl)|rfl)) (he:oj.dst=e:=by(first|(dsimp only;done)|(dsimp only;rfl)|rfl)) (hr:Region.ready md ops listed=[i,j]:=by kernel_rfl)
 (hl:listed.setIfInBounds i true=l1:=by(simp only[sT,dn,dm];rfl)) (hl':listed.setIfInBounds j true=l2:=by(simp only[sT,dn,dm];rfl)) (hw:Region.wanted oi (yielded ops a.tmps)=true:=by rfl) (hw':Region.wanted oj (yielded ops a.tmps)=true:=by rfl):wpAnyH P md ops Q S (fuel+1) listed a w:=by
 subst hd;subst he;subst hl;subst hl';refine wpAnyH_ready hr (by simp) (AllReadyH.cons hi (fun K hK => ?_) (AllReadyH.cons hj (fun K hK => ?_) AllReadyH.nil))
 · rw[ah hw]
   exact h K (fun v w hS hW=>hK _ _ hS (fun _=>hW))
 · rw[ah hw']
   exact h' K (fun v w hS hW=>hK _ _ hS (fun _=>hW))
end Go.Proofs.YtahjnhmidjeniaaGreatDoor
