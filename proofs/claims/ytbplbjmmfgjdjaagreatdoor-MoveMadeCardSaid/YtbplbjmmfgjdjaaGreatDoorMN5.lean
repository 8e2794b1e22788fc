import Derived.Test.YtbplbjmmfgjdjaaGreatDoorMN4
import Derived.Deep.DeepCutAuto
set_option maxRecDepth 100000
set_option maxHeartbeats 64000000
namespace Go.Proofs.YtbplbjmmfgjdjaaGreatDoor
open Go.RowKit
variable {k:Int}{xs:List Int}{N b c mb q z:Nat}{n:Nd}{tv:Value}{w w' w0 w1 w2 wa wb:World}
def KC(w:World)(b:Nat)(own:ByteArray)(mb:Nat):Prop:=w.heap[b]? = some (.cells #[.string own,.map (some mb)] 55)
theorem KC.cells{own:ByteArray}(h:KC w b own mb):w.cell? ⟨b,0,none⟩=some (.string own)∧w.cell? ⟨b,1,none⟩=some (.map (some mb)):=⟨cell_of_row w b 0 _ _ _ h,cell_of_row w b 1 _ _ _ h⟩
structure vG (w w1:World)(n:Nd)(k:Value)(own:ByteArray)(mb z:Nat):Prop where
 below:Below w.heap.size w w1
 H6:KC w1 z own mb
 dP:az w1 (z+1) n k
 res:az w1 (z+2) Nd.zero (.slice none 0 0)
 size:z+3≤w1.heap.size
 low:w.heap.size≤z
theorem aga (w:World)(n:Nd)(A:Option Addr)(m c:Nat)(own:ByteArray)(mb:Nat):∃w1,((w.alloc (.cells #[.string own,.map (some mb)] 55)).alloc (.cells (aB n (.slice A m c)) 44)).alloc (.cells qi 44)=w1∧vG w w1 n (.slice A m c) own mb w.heap.size:=by
 refine⟨_,rfl,(((ak _ w).alloc (aj _) _).alloc (by simp) _).alloc (by simp;omega) _, ?_, ?_, ?_,by simp,aj _⟩
 · exact(Below.heap_alloc _ _ _ (by simp;omega)).trans ((Below.heap_alloc _ _ _ (by simp)).trans (lu w _).1)
 · have h:=az.new (w.alloc (.cells #[.string own,.map (some mb)] 55)) n (.slice A m c)
   rw[lQ]at h;exact(Below.heap_alloc _ _ _ (by simp)).trans h
 · have h:=az.new ((w.alloc (.cells #[.string own,.map (some mb)] 55)).alloc (.cells (bA n (.slice A m c)) 44)) Nd.zero (.slice none 0 0)
   rw[lQ,lQ]at h;exact h
theorem vG.call {k:Value}{own:ByteArray}(h:vG w w1 n k own mb z)(hb:Below w1.heap.size w1 w2):vG w w2 n k own mb z:=by
 have hs:=h.size;exact⟨h.below.trans (hb.mono h.below.size),(hb.block z (by omega)).trans h.H6,h.dP.tu hb,h.res.tu hb,bN h.size hb.size,h.low⟩
theorem vG.put {n':Nd}{k k':Value}{own:ByteArray}(h:vG w w1 n k own mb z)(o:Nat)(v:Value)(he:(bA n k).setIfInBounds o v=bA n' k'):vG w (w1.setCell ⟨z+1,o,none⟩ v) n' k' own mb z :=
 ⟨h.below.setCell (bN h.low (by show z≤z+1;omega)) _,(gy _ _ _ _ (by show z≠z+1;omega)).trans h.H6,h.dP.set o v he,h.res.Ij _ _ (by show z+2≠z+1;omega),by simpa using h.size,h.low⟩
theorem vG.qc {k:Value}{own:ByteArray}(h:vG w w1 n k own mb z)(hg:w1.grownBy w2 (some (z+2))):Below w.heap.size w w2:=by
 have hb:=h.below;have hl:=h.low;exact⟨hg.os.trans hb.os,hg.tape.trans hb.tape,hg.output.trans hb.output,bN hb.size hg.size,fun k hk=>(hg.block k (eB hk hb.size) (by intro e;injection e with e;omega)).trans (hb.block k hk)⟩
theorem IK:Tryz.f23.results=#[.cell 4 44]:=by kernel_rfl
theorem uP {k:Value}(h:az w b n k)(fn:Func)(tmps:Array Value)(s:Tmp)(hf:fn.results=#[.cell s 44])(hp:tmps.getD s undef = .pointer (some ⟨b,0,none⟩)) :
 (results fn tmps).run Tryz.prog w = .ok (.agg (bA n k)) w:=results_cell_row hf tmps w b _ _ _ _ hp h Tryz.underlying44 rfl zJ
theorem PR {s:Sf}(h:(iW n s).2=true):(iW n s).1.kids=n.kids:=by
 unfold iW at h ⊢;split
 · rename_i g;rw[ag g]at h;cases h
 · split <;> rfl
theorem aij:(Tryz.prog.info? 40).map (·.size)=some 6:=by kernel_rfl
theorem Jm {o:Oper}{a:Act}{K:Act→World→Prop}{Q:Exit→Act→World→Prop}(x y:Operand)(ho:o.op = .store 40 x y)
 (g:Nat) (s0 s:aP) (hx:a.eval x = .pointer (some ⟨g,0,none⟩)) (hy:a.eval y = .agg (iQ s)) (hr:jA w g s0)
 (h:∀w',jA w' g s→w.grownBy w' (some g)→K (a.put o.dst undef) w'):Oper.wp Tryz.prog o a w K Q :=
 wp_store_row 40 x y ho g 40 _ _ hx hy hr rfl aij (aP.one s) (h _ (setRow_heap w g _ _ _ _ hr) (grownBy.I1 (grownBy.fT w _) _))
theorem zo {B:Nat}{a:World}(h:Below B a w)(hg:w.grownBy w' (some q))(hq:B≤q)(hB:B≤w.heap.size):Below B a w' :=
 ⟨hg.os.trans h.os,hg.tape.trans h.tape,hg.output.trans h.output,bN h.size hg.size,fun k hk=>(hg.block k (eB hk hB) (by intro e;injection e with e;omega)).trans (h.block k hk)⟩
def zSf:Sf:=⟨⟨#[]⟩,false,[],0,[],0⟩
def uY:aP:=⟨zSf,none,0,none,0,by decide⟩
theorem aka(w:World):(zeroValue 40).run Tryz.prog w = .ok (.agg (iQ uY)) w:=by kernel_rfl
theorem ad1 (xs:List aP)(mb:Nat)(W:ByteArray)(hW:W.size≤maxLen):∃(x:aP)(b:Bool),(∀wq,jy wq mb (rP xs)→(Instr.lookup 53 (.map (some mb)) (.string W) true).run Tryz.prog wq = .ok (.tuple #[.agg #[.string x.s.sh,.slice x.ra x.s.rx.length x.rc,.int .i64 x.s.rn,.slice x.ca x.s.cx.length x.cc,.int .i64 x.s.cn,.bool x.s.gone],.bool b]) wq)∧(b=false→zG xs W=none)∧(b=true→zG xs W=some x):=by
 cases h:zG xs W with
 | none=>exact⟨uY,false,fun wq hq=>hq.MG Tryz.underlying53 Tryz.underlying9 (aka wq) W hW (by unfold rP;rw[h];rfl),fun _=>rfl,fun e=>(by cases e)⟩
 | some x=>exact⟨x,true,fun wq hq=>hq.find Tryz.underlying53 Tryz.underlying9 W hW (.agg (iQ x)) (by unfold rP;rw[h];rfl),fun e=>(by cases e),fun _=>rfl⟩
def PI(w:World)(N:Nd)(e:Ending)(w':World):Prop:=∃K,e = .returned (.agg (bA N K))∧K.oneCell'=true∧Own (aJ .i64) 3 w' w.heap.size K N.kids∧Below w.heap.size w w'
theorem aeV (w:World)(own:ByteArray)(mb:Nat)(xs:List aP)(n:Nd)(A:Option Addr)(m c:Nat)(hM:jy w mb (rP xs))(hX:∀x∈xs,nJ w w.heap.size x)(hO:∀x∈xs,mV x.s)(ho:own.size≤maxLen)(hn:zi n)(hk:ic w w.heap.size (.slice A m c) n.kids)(hm:m≤1000000) :
 Calls Tryz.prog 23 #[.agg #[.string own,.map (some mb)],.agg (bA n (.slice A m c))] w (PI w (jD own (eH xs) n)):=by
 obtain⟨w1,hw1,hp⟩:=aga w n A m c own mb;have HP:=ae hp;have HX:=ae hX;have HO:=ae hO;have HN:=ae hn;have HM:=ae hM;have HOW:=ae ho
 have Cb:=ae (Z8 w1 A m c n.kids (by
  have hb:=hp.below;exact(hk.below hb (aj _)).mono hb.size) hm)
 obtain⟨z,hz⟩:∃z,w.heap.size=z:=⟨_,rfl⟩;have eY:=ae hz;rw[hz]at HP;clear hX hO ho hn hk hM hp hz;have x0:=HP.o.dP.cells;show Calls Tryz.prog 23 #[.agg #[.string own,.map (some mb)],.agg (aB n (.slice A m c))] w _;go_enter Tryz.func23,Tryz.ntmps23;go_upto_region 1 with (fail)
 rw[eY.o,show z+1+1=z+2 from rfl];obtain⟨x0,x1,x2,x3,x4,x5,x6,x7,av,aI,aF,aG,aH,aC⟩:=x0;go_upto_region 2 with (go_at_call 38;((with_reducible refine Cb.o.mono ?_);rintro e w2 ⟨hq,A2,c2,rfl,hs⟩;have dm:=ae (HP.o.call hq);have HS2:=ae hs;have f13:=dm.o.dP.p8 13;clear x0 x1 x2 x3 x4 x5 x6 x7 av aI aF aG aH aC hq hs;obtain⟨x0,x1,x2,x3,x4,x5,x6,x7,av,aI,aF,aG,aH,aC⟩:=dm.o.dP.cells))
 obtain⟨L,hL⟩:∃L,n.kids.length=L:=⟨_,rfl⟩;rw[hL]at HS2 ⊢;have xM:=ae hL;clear hL;have bg:=ae (dm.o.put 13 (.slice A2 L c2) (n':=n) (k' := .slice A2 L c2) rfl);have mG:=ae (show Own (aJ .i64) 3 (w2.setCell ⟨z+1,13,none⟩ (.slice A2 L c2)) w1.heap.size (.slice A2 L c2) n.kids from HS2.o.keep fun g h1 h2 _=>gy _ _ _ _ (by have:=HP.o.size;show g≠z+1;omega));clear x0 x1 x2 x3 x4 x5 x6 x7 av aI aF aG aH aC f13;obtain⟨w3,hw3⟩:∃w3,w2.setCell ⟨z+1,13,none⟩ (.slice A2 L c2)=w3:=⟨_,rfl⟩;rw[hw3]at bg mG ⊢;clear hw3;obtain⟨x0,x1,x2,x3,x4,x5,x6,x7,av,aI,aF,aG,aH,aC⟩:=bg.o.dP.cells;by_cases hno:¬ n.kind=5∧¬ n.kind=6
 · have hv:jD own (eH xs) n=n:=by unfold jD;rw[ag hno]
   have aW:=ae hv;have hk5:(n.kind != (5:Int))=true:=bne_iff_ne.2 hno.1;have pX:(n.kind != (6:Int))=true:=bne_iff_ne.2 hno.2;clear hv hno;go_wp2_with (refine lh rfl (.tmp 4) (.tmp 20) rfl (z+2) Nd.zero n (.slice none 0 0) (.slice A2 L c2) rfl rfl bg.o.res rfl ?_;intro w7 k1 k2)
   refine bodyPost_ret (uP k1 _ _ 4 IK rfl) rfl ?_;rw[aW.o];have hb:=bg.o.qc k2;have hs7:Own (aJ .i64) 3 w7 w1.heap.size (.slice A2 L c2) n.kids:=mG.o.keep fun g h1 h2 _=>k2.block g h2 (by have:=HP.o.size;intro e;injection e with e;omega)
   exact⟨_,rfl,rfl,hs7.mono HP.o.below.size,hb⟩
 have A8:(n.kind != (5:Int)&&n.kind != (6:Int))=false:=by
  cases h:(n.kind != (5:Int)&&n.kind != (6:Int))with
  | false=>rfl
  | true=>exact absurd ⟨bne_iff_ne.1 (j6.1 h).1,bne_iff_ne.1 (j6.1 h).2⟩ hno
 have hv:jD own (eH xs) n=match yl (eH xs) (oH own n)with
  | none=>n
  | some s=>if (iW n s).2=true then (iW n s).1 else oo:=by unfold jD;rw[af hno];rfl
 rw[adY]at hv;have aW:=ae hv;clear hv hno;have hb3:=bg.o.below;have uf:=ae (HM.o.below hb3 HM.o.lt);have kR:=ae (fun wq=>aeS wq own mb n)
 have OW:=ae (show(oH own n).size≤maxLen from by
  unfold oH;split
  · exact HOW.o
  · exact bN HN.o.sh (by unfold maxLen;decide))
 obtain⟨W,hW⟩:∃W,oH own n=W:=⟨_,rfl⟩;rw[hW]at aW kR OW
 have Sq:(n.kind != (5:Int))=false∨(n.kind != (5:Int))=true∧(n.kind != (6:Int))=false:=by
  cases h:(n.kind != (5:Int))with
  | false=>exact .inl rfl
  | true=>exact .inr ⟨rfl,by rw[h]at A8;exact A8⟩
 have Yz:=ae Sq;clear A8 Sq
 go_cut [19] (fun cv wx=>cv = .bool false∧w3=wx)
 case first =>
  rcases Yz.o with hs5|⟨hs5,hs6⟩
  all_goals go_wp2_with fail
  all_goals go_meet
  all_goals exact⟨rfl,rfl⟩
 case rest =>
 obtain⟨rfl,rfl⟩:=hcut;go_upto_region 4 with fail
 clear x0 x1 x2 x3 x4 x5 x6 x7 av aI aF aG aH aC;obtain⟨x,b,hlk,hlf,hlt⟩:=ad1 xs mb W OW.o;have DV:=ae hlk;have tY:=ae hlf;have OX:=ae hlt;clear hlk hlf hlt;have iT:=ae (Below.drew (ak w3.heap.size w3));have lT:=ae (fun (wq:World)(hq:Below w3.heap.size w3 wq)=>(show(fun wq=>vG w wq n (.slice A2 L c2) own mb z∧jy wq mb (rP xs)) wq from⟨bg.o.call hq,uf.o.below hq uf.o.lt⟩));have jJ:=lT.o _ iT.o
 go_cut [5,6] (fun pv bv wx=>∃(q:Nat)(dn:World),pv = .pointer (some ⟨q,0,none⟩)∧bv = .bool b∧dn=wx∧Hid (jA dn q x)∧Hid (Below w3.heap.size w3 dn))
 case first =>
  refine wp_region_held_drew (S:=(fun wq=>vG w wq n (.slice A2 L c2) own mb z∧jy wq mb (rP xs))) (by kernel_rfl) jJ (fun _ => ?_);show wpAnyH _ _ _ _ _ 13 #[false,false,false,false,false,false,false,false,false,false,false,false,false] _ _;refine hT 0 jJ ?_;refine hT 1 jJ ?_ (hy:=by(intro ig hSw;have hz:=hSw.1.H6.cells;go_simp;try(with_reducible rfl)));refine hT 2 jJ ?_ (hy:=by(intro ig hSw;have hz:=hSw.1.H6.cells;go_simp;try(with_reducible rfl)));refine hT 3 jJ ?_;refine hT 4 jJ ?_ (hy:=by(intro ig hSw;have hz:=hSw.1.dP.cells;go_simp;try(with_reducible rfl)));refine hP 5 10 (fun K hK => ?_) (fun K hK => ?_)
  · go_simp
    go_at_call 39;(with_reducible refine(kR.o _).mono ?_);rintro e w4 ⟨rfl,h1⟩;have H4:=ae (iT.o.trans (h1.mono iT.o.size));clear h1;dsimp only;have qw:=lT.o _ H4.o;refine hK.o _ _ qw ?_;clear hK K;simp only[Act.put,sT,fV,fU];refine hT 6 qw ?_ (hy:=by(intro ig hSw;have hz:=DV.o ig hSw.2;go_simp;try(with_reducible rfl)));refine hT 7 qw ?_;refine hT 8 qw ?_;refine hT 9 qw ?_;refine hO 10 (fun K hK => ?_);go_simp;have Ar:=ae (H4.o.alloc H4.o.size (.cells (iQ uY) 40));have KA:=ae (jA.new w4 uY);have J4:=ae H4.o.size;refine hK.o _ _ (lT.o _ Ar.o) ?_;clear hK K;simp only[Act.put,sT,fV,fU];refine hO 11 (fun K hK => ?_);refine Jm (.tmp 5) (.tmp 29) rfl w4.heap.size uY x rfl rfl KA.o ?_;intro w7 k1 k2;have wJ:=ae (zo Ar.o k2 J4.o Ar.o.size);have vz:=lT.o _ wJ.o;refine hK.o _ _ vz ?_;clear hK K;simp only[Act.put];refine hT 12 vz ?_;refine wpAnyH_done (by kernel_rfl) ?_ _;go_wp2_with fail
    go_meet
    case rel=>exact⟨_,_,rfl,rfl,rfl,ae k1,wJ⟩
  · go_simp
    have xW:=ae (iT.o.alloc (aj _) (.cells (iQ uY) 40));refine hK.o _ _ (lT.o _ xW.o) ?_;clear hK K;simp only[Act.put,sT,fV,fU];refine hO 5 (fun K hK => ?_);go_simp;go_at_call 39;(with_reducible refine(kR.o _).mono ?_);rintro e w5 ⟨rfl,h1⟩;have Ar:=ae (xW.o.trans (h1.mono xW.o.size));have KA:=ae ((jA.new w3.drew uY).over h1);have J4:=ae (aj w3.heap.size);clear h1;dsimp only;have Ci:=lT.o _ Ar.o;refine hK.o _ _ Ci ?_;clear hK K;simp only[Act.put,sT,fV,fU];refine hT 6 Ci ?_ (hy:=by(intro ig hSw;have hz:=DV.o ig hSw.2;go_simp;try(with_reducible rfl)));refine hT 7 Ci ?_;refine hT 8 Ci ?_;refine hT 9 Ci ?_;refine hO 11 (fun K hK => ?_);refine Jm (.tmp 5) (.tmp 29) rfl w3.heap.size uY x rfl rfl KA.o ?_;intro w7 k1 k2;have wJ:=ae (zo Ar.o k2 J4.o Ar.o.size);have vz:=lT.o _ wJ.o;refine hK.o _ _ vz ?_;clear hK K;simp only[Act.put];refine hT 12 vz ?_;refine wpAnyH_done (by kernel_rfl) ?_ _;go_wp2_with fail
    go_meet
    case rel=>exact⟨_,_,rfl,rfl,rfl,ae k1,wJ⟩
 case rest =>
 obtain⟨q,dn,rfl,rfl,rfl,YD,OE⟩:=hcut;have qZ:=ae (bg.o.call OE.o);have yw:=HP.o.size;have O8:=ae (mG.o.below OE.o (aj _));have Px:=ae (show z+2<w1.heap.size from by omega);cases b with
 | false =>
   have hv:=aW.o;rw[tY.o rfl]at hv;have F7:=ae (show jD own (eH xs) n=n from hv);clear hv;obtain⟨x0,x1,x2,x3,x4,x5,x6,x7,av,aI,aF,aG,aH,aC⟩:=qZ.o.dP.cells;go_wp2_with (refine lh rfl (.tmp 4) (.tmp 33) rfl (z+2) Nd.zero n (.slice none 0 0) (.slice A2 L c2) rfl rfl qZ.o.res rfl ?_;intro w7 k1 k2)
   refine bodyPost_ret (uP k1 _ _ 4 IK rfl) rfl ?_;rw[F7.o];have hs7:Own (aJ .i64) 3 w7 w1.heap.size (.slice A2 L c2) n.kids:=O8.o.keep fun g h1 h2 _=>k2.block g h2 (by have:=Px.o;intro e;injection e with e;omega)
   exact⟨_,rfl,rfl,hs7.mono HP.o.below.size,qZ.o.qc k2⟩
 | true =>
   have hv:=aW.o;rw[OX.o rfl]at hv;have F7:=ae (show jD own (eH xs) n=if (iW n x.s).2=true then (iW n x.s).1 else oo from hv);have bW:=adZ (OX.o rfl);clear hv;have bz:=ae (show Calls Tryz.prog 40 #[.agg (aB n (.slice A2 L c2)),.agg #[.string x.s.sh,.slice x.ra x.s.rx.length x.rc,.int .i64 x.s.rn,.slice x.ca x.s.cx.length x.cc,.int .i64 x.s.cn,.bool x.s.gone]] dn (BU dn n x.s (.slice A2 L c2))from Zd dn n A2 L c2 x ((HX.o x bW).lift qZ.o.below) (HO.o x bW) HN.o);clear bW;obtain⟨x0,x1,x2,x3,x4,x5,x6,x7,av,aI,aF,aG,aH,aC⟩:=qZ.o.dP.cells;obtain⟨y0,y1,y2,y3,y4,dH⟩:=YD.o.cells;dsimp only[aP.rv,aP.cv]at y1 y3;obtain⟨ok,hok⟩:∃ok,(iW n x.s).2=ok:=⟨_,rfl⟩;have kF:=ae hok;unfold BU at bz;rw[hok]at bz;clear hok
   go_upto_region 8 with (first
    | (go_at_call 40;((with_reducible refine bz.o.mono ?_);rintro e w8 ⟨M,K0,rfl,hM,hK1,hq⟩;have gP:=ae (qZ.o.call hq);have XZ:=ae hM;have XQ:=ae hK1;have xI:=ae hq;clear hM hK1 hq x0 x1 x2 x3 x4 x5 x6 x7 av aI aF aG aH aC y0 y1 y2 y3 y4 dH))
    | (refine lh rfl (.tmp 7) (.tmp 38) rfl w8.heap.size Nd.zero M (.slice none 0 0) K0 rfl rfl (az.new w8 Nd.zero (.slice none 0 0)) XQ.o ?_;intro iG k1 k2))
   have OD:=ae (zo ((ak w8.heap.size w8).alloc (aj _) (.cells (bA Nd.zero (.slice none 0 0)) 44)) k2 (aj _) (by simp));have mR:=ae (gP.o.call OD.o);have uh:=ae ((O8.o.below xI.o (aj _)).below OD.o (aj _));have mD:=ae k1;clear k1 k2;cases ok with
   | true =>
     obtain⟨hM1,rfl⟩:=XZ.o rfl;have iU:=ae (show M.kids=n.kids from by rw[hM1];exact PR kF.o);have FU:=ae hM1.symm;clear hM1;obtain⟨x0,x1,x2,x3,x4,x5,x6,x7,av,aI,aF,aG,aH,aC⟩:=mD.o.cells;go_wp2_with (refine lh rfl (.tmp 4) (.tmp 43) rfl (z+2) Nd.zero M (.slice none 0 0) (.slice A2 L c2) rfl rfl mR.o.res rfl ?_;intro w7 k1 k2)
     refine bodyPost_ret (uP k1 _ _ 4 IK rfl) rfl ?_;rw[F7.o,ag kF.o,FU.o];have hs7:Own (aJ .i64) 3 w7 w1.heap.size (.slice A2 L c2) n.kids:=uh.o.keep fun g h1 h2 _=>k2.block g h2 (by have:=Px.o;intro e;injection e with e;omega)
     exact⟨_,rfl,rfl,by rw[iU.o];exact hs7.mono HP.o.below.size,mR.o.qc k2⟩
   | false =>
     go_wp2_with (refine lh rfl (.tmp 4) (.tmp 42) rfl (z+2) Nd.zero oo (.slice none 0 0) (.slice none 0 0) rfl rfl mR.o.res rfl ?_;intro w7 k1 k2)
     refine bodyPost_ret (uP k1 _ _ 4 IK rfl) rfl ?_;rw[F7.o,af (by rw[kF.o];decide)];exact⟨_,rfl,rfl,Own.nil _ _ _ _,mR.o.qc k2⟩
structure kP (w1 w:World)(b:Nat)(tv:Value)(k:Int)(xs:List Int):Prop where
 cur:dI 36 w b tv k
 own:Own (aJ .i64) 3 w w1.heap.size tv xs
 gr:w1.grownBy w (some b)
 blt:b<w1.heap.size
theorem kP.nil(h:dI 36 w b (.slice none 0 0) k):kP w w b (.slice none 0 0) k []:=⟨h,Own.nil _ _ _ _,grownBy.fT _ _,h.lt⟩
theorem kP.next(h:kP w1 w b tv k xs)(hb:Below w.heap.size w w'):kP w1 w' b tv k xs:=⟨h.cur.over hb,h.own.below hb (aj _),grownBy.below' h.gr hb,h.blt⟩
theorem kP.ne (h:kP w1 w b tv k xs):Option.some b≠tv.ownBlock:=by
 intro hv;have:=(h.own.lies hv.symm).1;have:=h.blt;omega
theorem kP.AB(h:kP w1 wa b tv k xs)(hg:wa.grownBy wb tv.ownBlock):dI 36 wb b tv k:=h.cur.keep (hg.block b h.cur.lt h.ne)
theorem kP.grow (h:kP w1 wa b tv k xs)(hg:wa.grownBy wb tv.ownBlock):w1.grownBy wb (some b) :=
 ⟨hg.os.trans h.gr.os,hg.tape.trans h.gr.tape,hg.output.trans h.gr.output,bN h.gr.size hg.size,fun j hj hr=>by
  rw[hg.block j (eB hj h.gr.size) (fun e=>by have:=(h.own.lies e.symm).1;omega)];exact h.gr.block j hj hr⟩
theorem kP.push {v':Value}{ys:List Int}(h:kP w1 wa b tv k xs)(ho:Own (aJ .i64) 3 wb w1.heap.size v' ys)(hg:wa.grownBy wb tv.ownBlock):kP w1 (wb.setCell ⟨b,0,none⟩ v') b v' k ys :=
 ⟨(h.AB hg).U2 v',ho.keep (fun g h1 _ _=>heap_setCell_other wb _ g _ (by show g≠b;have:=h.blt;omega)),grownBy.gU (h.grow hg) 0 v',h.blt⟩
theorem kP.IZ (h:kP w1 w b tv k xs)(m:Int):kP w1 (w.setCell ⟨b,1,none⟩ (.int .i64 m)) b tv m xs :=
 ⟨h.cur.CZ m,h.own.keep (fun g h1 _ _=>heap_setCell_other w _ g _ (by show g≠b;have:=h.blt;omega)),grownBy.gU h.gr 1 _,h.blt⟩
theorem kP.other (h:kP w1 w b tv k xs){t:TypeId}{v:Value}{m:Int}(hp:dI t w1 c v m)(hne:c≠b):dI t w c v m :=
 hp.keep (h.gr.block c hp.lt (fun e=>hne (dM e)))
theorem kP.dC {B:Nat}(h:kP w1 w b tv k xs)(hb:Below B w0 w1)(hB:B≤b)(hw:B≤w1.heap.size):Below B w0 w :=
 hb.grown h.gr hw (fun g e=>by have:=dM e;omega)
theorem Xd (t:TypeId)(w:World)(u v:Value)(m n:Int):∃w3,(w.alloc (.cells #[u,.int .i64 m] t)).alloc (.cells #[v,.int .i64 n] t)=w3∧Below w.heap.size w w3∧dI t w3 w.heap.size u m∧dI t w3 (w.heap.size+1) v n∧w3.heap.size=w.heap.size+2:=by
 have s1:=lQ w (.cells #[u,.int .i64 m] t);have s2:=lQ (w.alloc (.cells #[u,.int .i64 m] t)) (.cells #[v,.int .i64 n] t);have b1:=sQ t w u m;have b2:=sQ t (w.alloc (.cells #[u,.int .i64 m] t)) v n;have p1:=dI.new t w u m;have p2:=dI.new t (w.alloc (.cells #[u,.int .i64 m] t)) v n;rw[s1]at p2;exact⟨_,rfl,b1.trans (b2.mono b1.size),p1.over b2,p2,by omega⟩
theorem ahI (n i:Nat)(h:i<n):(kL n).take i++[(i:Int)]=(kL n).take (i+1):=by
 unfold kL;rw[List.take_add_one,gY,List.getElem?_range h];rfl
theorem ag9:Tryz.f14.results=#[.cell 2 36]:=by kernel_rfl
def Ei(w w':World)(xs:List Int)(nw:Int)(e:Ending):Prop:=∃v,e = .returned (.agg #[v,.int .i64 nw])∧Own (aJ .i64) 3 w' w.heap.size v xs∧Below w.heap.size w w'
theorem NC (w:World)(n:Int):Calls Tryz.prog 14 #[.int .i64 n] w fun e w'=>Ei w w' (kL (jg n)) (jg n:Int) e:=by
 have hle:=KU n;have hci:=Z9 n;obtain⟨N,hN⟩:∃N,jg n=N:=⟨_,rfl⟩;rw[hN]at hle hci ⊢;obtain⟨w2,hw2,hb,hp1,hp2,hsz⟩:=Xd 36 w (.slice none 0 0) (.slice none 0 0) 0 (N:Int);have HB:=ae hb;have bK:=ae hp1;have mU:=ae hsz;have HI:=ae (kP.nil hp2);have JA:=ae hci;clear hb hp1 hp2 hsz hN hci;go_enter Tryz.func14,Tryz.ntmps14;go_upto_region 1 with (fail)
 obtain⟨w0,hw0⟩:∃w0,w.alloc (.cells #[.slice none 0 0,.int .i64 0] 36)=w0:=⟨_,rfl⟩;have hz0:w0.heap.size=w.heap.size+1:=by rw[← hw0];exact lQ _ _
 have HZ0:=ae hz0;clear hz0;rw[hw0]at hw2 ⊢
 go_cut [3]from 6 to 8 (fun v wx=>∃(dn:World),v = .int .i64 (N:Int)∧dn=wx∧dn=w0)
 case first =>
  by_cases h1:n<0
  · have h2:¬ (1048576:Int)<n:=by omega
    go_wp2_with fail
    go_meet
    case rel=>exact⟨_,(show Value.int .i64 _=Value.int .i64 _ from congrArg _ (by have:=JA.o;omega)),rfl,rfl⟩
  · by_cases h2:(1048576:Int)<n
    · go_wp2_with fail
      go_meet
      case rel=>exact⟨_,(show Value.int .i64 _=Value.int .i64 _ from congrArg _ (by have:=JA.o;omega)),rfl,rfl⟩
    · go_wp2_with fail
      all_goals go_meet
      all_goals exact⟨_,(show Value.int .i64 _=Value.int .i64 _ from congrArg _ (by have:=JA.o;omega)),rfl,rfl⟩
 case rest =>
  obtain⟨dn,rfl,rfl,hw⟩:=hcut;have hw:=hw.symm;subst hw;clear hw0;go_upto_region 4 with (fail)
  clear hw2;rw[HZ0.o]
  go_loopw [5] (fun iv wr=>∃(i:Nat)(A1:Option Addr)(c1:Nat),i≤N∧iv = .int .i64 (i:Int)∧Hid (kP w2 wr (w.heap.size+1) (.slice A1 i c1) (N:Int) ((kL N).take i)))
   (fun iv _=>N - (intOf iv).toNat)
  case atStart=>exact⟨0,none,0,ek _,rfl,HI⟩
  case round =>
   obtain⟨i,A1,c1,hi,rfl,HA⟩:=hrel;have Ap:=ae (show((kL N).take i).length=i from by rw[gW,CR];omega);obtain⟨x0,x1⟩:=HA.o.cur.cells;by_cases hlt:i<N
   · have hii:(i:Int)<(N:Int):=by omega
     have HN:=ae (ahI N i hlt);have hln:w.heap.size+1<wr.heap.size:=HA.o.cur.lt;have ma:=ae ((ak wr.heap.size wr).alloc (aj _) (.cells #[.int .i64 (i:Int)] 3));have qV:=ae (HA.o.next ma.o);go_wp2_with (at_builtin;refine xG Elem.pl (aJ .i64) rfl (.tmp 17) (.tmp 19) rfl w2.heap.size _ ((kL N).take i) rfl qV.o.own ⟨_,0,none⟩ 1 1 [(i:Int)] rfl rfl ?_ ?_ ?_ ?_ ?_;exact gD _ _ _ rfl;(rw[Ap.o];omega);(rw[Ap.o];unfold maxLen;omega);(have h1:=ma.o.size;have h2:=HA.o.gr.size;omega);intro v5 w5 h1 h2 _;obtain⟨A5,c5,hv5⟩:=tC h1;simp only[ax,fo,Ap.o]at hv5;subst hv5;have mQ:=ae h1;have DN:=ae h2;obtain⟨m0,m1⟩:=(qV.o.AB h2).bR;obtain⟨z0,z1⟩:=(qV.o.AB h2).cells;clear h1 h2)
     clear m0 m1 z0 z1 x0 x1
     go_roundw
     case rel=>exact⟨i+1,A5,c5,by omega,by go_num,ae (by have h1:=mQ.o;rw[HN.o]at h1;exact qV.o.push h1 DN.o)⟩
     case measure=>simp[intOf];omega
   · have hii:¬ (i:Int)<(N:Int):=by omega
     have hin:i=N:=by omega
     subst hin;have HP:=ae (HA.o.other bK.o (by omega));obtain⟨y0,y1⟩:=HP.o.cells;obtain⟨m0,m1⟩:=HP.o.bR;go_wp2_with fail
     have LA:(kL i).take i=kL i:=mP (by rw[CR];exact aj _);have ho:=HA.o.own;rw[LA,mU.o]at ho;refine bodyPost_ret (EZ (HP.o.qK (.slice A1 i c1) (i:Int)) _ _ 2 ag9 rfl) rfl ⟨_,rfl, ?_,El (HA.o.dC HB.o (by omega) (by have:=mU.o;omega)) (aj _) _ _⟩;exact(ho.keep (fun g h1 _ _=>Ex _ _ _ _ _ (by omega))).mono (by omega)
theorem ag3:Tryz.f16.results=#[.cell 2 36]:=by kernel_rfl
theorem aei (ns:List Int)(i:Nat)(hi:i≤ns.length):Ec (ng (ns.take i)) i:=by
 have h:=TN (ns.take i);rwa[gW,Nat.min_eq_left hi]at h
theorem aek (w:World)(A:Option Addr)(n cap:Nat)(ns:List Int)(hs:S8 w w.heap.size A n cap ns)(hn:n≤100) :
 Calls Tryz.prog 16 #[.slice A n cap] w fun e w'=>Ei w w' (ng ns).1 (ng ns).2 e:=by
 obtain⟨w2,hw2,hb,hp1,hp2,hsz⟩:=Xd 36 w (.slice none 0 0) (.slice none 0 0) 0 0;have HB:=ae hb;have bK:=ae hp1;have mU:=ae hsz;have HI:=ae (kP.nil hp2);have HS:=ae hs;clear hs hb hp1 hp2 hsz;go_enter Tryz.func16,Tryz.ntmps16;go_upto_region 2 with (fail)
 clear hw2;go_upto_region 3 with (fail)
 go_loopw [4] (fun iv wr=>∃(i:Nat)(A1:Option Addr)(k1 c1:Nat)(nw:Int),i≤n∧iv = .int .i64 (i:Int)∧Hid (k1=(ng (ns.take i)).1.length)∧Hid (nw=(ng (ns.take i)).2)∧Hid (kP w2 wr (w.heap.size+1) (.slice A1 k1 c1) nw (ng (ns.take i)).1))
  (fun iv _=>n - (intOf iv).toNat)
 case atStart=>exact⟨0,none,0,0,0,ek _,rfl,ae rfl,ae rfl,HI⟩
 case round =>
  obtain⟨i,A1,k1,c1,nw,hi,rfl,jH,wM,HA⟩:=hrel;by_cases hlt:i<n
  · have hii:(i:Int)<(n:Int):=by omega
    have hi0:(0:Int)≤(i:Int):=by omega
    have hls:i<ns.length:=by rw[HS.o.hlen];exact hlt
    obtain⟨pb,po,rfl,hpb,hcell⟩:=HS.o.at_.resolve_left (by omega);have hbx:=HS.o.bytes.get i;have OQ:=ae (getD_some ns i hls);obtain⟨x,hx⟩:∃x:Nat,ns.getD i 0=(x:Int):=⟨(ns.getD i 0).toNat,by omega⟩;have hc1:=hcell i hlt;rw[hx]at hc1 hbx OQ;have iT:=ae (aei ns i (by omega));have iU:=ae (TP ns i (x:Int) OQ.o);have hpw:pb<w.heap.size+1:=by omega
    have YN:=ae (HA.o.dC HB.o (by omega) (by have:=mU.o;omega));have y0:=(YN.o.cell (p:=⟨pb,po+i,none⟩) hpb).trans hc1;have hk1:k1≤100:=by have h1:=iT.o.len;have h2:=jH.o;omega
    have hnw:0≤nw∧nw≤300:=by have h1:=iT.o.low;have h2:=iT.o.high;have h3:=wM.o;omega
    have hxb:x≤255:=by omega
    obtain⟨obj,LK⟩:∃l,(ng (ns.take i)).1=l:=⟨_,rfl⟩;have JX:=ae LK;rw[LK]at HA jH;have tZ:=ae jH.o.symm;obtain⟨z0,z1⟩:=HA.o.cur.cells;obtain⟨m0,m1⟩:=HA.o.cur.bR;obtain⟨r,hr⟩:∃r,x % 4=r:=⟨_,rfl⟩;have q4:(x:Int) % 4=(r:Int):=by omega
    have t4:(x:Int).tmod 4=(r:Int):=by rw[ql (by omega)];exact q4
    have w4:IntKind.i64.wrap (r:Int)=(r:Int):=by rw[gJ];omega
    have hr4:r<4:=by omega
    have HR:=ae hr;clear hcell hc1 hx LK hbx hr;by_cases c0:r=0
    · have d0:((r:Int) == 0)=true:=by rw[c0];rfl
      have ve:=ae (show(ng (ns.take (i+1)))=(obj++[-1],nw)from by
       rw[iU.o];unfold Bt;rw[ag (by have:=HR.o;omega),JX.o,wM.o])
      have ma:=ae ((ak wr.heap.size wr).alloc (aj _) (.cells #[.int .i64 (-1)] 3));have qV:=ae (HA.o.next ma.o);clear c0 m0 m1 z1;go_wp2_with (at_builtin;refine xG Elem.pl (aJ .i64) rfl (.tmp 33) (.tmp 34) rfl w2.heap.size _ obj rfl qV.o.own ⟨_,0,none⟩ 1 1 [-1] rfl rfl ?_ ?_ ?_ ?_ ?_;exact gD _ _ _ rfl;(rw[tZ.o];omega);(rw[tZ.o];unfold maxLen;omega);(have h1:=ma.o.size;have h2:=HA.o.gr.size;omega);intro v5 w5 h1 h2 _;obtain⟨A5,c5,hv5⟩:=tC h1;simp only[ax,fo,tZ.o]at hv5;subst hv5;have mQ:=ae h1;have DN:=ae h2;obtain⟨m0,m1⟩:=(qV.o.AB h2).bR;obtain⟨v0,v1⟩:=(qV.o.AB h2).cells;clear h1 h2)
      clear m0 m1 v0 v1 z0 y0
      go_roundw
      case rel=>exact⟨i+1,A5,k1+1,c5,nw,by omega,by go_num,ae (by rw[ve.o,ax,tZ.o];rfl),ae (by rw[ve.o]),ae (by rw[ve.o];exact qV.o.push mQ.o DN.o)⟩
      case measure=>simp[intOf];omega
    · have d0:((r:Int) == 0)=false:=by rw[aA];omega
      by_cases c1':r=1
      · have d1:((r:Int) == 1)=true:=by rw[c1'];rfl
        obtain⟨q,hq⟩:∃q,x / 4=q:=⟨_,rfl⟩;have a1:(x:Int).tdiv 4=(q:Int):=by rw[Int.tdiv_eq_ediv_of_nonneg (by omega)];omega
        have a2:(x:Int) / 4=(q:Int):=by omega
        have a3:IntKind.i64.wrap (q:Int)=(q:Int):=by rw[gJ];omega
        obtain⟨p,hp⟩:∃p,q % 3=p:=⟨_,rfl⟩;have b1:(q:Int) % 3=(p:Int):=by omega
        have b2:(q:Int).tmod 3=(p:Int):=by rw[ql (by omega)];exact b1
        have b3:IntKind.i64.wrap (p:Int)=(p:Int):=by rw[gJ];omega
        have hp3:p<3:=by omega
        have ve:=ae (show(ng (ns.take (i+1)))=(obj,nw+1+(p:Int))from by
         rw[iU.o];unfold Bt;rw[af (by have:=HR.o;omega),ag (by have:=HR.o;omega),JX.o,wM.o,a2,b1])
        clear c0 c1' hq hp;go_wp2_with fail
        clear m0 m1 z0 z1 y0
        go_roundw
        case rel=>exact⟨i+1,A1,k1,c1,nw+1+(p:Int),by omega,by go_num,ae (by rw[ve.o,tZ.o]),ae (by rw[ve.o]),ae (by rw[ve.o];exact HA.o.IZ (nw+1+(p:Int)))⟩
        case measure=>simp[intOf];omega
      · have d1:((r:Int) == 1)=false:=by rw[aA];omega
        have ve:=ae (show(ng (ns.take (i+1)))=(obj++[nw],nw+1)from by
         rw[iU.o];unfold Bt;rw[af (by have:=HR.o;omega),af (by have:=HR.o;omega),JX.o,wM.o])
        have ma:=ae ((ak wr.heap.size wr).alloc (aj _) (.cells #[.int .i64 nw] 3));have qV:=ae (HA.o.next ma.o);clear c0 c1' m0 m1;go_wp2_with (at_builtin;refine xG Elem.pl (aJ .i64) rfl (.tmp 20) (.tmp 23) rfl w2.heap.size _ obj rfl qV.o.own ⟨_,0,none⟩ 1 1 [nw] rfl rfl ?_ ?_ ?_ ?_ ?_;exact gD _ _ _ rfl;(rw[tZ.o];omega);(rw[tZ.o];unfold maxLen;omega);(have h1:=ma.o.size;have h2:=HA.o.gr.size;omega);intro v5 w5 h1 h2 _;obtain⟨A5,c5,hv5⟩:=tC h1;simp only[ax,fo,tZ.o]at hv5;subst hv5;have mQ:=ae h1;have DN:=ae h2;obtain⟨m0,m1⟩:=(qV.o.AB h2).bR;obtain⟨v0,v1⟩:=(qV.o.AB h2).cells;clear h1 h2)
        clear m0 m1 v0 v1 z0 z1 y0
        go_roundw
        case rel=>exact⟨i+1,A5,k1+1,c5,nw+1,by omega,by go_num,ae (by rw[ve.o,ax,tZ.o];rfl),ae (by rw[ve.o]),ae (by rw[ve.o];exact(qV.o.push mQ.o DN.o).IZ (nw+1))⟩
        case measure=>simp[intOf];omega
  · have hii:¬ (i:Int)<(n:Int):=by omega
    have hin:i=n:=by omega
    subst hin;have HE:=ae (show ns.take i=ns from mP (by rw[HS.o.hlen];exact aj _));rw[HE.o]at jH wM HA;have HP:=ae (HA.o.other bK.o (by omega));obtain⟨y0,y1⟩:=HP.o.cells;obtain⟨m0,m1⟩:=HP.o.bR;obtain⟨z0,z1⟩:=HA.o.cur.cells;go_wp2_with fail
    have ho:=HA.o.own;rw[mU.o]at ho;refine bodyPost_ret (EZ (HP.o.qK (.slice A1 k1 c1) nw) _ _ 2 ag3 rfl) rfl ⟨_,by rw[wM.o], ?_,El (HA.o.dC HB.o (by omega) (by have:=mU.o;omega)) (aj _) _ _⟩;exact(ho.keep (fun g h1 _ _=>Ex _ _ _ _ _ (by omega))).mono (by omega)
theorem adM(n a:Int):(mZ n a).1.length=jg n:=by unfold mZ;split <;> simp[CR,adL]
theorem Vj {n:Nat}{nw:Int}{e:Ending}(h:Ei w w' xs nw e)(hl:xs.length=n):∃D d,e = .returned (.agg #[.slice D n d,.int .i64 nw])∧IR w' w'.heap.size D n d xs∧Below w.heap.size w w':=by
 obtain⟨v,he,h1,h2⟩:=h;obtain⟨D,d,hv⟩:=tC h1;have hi:=h1.se;rw[hl]at hv;subst hv;exact⟨D,d,he,hi,h2⟩
theorem Own.NF {α : Type}{E:Enc α 1}{e:TypeId}{lo g n cap:Nat}{xs:List α}(h:Own E e w lo (.slice (Option.some ⟨g,0,none⟩) n cap) xs)(i:Nat)(x : α)(u:Value)(hu:E.f x=[u]):Own E e (w.setCell ⟨g,i,none⟩ u) lo (.slice (Option.some ⟨g,0,none⟩) n cap) (xs.set i x):=by
 obtain⟨h1,h2⟩:=h;refine⟨by rw[E.mK], ?_⟩;rcases h2 with ⟨h3,_⟩|⟨g',qA,cur,h3,h4,h5,h6,h7,h8,h9⟩
 · cases h3
 · injection h3 with h3 h3' abf
   injection h3 with h3;injection h3 with h3;subst h3;refine .inr ⟨g,qA,_, ?_,h4,heap_setCell_same w g i cur e u h5, ?_,h7,by rw[Array.size_setIfInBounds];exact h8, ?_⟩
   · rw[List.length_set, ← h3', ← abf]
   · rw[List.length_set];exact h6
   · rw[List.length_set,Zc E xs i x u hu, ← h9,Array.toList_setIfInBounds,List.take_set]
theorem aen (f:Nat→Int)(n i:Nat)(x:Int):((List.range n).map f).set i x=(List.range n).map fun j=>if j=i then x else f j:=by
 apply List.ext_getElem?;intro j;rw[List.getElem?_set,gY,eF,List.length_range,gY];by_cases hj:j<n
 · rw[List.getElem?_range hj]
   by_cases hij:i=j
   · subst hij;rw[ag rfl,ag hj,jq,ag rfl]
   · rw[af hij,jq,jq,af (fun e=>hij e.symm)]
 · rw[List.getElem?_eq_none (by simp;omega)]
   by_cases hij:i=j
   · subst hij;rw[ag rfl,af hj];rfl
   · rw[af hij];rfl
theorem aem (f:Nat→Int)(n i:Nat)(h:i<n):((List.range n).map f).getD i 0=f i:=by
 rw[kg,gY,List.getElem?_range h];rfl
theorem MC{f g:Nat→Int}{n:Nat}(h:∀j,j<n→f j=g j):(List.range n).map f=(List.range n).map g:=List.map_congr_left fun j hj=>h j (List.mem_range.1 hj)
def uL(a i j:Nat):Int:=if j<a then (j:Int)else if j<i then (j:Int)+1 else (j:Int)
theorem acQ (a n:Nat):kL n=(List.range n).map (uL a a):=by
 unfold kL;apply MC;intro j _;unfold uL;split
 · rfl
 · rfl
theorem acP (a i n:Nat)(h:a≤i):((List.range n).map (uL a i)).set i ((i:Int)+1)=(List.range n).map (uL a (i+1)):=by
 rw[aen];apply MC;intro j _;unfold uL;by_cases hj:j=i
 · subst hj;rw[ag rfl,af (by omega),ag (by omega)]
 · rw [af hj]
   by_cases h1:j<a
   · rw[ag h1,ag h1]
   · rw[af h1,af h1]
     by_cases h2:j<i
     · rw[ag h2,ag (by omega)]
     · rw[af h2,af (by omega)]
theorem acO (a n:Nat):(List.range n).map (uL a n)=CL n a:=by
 unfold CL;apply MC;intro j hj;unfold uL;by_cases h1:j<a
 · rw[ag h1,ag (by omega)]
 · rw[af h1,ag hj,af (by omega)]
structure uo (w0 w:World)(q p:Nat)(A:Option Addr)(N c:Nat)(k:Int)(xs:List Int):Prop where
 o:dI 36 w q (.slice none 0 0) 0
 cur:dI 36 w p (.slice A N c) k
 own:Own (aJ .i64) 3 w (q+1) (.slice A N c) xs
 row:∀g,A=Option.some ⟨g,0,none⟩→g<p
 dC:Below q w0 w
 IA:q<p
theorem uo.set {p g:Nat}(h:uo w0 w q p (Option.some ⟨g,0,none⟩) N c k xs)(i:Nat)(x:Int):uo w0 (w.setCell ⟨g,i,none⟩ (.int .i64 x)) q p (Option.some ⟨g,0,none⟩) N c k (xs.set i x):=by
 have hg:=h.row g rfl;have hl:=(h.own.lies (g:=g) rfl).1;exact⟨h.o.other _ _ (by show q≠g;omega),h.cur.other _ _ (by show p≠g;omega),h.own.NF i x _ rfl,h.row,h.dC.setCell (by show q≤g;omega) _,h.IA⟩
theorem uo.IZ {p:Nat}{A:Option Addr}(h:uo w0 w q p A N c k xs)(m:Int):uo w0 (w.setCell ⟨p,1,none⟩ (.int .i64 m)) q p A N c m xs :=
 ⟨h.o.other _ _ (by show q≠p;have:=h.IA;omega),h.cur.CZ m,h.own.keep (fun g h1 h2 h3=>heap_setCell_other w _ g _ (by
  show g≠p;rcases h.own.shape with ⟨h4,_⟩|⟨g',c',h4,_⟩
  · rw[h4]at h3;cases h3
  · injection h4 with h4
    have:=h.row g' h4;rw[h4]at h3;have:g'=g:=dM h3;omega)),h.row,h.dC.setCell (by show q≤p;have:=h.IA;omega) _,h.IA⟩
theorem Nr:Tryz.f13.results=#[.cell 4 36]:=by kernel_rfl
theorem uo.start {A:Option Addr}(hb:Below w.heap.size w w1)(hp:dI 36 w1 w.heap.size (.slice none 0 0) 0)(ho:Own (aJ .i64) 3 w2 w1.heap.size (.slice A N c) xs)(hb2:Below w1.heap.size w1 w2) :
 uo w (w2.alloc (.cells #[.slice A N c,.int .i64 k] 36)) w.heap.size w2.heap.size A N c k xs:=by
 have h1:=hp.lt;have h2:=hb2.size;have hn:=sQ 36 w2 (.slice A N c) k;refine⟨(hp.over hb2).over hn,dI.new _ _ _ _,(ho.below hn (aj _)).mono (by omega),fun g hg => ?_,(hb.trans (hb2.mono hb.size)).trans (hn.mono (by omega)),by omega⟩;subst hg;exact ho.less rfl
theorem VC (w:World)(n a:Int):Calls Tryz.prog 13 #[.int .i64 n,.int .i64 a] w fun e w'=>Ei w w' (mZ n a).1 (mZ n a).2 e:=by
 have HB:=ae (sQ 36 w (.slice none 0 0) 0);have HP:=ae (dI.new 36 w (.slice none 0 0) 0);have hle:=KU n;have hs:=fun w=>NC w n
 have hO:mZ n a=if a<0∨(jg n:Int)<a then (kL (jg n),(jg n:Int))else (CL (jg n) a,(jg n:Int)+1):=rfl
 obtain⟨N,hN⟩:∃N,jg n=N:=⟨_,rfl⟩;simp only[hN]at hs hO hle;have HS:=ae hs;clear hN hs;by_cases qF:a<0∨(N:Int)<a
 · rw [ag qF]at hO
   rw[hO];clear hO;go_enter Tryz.func13,Tryz.ntmps13;go_upto_region 1 with (fail)
   obtain⟨w1,hw1⟩:∃w1,w.alloc (.cells #[.slice none 0 0,.int .i64 0] 36)=w1:=⟨_,rfl⟩;rw[hw1]at HB HP ⊢;clear hw1;go_upto_region 2 with (go_at_call 14;((with_reducible refine(HS.o _).mono ?_);rintro e w2 ⟨v,rfl,h1,h2⟩;have H1:=ae h1;have H2:=ae h2;obtain⟨A,c,hv⟩:=tC h1;rw[CR]at hv;subst hv;clear h1 h2))
   have HW:=ae (uo.start (k:=(N:Int)) HB.o HP.o H1.o H2.o);obtain⟨p,hp⟩:∃p,w2.heap.size=p:=⟨_,rfl⟩;rw[hp]at HW ⊢;obtain⟨w3,hw3⟩:∃w3,w2.alloc (.cells #[.slice A N c,.int .i64 (N:Int)] 36)=w3:=⟨_,rfl⟩;rw[hw3]at HW ⊢;clear hw3 hp;obtain⟨x0,x1⟩:=HW.o.cur.cells;obtain⟨y0,y1⟩:=HW.o.o.cells;obtain⟨m0,m1⟩:=HW.o.o.bR;by_cases h0:a<0
   · go_wp2_with fail
     refine bodyPost_ret (EZ (HW.o.o.qK (.slice A N c) (N:Int)) _ _ 4 Nr rfl) rfl ⟨_,rfl, ?_,El HW.o.dC (aj _) _ _⟩;exact(HW.o.own.keep (fun g h1 _ _=>Ex _ _ _ _ _ (by omega))).mono (by omega)
   · have h9:(N:Int)<a:=qF.resolve_left h0
     clear qF;go_wp2_with fail
     refine bodyPost_ret (EZ (HW.o.o.qK (.slice A N c) (N:Int)) _ _ 4 Nr rfl) rfl ⟨_,rfl, ?_,El HW.o.dC (aj _) _ _⟩;exact(HW.o.own.keep (fun g h1 _ _=>Ex _ _ _ _ _ (by omega))).mono (by omega)
 · rw [af qF]at hO
   rw[hO];obtain⟨a0,rfl⟩:∃a0:Nat,a=(a0:Int):=⟨a.toNat,by omega⟩;have h0:¬ (a0:Int)<0:=fun e=>qF (.inl e)
   have h9:¬ (N:Int)<(a0:Int):=fun e=>qF (.inr e)
   clear hO qF;go_enter Tryz.func13,Tryz.ntmps13;go_upto_region 1 with (fail)
   obtain⟨w1,hw1⟩:∃w1,w.alloc (.cells #[.slice none 0 0,.int .i64 0] 36)=w1:=⟨_,rfl⟩;rw[hw1]at HB HP ⊢;clear hw1;go_upto_region 2 with (go_at_call 14;((with_reducible refine(HS.o _).mono ?_);rintro e w2 ⟨v,rfl,h1,h2⟩;have H1:=ae h1;have H2:=ae h2;obtain⟨A,c,hv⟩:=tC h1;rw[CR]at hv;subst hv;clear h1 h2))
   have HW:=ae (uo.start (k:=(N:Int)) HB.o HP.o H1.o H2.o);obtain⟨p,hp⟩:∃p,w2.heap.size=p:=⟨_,rfl⟩;rw[hp]at HW ⊢;obtain⟨w3,hw3⟩:∃w3,w2.alloc (.cells #[.slice A N c,.int .i64 (N:Int)] 36)=w3:=⟨_,rfl⟩;rw[hw3]at HW ⊢;clear hw3 hp;obtain⟨x0,x1⟩:=HW.o.cur.cells;obtain⟨m0,m1⟩:=HW.o.cur.bR;go_upto_region 5 with (fail)
   clear x0 x1 m0 m1;have HW2:=ae (HW.o.IZ ((N:Int)+1));obtain⟨w4,hw4⟩:∃w4,w3.setCell ⟨p,1,none⟩ (.int .i64 ((N:Int)+1))=w4:=⟨_,rfl⟩;rw[hw4]at HW2 ⊢;clear hw4;have cK:=ae (show uo w w4 w.heap.size p A N c ((N:Int)+1) ((List.range N).map (uL a0 a0))from by rw[← acQ];exact HW2.o);go_wp2_with fail
   go_loopw [6] (fun iv wr=>∃i:Nat,a0≤i∧i≤N∧iv = .int .i64 (i:Int)∧Hid (uo w wr w.heap.size p A N c ((N:Int)+1) ((List.range N).map (uL a0 i))))
    (fun iv _=>N - (intOf iv).toNat)
   case atStart=>exact⟨_,aj _,by omega,by first|rfl|trivial|go_num,cK⟩
   case round =>
    obtain⟨i,hai,hi,rfl,HR⟩:=hrel;obtain⟨x0,x1⟩:=HR.o.cur.cells;by_cases hlt:i<N
    · have hii:(i:Int)<(N:Int):=by omega
      have hi0:(0:Int)≤(i:Int):=by omega
      have tZ:=ae (show((List.range N).map (uL a0 i)).length=N from by simp);obtain⟨g,c',hA,_⟩:=HR.o.own.some (by rw[tZ.o];omega);injection hA with hA h2 h3;subst hA;clear h2 h3;have e0:=HR.o.own.zC i (by rw[tZ.o];exact hlt);rw[aem _ _ _ hlt]at e0;have hf:uL a0 i i=(i:Int):=by unfold uL;(repeat' split) <;> omega
      rw[hf]at e0;have f0:=HR.o.own.rwA.p8 i;have HN:=ae (acP a0 i N hai);clear hf;go_wp2_with fail
      clear e0 f0 x0 x1
      go_roundw
      case rel=>exact⟨i+1,by omega,by omega,by go_num,ae (by rw[← HN.o];exact HR.o.set i ((i:Int)+1))⟩
      case measure=>simp[intOf];omega
    · have hii:¬ (i:Int)<(N:Int):=by omega
      have hin:i=N:=by omega
      subst hin;have HE:=ae (acO a0 i);obtain⟨y0,y1⟩:=HR.o.o.cells;obtain⟨m0,m1⟩:=HR.o.o.bR;go_wp2_with fail
      have ho:=HR.o.own;rw[HE.o]at ho;refine bodyPost_ret (EZ (HR.o.o.qK (.slice A i c) ((i:Int)+1)) _ _ 4 Nr rfl) rfl ⟨_,rfl, ?_,El HR.o.dC (aj _) _ _⟩;exact(ho.keep (fun g h1 _ _=>Ex _ _ _ _ _ (by omega))).mono (by omega)
end Go.Proofs.YtbplbjmmfgjdjaaGreatDoor
namespace Go.Proofs.YtbplbjmmfgjdjaaGreatDoor
open Go
def jc (a:Act)(d:Option Tmp):Value:=match d with
 | some d=>a.tmps.getD d undef
 | none=>undef
def wT (ops:Array Oper):Nat→Nat→List Nat
 | 0,_=>[]
 | f+1,i=>match ops[i]? with
   | none=>[]
   | some o=>(o.after.toList.filter fun e=>Region.binds .any e).flatMap fun e=>e.on :: wT ops f e.on
def IY (ops:Array Oper)(n:Nat):Bool :=
 (List.range ops.size).all fun i=>match ops[i]? with
   | none=>false
   | some o=>(match o.dst with
      | none=>true
      | some d=>decide (d<n)&&(List.range ops.size).all fun j=>match ops[j]? with
         | none=>true
         | some p=>decide (j=i) || !(p.dst == some d)) &&
     o.after.toList.all fun e => !Region.binds .any e||decide (e.on<i)
def E5 (ops:Array Oper)(M:Nat→Bool)(oG:Nat):Bool :=
 (List.range ops.size).all fun i=>match ops[i]? with
   | none=>false
   | some o=>if M i=true then o.after.toList.all fun e => !Region.binds .any e||M e.on else (List.range ops.size).all fun j => !M j||(wT ops oG i).contains j
def zF(ops:Array Oper)(M:Nat→Bool):Array Bool:=((List.range ops.size).map M).toArray
section
variable {P:Program} {ops:Array Oper} {Q:Exit→Act→World→Prop} (M:Nat→Bool) (F:List Nat) (R:World→World→Prop) (T:Nat→Value→World→Prop) (a0:Act) (w0:World)
structure yf (ops:Array Oper)(a:Act)(w:World):Prop where
 rel:R w0 w
 size:a.tmps.size=a0.tmps.size
 rest:{ a with tmps:=a0.tmps }=a0
 slot:∀s,(∀(j:Nat) oj,ops[j]? = some oj→oj.dst≠some s)→a.tmps.getD s undef=a0.tmps.getD s undef
structure zh (ops:Array Oper)(listed:Array Bool)(a:Act)(w:World):Prop where
 act:yf R a0 w0 ops a w
 done:∀(j:Nat) oj,ops[j]? = some oj→listed.getD j true=true→T j (jc a oj.dst) w
 closed:∀(j:Nat) oj,ops[j]? = some oj→listed.getD j true=true→∀e∈oj.after,Region.binds .any e=true→listed.getD e.on false=true
 len:listed.size=ops.size
 o:∀j,j<ops.size→M j=false→listed.getD j true=false
 ne:∀i∈F,∀j∈F,i≠j→∀oi oj,ops[i]? = some oi→ops[j]? = some oj→listed.getD i true=true→listed.getD j true=true→jc a oi.dst≠jc a oj.dst
theorem getD_in {listed:Array Bool}{n i:Nat}(hl:listed.size=n)(hi:i<n)(b c:Bool):listed.getD i b=listed.getD i c:=by
 have:i<listed.size:=by omega
 simp[Array.getD,this]
theorem zh.PS {listed:Array Bool}{a:Act}{w:World}(h:zh M F R T a0 w0 ops listed a w):∀(f i:Nat)(oi:Oper),ops[i]? = some oi→(∀e∈oi.after,Region.binds .any e=true→listed.getD e.on false=true) →
 ∀j∈wT ops f i,∀oj,ops[j]? = some oj→T j (jc a oj.dst) w
 | 0,_,_,_,_,j,hj,_,_=>by cases hj
 | f + 1,i,oi,hi,hc,j,hj,oj,hoj=>by
   unfold wT at hj;rw[hi]at hj;obtain⟨e,he,Ba⟩:=List.mem_flatMap.1 hj;obtain⟨he1,he2⟩:=List.mem_filter.1 he;have hl:=hc e (by simpa using he1) he2
   have hin:e.on<ops.size:=by
    rcases Nat.lt_or_ge e.on listed.size with h'|h'
    · have:=h.len;omega
    · simp[Array.getD,Nat.not_lt.2 h']at hl
   have hl2:listed.getD e.on true=true:=(getD_in h.len hin true false).trans hl;rcases ik.1 Ba with rfl|Ba
   · exact h.done _ oj hoj hl2
   · obtain⟨oe,hoe⟩:∃oe,ops[e.on]? = some oe:=⟨_,Array.getElem?_eq_getElem hin⟩
     exact zh.PS h f e.on oe hoe (h.closed _ oe hoe hl2) j Ba oj hoj
theorem VR {n:Nat}(h:IY ops n=true){i:Nat}{oi:Oper}(hi:ops[i]? = some oi) :
 (∀d,oi.dst=some d→d<n∧∀(j:Nat) oj,ops[j]? = some oj→oj.dst=some d→j=i)∧∀e∈oi.after,Region.binds .any e=true→e.on<i:=by
 have hlt:=(dB.1 hi).1;have h1:=List.all_eq_true.1 h i (List.mem_range.2 hlt);rw[hi]at h1;simp only[dJ]at h1;obtain⟨h1,h2⟩:=h1;refine⟨fun d hd => ?_,fun e he hb => ?_⟩
 · rw[hd]at h1
   simp only[dJ,aQ]at h1;refine⟨h1.1,fun j oj hj hdj => ?_⟩;have hjl:=(dB.1 hj).1;have h3:=List.all_eq_true.1 h1.2 j (List.mem_range.2 hjl);rw[hj]at h3;simp only[hdj,beq_self_eq_true,Bool.not_true,Bool.or_false,aQ]at h3;exact h3
 · have h3:=List.all_eq_true.1 h2 e (by simpa using he)
   rw[hb]at h3
   simpa using h3
theorem Wq {a:Act}{d:Option Tmp}{v:Value}(h:∀s,d=some s→s<a.tmps.size)(hn:d=none→v=undef):jc (a.put d v) d=v:=by
 cases d with
 | none=>exact(hn rfl).symm
 | some s =>
   have:=h s rfl;show(a.tmps.setIfInBounds s v).getD s undef=v;simp[Array.getD,this]
theorem I5 {a:Act}{d e:Option Tmp}{v:Value}(h:∀s,d=some s→e≠some s):jc (a.put d v) e=jc a e:=by
 cases d with
 | none=>rfl
 | some s =>
   cases e with
   | none=>rfl
   | some t =>
     have hne:s≠t:=fun e=>h s rfl (by rw[e])
     show(a.tmps.setIfInBounds s v).getD t undef=a.tmps.getD t undef;simp only[Array.getD_eq_getD_getElem?,Array.getElem?_setIfInBounds_ne hne]
def xE(l:Array Bool):Nat:=(l.toList.filter fun b => !b).length
theorem QQ:∀(l:List Bool)(i:Nat),l[i]? = some false→((l.set i true).filter fun b => !b).length+1=(l.filter fun b => !b).length
 | [],_,h=>by simp at h
 | b :: l,0,h=>by
   simp at h;subst h;simp
 | b :: l,i+1,h=>by
   have ih:=QQ l i (by simpa using h);cases b
   · simp;omega
   · simp;omega
theorem ajH {l:Array Bool}{i:Nat}(h:l[i]? = some false):xE (l.setIfInBounds i true)+1=xE l:=by
 unfold xE;rw[Array.toList_setIfInBounds];exact QQ l.toList i (by simpa using h)
theorem ajG {l:Array Bool}(h:xE l=0)(i:Nat)(hi:i<l.size):l[i]? = some true:=by
 unfold xE at h;have h1:=List.filter_eq_nil_iff.1 (kM h);have h2:=h1 l[i] (by simp);rw[Array.getElem?_eq_getElem hi];congr 1
 simpa using h2
theorem af0 {oG i:Nat}{oi:Oper}(h:E5 ops M oG=true)(hi:ops[i]? = some oi)(hm:M i=true):∀e∈oi.after,Region.binds .any e=true→M e.on=true:=by
 have hlt:=(dB.1 hi).1;have h1:=List.all_eq_true.1 h i (List.mem_range.2 hlt);rw[hi]at h1;simp only[hm,if_true]at h1;intro e he hb;have h3:=List.all_eq_true.1 h1 e (by simpa using he);rw[hb]at h3
 simpa using h3
theorem af1 {oG i:Nat}{oi:Oper}(h:E5 ops M oG=true)(hi:ops[i]? = some oi)(hm:M i=false):∀j,j<ops.size→M j=true→j∈wT ops oG i:=by
 have hlt:=(dB.1 hi).1;have h1:=List.all_eq_true.1 h i (List.mem_range.2 hlt);rw[hi]at h1;simp only[hm,Bool.false_eq_true,if_false]at h1;intro j hj yx;have h3:=List.all_eq_true.1 h1 j (List.mem_range.2 hj);rw[yx]at h3
 simpa using h3
theorem zh.PT {listed:Array Bool}{a:Act}{w:World}(h:zh M F R T a0 w0 ops listed a w):∀(f i:Nat)(oi:Oper),ops[i]? = some oi→(∀e∈oi.after,Region.binds .any e=true→listed.getD e.on false=true) →
 ∀j∈wT ops f i,j<ops.size→listed.getD j true=true
 | 0,_,_,_,_,j,hj,_=>by cases hj
 | f + 1,i,oi,hi,hc,j,hj,hlt=>by
   unfold wT at hj;rw[hi]at hj;obtain⟨e,he,Ba⟩:=List.mem_flatMap.1 hj;obtain⟨he1,he2⟩:=List.mem_filter.1 he;have hl:=hc e (by simpa using he1) he2
   have hin:e.on<ops.size:=by
    rcases Nat.lt_or_ge e.on listed.size with h'|h'
    · have:=h.len;omega
    · simp[Array.getD,Nat.not_lt.2 h']at hl
   have hl2:listed.getD e.on true=true:=(getD_in h.len hin true false).trans hl;rcases ik.1 Ba with rfl|Ba
   · exact hl2
   · obtain⟨oe,hoe⟩:∃oe,ops[e.on]? = some oe:=⟨_,Array.getElem?_eq_getElem hin⟩
     exact zh.PT h f e.on oe hoe (h.closed _ oe hoe hl2) j Ba hlt
theorem Tp (p:Nat→Bool):∀n:Nat,(∃i,i<n∧p i=true)→∃i,i<n∧p i=true∧∀j,j<i→p j=false
 | 0,h=>by obtain⟨i,h,_⟩:=h;omega
 | n + 1,h=>by
   by_cases c:∃i,i<n∧p i=true
   · obtain⟨i,h1,h2,h3⟩:=Tp p n c
     exact⟨i,by omega,h2,h3⟩
   · obtain ⟨i,h1,h2⟩:=h
     have:i=n:=by
      rcases Nat.lt_or_ge i n with h'|h'
      · exact absurd ⟨i,h',h2⟩ c
      · omega
     subst this;refine⟨i,h1,h2,fun j hj => ?_⟩;cases hp:p j with
     | false=>rfl
     | true=>exact absurd ⟨j,hj,hp⟩ c
theorem TI {listed:Array Bool}{a:Act}{w:World}(h:zh M F R T a0 w0 ops listed a w)(aX:∀j,j<ops.size→M j=true→listed.getD j true=true):listed=zF ops M:=by
 apply Array.ext_getElem?;intro i;unfold zF;by_cases hi:i<ops.size
 · have hl:i<listed.size:=by have:=h.len;omega
   have e1:listed[i]? = some (listed.getD i true):=by rw[Array.getElem?_eq_getElem hl];simp[Array.getD,hl]
   rw[e1];simp only[List.getElem?_toArray,gY,List.getElem?_range hi,jq];congr 1;cases hm:M i with
   | true=>exact aX i hi hm
   | false=>exact h.o i hi hm
 · rw[Array.getElem?_eq_none (by have:=h.len;omega)]
   simp only[List.getElem?_toArray,gY];rw[List.getElem?_eq_none (by simp;omega)];rfl
theorem ah0 {oG:Nat}(hb:IY ops a0.tmps.size=true)(hp:E5 ops M oG=true)(htr:∀u v w,R u v→R v w→R u w)(hT:∀i v w w',T i v w→R w w'→T i v w')(hF:∀i∈F,∀v w,T i v w→∃b,v = .pointer (some ⟨b,0,none⟩)∧b<w.heap.size)
 (uK:∀(i:Nat) oi,ops[i]? = some oi→M i=true→∀a w,yf R a0 w0 ops a w→(∀j∈wT ops oG i,∀oj,ops[j]? = some oj→T j (jc a oj.dst) w) →
   if Region.wanted oi (yielded ops a.tmps)=true then Oper.wp P oi a w (fun a' w'=>∃v,a'=a.put oi.dst v∧(oi.dst=none→v=undef)∧R w w'∧T i v w'∧(i∈F→∃b,v = .pointer (some ⟨b,0,none⟩)∧w.heap.size≤b)) Q else T i undef w∧i ∉ F)
 (hrefl:∀u,R u u)
 (mI:∀a w,yf R a0 w0 ops a w→(∀(j:Nat) oj,ops[j]? = some oj→M j=true→T j (jc a oj.dst) w)→(∀i∈F,∀j∈F,i≠j→M i=true→M j=true→∀oi oj,ops[i]? = some oi→ops[j]? = some oj→jc a oi.dst≠jc a oj.dst)→wpAny P .any ops Q (xE (zF ops M)) (zF ops M) a w) :
 ∀(fuel:Nat)(listed:Array Bool)(a:Act)(w:World),zh M F R T a0 w0 ops listed a w→xE listed=fuel→wpAny P .any ops Q fuel listed a w:=by
 intro fuel
 induction fuel with
 | zero =>
   intro listed a w h hu
   have aX:∀j,j<ops.size→M j=true→listed.getD j true=true:=fun j hj _=>by
    have:=ajG hu j (by have:=h.len;omega);simp[Array.getD_eq_getD_getElem?,this]
   have e:=TI M F R T a0 w0 h aX;have:=mI a w h.act (fun j oj hj hm=>h.done j oj hj (aX j (dB.1 hj).1 hm)) (fun i hi j hj hij uF yx oi oj hoi hoj=>h.ne i hi j hj hij oi oj hoi hoj (aX i (dB.1 hoi).1 uF) (aX j (dB.1 hoj).1 yx));rw[← e,hu]at this;exact this
 | succ fuel ih =>
   intro listed a w h hu;by_cases aX:∀j,j<ops.size→M j=true→listed.getD j true=true
   · have e:=TI M F R T a0 w0 h aX
     have:=mI a w h.act (fun j oj hj hm=>h.done j oj hj (aX j (dB.1 hj).1 hm)) (fun i hi j hj hij uF yx oi oj hoi hoj=>h.ne i hi j hj hij oi oj hoi hoj (aX i (dB.1 hoi).1 uF) (aX j (dB.1 hoj).1 yx));rw[← e,hu]at this;exact this
   have Sn:∃i,i<ops.size∧(M i && !listed.getD i true)=true:=by
    apply Decidable.byContradiction;intro hn;refine aX fun j hj hm => ?_
    cases hl:listed.getD j true with
    | true=>rfl
    | false=>exact absurd ⟨j,hj,by rw[hm,hl];rfl⟩ hn
   refine⟨fun hr => ?_,fun i hi => ?_⟩
   · exfalso
     obtain⟨i,hil,h1,h2⟩:=Tp _ _ Sn;rw[dJ,Bool.not_eq_true']at h1;obtain⟨oi,hoi⟩:∃oi,ops[i]? = some oi:=⟨_,Array.getElem?_eq_getElem hil⟩
     have:i∈Region.ready .any ops listed:=mem_ready.2 ⟨h1.2,oi,hoi,fun e he hbn=>by
      have hlt:=(VR hb hoi).2 e he hbn;have hme:=af0 M hp hoi h1.1 e he hbn;have h4:=h2 e.on hlt;rw[hme,gV,Bool.not_eq_false']at h4;exact(getD_in h.len (by omega) false true).trans h4⟩
     rw[hr]at this;cases this
   · obtain ⟨h1,oi,hoi,hc⟩:=mem_ready.1 hi
     have hil:=(dB.1 hoi).1
     have uF:M i=true:=by
      cases uF:M i with
      | true=>rfl
      | false =>
        exfalso;obtain⟨j,hjl,hj⟩:=Sn;rw[dJ,Bool.not_eq_true']at hj;have:=h.PT M F R T a0 w0 oG i oi hoi hc j (af1 M hp hoi uF j hjl hj.1) hjl;rw[hj.2]at this;cases this
     have hlf:listed[i]? = some false:=by
      have hl:=h.len;rw[Array.getElem?_eq_getElem (by omega)];have h1':=h1;rw[Array.getD_eq_getD_getElem?,Array.getElem?_eq_getElem (by omega)]at h1'
      simpa using h1'
     have hs:=uK i oi hoi uF a w h.act (h.PS M F R T a0 w0 oG i oi hoi hc)
     have next:∀v w',(oi.dst=none→v=undef)→R w w'→T i v w'→(i∈F→∃b,v = .pointer (some ⟨b,0,none⟩)∧w.heap.size≤b)→wpAny P .any ops Q fuel (listed.setIfInBounds i true) (a.put oi.dst v) w':=by
      intro v w' hv hR hTi hFi;obtain⟨hd,_⟩:=VR hb hoi
      have hsz:(a.put oi.dst v).tmps.size=a.tmps.size:=by
       cases hdd:oi.dst with
       | none=>rfl
       | some d=>show(a.tmps.setIfInBounds d v).size=_;simp
      refine ih _ _ _ ⟨⟨htr _ _ _ h.act.rel hR,hsz.trans h.act.size, ?_,fun s hs => ?_⟩,fun j oj hj hl => ?_,fun j oj hj hl e he hbn => ?_,by rw[Array.size_setIfInBounds];exact h.len,fun j hj hm => ?_,fun p LP q LW hpq op Ii hop hoq hlp hlq => ?_⟩ (by have:=ajH hlf;omega)
      · rw[← h.act.rest]
        cases hdd:oi.dst <;> rfl
      · rw[← h.act.slot s hs]
        exact I5 (e:=some s) (d:=oi.dst) (a:=a) (v:=v) fun t ht he=>hs i oi hoi (by rw[ht,he])
      · by_cases hji:j=i
        · subst hji
          obtain rfl:oi=oj:=dM (hoi.symm.trans hj);rw[Wq (fun s hs=>by rw[h.act.size];exact(hd s hs).1) hv];exact hTi
        · rw [I5 fun s hs he=>hji ((hd s hs).2 j oj hj he)]
          have hl':listed.getD j true=true:=by
           rw[Array.getD_eq_getD_getElem?,Array.getElem?_setIfInBounds_ne (Ne.symm hji), ← Array.getD_eq_getD_getElem?]at hl;exact hl
          exact hT _ _ _ _ (h.done j oj hj hl') hR
      · have keep:∀k,listed.getD k false=true→(listed.setIfInBounds i true).getD k false=true:=by
         intro k hk;by_cases hki:k=i
         · subst hki
           have:k<listed.size:=by have:=h.len;omega
           simp[Array.getD,this]
         · rw[Array.getD_eq_getD_getElem?,Array.getElem?_setIfInBounds_ne (Ne.symm hki), ← Array.getD_eq_getD_getElem?]
           exact hk
        by_cases hji:j=i
        · subst hji
          obtain rfl:oi=oj:=dM (hoi.symm.trans hj);exact keep _ (hc e he hbn)
        · have hl':listed.getD j true=true:=by
           rw[Array.getD_eq_getD_getElem?,Array.getElem?_setIfInBounds_ne (Ne.symm hji), ← Array.getD_eq_getD_getElem?]at hl;exact hl
          exact keep _ (h.closed j oj hj hl' e he hbn)
      · have hne:j≠i:=fun e=>by subst e;rw[uF]at hm;cases hm
        rw[Array.getD_eq_getD_getElem?,Array.getElem?_setIfInBounds_ne (Ne.symm hne), ← Array.getD_eq_getD_getElem?];exact h.o j hj hm
      · have other:∀k ok,ops[k]? = some ok→k≠i→(listed.setIfInBounds i true).getD k true=true→listed.getD k true=true∧jc (a.put oi.dst v) ok.dst=jc a ok.dst:=by
         intro k ok hok hki hl;rw[Array.getD_eq_getD_getElem?,Array.getElem?_setIfInBounds_ne (Ne.symm hki), ← Array.getD_eq_getD_getElem?]at hl;exact⟨hl,I5 fun s hs he=>hki ((hd s hs).2 k ok hok he)⟩
        have fresh:i∈F→∀k ok,ops[k]? = some ok→k∈F→k≠i→(listed.setIfInBounds i true).getD k true=true→jc (a.put oi.dst v) oi.dst≠jc (a.put oi.dst v) ok.dst:=by
         intro hiF k ok hok LD hki hl e;obtain⟨k1,k2⟩:=other k ok hok hki hl;rw[k2,Wq (fun s hs=>by rw[h.act.size];exact(hd s hs).1) hv]at e;obtain⟨b,hb1,hb2⟩:=hFi hiF;obtain⟨c,hc1,hc2⟩:=hF k LD _ _ (h.done k ok hok k1);rw[hb1,hc1]at e;injection e with e;injection e with e;injection e with e;omega
        by_cases hpi:p=i
        · subst hpi
          obtain rfl:oi=op:=dM (hoi.symm.trans hop);exact fresh LP q Ii hoq LW (Ne.symm hpq) hlq
        · by_cases hqi:q=i
          · subst hqi
            obtain rfl:oi=Ii:=dM (hoi.symm.trans hoq);exact(fresh LW p op hop LP hpi hlp).symm
          · obtain⟨k1,k2⟩:=other p op hop hpi hlp
            obtain⟨k3,k4⟩:=other q Ii hoq hqi hlq;rw[k2,k4];exact h.ne p LP q LW hpq op Ii hop hoq k1 k3
     unfold wpOp;rw[hoi];simp only;by_cases hw:Region.wanted oi (yielded ops a.tmps)=true
     · rw[ag hw]at hs
       rw[ag hw]
       left
       refine Oper.wp_mono ?_ hs;rintro a' w' ⟨v,rfl,hv,hR,hTi,hFi⟩;exact next v w' hv hR hTi hFi
     · rw[af hw]at hs
       rw[af hw];exact next undef w (fun _=>rfl) (hrefl w) hs.1 (fun h=>absurd h hs.2)
theorem aj3 {id:Nat}{w1:World}(oG:Nat)(hm:P.follows .mixedOrders=true)(hw:w1.drew=w0)(hb:IY ops a0.tmps.size=true)(hp:E5 ops M oG=true)(htr:∀u v w,R u v→R v w→R u w)(hrefl:∀u,R u u)(hT:∀i v w w',T i v w→R w w'→T i v w')(hF:∀i∈F,∀v w,T i v w→∃b,v = .pointer (some ⟨b,0,none⟩)∧b<w.heap.size)
 (uK:∀(i:Nat) oi,ops[i]? = some oi→M i=true→∀a w,yf R a0 w0 ops a w→(∀j∈wT ops oG i,∀oj,ops[j]? = some oj→T j (jc a oj.dst) w) →
   if Region.wanted oi (yielded ops a.tmps)=true then Oper.wp P oi a w (fun a' w'=>∃v,a'=a.put oi.dst v∧(oi.dst=none→v=undef)∧R w w'∧T i v w'∧(i∈F→∃b,v = .pointer (some ⟨b,0,none⟩)∧w.heap.size≤b)) Q else T i undef w∧i ∉ F)
 (mI:∀a w,yf R a0 w0 ops a w→(∀(j:Nat) oj,ops[j]? = some oj→M j=true→T j (jc a oj.dst) w)→(∀i∈F,∀j∈F,i≠j→M i=true→M j=true→∀oi oj,ops[i]? = some oi→ops[j]? = some oj→jc a oi.dst≠jc a oj.dst)→wpAny P .any ops Q (xE (zF ops M)) (zF ops M) a w):(Code.region id ops true).wp P Q a0 w1:=by
 subst hw;have hlf:∀j,j<ops.size→(Array.replicate ops.size false).getD j true=false:=fun j hj=>by simp[Array.getD,hj]
 have hno:∀(j:Nat) oj,ops[j]? = some oj→(Array.replicate ops.size false).getD j true=true→False:=fun j oj hj h=>by
  rw[hlf j (dB.1 hj).1]at h;cases h
 refine wp_region_any hm (ah0 M F R T a0 w1.drew hb hp htr hT hF uK hrefl mI _ _ _ _ ⟨⟨hrefl _,rfl,rfl,fun _ _=>rfl⟩,fun j oj hj h=>(hno j oj hj h).elim,fun j oj hj h=>(hno j oj hj h).elim,by simp,fun j hj _=>hlf j hj,fun i _ _ _ _ oi _ hoi _ hl _=>(hno i oi hoi hl).elim⟩ ?_);unfold xE;simp
theorem yf.is {a:Act}{w:World}(h:yf R a0 w0 ops a w):a=(List.range ops.size).foldl (fun b j=>b.put ((ops[j]?).bind (·.dst)) (jc a ((ops[j]?).bind (·.dst)))) a0:=by
 have key:∀(l:List Nat)(b:Act),(l.foldl (fun b j=>b.put ((ops[j]?).bind (·.dst)) (jc a ((ops[j]?).bind (·.dst)))) b).tmps.size=b.tmps.size ∧
  { (l.foldl (fun b j=>b.put ((ops[j]?).bind (·.dst)) (jc a ((ops[j]?).bind (·.dst)))) b)with tmps:=a0.tmps }={ b with tmps:=a0.tmps } ∧
  ∀s,s<b.tmps.size→(l.foldl (fun b j=>b.put ((ops[j]?).bind (·.dst)) (jc a ((ops[j]?).bind (·.dst)))) b).tmps.getD s undef=if (l.any fun j=>(ops[j]?).bind (·.dst) == some s)=true then a.tmps.getD s undef else b.tmps.getD s undef:=by
  intro l
  induction l with
  | nil=>intro b;exact⟨rfl,rfl,fun s _=>rfl⟩
  | cons j l ih =>
    intro b;rw[List.foldl_cons];obtain⟨h1,h2,h3⟩:=ih (b.put ((ops[j]?).bind (·.dst)) (jc a ((ops[j]?).bind (·.dst))));generalize hd:(ops[j]?).bind (·.dst)=d at h1 h2 h3 ⊢
    have hsz:(b.put d (jc a d)).tmps.size=b.tmps.size:=by
     cases d with
     | none=>rfl
     | some d=>show(b.tmps.setIfInBounds d _).size=_;simp
    refine⟨h1.trans hsz,h2.trans (by cases d <;> rfl),fun s hs => ?_⟩;rw[h3 s (by omega),List.any_cons,hd];by_cases hds:d=some s
    · subst hds
      have e:(b.put (some s) (jc a (some s))).tmps.getD s undef=a.tmps.getD s undef:=by
       show(b.tmps.setIfInBounds s (a.tmps.getD s undef)).getD s undef=_;simp[Array.getD,hs]
      rw[e];simp
    · have e:(b.put d (jc a d)).tmps.getD s undef=b.tmps.getD s undef:=I5 (e:=some s) (d:=d) (a:=b) (v:=jc a d) fun t ht he=>hds (by rw[ht,he])
      have e2:(d == some s)=false:=by simpa using hds
      rw[e,e2,Bool.false_or]
 obtain⟨k1,k2,k3⟩:=key (List.range ops.size) a0;generalize hf:(List.range ops.size).foldl (fun b j=>b.put ((ops[j]?).bind (·.dst)) (jc a ((ops[j]?).bind (·.dst)))) a0=f at k1 k2 k3
 have ht:a.tmps=f.tmps:=by
  apply Array.ext
  · rw[h.size,k1]
  · intro s hs1 hs2
    have e1:=k3 s (by omega);have e2:f.tmps.getD s undef=f.tmps[s]:=by simp[Array.getD,hs2]
    have e3:a.tmps.getD s undef=a.tmps[s]:=by simp[Array.getD,hs1]
    have e4:a.tmps.getD s undef=f.tmps.getD s undef:=by
     rw[e1];by_cases hn:((List.range ops.size).any fun j=>(ops[j]?).bind (·.dst) == some s)=true
     · rw[ag hn]
     · rw[af hn]
       refine h.slot s fun j oj hj hdj=>hn ?_
       rw[List.any_eq_true];exact⟨j,List.mem_range.2 (dB.1 hj).1,by rw[hj];simp[hdj]⟩
    exact e3.symm.trans (e4.trans e2)
 have e1:a={ ({ a with tmps:=a0.tmps }:Act)with tmps:=a.tmps }:=rfl;have e2:f={ ({ f with tmps:=a0.tmps }:Act)with tmps:=f.tmps }:=rfl;rw[e1,e2,h.rest,k2,ht]
def jb:List (Option Tmp)→Nat→(Nat→Value)→Act→Act
 | [],_,_,a=>a
 | d :: ds,i,x,a=>jb ds (i+1) x (a.put d (x i))
theorem U4 (ops:Array Oper)(x:Nat→Value):∀(l:List Oper)(k:Nat)(a:Act),(∀i,l[i]? = ops[k+i]?) →
 jb (l.map (·.dst)) k x a=(List.range' k l.length).foldl (fun b j=>b.put ((ops[j]?).bind (·.dst)) (x j)) a
 | [],_,_,_=>rfl
 | o :: l,k,a,h=>by
   have h0:=h 0;simp only[List.getElem?_cons_zero,Nat.add_zero]at h0
   rw [jr,jb,U4 ops x l (k+1) _ (fun i=>by
    have:=h (i+1);rw[List.getElem?_cons_succ]at this;rw[this];congr 1;omega),bf,List.range'_succ,List.foldl_cons, ← h0]
   rfl
theorem yf.U3 {a:Act}{w:World}(h:yf R a0 w0 ops a w)(ds:List (Option Tmp))(hds:ops.toList.map (·.dst)=ds):a=jb ds 0 (fun j=>jc a ((ops[j]?).bind (·.dst))) a0:=by
 have h1:=h.is;rw[← hds,U4 ops _ ops.toList 0 a0 (fun i=>by simp)];rw[List.range_eq_range']at h1
 simpa using h1
theorem Xo {id:Nat}{w1:World}(ds:List (Option Tmp))(oG:Nat)(hds:ops.toList.map (·.dst)=ds)(hm:P.follows .mixedOrders=true)(hw:w1.drew=w0)(hb:IY ops a0.tmps.size=true)(hp:E5 ops M oG=true)(htr:∀u v w,R u v→R v w→R u w)(hrefl:∀u,R u u)(hT:∀i v w w',T i v w→R w w'→T i v w')(hF:∀i∈F,∀v w,T i v w→∃b,v = .pointer (some ⟨b,0,none⟩)∧b<w.heap.size)
 (uK:∀(i:Nat) oi,ops[i]? = some oi→M i=true→∀(x:Nat→Value) w,R w0 w→(∀j∈wT ops oG i,j<ops.size→T j (x j) w) →
   if Region.wanted oi (yielded ops (jb ds 0 x a0).tmps)=true then ∀K:Act→World→Prop,Shut (∀v w',(oi.dst=none→v=undef)→R w w'→T i v w'→(i∈F→∃b,v = .pointer (some ⟨b,0,none⟩)∧w.heap.size≤b)→K ((jb ds 0 x a0).put oi.dst v) w')→Oper.wp P oi (jb ds 0 x a0) w K Q else T i undef w∧i ∉ F)
 (mI:∀(x:Nat→Value) w,R w0 w→(∀j,j<ops.size→M j=true→T j (x j) w)→(∀i∈F,∀j∈F,i≠j→M i=true→M j=true→i<ops.size→j<ops.size→x i≠x j)→wpAny P .any ops Q (xE (zF ops M)) (zF ops M) (jb ds 0 x a0) w):(Code.region id ops true).wp P Q a0 w1:=by
 refine aj3 M F R T a0 w0 oG hm hw hb hp htr hrefl hT hF ?_ ?_
 · intro i oi hi uF a w hs hd
   have ha:=hs.U3 R a0 w0 ds hds
   have h1:=uK i oi hi uF (fun j=>jc a ((ops[j]?).bind (·.dst))) w hs.rel (fun j hj hlt=>by
    have h2:=hd j hj _ (Array.getElem?_eq_getElem hlt);rw[Array.getElem?_eq_getElem hlt];exact h2)
   rw[← ha]at h1;by_cases hw:Region.wanted oi (yielded ops a.tmps)=true
   · rw[ag hw]at h1 ⊢
     exact h1 _ (fun v w' h2 h3 h4 h5=>⟨v,rfl,h2,h3,h4,h5⟩)
   · rw[af hw]at h1 ⊢
     exact h1
 · intro a w hs hd hne
   have ha:=hs.U3 R a0 w0 ds hds
   have h1:=mI (fun j=>jc a ((ops[j]?).bind (·.dst))) w hs.rel (fun j hlt yx=>by
    have h2:=hd j _ (Array.getElem?_eq_getElem hlt) yx;rw[Array.getElem?_eq_getElem hlt];exact h2) (fun i hi j hj hij uF yx hil hjl=>by
    have h2:=hne i hi j hj hij uF yx _ _ (Array.getElem?_eq_getElem hil) (Array.getElem?_eq_getElem hjl);rw[Array.getElem?_eq_getElem hil,Array.getElem?_eq_getElem hjl];exact h2)
   rw[← ha]at h1;exact h1
end
end Go.Proofs.YtbplbjmmfgjdjaaGreatDoor
