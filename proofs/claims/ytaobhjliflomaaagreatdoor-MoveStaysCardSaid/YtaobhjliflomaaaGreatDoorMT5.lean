import Derived.Test.YtaobhjliflomaaaGreatDoorMT4
import Derived.Deep.DeepCutAuto
import Derived.Lib.Builder
import Derived.Laws.Externs
set_option maxRecDepth 100000
set_option maxHeartbeats 64000000
namespace Go.Proofs.YtaobhjliflomaaaGreatDoor
open Go.RowKit
def Jl(w:World)(b:Nat)(own:ByteArray)(mb:Nat):Prop:=w.heap[b]? = some (.cells #[.string own,.map (some mb)] 96)
theorem Jl.cells{w:World}{b:Nat}{own:ByteArray}{mb:Nat}(h:Jl w b own mb):w.cell? ⟨b,0,none⟩=some (.string own)∧w.cell? ⟨b,1,none⟩=some (.map (some mb)):=⟨cell_of_row w b 0 _ _ _ h,cell_of_row w b 1 _ _ _ h⟩
structure uh (w w1:World)(n:Nd)(k:Value)(own:ByteArray)(mb z:Nat):Prop where
 below:Below w.heap.size w w1
 F9:Jl w1 z own mb
 il:ax w1 (z+1) n k
 res:ax w1 (z+2) Nd.zero (.slice none 0 0)
 size:z+3≤w1.heap.size
 low:w.heap.size≤z
theorem adO (w:World)(n:Nd)(A:Option Addr)(m c:Nat)(own:ByteArray)(mb:Nat):∃w1,((w.alloc (.cells #[.string own,.map (some mb)] 96)).alloc (.cells #[.int .i64 n.kind,.int .i64 n.num,.string n.text,.string n.ref.sh,.int .i64 n.ref.c,.int .i64 n.ref.r,.bool n.ref.ac,.bool n.ref.ar,.string n.af.sh,.int .i64 n.af.c,.int .i64 n.af.r,.bool n.af.ac,.bool n.af.ar,.slice A m c] 45)).alloc (.cells oO 45)=w1∧uh w w1 n (.slice A m c) own mb w.heap.size:=by
 refine⟨_,rfl,(((ai _ w).alloc (ah _) _).alloc (by simp) _).alloc (by simp;omega) _, ?_, ?_, ?_,by simp,ah _⟩
 · exact(Below.heap_alloc _ _ _ (by simp;omega)).trans ((Below.heap_alloc _ _ _ (by simp)).trans (ko w _).1)
 · have h:=ax.new (w.alloc (.cells #[.string own,.map (some mb)] 96)) n (.slice A m c)
   rw[kK]at h;exact(Below.heap_alloc _ _ _ (by simp)).trans h
 · have h:=ax.new ((w.alloc (.cells #[.string own,.map (some mb)] 96)).alloc (.cells (bJ n (.slice A m c)) 45)) Nd.zero (.slice none 0 0)
   rw[kK,kK]at h;exact h
theorem uh.call {w w1 w2:World}{n:Nd}{k:Value}{own:ByteArray}{mb z:Nat}(h:uh w w1 n k own mb z)(hb:Below w1.heap.size w1 w2):uh w w2 n k own mb z:=by
 have hs:=h.size;exact⟨h.below.trans (hb.mono h.below.size),(hb.block z (by omega)).trans h.F9,h.il.yt hb,h.res.yt hb,bF h.size hb.size,h.low⟩
theorem uh.put {w w1:World}{n n':Nd}{k k':Value}{own:ByteArray}{mb z:Nat}(h:uh w w1 n k own mb z)(o:Nat)(v:Value)(he:(bJ n k).setIfInBounds o v=bJ n' k'):uh w (w1.setCell ⟨z+1,o,none⟩ v) n' k' own mb z :=
 ⟨h.below.setCell (bF h.low (by show z≤z+1;omega)) _,(fO _ _ _ _ (by show z≠z+1;omega)).trans h.F9,h.il.set o v he,h.res.Gj _ _ (by show z+2≠z+1;omega),by simpa using h.size,h.low⟩
theorem uh.yB {w w1 w2:World}{n:Nd}{k:Value}{own:ByteArray}{mb z:Nat}(h:uh w w1 n k own mb z)(hg:w1.grownBy w2 (some (z+2))):Below w.heap.size w w2:=by
 have hb:=h.below;have hl:=h.low;exact⟨hg.os.trans hb.os,hg.tape.trans hb.tape,hg.output.trans hb.output,bF hb.size hg.size,fun k hk=>(hg.block k (dY hk hb.size) (by intro e;injection e with e;omega)).trans (hb.block k hk)⟩
theorem GG:Tryz.f45.results=#[.cell 4 45]:=by kernel_rfl
theorem Gl {w:World}{b:Nat}{n:Nd}{k:Value}(h:ax w b n k)(fn:Func)(tmps:Array Value)(s:Tmp)(hf:fn.results=#[.cell s 45])(hp:tmps.getD s undef = .pointer (some ⟨b,0,none⟩)) :
 (results fn tmps).run Tryz.prog w = .ok (.agg (bJ n k)) w:=results_cell_row hf tmps w b _ _ _ _ hp h Tryz.underlying45 rfl zX
theorem Xe {n:Nd}{s:Sf}(h:(ja n s).2=true):(ja n s).1.kids=n.kids:=by
 unfold ja at h ⊢;split
 · rename_i g;rw[if_pos g]at h;cases h
 · split <;> rfl
theorem afR:(Tryz.prog.info? 33).map (·.size)=some 6:=by kernel_rfl
theorem U9 {o:Oper}{a:Act}{w:World}{K:Act→World→Prop}{Q:Exit→Act→World→Prop}(x y:Operand)(ho:o.op = .store 33 x y)
 (g:Nat) (s0 s:bu) (hx:a.eval x = .pointer (some ⟨g,0,none⟩)) (hy:a.eval y = .agg (gI s)) (hr:jW w g s0)
 (h:∀w',jW w' g s→w.grownBy w' (some g)→K (a.put o.dst undef) w'):Oper.wp Tryz.prog o a w K Q :=
 wp_store_row 33 x y ho g 33 _ _ hx hy hr rfl afR (bu.one s) (h _ (setRow_heap w g _ _ _ _ hr) (grownBy.GU (grownBy.fo w _) _))
theorem EX {B q:Nat}{a w w':World}(h:Below B a w)(hg:w.grownBy w' (some q))(hq:B≤q)(hB:B≤w.heap.size):Below B a w' :=
 ⟨hg.os.trans h.os,hg.tape.trans h.tape,hg.output.trans h.output,bF h.size hg.size,fun k hk=>(hg.block k (dY hk hB) (by intro e;injection e with e;omega)).trans (h.block k hk)⟩
def zSf:Sf:=⟨⟨#[]⟩,false,[],0,[],0⟩
def yQ:bu:=⟨zSf,none,0,none,0,by decide⟩
theorem ahS(w:World):(zeroValue 33).run Tryz.prog w = .ok (.agg (gI yQ)) w:=by kernel_rfl
theorem abT (xs:List bu)(mb:Nat)(W:ByteArray)(hW:W.size≤maxLen):∃(x:bu)(b:Bool),(∀wq,iO wq mb (qC xs)→(Instr.lookup 94 (.map (some mb)) (.string W) true).run Tryz.prog wq = .ok (.tuple #[.agg #[.string x.s.sh,.slice x.ra x.s.rx.length x.rc,.int .i64 x.s.rn,.slice x.ca x.s.cx.length x.cc,.int .i64 x.s.cn,.bool x.s.gone],.bool b]) wq)∧(b=false→yl xs W=none)∧(b=true→yl xs W=some x):=by
 cases h:yl xs W with
 | none=>exact⟨yQ,false,fun wq hq=>hq.KQ Tryz.underlying94 Tryz.underlying9 (ahS wq) W hW (by unfold qC;rw[h];rfl),fun _=>rfl,fun e=>(by cases e)⟩
 | some x=>exact⟨x,true,fun wq hq=>hq.find Tryz.underlying94 Tryz.underlying9 W hW (.agg (gI x)) (by unfold qC;rw[h];rfl),fun e=>(by cases e),fun _=>rfl⟩
def N9(w:World)(N:Nd)(e:Ending)(w':World):Prop:=∃K,e = .returned (.agg (bJ N K))∧K.oneCell'=true∧Own (aK .i64) 3 w' w.heap.size K N.kids∧Below w.heap.size w w'
theorem acE (w:World)(own:ByteArray)(mb:Nat)(xs:List bu)(n:Nd)(A:Option Addr)(m c:Nat)(hM:iO w mb (qC xs))(hX:∀x∈xs,mq w w.heap.size x)(hO:∀x∈xs,og x.s)(ho:own.size≤maxLen)(hn:CL n)(hk:ig w w.heap.size (.slice A m c) n.kids)(hm:m≤1000000) :
 Calls Tryz.prog 45 #[.agg #[.string own,.map (some mb)],.agg (bJ n (.slice A m c))] w (N9 w (jN own (jq xs) n)):=by
 obtain⟨w1,hw1,hp⟩:=adO w n A m c own mb;have HP:=ae hp;have HX:=ae hX;have HO:=ae hO;have HN:=ae hn;have HM:=ae hM;have HOW:=ae ho
 have AJ:=ae (X9 w1 A m c n.kids (by
  have hb:=hp.below;exact(hk.below hb (ah _)).mono hb.size) hm)
 obtain⟨z,hz⟩:∃z,w.heap.size=z:=⟨_,rfl⟩;have gN:=ae hz;rw[hz]at HP;clear hX hO ho hn hk hM hp hz;have x0:=HP.o.il.cells;show Calls Tryz.prog 45 #[.agg #[.string own,.map (some mb)],.agg #[.int .i64 n.kind,.int .i64 n.num,.string n.text,.string n.ref.sh,.int .i64 n.ref.c,.int .i64 n.ref.r,.bool n.ref.ac,.bool n.ref.ar,.string n.af.sh,.int .i64 n.af.c,.int .i64 n.af.r,.bool n.af.ac,.bool n.af.ar,.slice A m c]] w _;go_enter Tryz.func45,Tryz.ntmps45;go_upto_region 1 with (fail)
 rw[gN.o,show z+1+1=z+2 from rfl];obtain⟨x0,x1,x2,x3,x4,x5,x6,x7,av,aJ,aG,aH,aI,aF⟩:=x0;go_upto_region 2 with (go_at_call 70;((with_reducible refine AJ.o.mono ?_);rintro e w2 ⟨hq,A2,c2,rfl,hs⟩;have dB:=ae (HP.o.call hq);have HS2:=ae hs;have f13:=dB.o.il.uN 13;clear x0 x1 x2 x3 x4 x5 x6 x7 av aJ aG aH aI aF hq hs;obtain⟨x0,x1,x2,x3,x4,x5,x6,x7,av,aJ,aG,aH,aI,aF⟩:=dB.o.il.cells))
 obtain⟨L,hL⟩:∃L,n.kids.length=L:=⟨_,rfl⟩;rw[hL]at HS2 ⊢;have yV:=ae hL;clear hL;have aW:=ae (dB.o.put 13 (.slice A2 L c2) (n':=n) (k' := .slice A2 L c2) rfl);have mh:=ae (show Own (aK .i64) 3 (w2.setCell ⟨z+1,13,none⟩ (.slice A2 L c2)) w1.heap.size (.slice A2 L c2) n.kids from HS2.o.keep fun g h1 h2 _=>fO _ _ _ _ (by have:=HP.o.size;show g≠z+1;omega));clear x0 x1 x2 x3 x4 x5 x6 x7 av aJ aG aH aI aF f13;obtain⟨w3,hw3⟩:∃w3,w2.setCell ⟨z+1,13,none⟩ (.slice A2 L c2)=w3:=⟨_,rfl⟩;rw[hw3]at aW mh ⊢;clear hw3;obtain⟨x0,x1,x2,x3,x4,x5,x6,x7,av,aJ,aG,aH,aI,aF⟩:=aW.o.il.cells;by_cases hno:¬ n.kind=5∧¬ n.kind=6
 · have hv:jN own (jq xs) n=n:=by unfold jN;rw[if_pos hno]
   have dH:=ae hv;have hk5:(n.kind != (5:Int))=true:=bne_iff_ne.2 hno.1;have oD:(n.kind != (6:Int))=true:=bne_iff_ne.2 hno.2;clear hv hno;go_wp2_with (refine oN rfl (.tmp 4) (.tmp 20) rfl (z+2) Nd.zero n (.slice none 0 0) (.slice A2 L c2) rfl rfl aW.o.res rfl ?_;intro w7 k1 k2)
   refine bodyPost_ret (Gl k1 _ _ 4 GG rfl) rfl ?_;rw[dH.o];have hb:=aW.o.yB k2;have hs7:Own (aK .i64) 3 w7 w1.heap.size (.slice A2 L c2) n.kids:=mh.o.keep fun g h1 h2 _=>k2.block g h2 (by have:=HP.o.size;intro e;injection e with e;omega)
   exact⟨_,rfl,rfl,hs7.mono HP.o.below.size,hb⟩
 have zA:(n.kind != (5:Int)&&n.kind != (6:Int))=false:=by
  cases h:(n.kind != (5:Int)&&n.kind != (6:Int))with
  | false=>rfl
  | true=>exact absurd ⟨bne_iff_ne.1 (Bool.and_eq_true_iff.1 h).1,bne_iff_ne.1 (Bool.and_eq_true_iff.1 h).2⟩ hno
 have hv:jN own (jq xs) n=match zn (jq xs) (oH own n)with
  | none=>n
  | some s=>if (ja n s).2=true then (ja n s).1 else zl:=by unfold jN;rw[if_neg hno];rfl
 rw[abR]at hv;have dH:=ae hv;clear hv hno;have hb3:=aW.o.below;have vk:=ae (HM.o.below hb3 HM.o.lt);have ll:=ae (fun wq=>acB wq own mb n)
 have Np:=ae (show(oH own n).size≤maxLen from by
  unfold oH;split
  · exact HOW.o
  · exact bF HN.o.sh (by unfold maxLen;decide))
 obtain⟨W,hW⟩:∃W,oH own n=W:=⟨_,rfl⟩;rw[hW]at dH ll Np
 have Qy:(n.kind != (5:Int))=false∨(n.kind != (5:Int))=true∧(n.kind != (6:Int))=false:=by
  cases h:(n.kind != (5:Int))with
  | false=>exact .inl rfl
  | true=>exact .inr ⟨rfl,by rw[h]at zA;exact zA⟩
 have Wo:=ae Qy;clear zA Qy
 go_cut [19] (fun cv wx=>cv = .bool false∧w3=wx)
 case first =>
  rcases Wo.o with hs5|⟨hs5,hs6⟩
  all_goals go_wp2_with fail
  all_goals go_meet
  all_goals exact⟨rfl,rfl⟩
 case rest =>
 obtain⟨rfl,rfl⟩:=hcut;go_upto_region 4 with fail
 clear x0 x1 x2 x3 x4 x5 x6 x7 av aJ aG aH aI aF;obtain⟨x,b,hlk,hlf,hlt⟩:=abT xs mb W Np.o;have Cq:=ae hlk;have vg:=ae hlf;have Nq:=ae hlt;clear hlk hlf hlt;have l8:=ae (Below.drew (ai w3.heap.size w3));have kN:=ae (fun (wq:World)(hq:Below w3.heap.size w3 wq)=>(show(fun wq=>uh w wq n (.slice A2 L c2) own mb z∧iO wq mb (qC xs)) wq from⟨aW.o.call hq,vk.o.below hq vk.o.lt⟩));have iX:=kN.o _ l8.o
 go_cut [5,6] (fun pv bv wx=>∃(q:Nat)(fJ:World),pv = .pointer (some ⟨q,0,none⟩)∧bv = .bool b∧fJ=wx∧Hid (jW fJ q x)∧Hid (Below w3.heap.size w3 fJ))
 case first =>
  refine wp_region_held_drew (S:=(fun wq=>uh w wq n (.slice A2 L c2) own mb z∧iO wq mb (qC xs))) (by kernel_rfl) iX (fun _ => ?_);show wpAnyH _ _ _ _ _ 13 #[false,false,false,false,false,false,false,false,false,false,false,false,false] _ _;refine hT 0 iX ?_;refine hT 1 iX ?_ (hy:=by(intro gJ hSw;have hz:=hSw.1.F9.cells;go_simp;try(with_reducible rfl)));refine hT 2 iX ?_ (hy:=by(intro gJ hSw;have hz:=hSw.1.F9.cells;go_simp;try(with_reducible rfl)));refine hT 3 iX ?_;refine hT 4 iX ?_ (hy:=by(intro gJ hSw;have hz:=hSw.1.il.cells;go_simp;try(with_reducible rfl)));refine hP 5 10 (fun K hK => ?_) (fun K hK => ?_)
  · go_simp
    go_at_call 71;(with_reducible refine(ll.o _).mono ?_);rintro e w4 ⟨rfl,h1⟩;have H4:=ae (l8.o.trans (h1.mono l8.o.size));clear h1;dsimp only;have q8:=kN.o _ H4.o;refine hK.o _ _ q8 ?_;clear hK K;simp only[Act.put,sT,fG,fF];refine hT 6 q8 ?_ (hy:=by(intro gJ hSw;have hz:=Cq.o gJ hSw.2;go_simp;try(with_reducible rfl)));refine hT 7 q8 ?_;refine hT 8 q8 ?_;refine hT 9 q8 ?_;refine hO 10 (fun K hK => ?_);go_simp;have y9:=ae (H4.o.alloc H4.o.size (.cells (gI yQ) 33));have Jj:=ae (jW.new w4 yQ);have IL:=ae H4.o.size;refine hK.o _ _ (kN.o _ y9.o) ?_;clear hK K;simp only[Act.put,sT,fG,fF];refine hO 11 (fun K hK => ?_);refine U9 (.tmp 5) (.tmp 29) rfl w4.heap.size yQ x rfl rfl Jj.o ?_;intro w7 k1 k2;have qO:=ae (EX y9.o k2 IL.o y9.o.size);have tV:=kN.o _ qO.o;refine hK.o _ _ tV ?_;clear hK K;simp only[Act.put];refine hT 12 tV ?_;refine wpAnyH_done (by kernel_rfl) ?_ _;go_wp2_with fail
    go_meet
    case rel=>exact⟨_,_,rfl,rfl,rfl,ae k1,qO⟩
  · go_simp
    have wF:=ae (l8.o.alloc (ah _) (.cells (gI yQ) 33));refine hK.o _ _ (kN.o _ wF.o) ?_;clear hK K;simp only[Act.put,sT,fG,fF];refine hO 5 (fun K hK => ?_);go_simp;go_at_call 71;(with_reducible refine(ll.o _).mono ?_);rintro e w5 ⟨rfl,h1⟩;have y9:=ae (wF.o.trans (h1.mono wF.o.size));have Jj:=ae ((jW.new w3.drew yQ).over h1);have IL:=ae (ah w3.heap.size);clear h1;dsimp only;have AR:=kN.o _ y9.o;refine hK.o _ _ AR ?_;clear hK K;simp only[Act.put,sT,fG,fF];refine hT 6 AR ?_ (hy:=by(intro gJ hSw;have hz:=Cq.o gJ hSw.2;go_simp;try(with_reducible rfl)));refine hT 7 AR ?_;refine hT 8 AR ?_;refine hT 9 AR ?_;refine hO 11 (fun K hK => ?_);refine U9 (.tmp 5) (.tmp 29) rfl w3.heap.size yQ x rfl rfl Jj.o ?_;intro w7 k1 k2;have qO:=ae (EX y9.o k2 IL.o y9.o.size);have tV:=kN.o _ qO.o;refine hK.o _ _ tV ?_;clear hK K;simp only[Act.put];refine hT 12 tV ?_;refine wpAnyH_done (by kernel_rfl) ?_ _;go_wp2_with fail
    go_meet
    case rel=>exact⟨_,_,rfl,rfl,rfl,ae k1,qO⟩
 case rest =>
 obtain⟨q,fJ,rfl,rfl,rfl,Ws,Nb⟩:=hcut;have p8:=ae (aW.o.call Nb.o);have wU:=HP.o.size;have NC:=ae (mh.o.below Nb.o (ah _));have NU:=ae (show z+2<w1.heap.size from by omega);cases b with
 | false =>
   have hv:=dH.o;rw[vg.o rfl]at hv;have EA:=ae (show jN own (jq xs) n=n from hv);clear hv;obtain⟨x0,x1,x2,x3,x4,x5,x6,x7,av,aJ,aG,aH,aI,aF⟩:=p8.o.il.cells;go_wp2_with (refine oN rfl (.tmp 4) (.tmp 33) rfl (z+2) Nd.zero n (.slice none 0 0) (.slice A2 L c2) rfl rfl p8.o.res rfl ?_;intro w7 k1 k2)
   refine bodyPost_ret (Gl k1 _ _ 4 GG rfl) rfl ?_;rw[EA.o];have hs7:Own (aK .i64) 3 w7 w1.heap.size (.slice A2 L c2) n.kids:=NC.o.keep fun g h1 h2 _=>k2.block g h2 (by have:=NU.o;intro e;injection e with e;omega)
   exact⟨_,rfl,rfl,hs7.mono HP.o.below.size,p8.o.yB k2⟩
 | true =>
   have hv:=dH.o;rw[Nq.o rfl]at hv;have EA:=ae (show jN own (jq xs) n=if (ja n x.s).2=true then (ja n x.s).1 else zl from hv);have bW:=abS (Nq.o rfl);clear hv;have aU:=ae (show Calls Tryz.prog 72 #[.agg #[.int .i64 n.kind,.int .i64 n.num,.string n.text,.string n.ref.sh,.int .i64 n.ref.c,.int .i64 n.ref.r,.bool n.ref.ac,.bool n.ref.ar,.string n.af.sh,.int .i64 n.af.c,.int .i64 n.af.r,.bool n.af.ac,.bool n.af.ar,.slice A2 L c2],.agg #[.string x.s.sh,.slice x.ra x.s.rx.length x.rc,.int .i64 x.s.rn,.slice x.ca x.s.cx.length x.cc,.int .i64 x.s.cn,.bool x.s.gone]] fJ (Aw fJ n x.s (.slice A2 L c2))from Xd fJ n A2 L c2 x ((HX.o x bW).lift p8.o.below) (HO.o x bW) HN.o);clear bW;obtain⟨x0,x1,x2,x3,x4,x5,x6,x7,av,aJ,aG,aH,aI,aF⟩:=p8.o.il.cells;obtain⟨y0,y1,y2,y3,y4,fq⟩:=Ws.o.cells;dsimp only[bu.rv,bu.cv]at y1 y3;obtain⟨ok,hok⟩:∃ok,(ja n x.s).2=ok:=⟨_,rfl⟩;have kM:=ae hok;unfold Aw at aU;rw[hok]at aU;clear hok
   go_upto_region 8 with (first
    | (go_at_call 72;((with_reducible refine aU.o.mono ?_);rintro e w8 ⟨M,K0,rfl,hM,hK1,hq⟩;have lh:=ae (p8.o.call hq);have VH:=ae hM;have VB:=ae hK1;have Vk:=ae hq;clear hM hK1 hq x0 x1 x2 x3 x4 x5 x6 x7 av aJ aG aH aI aF y0 y1 y2 y3 y4 fq))
    | (refine oN rfl (.tmp 7) (.tmp 38) rfl w8.heap.size Nd.zero M (.slice none 0 0) K0 rfl rfl (ax.new w8 Nd.zero (.slice none 0 0)) VB.o ?_;intro iN k1 k2))
   have Na:=ae (EX ((ai w8.heap.size w8).alloc (ah _) (.cells (bJ Nd.zero (.slice none 0 0)) 45)) k2 (ah _) (by simp));have lQ:=ae (lh.o.call Na.o);have rQ:=ae ((NC.o.below Vk.o (ah _)).below Na.o (ah _));have mf:=ae k1;clear k1 k2;cases ok with
   | true =>
     obtain⟨hM1,rfl⟩:=VH.o rfl;have jU:=ae (show M.kids=n.kids from by rw[hM1];exact Xe kM.o);have Er:=ae hM1.symm;clear hM1;obtain⟨x0,x1,x2,x3,x4,x5,x6,x7,av,aJ,aG,aH,aI,aF⟩:=mf.o.cells;go_wp2_with (refine oN rfl (.tmp 4) (.tmp 43) rfl (z+2) Nd.zero M (.slice none 0 0) (.slice A2 L c2) rfl rfl lQ.o.res rfl ?_;intro w7 k1 k2)
     refine bodyPost_ret (Gl k1 _ _ 4 GG rfl) rfl ?_;rw[EA.o,if_pos kM.o,Er.o];have hs7:Own (aK .i64) 3 w7 w1.heap.size (.slice A2 L c2) n.kids:=rQ.o.keep fun g h1 h2 _=>k2.block g h2 (by have:=NU.o;intro e;injection e with e;omega)
     exact⟨_,rfl,rfl,by rw[jU.o];exact hs7.mono HP.o.below.size,lQ.o.yB k2⟩
   | false =>
     go_wp2_with (refine oN rfl (.tmp 4) (.tmp 42) rfl (z+2) Nd.zero zl (.slice none 0 0) (.slice none 0 0) rfl rfl lQ.o.res rfl ?_;intro w7 k1 k2)
     refine bodyPost_ret (Gl k1 _ _ 4 GG rfl) rfl ?_;rw[EA.o,if_neg (by rw[kM.o];decide)];exact⟨_,rfl,rfl,Own.nil _ _ _ _,lQ.o.yB k2⟩
theorem afd (n:Nat)(hn:n≤1000)(w:World):(Instr.makeSlice 25 (.int .i64 (n:Int)) (.int .i64 (n:Int))).run Tryz.prog w = .ok (.slice (some ⟨w.heap.size,0,none⟩) n n) (w.alloc (.cells (madeCells oO (n*14)) 45)):=by
 have ZM:(Tryz.prog.info? 45).map (fun i=>(i.zero,i.size,i.bytes))=some (some (.agg oO),14,136):=by kernel_rfl
 obtain⟨i,hi,hzz⟩:=Option.map_eq_some_iff.1 ZM;simp only[bg]at hzz;obtain⟨hz,hs,hb⟩:=hzz;have hr:=run_make (P:=Tryz.prog) w 25 45 i _ Tryz.underlying25 hi hz .i64 .i64 n n (by omega) (Int.le_refl _) (by rw[hb];omega) (by omega);simp only[Int.toNat_natCast,hs]at hr;exact hr
theorem ab' (w:World)(n:Nat):(w.alloc (.cells (madeCells oO (n*14)) 45)).there w.heap.size 0 (n*14):=fun j hj=>by
 have hb:=(ko w (.cells (madeCells oO (n*14)) 45)).1;refine⟨?_,frozen_of_row _ _ _ _ _ hb⟩;rw[cell_of_row _ _ _ _ _ _ hb];unfold madeCells;rw[Array.getElem?_map,Array.getElem?_range,if_pos (by omega)];rfl
theorem TY (b:Nat):∀(vs:List Value)(o:Nat)(w:World)(k:Nat),k≠b→(w.setCells b o vs).heap[k]? = w.heap[k]?
 | [],_,_,_,_=>rfl
 | v :: r,o,w,k,h=>by rw[World.setCells,TY b r (o+1) _ k h];exact fO _ _ _ _ h
theorem T9 (b:Nat):∀(vs:List Value)(o:Nat)(w:World),(w.setCells b o vs).heap.size=w.heap.size
 | [],_,_=>rfl
 | v :: r,o,w=>by rw[World.setCells,T9 b r (o+1)];simp
theorem TW {B:Nat}{a:World}(b:Nat)(hB:B≤b):∀(vs:List Value)(o:Nat)(w:World),Below B a w→Below B a (w.setCells b o vs)
 | [],_,_,h=>h
 | _ :: r,o,_,h=>TW b hB r (o+1) _ (h.setCell hB _)
structure wJ (w:World)(T n:Nat)(done:List (Nd × Value)):Prop where
 th:w.there T 0 (n*14)
 at_:∀(j:Nat) p,done[j]? = some p→w.rangeAt T (j*14) (bJ p.1 p.2).toList
 kids:∀p∈done,Own (aK .i64) 3 w (T+1) p.2 p.1.kids
 lt:T<w.heap.size
theorem wJ.below {w w':World}{T n:Nat}{done:List (Nd × Value)}(h:wJ w T n done)(hb:Below w.heap.size w w'):wJ w' T n done :=
 ⟨fun j hj=>by rw[fV (a:=⟨T,0+j,none⟩) (hb.block T h.lt)];exact⟨(h.th j hj).1,(World.frozen?_of_block (w:=w) (a:=⟨T,0+j,none⟩) (hb.block T h.lt)).trans (h.th j hj).2⟩,
  fun j p hp q u hu=>(hb.cell (p:=⟨T,_,none⟩) h.lt).trans (h.at_ j p hp q u hu),fun p hp=>(h.kids p hp).below hb (ah _),dY h.lt hb.size⟩
theorem wJ.put {w:World}{T n:Nat}{done:List (Nd × Value)}(h:wJ w T n done)(hn:done.length<n)(N:Nd)(K:Value)(hk:Own (aK .i64) 3 w (T+1) K N.kids):wJ (w.setCells T (done.length*14) (bJ N K).toList) T n (done++[(N,K)]):=by
 have hth:w.there T (done.length*14) 14:=fun j hj=>by
  have:=h.th (done.length*14+j) (by omega);rwa[Nat.zero_add]at this
 refine⟨World.there_setCells h.th _ _ _,fun j p hp => ?_,fun p hp => ?_,by rw[T9];exact h.lt⟩
 · rw [List.getElem?_append]at hp
   split at hp
   · rename_i hj
     exact World.rangeAt_setCells_apart (h.at_ j p hp) _ _ _ (.inr (.inl (by show j*14+14≤_;omega)))
   · rename_i hj
     have e:=(dW.1 hp).1;have hj2:j=done.length:=by simp at e;omega
     subst hj2;rw[Nat.sub_self]at hp;have hp2:(N,K)=p:=by simpa using hp
     subst hp2;exact World.rangeAt_setCells_same _ _ _ _ hth
 · have hp2:Own (aK .i64) 3 w (T+1) p.2 p.1.kids:=by
    rcases List.mem_append.1 hp with hp|hp
    · exact h.kids p hp
    · rw[List.mem_singleton.1 hp];exact hk
   exact hp2.keep fun g h1 h2 _=>TY T _ _ _ g (by omega)
theorem wJ.sn {w:World}{T n:Nat}{done:List (Nd × Value)}(h:wJ w T n done)(hl:done.length=n):eF w w.heap.size (.slice (some ⟨T,0,none⟩) n n) done:=by
 refine⟨⟨_,n,by rw[hl],.inr ⟨T,0,rfl,h.lt,fun i m k hi j hj => ?_⟩⟩,fun p hp=>(h.kids p hp).siI⟩;have hj2:(bJ m k).toList[j]? = some ((bJ m k).toList[j]'hj):=dm _;rw[hj2,Nat.zero_add];exact h.at_ i _ hi j _ hj2
theorem eF.range {w:World}{B:Nat}{A:Option Addr}{n cap:Nat}{l:List (Nd × Value)}(h:eF w B (.slice A n cap) l){i:Nat}{p:Nd × Value}(hi:l[i]? = some p):∃pb po,A=some ⟨pb,po,none⟩∧pb<B∧w.rangeAt pb (po+i*14) (bJ p.1 p.2).toList:=by
 obtain⟨⟨A',oZ,e,h1⟩,_⟩:=h;injection e with e1 e2 e3;subst e1;rcases h1 with rfl|⟨pb,po,h1,h2,h3⟩
 · cases hi
 · exact ⟨pb,po,h1,h2,fun j v hv=>by
    have hj:j<14:=(dW.1 hv).1;rw[h3 i p.1 p.2 hi j hj];exact hv⟩
structure N8 (l:List (Nd × Value)):Prop where
 len:l.length≤1000
 sm:∀p∈l,CL p.1
 kids:∀p∈l,p.1.kids.length≤1000000
theorem acj (w:World)(own:ByteArray)(mb:Nat)(xs:List bu)(A:Option Addr)(n cap:Nat)(l:List (Nd × Value))(hM:iO w mb (qC xs))(hX:∀x∈xs,mq w w.heap.size x)(hO:∀x∈xs,og x.s)(ho:own.size≤maxLen)(hs:eF w w.heap.size (.slice A n cap) l)(hl:l.length=n)(hi:N8 l) :
 Calls Tryz.prog 43 #[.slice A n cap,.func (.func 45) #[.agg #[.string own,.map (some mb)]] #[]] w fun e w'=>∃done,e = .returned (.slice (some ⟨w.heap.size,0,none⟩) n n)∧eF w' w'.heap.size (.slice (some ⟨w.heap.size,0,none⟩) n n) done∧done.map (·.1)=mF own (jq xs) (l.map (·.1))∧Below w.heap.size w w':=by
 have HM:=ae hM;have HX:=ae hX;have HO:=ae hO;have HOW:=ae ho;have HS:=ae hs;have HL:=ae hl;have HI:=ae hi;have hn:n≤1000:=by have:=hi.len;omega
 clear hM hX hO ho hs hl hi;have hmk:=fun w=>afd n hn w
 have HT:=ae (ab' w n);have HB0:=ae ((ai w.heap.size w).alloc (ah _) (.cells (madeCells oO (n*14)) 45));have bY:=ae (kK w (.cells (madeCells oO (n*14)) 45));go_enter Tryz.func43,Tryz.ntmps43;go_upto_region 3 with (fail)
 obtain⟨w1,hw1⟩:∃w1,w.alloc (.cells (madeCells oO (n*14)) 45)=w1:=⟨_,rfl⟩;rw[hw1]at HT HB0 bY ⊢;clear hw1 hmk;obtain⟨T,PO⟩:∃T,w.heap.size=T:=⟨_,rfl⟩;have jf:=ae PO;rw[PO]at HT HB0 bY ⊢
 go_loopw [13] (fun iv wr=>∃(i:Nat)(done:List (Nd × Value)),i≤n∧iv = .int .i64 (i:Int)∧Hid (done.length=i)∧Hid (done.map (·.1)=(mF own (jq xs) (l.map (·.1))).take i)∧Hid (wJ wr T n done)∧Hid (Below T w wr))
  (fun iv _=>n - (intOf iv).toNat)
 case atStart=>exact⟨0,[],dV _,rfl,ae rfl,ae rfl,ae ⟨HT.o,fun j p h=>(by cases h),fun p h=>(by cases h),by have:=bY.o;omega⟩,HB0⟩
 case round =>
  obtain⟨i,done,hin,rfl,HD,Nu,HR,HB⟩:=hrel;by_cases hlt:i<n
  · have hii:(i:Int)<(n:Int):=by omega
    have hi0:(0:Int)≤(i:Int):=by omega
    obtain⟨⟨q,k⟩,hq⟩:∃p,l[i]? = some p:=⟨_,dm (by rw[HL.o];exact hlt)⟩;obtain⟨pb,po,rfl,hpb,hrg⟩:=HS.o.range hq;have bW:=fu hq;have hpT:pb<T:=by rw[← jf.o];exact hpb
    have V3:=ae (show wr.rangeAt pb (po+i*14) (bJ q k).toList from fun j v hv=>(HB.o.cell (p:=⟨pb,_,none⟩) hpT).trans (hrg j v hv));have hbw:w.heap.size≤wr.heap.size:=HB.o.size;have hki:=(HS.o.2 _ bW);obtain⟨A2,c2,lv,_⟩:=hki;obtain⟨L,hL⟩:∃L,q.kids.length=L:=⟨_,rfl⟩;have lv:k = .slice A2 q.kids.length c2:=lv;rw[hL]at lv;subst lv;have hq1:=HI.o.sm _ bW;have hq2:q.kids.length≤1000000:=HI.o.kids _ bW
    have gq:=ae (fun (wq:World)(hb:Below wr.heap.size wr wq)=>(show Calls Tryz.prog 45 #[.agg #[.string own,.map (some mb)],.agg #[.int .i64 q.kind,.int .i64 q.num,.string q.text,.string q.ref.sh,.int .i64 q.ref.c,.int .i64 q.ref.r,.bool q.ref.ac,.bool q.ref.ar,.string q.af.sh,.int .i64 q.af.c,.int .i64 q.af.r,.bool q.af.ac,.bool q.af.ar,.slice A2 L c2]] wq (N9 wq (jN own (jq xs) q))from by
     have hbb:Below w.heap.size w wq:=by
      have h0:=HB.o;rw[← jf.o]at h0;exact h0.trans (hb.mono hbw)
     refine acE wq own mb xs q A2 L c2 (HM.o.below hbb HM.o.lt) (fun x hx=>(HX.o x hx).lift hbb) HO.o HOW.o hq1 ?_ (by omega);exact((HS.o.2 _ bW).below hbb (ah _)).mono hbb.size))
    have aM:=ae (show(mF own (jq xs) (l.map (·.1))).take (i+1)=(mF own (jq xs) (l.map (·.1))).take i++[jN own (jq xs) q]from by
     rw[List.take_add_one];unfold mF;rw[iw,iw,hq];rfl)
    clear hrg bW hq hq1 hq2 hL
    go_upto_region 5 with (first
     | (refine wpList_load_mid rfl 45 (.tmp 16) rfl pb (po+i*14) rfl (bJ q (.slice A2 L c2)).toList _ V3.o Tryz.underlying45 rfl zX ?_)
     | (refine oN rfl (.tmp 7) (.tmp 17) rfl wr.heap.size Nd.zero q (.slice none 0 0) (.slice A2 L c2) rfl rfl (ax.new wr Nd.zero (.slice none 0 0)) rfl ?_;intro w4 k1 k2))
    have yY:=ae k1;have dJ:=ae (EX ((ai wr.heap.size wr).alloc (ah _) (.cells (bJ Nd.zero (.slice none 0 0)) 45)) k2 (ah _) (by simp));clear k1 k2;simp only[Act.put];obtain⟨x0,x1,x2,x3,x4,x5,x6,x7,av,aJ,aG,aH,aI,aF⟩:=yY.o.cells;obtain⟨N,hN⟩:∃N,jN own (jq xs) q=N:=⟨_,rfl⟩;rw[hN]at gq aM;clear hN
    go_upto_region 6 with (first
     | (go_at_call 45;((with_reducible refine(gq.o _ dJ.o).mono ?_);rintro e w5 ⟨K0,rfl,hK1,hkk,hq⟩;have vz:=ae ((HR.o.below dJ.o).below hq);have kv:=ae (hkk.mono (bF HR.o.lt dJ.o.size));have lN:=ae hK1;have eP:=ae (dJ.o.trans (hq.mono dJ.o.size));clear hK1 hkk hq;have Wv:=ae (show w5.there T (i*14) 14 from fun j hj=>(by have h:=vz.o.th (i*14+j) (by omega);rwa[Nat.zero_add]at h))))
     | (refine wpList_store_mid rfl 45 (.tmp 23) (.tmp 22) rfl T (i*14) (bJ N K0) rfl rfl Wv.o zX (Array.all_eq_true_iff_forall_mem.2 (fun v hv=>Gh N K0 lN.o v (by simpa using hv))) ?_))
    have hd:=HD.o;subst hd;have Cy:=ae (vz.o.put hlt N K0 kv.o);have nU:=ae (TW (B:=T) (a:=w) T (ah _) (bJ N K0).toList (done.length*14) w5 (HB.o.trans (eP.o.mono (Nat.le_of_lt HR.o.lt))));clear x0 x1 x2 x3 x4 x5 x6 x7 av aJ aG aH aI aF;obtain⟨w6,oF⟩:∃w6,w5.setCells T (done.length*14) (bJ N K0).toList=w6:=⟨_,rfl⟩;rw[oF]at Cy nU ⊢;clear oF;simp only[Act.put];go_wp2_with fail
    go_roundw
    case rel=>exact⟨done.length+1,done++[(N,K0)],by omega,by go_num,ae (by rw[ak];rfl),ae (by rw[iy,Nu.o,aM.o];rfl),Cy,nU⟩
    case measure=>simp[intOf];omega
  · have hii:¬ (i:Int)<(n:Int):=by omega
    have ZL:i=n:=by omega
    subst ZL;go_wp2_with fail
    go_ret;have k1:done.map (·.1)=mF own (jq xs) (l.map (·.1)):=by rw[Nu.o];exact pW (by rw[RU,fw,HL.o];exact ah _)
    exact⟨rfl,done,HR.o.sn HD.o,k1,HB.o⟩
def jo:List ByteArray:=[⟨#[61]⟩,⟨#[60,62]⟩,⟨#[60]⟩,⟨#[60,61]⟩,⟨#[62]⟩,⟨#[62,61]⟩,⟨#[38]⟩,⟨#[43]⟩,⟨#[45]⟩,⟨#[42]⟩,⟨#[47]⟩]
def rk(o:Nat):Nat:=if o<6 then 0 else if o<7 then 1 else if o<9 then 2 else 3
theorem LU (o:Nat):rk o≤3:=by
 unfold rk;by_cases h1:o<6
 · rw[if_pos h1];omega
 · rw [if_neg h1]
   by_cases h2:o<7
   · rw[if_pos h2];omega
   · rw[if_neg h2]
     by_cases h3:o<9
     · rw[if_pos h3];omega
     · rw[if_neg h3];omega
theorem La (t:ag)(ts:List ag)(o:Nat)(ho:o<11)(hk:t.kind=5)(ht:t.text=jo.getD o ⟨#[]⟩)(n:Nat)(hn:n≤3):eH n (t :: ts)=if rk o=n then 9+(o:Int)else 0:=by
 have hs:∀s:ByteArray,au s (t :: ts)=decide (jo.getD o ⟨#[]⟩=s):=by
  intro s;unfold au;simp only[hk,ht,decide_true,Bool.true_and]
 unfold eH;simp only[hs];have key:∀n:Nat,n<4→∀o:Nat,o<11→(match (fC n).find? (fun p=>decide (jo.getD o ⟨#[]⟩=p.1))with|some p=>p.2|none=>0)=if rk o=n then 9+(o:Int)else 0:=by decide +kernel
 exact key n (by omega) o ho
def Stop(n:Nat)(ts:List ag):Prop:=∀m,n≤m→m≤3→eH m ts=0
def yj(p:Nat)(l:List Int):Option (List ag):=eB l.length p l
theorem abM(p:Nat):yj p []=some [ag.zero.goto p]:=by unfold yj eB;rfl
theorem abN (p:Nat)(x:Int)(l:List Int)(t:ag)(n:Nat)(hx:x≠32)(h:eO (x :: l)=some (t,n)):yj p (x :: l)=(yj (p+n) ((x :: l).drop n)).map (t.goto p :: ·):=by
 have hn:=qK _ _ _ h;unfold yj;rw[aO,rC,if_neg hx,h];simp only;rw[FY _ ((x :: l).drop n).length _ _ (by rw[List.length_drop];simp only[aO];omega) (ah _)]
theorem abL (p:Nat)(a b:List Int)(t:ag)(ha:∀x,a.head? = some x→x≠32)(h:eO (a++b)=some (t,a.length)):yj p (a++b)=(yj (p+a.length) b).map (t.goto p :: ·):=by
 cases a with
 | nil=>have:=(qK _ _ _ h).1;simp at this
 | cons x a =>
   rw[cu]at h ⊢;rw[abN p x (a++b) t _ (ha x rfl) h];congr 2;rw[← cu,List.drop_left]
theorem ag5 (v:Nat)(hv:v≤9223372036854775807)(b:List Int)(hb:∀x,b.head? = some x→isNum x=false):eO (aQ v++b)=some ({ ag.zero with kind:=1,num:=(v:Int) },(aQ v).length):=by
 cases hd:aQ v with
 | nil=>exact absurd hd (sG v)
 | cons x l =>
   have aX:=qy v;rw[hd]at aX;have hx:=aX x (by simp);rw[cu,qJ,if_pos hx, ← cu];unfold kF;rw[uT isNum (x :: l) b aX hb];have hval:cK (x :: l)=v:=by rw[← hd];exact Hg v
   rw[hval]
   have hno:¬ ((1<(x :: l).length∧(x :: l++b).head? = some 48)∨9223372036854775807<(v:Int)):=by
    rintro(⟨h1,h2⟩|h)
    · by_cases h10:v<10
      · rw[ou v h10]at hd
        injection hd with _ hl;rw[← hl]at h1;simp at h1
      · have:=Yu (v+1) v (by omega) (by omega)
        rw[hd]at this;exact this h2
    · omega
   rw[if_neg hno]
def qD(o:Nat):List Int:=[[61],[60,62],[60],[60,61],[62],[62,61],[38],[43],[45],[42],[47]].getD o []
def gP(s:ByteArray)(t:ag):Prop:=t.kind=5∧t.text=s
theorem gP.sign {s:ByteArray}{t:ag}(h:gP s t)(u:ByteArray)(ts:List ag):au u (t :: ts)=decide (s=u):=by
 unfold au;simp only[h.1,h.2,decide_true,Bool.true_and]
inductive nZ:List ag→Nd→Prop
 | num (t:ag)(h:t.kind=1):nZ [t] { Nd.zero with kind:=1,num:=t.num }
 | text (t:ag)(h:t.kind=2):nZ [t] { Nd.zero with kind:=2,text:=t.text }
 | yes (t:ag)(h:t.kind=3)(g:t.text=⟨#[84,82,85,69]⟩):nZ [t] { Nd.zero with kind:=3,num:=1 }
 | no (t:ag)(h:t.kind=3)(g:t.text=⟨#[70,65,76,83,69]⟩):nZ [t] { Nd.zero with kind:=3 }
 | dead (t:ag)(h:t.kind=6):nZ [t] { Nd.zero with kind:=4 }
 | ref (t:ag)(h:t.kind=4):nZ [t] { Nd.zero with kind:=5,ref:=t.dw }
 | range (t c u:ag)(h:t.kind=4)(hc:gP ⟨#[58]⟩ c)(g:u.kind=4)(hs:eD t.dw u.dw=true):nZ [t,c,u] { Nd.zero with kind:=6,ref:=t.dw,af:=u.dw }
def Wr (n rk d:Nat)(ts:List ag)(d':Nat)(ts':List ag):Prop :=
 (n≤rk∧ts'=ts∧d'=d)∨(rk<n∧d'=d+1∧∃l r,gP ⟨#[40]⟩ l∧gP ⟨#[41]⟩ r∧ts'=l :: (ts++[r]))
inductive Sh:Bool→Nat→List Nd→List Int→List ag→Nat→Nat→Prop
 | leaf (base:Nat)(ts:List ag)(nd:Nd)(h:nZ ts nd):Sh false base [nd] [(base:Int)] ts 5 0
 | neg (base:Nat)(ns:List Nd)(a:Int)(ts:List ag)(rk d:Nat)(h:Sh false base ns [a] ts rk d)(m:ag)(hm:gP ⟨#[45]⟩ m)(d':Nat)(ts':List ag)(hw:Wr 4 rk d ts d' ts') :
    Sh false base (ns++[{ Nd.zero with kind:=8,kids:=[a] }]) [((base+ns.length:Nat):Int)] (m :: ts') 4 (d'+1)
 | op (base o:Nat)(ho:o<11)(ns ms:List Nd)(a b:Int)(ts us:List ag)(oK lJ d1 d2:Nat)(h:Sh false base ns [a] ts oK d1)(g:Sh false (base+ns.length) ms [b] us lJ d2)
    (s:ag) (hs:gP (jo.getD o ⟨#[]⟩) s) (e1 e2:Nat) (ts' j6:List ag) (hw:Wr (rk o) oK d1 ts e1 ts') (gw:Wr (rk o+1) lJ d2 us e2 j6) :
    Sh false base (ns++(ms++[{ Nd.zero with kind:=9+(o:Int),kids:=[a,b] }])) [((base+(ns.length+ms.length):Nat):Int)] (ts'++s :: j6) (rk o) (max e1 e2)
 | call (base:Nat)(ns:List Nd)(ks:List Int)(ts:List ag)(d:Nat)(h:Sh true base ns ks ts 0 d)(t l r:ag)(ht:t.kind=3)(h1:t.text≠⟨#[84,82,85,69]⟩)(h2:t.text≠⟨#[70,65,76,83,69]⟩)(hl:gP ⟨#[40]⟩ l)(hr:gP ⟨#[41]⟩ r) :
    Sh false base (ns++[{ Nd.zero with kind:=7,text:=t.text,kids:=ks }]) [((base+ns.length:Nat):Int)] (t :: l :: (ts++[r])) 5 (d+1)
 | none (base:Nat):Sh true base [] [] [] 0 0
 | one (base:Nat)(ns:List Nd)(a:Int)(ts:List ag)(rk d:Nat)(h:Sh false base ns [a] ts rk d):Sh true base ns [a] ts 0 d
 | and (base:Nat)(ns ms:List Nd)(ks:List Int)(b:Int)(ts us:List ag)(rk d1 d2:Nat)(h:Sh true base ns ks ts 0 d1)(hk:ks≠[])(c:ag)(hc:gP ⟨#[44]⟩ c)(g:Sh false (base+ns.length) ms [b] us rk d2) :
    Sh true base (ns++ms) (ks++[b]) (ts++c :: us) 0 (max d1 d2)
def At (n deep base:Nat)(ts:List ag)(ns:List Nd)(a:Nat)(r:List ag):Prop :=
 if n≤4 then ∃f,dX f n deep base ts=some (.ok (ns,a,r))else ∃f,iU f deep base ts=some (.ok (ns,a,r))
def Goes (n deep base:Nat)(ts:List ag)(ns:List Nd)(a:Nat)(r:List ag):Prop :=
 ∃uO a1 r1,At (n+1) deep base ts uO a1 r1∧∀f y,gZ f n deep base ns a r=some y→∃g,gZ g n deep base uO a1 r1=some y
theorem ae5 {n deep base:Nat}{ns:List Nd}{a:Nat}{r:List ag}(h:eH n r=0):gZ 1 n deep base ns a r=some (.ok (ns,a,r)):=by
 rw[pG,if_pos h]
theorem Goes.at {n deep base:Nat}{ts:List ag}{ns:List Nd}{a:Nat}{r:List ag}(hn:n≤3)(h:Goes n deep base ts ns a r)(hs:Stop n r):At n deep base ts ns a r:=by
 obtain⟨uO,a1,r1,h1,h2⟩:=h;obtain⟨g,hg⟩:=h2 1 _ (ae5 (hs n (ah _) hn));unfold At at h1 ⊢;rw[if_pos (by omega)]at h1 ⊢;obtain⟨f,hf⟩:=h1;refine⟨max f g+1, ?_⟩;rw[kR,if_pos hn,wM (Nat.le_max_left f g) hf];exact DR (Nat.le_max_right f g) hg
theorem At.goes{n deep base:Nat}{ts:List ag}{ns:List Nd}{a:Nat}{r:List ag}(h:At (n+1) deep base ts ns a r):Goes n deep base ts ns a r:=⟨ns,a,r,h,fun f _ hy=>⟨f,hy⟩⟩
theorem At.four {deep base:Nat}{ts:List ag}{ns:List Nd}{a:Nat}{r:List ag}(h:At 5 deep base ts ns a r)(hm:au ⟨#[45]⟩ ts=false):At 4 deep base ts ns a r:=by
 unfold At at h ⊢;rw[if_neg (by omega)]at h;rw[if_pos (by omega)];obtain⟨f,hf⟩:=h;refine⟨f+1, ?_⟩;rw[kR,if_neg (by omega),hm,if_neg (by simp)];exact hf
theorem At.down {deep base:Nat}{ts:List ag}{ns:List Nd}{a:Nat}{r:List ag}(n:Nat):∀(k:Nat),n+k≤5→At (n+k) deep base ts ns a r→Stop n r→(n+k=5→au ⟨#[45]⟩ ts=false)→At n deep base ts ns a r
 | 0,_,h,_,_=>h
 | k + 1,hk,h,hs,hm=>by
   have h1:At (n+k) deep base ts ns a r:=by
    by_cases c:n+(k+1)=5
    · rw[c]at h
      have:=h.four (hm c);rwa[show n+k=4 by omega]
    · exact Goes.at (by omega) (At.goes h) (fun m h1 h2=>hs m (by omega) h2)
   exact At.down n k (by omega) h1 hs (fun h=>by omega)
structure lD (base:Nat)(ns:List Nd)(a:Nat)(ts:List ag)(rk d:Nat):Prop where
 le:rk≤5
 close:∀rest,au ⟨#[41]⟩ (ts++rest)=false
 minus:rk=5→∀rest,au ⟨#[45]⟩ (ts++rest)=false
 high:∀deep rest,deep+d≤12→au ⟨#[58]⟩ rest=false→4≤rk→At rk deep base (ts++rest) ns a rest
 low:∀deep rest,deep+d≤12→au ⟨#[58]⟩ rest=false→rk≤3→Stop (rk+1) rest→Goes rk deep base (ts++rest) ns a rest
theorem Stop.more{n m:Nat}{r:List ag}(h:Stop n r)(hm:n≤m):Stop m r:=fun k h1 h2=>h k (by omega) h2
theorem lD.at {base:Nat}{ns:List Nd}{a:Nat}{ts:List ag}{rk d:Nat}(h:lD base ns a ts rk d)(n deep:Nat)(rest:List ag)(hn:n≤rk)(hd:deep+d≤12)(hc:au ⟨#[58]⟩ rest=false)(hs:Stop n rest) :
 At n deep base (ts++rest) ns a rest:=by
 have hle:=h.le
 have h1:At rk deep base (ts++rest) ns a rest:=by
  by_cases c:4≤rk
  · exact h.high deep rest hd hc c
  · exact Goes.at (by omega) (h.low deep rest hd hc (by omega) (hs.more (by omega))) (hs.more hn)
 refine At.down n (rk - n) (by omega) ?_ hs (fun e=>h.minus (by omega) rest);rwa[show n+(rk - n)=rk by omega]
theorem BN {s:ByteArray}{t:ag}(h:gP s t)(ts:List ag)(hs:(List.range 4).all (fun n=>(fC n).all fun p=>decide (s≠p.1))=true)(n:Nat):Stop n (t :: ts):=by
 intro m _ hm;unfold eH
 have hf:(fC m).find? (fun p=>au p.1 (t :: ts))=none:=by
  rw[List.find?_eq_none];intro p hp;rw[h.sign p.1 ts];have:=List.all_eq_true.1 hs m (by simp;omega);have:=List.all_eq_true.1 this p hp
  simpa using this
 rw[hf]
theorem lD.brk {base:Nat}{ns:List Nd}{a:Nat}{ts:List ag}{rk d:Nat}(h:lD base ns a ts rk d){l r:ag}(hl:gP ⟨#[40]⟩ l)(hr:gP ⟨#[41]⟩ r):lD base ns a (l :: (ts++[r])) 5 (d+1):=by
 refine⟨ah _,fun rest => ?_,fun _ rest => ?_,fun deep rest hd hc _ => ?_,fun deep rest _ _ h=>by omega⟩
 · rw[cu,hl.sign];decide
 · rw[cu,hl.sign];decide
 · have h1:=h.at 0 (deep+1) (r :: rest) (by omega) (by omega) (by rw[hr.sign];decide) (BN hr rest (by decide) 0)
   unfold At at h1 ⊢;rw[if_pos (by omega)]at h1;rw[if_neg (by omega)];obtain⟨f,hf⟩:=h1;refine⟨f+1, ?_⟩;rw[cu,kZ,hl.sign,if_pos (by decide),if_neg (by omega),bG,List.singleton_append,hf];show(if au ⟨#[41]⟩ (r :: rest)=true then _ else _)=_;rw[hr.sign,if_pos (by decide)];rfl
theorem lD.wr {base:Nat}{ns:List Nd}{a:Nat}{ts:List ag}{rk d n d':Nat}{ts':List ag}(h:lD base ns a ts rk d)(hw:Wr n rk d ts d' ts')(hn:n≤5):∃nz,n≤nz∧lD base ns a ts' nz d':=by
 rcases hw with ⟨h1,rfl,rfl⟩|⟨h1,rfl,l,r,hl,hr,rfl⟩
 · exact⟨rk,h1,h⟩
 · exact⟨5,hn,h.brk hl hr⟩
theorem lD.goes {base:Nat}{ns:List Nd}{a:Nat}{ts:List ag}{rk d:Nat}(h:lD base ns a ts rk d)(n deep:Nat)(rest:List ag)(hn:n≤rk)(Fx:n≤3)(hd:deep+d≤12)(hc:au ⟨#[58]⟩ rest=false)(hs:Stop (n+1) rest) :
 Goes n deep base (ts++rest) ns a rest:=by
 by_cases c:n=rk
 · subst c;exact h.low deep rest hd hc Fx hs
 · exact(h.at (n+1) deep rest (by omega) hd hc hs).goes
theorem Ov {base:Nat}{ts:List ag}{nd:Nd}(h:nZ ts nd):lD base [nd] base ts 5 0:=by
 have key:(∀rest,au ⟨#[41]⟩ (ts++rest)=false)∧(∀rest,au ⟨#[45]⟩ (ts++rest)=false)∧∀deep rest,au ⟨#[58]⟩ rest=false→iU 1 deep base (ts++rest)=some (.ok ([nd],base,rest)):=by
  have hs:∀(t:ag)(s:ByteArray)(us:List ag),t.kind≠5→au s (t :: us)=false:=by
   intro t s us ht;unfold au;simp only[decide_eq_false ht,Bool.false_and]
  cases h with
  | num t h =>
    refine⟨fun rest=>hs _ _ _ (by omega),fun rest=>hs _ _ _ (by omega),fun deep rest hc => ?_⟩;rw[List.singleton_append,kZ,hs _ _ _ (by omega),if_neg (by simp),if_pos h]
  | text t h =>
    refine⟨fun rest=>hs _ _ _ (by omega),fun rest=>hs _ _ _ (by omega),fun deep rest hc => ?_⟩;rw[List.singleton_append,kZ,hs _ _ _ (by omega),if_neg (by simp),if_neg (by omega),if_pos h]
  | yes t h g =>
    refine⟨fun rest=>hs _ _ _ (by omega),fun rest=>hs _ _ _ (by omega),fun deep rest hc => ?_⟩;rw[List.singleton_append,kZ,hs _ _ _ (by omega),if_neg (by simp),if_neg (by omega),if_neg (by omega),if_neg (by omega),if_neg (by omega),if_pos h,if_pos g]
  | no t h g =>
    refine⟨fun rest=>hs _ _ _ (by omega),fun rest=>hs _ _ _ (by omega),fun deep rest hc => ?_⟩;rw[List.singleton_append,kZ,hs _ _ _ (by omega),if_neg (by simp),if_neg (by omega),if_neg (by omega),if_neg (by omega),if_neg (by omega),if_pos h,if_neg (by rw[g];decide),if_pos g]
  | dead t h =>
    refine⟨fun rest=>hs _ _ _ (by omega),fun rest=>hs _ _ _ (by omega),fun deep rest hc => ?_⟩;rw[List.singleton_append,kZ,hs _ _ _ (by omega),if_neg (by simp),if_neg (by omega),if_neg (by omega),if_pos h]
  | ref t h =>
    refine⟨fun rest=>hs _ _ _ (by omega),fun rest=>hs _ _ _ (by omega),fun deep rest hc => ?_⟩;rw[List.singleton_append,kZ,hs _ _ _ (by omega),if_neg (by simp),if_neg (by omega),if_neg (by omega),if_neg (by omega),if_pos h];unfold jc;rw[hc,if_neg (by simp)]
  | range t c u h hc g hsp =>
    refine⟨fun rest=>hs _ _ _ (by omega),fun rest=>hs _ _ _ (by omega),fun deep rest _ => ?_⟩;show iU 1 deep base (t :: c :: u :: rest)=_;rw[kZ,hs _ _ _ (by omega),if_neg (by simp),if_neg (by omega),if_neg (by omega),if_neg (by omega),if_pos h];unfold jc;rw[hc.sign,if_pos (by decide)];show some (if u.kind=4∧eD t.dw u.dw=true then _ else _)=_;rw[if_pos ⟨g,hsp⟩]
 refine⟨ah _,key.1,fun _=>key.2.1,fun deep rest _ hc _ => ?_,fun deep rest _ _ h=>by omega⟩;unfold At;rw[if_neg (by omega)];exact⟨1,key.2.2 deep rest hc⟩
theorem Ux(r:List ag):Stop 4 r:=fun m h1 h2=>by omega
theorem Ow {base:Nat}{ns:List Nd}{a:Nat}{ts:List ag}{rk d:Nat}(h:lD base ns a ts rk d){m:ag}(hm:gP ⟨#[45]⟩ m)(h4:4≤rk) :
 lD base (ns++[{ Nd.zero with kind:=8,kids:=[(a:Int)] }]) (base+ns.length) (m :: ts) 4 (d+1):=by
 refine⟨by omega,fun rest=>by rw[cu,hm.sign];decide,fun h=>by omega,fun deep rest hd hc _ => ?_,fun deep rest _ _ h=>by omega⟩;have h1:=h.at 4 (deep+1) rest h4 (by omega) hc (Ux _);unfold At at h1 ⊢;rw[if_pos (by omega)]at h1 ⊢;obtain⟨f,hf⟩:=h1;refine⟨f+1, ?_⟩;rw[cu,kR,if_neg (by omega),hm.sign,if_pos (by decide),if_neg (by omega),List.tail_cons,hf];rfl
theorem Sq:∀o:Nat,o<11→jo.getD o ⟨#[]⟩≠⟨#[58]⟩:=by decide +kernel
theorem Mm {o:Nat}(ho:o<11){s:ag}(hs:gP (jo.getD o ⟨#[]⟩) s)(ts:List ag):Stop (rk o+1) (s :: ts):=by
 intro m h1 h2;rw[La s ts o ho hs.1 hs.2 m h2,if_neg (by omega)]
theorem Oy {base o:Nat}(ho:o<11){ns ms:List Nd}{a b:Nat}{ts us:List ag}{oK lJ d1 d2:Nat}(h:lD base ns a ts oK d1)(g:lD (base+ns.length) ms b us lJ d2){s:ag}(hs:gP (jo.getD o ⟨#[]⟩) s)
 (h1:rk o≤oK) (h2:rk o+1≤lJ) :
 lD base (ns++(ms++[{ Nd.zero with kind:=9+(o:Int),kids:=[(a:Int),(b:Int)] }])) (base+(ns.length+ms.length)) (ts++s :: us) (rk o) (max d1 d2):=by
 have hr:=LU o;refine⟨by omega,fun rest=>by rw[bG];exact h.close _,fun e=>by omega,fun deep rest _ _ e=>by omega,fun deep rest hd hc _ hst => ?_⟩;obtain⟨uO,a1,r1,k1,k2⟩:=h.goes (rk o) deep (s :: (us++rest)) h1 hr (by omega) (by rw[hs.sign];exact decide_eq_false (Sq o ho)) (Mm ho hs _);have k3:=g.at (rk o+1) deep rest h2 (by omega) hc hst;unfold At at k3;rw[if_pos (by omega)]at k3;obtain⟨f,hf⟩:=k3;refine⟨uO,a1,r1,by rw[bG];exact k1,fun f' y hy => ?_⟩;refine k2 (max f f'+1) y ?_;rw[pG,La s _ o ho hs.1 hs.2 _ hr,if_pos rfl,if_neg (by omega),List.tail_cons,wM (Nat.le_max_left f f') hf];exact DR (Nat.le_max_right f f') hy
def Ay (base:Nat)(ns:List Nd)(ks:List Int)(ts:List ag)(d:Nat):Prop :=
 (ks=[]∧ns=[]∧ts=[]∧d=0)∨(ks≠[]∧(∀rest,au ⟨#[41]⟩ (ts++rest)=false)∧∀deep rest,deep+d≤12→au ⟨#[58]⟩ rest=false→Stop 0 rest →
   ∀f y,(if au ⟨#[44]⟩ rest=true then gB f deep base ns ks rest.tail else some (.ok (ns,ks,rest)))=some y→∃g,gB g deep base [] [] (ts++rest)=some y)
theorem Ox {base:Nat}{ns:List Nd}{a:Nat}{ts:List ag}{rk d:Nat}(h:lD base ns a ts rk d):Ay base ns [(a:Int)] ts d:=by
 refine .inr ⟨by simp,h.close,fun deep rest hd hc hs f y hy => ?_⟩;have h1:=h.at 0 deep rest (by omega) hd hc hs;unfold At at h1;rw[if_pos (by omega)]at h1;obtain⟨g,hg⟩:=h1;refine⟨max f g+1, ?_⟩;rw[oo,dI,Nat.add_zero,wM (Nat.le_max_right f g) hg];show(if au ⟨#[44]⟩ rest=true then gB (max f g) deep base ns [(a:Int)] rest.tail else some (.ok (ns,[(a:Int)],rest)))=some y;by_cases c:au ⟨#[44]⟩ rest=true
 · rw[if_pos c]at hy ⊢;exact EU (Nat.le_max_left f g) hy
 · rw[if_neg c]at hy ⊢;exact hy
theorem Ot {base:Nat}{ns ms:List Nd}{ks:List Int}{b:Nat}{ts us:List ag}{rk d1 d2:Nat}(h:Ay base ns ks ts d1)(hk:ks≠[]){c:ag}(hc:gP ⟨#[44]⟩ c)(g:lD (base+ns.length) ms b us rk d2) :
 Ay base (ns++ms) (ks++[(b:Int)]) (ts++c :: us) (max d1 d2):=by
 rcases h with ⟨h,_⟩|⟨_,h1,h2⟩
 · exact absurd h hk
 · refine .inr ⟨by simp,fun rest=>by rw[bG];exact h1 _,fun deep rest hd yc hs f y hy => ?_⟩
   have k1:=g.at 0 deep rest (by omega) (by omega) yc hs;unfold At at k1;rw[if_pos (by omega)]at k1;obtain⟨g',hg⟩:=k1
   obtain ⟨q,hq⟩:=h2 deep (c :: (us++rest)) (by omega) (by rw[hc.sign];decide) (BN hc _ (by decide) 0) (max f g'+1) y (by
    rw[hc.sign,if_pos (by decide),List.tail_cons,oo,wM (Nat.le_max_right f g') hg];show(if au ⟨#[44]⟩ rest=true then gB (max f g') deep base (ns++ms) (ks++[(b:Int)]) rest.tail else some (.ok (ns++ms,ks++[(b:Int)],rest)))=some y;by_cases e:au ⟨#[44]⟩ rest=true
    · rw[if_pos e]at hy ⊢;exact EU (Nat.le_max_left f g') hy
    · rw[if_neg e]at hy ⊢;exact hy)
   exact⟨q,by rw[bG];exact hq⟩
theorem Ou {base:Nat}{ns:List Nd}{ks:List Int}{ts:List ag}{d:Nat}(h:Ay base ns ks ts d){t l r:ag}(ht:t.kind=3)(h1:t.text≠⟨#[84,82,85,69]⟩)(h2:t.text≠⟨#[70,65,76,83,69]⟩)(hl:gP ⟨#[40]⟩ l)(hr:gP ⟨#[41]⟩ r) :
 lD base (ns++[{ Nd.zero with kind:=7,text:=t.text,kids:=ks }]) (base+ns.length) (t :: l :: (ts++[r])) 5 (d+1):=by
 have hs:∀(s:ByteArray)(us:List ag),au s (t :: us)=false:=by
  intro s us;unfold au;simp only[ht];rfl
 refine⟨ah _,fun rest=>hs _ _,fun _ rest=>hs _ _,fun deep rest hd hc _ => ?_,fun deep rest _ _ h=>by omega⟩
 have key:∃f,(if au ⟨#[41]⟩ (ts++r :: rest)=true then some (.ok ([],[],ts++r :: rest))else gB f (deep+1) base [] [] (ts++r :: rest))=some (.ok (ns,ks,r :: rest)):=by
  rcases h with ⟨rfl,rfl,rfl,_⟩|⟨_,g1,g2⟩
  · refine⟨0, ?_⟩
    rw[gL,hr.sign,if_pos (by decide)]
  · obtain⟨f,hf⟩:=g2 (deep+1) (r :: rest) (by omega) (by rw[hr.sign];decide) (BN hr rest (by decide) 0) 0 (.ok (ns,ks,r :: rest)) (by rw[hr.sign,if_neg (by decide)])
    refine⟨f, ?_⟩;rw[g1,if_neg (by simp)];exact hf
 obtain⟨f,hf⟩:=key;unfold At;rw[if_neg (by omega)];refine⟨f+1, ?_⟩;rw[cu,cu,bG,List.singleton_append,kZ,hs,if_neg (by simp),if_neg (by omega),if_neg (by omega),if_neg (by omega),if_neg (by omega),if_pos ht,if_neg h1,if_neg h2,hl.sign,if_pos (by decide),if_neg (by omega),List.tail_cons,hf];show(if au ⟨#[41]⟩ (r :: rest)=true then _ else _)=_;rw[hr.sign,if_pos (by decide)];rfl
theorem afE {b:Bool}{base:Nat}{ns:List Nd}{ks:List Int}{ts:List ag}{rk d:Nat}(h:Sh b base ns ks ts rk d) :
 (b=false→∃a:Nat,ks=[(a:Int)]∧lD base ns a ts rk d)∧(b=true→Ay base ns ks ts d):=by
 induction h with
 | leaf base ts nd h=>exact⟨fun _=>⟨base,rfl,Ov h⟩,fun h=>by cases h⟩
 | neg base ns a ts rk d h m hm d' ts' hw ih =>
   refine⟨fun _ => ?_,fun h=>by cases h⟩;obtain⟨a',e,hb⟩:=ih.1 rfl;obtain rfl:a=(a':Int):=by simpa using e
   obtain⟨nz,h1,hb'⟩:=hb.wr hw (by omega);exact⟨_,rfl,Ow hb' hm h1⟩
 | op base o ho ns ms a b ts us oK lJ d1 d2 h g s hs e1 e2 ts' j6 hw gw ih jB =>
   refine⟨fun _ => ?_,fun h=>by cases h⟩;have hr:=LU o;obtain⟨a',e,hb⟩:=ih.1 rfl;obtain rfl:a=(a':Int):=by simpa using e
   obtain⟨b',e',gb⟩:=jB.1 rfl;obtain rfl:b=(b':Int):=by simpa using e'
   obtain⟨r1,h1,hb'⟩:=hb.wr hw (by omega);obtain⟨r2,h2,Fj⟩:=gb.wr gw (by omega);exact⟨_,rfl,Oy ho hb' Fj hs h1 h2⟩
 | call base ns ks ts d h t l r ht h1 h2 hl hr ih=>exact⟨fun _=>⟨_,rfl,Ou (ih.2 rfl) ht h1 h2 hl hr⟩,fun h=>by cases h⟩
 | none base=>exact⟨fun h=>(by cases h),fun _ => .inl ⟨rfl,rfl,rfl,rfl⟩⟩
 | one base ns a ts rk d h ih =>
   refine⟨fun h=>(by cases h),fun _ => ?_⟩;obtain⟨a',e,hb⟩:=ih.1 rfl;obtain rfl:a=(a':Int):=by simpa using e
   exact Ox hb
 | and base ns ms ks b ts us rk d1 d2 h hk c hc g ih jB =>
   refine⟨fun h=>(by cases h),fun _ => ?_⟩;obtain⟨b',e,gb⟩:=jB.1 rfl;obtain rfl:b=(b':Int):=by simpa using e
   exact Ot (ih.2 rfl) hk hc gb
theorem afM {ns:List Nd}{a:Int}{ts:List ag}{rk d:Nat}(h:Sh false 0 ns [a] ts rk d)(hd:d≤12)(e:ag)(he:e.kind=0):∃f,kY f (ts++[e])=some (.ok ns):=by
 obtain⟨a',_,hb⟩:=(afE h).1 rfl;have hsg:∀s:ByteArray,au s [e]=false:=by intro s;unfold au;simp only[he];rfl
 have h1:=hb.at 0 0 [e] (by omega) (by omega) (hsg _) (by
  intro m _ _;unfold eH
  have hf:(fC m).find? (fun p=>au p.1 [e])=none:=by
   rw[List.find?_eq_none];intro p _;rw[hsg];simp
  rw[hf])
 unfold At at h1;rw[if_pos (by omega)]at h1;obtain⟨f,hf⟩:=h1;refine⟨f, ?_⟩;unfold kY;rw[hf];show(if sN [e]=0 then _ else _)=_;rw[if_pos (show sN [e]=0 from he)]
theorem yG {s:ByteArray}{ts:List ag}(h:au s ts=true):∃t,ts=t :: ts.tail∧gP s t:=by
 cases ts with
 | nil=>simp[au]at h
 | cons t ts =>
   unfold au at h;rw[dA,decide_eq_true_iff,decide_eq_true_iff]at h;exact⟨t,rfl,h⟩
theorem adk {n:Nat}{ts:List ag}(hn:n≤3)(h:eH n ts≠0):∃o t,o<11∧rk o=n∧ts=t :: ts.tail∧gP (jo.getD o ⟨#[]⟩) t∧eH n ts=9+(o:Int):=by
 obtain⟨p,h1,h2,h3⟩:=Dx h;obtain⟨t,e,ht⟩:=yG h2;have key:∀n:Nat,n<4→(fC n).all (fun p=>(List.range 11).any fun o=>decide (rk o=n)&&(decide (p.1=jo.getD o ⟨#[]⟩)&&decide (p.2=9+(o:Int))))=true:=by decide +kernel
 have:=List.all_eq_true.1 (key n (by omega)) p h1;rw[List.any_eq_true]at this;obtain⟨o,ho,hq⟩:=this;rw[dA,dA,decide_eq_true_iff,decide_eq_true_iff,decide_eq_true_iff]at hq;refine⟨o,t,by simpa using ho,hq.1,e, ?_,by rw[h3,hq.2.2]⟩;rw[← hq.2.1];exact ht
def Has (n deep base:Nat)(ns:List Nd)(a:Nat)(pre:List ag):Prop :=
 ∃ts rk d ts' d',Sh false base ns [(a:Int)] ts rk d∧Wr n rk d ts d' ts'∧ts'.Sublist pre∧deep+d'≤12
theorem Has.less {n deep base:Nat}{ns:List Nd}{a:Nat}{pre:List ag}(h:Has (n+1) deep base ns a pre):Has n deep base ns a pre:=by
 obtain⟨ts,rk,d,ts',d',h1,h2,h3,h4⟩:=h;rcases h2 with ⟨g1,rfl,rfl⟩|⟨g1,rfl,l,r,hl,hr,rfl⟩
 · exact⟨_,_,_,_,_,h1,.inl ⟨by omega,rfl,rfl⟩,h3,h4⟩
 · by_cases c:n≤rk
   · refine⟨_,_,_,_,_,h1,.inl ⟨c,rfl,rfl⟩, ?_,by omega⟩
     exact((List.sublist_append_left ts [r]).trans (List.sublist_cons_self l _)).trans h3
   · exact⟨_,_,_,_,_,h1,.inr ⟨by omega,rfl,l,r,hl,hr,rfl⟩,h3,h4⟩
def WN (deep base:Nat)(ns:List Nd)(ks:List Int)(pre:List ag):Prop :=
 (ks=[]∧ns=[])∨(ks≠[]∧∃ts d c,Sh true base ns ks ts 0 d∧gP ⟨#[44]⟩ c∧(ts++[c]).Sublist pre∧deep+d≤12)
theorem zw {deep base:Nat}{ts pre:List ag}{nd:Nd}(h:nZ ts nd)(hp:ts.Sublist pre)(hd:deep≤12):Has 5 deep base [nd] base pre :=
 ⟨_,_,_,_,_,.leaf base ts nd h,.inl ⟨ah _,rfl,rfl⟩,hp,by omega⟩
theorem PS : ∀ f : Nat, (∀ n deep base ts ns a r, dX f n deep base ts=some (.ok (ns,a,r))→n≤4→deep≤12→∃pre,ts=pre++r∧Has n deep base ns a pre) ∧
 (∀n deep base ns a ts ns' a' r qG,gZ f n deep base ns a ts=some (.ok (ns',a',r))→n≤3→deep≤12→Has n deep base ns a qG→∃pre,ts=pre++r∧Has n deep base ns' a' (qG++pre)) ∧
 (∀deep base ts ns a r,iU f deep base ts=some (.ok (ns,a,r))→deep≤12→∃pre,ts=pre++r∧Has 5 deep base ns a pre) ∧
 (∀ deep base ns ks ts ns' ks' r qG,gB f deep base ns ks ts=some (.ok (ns',ks',r))→deep≤12→WN deep base ns ks qG →
   ∃pre us d,ts=pre++r∧Sh true base ns' ks' us 0 d∧us.Sublist (qG++pre)∧deep+d≤12)
 | 0=>by
   refine⟨?_, ?_, ?_, ?_⟩
   · intro n deep base ts ns a r h;unfold dX at h;cases h
   · intro n deep base ns a ts ns' a' r qG h;unfold gZ at h;cases h
   · intro deep base ts ns a r h;unfold iU at h;cases h
   · intro deep base ns ks ts ns' ks' r qG h;unfold gB at h;cases h
 | f + 1 => by
   obtain⟨i1,i2,i3,i4⟩:=PS f;refine⟨?_, ?_, ?_, ?_⟩
   · intro n deep base ts ns a r h hn hd
     rw[kR]at h;by_cases c:n≤3
     · rw [if_pos c]at h
       rcases dP h with ⟨e,_,h2⟩|⟨ms,b,s,h1,h2⟩
       · cases h2
       · obtain⟨p1,e1,k1⟩:=i1 _ _ _ _ _ _ _ h1 (by omega) hd
         obtain⟨p2,e2,k2⟩:=i2 _ _ _ _ _ _ _ _ _ p1 h2 c hd k1.less;exact⟨p1++p2,by rw[e1,e2,bG],k2⟩
     · rw [if_neg c]at h
       have uH:n=4:=by omega
       subst uH;by_cases d:au ⟨#[45]⟩ ts=true
       · rw [if_pos d]at h
         by_cases d2:12≤deep
         · rw[if_pos d2]at h;cases h
         · rw [if_neg d2]at h
           obtain⟨t,et,ht⟩:=yG d;rcases dP h with ⟨e,_,h2⟩|⟨ms,b,s,h1,h2⟩
           · cases h2
           · obtain⟨p1,e1,us,nz,d',j6,e',g1,g2,g3,g4⟩:=i1 _ _ _ _ _ _ _ h1 (by omega) (by omega)
             injection h2 with h2;injection h2 with h2;injection h2 with h3 h4;injection h4 with h4 h5;subst h3;subst h4;subst h5;refine⟨t :: p1,by rw[et,e1];rfl,_,_,_,_,_,.neg base ms _ us nz d' g1 t ht e' j6 g2,.inl ⟨ah _,rfl,rfl⟩,g3.cons_cons t,by omega⟩
       · rw[if_neg d]at h
         obtain⟨p,e,k⟩:=i3 _ _ _ _ _ _ h hd;exact⟨p,e,Has.less (n:=4) k⟩
   · intro n deep base ns a ts ns' a' r qG h hn hd hh
     rw[pG]at h;by_cases c:eH n ts=0
     · rw[if_pos c]at h
       injection h with h;injection h with h;injection h with h1 h2;injection h2 with h2 h3;subst h1;subst h2;subst h3;exact⟨[],rfl,by rw[fM];exact hh⟩
     · rw [if_neg c]at h
       obtain⟨o,t,ho,sI,et,ht,YE⟩:=adk hn c;rcases dP h with ⟨e,_,h2⟩|⟨ms,b,s,h1,h2⟩
       · cases h2
       · obtain ⟨p1,e1,us,lJ,d2,j6,e2,g1,g2,g3,g4⟩:=i1 _ _ _ _ _ _ _ h1 (by omega) hd
         obtain⟨ls,oK,d1,ls',l2,k1,k2,k3,k4⟩:=hh;subst sI
         have Fy:Has (rk o) deep base (ns++(ms++[{ Nd.zero with kind:=9+(o:Int),kids:=[(a:Int),(b:Int)] }])) (base+(ns.length+ms.length)) (qG++t :: p1) :=
          ⟨_,_,_,_,_,.op base o ho ns ms _ _ ls us oK lJ d1 d2 k1 g1 t ht l2 e2 ls' j6 k2 g2,.inl ⟨ah _,rfl,rfl⟩,k3.append (g3.cons_cons t),by omega⟩
         rw[YE]at h2;obtain⟨p2,e3,k5⟩:=i2 _ _ _ _ _ _ _ _ _ _ h2 hn hd Fy;refine⟨t :: (p1++p2),by rw[et,e1,e3];simp, ?_⟩;have:qG++t :: (p1++p2)=qG++t :: p1++p2:=by simp
         rw[this];exact k5
   · intro deep base ts ns a r h hd
     cases ts with
     | nil=>rw[yx]at h;injection h with h;cases h
     | cons t ts =>
       rw[kZ]at h;by_cases c1:au ⟨#[40]⟩ (t :: ts)=true
       · rw [if_pos c1]at h
         obtain⟨t',et,ht⟩:=yG c1;injection et with et _;subst et;by_cases d:12≤deep
         · rw[if_pos d]at h;cases h
         · rw [if_neg d]at h
           rcases dP h with ⟨e,_,h2⟩|⟨ms,b,s,h1,h2⟩
           · cases h2
           · by_cases c2 : au ⟨#[41]⟩ s = true
             · rw [if_pos c2]at h2
               injection h2 with h2;injection h2 with h2;injection h2 with h3 h4;injection h4 with h4 h5;subst h3;subst h4;subst h5;obtain⟨u,JJ,hu⟩:=yG c2;obtain⟨p1,e1,us,nz,d',j6,e',g1,g2,g3,g4⟩:=i1 _ _ _ _ _ _ _ h1 (by omega) (by omega);rcases g2 with ⟨_,rfl,rfl⟩|⟨g2,_⟩
               · refine ⟨t :: (p1 ++ [u]), by rw[e1];conv=>lhs;rw[JJ]
                                              simp, ?_⟩
                 by_cases c3:5≤nz
                 · refine⟨_,_,_,_,_,g1,.inl ⟨c3,rfl,rfl⟩, ?_,by omega⟩
                   exact(g3.trans (List.sublist_append_left _ _)).trans (List.sublist_cons_self _ _)
                 · exact⟨_,_,_,_,_,g1,.inr ⟨by omega,rfl,t,u,ht,hu,rfl⟩,(g3.append (List.Sublist.refl [u])).cons_cons t,by omega⟩
               · omega
             · rw[if_neg c2]at h2;injection h2 with h2;cases h2
       · rw [if_neg c1] at h
         by_cases c2:t.kind=1
         · rw[if_pos c2]at h
           injection h with h;injection h with h;injection h with h1 h2;injection h2 with h2 h3;subst h1;subst h2;subst h3;exact⟨[t],rfl,zw (.num t c2) (List.Sublist.refl _) hd⟩
         · rw [if_neg c2] at h
           by_cases c3:t.kind=2
           · rw[if_pos c3]at h
             injection h with h;injection h with h;injection h with h1 h2;injection h2 with h2 h3;subst h1;subst h2;subst h3;exact⟨[t],rfl,zw (.text t c3) (List.Sublist.refl _) hd⟩
           · rw [if_neg c3] at h
             by_cases c4:t.kind=6
             · rw[if_pos c4]at h
               injection h with h;injection h with h;injection h with h1 h2;injection h2 with h2 h3;subst h1;subst h2;subst h3;exact⟨[t],rfl,zw (.dead t c4) (List.Sublist.refl _) hd⟩
             · rw [if_neg c4] at h
               by_cases c5:t.kind=4
               · rw [if_pos c5]at h
                 injection h with h;unfold jc at h;by_cases c6:au ⟨#[58]⟩ ts=true
                 · rw [if_pos c6]at h
                   obtain⟨q,eq,hq⟩:=yG c6;cases hu:ts.tail with
                   | nil=>rw[hu]at h;cases h
                   | cons u us =>
                     rw[hu]at h;simp only at h;by_cases c7:u.kind=4∧eD t.dw u.dw=true
                     · rw[if_pos c7]at h
                       injection h with h;injection h with h1 h2;injection h2 with h2 h3;subst h1;subst h2;subst h3;refine⟨[t,q,u],by rw[eq,hu];rfl,zw (.range t q u c5 hq c7.1 c7.2) (List.Sublist.refl _) hd⟩
                     · rw[if_neg c7]at h;cases h
                 · rw[if_neg c6]at h
                   injection h with h;injection h with h1 h2;injection h2 with h2 h3;subst h1;subst h2;subst h3;exact⟨[t],rfl,zw (.ref t c5) (List.Sublist.refl _) hd⟩
               · rw [if_neg c5] at h
                 by_cases c6:t.kind=3
                 · rw [if_pos c6] at h
                   by_cases c7:t.text=⟨#[84,82,85,69]⟩
                   · rw[if_pos c7]at h
                     injection h with h;injection h with h;injection h with h1 h2;injection h2 with h2 h3;subst h1;subst h2;subst h3;exact⟨[t],rfl,zw (.yes t c6 c7) (List.Sublist.refl _) hd⟩
                   · rw [if_neg c7]at h
                     by_cases c8:t.text=⟨#[70,65,76,83,69]⟩
                     · rw[if_pos c8]at h
                       injection h with h;injection h with h;injection h with h1 h2;injection h2 with h2 h3;subst h1;subst h2;subst h3;exact⟨[t],rfl,zw (.no t c6 c8) (List.Sublist.refl _) hd⟩
                     · rw [if_neg c8]at h
                       by_cases c9:au ⟨#[40]⟩ ts=true
                       · rw [if_pos c9]at h
                         obtain⟨l,el,hl⟩:=yG c9;by_cases d:12≤deep
                         · rw[if_pos d]at h;cases h
                         · rw [if_neg d]at h
                           rcases dP h with ⟨e,_,h2⟩|⟨ms,ks,s,h1,h2⟩
                           · cases h2
                           · by_cases c10 : au ⟨#[41]⟩ s = true
                             · rw [if_pos c10]at h2
                               injection h2 with h2;injection h2 with h2;injection h2 with h3 h4;injection h4 with h4 h5;subst h3;subst h4;subst h5;obtain⟨u,JJ,hu⟩:=yG c10
                               have key:∃p us d,ts.tail=p++s∧Sh true base ms ks us 0 d∧us.Sublist p∧deep+1+d≤12:=by
                                by_cases c11:au ⟨#[41]⟩ ts.tail=true
                                · rw[if_pos c11]at h1
                                  injection h1 with h1;injection h1 with h1;injection h1 with h3 h4;injection h4 with h4 h5;subst h3;subst h4;subst h5;exact⟨[],[],0,rfl,.none base,List.Sublist.refl _,by omega⟩
                                · rw[if_neg c11]at h1
                                  obtain⟨p,us,d',g1,g2,g3,g4⟩:=i4 _ _ _ _ _ _ _ _ [] h1 (by omega) (.inl ⟨rfl,rfl⟩);exact⟨p,us,d',g1,g2,by simpa using g3,g4⟩
                               obtain⟨p,us,d',g1,g2,g3,g4⟩:=key
                               refine ⟨t :: l :: (p ++ [u]), by rw[el,g1];conv=>lhs;rw[JJ]
                                                                simp, ?_⟩
                               exact⟨_,_,_,_,_,.call base ms ks us d' g2 t l u c6 c7 c8 hl hu,.inl ⟨ah _,rfl,rfl⟩,((g3.append (List.Sublist.refl [u])).cons_cons l).cons_cons t,by omega⟩
                             · rw[if_neg c10]at h2;injection h2 with h2;cases h2
                       · rw[if_neg c9]at h;injection h with h;cases h
                 · rw[if_neg c6]at h;injection h with h;cases h
   · intro deep base ns ks ts ns' ks' r qG h hd hh
     rw[oo]at h;rcases dP h with ⟨e,_,h2⟩|⟨ms,b,s,h1,h2⟩
     · cases h2
     · obtain ⟨p1, e1, us, nz, d', j6, e', g1,g2,g3,g4⟩:=i1 _ _ _ _ _ _ _ h1 (by omega) hd
       rcases g2 with ⟨_,rfl,rfl⟩|⟨g2,_⟩
       · have key : ∃ ts d, Sh true base (ns ++ ms) (ks++[(b:Int)]) ts 0 d∧ts.Sublist (qG++p1)∧deep+d≤12:=by
          rcases hh with ⟨rfl,rfl⟩|⟨hk,us0,d0,q,k1,k2,k3,k4⟩
          · exact⟨_,_,.one base ms _ _ _ _ (by simpa using g1),g3.trans (List.sublist_append_right _ _),g4⟩
          · refine⟨_,_,.and base ns ms ks _ us0 _ _ d0 _ k1 hk q k2 g1, ?_,by omega⟩
            have:=k3.append g3
            simpa using this
         obtain⟨UW,d1,j1,j2,zR⟩:=key;by_cases c:au ⟨#[44]⟩ s=true
         · rw[if_pos c]at h2
           obtain⟨q,eq,hq⟩:=yG c;obtain⟨p2,Ar,d2,m1,m2,m3,m4⟩:=i4 _ _ _ _ _ _ _ _ (qG++p1++[q]) h2 hd (.inr ⟨by simp,UW,d1,q,j1,hq,j2.append (List.Sublist.refl _),zR⟩)
           refine ⟨p1 ++ q :: p2, Ar, d2, by rw[e1];conv=>lhs;rw[eq,m1]
                                             simp,m2,by simpa using m3,m4⟩
         · rw[if_neg c]at h2
           injection h2 with h2;injection h2 with h2;injection h2 with h3 h4;injection h4 with h4 h5;subst h3;subst h4;subst h5;exact⟨p1,UW,d1,e1,j1,j2,zR⟩
       · omega
def dx (t:ag):List Int :=
 if t.kind=1 then aQ t.num.toNat
 else if t.kind=2 then 34 :: (ek (sb t.text)++[34])
 else if t.kind=4 then aY (sb t.sh) t.c t.r t.ac t.ar
 else if t.kind=6 then [35,82,69,70,33]
 else sb t.text
theorem Mw(p:Int→Bool)(l:List Int):l.take (l.takeWhile p).length=l.takeWhile p:=(List.prefix_iff_eq_take.1 (List.takeWhile_prefix p)).symm
theorem Gy:∀(n:Nat)(l t:List Int)(k:Nat),l.length≤n→dS l=some (t,k)→l.take k=ek t++[34]
 | _,[],_,_,_,h=>by simp[dS]at h
 | 0,_ :: _,_,_,hn,_=>by simp at hn
 | n + 1, x :: l,t,k,hn,h=>by
   rw[sU]at h;by_cases h1:x<32
   · rw[if_pos h1]at h;cases h
   · rw [if_neg h1]at h
     by_cases h2:x≠34
     · rw [if_pos h2]at h
       cases hq:dS l with
       | none=>rw[hq]at h;cases h
       | some q =>
         rw[hq]at h;simp only[Option.map_some,bA,bg]at h;have g:=Gy n l q.1 q.2 (by simp at hn;omega) hq;rw[← h.1, ← h.2,List.take_succ_cons,g];have e:ek (x :: q.1)=x :: ek q.1:=by unfold ek;rw[if_neg h2];cases q.1 <;> rfl
         rw[e];rfl
     · rw [if_neg h2]at h
       have hx:x=34:=by omega
       cases l with
       | nil=>simp only[bA,bg]at h;rw[← h.1, ← h.2,hx];rfl
       | cons y m =>
         by_cases hy:y=34
         · simp only [hy,if_true]at h
           cases hq:dS m with
           | none=>rw[hq]at h;cases h
           | some q =>
             rw[hq]at h;simp only[Option.map_some,bA,bg]at h;have g:=Gy n m q.1 q.2 (by simp at hn;omega) hq;rw[← h.1, ← h.2,List.take_succ_cons,List.take_succ_cons,g,hx,hy];rfl
         · simp only[hy,if_false,bA,bg]at h
           rw[← h.1, ← h.2,hx];rfl
theorem ag' (l:List Int)(t:ag)(n:Nat)(hb:Bytes l)(h:eO l=some (t,n)):l.take n=dx t∧t.goto 0=t:=by
 cases l with
 | nil=>simp[eO]at h
 | cons x l =>
   rw[qJ]at h;by_cases h1:isNum x=true
   · rw [if_pos h1]at h
     unfold kF at h;split at h
     · cases h
     · rename_i hn
       simp only[bA,bg]at h;rw[← h.1, ← h.2,Mw];refine⟨?_,rfl⟩;have aX:=tC isNum (x :: l);have lH:=G8 isNum x l h1;have Fs:(x :: l).takeWhile isNum=x :: l.takeWhile isNum:=by rw[List.takeWhile_cons,if_pos h1]
       show(x :: l).takeWhile isNum=aQ (cK ((x :: l).takeWhile isNum)).toNat;by_cases c:x=48
       · subst c
         have hl:((48 :: l).takeWhile isNum).length=1:=by
          apply Decidable.byContradiction;intro hc;exact hn (.inl ⟨by omega,rfl⟩)
         have:l.takeWhile isNum=[]:=by
          rw[Fs,aO]at hl;exact kg (by omega)
         rw[Fs,this];show [48]=aQ 0;rw[ou 0 (by omega)];rfl
       · exact(JG _ _ rfl (by rw[Fs];simp) aX (by rw[Fs];simpa using c)).2.symm
   · rw [if_neg h1]at h
     by_cases h2:x=34
     · rw [if_pos h2]at h
       unfold kG at h;cases hq:dS l with
       | none=>rw[hq]at h;cases h
       | some q =>
         rw[hq]at h;simp only[Option.map_some,bA,bg]at h;obtain⟨g1,g2⟩:=BD _ l q.1 q.2 (ah _) (fun y hy=>hb y (by simp[hy])) hq;rw[← h.1, ← h.2,List.take_succ_cons,Gy _ l q.1 q.2 (ah _) hq,h2];refine⟨?_,rfl⟩;show _=34 :: (ek (sb (strOfNums q.1))++[34]);rw[jd _ g1]
     · rw [if_neg h2]at h
       by_cases h3:x=35
       · rw [if_pos h3]at h
         unfold o6 at h;split at h
         · rename_i h5
           simp only[bA,bg]at h;rw[← h.1, ← h.2,h5];exact⟨rfl,rfl⟩
         · cases h
       · rw [if_neg h3]at h
         by_cases h4:isLet x=true∨x=36
         · rw [if_pos h4]at h
           unfold l7 at h;cases hq:gH (strOfNums ((x :: l).takeWhile isWord))with
           | some d =>
             rw[hq]at h;simp only[bA,bg]at h;rw[← h.1, ← h.2,Mw];refine⟨?_,rfl⟩;have e:=(xh _ d hq).2.2;rw[jd _ (hb.span isWord)]at e;exact e.symm
           | none =>
             rw[hq]at h;simp only at h;by_cases hc:jb ((x :: l).takeWhile isWord)=true
             · rw[if_pos hc]at h
               simp only[bA,bg]at h;rw[← h.1, ← h.2,Mw];exact⟨(jd _ (hb.span isWord)).symm,rfl⟩
             · rw[if_neg hc]at h;cases h
         · rw [if_neg h4]at h
           unfold nS at h;split at h
           · cases h
           · simp only[bA,bg]at h
             rw[← h.1, ← h.2];exact⟨(jd _ (fun y hy=>hb y (List.mem_of_mem_take hy))).symm,rfl⟩
def Tok(t:ag):Prop:=t.kind≠0∧eO (dx t++[32])=some (t.goto 0,(dx t).length)∧Bytes (dx t)
theorem aha (l:List Int)(t:ag)(n p:Nat)(hb:Bytes l)(h:eO l=some (t,n)):Tok (t.goto p)∧(dx (t.goto p)).length=n:=by
 obtain⟨h1,h2⟩:=ag' l t n hb h;have hn:=(qK _ _ _ h).2;have e:dx (t.goto p)=dx t:=rfl;have hl:(dx t).length=n:=by rw[← h1,gK];omega
 refine⟨⟨(UJ l t n p hb h).2, ?_,by rw[e, ← h1];exact fun y hy=>hb y (List.mem_of_mem_take hy)⟩,by rw[e];exact hl⟩;have h3:eO (dx t++l.drop n)=some (t,(dx t).length):=by rw[← h1,List.take_append_drop,h,h1,hl]
 have h4:=ag0 (b':=[32]) (.inr rfl) h3;rw[e,h4];show some (t,_)=some (t.goto 0,_);rw[h2]
def zU:List ag→Nat
 | []=>0
 | t :: ts=>(dx t).length+zU ts
theorem FX(t:ag)(ts:List ag):zU (t :: ts)=(dx t).length+zU ts:=rfl
theorem abD {a b:List ag}(h:a.Sublist b):zU a≤zU b:=by
 induction h with
 | slnil=>exact ah _
 | cons t _ ih=>rw[FX];omega
 | cons_cons t _ ih=>rw[FX,FX];omega
theorem KH:∀(f p:Nat)(l:List Int)(ts:List ag),Bytes l→eB f p l=some ts→∃body e,ts=body++[e]∧e.kind=0∧(∀t∈body,Tok t)∧zU body≤l.length
 | f,p,[],ts,_,h=>by
   have h0:eB f p []=some [ag.zero.goto p]:=by unfold eB;rfl
   rw[h0]at h;injection h with h;subst h;exact⟨[],_,rfl,rfl,by simp,ah _⟩
 | 0,_,_ :: _,_,_,h=>by unfold eB at h;cases h
 | f + 1, p,x :: l,ts,hb,h=>by
   have hbl:Bytes l:=fun y hy=>hb y (by simp[hy])
   rw[rC]at h;by_cases hx:x=32
   · rw[if_pos hx]at h
     obtain⟨body,e,h1,h2,h3,h4⟩:=KH f (p+1) l ts hbl h;exact⟨body,e,h1,h2,h3,by simp only[aO];omega⟩
   · rw [if_neg hx]at h
     cases hq:eO (x :: l)with
     | none=>rw[hq]at h;cases h
     | some q =>
       obtain⟨t0,n⟩:=q;have hn:=qK _ _ _ hq;rw[hq]at h;simp only[Option.map_eq_some_iff]at h;obtain⟨us,h1,rfl⟩:=h;obtain⟨body,e,k1,k2,k3,k4⟩:=KH f (p+n) _ us (fun y hy=>hb y (List.mem_of_mem_drop hy)) h1;obtain⟨g1,g2⟩:=aha (x :: l) t0 n p hb hq;refine⟨t0.goto p :: body,e,by rw[k1];rfl,k2, ?_, ?_⟩
       · intro t ht
         rcases List.mem_cons.1 ht with rfl|ht
         · exact g1
         · exact k3 t ht
       · rw[FX,g2];rw[List.length_drop]at k4;omega
theorem Lm:∀(l b:List Int),(∀x∈l,¬ x<32)→(∀x,b.head? = some x→x≠34)→dS (ek l++34 :: b)=some (l,(ek l).length+1)
 | [],b,_,hb=>by
   show dS (34 :: b)=_;rw[sU,if_neg (by omega),if_neg (by omega)];cases b with
   | nil=>rfl
   | cons y m =>
     have:=hb y rfl;simp only[this,if_false];rfl
 | x :: l,b,h,hb=>by
   have ih:=Lm l b (fun y hy=>h y (by simp[hy])) hb;have hx:=h x (by simp);by_cases df:x=34
   · subst df
     show dS (34 :: 34 :: (ek l++34 :: b))=_;rw[sU,if_neg (by omega),if_neg (by omega)];simp only[if_true];rw[ih];rfl
   · have e:ek (x :: l)=x :: ek l:=by show(if x=34 then [34,34]else [x])++ek l=_;rw[if_neg df];rfl
     rw[e,cu,sU,if_neg hx,if_pos df,ih];rfl
def Hr (t:ag)(b:List Int):Prop :=
 (t.kind≠5→∀x,b.head? = some x→isWord x=false∧x≠34)∧(t.kind=5→(t.text=⟨#[60]⟩∨t.text=⟨#[62]⟩)→∀x,b.head? = some x→x≠61∧x≠62)
theorem ahC {x:Int}(h:isWord x=false):isNum x=false:=by
 cases c:isNum x with
 | false=>rfl
 | true=>rw[MQ c]at h;cases h
theorem ag3 {a b:List Int}{t:ag}(wR:Bytes a)(hq:eO (a++[32])=some (t,a.length))(hb:Hr t b):eO (a++b)=some (t,a.length):=by
 cases a with
 | nil =>
   have:=(qK _ _ _ hq).1;simp at this
 | cons x a =>
   have hsp:∀(p:Int→Bool),p 32=false→((x :: (a++[32])).takeWhile p).length=(x :: a).length→(∀y,b.head? = some y→p y=false)→(x :: (a++[32])).takeWhile p=x :: a∧(x :: (a++b)).takeWhile p=x :: a:=by
    intro p hp hl hh;obtain⟨e1,_⟩:=Ut (a:=x :: a) (b:=[32]) (b':=[32]) hp (.inr rfl) hl;refine⟨e1, ?_⟩;have aX:∀y∈x :: a,p y=true:=fun y hy=>tC p (x :: (a++[32])) y (by rw[show(x :: (a++[32])).takeWhile p=x :: a from e1];exact hy)
    exact uT p (x :: a) b aX hh
   rw[cu,qJ]at hq ⊢;by_cases h1:isNum x=true
   · rw [if_pos h1]at hq ⊢
     unfold kF at hq;split at hq
     · cases hq
     · rename_i hn
       simp only[bA,bg]at hq;have hk:t.kind≠5:=by rw[← hq.1];simp
       obtain⟨e1,e2⟩:=hsp isNum (by decide) hq.2 (fun y hy=>ahC (hb.1 hk y hy).1);unfold kF;rw[e2];rw[e1]at hn hq;rw[if_neg (show ¬(1<(x :: a).length∧(x :: (a++b)).head? = some 48∨9223372036854775807<cK (x :: a))from hn)];exact congrArg (fun u=>some (u,(x :: a).length)) hq.1
   · rw [if_neg h1]at hq ⊢
     by_cases h2:x=34
     · rw [if_pos h2]at hq ⊢
       unfold kG at hq ⊢;cases hr:dS (a++[32])with
       | none=>rw[hr]at hq;cases hq
       | some q =>
         rw[hr]at hq;simp only[Option.map_some,bA,bg,aO]at hq;have hk:t.kind≠5:=by rw[← hq.1];simp
         have hb2:Bytes (a++[32]):=by
          intro y hy;rcases List.mem_append.1 hy with hy|hy
          · exact wR y (by simp[hy])
          · simp at hy;omega
         have g1:=(BD _ _ q.1 q.2 (ah _) hb2 hr).2;have g2:=Gy _ _ q.1 q.2 (ah _) hr;have hl:q.2=a.length:=by omega
         rw[hl,List.take_left]at g2;have e:a++b=ek q.1++34 :: b:=by rw[g2];simp
         have e2:(ek q.1).length+1=a.length:=by rw[g2];simp
         rw[e,Lm q.1 b g1 (fun y hy=>(hb.1 hk y hy).2)];simp only[Option.map_some,aO,bA,bg];exact⟨hq.1,by omega⟩
     · rw [if_neg h2]at hq ⊢
       by_cases h3:x=35
       · rw [if_pos h3]at hq ⊢
         unfold o6 at hq ⊢;by_cases h5:(x :: (a++[32])).take 5=[35,82,69,70,33]
         · rw[if_pos h5]at hq
           simp only[bA,bg]at hq;have e1:(x :: (a++[32])).take 5=x :: a:=by rw[hq.2, ← cu];exact take_len _ _
           have e2:(x :: (a++b)).take 5=x :: a:=by rw[hq.2, ← cu];exact take_len _ _
           rw[e1]at h5;rw[e2,if_pos h5,hq.1];exact congrArg (fun k=>some (t,k)) hq.2
         · rw[if_neg h5]at hq;cases hq
       · rw [if_neg h3]at hq ⊢
         by_cases h4:isLet x=true∨x=36
         · rw [if_pos h4]at hq ⊢
           have hn:((x :: (a++[32])).takeWhile isWord).length=(x :: a).length∧t.kind≠5:=by
            unfold l7 at hq;split at hq
            · simp only[bA,bg]at hq;exact⟨hq.2,by rw[← hq.1];simp⟩
            · split at hq
              · simp only[bA,bg]at hq;exact⟨hq.2,by rw[← hq.1];simp⟩
              · cases hq
           obtain⟨e1,e2⟩:=hsp isWord (by decide) hn.1 (fun y hy=>(hb.1 hn.2 y hy).1);rw[← hq];unfold l7;rw[e1,e2]
         · rw [if_neg h4]at hq ⊢
           unfold nS at hq ⊢;by_cases h5:kI (x :: (a++[32]))=0
           · rw[if_pos h5]at hq;cases hq
           · rw [if_neg h5]at hq
             simp only[bA,bg]at hq;have e1:(x :: (a++[32])).take (x :: a).length=x :: a:=by rw[← cu];exact take_len _ _
             have e2:(x :: (a++b)).take (x :: a).length=x :: a:=by rw[← cu];exact take_len _ _
             have e:kI (x :: (a++b))=kI (x :: (a++[32])):=by
              cases a with
              | nil =>
                have hs:kI (x :: [32])=1:=hq.2
                have ht:t.text=strOfNums [x]:=by
                 rw[← hq.1];show strOfNums (List.take (kI (x :: [32])) (x :: [32]))=_;rw[hs];rfl
                have hk:t.kind=5:=by rw[← hq.1]
                have h6:¬ ((x=60∧(b.head? = some 62∨b.head? = some 61))∨(x=62∧b.head? = some 61)):=by
                 rintro(⟨rfl,h|h⟩|⟨rfl,h⟩)
                 · exact(hb.2 hk (.inl ht) _ h).2 rfl
                 · exact(hb.2 hk (.inl ht) _ h).1 rfl
                 · exact(hb.2 hk (.inr ht) _ h).1 rfl
                show kI (x :: b)=kI (x :: [32]);have h7:¬ ((x=60∧(([32]:List Int).head? = some 62∨([32]:List Int).head? = some 61))∨(x=62∧([32]:List Int).head? = some 61)):=by simp
                rw[rF,rF,if_neg h6,if_neg h7]
              | cons y a=>rw[rF,rF];rfl
             rw[e,if_neg h5, ← hq.1,hq.2,e1,e2]
theorem ag6 {x:Int}{l:List Int}{t:ag}{n:Nat}(h:eO (x :: l)=some (t,n)):x≠32∧(t.kind=5→isWord x=false∧x≠34)∧(t.kind≠5→x≠61∧x≠62):=by
 rw[qJ]at h;by_cases h1:isNum x=true
 · rw [if_pos h1]at h
   have hx:=iT h1;unfold kF at h;split at h
   · cases h
   · simp only[bA,bg]at h
     refine⟨by omega,fun h5 => ?_,fun _=>by omega⟩;rw[← h.1]at h5;simp at h5
 · rw [if_neg h1]at h
   by_cases h2:x=34
   · rw [if_pos h2]at h
     unfold kG at h;cases hq:dS l with
     | none=>rw[hq]at h;cases h
     | some q =>
       rw[hq]at h;simp only[Option.map_some,bA,bg]at h;refine⟨by omega,fun h5 => ?_,fun _=>by omega⟩;rw[← h.1]at h5;simp at h5
   · rw [if_neg h2]at h
     by_cases h3:x=35
     · rw [if_pos h3]at h
       unfold o6 at h;split at h
       · simp only[bA,bg]at h
         refine⟨by omega,fun h5 => ?_,fun _=>by omega⟩;rw[← h.1]at h5;simp at h5
       · cases h
     · rw [if_neg h3]at h
       by_cases h4:isLet x=true∨x=36
       · rw [if_pos h4]at h
         have hx:x≠32∧x≠61∧x≠62:=by
          rcases h4 with h4|h4
          · unfold isLet at h4;rw[decide_eq_true_iff]at h4;omega
          · omega
         refine⟨hx.1,fun h5 => ?_,fun _=>hx.2⟩;unfold l7 at h;split at h
         · simp only[bA,bg]at h
           rw[← h.1]at h5;simp at h5
         · split at h
           · simp only[bA,bg]at h
             rw[← h.1]at h5;simp at h5
           · cases h
       · rw [if_neg h4]at h
         unfold nS at h;split at h
         · cases h
         · rename_i h5
           simp only[bA,bg]at h;rw[rF]at h5
           have hx:x≠32∧x≠33:=by
            refine⟨?_, ?_⟩
            · rintro rfl;exact h5 (by rw[if_neg (by omega),if_neg (by omega)])
            · rintro rfl;exact h5 (by rw[if_neg (by omega),if_neg (by omega)])
           refine⟨hx.1,fun _=>⟨?_,h2⟩,fun h6=>absurd (show t.kind=5 by rw[← h.1]) h6⟩;unfold isWord
           have g1:isLet x=false:=by cases c:isLet x with
            | false=>rfl
            | true=>exact absurd (.inl c) h4
           have g2:isNum x=false:=by cases c:isNum x with
            | false=>rfl
            | true=>exact absurd c h1
           rw[g1,g2];simp only[Bool.false_or];exact decide_eq_false (by rintro(h|h);exact h4 (.inr h);exact hx.2 h)
def Ef(t:ag):Prop:=t.kind≠5∨t.text=⟨#[40]⟩∨t.text=⟨#[45]⟩
def N7(t:ag):Prop:=t.kind≠5∨t.text=⟨#[41]⟩
def Pr(t u:ag):Prop:=(t.kind≠5→u.kind=5)∧(t.kind=5→(t.text=⟨#[60]⟩∨t.text=⟨#[62]⟩)→Ef u)
def Sep:List ag→Prop
 | []=>True
 | t :: ts=>(∀u,ts.head? = some u→Pr t u)∧Sep ts
theorem Sep.app:∀ {a b:List ag},Sep a→Sep b→(∀t u,a.getLast? = some t→b.head? = some u→Pr t u)→Sep (a++b)
 | [],_,_,h,_=>h
 | [t],b,_,h,hj=>⟨fun u hu=>hj t u rfl hu,h⟩
 | t :: t' :: a,b,g,h,hj=>⟨fun u hu=>g.1 u hu,Sep.app (a:=t' :: a) g.2 h (fun v u hv hu=>hj v u (by rw[← hv];rfl) hu)⟩
theorem Rq {t u:ag}{s:ByteArray}(h:N7 t)(hu:gP s u):Pr t u:=by
 refine⟨fun _=>hu.1,fun h5 hs => ?_⟩;rcases h with h|h
 · exact absurd h5 h
 · rw[h]at hs;exact absurd hs (by decide)
theorem Mf{t u:ag}{s:ByteArray}(ht:gP s t)(h:Ef u):Pr t u:=⟨fun h5=>absurd ht.1 h5,fun _ _=>h⟩
def iI(ts:List ag):Prop:=Sep ts∧(∃t l,ts=t :: l∧Ef t)∧∃l t,ts=l++[t]∧N7 t
theorem iI.one{t:ag}(h:t.kind≠5):iI [t]:=⟨⟨fun u hu=>by simp at hu,trivial⟩,⟨t,[],rfl,.inl h⟩,[],t,rfl,.inl h⟩
theorem iI.ahead {m:ag}{s:ByteArray}(hm:gP s m)(hf:Ef m){a:List ag}(h:iI a):iI (m :: a):=by
 obtain⟨h1,⟨t,l,rfl,h2⟩,l',t',e,h3⟩:=h;exact⟨⟨fun u hu=>by injection hu with hu;subst hu;exact Mf hm h2,h1⟩,⟨m,_,rfl,hf⟩,m :: l',t',by rw[e];rfl,h3⟩
theorem iI.mid {a b:List ag}{c:ag}{s:ByteArray}(h:iI a)(hc:gP s c)(g:iI b):iI (a++c :: b):=by
 obtain⟨h1,⟨t,l,rfl,h2⟩,l',t',e,h3⟩:=h;obtain⟨g1,⟨u,m,rfl,g2⟩,m',u',e',g3⟩:=g;refine⟨?_,⟨t,_,rfl,h2⟩,(t :: l)++c :: m',u',by rw[e'];simp,g3⟩;refine Sep.app h1 ⟨fun v hv=>by injection hv with hv;subst hv;exact Mf hc g2,g1⟩ ?_;intro v w hv hw;injection hw with hw;subst hw;rw[e,List.getLast?_append]at hv;simp at hv;subst hv;exact Rq h3 hc
theorem iI.brk {a:List ag}{l r:ag}(h:iI a)(hl:gP ⟨#[40]⟩ l)(hr:gP ⟨#[41]⟩ r):iI (l :: (a++[r])):=by
 obtain⟨h1,⟨t,k,rfl,h2⟩,l',t',e,h3⟩:=h;refine⟨⟨fun u hu=>by injection hu with hu;subst hu;exact Mf hl h2, ?_⟩,⟨l,_,rfl,.inr (.inl hl.2)⟩,l :: (t :: k),r,rfl,.inr hr.2⟩;refine Sep.app h1 ⟨fun u hu=>by simp at hu,trivial⟩ ?_;intro v w hv hw;injection hw with hw;subst hw;rw[e,List.getLast?_append]at hv;simp at hv;subst hv;exact Rq h3 hr
theorem iI.wr {n rk d d':Nat}{ts ts':List ag}(h:iI ts)(hw:Wr n rk d ts d' ts'):iI ts':=by
 rcases hw with ⟨_,rfl,_⟩|⟨_,_,l,r,hl,hr,rfl⟩
 · exact h
 · exact h.brk hl hr
theorem iI.name {a:List ag}{t l r:ag}(ht:t.kind=3)(hl:gP ⟨#[40]⟩ l)(hr:gP ⟨#[41]⟩ r)(h:a=[]∨iI a):iI (t :: l :: (a++[r])):=by
 have hp:∀u,(l :: (a++[r])).head? = some u→Pr t u:=by
  intro u hu;injection hu with hu;subst hu;exact⟨fun _=>hl.1,fun h=>by omega⟩
 rcases h with rfl|h
 · exact⟨⟨hp,fun u hu=>by injection hu with hu;subst hu;exact⟨fun h=>absurd hl.1 h,fun _ h=>by rw[hl.2]at h;exact absurd h (by decide)⟩,fun u hu=>by simp at hu,trivial⟩,⟨t,_,rfl,.inl (by omega)⟩,[t,l],r,rfl,.inr hr.2⟩
 · have g:=h.brk hl hr
   exact⟨⟨hp,g.1⟩,⟨t,_,rfl,.inl (by omega)⟩,t :: l :: a,r,rfl,.inr hr.2⟩
theorem abB {ts:List ag}{nd:Nd}(h:nZ ts nd):iI ts:=by
 cases h with
 | num t h=>exact iI.one (by omega)
 | text t h=>exact iI.one (by omega)
 | yes t h _=>exact iI.one (by omega)
 | no t h _=>exact iI.one (by omega)
 | dead t h=>exact iI.one (by omega)
 | ref t h=>exact iI.one (by omega)
 | range t c u h hc g _=>exact iI.mid (a:=[t]) (b:=[u]) (iI.one (by omega)) hc (iI.one (by omega))
theorem L9 {b:Bool}{base:Nat}{ns:List Nd}{ks:List Int}{ts:List ag}{rk d:Nat}(h:Sh b base ns ks ts rk d) :
 (b=false→iI ts)∧(b=true→(ks=[]∧ts=[])∨(ks≠[]∧iI ts)):=by
 induction h with
 | leaf base ts nd h=>exact⟨fun _=>abB h,fun h=>by cases h⟩
 | neg base ns a ts rk d h m hm d' ts' hw ih=>exact⟨fun _=>((ih.1 rfl).wr hw).ahead hm (.inr (.inr hm.2)),fun h=>by cases h⟩
 | op base o ho ns ms a b ts us oK lJ d1 d2 h g s hs e1 e2 ts' j6 hw gw ih jB=>exact⟨fun _=>((ih.1 rfl).wr hw).mid hs ((jB.1 rfl).wr gw),fun h=>by cases h⟩
 | call base ns ks ts d h t l r ht h1 h2 hl hr ih =>
   refine⟨fun _=>iI.name ht hl hr ?_,fun h=>by cases h⟩;rcases ih.2 rfl with ⟨_,h⟩|⟨_,h⟩
   · exact .inl h
   · exact .inr h
 | none base=>exact⟨fun h=>(by cases h),fun _ => .inl ⟨rfl,rfl⟩⟩
 | one base ns a ts rk d h ih=>exact⟨fun h=>(by cases h),fun _ => .inr ⟨by simp,ih.1 rfl⟩⟩
 | and base ns ms ks b ts us rk d1 d2 h hk c hc g ih jB =>
   refine⟨fun h=>(by cases h),fun _ => .inr ⟨by simp, ?_⟩⟩;rcases ih.2 rfl with ⟨h,_⟩|⟨_,h⟩
   · exact absurd h hk
   · exact h.mid hc (jB.1 rfl)
def gU(ts:List ag):List Int:=ts.flatMap dx
theorem kJ(t:ag)(ts:List ag):gU (t :: ts)=dx t++gU ts:=rfl
theorem ahl (ts:List ag):(gU ts).length=zU ts:=by
 induction ts with
 | nil=>rfl
 | cons t ts ih=>rw[kJ,ak,ih];rfl
theorem MB {t:ag}(h:Tok t):∃x l,dx t=x :: l∧x≠32∧(t.kind=5→isWord x=false∧x≠34)∧(t.kind≠5→x≠61∧x≠62):=by
 have hn:=(qK _ _ _ h.2.1).1;cases e:dx t with
 | nil=>rw[e]at hn;simp at hn
 | cons x l =>
   have h2:=h.2.1;rw[e,cu]at h2;have g:=ag6 h2;exact⟨x,l,rfl,g.1,fun h=>g.2.1 h,fun h=>g.2.2 h⟩
theorem Xv {t:ag}{ts:List ag}(hp:∀u,ts.head? = some u→Pr t u)(hu:∀u∈ts,Tok u):Hr t (gU ts):=by
 cases ts with
 | nil=>exact⟨fun _ x hx=>by simp[gU]at hx,fun _ _ x hx=>by simp[gU]at hx⟩
 | cons u us =>
   obtain⟨x,l,e,h1,h2,h3⟩:=MB (hu u (by simp));have hpr:=hp u rfl;have hh:(gU (u :: us)).head? = some x:=by rw[kJ,e];rfl
   refine⟨fun hk y hy => ?_,fun hk hs y hy => ?_⟩
   · rw[hh]at hy;injection hy with hy;subst hy;exact h2 (hpr.1 hk)
   · rw [hh]at hy;injection hy with hy;subst hy
     rcases hpr.2 hk hs with g|g|g
     · exact h3 g
     · by_cases h5:u.kind=5
       · have:dx u=[40]:=by unfold dx;simp only[h5,g];rfl
         rw[this]at e;injection e with e _;omega
       · exact h3 h5
     · by_cases h5:u.kind=5
       · have:dx u=[45]:=by unfold dx;simp only[h5,g];rfl
         rw[this]at e;injection e with e _;omega
       · exact h3 h5
theorem KM:∀(ts:List ag)(p:Nat),Sep ts→(∀t∈ts,Tok t)→∃vs e,yj p (gU ts)=some (vs++[e])∧e.kind=0∧vs.map (ag.goto · 0)=ts.map (ag.goto · 0)
 | [],p,_,_=>⟨[],_,abM p,rfl,rfl⟩
 | t :: ts,p,hs,ht=>by
   have h1:=ht t (by simp);have h2:=h1.2.2;obtain⟨vs,e,g1,g2,g3⟩:=KM ts (p+(dx t).length) hs.2 (fun u hu=>ht u (by simp[hu]));obtain⟨x,l,hx,hx2,_⟩:=MB h1;have hb:Hr t (gU ts):=Xv hs.1 (fun u hu=>ht u (by simp[hu]));have hq:=ag3 (t:=t.goto 0) h2 h1.2.1 hb;refine⟨(t.goto 0).goto p :: vs,e, ?_,g2,by rw[jr,jr,g3];rfl⟩;rw[kJ,abL p (dx t) (gU ts) (t.goto 0) (fun y hy=>by rw[hx]at hy;injection hy with hy;omega) hq,g1];rfl
theorem gP.goto {s:ByteArray}{t v:ag}(h:gP s t)(hv:v.goto 0=t.goto 0):gP s v :=
 ⟨(congrArg ag.kind hv).trans h.1,(congrArg ag.text hv).trans h.2⟩
theorem LP{t v:ag}(hv:v.goto 0=t.goto 0):v.dw=t.dw:=(show(v.goto 0).dw=(t.goto 0).dw by rw[hv])
theorem nZ.goto {ts:List ag}{nd:Nd}(h:nZ ts nd)(vs:List ag)(hv:vs.map (ag.goto · 0)=ts.map (ag.goto · 0)):nZ vs nd:=by
 have one:∀t:ag,vs.map (ag.goto · 0)=[t].map (ag.goto · 0)→∃v,vs=[v]∧v.goto 0=t.goto 0:=by
  intro t h;rw[jr,List.map_nil]at h;obtain⟨v,l,h1,h2,h3⟩:=List.map_eq_cons_iff.1 h;rw[List.map_eq_nil_iff]at h3;exact⟨v,by rw[h1,h3],h2⟩
 cases h with
 | num t h =>
   obtain⟨v,rfl,e⟩:=one t hv;have:=congrArg ag.num e;rw[← show v.num=t.num from this];exact .num v ((congrArg ag.kind e).trans h)
 | text t h =>
   obtain⟨v,rfl,e⟩:=one t hv;have:=congrArg ag.text e;rw[← show v.text=t.text from this];exact .text v ((congrArg ag.kind e).trans h)
 | yes t h g =>
   obtain⟨v,rfl,e⟩:=one t hv;exact .yes v ((congrArg ag.kind e).trans h) ((congrArg ag.text e).trans g)
 | no t h g =>
   obtain⟨v,rfl,e⟩:=one t hv;exact .no v ((congrArg ag.kind e).trans h) ((congrArg ag.text e).trans g)
 | dead t h =>
   obtain⟨v,rfl,e⟩:=one t hv;exact .dead v ((congrArg ag.kind e).trans h)
 | ref t h =>
   obtain⟨v,rfl,e⟩:=one t hv;rw[← LP e];exact .ref v ((congrArg ag.kind e).trans h)
 | range t c u h hc g hs =>
   rw[jr,jr,jr,List.map_nil]at hv;obtain⟨t',l,rfl,e1,h3⟩:=List.map_eq_cons_iff.1 hv;obtain⟨c',l,rfl,e2,h3⟩:=List.map_eq_cons_iff.1 h3;obtain⟨u',l,rfl,e3,h3⟩:=List.map_eq_cons_iff.1 h3;rw[List.map_eq_nil_iff]at h3;subst h3;rw[← LP e1, ← LP e3]at hs ⊢;exact .range t' c' u' ((congrArg ag.kind e1).trans h) (hc.goto e2) ((congrArg ag.kind e3).trans g) hs
theorem Wr.goto {n rk d d':Nat}{ts ts' vs':List ag}(h:Wr n rk d ts d' ts')(hv:vs'.map (ag.goto · 0)=ts'.map (ag.goto · 0)):∃vs,vs.map (ag.goto · 0)=ts.map (ag.goto · 0)∧Wr n rk d vs d' vs':=by
 rcases h with ⟨h1,rfl,rfl⟩|⟨h1,rfl,l,r,hl,hr,rfl⟩
 · exact⟨vs',hv,.inl ⟨h1,rfl,rfl⟩⟩
 · rw[jr,iy,jr,List.map_nil]at hv
   obtain⟨l',k,rfl,e1,h3⟩:=List.map_eq_cons_iff.1 hv;obtain⟨vs,k2,rfl,e2,h3⟩:=List.map_eq_append_iff.1 h3;obtain⟨r',k3,rfl,e3,h3⟩:=List.map_eq_cons_iff.1 h3;rw[List.map_eq_nil_iff]at h3;subst h3;exact⟨vs,e2,.inr ⟨h1,rfl,l',r',hl.goto e1,hr.goto e3,rfl⟩⟩
theorem Sh.goto {b:Bool}{base:Nat}{ns:List Nd}{ks:List Int}{ts:List ag}{rk d:Nat}(h:Sh b base ns ks ts rk d):∀vs:List ag,vs.map (ag.goto · 0)=ts.map (ag.goto · 0)→Sh b base ns ks vs rk d:=by
 induction h with
 | leaf base ts nd h=>exact fun vs hv => .leaf base vs nd (h.goto vs hv)
 | neg base ns a ts rk d h m hm d' ts' hw ih =>
   intro vs hv;rw[jr]at hv;obtain⟨m',k,rfl,e1,h3⟩:=List.map_eq_cons_iff.1 hv;obtain⟨us,e2,hw'⟩:=hw.goto h3;exact .neg base ns a us rk d (ih us e2) m' (hm.goto e1) d' k hw'
 | op base o ho ns ms a b ts us oK lJ d1 d2 h g s hs e1 e2 ts' j6 hw gw ih jB =>
   intro vs hv;rw[iy,jr]at hv;obtain⟨a',k,rfl,f1,h3⟩:=List.map_eq_append_iff.1 hv;obtain⟨s',b',rfl,f2,f3⟩:=List.map_eq_cons_iff.1 h3;obtain⟨xs,x1,hw'⟩:=hw.goto f1;obtain⟨ys,y1,Zf⟩:=gw.goto f3;exact .op base o ho ns ms a b xs ys oK lJ d1 d2 (ih xs x1) (jB ys y1) s' (hs.goto f2) e1 e2 a' b' hw' Zf
 | call base ns ks ts d h t l r ht h1 h2 hl hr ih =>
   intro vs hv;rw[jr,jr,iy,jr,List.map_nil]at hv;obtain⟨t',k,rfl,f1,h3⟩:=List.map_eq_cons_iff.1 hv;obtain⟨l',k,rfl,f2,h3⟩:=List.map_eq_cons_iff.1 h3;obtain⟨a',k,rfl,f3,h3⟩:=List.map_eq_append_iff.1 h3;obtain⟨r',k,rfl,f4,h3⟩:=List.map_eq_cons_iff.1 h3;rw[List.map_eq_nil_iff]at h3;subst h3;have ht':t'.text=t.text:=(show(t'.goto 0).text=(t.goto 0).text by rw[f1]);rw[← ht'];exact .call base ns ks a' d (ih a' f3) t' l' r' ((congrArg ag.kind f1).trans ht) (by rw[ht'];exact h1) (by rw[ht'];exact h2) (hl.goto f2) (hr.goto f4)
 | none base =>
   intro vs hv;rw[List.map_nil,List.map_eq_nil_iff]at hv;subst hv;exact .none base
 | one base ns a ts rk d h ih=>exact fun vs hv => .one base ns a vs rk d (ih vs hv)
 | and base ns ms ks b ts us rk d1 d2 h hk c hc g ih jB =>
   intro vs hv;rw[iy,jr]at hv;obtain⟨a',k,rfl,f1,h3⟩:=List.map_eq_append_iff.1 hv;obtain⟨c',b',rfl,f2,f3⟩:=List.map_eq_cons_iff.1 h3;exact .and base ns ms ks b a' b' rk d1 d2 (ih a' f1) hk c' (hc.goto f2) (jB b' f3)
theorem Ua {ns:List Nd}{a:Int}{ts:List ag}{rk d:Nat}(h:Sh false 0 ns [a] ts rk d)(hd:d≤12)(ht:∀t∈ts,Tok t):∃vs g,fT (gU ts)=some vs∧kY g vs=some (.ok ns):=by
 obtain⟨vs,e,h1,h2,h3⟩:=KM ts 0 ((L9 h).1 rfl).1 ht;obtain⟨g,hg⟩:=afM (h.goto vs h3) hd e h2;exact⟨vs++[e],g,h1,hg⟩
theorem UN {l:List Int}{ts:List ag}{f:Nat}{ns:List Nd}(hb:Bytes l)(hl:fT l=some ts)(hp:kY f ts=some (.ok ns)) :
 ∃us rk d a,Sh false 0 ns [a] us rk d∧d≤12∧(∀t∈us,Tok t)∧(gU us).length≤l.length∧∃vs g,fT (gU us)=some vs∧kY g vs=some (.ok ns):=by
 obtain⟨body,e,h1,h2,h3,h4⟩:=KH _ _ _ _ hb hl;unfold kY at hp;rcases dP hp with ⟨er,_,h5⟩|⟨ms,a,r,h5,h6⟩
 · cases h5
 · by_cases hk:sN r=0
   · rw [if_pos hk]at h6
     injection h6 with h6;injection h6 with h6;subst h6;obtain⟨pre,e1,us,rk,d,j6,d',g1,g2,g3,g4⟩:=(PS f).1 _ _ _ _ _ _ _ h5 (by omega) (by omega);obtain⟨adN,e2,k2,_⟩:=((uU f).1 _ _ _ _ _ _ _ h5).1;rcases g2 with ⟨_,rfl,rfl⟩|⟨g2,_⟩
     · have ep:pre=adN:=List.append_cancel_right (e1.symm.trans e2)
       subst ep
       have Qz:j6.Sublist body:=by
        have s1:j6.Sublist ts:=by rw[e1];exact g3.trans (List.sublist_append_left _ _)
        have s2:=s1.filter (fun t=>decide (t.kind≠0));rw[h1,List.filter_append]at s2;have f1:j6.filter (fun t=>decide (t.kind≠0))=j6:=List.filter_eq_self.2 (fun t ht=>decide_eq_true (k2 t (g3.subset ht)));have f2:body.filter (fun t=>decide (t.kind≠0))=body:=List.filter_eq_self.2 (fun t ht=>decide_eq_true (h3 t ht).1);have f3:[e].filter (fun t=>decide (t.kind≠0))=[]:=by simp[h2]
        rw[f1,f2,f3,fM]at s2;exact s2
       have FE:∀t∈j6,Tok t:=fun t ht=>h3 t (Qz.subset ht)
       refine⟨j6,rk,d',_,g1,by omega,FE, ?_,Ua g1 (by omega) FE⟩;rw[ahl];exact bF (abD Qz) h4
     · omega
   · rw[if_neg hk]at h6;injection h6 with h6;cases h6
def bz(k:Int):Nat:=if 9≤k∧k≤14 then 0 else if k=15 then 1 else if 16≤k∧k≤17 then 2 else if 18≤k∧k≤19 then 3 else if k=8 then 4 else 5
def iM(b:Bool)(t:List Int):List Int:=if b=true then 40 :: (t++[41])else t
def iE:List (List Int)→List Int
 | []=>[]
 | [a]=>a
 | a :: b :: l=>a++44 :: iE (b :: l)
def nodeAt(l:List Nd)(at':Int):Nd:=l.getD at'.toNat Nd.zero
def kH:Nat→List Nd→Int→List Int
 | 0,_,_=>[]
 | f + 1,l,i =>
   if (nodeAt l i).kind=1 then aQ (nodeAt l i).num.toNat
   else if (nodeAt l i).kind=2 then 34 :: (ek (sb (nodeAt l i).text)++[34])
   else if (nodeAt l i).kind=3 then (if (nodeAt l i).num=1 then [84,82,85,69]else [70,65,76,83,69])
   else if (nodeAt l i).kind=4 then [35,82,69,70,33]
   else if (nodeAt l i).kind=5 then aY (sb (nodeAt l i).ref.sh) (nodeAt l i).ref.c (nodeAt l i).ref.r (nodeAt l i).ref.ac (nodeAt l i).ref.ar
   else if (nodeAt l i).kind=6 then aY (sb (nodeAt l i).ref.sh) (nodeAt l i).ref.c (nodeAt l i).ref.r (nodeAt l i).ref.ac (nodeAt l i).ref.ar++58 :: aY (sb (nodeAt l i).af.sh) (nodeAt l i).af.c (nodeAt l i).af.r (nodeAt l i).af.ac (nodeAt l i).af.ar
   else if (nodeAt l i).kind=7 then sb (nodeAt l i).text++40 :: (iE ((nodeAt l i).kids.map (kH f l))++[41])
   else if (nodeAt l i).kind=8 then 45 :: iM (decide (bz (nodeAt l ((nodeAt l i).kids.getD 0 0)).kind<4)) (kH f l ((nodeAt l i).kids.getD 0 0))
   else iM (decide (bz (nodeAt l ((nodeAt l i).kids.getD 0 0)).kind<bz (nodeAt l i).kind)) (kH f l ((nodeAt l i).kids.getD 0 0)) ++
    (qD ((nodeAt l i).kind - 9).toNat++iM (decide (bz (nodeAt l ((nodeAt l i).kids.getD 1 0)).kind≤bz (nodeAt l i).kind)) (kH f l ((nodeAt l i).kids.getD 1 0)))
def cB(l:List Nd):List Int:=if bR l=true then kH l.length l ((l.length:Int) - 1)else []
theorem KA (y:List Int):∀xs:List (List Int),xs≠[]→iE (xs++[y])=iE xs++44 :: y
 | [],h=>absurd rfl h
 | [x],_=>rfl
 | x :: x' :: xs,_=>by
   have ih:=KA y (x' :: xs) (by simp);show x++44 :: iE (x' :: xs++[y])=x++44 :: iE (x' :: xs)++44 :: y;rw[ih];simp
theorem Ai (f:Nat)(l:List Nd)(i:Int)(n:Nd)(h:nodeAt l i=n):kH (f+1) l i =
 if n.kind=1 then aQ n.num.toNat
 else if n.kind=2 then 34 :: (ek (sb n.text)++[34])
 else if n.kind=3 then (if n.num=1 then [84,82,85,69]else [70,65,76,83,69])
 else if n.kind=4 then [35,82,69,70,33]
 else if n.kind=5 then aY (sb n.ref.sh) n.ref.c n.ref.r n.ref.ac n.ref.ar
 else if n.kind=6 then aY (sb n.ref.sh) n.ref.c n.ref.r n.ref.ac n.ref.ar++58 :: aY (sb n.af.sh) n.af.c n.af.r n.af.ac n.af.ar
 else if n.kind=7 then sb n.text++40 :: (iE (n.kids.map (kH f l))++[41])
 else if n.kind=8 then 45 :: iM (decide (bz (nodeAt l (n.kids.getD 0 0)).kind<4)) (kH f l (n.kids.getD 0 0))
 else iM (decide (bz (nodeAt l (n.kids.getD 0 0)).kind<bz n.kind)) (kH f l (n.kids.getD 0 0)) ++
  (qD (n.kind - 9).toNat++iM (decide (bz (nodeAt l (n.kids.getD 1 0)).kind≤bz n.kind)) (kH f l (n.kids.getD 1 0))):=by
 subst h;conv=>lhs;unfold kH
theorem Ap(a b:List ag):gU (a++b)=gU a++gU b:=by unfold gU;rw[List.flatMap_append]
theorem qL {s:ByteArray}{t:ag}(h:gP s t):dx t=sb s:=by
 unfold dx;rw[h.1,h.2];rfl
theorem Hf {n rk d d':Nat}{ts ts':List ag}(h:Wr n rk d ts d' ts'):gU ts'=iM (decide (rk<n)) (gU ts):=by
 rcases h with ⟨h,rfl,_⟩|⟨h,_,l,r,hl,hr,rfl⟩
 · rw[decide_eq_false (by omega)];rfl
 · rw[decide_eq_true h,kJ,Ap,kJ,qL hl,qL hr];rfl
def wH(l:List Nd)(base:Nat)(ns:List Nd):Prop:=∃pre post,l=pre++(ns++post)∧pre.length=base
theorem wH.left {l ns ms:List Nd}{base:Nat}(h:wH l base (ns++ms)):wH l base ns:=by
 obtain⟨p,q,h1,h2⟩:=h;exact⟨p,ms++q,by rw[h1];simp,h2⟩
theorem wH.right {l ns ms:List Nd}{base:Nat}(h:wH l base (ns++ms)):wH l (base+ns.length) ms:=by
 obtain⟨p,q,h1,h2⟩:=h;exact⟨p++ns,q,by rw[h1];simp,by rw[ak,h2]⟩
theorem wH.at {l:List Nd}{base:Nat}{n:Nd}(h:wH l base [n]):nodeAt l (base:Int)=n:=by
 obtain⟨p,q,h1,h2⟩:=h;unfold nodeAt;rw[h1,Int.toNat_natCast, ← h2];simp
theorem Lb:∀o:Nat,o<11→bz (9+(o:Int))=rk o∧sb (jo.getD o ⟨#[]⟩)=qD o:=by decide +kernel
theorem afN {b:Bool}{base:Nat}{ns:List Nd}{ks:List Int}{ts:List ag}{pI d:Nat}(h:Sh b base ns ks ts pI d) :
 ∀l f,wH l base ns→ns.length≤f→(b=false→∀a,ks=[a]→kH f l a=gU ts∧bz (nodeAt l a).kind=pI)∧(b=true→iE (ks.map (kH f l))=gU ts):=by
 induction h with
 | leaf base ts nd h =>
   intro l f hi hf;refine⟨fun _ a ha => ?_,fun h=>by cases h⟩;injection ha with ha _;subst ha;obtain⟨g,rfl⟩:∃g,f=g+1:=⟨f - 1,by simp at hf;omega⟩;have hn:=hi.at
   rw[hn];rw[Ai g l _ nd hn];cases h with
   | num t h=>refine⟨?_,rfl⟩;rw[if_pos rfl,kJ];unfold dx;rw[if_pos h];simp[gU]
   | text t h=>refine⟨?_,rfl⟩;rw[if_neg (by simp),if_pos rfl,kJ];unfold dx;rw[h,if_neg (by decide),if_pos rfl];simp[gU]
   | yes t h g=>refine⟨?_,rfl⟩;rw[if_neg (by decide),if_neg (by decide),if_pos rfl,if_pos rfl,kJ];unfold dx;rw[h,g,if_neg (by decide),if_neg (by decide),if_neg (by decide),if_neg (by decide)];rfl
   | no t h g=>refine⟨?_,rfl⟩;rw[if_neg (by decide),if_neg (by decide),if_pos rfl,if_neg (by decide),kJ];unfold dx;rw[h,g,if_neg (by decide),if_neg (by decide),if_neg (by decide),if_neg (by decide)];rfl
   | dead t h=>refine⟨?_,rfl⟩;rw[if_neg (by decide),if_neg (by decide),if_neg (by decide),if_pos rfl,kJ];unfold dx;rw[h,if_neg (by decide),if_neg (by decide),if_neg (by decide),if_pos rfl];rfl
   | ref t h =>
     refine⟨?_,rfl⟩;rw[if_neg (by simp),if_neg (by simp),if_neg (by simp),if_neg (by simp),if_pos rfl,kJ];unfold dx;rw[h,if_neg (by decide),if_neg (by decide),if_pos rfl];simp[gU,ag.dw]
   | range t c u h hc g hs =>
     refine⟨?_,rfl⟩;rw[if_neg (by simp),if_neg (by simp),if_neg (by simp),if_neg (by simp),if_neg (by simp),if_pos rfl,kJ,kJ,kJ,qL hc];unfold dx;rw[h,g,if_neg (by decide),if_neg (by decide),if_pos rfl,if_neg (by decide),if_neg (by decide),if_pos rfl];have:sb (⟨#[58]⟩:ByteArray)=[58]:=by decide
     rw[this];simp[gU,ag.dw]
 | neg base ns a ts rk d h m hm d' ts' hw ih =>
   intro l f hi hf;refine⟨fun _ a' ha => ?_,fun h=>by cases h⟩;injection ha with ha _;subst ha;rw[ak,fK]at hf;obtain⟨g,rfl⟩:∃g,f=g+1:=⟨f - 1,by omega⟩;obtain⟨e1,e2⟩:=(ih l g hi.left (by omega)).1 rfl a rfl;have hn:=hi.right.at
   rw[hn];refine⟨?_,rfl⟩;rw[Ai g l _ _ hn,if_neg (by simp),if_neg (by simp),if_neg (by simp),if_neg (by simp),if_neg (by simp),if_neg (by simp),if_neg (by simp),if_pos rfl,kJ,qL hm,Hf hw];show 45 :: iM (decide (bz (nodeAt l a).kind<4)) (kH g l a)=_;rw[e1,e2];rfl
 | op base o ho ns ms a b ts us oK lJ d1 d2 h g s hs x1 x2 ts' j6 hw gw ih jB =>
   intro l f hi hf;refine⟨fun _ a' ha => ?_,fun h=>by cases h⟩;injection ha with ha _;subst ha;rw[ak,ak,fK]at hf;obtain⟨q,rfl⟩:∃q,f=q+1:=⟨f - 1,by omega⟩;obtain⟨e1,e2⟩:=(ih l q hi.left (by omega)).1 rfl a rfl;obtain⟨j1,j2⟩:=(jB l q hi.right.left (by omega)).1 rfl b rfl;have hn:=hi.right.right.at
   rw[Nat.add_assoc]at hn;obtain⟨hr,ht⟩:=Lb o ho;rw[hn];refine⟨?_,hr⟩
   rw [Ai q l _ _ hn,if_neg (by show ¬ 9+(o:Int)=1;omega),if_neg (by show ¬ 9+(o:Int)=2;omega),if_neg (by show ¬ 9+(o:Int)=3;omega),if_neg (by show ¬ 9+(o:Int)=4;omega),if_neg (by show ¬ 9+(o:Int)=5;omega),
    if_neg (by show ¬ 9+(o:Int)=6;omega),if_neg (by show ¬ 9+(o:Int)=7;omega),if_neg (by show ¬ 9+(o:Int)=8;omega),Ap,kJ,qL hs,Hf hw,Hf gw]
   show iM (decide (bz (nodeAt l a).kind<bz (9+(o:Int)))) (kH q l a)++(qD (9+(o:Int) - 9).toNat++iM (decide (bz (nodeAt l b).kind≤bz (9+(o:Int)))) (kH q l b))=_;rw[e1,e2,j1,j2,hr,ht,show(9+(o:Int) - 9).toNat=o by omega];have:decide (lJ≤rk o)=decide (lJ<rk o+1):=by rw[decide_eq_decide];omega
   rw[this]
 | call base ns ks ts d h t x r ht h1 h2 hl hr ih =>
   intro l f hi hf;refine⟨fun _ a' ha => ?_,fun h=>by cases h⟩;injection ha with ha _;subst ha;rw[ak,fK]at hf;obtain⟨g,rfl⟩:∃g,f=g+1:=⟨f - 1,by omega⟩;have e1:=(ih l g hi.left (by omega)).2 rfl;have hn:=hi.right.at
   rw[hn];refine⟨?_,rfl⟩;rw[Ai g l _ _ hn,if_neg (by simp),if_neg (by simp),if_neg (by simp),if_neg (by simp),if_neg (by simp),if_neg (by simp),if_pos rfl,kJ,kJ,Ap,kJ,qL hl,qL hr];have:dx t=sb t.text:=by unfold dx;rw[ht];rfl
   rw[this];show sb t.text++40 :: (iE (ks.map (kH g l))++[41])=_;rw[e1];rfl
 | none base=>exact fun l f _ _=>⟨fun h=>(by cases h),fun _=>rfl⟩
 | one base ns a ts rk d h ih =>
   intro l f hi hf;exact⟨fun h=>(by cases h),fun _=>((ih l f hi hf).1 rfl a rfl).1⟩
 | and base ns ms ks b ts us rk d1 d2 h hk c hc g ih jB =>
   intro l f hi hf;refine⟨fun h=>(by cases h),fun _ => ?_⟩;rw[ak]at hf;have e1:=(ih l f hi.left (by omega)).2 rfl;have e2:=((jB l f hi.right (by omega)).1 rfl b rfl).1;rw[iy,jr,List.map_nil,KA _ _ (by simpa using hk),e1,e2,Ap,kJ,qL hc];rfl
theorem afI {b:Bool}{base:Nat}{ns:List Nd}{ks:List Int}{ts:List ag}{pI d:Nat}(h:Sh b base ns ks ts pI d):b=false→ks=[((base+ns.length:Nat):Int) - 1]:=by
 cases h with
 | leaf base ts nd h=>intro _;simp
 | neg base ns a ts rk d h m hm d' ts' hw=>intro _;simp;omega
 | op base o ho ns ms a b ts us oK lJ d1 d2 h g s hs e1 e2 ts' j6 hw gw=>intro _;simp;omega
 | call base ns ks ts d h t l r ht h1 h2 hl hr=>intro _;simp;omega
 | none base=>intro h;cases h
 | one base ns a ts rk d h=>intro h;cases h
 | and base ns ms ks b ts us rk d1 d2 h hk c hc g=>intro h;cases h
theorem BM {ns:List Nd}{a:Int}{ts:List ag}{pI d:Nat}(h:Sh false 0 ns [a] ts pI d)(ht:bR ns=true):cB ns=gU ts:=by
 unfold cB;rw[if_pos ht];have e:=afI h rfl;have:=((afN h ns ns.length ⟨[],[],by simp,rfl⟩ (ah _)).1 rfl a rfl).1;injection e with e _;rw[e,Nat.zero_add]at this;exact this
theorem adS {l:List Int}{ts:List ag}{f:Nat}{ns:List Nd}(hb:Bytes l)(hl:fT l=some ts)(hp:kY f ts=some (.ok ns))(ht:bR ns=true) :
 (cB ns).length≤l.length∧∃vs g,fT (cB ns)=some vs∧kY g vs=some (.ok ns):=by
 obtain⟨us,pI,d,a,h1,h2,h3,h4,h5⟩:=UN hb hl hp;rw[BM h1 ht];exact⟨h4,h5⟩
theorem UT:∀(ns:List Nd)(st:List Int)(i:Nat),(∀k∈st,0≤k∧k<i)→mI st i ns=true→∀(j:Nat)(n:Nd),ns[j]? = some n→bX n=true∧∀k∈n.kids,0≤k∧k<((i+j:Nat):Int)
 | [],_,_,_,_,j,n,h=>by simp at h
 | m :: ns,st,i,hst,ht,j,n,h=>by
   rw[mJ,dA,dA,dA,decide_eq_true_iff,decide_eq_true_iff]at ht;obtain⟨h1,h2,h3,h4⟩:=ht;cases j with
   | zero =>
     have:m=n:=by simpa using h
     subst this;refine⟨h1,fun k hk => ?_⟩;rw[← h3]at hk;exact hst k (List.mem_of_mem_drop hk)
   | succ j =>
     have g:=UT ns _ (i+1) (by
      intro k hk;rcases List.mem_append.1 hk with hk|hk
      · have:=hst k (List.mem_of_mem_take hk);omega
      · simp at hk;omega) h4 j n (by simpa using h)
     rw[show i+(j+1)=i+1+j by omega];exact g
theorem yK {l:List Nd}(h:bR l=true){i:Int}(h0:0≤i)(h1:i<l.length):bX (nodeAt l i)=true∧∀k∈(nodeAt l i).kids,0≤k∧k<i:=by
 have hi:i.toNat<l.length:=by omega
 have hn:l[i.toNat]? = some (nodeAt l i):=by
  unfold nodeAt;rw[jG,dm hi];rfl
 have:=UT l [] 0 (by intro k hk;simp at hk) h i.toNat _ hn;refine⟨this.1,fun k hk => ?_⟩;have:=this.2 k hk;omega
theorem qg {n:Nd}(h:bX n=true):(n.kind=8→n.kids.length=1)∧(9≤n.kind→n.kids.length=2)∧(1≤n.kind∧n.kind≤6→n.kids=[])∧1≤n.kind∧n.kind≤19∧aD n=true:=by
 unfold bX at h;rw[dA,Bool.or_eq_true,decide_eq_true_iff,decide_eq_true_iff]at h;obtain⟨h1,h2⟩:=h;unfold jh at h2;split at h2
 · refine⟨by omega,by omega,fun _ => ?_,by omega,by omega,h1⟩
   apply kg;omega
 · split at h2
   · exact⟨by omega,by omega,by omega,by omega,by omega,h1⟩
   · split at h2
     · exact⟨by omega,by omega,by omega,by omega,by omega,h1⟩
     · split at h2
       · exact⟨by omega,by omega,by omega,by omega,by omega,h1⟩
       · omega
theorem Bp {n:Nd}{j:Nat}(h:j<n.kids.length):n.kids.getD j 0∈n.kids:=by
 rw[jG,dm h];exact List.getElem_mem h
theorem Uf {l:List Nd}(h:bR l=true):∀(m f g:Nat)(i:Int),0≤i→i<l.length→i.toNat<m→i<f→i<g→kH f l i=kH g l i
 | 0,_,_,_,_,_,hm,_,_=>by omega
 | m + 1, f,g,i,h0,h1,hm,hf,hg=>by
   obtain⟨f,rfl⟩:∃f',f=f'+1:=⟨f - 1,by omega⟩;obtain⟨g,rfl⟩:∃g',g=g'+1:=⟨g - 1,by omega⟩;obtain⟨hn,hk⟩:=yK h h0 h1
   have ih:∀k∈(nodeAt l i).kids,kH f l k=kH g l k:=fun k dn=>by
    have:=hk k dn;exact Uf h m f g k this.1 (by omega) (by omega) (by omega) (by omega)
   obtain⟨a1,a2,_,_,_,_⟩:=qg hn;rw[Ai f l i _ rfl,Ai g l i _ rfl];by_cases k7:(nodeAt l i).kind=7
   · have:(nodeAt l i).kids.map (kH f l)=(nodeAt l i).kids.map (kH g l):=List.map_congr_left ih
     simp only[k7,this,reduceIte,Int.reduceEq]
   · by_cases k8:(nodeAt l i).kind=8
     · have e0:=ih _ (Bp (j:=0) (by rw[a1 k8];omega))
       simp only[k8,e0,reduceIte,Int.reduceEq]
     · by_cases k9:9≤(nodeAt l i).kind
       · have e0:=ih _ (Bp (j:=0) (by rw[a2 k9];omega))
         have e1:=ih _ (Bp (j:=1) (by rw[a2 k9];omega));simp only[k7,if_false,e0,e1]
       · have:∀k:Int,k≤8→k≠7→k≠8→1≤k→k=1∨k=2∨k=3∨k=4∨k=5∨k=6:=by omega
         rcases this (nodeAt l i).kind (by omega) k7 k8 (by omega)with e|e|e|e|e|e <;> simp[e]
def bq(l:List Nd)(i:Int):List Int:=kH l.length l i
theorem uS {l:List Nd}(h:bR l=true){i:Int}(h0:0≤i)(h1:i<l.length)(n:Nd)(hn:nodeAt l i=n):bq l i =
 if n.kind=1 then aQ n.num.toNat
 else if n.kind=2 then 34 :: (ek (sb n.text)++[34])
 else if n.kind=3 then (if n.num=1 then [84,82,85,69]else [70,65,76,83,69])
 else if n.kind=4 then [35,82,69,70,33]
 else if n.kind=5 then aY (sb n.ref.sh) n.ref.c n.ref.r n.ref.ac n.ref.ar
 else if n.kind=6 then aY (sb n.ref.sh) n.ref.c n.ref.r n.ref.ac n.ref.ar++58 :: aY (sb n.af.sh) n.af.c n.af.r n.af.ac n.af.ar
 else if n.kind=7 then sb n.text++40 :: (iE (n.kids.map (bq l))++[41])
 else if n.kind=8 then 45 :: iM (decide (bz (nodeAt l (n.kids.getD 0 0)).kind<4)) (bq l (n.kids.getD 0 0))
 else iM (decide (bz (nodeAt l (n.kids.getD 0 0)).kind<bz n.kind)) (bq l (n.kids.getD 0 0)) ++
  (qD (n.kind - 9).toNat++iM (decide (bz (nodeAt l (n.kids.getD 1 0)).kind≤bz n.kind)) (bq l (n.kids.getD 1 0))):=by
 have:=Uf h (i.toNat+1) l.length (l.length+1) i h0 h1 (by omega) h1 (by omega);unfold bq;rw[this,Ai l.length l i n hn]
structure ay where
 t:ByteArray
 node:Int
 least:Int
def ay.plain(t:ByteArray):ay:=⟨t,0,0⟩
def ay.op(node least:Int):ay:=⟨⟨#[]⟩,node,least⟩
def j3(l:List Nd)(p:ay):List Int:=if p.t=⟨#[]⟩then iM (decide ((bz (nodeAt l p.node).kind:Int)+1<p.least)) (bq l p.node)else sb p.t
def jw(l:List Nd)(p:ay):Prop:=p.t=⟨#[]⟩→0≤p.node∧p.node<l.length
theorem BA (l:List Nd)(i m:Int):j3 l (ay.op i m)=iM (decide ((bz (nodeAt l i).kind:Int)+1<m)) (bq l i):=by
 unfold j3;rw[if_pos (show(ay.op i m).t=⟨#[]⟩from rfl)];rfl
theorem Gt (l:List Nd)(t:ByteArray)(h:t≠⟨#[]⟩):j3 l (ay.plain t)=sb t:=by
 unfold j3;rw[if_neg (show ¬ (ay.plain t).t=⟨#[]⟩from h)];rfl
theorem jw.plain(l:List Nd)(t:ByteArray)(h:t≠⟨#[]⟩):jw l (ay.plain t):=fun e=>absurd e h
theorem jw.op{l:List Nd}{i:Int}(h0:0≤i)(h1:i<l.length)(m:Int):jw l (ay.op i m):=fun _=>⟨h0,h1⟩
def nM:List Int→List ay
 | []=>[]
 | [a]=>[ay.op a 1]
 | a :: b :: ks=>ay.op a 1 :: ay.plain ⟨#[44]⟩ :: nM (b :: ks)
theorem Kw (l:List Nd)(i:Int):iM (decide ((bz (nodeAt l i).kind:Int)+1<1)) (bq l i)=bq l i:=by
 rw[decide_eq_false (by omega)];rfl
theorem Og (l:List Nd):∀ks:List Int,(nM ks).flatMap (j3 l)=iE (ks.map (bq l))
 | []=>rfl
 | [a]=>by
   show j3 l (ay.op a 1)++[]=bq l a;rw[fM,BA,Kw]
 | a :: b :: ks=>by
   have ih:=Og l (b :: ks);show j3 l (ay.op a 1)++(j3 l (ay.plain ⟨#[44]⟩)++(nM (b :: ks)).flatMap (j3 l))=bq l a++44 :: iE ((b :: ks).map (bq l));rw[ih,BA,Kw,Gt l _ (by decide)];rfl
def dQ (n:Nd):List Int × List ay :=
 if n.kind=1 then (aQ n.num.toNat,[])
 else if n.kind=2 then (34 :: (ek (sb n.text)++[34]),[])
 else if n.kind=3 then ((if n.num=1 then [84,82,85,69]else [70,65,76,83,69]),[])
 else if n.kind=4 then ([35,82,69,70,33],[])
 else if n.kind=5 then (aY (sb n.ref.sh) n.ref.c n.ref.r n.ref.ac n.ref.ar,[])
 else if n.kind=6 then (aY (sb n.ref.sh) n.ref.c n.ref.r n.ref.ac n.ref.ar++58 :: aY (sb n.af.sh) n.af.c n.af.r n.af.ac n.af.ar,[])
 else if n.kind=7 then (sb n.text++[40],nM n.kids++[ay.plain ⟨#[41]⟩])
 else if n.kind=8 then ([45],[ay.op (n.kids.getD 0 0) 5])
 else ([],[ay.op (n.kids.getD 0 0) ((bz n.kind:Int)+1),ay.plain (jo.getD (n.kind - 9).toNat ⟨#[]⟩),ay.op (n.kids.getD 1 0) ((bz n.kind:Int)+2)])
theorem JF{p q:Prop} [Decidable p] [Decidable q] (h:p↔q):decide p=decide q:=by rw[decide_eq_decide];exact h
theorem Sn:∀o:Nat,o<11→jo.getD o ⟨#[]⟩≠⟨#[]⟩:=by decide
theorem agt {l:List Nd}(h:bR l=true){i:Int}(h0:0≤i)(h1:i<l.length)(n:Nd)(hn:nodeAt l i=n):bq l i=(dQ n).1++(dQ n).2.flatMap (j3 l):=by
 obtain⟨hnb, -⟩:=yK h h0 h1;rw[hn]at hnb;obtain⟨-, -, -,b1,b2, -⟩:=qg hnb;rw[uS h h0 h1 n hn];unfold dQ;split
 · simp
 split
 · simp
 split
 · simp
 split
 · simp
 split
 · simp
 split
 · simp
 split
 · rw[List.flatMap_append,Og,oP,List.flatMap_nil,Gt l _ (by decide)]
   simp only[bG,cu,gL,fM];rfl
 split
 · rw[oP,List.flatMap_nil,BA,fM,JF (show(bz (nodeAt l (n.kids.getD 0 0)).kind<4↔(bz (nodeAt l (n.kids.getD 0 0)).kind:Int)+1<5)by omega)]
   rfl
 · have ho:(n.kind - 9).toNat<11:=by omega
   rw [oP,oP,oP,List.flatMap_nil,BA,BA,Gt l _ (Sn _ ho),(Lb _ ho).2,fM,gL,
    JF (show(bz (nodeAt l (n.kids.getD 0 0)).kind<bz n.kind↔(bz (nodeAt l (n.kids.getD 0 0)).kind:Int)+1<(bz n.kind:Int)+1)by omega),
    JF (show(bz (nodeAt l (n.kids.getD 1 0)).kind≤bz n.kind↔(bz (nodeAt l (n.kids.getD 1 0)).kind:Int)+1<(bz n.kind:Int)+2)by omega)]
theorem Oj {l:List Nd}:∀ks:List Int,(∀k∈ks,0≤k∧k<(l.length:Int))→∀p∈nM ks,jw l p
 | [],_,p,hp=>by simp[nM]at hp
 | [a],h,p,hp=>by
   simp[nM]at hp;subst hp;exact jw.op (h a (by simp)).1 (h a (by simp)).2 1
 | a :: b :: ks,h,p,hp=>by
   simp only[nM,List.mem_cons]at hp;rcases hp with rfl|rfl|hp
   · exact jw.op (h a (by simp)).1 (h a (by simp)).2 1
   · exact jw.plain l _ (by decide)
   · exact Oj (b :: ks) (fun k hk=>h k (List.mem_cons_of_mem _ hk)) p hp
theorem agu {l:List Nd}(h:bR l=true){i:Int}(h0:0≤i)(h1:i<l.length)(n:Nd)(hn:nodeAt l i=n):∀p∈(dQ n).2,jw l p:=by
 obtain⟨hnb,hk⟩:=yK h h0 h1;rw[hn]at hnb hk;obtain⟨a1,a2, -,b1,b2, -⟩:=qg hnb;have hkl:∀k∈n.kids,0≤k∧k<(l.length:Int):=fun k dn=>by have:=hk k dn;omega
 intro p hp;unfold dQ at hp;split at hp
 · simp at hp
 split at hp
 · simp at hp
 split at hp
 · simp at hp
 split at hp
 · simp at hp
 split at hp
 · simp at hp
 split at hp
 · simp at hp
 split at hp
 · rcases List.mem_append.1 hp with hp|hp
   · exact Oj _ hkl p hp
   · rw[List.mem_singleton.1 hp];exact jw.plain l _ (by decide)
 split at hp
 · rename_i k8
   rw[List.mem_singleton.1 hp];have:=hkl _ (Bp (n:=n) (j:=0) (by rw[a1 k8];omega));exact jw.op this.1 this.2 5
 · have k9:9≤n.kind:=by omega
   have g0:=hkl _ (Bp (n:=n) (j:=0) (by rw[a2 k9];omega));have g1:=hkl _ (Bp (n:=n) (j:=1) (by rw[a2 k9];omega));simp only[List.mem_cons,List.not_mem_nil,or_false]at hp;rcases hp with rfl|rfl|rfl
   · exact jw.op g0.1 g0.2 _
   · exact jw.plain l _ (Sn _ (by omega))
   · exact jw.op g1.1 g1.2 _
def lY (l:List Nd)(p:ay):List Int × List ay :=
 if p.t=⟨#[]⟩then (if (bz (nodeAt l p.node).kind:Int)+1<p.least then (40 :: (dQ (nodeAt l p.node)).1,(dQ (nodeAt l p.node)).2++[ay.plain ⟨#[41]⟩])else dQ (nodeAt l p.node))else (sb p.t,[])
theorem Uw {l:List Nd}(h:bR l=true)(p:ay)(hp:jw l p):j3 l p=(lY l p).1++(lY l p).2.flatMap (j3 l):=by
 rw[show j3 l p=if p.t=⟨#[]⟩then iM (decide ((bz (nodeAt l p.node).kind:Int)+1<p.least)) (bq l p.node)else sb p.t from rfl];unfold lY;by_cases ht:p.t=⟨#[]⟩
 · obtain ⟨h0,h1⟩:=hp ht
   rw[if_pos ht,if_pos ht,agt h h0 h1 _ rfl];by_cases hr:(bz (nodeAt l p.node).kind:Int)+1<p.least
   · rw[if_pos hr,decide_eq_true hr,List.flatMap_append,oP,List.flatMap_nil,Gt l _ (by decide)]
     show 40 :: (((dQ (nodeAt l p.node)).1++(dQ (nodeAt l p.node)).2.flatMap (j3 l))++[41])=_;simp only[bG,cu,fM];rfl
   · rw[if_neg hr,decide_eq_false hr];rfl
 · rw[if_neg ht,if_neg ht];simp
theorem Mk {l:List Nd}(h:bR l=true)(p:ay)(hp:jw l p):∀q∈(lY l p).2,jw l q:=by
 unfold lY;by_cases ht:p.t=⟨#[]⟩
 · obtain ⟨h0,h1⟩:=hp ht
   rw[if_pos ht];have:=agu h h0 h1 _ rfl;by_cases hr:(bz (nodeAt l p.node).kind:Int)+1<p.least
   · rw[if_pos hr]
     intro q hq;rcases List.mem_append.1 hq with hq|hq
     · exact this q hq
     · rw[List.mem_singleton.1 hq];exact jw.plain l _ (by decide)
   · rw[if_neg hr];exact this
 · rw[if_neg ht];intro q hq;simp at hq
theorem UM {x:Int}{l:List Int}(aX:∀y∈x :: l,isWord y=true)(hx:isLet x=true∨x=36):eO (x :: l++[32])=(match gH (strOfNums (x :: l))with
 | some d=>some ({ ag.zero with kind:=4,sh:=d.sh,c:=d.c,r:=d.r,ac:=d.ac,ar:=d.ar },(x :: l).length)
 | none=>if jb (x :: l)=true then some ({ ag.zero with kind:=3,text:=strOfNums (x :: l) },(x :: l).length)else none):=by
 have h1:¬ isNum x=true:=by
  rcases hx with hx|hx
  · unfold isLet at hx;unfold isNum;rw[decide_eq_true_iff]at hx ⊢;omega
  · subst hx;decide
 have h2:¬ x=34∧¬ x=35:=by
  rcases hx with hx|hx
  · unfold isLet at hx;rw[decide_eq_true_iff]at hx;omega
  · omega
 have ht:(x :: (l++[32])).takeWhile isWord=x :: l:=uT isWord (x :: l) [32] aX (fun y hy=>by simp at hy;subst hy;decide);rw[cu,qJ,if_neg h1,if_neg h2.1,if_neg h2.2,if_pos hx];unfold l7;rw[ht];rfl
def D6(n:Int):ag:={ ag.zero with kind:=1,num:=n }
def D8(s:ByteArray):ag:={ ag.zero with kind:=2,text:=s }
def vY(s:ByteArray):ag:={ ag.zero with kind:=3,text:=s }
def xn(r:bC):ag:={ ag.zero with kind:=4,sh:=r.sh,c:=r.c,r:=r.r,ac:=r.ac,ar:=r.ar }
def D7(s:ByteArray):ag:={ ag.zero with kind:=5,text:=s }
def D5:ag:={ ag.zero with kind:=6 }
theorem ag7 {n:Int}(h0:0≤n)(h:n≤9223372036854775807):Tok (D6 n):=by
 have e:dx (D6 n)=aQ n.toNat:=rfl;refine⟨(by simp[D6]), ?_,by rw[e];exact OH _⟩;have:=ag5 n.toNat (by omega) [32] (fun x hx=>by simp at hx;subst hx;decide);rw[e,this,Int.toNat_of_nonneg h0];rfl
theorem Jw:∀l:List Int,Bytes l→Bytes (ek l)
 | [],_=>Bytes.nil
 | x :: l,h=>by
   have ih:=Jw l (fun y hy=>h y (by simp[hy]));show Bytes ((if x=34 then [34,34]else [x])++ek l);refine Bytes.append ?_ ih;split
   · intro y hy;simp at hy;omega
   · intro y hy;simp at hy;subst hy;exact h y (by simp)
theorem ag9 {s:ByteArray}(h:lI (sb s)=true):Tok (D8 s):=by
 have e:dx (D8 s)=34 :: (ek (sb s)++[34]):=rfl;have hb:Bytes [34]:=by intro x hx;simp at hx;omega
 refine⟨(by simp[D8]), ?_,by rw[e];exact Bytes.append (a:=[34]) hb ((Jw _ (sV s)).append hb)⟩;unfold lI at h;have:=Lm (sb s) [32] (of_decide_eq_true h) (fun x hx=>by simp at hx;omega);rw[e,cu,qJ,if_neg (by decide),if_pos rfl];unfold kG;rw[bG,List.singleton_append,this];simp only[Option.map_some,bA,bg,l5,aO,ak,dI]
 first
  | rfl
  | exact⟨rfl,trivial⟩
theorem MC {s:ByteArray}(h:jb (sb s)=true)(hr:(gH s).isNone=true):Tok (vY s):=by
 have e:dx (vY s)=sb s:=rfl;refine⟨(by simp[vY]), ?_,by rw[e];exact sV s⟩;have hc:=h;unfold jb at hc;rw[dA,dA,decide_eq_true_iff,decide_eq_true_iff]at hc;obtain⟨c1,c2,c3⟩:=hc;have hs:=l5 s;rw[e];cases hq:sb s with
 | nil=>rw[hq]at c2;simp at c2
 | cons x l =>
   rw[hq]at c1 c3 hs h
   have aX:∀y∈x :: l,isWord y=true:=by
    intro y hy;have:=c1 y hy;rw[Bool.or_eq_true]at this;rcases this with g|g
    · exact U3 g
    · exact MQ g
   have hx:isLet x=true:=by
    have hx:aL x=true:=by simpa using c3
    unfold aL at hx;unfold isLet;rw[decide_eq_true_iff]at hx ⊢;omega
   rw[UM aX (.inl hx),hs];cases hd:gH s with
   | some d=>rw[hd]at hr;cases hr
   | none=>simp only;rw[if_pos h];rfl
theorem ME {r:bC}(h:bO r=true):Tok (xn r):=by
 have e:dx (xn r)=aY (sb r.sh) r.c r.r r.ac r.ar:=rfl;refine⟨(by simp[xn]), ?_,by rw[e];exact zk _ _ _ _ _⟩;obtain⟨x,l,hd,hx⟩:=agL (sb r.sh) r.c r.r r.ac r.ar h;have aX:=ahF (sb r.sh) r.c r.r r.ac r.ar h;obtain⟨d,hr,e1,e2,e3,e4,e5⟩:=aec r.sh r.c r.r r.ac r.ar h;rw[e];rw[hd]at aX hr ⊢;rw[UM aX hx,hr];simp only[e1,e2,e3,e4,e5];rfl
def Hd (t:ag):Bool:=match eO (dx t++[32])with
 | some (u,n)=>decide (n=(dx t).length)&&(decide (u.kind=t.kind∧u.text=t.text∧u.num=t.num∧u.sh=t.sh∧u.c=t.c∧u.r=t.r∧u.pos=0)&&(u.ac == t.ac&&u.ar == t.ar))
 | none=>false
theorem UK {t:ag}(h:Hd t=true)(hk:t.kind≠0)(hb:Bytes (dx t)):Tok t:=by
 refine⟨hk, ?_,hb⟩;unfold Hd at h;cases hq:eO (dx t++[32])with
 | none=>rw[hq]at h;cases h
 | some q =>
   obtain⟨u,n⟩:=q;rw[hq]at h;simp only[dA,decide_eq_true_iff,beq_iff_eq]at h;obtain⟨h1,⟨g1,g2,g3,g4,g5,g6,g7⟩,g8,g9⟩:=h;rw[h1]
   have:u=t.goto 0:=by
    cases u;cases t;simp only[ag.goto]at *;subst g1 g2 g3 g4 g5 g6 g7 g8 g9;rfl
   rw[this]
def vX:List ByteArray:=[⟨#[40]⟩,⟨#[41]⟩,⟨#[44]⟩,⟨#[58]⟩]++jo
theorem agd:vX.all (fun s=>Hd (D7 s)&&(dx (D7 s)).all fun x=>decide (0≤x∧x≤255))=true:=by decide +kernel
theorem Ym:(Hd D5&&(dx D5).all fun x=>decide (0≤x∧x≤255))=true:=by decide +kernel
theorem yJ {s:ByteArray}(h:s∈vX):Tok (D7 s)∧gP s (D7 s):=by
 have:=List.all_eq_true.1 agd s h;rw[dA]at this;refine⟨UK this.1 (by decide +revert) ?_,rfl,rfl⟩;intro x hx
 simpa using List.all_eq_true.1 this.2 x hx
theorem ag4:Tok D5:=by
 have:=Ym;rw[dA]at this;refine⟨by decide,(UK this.1 (by decide) ?_).2.1, ?_⟩
 all_goals
  intro x hx
  simpa using List.all_eq_true.1 this.2 x hx
theorem R7 {r:bC}(h:fe r=true):r=bC.zero:=by
 unfold fe at h;rw[dA,decide_eq_true_iff,dA]at h;obtain⟨⟨h1,h2,h3⟩,h4,h5⟩:=h;cases r with
 | mk sh c r ac ar =>
   simp only at h1 h2 h3 h4 h5;subst h1 h2 h3;cases ac <;> cases ar <;> simp at h4 h5
   rfl
theorem Q8 {n:Nd}(h:aD n=true):(n.kind=1∨n.kind=3∨n.num=0)∧(n.kind=2∨n.kind=7∨n.text=⟨#[]⟩)∧(n.kind=5∨n.kind=6∨n.ref=bC.zero)∧(n.kind=6∨n.af=bC.zero) ∧
 (if n.kind=1 then decide (0≤n.num)
   else if n.kind=3 then decide (n.num=0∨n.num=1)
   else if n.kind=2 then lI (sb n.text)
   else if n.kind=7 then jy n.text
   else if n.kind=5 then bO n.ref
   else if n.kind=6 then bO n.ref&&(bO n.af&&eD n.ref n.af)
   else true)=true:=by
 unfold aD at h;by_cases c:(n.kind≠1∧n.kind≠3∧n.num≠0)∨(n.kind≠2∧n.kind≠7∧n.text≠⟨#[]⟩)∨(n.kind≠5∧n.kind≠6∧fe n.ref=false)∨(n.kind≠6∧fe n.af=false)
 · rw[if_pos c]at h;cases h
 · rw [if_neg c]at h
   refine⟨?_, ?_, ?_, ?_,h⟩
   · apply Decidable.byContradiction;intro d;exact c (.inl ⟨fun e=>d (.inl e),fun e=>d (.inr (.inl e)),fun e=>d (.inr (.inr e))⟩)
   · by_cases d1:n.kind=2
     · exact .inl d1
     · by_cases d2:n.kind=7
       · exact .inr (.inl d2)
       · by_cases d3:n.text=⟨#[]⟩
         · exact .inr (.inr d3)
         · exact absurd (.inr (.inl ⟨d1,d2,d3⟩)) c
   · by_cases d1:n.kind=5
     · exact .inl d1
     · by_cases d2:n.kind=6
       · exact .inr (.inl d2)
       · cases d3:fe n.ref with
         | true=>exact .inr (.inr (R7 d3))
         | false=>exact absurd (.inr (.inr (.inl ⟨d1,d2,d3⟩))) c
   · by_cases d2:n.kind=6
     · exact .inl d2
     · cases d3:fe n.af with
       | true=>exact .inr (R7 d3)
       | false=>exact absurd (.inr (.inr (.inr ⟨d2,d3⟩))) c
theorem abC {n:Nd}(h:aD n=true)(h1:1≤n.kind)(h2:n.kind≤6)(hk:n.kids=[])(hm:n.num≤9223372036854775807):∃ts,nZ ts n∧∀t∈ts,Tok t:=by
 obtain⟨f1,f2,f3,f4,f5⟩:=Q8 h;cases n with
 | mk kind num text ref af kids =>
   simp only at f1 f2 f3 f4 f5 h1 h2 hk hm;subst hk;by_cases c1:kind=1
   · subst c1
     rw[if_pos rfl]at f5;obtain rfl:=(f2.resolve_left (by omega)).resolve_left (by omega);obtain rfl:=(f3.resolve_left (by omega)).resolve_left (by omega);obtain rfl:=f4.resolve_left (by omega);exact⟨[D6 num],.num (D6 num) rfl,by intro t ht;simp at ht;subst ht;exact ag7 (of_decide_eq_true f5) hm⟩
   · rw [if_neg c1]at f5
     by_cases c3:kind=3
     · subst c3
       rw[if_pos rfl]at f5;obtain rfl:=(f2.resolve_left (by omega)).resolve_left (by omega);obtain rfl:=(f3.resolve_left (by omega)).resolve_left (by omega);obtain rfl:=f4.resolve_left (by omega)
       have hw:∀s:ByteArray,s=⟨#[84,82,85,69]⟩∨s=⟨#[70,65,76,83,69]⟩→Tok (vY s):=by
        intro s hs;rcases hs with rfl|rfl
        · exact MC (by decide +kernel) (by decide +kernel)
        · exact MC (by decide +kernel) (by decide +kernel)
       rcases of_decide_eq_true f5 with rfl|rfl
       · exact⟨[vY ⟨#[70,65,76,83,69]⟩],.no (vY _) rfl rfl,by intro t ht;simp at ht;subst ht;exact hw _ (.inr rfl)⟩
       · exact⟨[vY ⟨#[84,82,85,69]⟩],.yes (vY _) rfl rfl,by intro t ht;simp at ht;subst ht;exact hw _ (.inl rfl)⟩
     · rw [if_neg c3]at f5
       obtain rfl:=(f1.resolve_left c1).resolve_left c3;by_cases c2:kind=2
       · subst c2
         rw[if_pos rfl]at f5;obtain rfl:=(f3.resolve_left (by omega)).resolve_left (by omega);obtain rfl:=f4.resolve_left (by omega);exact⟨[D8 text],.text (D8 text) rfl,by intro t ht;simp at ht;subst ht;exact ag9 f5⟩
       · rw [if_neg c2,if_neg (by omega)]at f5
         obtain rfl:=(f2.resolve_left c2).resolve_left (by omega);by_cases c5:kind=5
         · subst c5
           rw[if_pos rfl]at f5;obtain rfl:=f4.resolve_left (by omega);exact⟨[xn ref],.ref (xn ref) rfl,by intro t ht;simp at ht;subst ht;exact ME f5⟩
         · rw [if_neg c5]at f5
           by_cases c6:kind=6
           · subst c6
             rw[if_pos rfl,dA,dA]at f5;obtain⟨g,gs⟩:=yJ (s:=⟨#[58]⟩) (by simp[vX,jo]);refine⟨[xn ref,D7 ⟨#[58]⟩,xn af],.range (xn ref) _ (xn af) rfl gs rfl f5.2.2, ?_⟩;intro t ht;simp at ht;rcases ht with rfl|rfl|rfl
             · exact ME f5.1
             · exact g
             · exact ME f5.2.1
           · obtain rfl:kind=4:=by omega
             obtain rfl:=(f3.resolve_left (by omega)).resolve_left (by omega);obtain rfl:=f4.resolve_left (by omega);exact⟨[D5],.dead D5 rfl,by intro t ht;simp at ht;subst ht;exact ag4⟩
theorem MW (n rk d:Nat)(ts:List ag)(h:∀t∈ts,Tok t):∃d' ts',Wr n rk d ts d' ts'∧∀t∈ts',Tok t:=by
 by_cases c:n≤rk
 · exact⟨d,ts,.inl ⟨c,rfl,rfl⟩,h⟩
 · obtain ⟨g1,s1⟩:=yJ (s:=⟨#[40]⟩) (by simp[vX,jo])
   obtain⟨g2,s2⟩:=yJ (s:=⟨#[41]⟩) (by simp[vX,jo]);refine⟨d+1,_,.inr ⟨by omega,rfl,_,_,s1,s2,rfl⟩, ?_⟩;intro t ht;rcases List.mem_cons.1 ht with rfl|ht
   · exact g1
   · rcases List.mem_append.1 ht with ht|ht
     · exact h t ht
     · simp at ht;subst ht;exact g2
inductive FS:Nat→List Nd→List Int→Prop
 | nil:FS 0 [] []
 | snoc (i:Nat)(done:List Nd)(st:List Int)(h:FS i done st)(ns:List Nd)(a:Int)(ts:List ag)(rk d:Nat)(g:Sh false i ns [a] ts rk d)(ht:∀t∈ts,Tok t):FS (i+ns.length) (done++ns) (st++[a])
theorem FS.last {i:Nat}{all:List Nd}{st:List Int}{a:Int}(h:FS i all (st++[a])):∃j done ns ts rk d,FS j done st∧all=done++ns∧i=j+ns.length∧Sh false j ns [a] ts rk d∧∀t∈ts,Tok t:=by
 generalize e:st++[a]=st' at h;cases h with
 | nil=>simp at e
 | snoc j done st0 h ns a0 ts rk d g ht =>
   obtain⟨rfl,e2⟩:=List.append_inj' e rfl;injection e2 with e2 _;subst e2;exact⟨j,done,ns,ts,rk,d,h,rfl,rfl,g,ht⟩
theorem FS.acQ {i:Nat}{done:List Nd}{st:List Int}(h:FS i done st)(e:st=[]):done=[]∧i=0:=by
 cases h with
 | nil=>exact⟨rfl,rfl⟩
 | snoc=>simp at e
theorem afL {base:Nat}{ns:List Nd}{ks:List Int}{ts:List ag}{pI d:Nat}(h:Sh true base ns ks ts pI d)(e:ks=[]):ns=[]∧ts=[]:=by
 cases h with
 | none=>exact⟨rfl,rfl⟩
 | one=>cases e
 | and=>simp at e
theorem FS.many:∀(m:Nat)(ks:List Int),ks.length=m→∀(i:Nat)(all:List Nd)(st:List Int),FS i all (st++ks)→∃j done ns ts d,FS j done st∧all=done++ns∧i=j+ns.length∧Sh true j ns ks ts 0 d∧∀t∈ts,Tok t
 | 0,ks,hk,i,all,st,h=>by
   obtain rfl:=kg hk;rw[fM]at h;exact⟨i,all,[],[],0,h,by simp,by simp,.none i,by simp⟩
 | m + 1,ks,hk,i,all,st,h=>by
   obtain⟨ks',b,rfl⟩:∃ks' b,ks=ks'++[b]:=⟨ks.dropLast,ks.getLast (by rintro rfl;simp at hk),(List.dropLast_concat_getLast _).symm⟩;rw[← bG]at h;obtain⟨j,done,ns,ts,rk,d,h1,rfl,rfl,h2,h3⟩:=h.last;obtain⟨j',vI,ns',ts',d',g1,rfl,rfl,g2,g3⟩:=FS.many m ks' (by simpa using hk) j done st h1;by_cases c:ks'=[]
   · subst c
     obtain⟨rfl,rfl⟩:=afL g2 rfl;exact⟨j',vI,ns,ts,d,g1,by simp,by simp,.one j' ns b ts rk d (by simpa using h2),h3⟩
   · obtain ⟨gc,sc⟩:=yJ (s:=⟨#[44]⟩) (by simp[vX,jo])
     refine⟨j',vI,ns'++ns,_,_,g1,by rw[bG],by rw[ak,Nat.add_assoc],.and j' ns' ns ks' b ts' ts rk d' d g2 c _ sc h2, ?_⟩;intro t ht;rcases List.mem_append.1 ht with ht|ht
     · exact g3 t ht
     · rcases List.mem_cons.1 ht with rfl|ht
       · exact gc
       · exact h3 t ht
theorem UR:∀(ns:List Nd)(i:Nat)(done:List Nd)(st:List Int),FS i done st→mI st i ns=true→(∀n∈ns,n.num≤9223372036854775807)→∃a,FS (i+ns.length) (done++ns) [a]
 | [],i,done,st,h,ht,_=>by
   have:st.length=1:=of_decide_eq_true ht
   match st,this with
   | [a],_=>exact⟨a,by simpa using h⟩
 | n :: ns, i,done,st,h,ht,hm=>by
   rw[mJ,dA,dA,dA,decide_eq_true_iff,decide_eq_true_iff]at ht;obtain⟨h1,h2,h3,h4⟩:=ht;have hst:st=st.take (st.length - n.kids.length)++n.kids:=by conv=>lhs;rw[← List.take_append_drop (st.length - n.kids.length) st,h3]
   generalize st.take (st.length - n.kids.length)=st0 at hst h4;subst hst;unfold bX at h1;rw[dA,Bool.or_eq_true,decide_eq_true_iff,decide_eq_true_iff]at h1;obtain⟨hl,ha⟩:=h1
   have hfs : FS (i+1) (done++[n]) (st0++[(i:Int)]):=by
    by_cases c1:1≤n.kind∧n.kind≤6
    · have hk:n.kids=[]:=by
       unfold jh at ha;rw[if_pos c1]at ha;exact kg (by omega)
      rw[hk,fM]at h;obtain⟨ts,g1,g2⟩:=abC hl c1.1 c1.2 hk (hm n (by simp));exact .snoc i done st0 h [n] _ ts 5 0 (.leaf i ts n g1) g2
    · obtain ⟨f1,f2,f3,f4,f5⟩:=Q8 hl
      have e1:n.num=0:=(f1.resolve_left (by omega)).resolve_left (by omega);have e3:n.ref=bC.zero:=(f3.resolve_left (by omega)).resolve_left (by omega);have e4:n.af=bC.zero:=f4.resolve_left (by omega);rw[if_neg (by omega),if_neg (by omega),if_neg (by omega)]at f5;by_cases c7:n.kind=7
      · rw [if_pos c7]at f5
        unfold jy at f5;rw[dA,dA,dA,decide_eq_true_iff,decide_eq_true_iff]at f5;obtain⟨j,vI,ms,ts,d,g1,rfl,rfl,g2,g3⟩:=FS.many _ n.kids rfl i done st0 h;obtain⟨gl,sl⟩:=yJ (s:=⟨#[40]⟩) (by simp[vX,jo]);obtain⟨gr,sr⟩:=yJ (s:=⟨#[41]⟩) (by simp[vX,jo]);have gn:=MC f5.1 f5.2.1
        have hn:n={ Nd.zero with kind:=7,text:=(vY n.text).text,kids:=n.kids }:=by
         cases n;simp only at e1 e3 e4 c7;subst e1 e3 e4 c7;rfl
        have hsh:=Sh.call j ms n.kids ts d g2 (vY n.text) _ _ rfl f5.2.2.1 f5.2.2.2 sl sr;rw[← hn]at hsh
        have := FS.snoc j vI st0 g1 (ms++[n]) _ _ _ _ hsh (by
         intro t ht;rcases List.mem_cons.1 ht with rfl|ht
         · exact gn
         · rcases List.mem_cons.1 ht with rfl|ht
           · exact gl
           · rcases List.mem_append.1 ht with ht|ht
             · exact g3 t ht
             · simp at ht;subst ht;exact gr)
        rw[ak,fK, ← Nat.add_assoc, ← bG]at this;exact this
      · have e2:n.text=⟨#[]⟩:=(f2.resolve_left (by omega)).resolve_left c7
        by_cases c8:n.kind=8
        · have hk:n.kids.length=1:=by
           unfold jh at ha;rw[if_neg c1,if_neg c7,if_pos c8]at ha;omega
          obtain ⟨b,hb⟩:∃b,n.kids=[b]:=by
           match hq:n.kids,hk with
           | [b],_=>exact⟨b,rfl⟩
          rw[hb]at h;obtain⟨j,vI,ms,ts,nz,d,g1,rfl,rfl,g2,g3⟩:=h.last;obtain⟨d',ts',hw,g4⟩:=MW 4 nz d ts g3;obtain⟨JN,sm⟩:=yJ (s:=⟨#[45]⟩) (by simp[vX,jo])
          have hn:n={ Nd.zero with kind:=8,kids:=[b] }:=by
           cases n;simp only at e1 e2 e3 e4 c8 hb;subst e1 e2 e3 e4 c8 hb;rfl
          have hsh:=Sh.neg j ms b ts nz d g2 _ sm d' ts' hw;rw[← hn]at hsh
          have:=FS.snoc j vI st0 g1 (ms++[n]) _ _ _ _ hsh (by
           intro t ht;rcases List.mem_cons.1 ht with rfl|ht
           · exact JN
           · exact g4 t ht)
          rw[ak,fK, ← Nat.add_assoc, ← bG]at this;exact this
        · have hk:n.kids.length=2∧9≤n.kind∧n.kind≤19:=by
           unfold jh at ha;rw[if_neg c1,if_neg c7,if_neg c8]at ha;by_cases c9:9≤n.kind∧n.kind≤19
           · rw[if_pos c9]at ha;omega
           · rw[if_neg c9]at ha;omega
          obtain ⟨b,b',hb⟩:∃b b',n.kids=[b,b']:=by
           match hq:n.kids,hk.1 with
           | [b,b'],_=>exact⟨b,b',rfl⟩
          rw[hb,show st0++[b,b']=(st0++[b])++[b']by simp]at h;obtain⟨j2,ah3,yn,UX,lJ,d2,k1,rfl,rfl,k2,k3⟩:=h.last;obtain⟨j,vI,ms,ts,nz,d,g1,rfl,rfl,g2,g3⟩:=k1.last;obtain⟨o,ho,hko⟩:∃o:Nat,o<11∧n.kind=9+(o:Int):=⟨(n.kind - 9).toNat,by omega,by omega⟩;obtain⟨x1,ts',hw,g4⟩:=MW (rk o) nz d ts g3;obtain⟨x2,ahh,hw2,k4⟩:=MW (rk o+1) lJ d2 UX k3
          have hin:jo.getD o ⟨#[]⟩∈vX:=by
           have hlen:o<jo.length:=ho;rw[jG,dm hlen,Option.getD_some];exact List.mem_append_right _ (List.getElem_mem _)
          obtain⟨JN,sm⟩:=yJ hin
          have hn:n={ Nd.zero with kind:=9+(o:Int),kids:=[b,b'] }:=by
           cases n;simp only at e1 e2 e3 e4 hko hb;subst e1 e2 e3 e4 hko hb;rfl
          have hsh:=Sh.op j o ho ms yn b b' ts UX nz lJ d d2 g2 k2 _ sm x1 x2 ts' ahh hw hw2;rw[← hn]at hsh
          have:=FS.snoc j vI st0 g1 (ms++(yn++[n])) _ _ _ _ hsh (by
           intro t ht;rcases List.mem_append.1 ht with ht|ht
           · exact g4 t ht
           · rcases List.mem_cons.1 ht with rfl|ht
             · exact JN
             · exact k4 t ht)
          have e5:j+(ms++(yn++[n])).length=j+ms.length+yn.length+1:=by simp;omega
          have e6:vI++(ms++(yn++[n]))=vI++ms++yn++[n]:=by simp
          have e7:j+(ms.length+yn.length)=j+ms.length+yn.length:=by omega
          rw[e5,e6,e7]at this;exact this
   obtain⟨a,ha'⟩:=UR ns (i+1) (done++[n]) _ hfs h4 (fun m hm'=>hm m (by simp[hm']));refine⟨a, ?_⟩;rw[bG,List.singleton_append]at ha';rw[aO,show i+(ns.length+1)=i+1+ns.length by omega];exact ha'
theorem He {ns:List Nd}(h:bR ns=true)(hm:∀n∈ns,n.num≤9223372036854775807):∃a ts rk d,Sh false 0 ns [a] ts rk d∧∀t∈ts,Tok t:=by
 obtain⟨a,ha⟩:=UR ns 0 [] [] .nil h hm;rw[gL]at ha;obtain⟨j,done,ms,ts,rk,d,h1,h2,h3,h4,h5⟩:=FS.last (st:=[]) ha;obtain⟨rfl,rfl⟩:=h1.acQ rfl;rw[gL]at h2;subst h2;exact⟨a,ts,rk,d,h4,h5⟩
def kL (n deep base:Nat)(ts:List ag):Prop :=
 if n≤4 then ∃f,dX f n deep base ts=some (.error 6)else ∃f,iU f deep base ts=some (.error 6)
def Az (n deep base:Nat)(ts:List ag):Prop :=
 kL (n+1) deep base ts∨∃uO a1 r1 g,At (n+1) deep base ts uO a1 r1∧gZ g n deep base uO a1 r1=some (.error 6)
theorem Az.at {n deep base:Nat}{ts:List ag}(hn:n≤3)(h:Az n deep base ts):kL n deep base ts:=by
 rcases h with h|⟨uO,a1,r1,g,h1,h2⟩
 · unfold kL at h ⊢
   rw[if_pos (by omega)]at h ⊢;obtain⟨f,hf⟩:=h;exact⟨f+1,by rw[kR,if_pos hn,hf];rfl⟩
 · unfold At at h1
   unfold kL;rw[if_pos (by omega)]at h1 ⊢;obtain⟨f,hf⟩:=h1;refine⟨max f g+1, ?_⟩;rw[kR,if_pos hn,wM (Nat.le_max_left f g) hf];exact DR (Nat.le_max_right f g) h2
theorem kL.down {deep base:Nat}{ts:List ag}(n:Nat):∀(k:Nat),n+k≤5→kL (n+k) deep base ts→(n+k=5→au ⟨#[45]⟩ ts=false)→kL n deep base ts
 | 0,_,h,_=>h
 | k + 1,hk,h,hm=>by
   have h1:kL (n+k) deep base ts:=by
    by_cases c:n+(k+1)=5
    · have hs:=hm c
      rw[c]at h;rw[show n+k=4 by omega];unfold kL at h ⊢;rw[if_neg (by omega)]at h;rw[if_pos (by omega)];obtain⟨f,hf⟩:=h;exact⟨f+1,by rw[kR,if_neg (by omega),hs,if_neg (by simp)];exact hf⟩
    · exact Az.at (by omega) (.inl h)
   exact kL.down n k (by omega) h1 (fun h=>by omega)
structure Vh (base:Nat)(ts:List ag)(rk d:Nat):Prop where
 high:∀deep rest,deep≤12→12<deep+d→au ⟨#[58]⟩ rest=false→4≤rk→kL rk deep base (ts++rest)
 low:∀deep rest,deep≤12→12<deep+d→au ⟨#[58]⟩ rest=false→rk≤3→Stop (rk+1) rest→Az rk deep base (ts++rest)
structure xu (base:Nat)(ns:List Nd)(a:Nat)(ts:List ag)(rk d:Nat):Prop where
 back:lD base ns a ts rk d
 far:Vh base ts rk d
theorem xu.at {base:Nat}{ns:List Nd}{a:Nat}{ts:List ag}{rk d:Nat}(h:xu base ns a ts rk d)(n deep:Nat)(rest:List ag)(hn:n≤rk)(hd:deep≤12)(hf:12<deep+d)(hc:au ⟨#[58]⟩ rest=false)(hs:Stop n rest) :
 kL n deep base (ts++rest):=by
 have hle:=h.back.le
 have h1:kL rk deep base (ts++rest):=by
  by_cases c:4≤rk
  · exact h.far.high deep rest hd hf hc c
  · exact Az.at (by omega) (h.far.low deep rest hd hf hc (by omega) (hs.more (by omega)))
 refine kL.down n (rk - n) (by omega) ?_ (fun e=>h.back.minus (by omega) rest);rwa[show n+(rk - n)=rk by omega]
theorem xu.goes {base:Nat}{ns:List Nd}{a:Nat}{ts:List ag}{rk d:Nat}(h:xu base ns a ts rk d)(n deep:Nat)(rest:List ag)(hn:n≤rk)(Fx:n≤3)(hd:deep≤12)(hf:12<deep+d)(hc:au ⟨#[58]⟩ rest=false)(hs:Stop (n+1) rest) :
 Az n deep base (ts++rest):=by
 by_cases c:n=rk
 · subst c;exact h.far.low deep rest hd hf hc Fx hs
 · exact .inl (h.at (n+1) deep rest (by omega) hd hf hc hs)
theorem xu.wr {base:Nat}{ns:List Nd}{a:Nat}{ts:List ag}{rk d n d':Nat}{ts':List ag}(h:xu base ns a ts rk d)(hw:Wr n rk d ts d' ts')(hn:n≤5):∃nz,n≤nz∧xu base ns a ts' nz d':=by
 rcases hw with ⟨h1,rfl,rfl⟩|⟨h1,rfl,l,r,hl,hr,rfl⟩
 · exact⟨rk,h1,h⟩
 · refine ⟨5,hn,h.back.brk hl hr,⟨fun deep rest hd hf hc _ => ?_,fun deep rest _ _ _ h=>by omega⟩⟩
   unfold kL;rw[if_neg (by omega)];by_cases c:12≤deep
   · exact⟨1,by rw[cu,kZ,hl.sign,if_pos (by decide),if_pos c]⟩
   · have h1:=h.at 0 (deep+1) (r :: rest) (by omega) (by omega) (by omega) (by rw[hr.sign];decide) (BN hr rest (by decide) 0)
     unfold kL at h1;rw[if_pos (by omega)]at h1;obtain⟨f,hf⟩:=h1;exact⟨f+1,by rw[cu,kZ,hl.sign,if_pos (by decide),if_neg c,bG,List.singleton_append,hf];rfl⟩
def Vi (base:Nat)(ts:List ag)(d:Nat):Prop :=
 ∀deep rest,deep≤12→12<deep+d→au ⟨#[58]⟩ rest=false→Stop 0 rest→∃g,gB g deep base [] [] (ts++rest)=some (.error 6)
theorem afG {b:Bool}{base:Nat}{ns:List Nd}{ks:List Int}{ts:List ag}{pI d:Nat}(h:Sh b base ns ks ts pI d) :
 (b=false→∃a:Nat,ks=[(a:Int)]∧xu base ns a ts pI d)∧(b=true→Ay base ns ks ts d∧Vi base ts d):=by
 induction h with
 | leaf base ts nd h =>
   refine⟨fun _=>⟨base,rfl,Ov h,⟨fun deep rest h1 h2=>by omega,fun deep rest h1 h2=>by omega⟩⟩,fun h=>by cases h⟩
 | neg base ns a ts rk d h m hm d' ts' hw ih =>
   refine⟨fun _ => ?_,fun h=>by cases h⟩;obtain⟨a',e,hb⟩:=ih.1 rfl;obtain rfl:a=(a':Int):=by simpa using e
   obtain⟨nz,h1,hb'⟩:=hb.wr hw (by omega);refine⟨_,rfl,Ow hb'.back hm h1,⟨fun deep rest hd hf hc _ => ?_,fun deep rest _ _ _ h=>by omega⟩⟩;unfold kL;rw[if_pos (by omega)];by_cases c:12≤deep
   · exact⟨1,by rw[cu,kR,if_neg (by omega),hm.sign,if_pos (by decide),if_pos c]⟩
   · have h2:=hb'.at 4 (deep+1) rest h1 (by omega) (by omega) hc (Ux _)
     unfold kL at h2;rw[if_pos (by omega)]at h2;obtain⟨f,hf'⟩:=h2;exact⟨f+1,by rw[cu,kR,if_neg (by omega),hm.sign,if_pos (by decide),if_neg c,List.tail_cons,hf'];rfl⟩
 | op base o ho ns ms a b ts us oK lJ d1 d2 h g s hs e1 e2 ts' j6 hw gw ih jB =>
   refine⟨fun _ => ?_,fun h=>by cases h⟩;have hr:=LU o;obtain⟨a',e,hb⟩:=ih.1 rfl;obtain rfl:a=(a':Int):=by simpa using e
   obtain⟨b',e',gb⟩:=jB.1 rfl;obtain rfl:b=(b':Int):=by simpa using e'
   obtain⟨r1,h1,hb'⟩:=hb.wr hw (by omega);obtain⟨r2,h2,Fj⟩:=gb.wr gw (by omega);refine⟨_,rfl,Oy ho hb'.back Fj.back hs h1 h2,⟨fun deep rest _ _ _ e=>by omega,fun deep rest hd hf hc _ hst => ?_⟩⟩;have yc:au ⟨#[58]⟩ (s :: (j6++rest))=false:=by rw[hs.sign];exact decide_eq_false (Sq o ho)
   rw[bG,cu];by_cases c:12<deep+e1
   · exact hb'.goes (rk o) deep _ h1 hr hd c yc (Mm ho hs _)
   · obtain⟨uO,a1,q1,k1,k2⟩:=hb'.back.goes (rk o) deep (s :: (j6++rest)) h1 hr (by omega) yc (Mm ho hs _)
     have k3:=Fj.at (rk o+1) deep rest h2 hd (by omega) hc hst;unfold kL at k3;rw[if_pos (by omega)]at k3;obtain⟨f,hf'⟩:=k3;obtain⟨g',hg'⟩:=k2 (f+1) (.error 6) (by rw[pG,La s _ o ho hs.1 hs.2 _ hr,if_pos rfl,if_neg (by omega),List.tail_cons,hf'];rfl);exact .inr ⟨uO,a1,q1,g',k1,hg'⟩
 | call base ns ks ts d h t l r ht h1 h2 hl hr ih =>
   refine⟨fun _ => ?_,fun h=>by cases h⟩;obtain⟨hb,hfa⟩:=ih.2 rfl;refine⟨_,rfl,Ou hb ht h1 h2 hl hr,⟨fun deep rest hd hf hc _ => ?_,fun deep rest _ _ _ h=>by omega⟩⟩
   have hs:∀(s:ByteArray)(us:List ag),au s (t :: us)=false:=by
    intro s us;unfold au;simp only[ht];rfl
   unfold kL;rw[if_neg (by omega)];by_cases c:12≤deep
   · refine⟨1, ?_⟩
     rw[cu,cu,bG,List.singleton_append,kZ,hs,if_neg (by simp),if_neg (by omega),if_neg (by omega),if_neg (by omega),if_neg (by omega),if_pos ht,if_neg h1,if_neg h2,hl.sign,if_pos (by decide),if_pos c]
   · obtain ⟨f,hf'⟩:=hfa (deep+1) (r :: rest) (by omega) (by omega) (by rw[hr.sign];decide) (BN hr rest (by decide) 0)
     have hcl:au ⟨#[41]⟩ (ts++r :: rest)=false:=by
      rcases hb with ⟨_,_,rfl,hd0⟩|⟨_,g1,_⟩
      · omega
      · exact g1 _
     refine⟨f+1, ?_⟩;rw[cu,cu,bG,List.singleton_append,kZ,hs,if_neg (by simp),if_neg (by omega),if_neg (by omega),if_neg (by omega),if_neg (by omega),if_pos ht,if_neg h1,if_neg h2,hl.sign,if_pos (by decide),if_neg c,List.tail_cons,hcl,if_neg (by simp),hf'];rfl
 | none base=>exact⟨fun h=>(by cases h),fun _=>⟨.inl ⟨rfl,rfl,rfl,rfl⟩,fun deep rest h1 h2=>by omega⟩⟩
 | one base ns a ts rk d h ih =>
   refine⟨fun h=>(by cases h),fun _ => ?_⟩;obtain⟨a',e,hb⟩:=ih.1 rfl;obtain rfl:a=(a':Int):=by simpa using e
   refine⟨Ox hb.back,fun deep rest hd hf hc hs => ?_⟩;have h1:=hb.at 0 deep rest (by omega) hd hf hc hs;unfold kL at h1;rw[if_pos (by omega)]at h1;obtain⟨f,hf'⟩:=h1;exact⟨f+1,by rw[oo,dI,Nat.add_zero,hf'];rfl⟩
 | and base ns ms ks b ts us rk d1 d2 h hk c hc g ih jB =>
   refine⟨fun h=>(by cases h),fun _ => ?_⟩;obtain⟨hb,hfa⟩:=ih.2 rfl;obtain⟨b',e,gb⟩:=jB.1 rfl;obtain rfl:b=(b':Int):=by simpa using e
   refine⟨Ot hb hk hc gb.back,fun deep rest hd hf yc hs => ?_⟩;rw[bG,cu];have hc1:au ⟨#[58]⟩ (c :: (us++rest))=false:=by rw[hc.sign];decide
   have hs1:=BN hc (us++rest) (by decide) 0;by_cases c1:12<deep+d1
   · exact hfa deep _ hd c1 hc1 hs1
   · rcases hb with ⟨h,_⟩|⟨_,_,h2⟩
     · exact absurd h hk
     · have k1:=gb.at 0 deep rest (by omega) hd (by omega) yc hs
       unfold kL at k1;rw[if_pos (by omega)]at k1;obtain⟨f,hf'⟩:=k1;exact h2 deep _ (by omega) hc1 hs1 (f+1) (.error 6) (by rw[hc.sign,if_pos (by decide),List.tail_cons,oo,hf'];rfl)
theorem afF {ns:List Nd}{a:Int}{ts:List ag}{rk d:Nat}(h:Sh false 0 ns [a] ts rk d)(hd:12<d)(e:ag)(he:e.kind=0):∃f,kY f (ts++[e])=some (.error 6):=by
 obtain⟨a',_,hb⟩:=(afG h).1 rfl;have hsg:∀s:ByteArray,au s [e]=false:=by intro s;unfold au;simp only[he];rfl
 have h1:=hb.at 0 0 [e] (by omega) (by omega) (by omega) (hsg _) (by
  intro m _ _;unfold eH
  have hf:(fC m).find? (fun p=>au p.1 [e])=none:=by
   rw[List.find?_eq_none];intro p _;rw[hsg];simp
  rw[hf])
 unfold kL at h1;rw[if_pos (by omega)]at h1;obtain⟨f,hf⟩:=h1;exact⟨f,by unfold kY;rw[hf];rfl⟩
theorem ahd {ns:List Nd}(h:bR ns=true)(hm:∀n∈ns,n.num≤9223372036854775807):∃vs g,fT (cB ns)=some vs∧(kY g vs=some (.ok ns)∨kY g vs=some (.error 6)):=by
 obtain⟨a,ts,rk,d,h1,h2⟩:=He h hm;rw[BM h1 h];by_cases hd:d≤12
 · obtain⟨vs,g,k1,k2⟩:=Ua h1 hd h2
   exact⟨vs,g,k1,.inl k2⟩
 · obtain⟨vs,e,k1,k2,k3⟩:=KM ts 0 ((L9 h1).1 rfl).1 h2
   obtain⟨g,hg⟩:=afF (h1.goto vs k3) (by omega) e k2;exact⟨vs++[e],g,k1,.inr hg⟩
theorem MF {ns:List Nd}(h:bR ns=true)(hm:∀n∈ns,n.num≤9223372036854775807):cB ns≠[]:=by
 obtain⟨a,ts,rk,d,h1,h2⟩:=He h hm;rw[BM h1 h];obtain⟨_,⟨t,l,rfl,_⟩,_⟩:=(L9 h1).1 rfl;obtain⟨x,k,e,_⟩:=MB (h2 t (by simp));rw[kJ,e];simp
theorem UI {sh:List Int}{c r:Int}{ac ar:Bool}(h:di sh c r=true):aY sh c r ac ar≠[]:=by
 unfold aY;rw[if_pos h];intro e;exact sG _ (List.append_eq_nil_iff.1 e).2
theorem aaF {b:Bool}{t:List Int}(h:t≠[]):iM b t≠[]:=by
 unfold iM;split
 · simp
 · exact h
theorem TR {t:ByteArray}(h:t≠⟨#[]⟩):sb t≠[]:=by
 intro e;apply h;have h1:=aV t;rw[e]at h1;have h1:t.size=0:=h1.symm;cases t with
 | mk d =>
   have:d=#[]:=Array.eq_empty_of_size_eq_zero h1;rw[this]
theorem adn:∀o:Nat,o<11→qD o≠[]:=by decide
theorem Q9 {n:Nd}(h:aD n=true)(hk:n.kind=5):bO n.ref=true:=by
 unfold aD at h;split at h
 · cases h
 · simpa [hk]using h
theorem abz {n:Nd}(h:aD n=true)(hk:n.kind=1):0≤n.num:=by
 unfold aD at h;split at h
 · cases h
 · simpa [hk]using h
theorem afC {l:List Nd}(h:bR l=true){i:Int}(h0:0≤i)(h1:i<l.length):bq l i≠[]:=by
 obtain⟨hnb, -⟩:=yK h h0 h1;obtain⟨-, -, -,b1,b2,hl⟩:=qg hnb;rw[uS h h0 h1 _ rfl];split
 · exact sG _
 split
 · simp
 split
 · split <;> simp
 split
 · simp
 split
 · exact UI (Q9 hl ‹_›)
 split
 · simp
 split
 · simp
 split
 · simp
 · have:=adn (((nodeAt l i).kind - 9).toNat) (by omega)
   simp[this]
theorem SS {l:List Nd}(h:bR l=true)(p:ay)(hp:jw l p):j3 l p≠[]:=by
 unfold j3;by_cases ht:p.t=⟨#[]⟩
 · obtain⟨h0,h1⟩:=hp ht
   rw[if_pos ht];exact aaF (afC h h0 h1)
 · rw[if_neg ht];exact TR ht
theorem Fh {l:List Nd}(h:bR l=true):∀ps:List ay,(∀p∈ps,jw l p)→ps.length≤(ps.flatMap (j3 l)).length
 | [],_=>ah _
 | p :: ps,hp=>by
   have ih:=Fh h ps fun q hq=>hp q (List.mem_cons_of_mem _ hq)
   have h1:=List.length_pos_iff.2 (SS h p (hp p (by simp)));rw[oP,ak,aO];omega
theorem Fb:∀(k u:Nat),u<10 ^ (k+1)→(aQ u).length≤k+1
 | 0,u,h=>by rw[ou u (by simpa using h)];simp
 | k + 1,u,h=>by
   by_cases h1:u<10
   · rw[ou u h1];simp
   · rw[sF u h1,ak,fK]
     have:=Fb k (u / 10) (by rw[Nat.pow_succ]at h;omega);omega
theorem Yb (n:Int):(bf n).length≤2:=by
 unfold bf;split
 · simp
 · split <;> simp
theorem yI (sh:List Int)(c r:Int)(ac ar:Bool):(aY sh c r ac ar).length≤sh.length+8:=by
 unfold aY;split
 · rename_i h
   unfold di at h;rw[dA,decide_eq_true_iff]at h;have h1:=Fb 2 (r+1).toNat (by omega);have h2:=Yb c;have h3:(if sh=[]then ([]:List Int)else sh++[33]).length≤sh.length+1:=by split <;> simp
   have h4:∀b:Bool,(if b=true then [(36:Int)]else []).length≤1:=by intro b;split <;> simp
   have h5:=h4 ac;have h6:=h4 ar;simp only[ak];omega
 · simp
theorem JE:∀l:List Int,(ek l).length≤2*l.length
 | []=>ah _
 | x :: l=>by
   have:=JE l;show((if x=34 then [34,34]else [x])++ek l).length≤_;rw[ak,aO];have:(if x=34 then [34,34]else [x]:List Int).length≤2:=by split <;> simp
   omega
def l6(n:Nd):Nat:=2*n.text.size+n.ref.sh.size+n.af.sh.size+60
def pO(ns:List Nd):Nat:=(ns.map l6).sum
theorem DX(a b:List Nd):pO (a++b)=pO a+pO b:=by unfold pO;simp
theorem G6(n:Nd):pO [n]=l6 n:=by unfold pO;simp
theorem pV(t:ag)(ts:List ag):(gU (t :: ts)).length=(dx t).length+(gU ts).length:=by rw[kJ,ak]
theorem xq:gU []=[]:=rfl
theorem MU {n rk d d':Nat}{ts ts':List ag}(h:Wr n rk d ts d' ts'):(gU ts').length≤(gU ts).length+2:=by
 rw[Hf h];unfold iM;split
 · simp
 · omega
theorem aby {ts:List ag}{nd:Nd}(h:nZ ts nd)(hm:nd.num≤9223372036854775807):(gU ts).length+4≤l6 nd:=by
 cases h with
 | num t h =>
   have hm:t.num≤9223372036854775807:=hm;have h1:=Fb 18 t.num.toNat (by omega);rw[pV,xq];unfold dx l6;rw[if_pos h,dI];omega
 | text t h =>
   have h1:=JE (sb t.text);rw[aV]at h1;rw[pV,xq];unfold dx l6;rw[if_neg (by omega),if_pos h,dI,aO,ak,fK];show _≤2*t.text.size+_+_+60;omega
 | yes t h g=>rw[pV,xq];unfold dx l6;rw[if_neg (by omega),if_neg (by omega),if_neg (by omega),if_neg (by omega),g,aV];show 4+0+4≤_;omega
 | no t h g=>rw[pV,xq];unfold dx l6;rw[if_neg (by omega),if_neg (by omega),if_neg (by omega),if_neg (by omega),g,aV];show 5+0+4≤_;omega
 | dead t h=>rw[pV,xq];unfold dx l6;rw[if_neg (by omega),if_neg (by omega),if_neg (by omega),if_pos h];show 5+0+4≤_;omega
 | ref t h =>
   have h1:=yI (sb t.sh) t.c t.r t.ac t.ar;rw[aV]at h1;rw[pV,xq];unfold dx l6;rw[if_neg (by omega),if_neg (by omega),if_pos h,dI];show _≤_+t.sh.size+_+60;omega
 | range t c u h hc g hs =>
   have h1:=yI (sb t.sh) t.c t.r t.ac t.ar;have h2:=yI (sb u.sh) u.c u.r u.ac u.ar;rw[aV]at h1 h2;rw[pV,pV,pV,xq,qL hc,aV];unfold dx l6;rw[if_neg (by omega),if_neg (by omega),if_pos h,if_neg (by omega),if_neg (by omega),if_pos g,dI];show _+(1+_)+4≤_+t.sh.size+u.sh.size+60;omega
theorem afJ {b:Bool}{base:Nat}{ns:List Nd}{ks:List Int}{ts:List ag}{pI d:Nat}(h:Sh b base ns ks ts pI d):(∀n∈ns,n.num≤9223372036854775807)→(gU ts).length+(if b=true then 0 else 4)≤pO ns:=by
 induction h with
 | leaf base ts nd h=>intro hm;rw[G6];exact aby h (hm nd (by simp))
 | neg base ns a ts rk d h m hm d' ts' hw ih =>
   intro hn;have h1:=ih fun n hn'=>hn n (List.mem_append_left _ hn')
   have h2:=MU hw;rw[if_neg (by decide)]at h1 ⊢;rw[pV,qL hm,DX,G6,aV];show 1+_+4≤_+l6 _;unfold l6;omega
 | op base o ho ns ms a b ts us oK lJ d1 d2 h g s hs e1 e2 ts' j6 hw gw ih jB =>
   intro hn;have h1:=ih fun n hn'=>hn n (List.mem_append_left _ hn')
   have h2:=jB fun n hn'=>hn n (List.mem_append_right _ (List.mem_append_left _ hn'))
   have h3:=MU hw;have h4:=MU gw
   have h5:(jo.getD o ⟨#[]⟩).size≤2:=by
    have:∀o:Nat,o<11→(jo.getD o ⟨#[]⟩).size≤2:=by decide
    exact this o ho
   rw[if_neg (by decide)]at h1 h2 ⊢;rw[Ap,ak,pV,qL hs,DX,DX,G6,aV];unfold l6;omega
 | call base ns ks ts d h t x r ht h1 h2 hl hr ih =>
   intro hn;have g1:=ih fun n hn'=>hn n (List.mem_append_left _ hn')
   rw[if_pos rfl]at g1;rw[if_neg (by decide),pV,pV,Ap,ak,pV,qL hl,qL hr,DX,G6,xq,aV,aV];have:dx t=sb t.text:=by unfold dx;rw[ht];rfl
   rw[this,aV];unfold l6;show t.text.size+(1+(_+(1+0)))+4≤_+(2*t.text.size+_+_+60);omega
 | none base=>intro _;rw[if_pos rfl,xq];exact dV _
 | one base ns a ts rk d h ih =>
   intro hn;have:=ih hn;rw[if_neg (by decide)]at this;rw[if_pos rfl];omega
 | and base ns ms ks b ts us rk d1 d2 h hk c hc g ih jB =>
   intro hn;have h1:=ih fun n hn'=>hn n (List.mem_append_left _ hn')
   have h2:=jB fun n hn'=>hn n (List.mem_append_right _ hn')
   rw[if_pos rfl]at h1;rw[if_neg (by decide)]at h2;rw[if_pos rfl,Ap,ak,pV,qL hc,DX,aV];show _+(1+_)+0≤_;omega
theorem SN {ns:List Nd}(h:bR ns=true)(hm:∀n∈ns,n.num≤9223372036854775807):(cB ns).length+4≤pO ns:=by
 obtain⟨a,ts,rk,d,h1,h2⟩:=He h hm;rw[BM h1 h];have:=afJ h1 hm;rw[if_neg (by decide)]at this;exact this
theorem OE:∃j,Tryz.prog.info? 82=some j∧j.size=2:=by
 have h:(Tryz.prog.info? 82).map (·.size)=some 2:=by kernel_rfl
 obtain⟨j,h1,h2⟩:=Option.map_eq_some_iff.1 h;exact⟨j,h1,h2⟩
structure ib (w w':World)(b:Nat):Prop where
 os:w'.os=w.os
 tape:w'.tape=w.tape
 output:w'.output=w.output
 size:w.heap.size≤w'.heap.size
 block:∀k,k<w.heap.size→k≠b→(k<b∨∀cur fr,w.heap[k]? ≠ some (.cells cur 5 fr))→w'.heap[k]? = w.heap[k]?
theorem ib.refl(w:World)(b:Nat):ib w w b:=⟨rfl,rfl,rfl,ah _,fun _ _ _ _=>rfl⟩
theorem ib.trans {w w1 w2:World}{b:Nat}(h:ib w w1 b)(k:ib w1 w2 b):ib w w2 b :=
 ⟨k.os.trans h.os,k.tape.trans h.tape,k.output.trans h.output,bF h.size k.size,fun j hj hb hr=>by
  have h1:=h.block j hj hb hr;rw[k.block j (dY hj h.size) hb (hr.imp id fun hn cur fr=>by rw[h1];exact hn cur fr)];exact h1⟩
theorem ib.setCell {w:World}{b:Nat}(j:Nat)(v:Value):ib w (w.setCell ⟨b,j,none⟩ v) b :=
 have h:=grownBy.gp (grownBy.fo w (some b)) j v
 ⟨h.os,h.tape,h.output,h.size,fun k hk hkb _=>h.block k hk (fun e=>hkb (dU e))⟩
theorem ib.grown {w w':World}{b g:Nat}(h:w.grownBy w' (some g))(hg:∃cur fr,w.heap[g]? = some (.cells cur 5 fr))(hb:b<g):ib w w' b :=
 ⟨h.os,h.tape,h.output,h.size,fun k hk hkb hr=>h.block k hk (by
  intro e;injection e with e;subst e;rcases hr with hr|hr
  · omega
  · obtain⟨cur,fr,hx⟩:=hg;exact hr cur fr hx)⟩
theorem afa {P:Program}{α : Type}{size t tx ty e bytes:Nat}{w:World}(bV:Elem P t e size bytes)(E:Enc α size)(base:Nat)(v:Value)(xs:List α)(gW:Own E e w base v xs)
 (x:Value) (m:Nat) (ys:List α) (hl:ys.length=m) (hs:Src P size tx x m (E.all ys) w) (hb:(xs.length+m)*bytes≤140737488355328) (hb2:xs.length+m≤maxLen) (jk:base≤w.heap.size) :
 ∃v' w',(Builtin.append_ #[t,tx] ty #[v,x]).run P w = .ok v' w'∧Own E e w' base v' (xs++ys)∧w.grownBy w' v.ownBlock:=by
 obtain⟨z,hi,hz⟩:=bV.inf;obtain⟨i,hi1,hi2,hi3,hi4⟩:=info_parts hi;have ht:=bV.und;subst hi3;subst hi4;have hlx:=E.lU xs;have zF:=E.lU ys;rw[hl]at zF;have hlen:(E.all (xs++ys)).length=(xs.length+m)*i.size:=by rw[E.lU,ak,hl]
 have Km:xs.length+m≤9223372036854775807:=by simp only[maxLen]at hb2;omega
 have grown:∀(old:Nat),old<xs.length+m →
  Own E e (w.drew.alloc (.cells ((E.all xs++E.all ys).toArray++Builtin.zeroCells z.cells (grownCap w (xs.length+m) old e - (xs.length+m))) e)) base (.slice (some ⟨w.heap.size,0,none⟩) (xs.length+m) (grownCap w (xs.length+m) old e)) (xs++ys) ∧
  ∀r,w.grownBy (w.drew.alloc (.cells ((E.all xs++E.all ys).toArray++Builtin.zeroCells z.cells (grownCap w (xs.length+m) old e - (xs.length+m))) e)) r:=by
  intro old ho;have hge:=grownCap_ge w (xs.length+m) old e;have hcm:grownCap w (xs.length+m) old e≤maxLen:=grownCap_le_maxLen w (xs.length+m) old e hb2;refine⟨?_,fun r=>grownBy.below' (grownBy.fo _ _) (((ai _ _).drew).alloc (ah _) _)⟩;unfold Own;rw[ak,hl];refine⟨hlen,.inr ⟨w.heap.size,_,_,rfl,jk,heap_alloc_new w.drew _,hge,hcm, ?_, ?_⟩⟩
  · simp only[Array.size_append,List.size_toArray,size_zeroCells,hz,ak,hlx,zF, ← Nat.add_mul]
    congr 1;omega
  · simp only[Array.toList_append]
    rw[← E.all_append, ← hlen];exact List.take_left
 have h0:=gW;rcases gW.2 with ⟨rfl,hn⟩|⟨g,cap,cur,rfl,hbg,hg,hnc,hcm,hcs,Dl⟩
 · have hx:xs=[]:=kg hn
   subst hx;by_cases hm:m=0
   · subst hm
     have hy:ys=[]:=kg hl;subst hy;refine⟨.slice none 0 0,w, ?_,Own.nil E e w base,grownBy.fo _ _⟩;have hc:=hs.cells;have hll:=hs.len;have hc':(Builtin.firstCells i.size 0 x).run P w = .ok #[] w:=hc
     rcases hs.kind with ⟨e',hk⟩|hk <;>
      simp[Builtin.append_,run_underlying ht,run_underlying hk,sizeOf,typeInfo,hi1,hll,hc']
   · have hgr:=grown 0 (by simp;omega)
     have hr:=run_append_grow_src (P:=P) w t tx ty e i z ht hi1 hi2 none 0 0 [] (by simp[Builtin.firstCells]) x m (E.all ys) hs (by omega) (by simp at Km;omega) (growslice_fits (by omega) (by simpa using hb));simp only[dI,Nat.zero_add,gL,Enc.all,List.flatMap_nil]at hgr hr ⊢;exact⟨_,_,hr,hgr.1,hgr.2 _⟩
 · by_cases zL:xs.length+m≤cap
   · have zC:xs.length*i.size+(E.all ys).length≤cur.size:=by rw[zF,hcs, ← Nat.add_mul];exact Nat.mul_le_mul_right _ zL
     have hst:=run_storeCells_at P g (xs.length*i.size) e (E.all ys) 0 cur w hg (by omega) (E.xg ys);simp only[Nat.add_zero]at hst;refine⟨.slice (some ⟨g,0,none⟩) (xs.length+m) cap,w.setRow g (cur.toList.take (xs.length*i.size)++E.all ys++cur.toList.drop (xs.length*i.size+(E.all ys).length)).toArray, ?_, ?_, ?_⟩
     · rcases hs.kind with ⟨e',hk⟩|hk <;> simp[Builtin.append_,run_underlying ht,run_underlying hk,sizeOf,typeInfo,hi1,hs.len,zL,hs.cells,Addr.add_lit,hst]
     · unfold Own
       rw[ak,hl];refine⟨hlen,.inr ⟨g,cap,_,rfl,hbg,setRow_heap w g cur _ e _ hg,zL,hcm, ?_, ?_⟩⟩
       · simp only[List.size_toArray,ak,gK,List.length_drop,Array.length_toList]
         omega
       · rw[Dl, ← hlen, ← E.all_append]
         exact List.take_left
     · exact⟨rfl,rfl,rfl,by simp,fun k hk hne=>setRow_other w g k _ (fun e=>hne (congrArg some e))⟩
   · have hold:(Builtin.firstCells i.size xs.length (.slice (some ⟨g,0,none⟩) xs.length cap)).run P w.drew = .ok (E.all xs).toArray w.drew :=
      run_firstCells_some w.drew i.size xs.length ⟨g,0,none⟩ xs.length cap (E.all xs) hlx (World.ownsRow.cells (w:=w.drew) h0 (g:=g) rfl)
     have hgr:=grown cap (by omega);have hr:=run_append_grow_src (P:=P) w t tx ty e i z ht hi1 hi2 (some ⟨g,0,none⟩) xs.length cap (E.all xs) hold x m (E.all ys) hs (by omega) (by omega) (growslice_fits (by omega) hb);exact⟨_,_,hr,hgr.1,hgr.2 _⟩
theorem U6 {P:Program}{α : Type}{size t tx e bytes:Nat}{w:World}{ops:Array Oper}{rest:List Oper}{o:Oper}{a:Act}{Q:Exit→Act→World→Prop}(bV:Elem P t e size bytes)(E:Enc α size)
 (hgd:o.guard=none) (s x:Operand) (ho:o.op = .call { callee := .builtin .append,args:=#[s,x],argTypes:=#[t,tx] }) (base:Nat) (v:Value) (xs:List α)
 (hs:a.eval s=v) (gW:Own E e w base v xs) (y:Value) (m:Nat) (ys:List α) (hx:a.eval x=y) (hl:ys.length=m) (Kn:Src P size tx y m (E.all ys) w)
 (hb:(xs.length+m)*bytes≤140737488355328) (hb2:xs.length+m≤maxLen) (jk:base≤w.heap.size)
 (h:∀(v':Value)(w':World),Own E e w' base v' (xs++ys)→w.grownBy w' v.ownBlock→wpList P ops Q rest (a.put o.dst v') w'):wpList P ops Q (o :: rest) a w:=by
 obtain⟨v',w',qo,h2,h3⟩:=afa (ty:=o.type) bV E base v xs gW y m ys hl Kn hb hb2 jk;refine wpList_plain hgd fun _ hK => ?_
 unfold Oper.wp execOp;simp only[ho,resolve,invoke,builtin,Sem.run_bind,Sem.run_pure,Result.andThen_ok,List.map_toArray,jr,List.map_nil,hs,hx,qo];exact hK _ _ (h v' w' h2 h3)
theorem Lg {w:World}{b:Nat}{v:Value}{xs:List Int}(h:oW w b v xs)(g:Nat)(hg:v.ownBlock=some g):b≤g∧∃cur fr,w.heap[g]? = some (.cells cur 5 fr):=by
 rcases h.2 with ⟨h1,_⟩|⟨g',oZ,cur,h1,h2,h3,_⟩
 · rw[h1]at hg;cases hg
 · rw[h1]at hg
   have:g'=g:=dU hg;subst this;exact⟨h2,cur,_,h3⟩
theorem Gr {α : Type}{size:Nat}{E:Enc α size}{e:TypeId}{w:World}{b:Nat}{v:Value}{xs:List α}(h:Own E e w b v xs):∃ao n c,v = .slice ao n c:=by
 rcases h.2 with ⟨h1,_⟩|⟨g,cap,cur,h1,_⟩
 · exact⟨_,_,_,h1⟩
 · exact⟨_,_,_,h1⟩
theorem ib.own {w w':World}{b:Nat}{v:Value}{xs:List Int}(h:oW w (b+1) v xs)(hg:w.grownBy w' v.ownBlock):ib w w' b:=by
 cases hv:v.ownBlock with
 | none =>
   rw[hv]at hg;exact⟨hg.os,hg.tape,hg.output,hg.size,fun k hk _ _=>hg.block k hk (by simp)⟩
 | some g =>
   rw[hv]at hg;obtain⟨h1,h2⟩:=Lg h g hv;exact ib.grown hg h2 (by omega)
end Go.Proofs.YtaobhjliflomaaaGreatDoor
