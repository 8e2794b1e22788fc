import Derived.Test.YtaobhjliflomaaaGreatDoorMW4
import Derived.Deep.DeepCutAuto
import Derived.Lib.Builder
import Derived.Laws.Externs
set_option maxRecDepth 100000
set_option maxHeartbeats 64000000
namespace Go.Proofs.YtaobhjliflomaaaGreatDoor
open Go.RowKit
variable {s:ByteArray}{i x:Int}{done:List (Nd × Value)}{ks:List Int}{l ms ns:List Nd}{r ts ts':List ai}{B T a b base d d' deep mb n nK size z:Nat}{nd:Nd}{α:Type}{k v:Value}{w w' w1 w2:World}{t:ai}
def Kg(w:World)(b:Nat)(own:ByteArray)(mb:Nat):Prop:=w.heap[b]? = some (.cells #[.string own,.map (some mb)] 96)
theorem Kg.cells{own:ByteArray}(h:Kg w b own mb):w.cell? ⟨b,0,none⟩=some (.string own)∧w.cell? ⟨b,1,none⟩=some (.map (some mb)):=⟨cell_of_row w b 0 _ _ _ h,cell_of_row w b 1 _ _ _ h⟩
structure uT (w w1:World)(n:Nd)(k:Value)(own:ByteArray)(mb z:Nat):Prop where
 below:Below w.heap.size w w1
 Hd:Kg w1 z own mb
 iP:az w1 (z+1) n k
 res:az w1 (z+2) Nd.zero (.slice none 0 0)
 size:z+3≤w1.heap.size
 low:w.heap.size≤z
theorem aeP (w:World)(n:Nd)(A:Option Addr)(m c:Nat)(own:ByteArray)(mb:Nat):∃w1,((w.alloc (.cells #[.string own,.map (some mb)] 96)).alloc (.cells #[.int .i64 n.kind,.int .i64 n.num,.string n.text,.string n.ref.sh,.int .i64 n.ref.c,.int .i64 n.ref.r,.bool n.ref.ac,.bool n.ref.ar,.string n.af.sh,.int .i64 n.af.c,.int .i64 n.af.r,.bool n.af.ac,.bool n.af.ar,.slice A m c] 45)).alloc (.cells pR 45)=w1∧uT w w1 n (.slice A m c) own mb w.heap.size:=by
 refine⟨_,rfl,(((ak _ w).alloc (aj _) _).alloc (by simp) _).alloc (by simp;omega) _, ?_, ?_, ?_,by simp,aj _⟩
 · exact(Below.heap_alloc _ _ _ (by simp;omega)).trans ((Below.heap_alloc _ _ _ (by simp)).trans (kW w _).1)
 · have h:=az.new (w.alloc (.cells #[.string own,.map (some mb)] 96)) n (.slice A m c)
   rw[jE]at h;exact(Below.heap_alloc _ _ _ (by simp)).trans h
 · have h:=az.new ((w.alloc (.cells #[.string own,.map (some mb)] 96)).alloc (.cells (bU n (.slice A m c)) 45)) Nd.zero (.slice none 0 0)
   rw[jE,jE]at h;exact h
theorem uT.call {n:Nd}{own:ByteArray}(h:uT w w1 n k own mb z)(hb:Below w1.heap.size w1 w2):uT w w2 n k own mb z:=by
 have hs:=h.size;exact⟨h.below.trans (hb.mono h.below.size),(hb.block z (by omega)).trans h.Hd,h.iP.zu hb,h.res.zu hb,bO h.size hb.size,h.low⟩
theorem uT.put {n n':Nd}{k':Value}{own:ByteArray}(h:uT w w1 n k own mb z)(o:Nat)(v:Value)(he:(bU n k).setIfInBounds o v=bU n' k'):uT w (w1.setCell ⟨z+1,o,none⟩ v) n' k' own mb z :=
 ⟨h.below.setCell (bO h.low (by show z≤z+1;omega)) _,(fw _ _ _ _ (by show z≠z+1;omega)).trans h.Hd,h.iP.set o v he,h.res.Hu _ _ (by show z+2≠z+1;omega),by simpa using h.size,h.low⟩
theorem uT.zC {n:Nd}{own:ByteArray}(h:uT w w1 n k own mb z)(hg:w1.grownBy w2 (some (z+2))):Below w.heap.size w w2:=by
 have hb:=h.below;have hl:=h.low;exact⟨hg.os.trans hb.os,hg.tape.trans hb.tape,hg.output.trans hb.output,bO hb.size hg.size,fun k hk=>(hg.block k (eZ hk hb.size) (by intro e;injection e with e;omega)).trans (hb.block k hk)⟩
theorem Ij:Tryz.f45.results=#[.cell 4 45]:=by kernel_rfl
theorem Hw {n:Nd}(h:az w b n k)(fn:Func)(tmps:Array Value)(s:Tmp)(hf:fn.results=#[.cell s 45])(hp:tmps.getD s undef = .pointer (some ⟨b,0,none⟩)) :
 (results fn tmps).run Tryz.prog w = .ok (.agg (bU n k)) w:=results_cell_row hf tmps w b _ _ _ _ hp h Tryz.underlying45 rfl Bf
theorem Yn {n:Nd}{s:Sf}(h:(jP n s).2=true):(jP n s).1.kids=n.kids:=by
 unfold jP at h ⊢;split
 · rename_i g;rw[ah g]at h;cases h
 · split <;> rfl
theorem agX:(Tryz.prog.info? 33).map (·.size)=some 6:=by kernel_rfl
theorem Wq {o:Oper}{a:Act}{K:Act→World→Prop}{Q:Exit→Act→World→Prop}(x y:Operand)(ho:o.op = .store 33 x y)
 (g:Nat) (s0 s:bK) (hx:a.eval x = .pointer (some ⟨g,0,none⟩)) (hy:a.eval y = .agg (jY s)) (hr:kN w g s0)
 (h:∀w',kN w' g s→w.grownBy w' (some g)→K (a.put o.dst undef) w'):Oper.wp Tryz.prog o a w K Q :=
 wp_store_row 33 x y ho g 33 _ _ hx hy hr rfl agX (bK.one s) (h _ (setRow_heap w g _ _ _ _ hr) (grownBy.Iz (grownBy.fP w _) _))
theorem Ga {q:Nat}{a:World}(h:Below B a w)(hg:w.grownBy w' (some q))(hq:B≤q)(hB:B≤w.heap.size):Below B a w' :=
 ⟨hg.os.trans h.os,hg.tape.trans h.tape,hg.output.trans h.output,bO h.size hg.size,fun k hk=>(hg.block k (eZ hk hB) (by intro e;injection e with e;omega)).trans (h.block k hk)⟩
def zSf:Sf:=⟨⟨#[]⟩,false,[],0,[],0⟩
def zS:bK:=⟨zSf,none,0,none,0,by decide⟩
theorem ai5(w:World):(zeroValue 33).run Tryz.prog w = .ok (.agg (jY zS)) w:=by kernel_rfl
theorem ac0 (xs:List bK)(mb:Nat)(W:ByteArray)(hW:W.size≤maxLen):∃(x:bK)(b:Bool),(∀wq,jr wq mb (rA xs)→(Instr.lookup 94 (.map (some mb)) (.string W) true).run Tryz.prog wq = .ok (.tuple #[.agg #[.string x.s.sh,.slice x.ra x.s.rx.length x.rc,.int .i64 x.s.rn,.slice x.ca x.s.cx.length x.cc,.int .i64 x.s.cn,.bool x.s.gone],.bool b]) wq)∧(b=false→zn xs W=none)∧(b=true→zn xs W=some x):=by
 cases h:zn xs W with
 | none=>exact⟨zS,false,fun wq hq=>hq.L9 Tryz.underlying94 Tryz.underlying9 (ai5 wq) W hW (by unfold rA;rw[h];rfl),fun _=>rfl,fun e=>(by cases e)⟩
 | some x=>exact⟨x,true,fun wq hq=>hq.find Tryz.underlying94 Tryz.underlying9 W hW (.agg (jY x)) (by unfold rA;rw[h];rfl),fun e=>(by cases e),fun _=>rfl⟩
def Ph(w:World)(N:Nd)(e:Ending)(w':World):Prop:=∃K,e = .returned (.agg (bU N K))∧K.oneCell'=true∧Own (aI .i64) 3 w' w.heap.size K N.kids∧Below w.heap.size w w'
theorem adI (w:World)(own:ByteArray)(mb:Nat)(xs:List bK)(n:Nd)(A:Option Addr)(m c:Nat)(hM:jr w mb (rA xs))(hX:∀x∈xs,qd w w.heap.size x)(hO:∀x∈xs,qR x.s)(ho:own.size≤maxLen)(hn:DX n)(hk:iM w w.heap.size (.slice A m c) n.kids)(hm:m≤1000000) :
 Calls Tryz.prog 45 #[.agg #[.string own,.map (some mb)],.agg (bU n (.slice A m c))] w (Ph w (mh own (kF xs) n)):=by
 obtain⟨w1,hw1,hp⟩:=aeP w n A m c own mb;have HP:=ae hp;have HX:=ae hX;have HO:=ae hO;have HN:=ae hn;have HM:=ae hM;have HOW:=ae ho
 have BK:=ae (Ze w1 A m c n.kids (by
  have hb:=hp.below;exact(hk.below hb (aj _)).mono hb.size) hm)
 obtain⟨z,hz⟩:∃z,w.heap.size=z:=⟨_,rfl⟩;have iB:=ae hz;rw[hz]at HP;clear hX hO ho hn hk hM hp hz;have x0:=HP.o.iP.cells;show Calls Tryz.prog 45 #[.agg #[.string own,.map (some mb)],.agg #[.int .i64 n.kind,.int .i64 n.num,.string n.text,.string n.ref.sh,.int .i64 n.ref.c,.int .i64 n.ref.r,.bool n.ref.ac,.bool n.ref.ar,.string n.af.sh,.int .i64 n.af.c,.int .i64 n.af.r,.bool n.af.ac,.bool n.af.ar,.slice A m c]] w _;go_enter Tryz.func45,Tryz.ntmps45;go_upto_region 1 with (fail)
 rw[iB.o,show z+1+1=z+2 from rfl];obtain⟨x0,x1,x2,x3,x4,x5,x6,x7,ay,aO,aL,aM,aN,aJ⟩:=x0;go_upto_region 2 with (go_at_call 70;((with_reducible refine BK.o.mono ?_);rintro e w2 ⟨hq,A2,c2,rfl,hs⟩;have dI:=ae (HP.o.call hq);have HS2:=ae hs;have f13:=dI.o.iP.yf 13;clear x0 x1 x2 x3 x4 x5 x6 x7 ay aO aL aM aN aJ hq hs;obtain⟨x0,x1,x2,x3,x4,x5,x6,x7,ay,aO,aL,aM,aN,aJ⟩:=dI.o.iP.cells))
 obtain⟨L,hL⟩:∃L,n.kids.length=L:=⟨_,rfl⟩;rw[hL]at HS2 ⊢;have zZ:=ae hL;clear hL;have aY:=ae (dI.o.put 13 (.slice A2 L c2) (n':=n) (k' := .slice A2 L c2) rfl);have ny:=ae (show Own (aI .i64) 3 (w2.setCell ⟨z+1,13,none⟩ (.slice A2 L c2)) w1.heap.size (.slice A2 L c2) n.kids from HS2.o.keep fun g h1 h2 _=>fw _ _ _ _ (by have:=HP.o.size;show g≠z+1;omega));clear x0 x1 x2 x3 x4 x5 x6 x7 ay aO aL aM aN aJ f13;obtain⟨w3,hw3⟩:∃w3,w2.setCell ⟨z+1,13,none⟩ (.slice A2 L c2)=w3:=⟨_,rfl⟩;rw[hw3]at aY ny ⊢;clear hw3;obtain⟨x0,x1,x2,x3,x4,x5,x6,x7,ay,aO,aL,aM,aN,aJ⟩:=aY.o.iP.cells;by_cases hno:¬ n.kind=5∧¬ n.kind=6
 · have hv:mh own (kF xs) n=n:=by unfold mh;rw[ah hno]
   have dF:=ae hv;have hk5:(n.kind != (5:Int))=true:=bne_iff_ne.2 hno.1;have pF:(n.kind != (6:Int))=true:=bne_iff_ne.2 hno.2;clear hv hno;go_wp2_with (refine pQ rfl (.tmp 4) (.tmp 20) rfl (z+2) Nd.zero n (.slice none 0 0) (.slice A2 L c2) rfl rfl aY.o.res rfl ?_;intro w7 k1 k2)
   refine bodyPost_ret (Hw k1 _ _ 4 Ij rfl) rfl ?_;rw[dF.o];have hb:=aY.o.zC k2;have hs7:Own (aI .i64) 3 w7 w1.heap.size (.slice A2 L c2) n.kids:=ny.o.keep fun g h1 h2 _=>k2.block g h2 (by have:=HP.o.size;intro e;injection e with e;omega)
   exact⟨_,rfl,rfl,hs7.mono HP.o.below.size,hb⟩
 have AA:(n.kind != (5:Int)&&n.kind != (6:Int))=false:=by
  cases h:(n.kind != (5:Int)&&n.kind != (6:Int))with
  | false=>rfl
  | true=>exact absurd ⟨bne_iff_ne.1 (iU.1 h).1,bne_iff_ne.1 (iU.1 h).2⟩ hno
 have hv:mh own (kF xs) n=match y8 (kF xs) (qx own n)with
  | none=>n
  | some s=>if (jP n s).2=true then (jP n s).1 else Am:=by unfold mh;rw[ag hno];rfl
 rw[acY]at hv;have dF:=ae hv;clear hv hno;have hb3:=aY.o.below;have wh:=ae (HM.o.below hb3 HM.o.lt);have l7:=ae (fun wq=>adF wq own mb n)
 have Oz:=ae (show(qx own n).size≤maxLen from by
  unfold qx;split
  · exact HOW.o
  · exact bO HN.o.sh (by unfold maxLen;decide))
 obtain⟨W,hW⟩:∃W,qx own n=W:=⟨_,rfl⟩;rw[hW]at dF l7 Oz
 have RF:(n.kind != (5:Int))=false∨(n.kind != (5:Int))=true∧(n.kind != (6:Int))=false:=by
  cases h:(n.kind != (5:Int))with
  | false=>exact .inl rfl
  | true=>exact .inr ⟨rfl,by rw[h]at AA;exact AA⟩
 have XH:=ae RF;clear AA RF
 go_cut [19] (fun cv wx=>cv = .bool false∧w3=wx)
 case first =>
  rcases XH.o with hs5|⟨hs5,hs6⟩
  all_goals go_wp2_with fail
  all_goals go_meet
  all_goals exact⟨rfl,rfl⟩
 case rest =>
 obtain⟨rfl,rfl⟩:=hcut;go_upto_region 4 with fail
 clear x0 x1 x2 x3 x4 x5 x6 x7 ay aO aL aM aN aJ;obtain⟨x,b,hlk,hlf,hlt⟩:=ac0 xs mb W Oz.o;have Dx:=ae hlk;have vZ:=ae hlf;have OB:=ae hlt;clear hlk hlf hlt;have lI:=ae (Below.drew (ak w3.heap.size w3));have lL:=ae (fun (wq:World)(hq:Below w3.heap.size w3 wq)=>(show(fun wq=>uT w wq n (.slice A2 L c2) own mb z∧jr wq mb (rA xs)) wq from⟨aY.o.call hq,wh.o.below hq wh.o.lt⟩));have jG:=lL.o _ lI.o
 go_cut [5,6] (fun pv bv wx=>∃(q:Nat)(dX:World),pv = .pointer (some ⟨q,0,none⟩)∧bv = .bool b∧dX=wx∧Hid (kN dX q x)∧Hid (Below w3.heap.size w3 dX))
 case first =>
  refine wp_region_held_drew (S:=(fun wq=>uT w wq n (.slice A2 L c2) own mb z∧jr wq mb (rA xs))) (by kernel_rfl) jG (fun _ => ?_);show wpAnyH _ _ _ _ _ 13 #[false,false,false,false,false,false,false,false,false,false,false,false,false] _ _;refine hT 0 jG ?_;refine hT 1 jG ?_ (hy:=by(intro iE hSw;have hz:=hSw.1.Hd.cells;go_simp;try(with_reducible rfl)));refine hT 2 jG ?_ (hy:=by(intro iE hSw;have hz:=hSw.1.Hd.cells;go_simp;try(with_reducible rfl)));refine hT 3 jG ?_;refine hT 4 jG ?_ (hy:=by(intro iE hSw;have hz:=hSw.1.iP.cells;go_simp;try(with_reducible rfl)));refine hP 5 10 (fun K hK => ?_) (fun K hK => ?_)
  · go_simp
    go_at_call 71;(with_reducible refine(l7.o _).mono ?_);rintro e w4 ⟨rfl,h1⟩;have H4:=ae (lI.o.trans (h1.mono lI.o.size));clear h1;dsimp only;have sw:=lL.o _ H4.o;refine hK.o _ _ sw ?_;clear hK K;simp only[Act.put,sT,gD,gB];refine hT 6 sw ?_ (hy:=by(intro iE hSw;have hz:=Dx.o iE hSw.2;go_simp;try(with_reducible rfl)));refine hT 7 sw ?_;refine hT 8 sw ?_;refine hT 9 sw ?_;refine hO 10 (fun K hK => ?_);go_simp;have Ad:=ae (H4.o.alloc H4.o.size (.cells (jY zS) 33));have Ke:=ae (kN.new w4 zS);have JO:=ae H4.o.size;refine hK.o _ _ (lL.o _ Ad.o) ?_;clear hK K;simp only[Act.put,sT,gD,gB];refine hO 11 (fun K hK => ?_);refine Wq (.tmp 5) (.tmp 29) rfl w4.heap.size zS x rfl rfl Ke.o ?_;intro w7 k1 k2;have rW:=ae (Ga Ad.o k2 JO.o Ad.o.size);have uN:=lL.o _ rW.o;refine hK.o _ _ uN ?_;clear hK K;simp only[Act.put];refine hT 12 uN ?_;refine wpAnyH_done (by kernel_rfl) ?_ _;go_wp2_with fail
    go_meet
    case rel=>exact⟨_,_,rfl,rfl,rfl,ae k1,rW⟩
  · go_simp
    have xB:=ae (lI.o.alloc (aj _) (.cells (jY zS) 33));refine hK.o _ _ (lL.o _ xB.o) ?_;clear hK K;simp only[Act.put,sT,gD,gB];refine hO 5 (fun K hK => ?_);go_simp;go_at_call 71;(with_reducible refine(l7.o _).mono ?_);rintro e w5 ⟨rfl,h1⟩;have Ad:=ae (xB.o.trans (h1.mono xB.o.size));have Ke:=ae ((kN.new w3.drew zS).over h1);have JO:=ae (aj w3.heap.size);clear h1;dsimp only;have BR:=lL.o _ Ad.o;refine hK.o _ _ BR ?_;clear hK K;simp only[Act.put,sT,gD,gB];refine hT 6 BR ?_ (hy:=by(intro iE hSw;have hz:=Dx.o iE hSw.2;go_simp;try(with_reducible rfl)));refine hT 7 BR ?_;refine hT 8 BR ?_;refine hT 9 BR ?_;refine hO 11 (fun K hK => ?_);refine Wq (.tmp 5) (.tmp 29) rfl w3.heap.size zS x rfl rfl Ke.o ?_;intro w7 k1 k2;have rW:=ae (Ga Ad.o k2 JO.o Ad.o.size);have uN:=lL.o _ rW.o;refine hK.o _ _ uN ?_;clear hK K;simp only[Act.put];refine hT 12 uN ?_;refine wpAnyH_done (by kernel_rfl) ?_ _;go_wp2_with fail
    go_meet
    case rel=>exact⟨_,_,rfl,rfl,rfl,ae k1,rW⟩
 case rest =>
 obtain⟨q,dX,rfl,rfl,rfl,XK,Oh⟩:=hcut;have qM:=ae (aY.o.call Oh.o);have xU:=HP.o.size;have OO:=ae (ny.o.below Oh.o (aj _));have O8:=ae (show z+2<w1.heap.size from by omega);cases b with
 | false =>
   have hv:=dF.o;rw[vZ.o rfl]at hv;have FM:=ae (show mh own (kF xs) n=n from hv);clear hv;obtain⟨x0,x1,x2,x3,x4,x5,x6,x7,ay,aO,aL,aM,aN,aJ⟩:=qM.o.iP.cells;go_wp2_with (refine pQ rfl (.tmp 4) (.tmp 33) rfl (z+2) Nd.zero n (.slice none 0 0) (.slice A2 L c2) rfl rfl qM.o.res rfl ?_;intro w7 k1 k2)
   refine bodyPost_ret (Hw k1 _ _ 4 Ij rfl) rfl ?_;rw[FM.o];have hs7:Own (aI .i64) 3 w7 w1.heap.size (.slice A2 L c2) n.kids:=OO.o.keep fun g h1 h2 _=>k2.block g h2 (by have:=O8.o;intro e;injection e with e;omega)
   exact⟨_,rfl,rfl,hs7.mono HP.o.below.size,qM.o.zC k2⟩
 | true =>
   have hv:=dF.o;rw[OB.o rfl]at hv;have FM:=ae (show mh own (kF xs) n=if (jP n x.s).2=true then (jP n x.s).1 else Am from hv);have di:=acZ (OB.o rfl);clear hv;have bu:=ae (show Calls Tryz.prog 72 #[.agg #[.int .i64 n.kind,.int .i64 n.num,.string n.text,.string n.ref.sh,.int .i64 n.ref.c,.int .i64 n.ref.r,.bool n.ref.ac,.bool n.ref.ar,.string n.af.sh,.int .i64 n.af.c,.int .i64 n.af.r,.bool n.af.ac,.bool n.af.ar,.slice A2 L c2],.agg #[.string x.s.sh,.slice x.ra x.s.rx.length x.rc,.int .i64 x.s.rn,.slice x.ca x.s.cx.length x.cc,.int .i64 x.s.cn,.bool x.s.gone]] dX (BG dX n x.s (.slice A2 L c2))from Ym dX n A2 L c2 x ((HX.o x di).lift qM.o.below) (HO.o x di) HN.o);clear di;obtain⟨x0,x1,x2,x3,x4,x5,x6,x7,ay,aO,aL,aM,aN,aJ⟩:=qM.o.iP.cells;obtain⟨y0,y1,y2,y3,y4,fQ⟩:=XK.o.cells;dsimp only[bK.rv,bK.cv]at y1 y3;obtain⟨ok,hok⟩:∃ok,(jP n x.s).2=ok:=⟨_,rfl⟩;have lJ:=ae hok;unfold BG at bu;rw[hok]at bu;clear hok
   go_upto_region 8 with (first
    | (go_at_call 72;((with_reducible refine bu.o.mono ?_);rintro e w8 ⟨M,K0,rfl,hM,hK1,hq⟩;have l6:=ae (qM.o.call hq);have Xb:=ae hM;have WW:=ae hK1;have WB:=ae hq;clear hM hK1 hq x0 x1 x2 x3 x4 x5 x6 x7 ay aO aL aM aN aJ y0 y1 y2 y3 y4 fQ))
    | (refine pQ rfl (.tmp 7) (.tmp 38) rfl w8.heap.size Nd.zero M (.slice none 0 0) K0 rfl rfl (az.new w8 Nd.zero (.slice none 0 0)) WW.o ?_;intro gW k1 k2))
   have Og:=ae (Ga ((ak w8.heap.size w8).alloc (aj _) (.cells (bU Nd.zero (.slice none 0 0)) 45)) k2 (aj _) (by simp));have mI:=ae (l6.o.call Og.o);have sZ:=ae ((OO.o.below WB.o (aj _)).below Og.o (aj _));have nk:=ae k1;clear k1 k2;cases ok with
   | true =>
     obtain⟨hM1,rfl⟩:=Xb.o rfl;have kL:=ae (show M.kids=n.kids from by rw[hM1];exact Yn lJ.o);have FC:=ae hM1.symm;clear hM1;obtain⟨x0,x1,x2,x3,x4,x5,x6,x7,ay,aO,aL,aM,aN,aJ⟩:=nk.o.cells;go_wp2_with (refine pQ rfl (.tmp 4) (.tmp 43) rfl (z+2) Nd.zero M (.slice none 0 0) (.slice A2 L c2) rfl rfl mI.o.res rfl ?_;intro w7 k1 k2)
     refine bodyPost_ret (Hw k1 _ _ 4 Ij rfl) rfl ?_;rw[FM.o,ah lJ.o,FC.o];have hs7:Own (aI .i64) 3 w7 w1.heap.size (.slice A2 L c2) n.kids:=sZ.o.keep fun g h1 h2 _=>k2.block g h2 (by have:=O8.o;intro e;injection e with e;omega)
     exact⟨_,rfl,rfl,by rw[kL.o];exact hs7.mono HP.o.below.size,mI.o.zC k2⟩
   | false =>
     go_wp2_with (refine pQ rfl (.tmp 4) (.tmp 42) rfl (z+2) Nd.zero Am (.slice none 0 0) (.slice none 0 0) rfl rfl mI.o.res rfl ?_;intro w7 k1 k2)
     refine bodyPost_ret (Hw k1 _ _ 4 Ij rfl) rfl ?_;rw[FM.o,ag (by rw[lJ.o];decide)];exact⟨_,rfl,rfl,Own.nil _ _ _ _,mI.o.zC k2⟩
theorem agf (n:Nat)(hn:n≤1000)(w:World):(Instr.makeSlice 25 (.int .i64 (n:Int)) (.int .i64 (n:Int))).run Tryz.prog w = .ok (.slice (some ⟨w.heap.size,0,none⟩) n n) (w.alloc (.cells (madeCells pR (n*14)) 45)):=by
 have aaT:(Tryz.prog.info? 45).map (fun i=>(i.zero,i.size,i.bytes))=some (some (.agg pR),14,136):=by kernel_rfl
 obtain⟨i,hi,hzz⟩:=Option.map_eq_some_iff.1 aaT;simp only[bE]at hzz;obtain⟨hz,hs,hb⟩:=hzz;have hr:=run_make (P:=Tryz.prog) w 25 45 i _ Tryz.underlying25 hi hz .i64 .i64 n n (by omega) (Int.le_refl _) (by rw[hb];omega) (by omega);simp only[Int.toNat_natCast,hs]at hr;exact hr
theorem adi (w:World)(n:Nat):(w.alloc (.cells (madeCells pR (n*14)) 45)).there w.heap.size 0 (n*14):=fun j hj=>by
 have hb:=(kW w (.cells (madeCells pR (n*14)) 45)).1;refine⟨?_,frozen_of_row _ _ _ _ _ hb⟩;rw[cell_of_row _ _ _ _ _ _ hb];unfold madeCells;rw[Array.getElem?_map,Array.getElem?_range,ah (by omega)];rfl
theorem Ve (b:Nat):∀(vs:List Value)(o:Nat)(w:World)(k:Nat),k≠b→(w.setCells b o vs).heap[k]? = w.heap[k]?
 | [],_,_,_,_=>rfl
 | v :: r,o,w,k,h=>by rw[World.setCells,Ve b r (o+1) _ k h];exact fw _ _ _ _ h
theorem Vf (b:Nat):∀(vs:List Value)(o:Nat)(w:World),(w.setCells b o vs).heap.size=w.heap.size
 | [],_,_=>rfl
 | v :: r,o,w=>by rw[World.setCells,Vf b r (o+1)];simp
theorem Vd {a:World}(b:Nat)(hB:B≤b):∀(vs:List Value)(o:Nat)(w:World),Below B a w→Below B a (w.setCells b o vs)
 | [],_,_,h=>h
 | _ :: r,o,_,h=>Vd b hB r (o+1) _ (h.setCell hB _)
structure xH (w:World)(T n:Nat)(done:List (Nd × Value)):Prop where
 th:w.there T 0 (n*14)
 at_:∀(j:Nat) p,done[j]? = some p→w.rangeAt T (j*14) (bU p.1 p.2).toList
 kids:∀p∈done,Own (aI .i64) 3 w (T+1) p.2 p.1.kids
 lt:T<w.heap.size
theorem xH.below (h:xH w T n done)(hb:Below w.heap.size w w'):xH w' T n done :=
 ⟨fun j hj=>by rw[gM (a:=⟨T,0+j,none⟩) (hb.block T h.lt)];exact⟨(h.th j hj).1,(World.frozen?_of_block (w:=w) (a:=⟨T,0+j,none⟩) (hb.block T h.lt)).trans (h.th j hj).2⟩,
  fun j p hp q u hu=>(hb.cell (p:=⟨T,_,none⟩) h.lt).trans (h.at_ j p hp q u hu),fun p hp=>(h.kids p hp).below hb (aj _),eZ h.lt hb.size⟩
theorem xH.put (h:xH w T n done)(hn:done.length<n)(N:Nd)(K:Value)(hk:Own (aI .i64) 3 w (T+1) K N.kids):xH (w.setCells T (done.length*14) (bU N K).toList) T n (done++[(N,K)]):=by
 have hth:w.there T (done.length*14) 14:=fun j hj=>by
  have:=h.th (done.length*14+j) (by omega);rwa[Nat.zero_add]at this
 refine⟨World.there_setCells h.th _ _ _,fun j p hp => ?_,fun p hp => ?_,by rw[Vf];exact h.lt⟩
 · rw [List.getElem?_append]at hp
   split at hp
   · rename_i hj
     exact World.rangeAt_setCells_apart (h.at_ j p hp) _ _ _ (.inr (.inl (by show j*14+14≤_;omega)))
   · rename_i hj
     have e:=(dS.1 hp).1;have hj2:j=done.length:=by simp at e;omega
     subst hj2;rw[Nat.sub_self]at hp;have hp2:(N,K)=p:=by simpa using hp
     subst hp2;exact World.rangeAt_setCells_same _ _ _ _ hth
 · have hp2:Own (aI .i64) 3 w (T+1) p.2 p.1.kids:=by
    rcases dK.1 hp with hp|hp
    · exact h.kids p hp
    · rw[fA.1 hp];exact hk
   exact hp2.keep fun g h1 h2 _=>Ve T _ _ _ g (by omega)
theorem xH.sn (h:xH w T n done)(hl:done.length=n):fI w w.heap.size (.slice (some ⟨T,0,none⟩) n n) done:=by
 refine⟨⟨_,n,by rw[hl],.inr ⟨T,0,rfl,h.lt,fun i m k hi j hj => ?_⟩⟩,fun p hp=>(h.kids p hp).siI⟩;have hj2:(bU m k).toList[j]? = some ((bU m k).toList[j]'hj):=dL _;rw[hj2,Nat.zero_add];exact h.at_ i _ hi j _ hj2
theorem fI.range {A:Option Addr}{cap:Nat}{l:List (Nd × Value)}(h:fI w B (.slice A n cap) l){i:Nat}{p:Nd × Value}(hi:l[i]? = some p):∃pb po,A=some ⟨pb,po,none⟩∧pb<B∧w.rangeAt pb (po+i*14) (bU p.1 p.2).toList:=by
 obtain⟨⟨A',qf,e,h1⟩,_⟩:=h;injection e with e1 e2 e3;subst e1;rcases h1 with rfl|⟨pb,po,h1,h2,h3⟩
 · cases hi
 · exact ⟨pb,po,h1,h2,fun j v hv=>by
    have hj:j<14:=(dS.1 hv).1;rw[h3 i p.1 p.2 hi j hj];exact hv⟩
structure Pg (l:List (Nd × Value)):Prop where
 len:l.length≤1000
 sm:∀p∈l,DX p.1
 kids:∀p∈l,p.1.kids.length≤1000000
theorem adu (w:World)(own:ByteArray)(mb:Nat)(xs:List bK)(A:Option Addr)(n cap:Nat)(l:List (Nd × Value))(hM:jr w mb (rA xs))(hX:∀x∈xs,qd w w.heap.size x)(hO:∀x∈xs,qR x.s)(ho:own.size≤maxLen)(hs:fI w w.heap.size (.slice A n cap) l)(hl:l.length=n)(hi:Pg l) :
 Calls Tryz.prog 43 #[.slice A n cap,.func (.func 45) #[.agg #[.string own,.map (some mb)]] #[]] w fun e w'=>∃done,e = .returned (.slice (some ⟨w.heap.size,0,none⟩) n n)∧fI w' w'.heap.size (.slice (some ⟨w.heap.size,0,none⟩) n n) done∧done.map (·.1)=mg own (kF xs) (l.map (·.1))∧Below w.heap.size w w':=by
 have HM:=ae hM;have HX:=ae hX;have HO:=ae hO;have HOW:=ae ho;have HS:=ae hs;have HL:=ae hl;have HI:=ae hi;have hn:n≤1000:=by have:=hi.len;omega
 clear hM hX hO ho hs hl hi;have hmk:=fun w=>agf n hn w
 have HT:=ae (adi w n);have HB0:=ae ((ak w.heap.size w).alloc (aj _) (.cells (madeCells pR (n*14)) 45));have dE:=ae (jE w (.cells (madeCells pR (n*14)) 45));go_enter Tryz.func43,Tryz.ntmps43;go_upto_region 3 with (fail)
 obtain⟨w1,hw1⟩:∃w1,w.alloc (.cells (madeCells pR (n*14)) 45)=w1:=⟨_,rfl⟩;rw[hw1]at HT HB0 dE ⊢;clear hw1 hmk;obtain⟨T,QR⟩:∃T,w.heap.size=T:=⟨_,rfl⟩;have jN:=ae QR;rw[QR]at HT HB0 dE ⊢
 go_loopw [13] (fun iv wr=>∃(i:Nat)(done:List (Nd × Value)),i≤n∧iv = .int .i64 (i:Int)∧Hid (done.length=i)∧Hid (done.map (·.1)=(mg own (kF xs) (l.map (·.1))).take i)∧Hid (xH wr T n done)∧Hid (Below T w wr))
  (fun iv _=>n - (intOf iv).toNat)
 case atStart=>exact⟨0,[],eP _,rfl,ae rfl,ae rfl,ae ⟨HT.o,fun j p h=>(by cases h),fun p h=>(by cases h),by have:=dE.o;omega⟩,HB0⟩
 case round =>
  obtain⟨i,done,hin,rfl,HD,OE,HR,HB⟩:=hrel;by_cases hlt:i<n
  · have hii:(i:Int)<(n:Int):=by omega
    have hi0:(0:Int)≤(i:Int):=by omega
    obtain⟨⟨q,k⟩,hq⟩:∃p,l[i]? = some p:=⟨_,dL (by rw[HL.o];exact hlt)⟩;obtain⟨pb,po,rfl,hpb,hrg⟩:=HS.o.range hq;have di:=fT hq;have hpT:pb<T:=by rw[← jN.o];exact hpb
    have Xu:=ae (show wr.rangeAt pb (po+i*14) (bU q k).toList from fun j v hv=>(HB.o.cell (p:=⟨pb,_,none⟩) hpT).trans (hrg j v hv));have hbw:w.heap.size≤wr.heap.size:=HB.o.size;have hki:=(HS.o.2 _ di);obtain⟨A2,c2,ma,_⟩:=hki;obtain⟨L,hL⟩:∃L,q.kids.length=L:=⟨_,rfl⟩;have ma:k = .slice A2 q.kids.length c2:=ma;rw[hL]at ma;subst ma;have hq1:=HI.o.sm _ di;have hq2:q.kids.length≤1000000:=HI.o.kids _ di
    have gY:=ae (fun (wq:World)(hb:Below wr.heap.size wr wq)=>(show Calls Tryz.prog 45 #[.agg #[.string own,.map (some mb)],.agg #[.int .i64 q.kind,.int .i64 q.num,.string q.text,.string q.ref.sh,.int .i64 q.ref.c,.int .i64 q.ref.r,.bool q.ref.ac,.bool q.ref.ar,.string q.af.sh,.int .i64 q.af.c,.int .i64 q.af.r,.bool q.af.ac,.bool q.af.ar,.slice A2 L c2]] wq (Ph wq (mh own (kF xs) q))from by
     have hbb:Below w.heap.size w wq:=by
      have h0:=HB.o;rw[← jN.o]at h0;exact h0.trans (hb.mono hbw)
     refine adI wq own mb xs q A2 L c2 (HM.o.below hbb HM.o.lt) (fun x hx=>(HX.o x hx).lift hbb) HO.o HOW.o hq1 ?_ (by omega);exact((HS.o.2 _ di).below hbb (aj _)).mono hbb.size))
    have aR:=ae (show(mg own (kF xs) (l.map (·.1))).take (i+1)=(mg own (kF xs) (l.map (·.1))).take i++[mh own (kF xs) q]from by
     rw[List.take_add_one];unfold mg;rw[gN,gN,hq];rfl)
    clear hrg di hq hq1 hq2 hL
    go_upto_region 5 with (first
     | (refine wpList_load_mid rfl 45 (.tmp 16) rfl pb (po+i*14) rfl (bU q (.slice A2 L c2)).toList _ Xu.o Tryz.underlying45 rfl Bf ?_)
     | (refine pQ rfl (.tmp 7) (.tmp 17) rfl wr.heap.size Nd.zero q (.slice none 0 0) (.slice A2 L c2) rfl rfl (az.new wr Nd.zero (.slice none 0 0)) rfl ?_;intro w4 k1 k2))
    have Aa:=ae k1;have dC:=ae (Ga ((ak wr.heap.size wr).alloc (aj _) (.cells (bU Nd.zero (.slice none 0 0)) 45)) k2 (aj _) (by simp));clear k1 k2;simp only[Act.put];obtain⟨x0,x1,x2,x3,x4,x5,x6,x7,ay,aO,aL,aM,aN,aJ⟩:=Aa.o.cells;obtain⟨N,hN⟩:∃N,mh own (kF xs) q=N:=⟨_,rfl⟩;rw[hN]at gY aR;clear hN
    go_upto_region 6 with (first
     | (go_at_call 45;((with_reducible refine(gY.o _ dC.o).mono ?_);rintro e w5 ⟨K0,rfl,hK1,hkk,hq⟩;have uK:=ae ((HR.o.below dC.o).below hq);have lg:=ae (hkk.mono (bO HR.o.lt dC.o.size));have mH:=ae hK1;have eD:=ae (dC.o.trans (hq.mono dC.o.size));clear hK1 hkk hq;have FK:=ae (show w5.there T (i*14) 14 from fun j hj=>(by have h:=uK.o.th (i*14+j) (by omega);rwa[Nat.zero_add]at h))))
     | (refine wpList_store_mid rfl 45 (.tmp 23) (.tmp 22) rfl T (i*14) (bU N K0) rfl rfl FK.o Bf (Array.all_eq_true_iff_forall_mem.2 (fun v hv=>Hq N K0 mH.o v (by simpa using hv))) ?_))
    have hd:=HD.o;subst hd;have BP:=ae (uK.o.put hlt N K0 lg.o);have oU:=ae (Vd (B:=T) (a:=w) T (aj _) (bU N K0).toList (done.length*14) w5 (HB.o.trans (eD.o.mono (Nat.le_of_lt HR.o.lt))));clear x0 x1 x2 x3 x4 x5 x6 x7 ay aO aL aM aN aJ;obtain⟨w6,nH⟩:∃w6,w5.setCells T (done.length*14) (bU N K0).toList=w6:=⟨_,rfl⟩;rw[nH]at BP oU ⊢;clear nH;simp only[Act.put];go_wp2_with fail
    go_roundw
    case rel=>exact⟨done.length+1,done++[(N,K0)],by omega,by go_num,ae (by rw[av];rfl),ae (by rw[gP,OE.o,aR.o];rfl),BP,oU⟩
    case measure=>simp[intOf];omega
  · have hii:¬ (i:Int)<(n:Int):=by omega
    have aaS:i=n:=by omega
    subst aaS;go_wp2_with fail
    go_ret;have k1:done.map (·.1)=mg own (kF xs) (l.map (·.1)):=by rw[OE.o];exact pW (by rw[TA,eB,HL.o];exact aj _)
    exact⟨rfl,done,HR.o.sn HD.o,k1,HB.o⟩
def jW:List ByteArray:=[⟨#[61]⟩,⟨#[60,62]⟩,⟨#[60]⟩,⟨#[60,61]⟩,⟨#[62]⟩,⟨#[62,61]⟩,⟨#[38]⟩,⟨#[43]⟩,⟨#[45]⟩,⟨#[42]⟩,⟨#[47]⟩]
def rk(o:Nat):Nat:=if o<6 then 0 else if o<7 then 1 else if o<9 then 2 else 3
theorem M9 (o:Nat):rk o≤3:=by
 unfold rk;by_cases h1:o<6
 · rw[ah h1];omega
 · rw [ag h1]
   by_cases h2:o<7
   · rw[ah h2];omega
   · rw[ag h2]
     by_cases h3:o<9
     · rw[ah h3];omega
     · rw[ag h3];omega
theorem Mx (t:ai)(ts:List ai)(o:Nat)(ho:o<11)(hk:t.kind=5)(ht:t.text=jW.getD o ⟨#[]⟩)(n:Nat)(hn:n≤3):fC n (t :: ts)=if rk o=n then 9+(o:Int)else 0:=by
 have hs:∀s:ByteArray,ax s (t :: ts)=decide (jW.getD o ⟨#[]⟩=s):=by
  intro s;unfold ax;simp only[hk,ht,decide_true,gL]
 unfold fC;simp only[hs];have key:∀n:Nat,n<4→∀o:Nat,o<11→(match (gp n).find? (fun p=>decide (jW.getD o ⟨#[]⟩=p.1))with|some p=>p.2|none=>0)=if rk o=n then 9+(o:Int)else 0:=by decide +kernel
 exact key n (by omega) o ho
def Stop(n:Nat)(ts:List ai):Prop:=∀m,n≤m→m≤3→fC m ts=0
def zl(p:Nat)(l:List Int):Option (List ai):=fq l.length p l
theorem acT(p:Nat):zl p []=some [ai.zero.goto p]:=by unfold zl fq;rfl
theorem acU (p:Nat)(x:Int)(l:List Int)(t:ai)(n:Nat)(hx:x≠32)(h:fD (x :: l)=some (t,n)):zl p (x :: l)=(zl (p+n) ((x :: l).drop n)).map (t.goto p :: ·):=by
 have hn:=rP _ _ _ h;unfold zl;rw[aX,sK,ag hx,h];simp only;rw[GZ _ ((x :: l).drop n).length _ _ (by rw[lG];simp only[aX];omega) (aj _)]
theorem acS (p:Nat)(a b:List Int)(t:ai)(ha:∀x,a.head? = some x→x≠32)(h:fD (a++b)=some (t,a.length)):zl p (a++b)=(zl (p+a.length) b).map (t.goto p :: ·):=by
 cases a with
 | nil=>have:=(rP _ _ _ h).1;simp at this
 | cons x a =>
   rw[dx]at h ⊢;rw[acU p x (a++b) t _ (ha x rfl) h];congr 2;rw[← dx,List.drop_left]
theorem ah7 (v:Nat)(hv:v≤9223372036854775807)(b:List Int)(hb:∀x,b.head? = some x→isNum x=false):fD (aV v++b)=some ({ ai.zero with kind:=1,num:=(v:Int) },(aV v).length):=by
 cases hd:aV v with
 | nil=>exact absurd hd (tY v)
 | cons x l =>
   have aT:=rq v;rw[hd]at aT;have hx:=aT x (by simp);rw[dx,rO,ah hx, ← dx];unfold lv;rw[vP isNum (x :: l) b aT hb];have hval:dB (x :: l)=v:=by rw[← hd];exact IZ v
   rw[hval]
   have hno:¬ ((1<(x :: l).length∧(x :: l++b).head? = some 48)∨9223372036854775807<(v:Int)):=by
    rintro(⟨h1,h2⟩|h)
    · by_cases h10:v<10
      · rw[mr v h10]at hd
        injection hd with _ hl;rw[← hl]at h1;simp at h1
      · have:=Zx (v+1) v (by omega) (by omega)
        rw[hd]at this;exact this h2
    · omega
   rw[ag hno]
def rD(o:Nat):List Int:=[[61],[60,62],[60],[60,61],[62],[62,61],[38],[43],[45],[42],[47]].getD o []
def iC(s:ByteArray)(t:ai):Prop:=t.kind=5∧t.text=s
theorem iC.sign (h:iC s t)(u:ByteArray)(ts:List ai):ax u (t :: ts)=decide (s=u):=by
 unfold ax;simp only[h.1,h.2,decide_true,gL]
inductive mJ:List ai→Nd→Prop
 | num (t:ai)(h:t.kind=1):mJ [t] { Nd.zero with kind:=1,num:=t.num }
 | text (t:ai)(h:t.kind=2):mJ [t] { Nd.zero with kind:=2,text:=t.text }
 | yes (t:ai)(h:t.kind=3)(g:t.text=⟨#[84,82,85,69]⟩):mJ [t] { Nd.zero with kind:=3,num:=1 }
 | no (t:ai)(h:t.kind=3)(g:t.text=⟨#[70,65,76,83,69]⟩):mJ [t] { Nd.zero with kind:=3 }
 | dead (t:ai)(h:t.kind=6):mJ [t] { Nd.zero with kind:=4 }
 | ref (t:ai)(h:t.kind=4):mJ [t] { Nd.zero with kind:=5,ref:=t.bR }
 | range (t c u:ai)(h:t.kind=4)(hc:iC ⟨#[58]⟩ c)(g:u.kind=4)(hs:fu t.bR u.bR=true):mJ [t,c,u] { Nd.zero with kind:=6,ref:=t.bR,af:=u.bR }
def Wr (n rk d:Nat)(ts:List ai)(d':Nat)(ts':List ai):Prop :=
 (n≤rk∧ts'=ts∧d'=d)∨(rk<n∧d'=d+1∧∃l r,iC ⟨#[40]⟩ l∧iC ⟨#[41]⟩ r∧ts'=l :: (ts++[r]))
inductive Sh:Bool→Nat→List Nd→List Int→List ai→Nat→Nat→Prop
 | leaf (base:Nat)(ts:List ai)(nd:Nd)(h:mJ ts nd):Sh false base [nd] [(base:Int)] ts 5 0
 | neg (base:Nat)(ns:List Nd)(a:Int)(ts:List ai)(rk d:Nat)(h:Sh false base ns [a] ts rk d)(m:ai)(hm:iC ⟨#[45]⟩ m)(d':Nat)(ts':List ai)(hw:Wr 4 rk d ts d' ts') :
    Sh false base (ns++[{ Nd.zero with kind:=8,kids:=[a] }]) [((base+ns.length:Nat):Int)] (m :: ts') 4 (d'+1)
 | op (base o:Nat)(ho:o<11)(ns ms:List Nd)(a b:Int)(ts us:List ai)(oo lZ d1 d2:Nat)(h:Sh false base ns [a] ts oo d1)(g:Sh false (base+ns.length) ms [b] us lZ d2)
    (s:ai) (hs:iC (jW.getD o ⟨#[]⟩) s) (e1 e2:Nat) (ts' iT:List ai) (hw:Wr (rk o) oo d1 ts e1 ts') (gw:Wr (rk o+1) lZ d2 us e2 iT) :
    Sh false base (ns++(ms++[{ Nd.zero with kind:=9+(o:Int),kids:=[a,b] }])) [((base+(ns.length+ms.length):Nat):Int)] (ts'++s :: iT) (rk o) (max e1 e2)
 | call (base:Nat)(ns:List Nd)(ks:List Int)(ts:List ai)(d:Nat)(h:Sh true base ns ks ts 0 d)(t l r:ai)(ht:t.kind=3)(h1:t.text≠⟨#[84,82,85,69]⟩)(h2:t.text≠⟨#[70,65,76,83,69]⟩)(hl:iC ⟨#[40]⟩ l)(hr:iC ⟨#[41]⟩ r) :
    Sh false base (ns++[{ Nd.zero with kind:=7,text:=t.text,kids:=ks }]) [((base+ns.length:Nat):Int)] (t :: l :: (ts++[r])) 5 (d+1)
 | none (base:Nat):Sh true base [] [] [] 0 0
 | one (base:Nat)(ns:List Nd)(a:Int)(ts:List ai)(rk d:Nat)(h:Sh false base ns [a] ts rk d):Sh true base ns [a] ts 0 d
 | and (base:Nat)(ns ms:List Nd)(ks:List Int)(b:Int)(ts us:List ai)(rk d1 d2:Nat)(h:Sh true base ns ks ts 0 d1)(hk:ks≠[])(c:ai)(hc:iC ⟨#[44]⟩ c)(g:Sh false (base+ns.length) ms [b] us rk d2) :
    Sh true base (ns++ms) (ks++[b]) (ts++c :: us) 0 (max d1 d2)
def At (n deep base:Nat)(ts:List ai)(ns:List Nd)(a:Nat)(r:List ai):Prop :=
 if n≤4 then ∃f,eU f n deep base ts=some (.ok (ns,a,r))else ∃f,jB f deep base ts=some (.ok (ns,a,r))
def Goes (n deep base:Nat)(ts:List ai)(ns:List Nd)(a:Nat)(r:List ai):Prop :=
 ∃vJ a1 r1,At (n+1) deep base ts vJ a1 r1∧∀f y,iJ f n deep base ns a r=some y→∃g,iJ g n deep base vJ a1 r1=some y
theorem af6 (h:fC n r=0):iJ 1 n deep base ns a r=some (.ok (ns,a,r)):=by
 rw[qB,ah h]
theorem Goes.at (hn:n≤3)(h:Goes n deep base ts ns a r)(hs:Stop n r):At n deep base ts ns a r:=by
 obtain⟨vJ,a1,r1,h1,h2⟩:=h;obtain⟨g,hg⟩:=h2 1 _ (af6 (hs n (aj _) hn));unfold At at h1 ⊢;rw[ah (by omega)]at h1 ⊢;obtain⟨f,hf⟩:=h1;refine⟨max f g+1, ?_⟩;rw[lQ,ah hn,xK (Nat.le_max_left f g) hf];exact ET (Nat.le_max_right f g) hg
theorem At.goes(h:At (n+1) deep base ts ns a r):Goes n deep base ts ns a r:=⟨ns,a,r,h,fun f _ hy=>⟨f,hy⟩⟩
theorem At.four (h:At 5 deep base ts ns a r)(hm:ax ⟨#[45]⟩ ts=false):At 4 deep base ts ns a r:=by
 unfold At at h ⊢;rw[ag (by omega)]at h;rw[ah (by omega)];obtain⟨f,hf⟩:=h;refine⟨f+1, ?_⟩;rw[lQ,ag (by omega),hm,ag (by simp)];exact hf
theorem At.down (n:Nat):∀(k:Nat),n+k≤5→At (n+k) deep base ts ns a r→Stop n r→(n+k=5→ax ⟨#[45]⟩ ts=false)→At n deep base ts ns a r
 | 0,_,h,_,_=>h
 | k + 1,hk,h,hs,hm=>by
   have h1:At (n+k) deep base ts ns a r:=by
    by_cases c:n+(k+1)=5
    · rw[c]at h
      have:=h.four (hm c);rwa[show n+k=4 by omega]
    · exact Goes.at (by omega) (At.goes h) (fun m h1 h2=>hs m (by omega) h2)
   exact At.down n k (by omega) h1 hs (fun h=>by omega)
structure mo (base:Nat)(ns:List Nd)(a:Nat)(ts:List ai)(rk d:Nat):Prop where
 le:rk≤5
 close:∀rest,ax ⟨#[41]⟩ (ts++rest)=false
 minus:rk=5→∀rest,ax ⟨#[45]⟩ (ts++rest)=false
 high:∀deep rest,deep+d≤12→ax ⟨#[58]⟩ rest=false→4≤rk→At rk deep base (ts++rest) ns a rest
 low:∀deep rest,deep+d≤12→ax ⟨#[58]⟩ rest=false→rk≤3→Stop (rk+1) rest→Goes rk deep base (ts++rest) ns a rest
theorem Stop.more{m:Nat}(h:Stop n r)(hm:n≤m):Stop m r:=fun k h1 h2=>h k (by omega) h2
theorem mo.at {rk:Nat}(h:mo base ns a ts rk d)(n deep:Nat)(rest:List ai)(hn:n≤rk)(hd:deep+d≤12)(hc:ax ⟨#[58]⟩ rest=false)(hs:Stop n rest) :
 At n deep base (ts++rest) ns a rest:=by
 have hle:=h.le
 have h1:At rk deep base (ts++rest) ns a rest:=by
  by_cases c:4≤rk
  · exact h.high deep rest hd hc c
  · exact Goes.at (by omega) (h.low deep rest hd hc (by omega) (hs.more (by omega))) (hs.more hn)
 refine At.down n (rk - n) (by omega) ?_ hs (fun e=>h.minus (by omega) rest);rwa[show n+(rk - n)=rk by omega]
theorem CV (h:iC s t)(ts:List ai)(hs:(List.range 4).all (fun n=>(gp n).all fun p=>decide (s≠p.1))=true)(n:Nat):Stop n (t :: ts):=by
 intro m _ hm;unfold fC
 have hf:(gp m).find? (fun p=>ax p.1 (t :: ts))=none:=by
  rw[List.find?_eq_none];intro p hp;rw[h.sign p.1 ts];have:=List.all_eq_true.1 hs m (by simp;omega);have:=List.all_eq_true.1 this p hp
  simpa using this
 rw[hf]
theorem mo.brk {rk:Nat}(h:mo base ns a ts rk d){l r:ai}(hl:iC ⟨#[40]⟩ l)(hr:iC ⟨#[41]⟩ r):mo base ns a (l :: (ts++[r])) 5 (d+1):=by
 refine⟨aj _,fun rest => ?_,fun _ rest => ?_,fun deep rest hd hc _ => ?_,fun deep rest _ _ h=>by omega⟩
 · rw[dx,hl.sign];decide
 · rw[dx,hl.sign];decide
 · have h1:=h.at 0 (deep+1) (r :: rest) (by omega) (by omega) (by rw[hr.sign];decide) (CV hr rest (by decide) 0)
   unfold At at h1 ⊢;rw[ah (by omega)]at h1;rw[ag (by omega)];obtain⟨f,hf⟩:=h1;refine⟨f+1, ?_⟩;rw[dx,lX,hl.sign,ah (by decide),ag (by omega),bN,pU,hf];show(if ax ⟨#[41]⟩ (r :: rest)=true then _ else _)=_;rw[hr.sign,ah (by decide)];rfl
theorem mo.wr {rk:Nat}(h:mo base ns a ts rk d)(hw:Wr n rk d ts d' ts')(hn:n≤5):∃om,n≤om∧mo base ns a ts' om d':=by
 rcases hw with ⟨h1,rfl,rfl⟩|⟨h1,rfl,l,r,hl,hr,rfl⟩
 · exact⟨rk,h1,h⟩
 · exact⟨5,hn,h.brk hl hr⟩
theorem mo.goes {rk:Nat}(h:mo base ns a ts rk d)(n deep:Nat)(rest:List ai)(hn:n≤rk)(Gw:n≤3)(hd:deep+d≤12)(hc:ax ⟨#[58]⟩ rest=false)(hs:Stop (n+1) rest) :
 Goes n deep base (ts++rest) ns a rest:=by
 by_cases c:n=rk
 · subst c;exact h.low deep rest hd hc Gw hs
 · exact(h.at (n+1) deep rest (by omega) hd hc hs).goes
theorem PE (h:mJ ts nd):mo base [nd] base ts 5 0:=by
 have key:(∀rest,ax ⟨#[41]⟩ (ts++rest)=false)∧(∀rest,ax ⟨#[45]⟩ (ts++rest)=false)∧∀deep rest,ax ⟨#[58]⟩ rest=false→jB 1 deep base (ts++rest)=some (.ok ([nd],base,rest)):=by
  have hs:∀(t:ai)(s:ByteArray)(us:List ai),t.kind≠5→ax s (t :: us)=false:=by
   intro t s us ht;unfold ax;simp only[aS ht,Bool.false_and]
  cases h with
  | num t h =>
    refine⟨fun rest=>hs _ _ _ (by omega),fun rest=>hs _ _ _ (by omega),fun deep rest hc => ?_⟩;rw[pU,lX,hs _ _ _ (by omega),ag (by simp),ah h]
  | text t h =>
    refine⟨fun rest=>hs _ _ _ (by omega),fun rest=>hs _ _ _ (by omega),fun deep rest hc => ?_⟩;rw[pU,lX,hs _ _ _ (by omega),ag (by simp),ag (by omega),ah h]
  | yes t h g =>
    refine⟨fun rest=>hs _ _ _ (by omega),fun rest=>hs _ _ _ (by omega),fun deep rest hc => ?_⟩;rw[pU,lX,hs _ _ _ (by omega),ag (by simp),ag (by omega),ag (by omega),ag (by omega),ag (by omega),ah h,ah g]
  | no t h g =>
    refine⟨fun rest=>hs _ _ _ (by omega),fun rest=>hs _ _ _ (by omega),fun deep rest hc => ?_⟩;rw[pU,lX,hs _ _ _ (by omega),ag (by simp),ag (by omega),ag (by omega),ag (by omega),ag (by omega),ah h,ag (by rw[g];decide),ah g]
  | dead t h =>
    refine⟨fun rest=>hs _ _ _ (by omega),fun rest=>hs _ _ _ (by omega),fun deep rest hc => ?_⟩;rw[pU,lX,hs _ _ _ (by omega),ag (by simp),ag (by omega),ag (by omega),ah h]
  | ref t h =>
    refine⟨fun rest=>hs _ _ _ (by omega),fun rest=>hs _ _ _ (by omega),fun deep rest hc => ?_⟩;rw[pU,lX,hs _ _ _ (by omega),ag (by simp),ag (by omega),ag (by omega),ag (by omega),ah h];unfold jJ;rw[hc,ag (by simp)]
  | range t c u h hc g hsp =>
    refine⟨fun rest=>hs _ _ _ (by omega),fun rest=>hs _ _ _ (by omega),fun deep rest _ => ?_⟩;show jB 1 deep base (t :: c :: u :: rest)=_;rw[lX,hs _ _ _ (by omega),ag (by simp),ag (by omega),ag (by omega),ag (by omega),ah h];unfold jJ;rw[hc.sign,ah (by decide)];show some (if u.kind=4∧fu t.bR u.bR=true then _ else _)=_;rw[ah ⟨g,hsp⟩]
 refine⟨aj _,key.1,fun _=>key.2.1,fun deep rest _ hc _ => ?_,fun deep rest _ _ h=>by omega⟩;unfold At;rw[ag (by omega)];exact⟨1,key.2.2 deep rest hc⟩
theorem VE(r:List ai):Stop 4 r:=fun m h1 h2=>by omega
theorem PG {rk:Nat}(h:mo base ns a ts rk d){m:ai}(hm:iC ⟨#[45]⟩ m)(h4:4≤rk) :
 mo base (ns++[{ Nd.zero with kind:=8,kids:=[(a:Int)] }]) (base+ns.length) (m :: ts) 4 (d+1):=by
 refine⟨by omega,fun rest=>by rw[dx,hm.sign];decide,fun h=>by omega,fun deep rest hd hc _ => ?_,fun deep rest _ _ h=>by omega⟩;have h1:=h.at 4 (deep+1) rest h4 (by omega) hc (VE _);unfold At at h1 ⊢;rw[ah (by omega)]at h1 ⊢;obtain⟨f,hf⟩:=h1;refine⟨f+1, ?_⟩;rw[dx,lQ,ag (by omega),hm.sign,ah (by decide),ag (by omega),List.tail_cons,hf];rfl
theorem TW:∀o:Nat,o<11→jW.getD o ⟨#[]⟩≠⟨#[58]⟩:=by decide +kernel
theorem Nv {o:Nat}(ho:o<11){s:ai}(hs:iC (jW.getD o ⟨#[]⟩) s)(ts:List ai):Stop (rk o+1) (s :: ts):=by
 intro m h1 h2;rw[Mx s ts o ho hs.1 hs.2 m h2,ag (by omega)]
theorem PI {o:Nat}(ho:o<11){us:List ai}{oo lZ d1 d2:Nat}(h:mo base ns a ts oo d1)(g:mo (base+ns.length) ms b us lZ d2){s:ai}(hs:iC (jW.getD o ⟨#[]⟩) s)
 (h1:rk o≤oo) (h2:rk o+1≤lZ) :
 mo base (ns++(ms++[{ Nd.zero with kind:=9+(o:Int),kids:=[(a:Int),(b:Int)] }])) (base+(ns.length+ms.length)) (ts++s :: us) (rk o) (max d1 d2):=by
 have hr:=M9 o;refine⟨by omega,fun rest=>by rw[bN];exact h.close _,fun e=>by omega,fun deep rest _ _ e=>by omega,fun deep rest hd hc _ hst => ?_⟩;obtain⟨vJ,a1,r1,k1,k2⟩:=h.goes (rk o) deep (s :: (us++rest)) h1 hr (by omega) (by rw[hs.sign];exact aS (TW o ho)) (Nv ho hs _);have k3:=g.at (rk o+1) deep rest h2 (by omega) hc hst;unfold At at k3;rw[ah (by omega)]at k3;obtain⟨f,hf⟩:=k3;refine⟨vJ,a1,r1,by rw[bN];exact k1,fun f' y hy => ?_⟩;refine k2 (max f f'+1) y ?_;rw[qB,Mx s _ o ho hs.1 hs.2 _ hr,ah rfl,ag (by omega),List.tail_cons,xK (Nat.le_max_left f f') hf];exact ET (Nat.le_max_right f f') hy
def BH (base:Nat)(ns:List Nd)(ks:List Int)(ts:List ai)(d:Nat):Prop :=
 (ks=[]∧ns=[]∧ts=[]∧d=0)∨(ks≠[]∧(∀rest,ax ⟨#[41]⟩ (ts++rest)=false)∧∀deep rest,deep+d≤12→ax ⟨#[58]⟩ rest=false→Stop 0 rest →
   ∀f y,(if ax ⟨#[44]⟩ rest=true then ib f deep base ns ks rest.tail else some (.ok (ns,ks,rest)))=some y→∃g,ib g deep base [] [] (ts++rest)=some y)
theorem PH {rk:Nat}(h:mo base ns a ts rk d):BH base ns [(a:Int)] ts d:=by
 refine .inr ⟨by simp,h.close,fun deep rest hd hc hs f y hy => ?_⟩;have h1:=h.at 0 deep rest (by omega) hd hc hs;unfold At at h1;rw[ah (by omega)]at h1;obtain⟨g,hg⟩:=h1;refine⟨max f g+1, ?_⟩;rw[o8,dV,Nat.add_zero,xK (Nat.le_max_right f g) hg];show(if ax ⟨#[44]⟩ rest=true then ib (max f g) deep base ns [(a:Int)] rest.tail else some (.ok (ns,[(a:Int)],rest)))=some y;by_cases c:ax ⟨#[44]⟩ rest=true
 · rw[ah c]at hy ⊢;exact F8 (Nat.le_max_left f g) hy
 · rw[ag c]at hy ⊢;exact hy
theorem Pz {us:List ai}{rk d1 d2:Nat}(h:BH base ns ks ts d1)(hk:ks≠[]){c:ai}(hc:iC ⟨#[44]⟩ c)(g:mo (base+ns.length) ms b us rk d2) :
 BH base (ns++ms) (ks++[(b:Int)]) (ts++c :: us) (max d1 d2):=by
 rcases h with ⟨h,_⟩|⟨_,h1,h2⟩
 · exact absurd h hk
 · refine .inr ⟨by simp,fun rest=>by rw[bN];exact h1 _,fun deep rest hd za hs f y hy => ?_⟩
   have k1:=g.at 0 deep rest (by omega) (by omega) za hs;unfold At at k1;rw[ah (by omega)]at k1;obtain⟨g',hg⟩:=k1
   obtain ⟨q,hq⟩:=h2 deep (c :: (us++rest)) (by omega) (by rw[hc.sign];decide) (CV hc _ (by decide) 0) (max f g'+1) y (by
    rw[hc.sign,ah (by decide),List.tail_cons,o8,xK (Nat.le_max_right f g') hg];show(if ax ⟨#[44]⟩ rest=true then ib (max f g') deep base (ns++ms) (ks++[(b:Int)]) rest.tail else some (.ok (ns++ms,ks++[(b:Int)],rest)))=some y;by_cases e:ax ⟨#[44]⟩ rest=true
    · rw[ah e]at hy ⊢;exact F8 (Nat.le_max_left f g') hy
    · rw[ag e]at hy ⊢;exact hy)
   exact⟨q,by rw[bN];exact hq⟩
theorem PD (h:BH base ns ks ts d){l r:ai}(ht:t.kind=3)(h1:t.text≠⟨#[84,82,85,69]⟩)(h2:t.text≠⟨#[70,65,76,83,69]⟩)(hl:iC ⟨#[40]⟩ l)(hr:iC ⟨#[41]⟩ r) :
 mo base (ns++[{ Nd.zero with kind:=7,text:=t.text,kids:=ks }]) (base+ns.length) (t :: l :: (ts++[r])) 5 (d+1):=by
 have hs:∀(s:ByteArray)(us:List ai),ax s (t :: us)=false:=by
  intro s us;unfold ax;simp only[ht];rfl
 refine⟨aj _,fun rest=>hs _ _,fun _ rest=>hs _ _,fun deep rest hd hc _ => ?_,fun deep rest _ _ h=>by omega⟩
 have key:∃f,(if ax ⟨#[41]⟩ (ts++r :: rest)=true then some (.ok ([],[],ts++r :: rest))else ib f (deep+1) base [] [] (ts++r :: rest))=some (.ok (ns,ks,r :: rest)):=by
  rcases h with ⟨rfl,rfl,rfl,_⟩|⟨_,g1,g2⟩
  · refine⟨0, ?_⟩
    rw[iy,hr.sign,ah (by decide)]
  · obtain⟨f,hf⟩:=g2 (deep+1) (r :: rest) (by omega) (by rw[hr.sign];decide) (CV hr rest (by decide) 0) 0 (.ok (ns,ks,r :: rest)) (by rw[hr.sign,ag (by decide)])
    refine⟨f, ?_⟩;rw[g1,ag (by simp)];exact hf
 obtain⟨f,hf⟩:=key;unfold At;rw[ag (by omega)];refine⟨f+1, ?_⟩;rw[dx,dx,bN,pU,lX,hs,ag (by simp),ag (by omega),ag (by omega),ag (by omega),ag (by omega),ah ht,ag h1,ag h2,hl.sign,ah (by decide),ag (by omega),List.tail_cons,hf];show(if ax ⟨#[41]⟩ (r :: rest)=true then _ else _)=_;rw[hr.sign,ah (by decide)];rfl
theorem agJ {b:Bool}{rk:Nat}(h:Sh b base ns ks ts rk d) :
 (b=false→∃a:Nat,ks=[(a:Int)]∧mo base ns a ts rk d)∧(b=true→BH base ns ks ts d):=by
 induction h with
 | leaf base ts nd h=>exact⟨fun _=>⟨base,rfl,PE h⟩,fun h=>by cases h⟩
 | neg base ns a ts rk d h m hm d' ts' hw ih =>
   refine⟨fun _ => ?_,fun h=>by cases h⟩;obtain⟨a',e,hb⟩:=ih.1 rfl;obtain rfl:a=(a':Int):=by simpa using e
   obtain⟨om,h1,hb'⟩:=hb.wr hw (by omega);exact⟨_,rfl,PG hb' hm h1⟩
 | op base o ho ns ms a b ts us oo lZ d1 d2 h g s hs e1 e2 ts' iT hw gw ih jl =>
   refine⟨fun _ => ?_,fun h=>by cases h⟩;have hr:=M9 o;obtain⟨a',e,hb⟩:=ih.1 rfl;obtain rfl:a=(a':Int):=by simpa using e
   obtain⟨b',e',gb⟩:=jl.1 rfl;obtain rfl:b=(b':Int):=by simpa using e'
   obtain⟨r1,h1,hb'⟩:=hb.wr hw (by omega);obtain⟨r2,h2,Gn⟩:=gb.wr gw (by omega);exact⟨_,rfl,PI ho hb' Gn hs h1 h2⟩
 | call base ns ks ts d h t l r ht h1 h2 hl hr ih=>exact⟨fun _=>⟨_,rfl,PD (ih.2 rfl) ht h1 h2 hl hr⟩,fun h=>by cases h⟩
 | none base=>exact⟨fun h=>(by cases h),fun _ => .inl ⟨rfl,rfl,rfl,rfl⟩⟩
 | one base ns a ts rk d h ih =>
   refine⟨fun h=>(by cases h),fun _ => ?_⟩;obtain⟨a',e,hb⟩:=ih.1 rfl;obtain rfl:a=(a':Int):=by simpa using e
   exact PH hb
 | and base ns ms ks b ts us rk d1 d2 h hk c hc g ih jl =>
   refine⟨fun h=>(by cases h),fun _ => ?_⟩;obtain⟨b',e,gb⟩:=jl.1 rfl;obtain rfl:b=(b':Int):=by simpa using e
   exact Pz (ih.2 rfl) hk hc gb
theorem agS {a:Int}{rk:Nat}(h:Sh false 0 ns [a] ts rk d)(hd:d≤12)(e:ai)(he:e.kind=0):∃f,lW f (ts++[e])=some (.ok ns):=by
 obtain⟨a',_,hb⟩:=(agJ h).1 rfl;have hsg:∀s:ByteArray,ax s [e]=false:=by intro s;unfold ax;simp only[he];rfl
 have h1:=hb.at 0 0 [e] (by omega) (by omega) (hsg _) (by
  intro m _ _;unfold fC
  have hf:(gp m).find? (fun p=>ax p.1 [e])=none:=by
   rw[List.find?_eq_none];intro p _;rw[hsg];simp
  rw[hf])
 unfold At at h1;rw[ah (by omega)]at h1;obtain⟨f,hf⟩:=h1;refine⟨f, ?_⟩;unfold lW;rw[hf];show(if uo [e]=0 then _ else _)=_;rw[ah (show uo [e]=0 from he)]
theorem zI (h:ax s ts=true):∃t,ts=t :: ts.tail∧iC s t:=by
 cases ts with
 | nil=>simp[ax]at h
 | cons t ts =>
   unfold ax at h;rw[dH,aK,aK]at h;exact⟨t,rfl,h⟩
theorem aej (hn:n≤3)(h:fC n ts≠0):∃o t,o<11∧rk o=n∧ts=t :: ts.tail∧iC (jW.getD o ⟨#[]⟩) t∧fC n ts=9+(o:Int):=by
 obtain⟨p,h1,h2,h3⟩:=EH h;obtain⟨t,e,ht⟩:=zI h2;have key:∀n:Nat,n<4→(gp n).all (fun p=>(List.range 11).any fun o=>decide (rk o=n)&&(decide (p.1=jW.getD o ⟨#[]⟩)&&decide (p.2=9+(o:Int))))=true:=by decide +kernel
 have:=List.all_eq_true.1 (key n (by omega)) p h1;rw[List.any_eq_true]at this;obtain⟨o,ho,hq⟩:=this;rw[dH,dH,aK,aK,aK]at hq;refine⟨o,t,by simpa using ho,hq.1,e, ?_,by rw[h3,hq.2.2]⟩;rw[← hq.2.1];exact ht
def Has (n deep base:Nat)(ns:List Nd)(a:Nat)(pre:List ai):Prop :=
 ∃ts rk d ts' d',Sh false base ns [(a:Int)] ts rk d∧Wr n rk d ts d' ts'∧ts'.Sublist pre∧deep+d'≤12
theorem Has.less {pre:List ai}(h:Has (n+1) deep base ns a pre):Has n deep base ns a pre:=by
 obtain⟨ts,rk,d,ts',d',h1,h2,h3,h4⟩:=h;rcases h2 with ⟨g1,rfl,rfl⟩|⟨g1,rfl,l,r,hl,hr,rfl⟩
 · exact⟨_,_,_,_,_,h1,.inl ⟨by omega,rfl,rfl⟩,h3,h4⟩
 · by_cases c:n≤rk
   · refine⟨_,_,_,_,_,h1,.inl ⟨c,rfl,rfl⟩, ?_,by omega⟩
     exact((List.sublist_append_left ts [r]).trans (List.sublist_cons_self l _)).trans h3
   · exact⟨_,_,_,_,_,h1,.inr ⟨by omega,rfl,l,r,hl,hr,rfl⟩,h3,h4⟩
def X5 (deep base:Nat)(ns:List Nd)(ks:List Int)(pre:List ai):Prop :=
 (ks=[]∧ns=[])∨(ks≠[]∧∃ts d c,Sh true base ns ks ts 0 d∧iC ⟨#[44]⟩ c∧(ts++[c]).Sublist pre∧deep+d≤12)
theorem Av {pre:List ai}(h:mJ ts nd)(hp:ts.Sublist pre)(hd:deep≤12):Has 5 deep base [nd] base pre :=
 ⟨_,_,_,_,_,.leaf base ts nd h,.inl ⟨aj _,rfl,rfl⟩,hp,by omega⟩
theorem QU : ∀ f : Nat, (∀ n deep base ts ns a r, eU f n deep base ts=some (.ok (ns,a,r))→n≤4→deep≤12→∃pre,ts=pre++r∧Has n deep base ns a pre) ∧
 (∀n deep base ns a ts ns' a' r rG,iJ f n deep base ns a ts=some (.ok (ns',a',r))→n≤3→deep≤12→Has n deep base ns a rG→∃pre,ts=pre++r∧Has n deep base ns' a' (rG++pre)) ∧
 (∀deep base ts ns a r,jB f deep base ts=some (.ok (ns,a,r))→deep≤12→∃pre,ts=pre++r∧Has 5 deep base ns a pre) ∧
 (∀ deep base ns ks ts ns' ks' r rG,ib f deep base ns ks ts=some (.ok (ns',ks',r))→deep≤12→X5 deep base ns ks rG →
   ∃pre us d,ts=pre++r∧Sh true base ns' ks' us 0 d∧us.Sublist (rG++pre)∧deep+d≤12)
 | 0=>by
   refine⟨?_, ?_, ?_, ?_⟩
   · intro n deep base ts ns a r h;unfold eU at h;cases h
   · intro n deep base ns a ts ns' a' r rG h;unfold iJ at h;cases h
   · intro deep base ts ns a r h;unfold jB at h;cases h
   · intro deep base ns ks ts ns' ks' r rG h;unfold ib at h;cases h
 | f + 1 => by
   obtain⟨i1,i2,i3,i4⟩:=QU f;refine⟨?_, ?_, ?_, ?_⟩
   · intro n deep base ts ns a r h hn hd
     rw[lQ]at h;by_cases c:n≤3
     · rw [ah c]at h
       rcases eG h with ⟨e,_,h2⟩|⟨ms,b,s,h1,h2⟩
       · cases h2
       · obtain⟨p1,e1,k1⟩:=i1 _ _ _ _ _ _ _ h1 (by omega) hd
         obtain⟨p2,e2,k2⟩:=i2 _ _ _ _ _ _ _ _ _ p1 h2 c hd k1.less;exact⟨p1++p2,by rw[e1,e2,bN],k2⟩
     · rw [ag c]at h
       have vC:n=4:=by omega
       subst vC;by_cases d:ax ⟨#[45]⟩ ts=true
       · rw [ah d]at h
         by_cases d2:12≤deep
         · rw[ah d2]at h;cases h
         · rw [ag d2]at h
           obtain⟨t,et,ht⟩:=zI d;rcases eG h with ⟨e,_,h2⟩|⟨ms,b,s,h1,h2⟩
           · cases h2
           · obtain⟨p1,e1,us,om,d',iT,e',g1,g2,g3,g4⟩:=i1 _ _ _ _ _ _ _ h1 (by omega) (by omega)
             injection h2 with h2;injection h2 with h2;injection h2 with h3 h4;injection h4 with h4 h5;subst h3;subst h4;subst h5;refine⟨t :: p1,by rw[et,e1];rfl,_,_,_,_,_,.neg base ms _ us om d' g1 t ht e' iT g2,.inl ⟨aj _,rfl,rfl⟩,g3.cons_cons t,by omega⟩
       · rw[ag d]at h
         obtain⟨p,e,k⟩:=i3 _ _ _ _ _ _ h hd;exact⟨p,e,Has.less (n:=4) k⟩
   · intro n deep base ns a ts ns' a' r rG h hn hd hh
     rw[qB]at h;by_cases c:fC n ts=0
     · rw[ah c]at h
       injection h with h;injection h with h;injection h with h1 h2;injection h2 with h2 h3;subst h1;subst h2;subst h3;exact⟨[],rfl,by rw[fF];exact hh⟩
     · rw [ag c]at h
       obtain⟨o,t,ho,ug,et,ht,ZI⟩:=aej hn c;rcases eG h with ⟨e,_,h2⟩|⟨ms,b,s,h1,h2⟩
       · cases h2
       · obtain ⟨p1,e1,us,lZ,d2,iT,e2,g1,g2,g3,g4⟩:=i1 _ _ _ _ _ _ _ h1 (by omega) hd
         obtain⟨ls,oo,d1,ls',l2,k1,k2,k3,k4⟩:=hh;subst ug
         have Gx:Has (rk o) deep base (ns++(ms++[{ Nd.zero with kind:=9+(o:Int),kids:=[(a:Int),(b:Int)] }])) (base+(ns.length+ms.length)) (rG++t :: p1) :=
          ⟨_,_,_,_,_,.op base o ho ns ms _ _ ls us oo lZ d1 d2 k1 g1 t ht l2 e2 ls' iT k2 g2,.inl ⟨aj _,rfl,rfl⟩,k3.append (g3.cons_cons t),by omega⟩
         rw[ZI]at h2;obtain⟨p2,e3,k5⟩:=i2 _ _ _ _ _ _ _ _ _ _ h2 hn hd Gx;refine⟨t :: (p1++p2),by rw[et,e1,e3];simp, ?_⟩;have:rG++t :: (p1++p2)=rG++t :: p1++p2:=by simp
         rw[this];exact k5
   · intro deep base ts ns a r h hd
     cases ts with
     | nil=>rw[zz]at h;injection h with h;cases h
     | cons t ts =>
       rw[lX]at h;by_cases c1:ax ⟨#[40]⟩ (t :: ts)=true
       · rw [ah c1]at h
         obtain⟨t',et,ht⟩:=zI c1;injection et with et _;subst et;by_cases d:12≤deep
         · rw[ah d]at h;cases h
         · rw [ag d]at h
           rcases eG h with ⟨e,_,h2⟩|⟨ms,b,s,h1,h2⟩
           · cases h2
           · by_cases c2 : ax ⟨#[41]⟩ s = true
             · rw [ah c2]at h2
               injection h2 with h2;injection h2 with h2;injection h2 with h3 h4;injection h4 with h4 h5;subst h3;subst h4;subst h5;obtain⟨u,KI,hu⟩:=zI c2;obtain⟨p1,e1,us,om,d',iT,e',g1,g2,g3,g4⟩:=i1 _ _ _ _ _ _ _ h1 (by omega) (by omega);rcases g2 with ⟨_,rfl,rfl⟩|⟨g2,_⟩
               · refine ⟨t :: (p1 ++ [u]), by rw[e1];conv=>lhs;rw[KI]
                                              simp, ?_⟩
                 by_cases c3:5≤om
                 · refine⟨_,_,_,_,_,g1,.inl ⟨c3,rfl,rfl⟩, ?_,by omega⟩
                   exact(g3.trans (List.sublist_append_left _ _)).trans (List.sublist_cons_self _ _)
                 · exact⟨_,_,_,_,_,g1,.inr ⟨by omega,rfl,t,u,ht,hu,rfl⟩,(g3.append (List.Sublist.refl [u])).cons_cons t,by omega⟩
               · omega
             · rw[ag c2]at h2;injection h2 with h2;cases h2
       · rw [ag c1] at h
         by_cases c2:t.kind=1
         · rw[ah c2]at h
           injection h with h;injection h with h;injection h with h1 h2;injection h2 with h2 h3;subst h1;subst h2;subst h3;exact⟨[t],rfl,Av (.num t c2) (List.Sublist.refl _) hd⟩
         · rw [ag c2] at h
           by_cases c3:t.kind=2
           · rw[ah c3]at h
             injection h with h;injection h with h;injection h with h1 h2;injection h2 with h2 h3;subst h1;subst h2;subst h3;exact⟨[t],rfl,Av (.text t c3) (List.Sublist.refl _) hd⟩
           · rw [ag c3] at h
             by_cases c4:t.kind=6
             · rw[ah c4]at h
               injection h with h;injection h with h;injection h with h1 h2;injection h2 with h2 h3;subst h1;subst h2;subst h3;exact⟨[t],rfl,Av (.dead t c4) (List.Sublist.refl _) hd⟩
             · rw [ag c4] at h
               by_cases c5:t.kind=4
               · rw [ah c5]at h
                 injection h with h;unfold jJ at h;by_cases c6:ax ⟨#[58]⟩ ts=true
                 · rw [ah c6]at h
                   obtain⟨q,eq,hq⟩:=zI c6;cases hu:ts.tail with
                   | nil=>rw[hu]at h;cases h
                   | cons u us =>
                     rw[hu]at h;simp only at h;by_cases c7:u.kind=4∧fu t.bR u.bR=true
                     · rw[ah c7]at h
                       injection h with h;injection h with h1 h2;injection h2 with h2 h3;subst h1;subst h2;subst h3;refine⟨[t,q,u],by rw[eq,hu];rfl,Av (.range t q u c5 hq c7.1 c7.2) (List.Sublist.refl _) hd⟩
                     · rw[ag c7]at h;cases h
                 · rw[ag c6]at h
                   injection h with h;injection h with h1 h2;injection h2 with h2 h3;subst h1;subst h2;subst h3;exact⟨[t],rfl,Av (.ref t c5) (List.Sublist.refl _) hd⟩
               · rw [ag c5] at h
                 by_cases c6:t.kind=3
                 · rw [ah c6] at h
                   by_cases c7:t.text=⟨#[84,82,85,69]⟩
                   · rw[ah c7]at h
                     injection h with h;injection h with h;injection h with h1 h2;injection h2 with h2 h3;subst h1;subst h2;subst h3;exact⟨[t],rfl,Av (.yes t c6 c7) (List.Sublist.refl _) hd⟩
                   · rw [ag c7] at h
                     by_cases c8:t.text=⟨#[70,65,76,83,69]⟩
                     · rw[ah c8]at h
                       injection h with h;injection h with h;injection h with h1 h2;injection h2 with h2 h3;subst h1;subst h2;subst h3;exact⟨[t],rfl,Av (.no t c6 c8) (List.Sublist.refl _) hd⟩
                     · rw [ag c8]at h
                       by_cases c9:ax ⟨#[40]⟩ ts=true
                       · rw [ah c9]at h
                         obtain⟨l,el,hl⟩:=zI c9;by_cases d:12≤deep
                         · rw[ah d]at h;cases h
                         · rw [ag d]at h
                           rcases eG h with ⟨e,_,h2⟩|⟨ms,ks,s,h1,h2⟩
                           · cases h2
                           · by_cases c10 : ax ⟨#[41]⟩ s = true
                             · rw [ah c10]at h2
                               injection h2 with h2;injection h2 with h2;injection h2 with h3 h4;injection h4 with h4 h5;subst h3;subst h4;subst h5;obtain⟨u,KI,hu⟩:=zI c10
                               have key:∃p us d,ts.tail=p++s∧Sh true base ms ks us 0 d∧us.Sublist p∧deep+1+d≤12:=by
                                by_cases c11:ax ⟨#[41]⟩ ts.tail=true
                                · rw[ah c11]at h1
                                  injection h1 with h1;injection h1 with h1;injection h1 with h3 h4;injection h4 with h4 h5;subst h3;subst h4;subst h5;exact⟨[],[],0,rfl,.none base,List.Sublist.refl _,by omega⟩
                                · rw[ag c11]at h1
                                  obtain⟨p,us,d',g1,g2,g3,g4⟩:=i4 _ _ _ _ _ _ _ _ [] h1 (by omega) (.inl ⟨rfl,rfl⟩);exact⟨p,us,d',g1,g2,by simpa using g3,g4⟩
                               obtain⟨p,us,d',g1,g2,g3,g4⟩:=key
                               refine ⟨t :: l :: (p ++ [u]), by rw[el,g1];conv=>lhs;rw[KI]
                                                                simp, ?_⟩
                               exact⟨_,_,_,_,_,.call base ms ks us d' g2 t l u c6 c7 c8 hl hu,.inl ⟨aj _,rfl,rfl⟩,((g3.append (List.Sublist.refl [u])).cons_cons l).cons_cons t,by omega⟩
                             · rw[ag c10]at h2;injection h2 with h2;cases h2
                       · rw[ag c9]at h;injection h with h;cases h
                 · rw[ag c6]at h;injection h with h;cases h
   · intro deep base ns ks ts ns' ks' r rG h hd hh
     rw[o8]at h;rcases eG h with ⟨e,_,h2⟩|⟨ms,b,s,h1,h2⟩
     · cases h2
     · obtain ⟨p1, e1, us, om, d', iT, e', g1,g2,g3,g4⟩:=i1 _ _ _ _ _ _ _ h1 (by omega) hd
       rcases g2 with ⟨_,rfl,rfl⟩|⟨g2,_⟩
       · have key : ∃ ts d, Sh true base (ns ++ ms) (ks++[(b:Int)]) ts 0 d∧ts.Sublist (rG++p1)∧deep+d≤12:=by
          rcases hh with ⟨rfl,rfl⟩|⟨hk,us0,d0,q,k1,k2,k3,k4⟩
          · exact⟨_,_,.one base ms _ _ _ _ (by simpa using g1),g3.trans (List.sublist_append_right _ _),g4⟩
          · refine⟨_,_,.and base ns ms ks _ us0 _ _ d0 _ k1 hk q k2 g1, ?_,by omega⟩
            have:=k3.append g3
            simpa using this
         obtain⟨V4,d1,j1,j2,A9⟩:=key;by_cases c:ax ⟨#[44]⟩ s=true
         · rw[ah c]at h2
           obtain⟨q,eq,hq⟩:=zI c;obtain⟨p2,BB,d2,m1,m2,m3,m4⟩:=i4 _ _ _ _ _ _ _ _ (rG++p1++[q]) h2 hd (.inr ⟨by simp,V4,d1,q,j1,hq,j2.append (List.Sublist.refl _),A9⟩)
           refine ⟨p1 ++ q :: p2, BB, d2, by rw[e1];conv=>lhs;rw[eq,m1]
                                             simp,m2,by simpa using m3,m4⟩
         · rw[ag c]at h2
           injection h2 with h2;injection h2 with h2;injection h2 with h3 h4;injection h4 with h4 h5;subst h3;subst h4;subst h5;exact⟨p1,V4,d1,e1,j1,j2,A9⟩
       · omega
def dA (t:ai):List Int :=
 if t.kind=1 then aV t.num.toNat
 else if t.kind=2 then 34 :: (fe (sb t.text)++[34])
 else if t.kind=4 then aZ (sb t.sh) t.c t.r t.ac t.ar
 else if t.kind=6 then [35,82,69,70,33]
 else sb t.text
theorem NC(p:Int→Bool)(l:List Int):l.take (l.takeWhile p).length=l.takeWhile p:=(List.prefix_iff_eq_take.1 (List.takeWhile_prefix p)).symm
theorem Ic:∀(n:Nat)(l t:List Int)(k:Nat),l.length≤n→eT l=some (t,k)→l.take k=fe t++[34]
 | _,[],_,_,_,h=>by simp[eT]at h
 | 0,_ :: _,_,_,hn,_=>by simp at hn
 | n + 1, x :: l,t,k,hn,h=>by
   rw[uy]at h;by_cases h1:x<32
   · rw[ah h1]at h;cases h
   · rw [ag h1]at h
     by_cases h2:x≠34
     · rw [ah h2]at h
       cases hq:eT l with
       | none=>rw[hq]at h;cases h
       | some q =>
         rw[hq]at h;simp only[jo,bf,bE]at h;have g:=Ic n l q.1 q.2 (by simp at hn;omega) hq;rw[← h.1, ← h.2,List.take_succ_cons,g];have e:fe (x :: q.1)=x :: fe q.1:=by unfold fe;rw[ag h2];cases q.1 <;> rfl
         rw[e];rfl
     · rw [ag h2]at h
       have hx:x=34:=by omega
       cases l with
       | nil=>simp only[bf,bE]at h;rw[← h.1, ← h.2,hx];rfl
       | cons y m =>
         by_cases hy:y=34
         · simp only [hy,if_true]at h
           cases hq:eT m with
           | none=>rw[hq]at h;cases h
           | some q =>
             rw[hq]at h;simp only[jo,bf,bE]at h;have g:=Ic n m q.1 q.2 (by simp at hn;omega) hq;rw[← h.1, ← h.2,List.take_succ_cons,List.take_succ_cons,g,hx,hy];rfl
         · simp only[hy,if_false,bf,bE]at h
           rw[← h.1, ← h.2,hx];rfl
theorem aib (l:List Int)(t:ai)(n:Nat)(hb:Bytes l)(h:fD l=some (t,n)):l.take n=dA t∧t.goto 0=t:=by
 cases l with
 | nil=>simp[fD]at h
 | cons x l =>
   rw[rO]at h;by_cases h1:isNum x=true
   · rw [ah h1]at h
     unfold lv at h;split at h
     · cases h
     · rename_i hn
       simp only[bf,bE]at h;rw[← h.1, ← h.2,NC];refine⟨?_,rfl⟩;have aT:=uC isNum (x :: l);have mE:=IP isNum x l h1;have Gs:(x :: l).takeWhile isNum=x :: l.takeWhile isNum:=by rw[List.takeWhile_cons,ah h1]
       show(x :: l).takeWhile isNum=aV (dB ((x :: l).takeWhile isNum)).toNat;by_cases c:x=48
       · subst c
         have hl:((48 :: l).takeWhile isNum).length=1:=by
          apply Decidable.byContradiction;intro hc;exact hn (.inl ⟨by omega,rfl⟩)
         have:l.takeWhile isNum=[]:=by
          rw[Gs,aX]at hl;exact kV (by omega)
         rw[Gs,this];show [48]=aV 0;rw[mr 0 (by omega)];rfl
       · exact(KE _ _ rfl (by rw[Gs];simp) aT (by rw[Gs];simpa using c)).2.symm
   · rw [ag h1]at h
     by_cases h2:x=34
     · rw [ah h2]at h
       unfold lC at h;cases hq:eT l with
       | none=>rw[hq]at h;cases h
       | some q =>
         rw[hq]at h;simp only[jo,bf,bE]at h;obtain⟨g1,g2⟩:=CK _ l q.1 q.2 (aj _) (fun y hy=>hb y (by simp[hy])) hq;rw[← h.1, ← h.2,List.take_succ_cons,Ic _ l q.1 q.2 (aj _) hq,h2];refine⟨?_,rfl⟩;show _=34 :: (fe (sb (strOfNums q.1))++[34]);rw[jD _ g1]
     · rw [ag h2]at h
       by_cases h3:x=35
       · rw [ah h3]at h
         unfold qh at h;split at h
         · rename_i h5
           simp only[bf,bE]at h;rw[← h.1, ← h.2,h5];exact⟨rfl,rfl⟩
         · cases h
       · rw [ag h3]at h
         by_cases h4:isLet x=true∨x=36
         · rw [ah h4]at h
           unfold mZ at h;cases hq:iw (strOfNums ((x :: l).takeWhile isWord))with
           | some d =>
             rw[hq]at h;simp only[bf,bE]at h;rw[← h.1, ← h.2,NC];refine⟨?_,rfl⟩;have e:=(yn _ d hq).2.2;rw[jD _ (hb.span isWord)]at e;exact e.symm
           | none =>
             rw[hq]at h;simp only at h;by_cases hc:jI ((x :: l).takeWhile isWord)=true
             · rw[ah hc]at h
               simp only[bf,bE]at h;rw[← h.1, ← h.2,NC];exact⟨(jD _ (hb.span isWord)).symm,rfl⟩
             · rw[ag hc]at h;cases h
         · rw [ag h4]at h
           unfold oP at h;split at h
           · cases h
           · simp only[bf,bE]at h
             rw[← h.1, ← h.2];exact⟨(jD _ (fun y hy=>hb y (List.mem_of_mem_take hy))).symm,rfl⟩
def Tok(t:ai):Prop:=t.kind≠0∧fD (dA t++[32])=some (t.goto 0,(dA t).length)∧Bytes (dA t)
theorem aic (l:List Int)(t:ai)(n p:Nat)(hb:Bytes l)(h:fD l=some (t,n)):Tok (t.goto p)∧(dA (t.goto p)).length=n:=by
 obtain⟨h1,h2⟩:=aib l t n hb h;have hn:=(rP _ _ _ h).2;have e:dA (t.goto p)=dA t:=rfl;have hl:(dA t).length=n:=by rw[← h1,gX];omega
 refine⟨⟨(VR l t n p hb h).2, ?_,by rw[e, ← h1];exact fun y hy=>hb y (List.mem_of_mem_take hy)⟩,by rw[e];exact hl⟩;have h3:fD (dA t++l.drop n)=some (t,(dA t).length):=by rw[← h1,List.take_append_drop,h,h1,hl]
 have h4:=ah2 (b':=[32]) (.inr rfl) h3;rw[e,h4];show some (t,_)=some (t.goto 0,_);rw[h2]
def Bc:List ai→Nat
 | []=>0
 | t :: ts=>(dA t).length+Bc ts
theorem GY(t:ai)(ts:List ai):Bc (t :: ts)=(dA t).length+Bc ts:=rfl
theorem acK {a b:List ai}(h:a.Sublist b):Bc a≤Bc b:=by
 induction h with
 | slnil=>exact aj _
 | cons t _ ih=>rw[GY];omega
 | cons_cons t _ ih=>rw[GY,GY];omega
theorem LU:∀(f p:Nat)(l:List Int)(ts:List ai),Bytes l→fq f p l=some ts→∃body e,ts=body++[e]∧e.kind=0∧(∀t∈body,Tok t)∧Bc body≤l.length
 | f,p,[],ts,_,h=>by
   have h0:fq f p []=some [ai.zero.goto p]:=by unfold fq;rfl
   rw[h0]at h;injection h with h;subst h;exact⟨[],_,rfl,rfl,by simp,aj _⟩
 | 0,_,_ :: _,_,_,h=>by unfold fq at h;cases h
 | f + 1, p,x :: l,ts,hb,h=>by
   have hbl:Bytes l:=fun y hy=>hb y (by simp[hy])
   rw[sK]at h;by_cases hx:x=32
   · rw[ah hx]at h
     obtain⟨body,e,h1,h2,h3,h4⟩:=LU f (p+1) l ts hbl h;exact⟨body,e,h1,h2,h3,by simp only[aX];omega⟩
   · rw [ag hx]at h
     cases hq:fD (x :: l)with
     | none=>rw[hq]at h;cases h
     | some q =>
       obtain⟨t0,n⟩:=q;have hn:=rP _ _ _ hq;rw[hq]at h;simp only[Option.map_eq_some_iff]at h;obtain⟨us,h1,rfl⟩:=h;obtain⟨body,e,k1,k2,k3,k4⟩:=LU f (p+n) _ us (fun y hy=>hb y (List.mem_of_mem_drop hy)) h1;obtain⟨g1,g2⟩:=aic (x :: l) t0 n p hb hq;refine⟨t0.goto p :: body,e,by rw[k1];rfl,k2, ?_, ?_⟩
       · intro t ht
         rcases eY.1 ht with rfl|ht
         · exact g1
         · exact k3 t ht
       · rw[GY,g2];rw[lG]at k4;omega
theorem MK:∀(l b:List Int),(∀x∈l,¬ x<32)→(∀x,b.head? = some x→x≠34)→eT (fe l++34 :: b)=some (l,(fe l).length+1)
 | [],b,_,hb=>by
   show eT (34 :: b)=_;rw[uy,ag (by omega),ag (by omega)];cases b with
   | nil=>rfl
   | cons y m =>
     have:=hb y rfl;simp only[this,if_false];rfl
 | x :: l,b,h,hb=>by
   have ih:=MK l b (fun y hy=>h y (by simp[hy])) hb;have hx:=h x (by simp);by_cases dG:x=34
   · subst dG
     show eT (34 :: 34 :: (fe l++34 :: b))=_;rw[uy,ag (by omega),ag (by omega)];simp only[if_true];rw[ih];rfl
   · have e:fe (x :: l)=x :: fe l:=by show(if x=34 then [34,34]else [x])++fe l=_;rw[ag dG];rfl
     rw[e,dx,uy,ag hx,ah dG,ih];rfl
def I7 (t:ai)(b:List Int):Prop :=
 (t.kind≠5→∀x,b.head? = some x→isWord x=false∧x≠34)∧(t.kind=5→(t.text=⟨#[60]⟩∨t.text=⟨#[62]⟩)→∀x,b.head? = some x→x≠61∧x≠62)
theorem aiO (h:isWord x=false):isNum x=false:=by
 cases c:isNum x with
 | false=>rfl
 | true=>rw[NY c]at h;cases h
theorem ah5 {a b:List Int}(xQ:Bytes a)(hq:fD (a++[32])=some (t,a.length))(hb:I7 t b):fD (a++b)=some (t,a.length):=by
 cases a with
 | nil =>
   have:=(rP _ _ _ hq).1;simp at this
 | cons x a =>
   have hsp:∀(p:Int→Bool),p 32=false→((x :: (a++[32])).takeWhile p).length=(x :: a).length→(∀y,b.head? = some y→p y=false)→(x :: (a++[32])).takeWhile p=x :: a∧(x :: (a++b)).takeWhile p=x :: a:=by
    intro p hp hl hh;obtain⟨e1,_⟩:=Vz (a:=x :: a) (b:=[32]) (b':=[32]) hp (.inr rfl) hl;refine⟨e1, ?_⟩;have aT:∀y∈x :: a,p y=true:=fun y hy=>uC p (x :: (a++[32])) y (by rw[show(x :: (a++[32])).takeWhile p=x :: a from e1];exact hy)
    exact vP p (x :: a) b aT hh
   rw[dx,rO]at hq ⊢;by_cases h1:isNum x=true
   · rw [ah h1]at hq ⊢
     unfold lv at hq;split at hq
     · cases hq
     · rename_i hn
       simp only[bf,bE]at hq;have hk:t.kind≠5:=by rw[← hq.1];simp
       obtain⟨e1,e2⟩:=hsp isNum (by decide) hq.2 (fun y hy=>aiO (hb.1 hk y hy).1);unfold lv;rw[e2];rw[e1]at hn hq;rw[ag (show ¬(1<(x :: a).length∧(x :: (a++b)).head? = some 48∨9223372036854775807<dB (x :: a))from hn)];exact congrArg (fun u=>some (u,(x :: a).length)) hq.1
   · rw [ag h1] at hq ⊢
     by_cases h2:x=34
     · rw [ah h2]at hq ⊢
       unfold lC at hq ⊢;cases hr:eT (a++[32])with
       | none=>rw[hr]at hq;cases hq
       | some q =>
         rw[hr]at hq;simp only[jo,bf,bE,aX]at hq;have hk:t.kind≠5:=by rw[← hq.1];simp
         have hb2:Bytes (a++[32]):=by
          intro y hy;rcases dK.1 hy with hy|hy
          · exact xQ y (by simp[hy])
          · simp at hy;omega
         have g1:=(CK _ _ q.1 q.2 (aj _) hb2 hr).2;have g2:=Ic _ _ q.1 q.2 (aj _) hr;have hl:q.2=a.length:=by omega
         rw[hl,List.take_left]at g2;have e:a++b=fe q.1++34 :: b:=by rw[g2];simp
         have e2:(fe q.1).length+1=a.length:=by rw[g2];simp
         rw[e,MK q.1 b g1 (fun y hy=>(hb.1 hk y hy).2)];simp only[jo,aX,bf,bE];exact⟨hq.1,by omega⟩
     · rw [ag h2]at hq ⊢
       by_cases h3:x=35
       · rw [ah h3]at hq ⊢
         unfold qh at hq ⊢;by_cases h5:(x :: (a++[32])).take 5=[35,82,69,70,33]
         · rw[ah h5]at hq
           simp only[bf,bE]at hq;have e1:(x :: (a++[32])).take 5=x :: a:=by rw[hq.2, ← dx];exact take_len _ _
           have e2:(x :: (a++b)).take 5=x :: a:=by rw[hq.2, ← dx];exact take_len _ _
           rw[e1]at h5;rw[e2,ah h5,hq.1];exact congrArg (fun k=>some (t,k)) hq.2
         · rw[ag h5]at hq;cases hq
       · rw [ag h3]at hq ⊢
         by_cases h4:isLet x=true∨x=36
         · rw [ah h4]at hq ⊢
           have hn:((x :: (a++[32])).takeWhile isWord).length=(x :: a).length∧t.kind≠5:=by
            unfold mZ at hq;split at hq
            · simp only[bf,bE]at hq;exact⟨hq.2,by rw[← hq.1];simp⟩
            · split at hq
              · simp only[bf,bE]at hq;exact⟨hq.2,by rw[← hq.1];simp⟩
              · cases hq
           obtain⟨e1,e2⟩:=hsp isWord (by decide) hn.1 (fun y hy=>(hb.1 hn.2 y hy).1);rw[← hq];unfold mZ;rw[e1,e2]
         · rw [ag h4]at hq ⊢
           unfold oP at hq ⊢;by_cases h5:lF (x :: (a++[32]))=0
           · rw[ah h5]at hq;cases hq
           · rw [ag h5]at hq
             simp only[bf,bE]at hq;have e1:(x :: (a++[32])).take (x :: a).length=x :: a:=by rw[← dx];exact take_len _ _
             have e2:(x :: (a++b)).take (x :: a).length=x :: a:=by rw[← dx];exact take_len _ _
             have e:lF (x :: (a++b))=lF (x :: (a++[32])):=by
              cases a with
              | nil =>
                have hs:lF (x :: [32])=1:=hq.2
                have ht:t.text=strOfNums [x]:=by
                 rw[← hq.1];show strOfNums (List.take (lF (x :: [32])) (x :: [32]))=_;rw[hs];rfl
                have hk:t.kind=5:=by rw[← hq.1]
                have h6:¬ ((x=60∧(b.head? = some 62∨b.head? = some 61))∨(x=62∧b.head? = some 61)):=by
                 rintro(⟨rfl,h|h⟩|⟨rfl,h⟩)
                 · exact(hb.2 hk (.inl ht) _ h).2 rfl
                 · exact(hb.2 hk (.inl ht) _ h).1 rfl
                 · exact(hb.2 hk (.inr ht) _ h).1 rfl
                show lF (x :: b)=lF (x :: [32]);have h7:¬ ((x=60∧(([32]:List Int).head? = some 62∨([32]:List Int).head? = some 61))∨(x=62∧([32]:List Int).head? = some 61)):=by simp
                rw[sP,sP,ag h6,ag h7]
              | cons y a=>rw[sP,sP];rfl
             rw[e,ag h5, ← hq.1,hq.2,e1,e2]
theorem ah8 {l:List Int}(h:fD (x :: l)=some (t,n)):x≠32∧(t.kind=5→isWord x=false∧x≠34)∧(t.kind≠5→x≠61∧x≠62):=by
 rw[rO]at h;by_cases h1:isNum x=true
 · rw [ah h1]at h
   have hx:=jA h1;unfold lv at h;split at h
   · cases h
   · simp only[bf,bE]at h
     refine⟨by omega,fun h5 => ?_,fun _=>by omega⟩;rw[← h.1]at h5;simp at h5
 · rw [ag h1]at h
   by_cases h2:x=34
   · rw [ah h2]at h
     unfold lC at h;cases hq:eT l with
     | none=>rw[hq]at h;cases h
     | some q =>
       rw[hq]at h;simp only[jo,bf,bE]at h;refine⟨by omega,fun h5 => ?_,fun _=>by omega⟩;rw[← h.1]at h5;simp at h5
   · rw [ag h2]at h
     by_cases h3:x=35
     · rw [ah h3]at h
       unfold qh at h;split at h
       · simp only[bf,bE]at h
         refine⟨by omega,fun h5 => ?_,fun _=>by omega⟩;rw[← h.1]at h5;simp at h5
       · cases h
     · rw [ag h3]at h
       by_cases h4:isLet x=true∨x=36
       · rw [ah h4]at h
         have hx:x≠32∧x≠61∧x≠62:=by
          rcases h4 with h4|h4
          · unfold isLet at h4;rw[aK]at h4;omega
          · omega
         refine⟨hx.1,fun h5 => ?_,fun _=>hx.2⟩;unfold mZ at h;split at h
         · simp only[bf,bE]at h
           rw[← h.1]at h5;simp at h5
         · split at h
           · simp only[bf,bE]at h
             rw[← h.1]at h5;simp at h5
           · cases h
       · rw [ag h4]at h
         unfold oP at h;split at h
         · cases h
         · rename_i h5
           simp only[bf,bE]at h;rw[sP]at h5
           have hx:x≠32∧x≠33:=by
            refine⟨?_, ?_⟩
            · rintro rfl;exact h5 (by rw[ag (by omega),ag (by omega)])
            · rintro rfl;exact h5 (by rw[ag (by omega),ag (by omega)])
           refine⟨hx.1,fun _=>⟨?_,h2⟩,fun h6=>absurd (show t.kind=5 by rw[← h.1]) h6⟩;unfold isWord
           have g1:isLet x=false:=by cases c:isLet x with
            | false=>rfl
            | true=>exact absurd (.inl c) h4
           have g2:isNum x=false:=by cases c:isNum x with
            | false=>rfl
            | true=>exact absurd c h1
           rw[g1,g2];simp only[Bool.false_or];exact aS (by rintro(h|h);exact h4 (.inr h);exact hx.2 h)
def Fq(t:ai):Prop:=t.kind≠5∨t.text=⟨#[40]⟩∨t.text=⟨#[45]⟩
def Pf(t:ai):Prop:=t.kind≠5∨t.text=⟨#[41]⟩
def Pr(t u:ai):Prop:=(t.kind≠5→u.kind=5)∧(t.kind=5→(t.text=⟨#[60]⟩∨t.text=⟨#[62]⟩)→Fq u)
def Sep:List ai→Prop
 | []=>True
 | t :: ts=>(∀u,ts.head? = some u→Pr t u)∧Sep ts
theorem Sep.app:∀ {a b:List ai},Sep a→Sep b→(∀t u,a.getLast? = some t→b.head? = some u→Pr t u)→Sep (a++b)
 | [],_,_,h,_=>h
 | [t],b,_,h,hj=>⟨fun u hu=>hj t u rfl hu,h⟩
 | t :: t' :: a,b,g,h,hj=>⟨fun u hu=>g.1 u hu,Sep.app (a:=t' :: a) g.2 h (fun v u hv hu=>hj v u (by rw[← hv];rfl) hu)⟩
theorem S9 {u:ai}(h:Pf t)(hu:iC s u):Pr t u:=by
 refine⟨fun _=>hu.1,fun h5 hs => ?_⟩;rcases h with h|h
 · exact absurd h5 h
 · rw[h]at hs;exact absurd hs (by decide)
theorem Np{u:ai}(ht:iC s t)(h:Fq u):Pr t u:=⟨fun h5=>absurd ht.1 h5,fun _ _=>h⟩
def jf(ts:List ai):Prop:=Sep ts∧(∃t l,ts=t :: l∧Fq t)∧∃l t,ts=l++[t]∧Pf t
theorem jf.one(h:t.kind≠5):jf [t]:=⟨⟨fun u hu=>by simp at hu,trivial⟩,⟨t,[],rfl,.inl h⟩,[],t,rfl,.inl h⟩
theorem jf.ahead {m:ai}(hm:iC s m)(hf:Fq m){a:List ai}(h:jf a):jf (m :: a):=by
 obtain⟨h1,⟨t,l,rfl,h2⟩,l',t',e,h3⟩:=h;exact⟨⟨fun u hu=>by injection hu with hu;subst hu;exact Np hm h2,h1⟩,⟨m,_,rfl,hf⟩,m :: l',t',by rw[e];rfl,h3⟩
theorem jf.mid {a b:List ai}{c:ai}(h:jf a)(hc:iC s c)(g:jf b):jf (a++c :: b):=by
 obtain⟨h1,⟨t,l,rfl,h2⟩,l',t',e,h3⟩:=h;obtain⟨g1,⟨u,m,rfl,g2⟩,m',u',e',g3⟩:=g;refine⟨?_,⟨t,_,rfl,h2⟩,(t :: l)++c :: m',u',by rw[e'];simp,g3⟩;refine Sep.app h1 ⟨fun v hv=>by injection hv with hv;subst hv;exact Np hc g2,g1⟩ ?_;intro v w hv hw;injection hw with hw;subst hw;rw[e,List.getLast?_append]at hv;simp at hv;subst hv;exact S9 h3 hc
theorem jf.brk {a:List ai}{l r:ai}(h:jf a)(hl:iC ⟨#[40]⟩ l)(hr:iC ⟨#[41]⟩ r):jf (l :: (a++[r])):=by
 obtain⟨h1,⟨t,k,rfl,h2⟩,l',t',e,h3⟩:=h;refine⟨⟨fun u hu=>by injection hu with hu;subst hu;exact Np hl h2, ?_⟩,⟨l,_,rfl,.inr (.inl hl.2)⟩,l :: (t :: k),r,rfl,.inr hr.2⟩;refine Sep.app h1 ⟨fun u hu=>by simp at hu,trivial⟩ ?_;intro v w hv hw;injection hw with hw;subst hw;rw[e,List.getLast?_append]at hv;simp at hv;subst hv;exact S9 h3 hr
theorem jf.wr {rk:Nat}(h:jf ts)(hw:Wr n rk d ts d' ts'):jf ts':=by
 rcases hw with ⟨_,rfl,_⟩|⟨_,_,l,r,hl,hr,rfl⟩
 · exact h
 · exact h.brk hl hr
theorem jf.name {a:List ai}{l r:ai}(ht:t.kind=3)(hl:iC ⟨#[40]⟩ l)(hr:iC ⟨#[41]⟩ r)(h:a=[]∨jf a):jf (t :: l :: (a++[r])):=by
 have hp:∀u,(l :: (a++[r])).head? = some u→Pr t u:=by
  intro u hu;injection hu with hu;subst hu;exact⟨fun _=>hl.1,fun h=>by omega⟩
 rcases h with rfl|h
 · exact⟨⟨hp,fun u hu=>by injection hu with hu;subst hu;exact⟨fun h=>absurd hl.1 h,fun _ h=>by rw[hl.2]at h;exact absurd h (by decide)⟩,fun u hu=>by simp at hu,trivial⟩,⟨t,_,rfl,.inl (by omega)⟩,[t,l],r,rfl,.inr hr.2⟩
 · have g:=h.brk hl hr
   exact⟨⟨hp,g.1⟩,⟨t,_,rfl,.inl (by omega)⟩,t :: l :: a,r,rfl,.inr hr.2⟩
theorem acI (h:mJ ts nd):jf ts:=by
 cases h with
 | num t h=>exact jf.one (by omega)
 | text t h=>exact jf.one (by omega)
 | yes t h _=>exact jf.one (by omega)
 | no t h _=>exact jf.one (by omega)
 | dead t h=>exact jf.one (by omega)
 | ref t h=>exact jf.one (by omega)
 | range t c u h hc g _=>exact jf.mid (a:=[t]) (b:=[u]) (jf.one (by omega)) hc (jf.one (by omega))
theorem Nh {b:Bool}{rk:Nat}(h:Sh b base ns ks ts rk d) :
 (b=false→jf ts)∧(b=true→(ks=[]∧ts=[])∨(ks≠[]∧jf ts)):=by
 induction h with
 | leaf base ts nd h=>exact⟨fun _=>acI h,fun h=>by cases h⟩
 | neg base ns a ts rk d h m hm d' ts' hw ih=>exact⟨fun _=>((ih.1 rfl).wr hw).ahead hm (.inr (.inr hm.2)),fun h=>by cases h⟩
 | op base o ho ns ms a b ts us oo lZ d1 d2 h g s hs e1 e2 ts' iT hw gw ih jl=>exact⟨fun _=>((ih.1 rfl).wr hw).mid hs ((jl.1 rfl).wr gw),fun h=>by cases h⟩
 | call base ns ks ts d h t l r ht h1 h2 hl hr ih =>
   refine⟨fun _=>jf.name ht hl hr ?_,fun h=>by cases h⟩;rcases ih.2 rfl with ⟨_,h⟩|⟨_,h⟩
   · exact .inl h
   · exact .inr h
 | none base=>exact⟨fun h=>(by cases h),fun _ => .inl ⟨rfl,rfl⟩⟩
 | one base ns a ts rk d h ih=>exact⟨fun h=>(by cases h),fun _ => .inr ⟨by simp,ih.1 rfl⟩⟩
 | and base ns ms ks b ts us rk d1 d2 h hk c hc g ih jl =>
   refine⟨fun h=>(by cases h),fun _ => .inr ⟨by simp, ?_⟩⟩;rcases ih.2 rfl with ⟨h,_⟩|⟨_,h⟩
   · exact absurd h hk
   · exact h.mid hc (jl.1 rfl)
def eO(ts:List ai):List Int:=ts.flatMap dA
theorem gG(t:ai)(ts:List ai):eO (t :: ts)=dA t++eO ts:=rfl
theorem aip (ts:List ai):(eO ts).length=Bc ts:=by
 induction ts with
 | nil=>rfl
 | cons t ts ih=>rw[gG,av,ih];rfl
theorem NI (h:Tok t):∃x l,dA t=x :: l∧x≠32∧(t.kind=5→isWord x=false∧x≠34)∧(t.kind≠5→x≠61∧x≠62):=by
 have hn:=(rP _ _ _ h.2.1).1;cases e:dA t with
 | nil=>rw[e]at hn;simp at hn
 | cons x l =>
   have h2:=h.2.1;rw[e,dx]at h2;have g:=ah8 h2;exact⟨x,l,rfl,g.1,fun h=>g.2.1 h,fun h=>g.2.2 h⟩
theorem YE (hp:∀u,ts.head? = some u→Pr t u)(hu:∀u∈ts,Tok u):I7 t (eO ts):=by
 cases ts with
 | nil=>exact⟨fun _ x hx=>by simp[eO]at hx,fun _ _ x hx=>by simp[eO]at hx⟩
 | cons u us =>
   obtain⟨x,l,e,h1,h2,h3⟩:=NI (hu u (by simp));have hpr:=hp u rfl;have hh:(eO (u :: us)).head? = some x:=by rw[gG,e];rfl
   refine⟨fun hk y hy => ?_,fun hk hs y hy => ?_⟩
   · rw[hh]at hy;injection hy with hy;subst hy;exact h2 (hpr.1 hk)
   · rw [hh]at hy;injection hy with hy;subst hy
     rcases hpr.2 hk hs with g|g|g
     · exact h3 g
     · by_cases h5:u.kind=5
       · have:dA u=[40]:=by unfold dA;simp only[h5,g];rfl
         rw[this]at e;injection e with e _;omega
       · exact h3 h5
     · by_cases h5:u.kind=5
       · have:dA u=[45]:=by unfold dA;simp only[h5,g];rfl
         rw[this]at e;injection e with e _;omega
       · exact h3 h5
theorem LY:∀(ts:List ai)(p:Nat),Sep ts→(∀t∈ts,Tok t)→∃vs e,zl p (eO ts)=some (vs++[e])∧e.kind=0∧vs.map (ai.goto · 0)=ts.map (ai.goto · 0)
 | [],p,_,_=>⟨[],_,acT p,rfl,rfl⟩
 | t :: ts,p,hs,ht=>by
   have h1:=ht t (by simp);have h2:=h1.2.2;obtain⟨vs,e,g1,g2,g3⟩:=LY ts (p+(dA t).length) hs.2 (fun u hu=>ht u (by simp[hu]));obtain⟨x,l,hx,hx2,_⟩:=NI h1;have hb:I7 t (eO ts):=YE hs.1 (fun u hu=>ht u (by simp[hu]));have hq:=ah5 (t:=t.goto 0) h2 h1.2.1 hb;refine⟨(t.goto 0).goto p :: vs,e, ?_,g2,by rw[jM,jM,g3];rfl⟩;rw[gG,acS p (dA t) (eO ts) (t.goto 0) (fun y hy=>by rw[hx]at hy;injection hy with hy;omega) hq,g1];rfl
theorem iC.goto {v:ai}(h:iC s t)(hv:v.goto 0=t.goto 0):iC s v :=
 ⟨(congrArg ai.kind hv).trans h.1,(congrArg ai.text hv).trans h.2⟩
theorem M6{v:ai}(hv:v.goto 0=t.goto 0):v.bR=t.bR:=(show(v.goto 0).bR=(t.goto 0).bR by rw[hv])
theorem mJ.goto (h:mJ ts nd)(vs:List ai)(hv:vs.map (ai.goto · 0)=ts.map (ai.goto · 0)):mJ vs nd:=by
 have one:∀t:ai,vs.map (ai.goto · 0)=[t].map (ai.goto · 0)→∃v,vs=[v]∧v.goto 0=t.goto 0:=by
  intro t h;rw[jM,List.map_nil]at h;obtain⟨v,l,h1,h2,h3⟩:=List.map_eq_cons_iff.1 h;rw[List.map_eq_nil_iff]at h3;exact⟨v,by rw[h1,h3],h2⟩
 cases h with
 | num t h =>
   obtain⟨v,rfl,e⟩:=one t hv;have:=congrArg ai.num e;rw[← show v.num=t.num from this];exact .num v ((congrArg ai.kind e).trans h)
 | text t h =>
   obtain⟨v,rfl,e⟩:=one t hv;have:=congrArg ai.text e;rw[← show v.text=t.text from this];exact .text v ((congrArg ai.kind e).trans h)
 | yes t h g =>
   obtain⟨v,rfl,e⟩:=one t hv;exact .yes v ((congrArg ai.kind e).trans h) ((congrArg ai.text e).trans g)
 | no t h g =>
   obtain⟨v,rfl,e⟩:=one t hv;exact .no v ((congrArg ai.kind e).trans h) ((congrArg ai.text e).trans g)
 | dead t h =>
   obtain⟨v,rfl,e⟩:=one t hv;exact .dead v ((congrArg ai.kind e).trans h)
 | ref t h =>
   obtain⟨v,rfl,e⟩:=one t hv;rw[← M6 e];exact .ref v ((congrArg ai.kind e).trans h)
 | range t c u h hc g hs =>
   rw[jM,jM,jM,List.map_nil]at hv;obtain⟨t',l,rfl,e1,h3⟩:=List.map_eq_cons_iff.1 hv;obtain⟨c',l,rfl,e2,h3⟩:=List.map_eq_cons_iff.1 h3;obtain⟨u',l,rfl,e3,h3⟩:=List.map_eq_cons_iff.1 h3;rw[List.map_eq_nil_iff]at h3;subst h3;rw[← M6 e1, ← M6 e3]at hs ⊢;exact .range t' c' u' ((congrArg ai.kind e1).trans h) (hc.goto e2) ((congrArg ai.kind e3).trans g) hs
theorem Wr.goto {rk:Nat}{vs':List ai}(h:Wr n rk d ts d' ts')(hv:vs'.map (ai.goto · 0)=ts'.map (ai.goto · 0)):∃vs,vs.map (ai.goto · 0)=ts.map (ai.goto · 0)∧Wr n rk d vs d' vs':=by
 rcases h with ⟨h1,rfl,rfl⟩|⟨h1,rfl,l,r,hl,hr,rfl⟩
 · exact⟨vs',hv,.inl ⟨h1,rfl,rfl⟩⟩
 · rw[jM,gP,jM,List.map_nil]at hv
   obtain⟨l',k,rfl,e1,h3⟩:=List.map_eq_cons_iff.1 hv;obtain⟨vs,k2,rfl,e2,h3⟩:=List.map_eq_append_iff.1 h3;obtain⟨r',k3,rfl,e3,h3⟩:=List.map_eq_cons_iff.1 h3;rw[List.map_eq_nil_iff]at h3;subst h3;exact⟨vs,e2,.inr ⟨h1,rfl,l',r',hl.goto e1,hr.goto e3,rfl⟩⟩
theorem Sh.goto {b:Bool}{rk:Nat}(h:Sh b base ns ks ts rk d):∀vs:List ai,vs.map (ai.goto · 0)=ts.map (ai.goto · 0)→Sh b base ns ks vs rk d:=by
 induction h with
 | leaf base ts nd h=>exact fun vs hv => .leaf base vs nd (h.goto vs hv)
 | neg base ns a ts rk d h m hm d' ts' hw ih =>
   intro vs hv;rw[jM]at hv;obtain⟨m',k,rfl,e1,h3⟩:=List.map_eq_cons_iff.1 hv;obtain⟨us,e2,hw'⟩:=hw.goto h3;exact .neg base ns a us rk d (ih us e2) m' (hm.goto e1) d' k hw'
 | op base o ho ns ms a b ts us oo lZ d1 d2 h g s hs e1 e2 ts' iT hw gw ih jl =>
   intro vs hv;rw[gP,jM]at hv;obtain⟨a',k,rfl,f1,h3⟩:=List.map_eq_append_iff.1 hv;obtain⟨s',b',rfl,f2,f3⟩:=List.map_eq_cons_iff.1 h3;obtain⟨xs,x1,hw'⟩:=hw.goto f1;obtain⟨ys,y1,gw'⟩:=gw.goto f3;exact .op base o ho ns ms a b xs ys oo lZ d1 d2 (ih xs x1) (jl ys y1) s' (hs.goto f2) e1 e2 a' b' hw' gw'
 | call base ns ks ts d h t l r ht h1 h2 hl hr ih =>
   intro vs hv;rw[jM,jM,gP,jM,List.map_nil]at hv;obtain⟨t',k,rfl,f1,h3⟩:=List.map_eq_cons_iff.1 hv;obtain⟨l',k,rfl,f2,h3⟩:=List.map_eq_cons_iff.1 h3;obtain⟨a',k,rfl,f3,h3⟩:=List.map_eq_append_iff.1 h3;obtain⟨r',k,rfl,f4,h3⟩:=List.map_eq_cons_iff.1 h3;rw[List.map_eq_nil_iff]at h3;subst h3;have ht':t'.text=t.text:=(show(t'.goto 0).text=(t.goto 0).text by rw[f1]);rw[← ht'];exact .call base ns ks a' d (ih a' f3) t' l' r' ((congrArg ai.kind f1).trans ht) (by rw[ht'];exact h1) (by rw[ht'];exact h2) (hl.goto f2) (hr.goto f4)
 | none base =>
   intro vs hv;rw[List.map_nil,List.map_eq_nil_iff]at hv;subst hv;exact .none base
 | one base ns a ts rk d h ih=>exact fun vs hv => .one base ns a vs rk d (ih vs hv)
 | and base ns ms ks b ts us rk d1 d2 h hk c hc g ih jl =>
   intro vs hv;rw[gP,jM]at hv;obtain⟨a',k,rfl,f1,h3⟩:=List.map_eq_append_iff.1 hv;obtain⟨c',b',rfl,f2,f3⟩:=List.map_eq_cons_iff.1 h3;exact .and base ns ms ks b a' b' rk d1 d2 (ih a' f1) hk c' (hc.goto f2) (jl b' f3)
theorem Ni {a:Int}{rk:Nat}(h:Sh false 0 ns [a] ts rk d)(hd:d≤12)(ht:∀t∈ts,Tok t):∃vs g,gJ (eO ts)=some vs∧lW g vs=some (.ok ns):=by
 obtain⟨vs,e,h1,h2,h3⟩:=LY ts 0 ((Nh h).1 rfl).1 ht;obtain⟨g,hg⟩:=agS (h.goto vs h3) hd e h2;exact⟨vs++[e],g,h1,hg⟩
theorem NK {l:List Int}{f:Nat}(hb:Bytes l)(hl:gJ l=some ts)(hp:lW f ts=some (.ok ns)) :
 ∃us rk d a,Sh false 0 ns [a] us rk d∧d≤12∧(∀t∈us,Tok t)∧(eO us).length≤l.length∧∃vs g,gJ (eO us)=some vs∧lW g vs=some (.ok ns):=by
 obtain⟨body,e,h1,h2,h3,h4⟩:=LU _ _ _ _ hb hl;unfold lW at hp;rcases eG hp with ⟨er,_,h5⟩|⟨ms,a,r,h5,h6⟩
 · cases h5
 · by_cases hk:uo r=0
   · rw [ah hk]at h6
     injection h6 with h6;injection h6 with h6;subst h6;obtain⟨pre,e1,us,rk,d,iT,d',g1,g2,g3,g4⟩:=(QU f).1 _ _ _ _ _ _ _ h5 (by omega) (by omega);obtain⟨aeO,e2,k2,_⟩:=((vQ f).1 _ _ _ _ _ _ _ h5).1;rcases g2 with ⟨_,rfl,rfl⟩|⟨g2,_⟩
     · have ep:pre=aeO:=List.append_cancel_right (e1.symm.trans e2)
       subst ep
       have RG:iT.Sublist body:=by
        have s1:iT.Sublist ts:=by rw[e1];exact g3.trans (List.sublist_append_left _ _)
        have s2:=s1.filter (fun t=>decide (t.kind≠0));rw[h1,List.filter_append]at s2;have f1:iT.filter (fun t=>decide (t.kind≠0))=iT:=List.filter_eq_self.2 (fun t ht=>aQ (k2 t (g3.subset ht)));have f2:body.filter (fun t=>decide (t.kind≠0))=body:=List.filter_eq_self.2 (fun t ht=>aQ (h3 t ht).1);have f3:[e].filter (fun t=>decide (t.kind≠0))=[]:=by simp[h2]
        rw[f1,f2,f3,fF]at s2;exact s2
       have GG:∀t∈iT,Tok t:=fun t ht=>h3 t (RG.subset ht)
       refine⟨iT,rk,d',_,g1,by omega,GG, ?_,Ni g1 (by omega) GG⟩;rw[aip];exact bO (acK RG) h4
     · omega
   · rw[ag hk]at h6;injection h6 with h6;cases h6
def bJ(k:Int):Nat:=if 9≤k∧k≤14 then 0 else if k=15 then 1 else if 16≤k∧k≤17 then 2 else if 18≤k∧k≤19 then 3 else if k=8 then 4 else 5
def jm(b:Bool)(t:List Int):List Int:=if b=true then 40 :: (t++[41])else t
def iY:List (List Int)→List Int
 | []=>[]
 | [a]=>a
 | a :: b :: l=>a++44 :: iY (b :: l)
def nodeAt(l:List Nd)(at':Int):Nd:=l.getD at'.toNat Nd.zero
def lD:Nat→List Nd→Int→List Int
 | 0,_,_=>[]
 | f + 1,l,i =>
   if (nodeAt l i).kind=1 then aV (nodeAt l i).num.toNat
   else if (nodeAt l i).kind=2 then 34 :: (fe (sb (nodeAt l i).text)++[34])
   else if (nodeAt l i).kind=3 then (if (nodeAt l i).num=1 then [84,82,85,69]else [70,65,76,83,69])
   else if (nodeAt l i).kind=4 then [35,82,69,70,33]
   else if (nodeAt l i).kind=5 then aZ (sb (nodeAt l i).ref.sh) (nodeAt l i).ref.c (nodeAt l i).ref.r (nodeAt l i).ref.ac (nodeAt l i).ref.ar
   else if (nodeAt l i).kind=6 then aZ (sb (nodeAt l i).ref.sh) (nodeAt l i).ref.c (nodeAt l i).ref.r (nodeAt l i).ref.ac (nodeAt l i).ref.ar++58 :: aZ (sb (nodeAt l i).af.sh) (nodeAt l i).af.c (nodeAt l i).af.r (nodeAt l i).af.ac (nodeAt l i).af.ar
   else if (nodeAt l i).kind=7 then sb (nodeAt l i).text++40 :: (iY ((nodeAt l i).kids.map (lD f l))++[41])
   else if (nodeAt l i).kind=8 then 45 :: jm (decide (bJ (nodeAt l ((nodeAt l i).kids.getD 0 0)).kind<4)) (lD f l ((nodeAt l i).kids.getD 0 0))
   else jm (decide (bJ (nodeAt l ((nodeAt l i).kids.getD 0 0)).kind<bJ (nodeAt l i).kind)) (lD f l ((nodeAt l i).kids.getD 0 0)) ++
    (rD ((nodeAt l i).kind - 9).toNat++jm (decide (bJ (nodeAt l ((nodeAt l i).kids.getD 1 0)).kind≤bJ (nodeAt l i).kind)) (lD f l ((nodeAt l i).kids.getD 1 0)))
def cz(l:List Nd):List Int:=if cO l=true then lD l.length l ((l.length:Int) - 1)else []
theorem LH (y:List Int):∀xs:List (List Int),xs≠[]→iY (xs++[y])=iY xs++44 :: y
 | [],h=>absurd rfl h
 | [x],_=>rfl
 | x :: x' :: xs,_=>by
   have ih:=LH y (x' :: xs) (by simp);show x++44 :: iY (x' :: xs++[y])=x++44 :: iY (x' :: xs)++44 :: y;rw[ih];simp
theorem Br (f:Nat)(l:List Nd)(i:Int)(n:Nd)(h:nodeAt l i=n):lD (f+1) l i =
 if n.kind=1 then aV n.num.toNat
 else if n.kind=2 then 34 :: (fe (sb n.text)++[34])
 else if n.kind=3 then (if n.num=1 then [84,82,85,69]else [70,65,76,83,69])
 else if n.kind=4 then [35,82,69,70,33]
 else if n.kind=5 then aZ (sb n.ref.sh) n.ref.c n.ref.r n.ref.ac n.ref.ar
 else if n.kind=6 then aZ (sb n.ref.sh) n.ref.c n.ref.r n.ref.ac n.ref.ar++58 :: aZ (sb n.af.sh) n.af.c n.af.r n.af.ac n.af.ar
 else if n.kind=7 then sb n.text++40 :: (iY (n.kids.map (lD f l))++[41])
 else if n.kind=8 then 45 :: jm (decide (bJ (nodeAt l (n.kids.getD 0 0)).kind<4)) (lD f l (n.kids.getD 0 0))
 else jm (decide (bJ (nodeAt l (n.kids.getD 0 0)).kind<bJ n.kind)) (lD f l (n.kids.getD 0 0)) ++
  (rD (n.kind - 9).toNat++jm (decide (bJ (nodeAt l (n.kids.getD 1 0)).kind≤bJ n.kind)) (lD f l (n.kids.getD 1 0))):=by
 subst h;conv=>lhs;unfold lD
theorem qH(a b:List ai):eO (a++b)=eO a++eO b:=by unfold eO;rw[List.flatMap_append]
theorem rQ (h:iC s t):dA t=sb s:=by
 unfold dA;rw[h.1,h.2];rfl
theorem IY {rk:Nat}(h:Wr n rk d ts d' ts'):eO ts'=jm (decide (rk<n)) (eO ts):=by
 rcases h with ⟨h,rfl,_⟩|⟨h,_,l,r,hl,hr,rfl⟩
 · rw[aS (by omega)];rfl
 · rw[aQ h,gG,qH,gG,rQ hl,rQ hr];rfl
def xD(l:List Nd)(base:Nat)(ns:List Nd):Prop:=∃pre post,l=pre++(ns++post)∧pre.length=base
theorem xD.left (h:xD l base (ns++ms)):xD l base ns:=by
 obtain⟨p,q,h1,h2⟩:=h;exact⟨p,ms++q,by rw[h1];simp,h2⟩
theorem xD.right (h:xD l base (ns++ms)):xD l (base+ns.length) ms:=by
 obtain⟨p,q,h1,h2⟩:=h;exact⟨p++ns,q,by rw[h1];simp,by rw[av,h2]⟩
theorem xD.at {n:Nd}(h:xD l base [n]):nodeAt l (base:Int)=n:=by
 obtain⟨p,q,h1,h2⟩:=h;unfold nodeAt;rw[h1,Int.toNat_natCast, ← h2];simp
theorem MB:∀o:Nat,o<11→bJ (9+(o:Int))=rk o∧sb (jW.getD o ⟨#[]⟩)=rD o:=by decide +kernel
theorem agT {b:Bool}(h:Sh b base ns ks ts nK d) :
 ∀l f,xD l base ns→ns.length≤f→(b=false→∀a,ks=[a]→lD f l a=eO ts∧bJ (nodeAt l a).kind=nK)∧(b=true→iY (ks.map (lD f l))=eO ts):=by
 induction h with
 | leaf base ts nd h =>
   intro l f hi hf;refine⟨fun _ a ha => ?_,fun h=>by cases h⟩;injection ha with ha _;subst ha;obtain⟨g,rfl⟩:∃g,f=g+1:=⟨f - 1,by simp at hf;omega⟩;have hn:=hi.at
   rw[hn];rw[Br g l _ nd hn];cases h with
   | num t h=>refine⟨?_,rfl⟩;rw[ah rfl,gG];unfold dA;rw[ah h];simp[eO]
   | text t h=>refine⟨?_,rfl⟩;rw[ag (by simp),ah rfl,gG];unfold dA;rw[h,ag (by decide),ah rfl];simp[eO]
   | yes t h g=>refine⟨?_,rfl⟩;rw[ag (by decide),ag (by decide),ah rfl,ah rfl,gG];unfold dA;rw[h,g,ag (by decide),ag (by decide),ag (by decide),ag (by decide)];rfl
   | no t h g=>refine⟨?_,rfl⟩;rw[ag (by decide),ag (by decide),ah rfl,ag (by decide),gG];unfold dA;rw[h,g,ag (by decide),ag (by decide),ag (by decide),ag (by decide)];rfl
   | dead t h=>refine⟨?_,rfl⟩;rw[ag (by decide),ag (by decide),ag (by decide),ah rfl,gG];unfold dA;rw[h,ag (by decide),ag (by decide),ag (by decide),ah rfl];rfl
   | ref t h =>
     refine⟨?_,rfl⟩;rw[ag (by simp),ag (by simp),ag (by simp),ag (by simp),ah rfl,gG];unfold dA;rw[h,ag (by decide),ag (by decide),ah rfl];simp[eO,ai.bR]
   | range t c u h hc g hs =>
     refine⟨?_,rfl⟩;rw[ag (by simp),ag (by simp),ag (by simp),ag (by simp),ag (by simp),ah rfl,gG,gG,gG,rQ hc];unfold dA;rw[h,g,ag (by decide),ag (by decide),ah rfl,ag (by decide),ag (by decide),ah rfl];have:sb (⟨#[58]⟩:ByteArray)=[58]:=by decide
     rw[this];simp[eO,ai.bR]
 | neg base ns a ts rk d h m hm d' ts' hw ih =>
   intro l f hi hf;refine⟨fun _ a' ha => ?_,fun h=>by cases h⟩;injection ha with ha _;subst ha;rw[av,fE]at hf;obtain⟨g,rfl⟩:∃g,f=g+1:=⟨f - 1,by omega⟩;obtain⟨e1,e2⟩:=(ih l g hi.left (by omega)).1 rfl a rfl;have hn:=hi.right.at
   rw[hn];refine⟨?_,rfl⟩;rw[Br g l _ _ hn,ag (by simp),ag (by simp),ag (by simp),ag (by simp),ag (by simp),ag (by simp),ag (by simp),ah rfl,gG,rQ hm,IY hw];show 45 :: jm (decide (bJ (nodeAt l a).kind<4)) (lD g l a)=_;rw[e1,e2];rfl
 | op base o ho ns ms a b ts us oo lZ d1 d2 h g s hs x1 x2 ts' iT hw gw ih jl =>
   intro l f hi hf;refine⟨fun _ a' ha => ?_,fun h=>by cases h⟩;injection ha with ha _;subst ha;rw[av,av,fE]at hf;obtain⟨q,rfl⟩:∃q,f=q+1:=⟨f - 1,by omega⟩;obtain⟨e1,e2⟩:=(ih l q hi.left (by omega)).1 rfl a rfl;obtain⟨j1,j2⟩:=(jl l q hi.right.left (by omega)).1 rfl b rfl;have hn:=hi.right.right.at
   rw[Nat.add_assoc]at hn;obtain⟨hr,ht⟩:=MB o ho;rw[hn];refine⟨?_,hr⟩
   rw [Br q l _ _ hn,ag (by show ¬ 9+(o:Int)=1;omega),ag (by show ¬ 9+(o:Int)=2;omega),ag (by show ¬ 9+(o:Int)=3;omega),ag (by show ¬ 9+(o:Int)=4;omega),ag (by show ¬ 9+(o:Int)=5;omega),
    ag (by show ¬ 9+(o:Int)=6;omega),ag (by show ¬ 9+(o:Int)=7;omega),ag (by show ¬ 9+(o:Int)=8;omega),qH,gG,rQ hs,IY hw,IY gw]
   show jm (decide (bJ (nodeAt l a).kind<bJ (9+(o:Int)))) (lD q l a)++(rD (9+(o:Int) - 9).toNat++jm (decide (bJ (nodeAt l b).kind≤bJ (9+(o:Int)))) (lD q l b))=_;rw[e1,e2,j1,j2,hr,ht,show(9+(o:Int) - 9).toNat=o by omega];have:decide (lZ≤rk o)=decide (lZ<rk o+1):=by rw[decide_eq_decide];omega
   rw[this]
 | call base ns ks ts d h t x r ht h1 h2 hl hr ih =>
   intro l f hi hf;refine⟨fun _ a' ha => ?_,fun h=>by cases h⟩;injection ha with ha _;subst ha;rw[av,fE]at hf;obtain⟨g,rfl⟩:∃g,f=g+1:=⟨f - 1,by omega⟩;have e1:=(ih l g hi.left (by omega)).2 rfl;have hn:=hi.right.at
   rw[hn];refine⟨?_,rfl⟩;rw[Br g l _ _ hn,ag (by simp),ag (by simp),ag (by simp),ag (by simp),ag (by simp),ag (by simp),ah rfl,gG,gG,qH,gG,rQ hl,rQ hr];have:dA t=sb t.text:=by unfold dA;rw[ht];rfl
   rw[this];show sb t.text++40 :: (iY (ks.map (lD g l))++[41])=_;rw[e1];rfl
 | none base=>exact fun l f _ _=>⟨fun h=>(by cases h),fun _=>rfl⟩
 | one base ns a ts rk d h ih =>
   intro l f hi hf;exact⟨fun h=>(by cases h),fun _=>((ih l f hi hf).1 rfl a rfl).1⟩
 | and base ns ms ks b ts us rk d1 d2 h hk c hc g ih jl =>
   intro l f hi hf;refine⟨fun h=>(by cases h),fun _ => ?_⟩;rw[av]at hf;have e1:=(ih l f hi.left (by omega)).2 rfl;have e2:=((jl l f hi.right (by omega)).1 rfl b rfl).1;rw[gP,jM,List.map_nil,LH _ _ (by simpa using hk),e1,e2,qH,gG,rQ hc];rfl
theorem agO {b:Bool}(h:Sh b base ns ks ts nK d):b=false→ks=[((base+ns.length:Nat):Int) - 1]:=by
 cases h with
 | leaf base ts nd h=>intro _;simp
 | neg base ns a ts rk d h m hm d' ts' hw=>intro _;simp;omega
 | op base o ho ns ms a b ts us oo lZ d1 d2 h g s hs e1 e2 ts' iT hw gw=>intro _;simp;omega
 | call base ns ks ts d h t l r ht h1 h2 hl hr=>intro _;simp;omega
 | none base=>intro h;cases h
 | one base ns a ts rk d h=>intro h;cases h
 | and base ns ms ks b ts us rk d1 d2 h hk c hc g=>intro h;cases h
theorem Bq {a:Int}(h:Sh false 0 ns [a] ts nK d)(ht:cO ns=true):cz ns=eO ts:=by
 unfold cz;rw[ah ht];have e:=agO h rfl;have:=((agT h ns ns.length ⟨[],[],by simp,rfl⟩ (aj _)).1 rfl a rfl).1;injection e with e _;rw[e,Nat.zero_add]at this;exact this
theorem aeT {l:List Int}{f:Nat}(hb:Bytes l)(hl:gJ l=some ts)(hp:lW f ts=some (.ok ns))(ht:cO ns=true) :
 (cz ns).length≤l.length∧∃vs g,gJ (cz ns)=some vs∧lW g vs=some (.ok ns):=by
 obtain⟨us,nK,d,a,h1,h2,h3,h4,h5⟩:=NK hb hl hp;rw[Bq h1 ht];exact⟨h4,h5⟩
theorem VZ:∀(ns:List Nd)(st:List Int)(i:Nat),(∀k∈st,0≤k∧k<i)→nM st i ns=true→∀(j:Nat)(n:Nd),ns[j]? = some n→dm n=true∧∀k∈n.kids,0≤k∧k<((i+j:Nat):Int)
 | [],_,_,_,_,j,n,h=>by simp at h
 | m :: ns,st,i,hst,ht,j,n,h=>by
   rw[nN,dH,dH,dH,aK,aK]at ht;obtain⟨h1,h2,h3,h4⟩:=ht;cases j with
   | zero =>
     have:m=n:=by simpa using h
     subst this;refine⟨h1,fun k hk => ?_⟩;rw[← h3]at hk;exact hst k (List.mem_of_mem_drop hk)
   | succ j =>
     have g:=VZ ns _ (i+1) (by
      intro k hk;rcases dK.1 hk with hk|hk
      · have:=hst k (List.mem_of_mem_take hk);omega
      · simp at hk;omega) h4 j n (by simpa using h)
     rw[show i+(j+1)=i+1+j by omega];exact g
theorem zM (h:cO l=true)(h0:0≤i)(h1:i<l.length):dm (nodeAt l i)=true∧∀k∈(nodeAt l i).kids,0≤k∧k<i:=by
 have hi:i.toNat<l.length:=by omega
 have hn:l[i.toNat]? = some (nodeAt l i):=by
  unfold nodeAt;rw[jL,dL hi];rfl
 have:=VZ l [] 0 (by intro k hk;simp at hk) h i.toNat _ hn;refine⟨this.1,fun k hk => ?_⟩;have:=this.2 k hk;omega
theorem qX {n:Nd}(h:dm n=true):(n.kind=8→n.kids.length=1)∧(9≤n.kind→n.kids.length=2)∧(1≤n.kind∧n.kind≤6→n.kids=[])∧1≤n.kind∧n.kind≤19∧aH n=true:=by
 unfold dm at h;rw[dH,Bool.or_eq_true,aK,aK]at h;obtain⟨h1,h2⟩:=h;unfold jQ at h2;split at h2
 · refine⟨by omega,by omega,fun _ => ?_,by omega,by omega,h1⟩
   apply kV;omega
 · split at h2
   · exact⟨by omega,by omega,by omega,by omega,by omega,h1⟩
   · split at h2
     · exact⟨by omega,by omega,by omega,by omega,by omega,h1⟩
     · split at h2
       · exact⟨by omega,by omega,by omega,by omega,by omega,h1⟩
       · omega
theorem Cu {n:Nd}{j:Nat}(h:j<n.kids.length):n.kids.getD j 0∈n.kids:=by
 rw[jL,dL h];exact List.getElem_mem h
theorem Vl (h:cO l=true):∀(m f g:Nat)(i:Int),0≤i→i<l.length→i.toNat<m→i<f→i<g→lD f l i=lD g l i
 | 0,_,_,_,_,_,hm,_,_=>by omega
 | m + 1, f,g,i,h0,h1,hm,hf,hg=>by
   obtain⟨f,rfl⟩:∃f',f=f'+1:=⟨f - 1,by omega⟩;obtain⟨g,rfl⟩:∃g',g=g'+1:=⟨g - 1,by omega⟩;obtain⟨hn,hk⟩:=zM h h0 h1
   have ih:∀k∈(nodeAt l i).kids,lD f l k=lD g l k:=fun k dM=>by
    have:=hk k dM;exact Vl h m f g k this.1 (by omega) (by omega) (by omega) (by omega)
   obtain⟨a1,a2,_,_,_,_⟩:=qX hn;rw[Br f l i _ rfl,Br g l i _ rfl];by_cases k7:(nodeAt l i).kind=7
   · have:(nodeAt l i).kids.map (lD f l)=(nodeAt l i).kids.map (lD g l):=List.map_congr_left ih
     simp only[k7,this,reduceIte,Int.reduceEq]
   · by_cases k8:(nodeAt l i).kind=8
     · have e0:=ih _ (Cu (j:=0) (by rw[a1 k8];omega))
       simp only[k8,e0,reduceIte,Int.reduceEq]
     · by_cases k9:9≤(nodeAt l i).kind
       · have e0:=ih _ (Cu (j:=0) (by rw[a2 k9];omega))
         have e1:=ih _ (Cu (j:=1) (by rw[a2 k9];omega));simp only[k7,if_false,e0,e1]
       · have:∀k:Int,k≤8→k≠7→k≠8→1≤k→k=1∨k=2∨k=3∨k=4∨k=5∨k=6:=by omega
         rcases this (nodeAt l i).kind (by omega) k7 k8 (by omega)with e|e|e|e|e|e <;> simp[e]
def bI(l:List Nd)(i:Int):List Int:=lD l.length l i
theorem vN (h:cO l=true)(h0:0≤i)(h1:i<l.length)(n:Nd)(hn:nodeAt l i=n):bI l i =
 if n.kind=1 then aV n.num.toNat
 else if n.kind=2 then 34 :: (fe (sb n.text)++[34])
 else if n.kind=3 then (if n.num=1 then [84,82,85,69]else [70,65,76,83,69])
 else if n.kind=4 then [35,82,69,70,33]
 else if n.kind=5 then aZ (sb n.ref.sh) n.ref.c n.ref.r n.ref.ac n.ref.ar
 else if n.kind=6 then aZ (sb n.ref.sh) n.ref.c n.ref.r n.ref.ac n.ref.ar++58 :: aZ (sb n.af.sh) n.af.c n.af.r n.af.ac n.af.ar
 else if n.kind=7 then sb n.text++40 :: (iY (n.kids.map (bI l))++[41])
 else if n.kind=8 then 45 :: jm (decide (bJ (nodeAt l (n.kids.getD 0 0)).kind<4)) (bI l (n.kids.getD 0 0))
 else jm (decide (bJ (nodeAt l (n.kids.getD 0 0)).kind<bJ n.kind)) (bI l (n.kids.getD 0 0)) ++
  (rD (n.kind - 9).toNat++jm (decide (bJ (nodeAt l (n.kids.getD 1 0)).kind≤bJ n.kind)) (bI l (n.kids.getD 1 0))):=by
 have:=Vl h (i.toNat+1) l.length (l.length+1) i h0 h1 (by omega) h1 (by omega);unfold bI;rw[this,Br l.length l i n hn]
structure aB where
 t:ByteArray
 node:Int
 least:Int
def aB.plain(t:ByteArray):aB:=⟨t,0,0⟩
def aB.op(node least:Int):aB:=⟨⟨#[]⟩,node,least⟩
def kS(l:List Nd)(p:aB):List Int:=if p.t=⟨#[]⟩then jm (decide ((bJ (nodeAt l p.node).kind:Int)+1<p.least)) (bI l p.node)else sb p.t
def j3(l:List Nd)(p:aB):Prop:=p.t=⟨#[]⟩→0≤p.node∧p.node<l.length
theorem CG (l:List Nd)(i m:Int):kS l (aB.op i m)=jm (decide ((bJ (nodeAt l i).kind:Int)+1<m)) (bI l i):=by
 unfold kS;rw[ah (show(aB.op i m).t=⟨#[]⟩from rfl)];rfl
theorem H7 (l:List Nd)(t:ByteArray)(h:t≠⟨#[]⟩):kS l (aB.plain t)=sb t:=by
 unfold kS;rw[ag (show ¬ (aB.plain t).t=⟨#[]⟩from h)];rfl
theorem j3.plain(l:List Nd)(t:ByteArray)(h:t≠⟨#[]⟩):j3 l (aB.plain t):=fun e=>absurd e h
theorem j3.op(h0:0≤i)(h1:i<l.length)(m:Int):j3 l (aB.op i m):=fun _=>⟨h0,h1⟩
def oJ:List Int→List aB
 | []=>[]
 | [a]=>[aB.op a 1]
 | a :: b :: ks=>aB.op a 1 :: aB.plain ⟨#[44]⟩ :: oJ (b :: ks)
theorem LC (l:List Nd)(i:Int):jm (decide ((bJ (nodeAt l i).kind:Int)+1<1)) (bI l i)=bI l i:=by
 rw[aS (by omega)];rfl
theorem Pp (l:List Nd):∀ks:List Int,(oJ ks).flatMap (kS l)=iY (ks.map (bI l))
 | []=>rfl
 | [a]=>by
   show kS l (aB.op a 1)++[]=bI l a;rw[fF,CG,LC]
 | a :: b :: ks=>by
   have ih:=Pp l (b :: ks);show kS l (aB.op a 1)++(kS l (aB.plain ⟨#[44]⟩)++(oJ (b :: ks)).flatMap (kS l))=bI l a++44 :: iY ((b :: ks).map (bI l));rw[ih,CG,LC,H7 l _ (by decide)];rfl
def eH (n:Nd):List Int × List aB :=
 if n.kind=1 then (aV n.num.toNat,[])
 else if n.kind=2 then (34 :: (fe (sb n.text)++[34]),[])
 else if n.kind=3 then ((if n.num=1 then [84,82,85,69]else [70,65,76,83,69]),[])
 else if n.kind=4 then ([35,82,69,70,33],[])
 else if n.kind=5 then (aZ (sb n.ref.sh) n.ref.c n.ref.r n.ref.ac n.ref.ar,[])
 else if n.kind=6 then (aZ (sb n.ref.sh) n.ref.c n.ref.r n.ref.ac n.ref.ar++58 :: aZ (sb n.af.sh) n.af.c n.af.r n.af.ac n.af.ar,[])
 else if n.kind=7 then (sb n.text++[40],oJ n.kids++[aB.plain ⟨#[41]⟩])
 else if n.kind=8 then ([45],[aB.op (n.kids.getD 0 0) 5])
 else ([],[aB.op (n.kids.getD 0 0) ((bJ n.kind:Int)+1),aB.plain (jW.getD (n.kind - 9).toNat ⟨#[]⟩),aB.op (n.kids.getD 1 0) ((bJ n.kind:Int)+2)])
theorem KD{p q:Prop} [Decidable p] [Decidable q] (h:p↔q):decide p=decide q:=by rw[decide_eq_decide];exact h
theorem TV:∀o:Nat,o<11→jW.getD o ⟨#[]⟩≠⟨#[]⟩:=by decide
theorem ahu (h:cO l=true)(h0:0≤i)(h1:i<l.length)(n:Nd)(hn:nodeAt l i=n):bI l i=(eH n).1++(eH n).2.flatMap (kS l):=by
 obtain⟨hnb, -⟩:=zM h h0 h1;rw[hn]at hnb;obtain⟨-, -, -,b1,b2, -⟩:=qX hnb;rw[vN h h0 h1 n hn];unfold eH;split
 · simp
 split
 · simp
 split
 · simp
 split
 · simp
 split
 · simp
 split
 · simp
 split
 · rw[List.flatMap_append,Pp,pV,List.flatMap_nil,H7 l _ (by decide)]
   simp only[bN,dx,iy,fF];rfl
 split
 · rw[pV,List.flatMap_nil,CG,fF,KD (show(bJ (nodeAt l (n.kids.getD 0 0)).kind<4↔(bJ (nodeAt l (n.kids.getD 0 0)).kind:Int)+1<5)by omega)]
   rfl
 · have ho:(n.kind - 9).toNat<11:=by omega
   rw [pV,pV,pV,List.flatMap_nil,CG,CG,H7 l _ (TV _ ho),(MB _ ho).2,fF,iy,
    KD (show(bJ (nodeAt l (n.kids.getD 0 0)).kind<bJ n.kind↔(bJ (nodeAt l (n.kids.getD 0 0)).kind:Int)+1<(bJ n.kind:Int)+1)by omega),
    KD (show(bJ (nodeAt l (n.kids.getD 1 0)).kind≤bJ n.kind↔(bJ (nodeAt l (n.kids.getD 1 0)).kind:Int)+1<(bJ n.kind:Int)+2)by omega)]
theorem Pt :∀ks:List Int,(∀k∈ks,0≤k∧k<(l.length:Int))→∀p∈oJ ks,j3 l p
 | [],_,p,hp=>by simp[oJ]at hp
 | [a],h,p,hp=>by
   simp[oJ]at hp;subst hp;exact j3.op (h a (by simp)).1 (h a (by simp)).2 1
 | a :: b :: ks,h,p,hp=>by
   simp only[oJ,eY]at hp;rcases hp with rfl|rfl|hp
   · exact j3.op (h a (by simp)).1 (h a (by simp)).2 1
   · exact j3.plain l _ (by decide)
   · exact Pt (b :: ks) (fun k hk=>h k (List.mem_cons_of_mem _ hk)) p hp
theorem ahv (h:cO l=true)(h0:0≤i)(h1:i<l.length)(n:Nd)(hn:nodeAt l i=n):∀p∈(eH n).2,j3 l p:=by
 obtain⟨hnb,hk⟩:=zM h h0 h1;rw[hn]at hnb hk;obtain⟨a1,a2, -,b1,b2, -⟩:=qX hnb;have hkl:∀k∈n.kids,0≤k∧k<(l.length:Int):=fun k dM=>by have:=hk k dM;omega
 intro p hp;unfold eH at hp;split at hp
 · simp at hp
 split at hp
 · simp at hp
 split at hp
 · simp at hp
 split at hp
 · simp at hp
 split at hp
 · simp at hp
 split at hp
 · simp at hp
 split at hp
 · rcases dK.1 hp with hp|hp
   · exact Pt _ hkl p hp
   · rw[fA.1 hp];exact j3.plain l _ (by decide)
 split at hp
 · rename_i k8
   rw[fA.1 hp];have:=hkl _ (Cu (n:=n) (j:=0) (by rw[a1 k8];omega));exact j3.op this.1 this.2 5
 · have k9:9≤n.kind:=by omega
   have g0:=hkl _ (Cu (n:=n) (j:=0) (by rw[a2 k9];omega));have g1:=hkl _ (Cu (n:=n) (j:=1) (by rw[a2 k9];omega));simp only[eY,List.not_mem_nil,or_false]at hp;rcases hp with rfl|rfl|rfl
   · exact j3.op g0.1 g0.2 _
   · exact j3.plain l _ (TV _ (by omega))
   · exact j3.op g1.1 g1.2 _
def mV (l:List Nd)(p:aB):List Int × List aB :=
 if p.t=⟨#[]⟩then (if (bJ (nodeAt l p.node).kind:Int)+1<p.least then (40 :: (eH (nodeAt l p.node)).1,(eH (nodeAt l p.node)).2++[aB.plain ⟨#[41]⟩])else eH (nodeAt l p.node))else (sb p.t,[])
theorem VD (h:cO l=true)(p:aB)(hp:j3 l p):kS l p=(mV l p).1++(mV l p).2.flatMap (kS l):=by
 rw[show kS l p=if p.t=⟨#[]⟩then jm (decide ((bJ (nodeAt l p.node).kind:Int)+1<p.least)) (bI l p.node)else sb p.t from rfl];unfold mV;by_cases ht:p.t=⟨#[]⟩
 · obtain ⟨h0,h1⟩:=hp ht
   rw[ah ht,ah ht,ahu h h0 h1 _ rfl];by_cases hr:(bJ (nodeAt l p.node).kind:Int)+1<p.least
   · rw[ah hr,aQ hr,List.flatMap_append,pV,List.flatMap_nil,H7 l _ (by decide)]
     show 40 :: (((eH (nodeAt l p.node)).1++(eH (nodeAt l p.node)).2.flatMap (kS l))++[41])=_;simp only[bN,dx,fF];rfl
   · rw[ag hr,aS hr];rfl
 · rw[ag ht,ag ht];simp
theorem Nu (h:cO l=true)(p:aB)(hp:j3 l p):∀q∈(mV l p).2,j3 l q:=by
 unfold mV;by_cases ht:p.t=⟨#[]⟩
 · obtain ⟨h0,h1⟩:=hp ht
   rw[ah ht];have:=ahv h h0 h1 _ rfl;by_cases hr:(bJ (nodeAt l p.node).kind:Int)+1<p.least
   · rw[ah hr]
     intro q hq;rcases dK.1 hq with hq|hq
     · exact this q hq
     · rw[fA.1 hq];exact j3.plain l _ (by decide)
   · rw[ag hr];exact this
 · rw[ag ht];intro q hq;simp at hq
theorem VU {l:List Int}(aT:∀y∈x :: l,isWord y=true)(hx:isLet x=true∨x=36):fD (x :: l++[32])=(match iw (strOfNums (x :: l))with
 | some d=>some ({ ai.zero with kind:=4,sh:=d.sh,c:=d.c,r:=d.r,ac:=d.ac,ar:=d.ar },(x :: l).length)
 | none=>if jI (x :: l)=true then some ({ ai.zero with kind:=3,text:=strOfNums (x :: l) },(x :: l).length)else none):=by
 have h1:¬ isNum x=true:=by
  rcases hx with hx|hx
  · unfold isLet at hx;unfold isNum;rw[aK]at hx ⊢;omega
  · subst hx;decide
 have h2:¬ x=34∧¬ x=35:=by
  rcases hx with hx|hx
  · unfold isLet at hx;rw[aK]at hx;omega
  · omega
 have ht:(x :: (l++[32])).takeWhile isWord=x :: l:=vP isWord (x :: l) [32] aT (fun y hy=>by simp at hy;subst hy;decide);rw[dx,rO,ag h1,ag h2.1,ag h2.2,ah hx];unfold mZ;rw[ht];rfl
def Fa(n:Int):ai:={ ai.zero with kind:=1,num:=n }
def Fe(s:ByteArray):ai:={ ai.zero with kind:=2,text:=s }
def wX(s:ByteArray):ai:={ ai.zero with kind:=3,text:=s }
def oq(r:bL):ai:={ ai.zero with kind:=4,sh:=r.sh,c:=r.c,r:=r.r,ac:=r.ac,ar:=r.ar }
def Fb(s:ByteArray):ai:={ ai.zero with kind:=5,text:=s }
def E9:ai:={ ai.zero with kind:=6 }
theorem ah9 {n:Int}(h0:0≤n)(h:n≤9223372036854775807):Tok (Fa n):=by
 have e:dA (Fa n)=aV n.toNat:=rfl;refine⟨(by simp[Fa]), ?_,by rw[e];exact PT _⟩;have:=ah7 n.toNat (by omega) [32] (fun x hx=>by simp at hx;subst hx;decide);rw[e,this,Int.toNat_of_nonneg h0];rfl
theorem Kr:∀l:List Int,Bytes l→Bytes (fe l)
 | [],_=>Bytes.nil
 | x :: l,h=>by
   have ih:=Kr l (fun y hy=>h y (by simp[hy]));show Bytes ((if x=34 then [34,34]else [x])++fe l);refine Bytes.append ?_ ih;split
   · intro y hy;simp at hy;omega
   · intro y hy;simp at hy;subst hy;exact h y (by simp)
theorem aia (h:mF (sb s)=true):Tok (Fe s):=by
 have e:dA (Fe s)=34 :: (fe (sb s)++[34]):=rfl;have hb:Bytes [34]:=by intro x hx;simp at hx;omega
 refine⟨(by simp[Fe]), ?_,by rw[e];exact Bytes.append (a:=[34]) hb ((Kr _ (sO s)).append hb)⟩;unfold mF at h;have:=MK (sb s) [32] (of_decide_eq_true h) (fun x hx=>by simp at hx;omega);rw[e,dx,rO,ag (by decide),ah rfl];unfold lC;rw[bN,pU,this];simp only[jo,bf,bE,mX,aX,av,dV]
 first
  | rfl
  | exact⟨rfl,trivial⟩
theorem NJ (h:jI (sb s)=true)(hr:(iw s).isNone=true):Tok (wX s):=by
 have e:dA (wX s)=sb s:=rfl;refine⟨(by simp[wX]), ?_,by rw[e];exact sO s⟩;have hc:=h;unfold jI at hc;rw[dH,dH,aK,aK]at hc;obtain⟨c1,c2,c3⟩:=hc;have hs:=mX s;rw[e];cases hq:sb s with
 | nil=>rw[hq]at c2;simp at c2
 | cons x l =>
   rw[hq]at c1 c3 hs h
   have aT:∀y∈x :: l,isWord y=true:=by
    intro y hy;have:=c1 y hy;rw[Bool.or_eq_true]at this;rcases this with g|g
    · exact Wj g
    · exact NY g
   have hx:isLet x=true:=by
    have hx:aP x=true:=by simpa using c3
    unfold aP at hx;unfold isLet;rw[aK]at hx ⊢;omega
   rw[VU aT (.inl hx),hs];cases hd:iw s with
   | some d=>rw[hd]at hr;cases hr
   | none=>simp only;rw[ah h];rfl
theorem CY {r:bL}(h:bQ r=true):Tok (oq r):=by
 have e:dA (oq r)=aZ (sb r.sh) r.c r.r r.ac r.ar:=rfl;refine⟨(by simp[oq]), ?_,by rw[e];exact Al _ _ _ _ _⟩;obtain⟨x,l,hd,hx⟩:=ahM (sb r.sh) r.c r.r r.ac r.ar h;have aT:=aiR (sb r.sh) r.c r.r r.ac r.ar h;obtain⟨d,hr,e1,e2,e3,e4,e5⟩:=afc r.sh r.c r.r r.ac r.ar h;rw[e];rw[hd]at aT hr ⊢;rw[VU aT hx,hr];simp only[e1,e2,e3,e4,e5];rfl
def IV (t:ai):Bool:=match fD (dA t++[32])with
 | some (u,n)=>decide (n=(dA t).length)&&(decide (u.kind=t.kind∧u.text=t.text∧u.num=t.num∧u.sh=t.sh∧u.c=t.c∧u.r=t.r∧u.pos=0)&&(u.ac == t.ac&&u.ar == t.ar))
 | none=>false
theorem VS (h:IV t=true)(hk:t.kind≠0)(hb:Bytes (dA t)):Tok t:=by
 refine⟨hk, ?_,hb⟩;unfold IV at h;cases hq:fD (dA t++[32])with
 | none=>rw[hq]at h;cases h
 | some q =>
   obtain⟨u,n⟩:=q;rw[hq]at h;simp only[dH,aK,bA]at h;obtain⟨h1,⟨g1,g2,g3,g4,g5,g6,g7⟩,g8,g9⟩:=h;rw[h1]
   have:u=t.goto 0:=by
    cases u;cases t;simp only[ai.goto]at *;subst g1 g2 g3 g4 g5 g6 g7 g8 g9;rfl
   rw[this]
def wW:List ByteArray:=[⟨#[40]⟩,⟨#[41]⟩,⟨#[44]⟩,⟨#[58]⟩]++jW
theorem ahj:wW.all (fun s=>IV (Fb s)&&(dA (Fb s)).all fun x=>decide (0≤x∧x≤255))=true:=by decide +kernel
theorem Zt:(IV E9&&(dA E9).all fun x=>decide (0≤x∧x≤255))=true:=by decide +kernel
theorem zL (h:s∈wW):Tok (Fb s)∧iC s (Fb s):=by
 have:=List.all_eq_true.1 ahj s h;rw[dH]at this;refine⟨VS this.1 (by decide +revert) ?_,rfl,rfl⟩;intro x hx
 simpa using List.all_eq_true.1 this.2 x hx
theorem ah6:Tok E9:=by
 have:=Zt;rw[dH]at this;refine⟨by decide,(VS this.1 (by decide) ?_).2.1, ?_⟩
 all_goals
  intro x hx
  simpa using List.all_eq_true.1 this.2 x hx
theorem TI {r:bL}(h:fO r=true):r=bL.zero:=by
 unfold fO at h;rw[dH,aK,dH]at h;obtain⟨⟨h1,h2,h3⟩,h4,h5⟩:=h;cases r with
 | mk sh c r ac ar =>
   simp only at h1 h2 h3 h4 h5;subst h1 h2 h3;cases ac <;> cases ar <;> simp at h4 h5
   rfl
theorem Sy {n:Nd}(h:aH n=true):(n.kind=1∨n.kind=3∨n.num=0)∧(n.kind=2∨n.kind=7∨n.text=⟨#[]⟩)∧(n.kind=5∨n.kind=6∨n.ref=bL.zero)∧(n.kind=6∨n.af=bL.zero) ∧
 (if n.kind=1 then decide (0≤n.num)
   else if n.kind=3 then decide (n.num=0∨n.num=1)
   else if n.kind=2 then mF (sb n.text)
   else if n.kind=7 then j4 n.text
   else if n.kind=5 then bQ n.ref
   else if n.kind=6 then bQ n.ref&&(bQ n.af&&fu n.ref n.af)
   else true)=true:=by
 unfold aH at h;by_cases c:(n.kind≠1∧n.kind≠3∧n.num≠0)∨(n.kind≠2∧n.kind≠7∧n.text≠⟨#[]⟩)∨(n.kind≠5∧n.kind≠6∧fO n.ref=false)∨(n.kind≠6∧fO n.af=false)
 · rw[ah c]at h;cases h
 · rw [ag c]at h
   refine⟨?_, ?_, ?_, ?_,h⟩
   · apply Decidable.byContradiction;intro d;exact c (.inl ⟨fun e=>d (.inl e),fun e=>d (.inr (.inl e)),fun e=>d (.inr (.inr e))⟩)
   · by_cases d1:n.kind=2
     · exact .inl d1
     · by_cases d2:n.kind=7
       · exact .inr (.inl d2)
       · by_cases d3:n.text=⟨#[]⟩
         · exact .inr (.inr d3)
         · exact absurd (.inr (.inl ⟨d1,d2,d3⟩)) c
   · by_cases d1:n.kind=5
     · exact .inl d1
     · by_cases d2:n.kind=6
       · exact .inr (.inl d2)
       · cases d3:fO n.ref with
         | true=>exact .inr (.inr (TI d3))
         | false=>exact absurd (.inr (.inr (.inl ⟨d1,d2,d3⟩))) c
   · by_cases d2:n.kind=6
     · exact .inl d2
     · cases d3:fO n.af with
       | true=>exact .inr (TI d3)
       | false=>exact absurd (.inr (.inr (.inr ⟨d2,d3⟩))) c
theorem acJ {n:Nd}(h:aH n=true)(h1:1≤n.kind)(h2:n.kind≤6)(hk:n.kids=[])(hm:n.num≤9223372036854775807):∃ts,mJ ts n∧∀t∈ts,Tok t:=by
 obtain⟨f1,f2,f3,f4,f5⟩:=Sy h;cases n with
 | mk kind num text ref af kids =>
   simp only at f1 f2 f3 f4 f5 h1 h2 hk hm;subst hk;by_cases c1:kind=1
   · subst c1
     rw[ah rfl]at f5;obtain rfl:=(f2.resolve_left (by omega)).resolve_left (by omega);obtain rfl:=(f3.resolve_left (by omega)).resolve_left (by omega);obtain rfl:=f4.resolve_left (by omega);exact⟨[Fa num],.num (Fa num) rfl,by intro t ht;simp at ht;subst ht;exact ah9 (of_decide_eq_true f5) hm⟩
   · rw [ag c1]at f5
     by_cases c3:kind=3
     · subst c3
       rw[ah rfl]at f5;obtain rfl:=(f2.resolve_left (by omega)).resolve_left (by omega);obtain rfl:=(f3.resolve_left (by omega)).resolve_left (by omega);obtain rfl:=f4.resolve_left (by omega)
       have hw:∀s:ByteArray,s=⟨#[84,82,85,69]⟩∨s=⟨#[70,65,76,83,69]⟩→Tok (wX s):=by
        intro s hs;rcases hs with rfl|rfl
        · exact NJ (by decide +kernel) (by decide +kernel)
        · exact NJ (by decide +kernel) (by decide +kernel)
       rcases of_decide_eq_true f5 with rfl|rfl
       · exact⟨[wX ⟨#[70,65,76,83,69]⟩],.no (wX _) rfl rfl,by intro t ht;simp at ht;subst ht;exact hw _ (.inr rfl)⟩
       · exact⟨[wX ⟨#[84,82,85,69]⟩],.yes (wX _) rfl rfl,by intro t ht;simp at ht;subst ht;exact hw _ (.inl rfl)⟩
     · rw [ag c3]at f5
       obtain rfl:=(f1.resolve_left c1).resolve_left c3;by_cases c2:kind=2
       · subst c2
         rw[ah rfl]at f5;obtain rfl:=(f3.resolve_left (by omega)).resolve_left (by omega);obtain rfl:=f4.resolve_left (by omega);exact⟨[Fe text],.text (Fe text) rfl,by intro t ht;simp at ht;subst ht;exact aia f5⟩
       · rw [ag c2,ag (by omega)]at f5
         obtain rfl:=(f2.resolve_left c2).resolve_left (by omega);by_cases c5:kind=5
         · subst c5
           rw[ah rfl]at f5;obtain rfl:=f4.resolve_left (by omega);exact⟨[oq ref],.ref (oq ref) rfl,by intro t ht;simp at ht;subst ht;exact CY f5⟩
         · rw [ag c5]at f5
           by_cases c6:kind=6
           · subst c6
             rw[ah rfl,dH,dH]at f5;obtain⟨g,gs⟩:=zL (s:=⟨#[58]⟩) (by simp[wW,jW]);refine⟨[oq ref,Fb ⟨#[58]⟩,oq af],.range (oq ref) _ (oq af) rfl gs rfl f5.2.2, ?_⟩;intro t ht;simp at ht;rcases ht with rfl|rfl|rfl
             · exact CY f5.1
             · exact g
             · exact CY f5.2.1
           · obtain rfl:kind=4:=by omega
             obtain rfl:=(f3.resolve_left (by omega)).resolve_left (by omega);obtain rfl:=f4.resolve_left (by omega);exact⟨[E9],.dead E9 rfl,by intro t ht;simp at ht;subst ht;exact ah6⟩
theorem Oa (n rk d:Nat)(ts:List ai)(h:∀t∈ts,Tok t):∃d' ts',Wr n rk d ts d' ts'∧∀t∈ts',Tok t:=by
 by_cases c:n≤rk
 · exact⟨d,ts,.inl ⟨c,rfl,rfl⟩,h⟩
 · obtain ⟨g1,s1⟩:=zL (s:=⟨#[40]⟩) (by simp[wW,jW])
   obtain⟨g2,s2⟩:=zL (s:=⟨#[41]⟩) (by simp[wW,jW]);refine⟨d+1,_,.inr ⟨by omega,rfl,_,_,s1,s2,rfl⟩, ?_⟩;intro t ht;rcases eY.1 ht with rfl|ht
   · exact g1
   · rcases dK.1 ht with ht|ht
     · exact h t ht
     · simp at ht;subst ht;exact g2
inductive FS:Nat→List Nd→List Int→Prop
 | nil:FS 0 [] []
 | snoc (i:Nat)(done:List Nd)(st:List Int)(h:FS i done st)(ns:List Nd)(a:Int)(ts:List ai)(rk d:Nat)(g:Sh false i ns [a] ts rk d)(ht:∀t∈ts,Tok t):FS (i+ns.length) (done++ns) (st++[a])
theorem FS.last {i:Nat}{all:List Nd}{st:List Int}{a:Int}(h:FS i all (st++[a])):∃j done ns ts rk d,FS j done st∧all=done++ns∧i=j+ns.length∧Sh false j ns [a] ts rk d∧∀t∈ts,Tok t:=by
 generalize e:st++[a]=st' at h;cases h with
 | nil=>simp at e
 | snoc j done st0 h ns a0 ts rk d g ht =>
   obtain⟨rfl,e2⟩:=List.append_inj' e rfl;injection e2 with e2 _;subst e2;exact⟨j,done,ns,ts,rk,d,h,rfl,rfl,g,ht⟩
theorem FS.adU {i:Nat}{done:List Nd}{st:List Int}(h:FS i done st)(e:st=[]):done=[]∧i=0:=by
 cases h with
 | nil=>exact⟨rfl,rfl⟩
 | snoc=>simp at e
theorem agR (h:Sh true base ns ks ts nK d)(e:ks=[]):ns=[]∧ts=[]:=by
 cases h with
 | none=>exact⟨rfl,rfl⟩
 | one=>cases e
 | and=>simp at e
theorem FS.many:∀(m:Nat)(ks:List Int),ks.length=m→∀(i:Nat)(all:List Nd)(st:List Int),FS i all (st++ks)→∃j done ns ts d,FS j done st∧all=done++ns∧i=j+ns.length∧Sh true j ns ks ts 0 d∧∀t∈ts,Tok t
 | 0,ks,hk,i,all,st,h=>by
   obtain rfl:=kV hk;rw[fF]at h;exact⟨i,all,[],[],0,h,by simp,by simp,.none i,by simp⟩
 | m + 1,ks,hk,i,all,st,h=>by
   obtain⟨ks',b,rfl⟩:∃ks' b,ks=ks'++[b]:=⟨ks.dropLast,ks.getLast (by rintro rfl;simp at hk),(List.dropLast_concat_getLast _).symm⟩;rw[← bN]at h;obtain⟨j,done,ns,ts,rk,d,h1,rfl,rfl,h2,h3⟩:=h.last;obtain⟨j',wH,ns',ts',d',g1,rfl,rfl,g2,g3⟩:=FS.many m ks' (by simpa using hk) j done st h1;by_cases c:ks'=[]
   · subst c
     obtain⟨rfl,rfl⟩:=agR g2 rfl;exact⟨j',wH,ns,ts,d,g1,by simp,by simp,.one j' ns b ts rk d (by simpa using h2),h3⟩
   · obtain ⟨gc,sc⟩:=zL (s:=⟨#[44]⟩) (by simp[wW,jW])
     refine⟨j',wH,ns'++ns,_,_,g1,by rw[bN],by rw[av,Nat.add_assoc],.and j' ns' ns ks' b ts' ts rk d' d g2 c _ sc h2, ?_⟩;intro t ht;rcases dK.1 ht with ht|ht
     · exact g3 t ht
     · rcases eY.1 ht with rfl|ht
       · exact gc
       · exact h3 t ht
theorem VY:∀(ns:List Nd)(i:Nat)(done:List Nd)(st:List Int),FS i done st→nM st i ns=true→(∀n∈ns,n.num≤9223372036854775807)→∃a,FS (i+ns.length) (done++ns) [a]
 | [],i,done,st,h,ht,_=>by
   have:st.length=1:=of_decide_eq_true ht
   match st,this with
   | [a],_=>exact⟨a,by simpa using h⟩
 | n :: ns, i,done,st,h,ht,hm=>by
   rw[nN,dH,dH,dH,aK,aK]at ht;obtain⟨h1,h2,h3,h4⟩:=ht;have hst:st=st.take (st.length - n.kids.length)++n.kids:=by conv=>lhs;rw[← List.take_append_drop (st.length - n.kids.length) st,h3]
   generalize st.take (st.length - n.kids.length)=st0 at hst h4;subst hst;unfold dm at h1;rw[dH,Bool.or_eq_true,aK,aK]at h1;obtain⟨hl,ha⟩:=h1
   have hfs : FS (i+1) (done++[n]) (st0++[(i:Int)]):=by
    by_cases c1:1≤n.kind∧n.kind≤6
    · have hk:n.kids=[]:=by
       unfold jQ at ha;rw[ah c1]at ha;exact kV (by omega)
      rw[hk,fF]at h;obtain⟨ts,g1,g2⟩:=acJ hl c1.1 c1.2 hk (hm n (by simp));exact .snoc i done st0 h [n] _ ts 5 0 (.leaf i ts n g1) g2
    · obtain ⟨f1,f2,f3,f4,f5⟩:=Sy hl
      have e1:n.num=0:=(f1.resolve_left (by omega)).resolve_left (by omega);have e3:n.ref=bL.zero:=(f3.resolve_left (by omega)).resolve_left (by omega);have e4:n.af=bL.zero:=f4.resolve_left (by omega);rw[ag (by omega),ag (by omega),ag (by omega)]at f5;by_cases c7:n.kind=7
      · rw [ah c7]at f5
        unfold j4 at f5;rw[dH,dH,dH,aK,aK]at f5;obtain⟨j,wH,ms,ts,d,g1,rfl,rfl,g2,g3⟩:=FS.many _ n.kids rfl i done st0 h;obtain⟨gl,sl⟩:=zL (s:=⟨#[40]⟩) (by simp[wW,jW]);obtain⟨gr,sr⟩:=zL (s:=⟨#[41]⟩) (by simp[wW,jW]);have gn:=NJ f5.1 f5.2.1
        have hn:n={ Nd.zero with kind:=7,text:=(wX n.text).text,kids:=n.kids }:=by
         cases n;simp only at e1 e3 e4 c7;subst e1 e3 e4 c7;rfl
        have hsh:=Sh.call j ms n.kids ts d g2 (wX n.text) _ _ rfl f5.2.2.1 f5.2.2.2 sl sr;rw[← hn]at hsh
        have := FS.snoc j wH st0 g1 (ms++[n]) _ _ _ _ hsh (by
         intro t ht;rcases eY.1 ht with rfl|ht
         · exact gn
         · rcases eY.1 ht with rfl|ht
           · exact gl
           · rcases dK.1 ht with ht|ht
             · exact g3 t ht
             · simp at ht;subst ht;exact gr)
        rw[av,fE, ← Nat.add_assoc, ← bN]at this;exact this
      · have e2:n.text=⟨#[]⟩:=(f2.resolve_left (by omega)).resolve_left c7
        by_cases c8:n.kind=8
        · have hk:n.kids.length=1:=by
           unfold jQ at ha;rw[ag c1,ag c7,ah c8]at ha;omega
          obtain ⟨b,hb⟩:∃b,n.kids=[b]:=by
           match hq:n.kids,hk with
           | [b],_=>exact⟨b,rfl⟩
          rw[hb]at h;obtain⟨j,wH,ms,ts,om,d,g1,rfl,rfl,g2,g3⟩:=h.last;obtain⟨d',ts',hw,g4⟩:=Oa 4 om d ts g3;obtain⟨KO,sm⟩:=zL (s:=⟨#[45]⟩) (by simp[wW,jW])
          have hn:n={ Nd.zero with kind:=8,kids:=[b] }:=by
           cases n;simp only at e1 e2 e3 e4 c8 hb;subst e1 e2 e3 e4 c8 hb;rfl
          have hsh:=Sh.neg j ms b ts om d g2 _ sm d' ts' hw;rw[← hn]at hsh
          have:=FS.snoc j wH st0 g1 (ms++[n]) _ _ _ _ hsh (by
           intro t ht;rcases eY.1 ht with rfl|ht
           · exact KO
           · exact g4 t ht)
          rw[av,fE, ← Nat.add_assoc, ← bN]at this;exact this
        · have hk:n.kids.length=2∧9≤n.kind∧n.kind≤19:=by
           unfold jQ at ha;rw[ag c1,ag c7,ag c8]at ha;by_cases c9:9≤n.kind∧n.kind≤19
           · rw[ah c9]at ha;omega
           · rw[ag c9]at ha;omega
          obtain ⟨b,b',hb⟩:∃b b',n.kids=[b,b']:=by
           match hq:n.kids,hk.1 with
           | [b,b'],_=>exact⟨b,b',rfl⟩
          rw[hb,show st0++[b,b']=(st0++[b])++[b']by simp]at h;obtain⟨j2,ajg,zq,V5,lZ,d2,k1,rfl,rfl,k2,k3⟩:=h.last;obtain⟨j,wH,ms,ts,om,d,g1,rfl,rfl,g2,g3⟩:=k1.last;obtain⟨o,ho,hko⟩:∃o:Nat,o<11∧n.kind=9+(o:Int):=⟨(n.kind - 9).toNat,by omega,by omega⟩;obtain⟨x1,ts',hw,g4⟩:=Oa (rk o) om d ts g3;obtain⟨x2,aik,hw2,k4⟩:=Oa (rk o+1) lZ d2 V5 k3
          have hin:jW.getD o ⟨#[]⟩∈wW:=by
           have hlen:o<jW.length:=ho;rw[jL,dL hlen,Option.getD_some];exact List.mem_append_right _ (List.getElem_mem _)
          obtain⟨KO,sm⟩:=zL hin
          have hn:n={ Nd.zero with kind:=9+(o:Int),kids:=[b,b'] }:=by
           cases n;simp only at e1 e2 e3 e4 hko hb;subst e1 e2 e3 e4 hko hb;rfl
          have hsh:=Sh.op j o ho ms zq b b' ts V5 om lZ d d2 g2 k2 _ sm x1 x2 ts' aik hw hw2;rw[← hn]at hsh
          have:=FS.snoc j wH st0 g1 (ms++(zq++[n])) _ _ _ _ hsh (by
           intro t ht;rcases dK.1 ht with ht|ht
           · exact g4 t ht
           · rcases eY.1 ht with rfl|ht
             · exact KO
             · exact k4 t ht)
          have e5:j+(ms++(zq++[n])).length=j+ms.length+zq.length+1:=by simp;omega
          have e6:wH++(ms++(zq++[n]))=wH++ms++zq++[n]:=by simp
          have e7:j+(ms.length+zq.length)=j+ms.length+zq.length:=by omega
          rw[e5,e6,e7]at this;exact this
   obtain⟨a,ha'⟩:=VY ns (i+1) (done++[n]) _ hfs h4 (fun m hm'=>hm m (by simp[hm']));refine⟨a, ?_⟩;rw[bN,pU]at ha';rw[aX,show i+(ns.length+1)=i+1+ns.length by omega];exact ha'
theorem IW (h:cO ns=true)(hm:∀n∈ns,n.num≤9223372036854775807):∃a ts rk d,Sh false 0 ns [a] ts rk d∧∀t∈ts,Tok t:=by
 obtain⟨a,ha⟩:=VY ns 0 [] [] .nil h hm;rw[iy]at ha;obtain⟨j,done,ms,ts,rk,d,h1,h2,h3,h4,h5⟩:=FS.last (st:=[]) ha;obtain⟨rfl,rfl⟩:=h1.adU rfl;rw[iy]at h2;subst h2;exact⟨a,ts,rk,d,h4,h5⟩
def lH (n deep base:Nat)(ts:List ai):Prop :=
 if n≤4 then ∃f,eU f n deep base ts=some (.error 6)else ∃f,jB f deep base ts=some (.error 6)
def BI (n deep base:Nat)(ts:List ai):Prop :=
 lH (n+1) deep base ts∨∃vJ a1 r1 g,At (n+1) deep base ts vJ a1 r1∧iJ g n deep base vJ a1 r1=some (.error 6)
theorem BI.at (hn:n≤3)(h:BI n deep base ts):lH n deep base ts:=by
 rcases h with h|⟨vJ,a1,r1,g,h1,h2⟩
 · unfold lH at h ⊢
   rw[ah (by omega)]at h ⊢;obtain⟨f,hf⟩:=h;exact⟨f+1,by rw[lQ,ah hn,hf];rfl⟩
 · unfold At at h1
   unfold lH;rw[ah (by omega)]at h1 ⊢;obtain⟨f,hf⟩:=h1;refine⟨max f g+1, ?_⟩;rw[lQ,ah hn,xK (Nat.le_max_left f g) hf];exact ET (Nat.le_max_right f g) h2
theorem lH.down (n:Nat):∀(k:Nat),n+k≤5→lH (n+k) deep base ts→(n+k=5→ax ⟨#[45]⟩ ts=false)→lH n deep base ts
 | 0,_,h,_=>h
 | k + 1,hk,h,hm=>by
   have h1:lH (n+k) deep base ts:=by
    by_cases c:n+(k+1)=5
    · have hs:=hm c
      rw[c]at h;rw[show n+k=4 by omega];unfold lH at h ⊢;rw[ag (by omega)]at h;rw[ah (by omega)];obtain⟨f,hf⟩:=h;exact⟨f+1,by rw[lQ,ag (by omega),hs,ag (by simp)];exact hf⟩
    · exact BI.at (by omega) (.inl h)
   exact lH.down n k (by omega) h1 (fun h=>by omega)
structure Wy (base:Nat)(ts:List ai)(rk d:Nat):Prop where
 high:∀deep rest,deep≤12→12<deep+d→ax ⟨#[58]⟩ rest=false→4≤rk→lH rk deep base (ts++rest)
 low:∀deep rest,deep≤12→12<deep+d→ax ⟨#[58]⟩ rest=false→rk≤3→Stop (rk+1) rest→BI rk deep base (ts++rest)
structure yx (base:Nat)(ns:List Nd)(a:Nat)(ts:List ai)(rk d:Nat):Prop where
 back:mo base ns a ts rk d
 far:Wy base ts rk d
theorem yx.at {rk:Nat}(h:yx base ns a ts rk d)(n deep:Nat)(rest:List ai)(hn:n≤rk)(hd:deep≤12)(hf:12<deep+d)(hc:ax ⟨#[58]⟩ rest=false)(hs:Stop n rest) :
 lH n deep base (ts++rest):=by
 have hle:=h.back.le
 have h1:lH rk deep base (ts++rest):=by
  by_cases c:4≤rk
  · exact h.far.high deep rest hd hf hc c
  · exact BI.at (by omega) (h.far.low deep rest hd hf hc (by omega) (hs.more (by omega)))
 refine lH.down n (rk - n) (by omega) ?_ (fun e=>h.back.minus (by omega) rest);rwa[show n+(rk - n)=rk by omega]
theorem yx.goes {rk:Nat}(h:yx base ns a ts rk d)(n deep:Nat)(rest:List ai)(hn:n≤rk)(Gw:n≤3)(hd:deep≤12)(hf:12<deep+d)(hc:ax ⟨#[58]⟩ rest=false)(hs:Stop (n+1) rest) :
 BI n deep base (ts++rest):=by
 by_cases c:n=rk
 · subst c;exact h.far.low deep rest hd hf hc Gw hs
 · exact .inl (h.at (n+1) deep rest (by omega) hd hf hc hs)
theorem yx.wr {rk:Nat}(h:yx base ns a ts rk d)(hw:Wr n rk d ts d' ts')(hn:n≤5):∃om,n≤om∧yx base ns a ts' om d':=by
 rcases hw with ⟨h1,rfl,rfl⟩|⟨h1,rfl,l,r,hl,hr,rfl⟩
 · exact⟨rk,h1,h⟩
 · refine ⟨5,hn,h.back.brk hl hr,⟨fun deep rest hd hf hc _ => ?_,fun deep rest _ _ _ h=>by omega⟩⟩
   unfold lH;rw[ag (by omega)];by_cases c:12≤deep
   · exact⟨1,by rw[dx,lX,hl.sign,ah (by decide),ah c]⟩
   · have h1:=h.at 0 (deep+1) (r :: rest) (by omega) (by omega) (by omega) (by rw[hr.sign];decide) (CV hr rest (by decide) 0)
     unfold lH at h1;rw[ah (by omega)]at h1;obtain⟨f,hf⟩:=h1;exact⟨f+1,by rw[dx,lX,hl.sign,ah (by decide),ag c,bN,pU,hf];rfl⟩
def Wz (base:Nat)(ts:List ai)(d:Nat):Prop :=
 ∀deep rest,deep≤12→12<deep+d→ax ⟨#[58]⟩ rest=false→Stop 0 rest→∃g,ib g deep base [] [] (ts++rest)=some (.error 6)
theorem agL {b:Bool}(h:Sh b base ns ks ts nK d) :
 (b=false→∃a:Nat,ks=[(a:Int)]∧yx base ns a ts nK d)∧(b=true→BH base ns ks ts d∧Wz base ts d):=by
 induction h with
 | leaf base ts nd h =>
   refine⟨fun _=>⟨base,rfl,PE h,⟨fun deep rest h1 h2=>by omega,fun deep rest h1 h2=>by omega⟩⟩,fun h=>by cases h⟩
 | neg base ns a ts rk d h m hm d' ts' hw ih =>
   refine⟨fun _ => ?_,fun h=>by cases h⟩;obtain⟨a',e,hb⟩:=ih.1 rfl;obtain rfl:a=(a':Int):=by simpa using e
   obtain⟨om,h1,hb'⟩:=hb.wr hw (by omega);refine⟨_,rfl,PG hb'.back hm h1,⟨fun deep rest hd hf hc _ => ?_,fun deep rest _ _ _ h=>by omega⟩⟩;unfold lH;rw[ah (by omega)];by_cases c:12≤deep
   · exact⟨1,by rw[dx,lQ,ag (by omega),hm.sign,ah (by decide),ah c]⟩
   · have h2:=hb'.at 4 (deep+1) rest h1 (by omega) (by omega) hc (VE _)
     unfold lH at h2;rw[ah (by omega)]at h2;obtain⟨f,hf'⟩:=h2;exact⟨f+1,by rw[dx,lQ,ag (by omega),hm.sign,ah (by decide),ag c,List.tail_cons,hf'];rfl⟩
 | op base o ho ns ms a b ts us oo lZ d1 d2 h g s hs e1 e2 ts' iT hw gw ih jl =>
   refine⟨fun _ => ?_,fun h=>by cases h⟩;have hr:=M9 o;obtain⟨a',e,hb⟩:=ih.1 rfl;obtain rfl:a=(a':Int):=by simpa using e
   obtain⟨b',e',gb⟩:=jl.1 rfl;obtain rfl:b=(b':Int):=by simpa using e'
   obtain⟨r1,h1,hb'⟩:=hb.wr hw (by omega);obtain⟨r2,h2,Gn⟩:=gb.wr gw (by omega);refine⟨_,rfl,PI ho hb'.back Gn.back hs h1 h2,⟨fun deep rest _ _ _ e=>by omega,fun deep rest hd hf hc _ hst => ?_⟩⟩;have za:ax ⟨#[58]⟩ (s :: (iT++rest))=false:=by rw[hs.sign];exact aS (TW o ho)
   rw[bN,dx];by_cases c:12<deep+e1
   · exact hb'.goes (rk o) deep _ h1 hr hd c za (Nv ho hs _)
   · obtain⟨vJ,a1,q1,k1,k2⟩:=hb'.back.goes (rk o) deep (s :: (iT++rest)) h1 hr (by omega) za (Nv ho hs _)
     have k3:=Gn.at (rk o+1) deep rest h2 hd (by omega) hc hst;unfold lH at k3;rw[ah (by omega)]at k3;obtain⟨f,hf'⟩:=k3;obtain⟨g',hg'⟩:=k2 (f+1) (.error 6) (by rw[qB,Mx s _ o ho hs.1 hs.2 _ hr,ah rfl,ag (by omega),List.tail_cons,hf'];rfl);exact .inr ⟨vJ,a1,q1,g',k1,hg'⟩
 | call base ns ks ts d h t l r ht h1 h2 hl hr ih =>
   refine⟨fun _ => ?_,fun h=>by cases h⟩;obtain⟨hb,hfa⟩:=ih.2 rfl;refine⟨_,rfl,PD hb ht h1 h2 hl hr,⟨fun deep rest hd hf hc _ => ?_,fun deep rest _ _ _ h=>by omega⟩⟩
   have hs:∀(s:ByteArray)(us:List ai),ax s (t :: us)=false:=by
    intro s us;unfold ax;simp only[ht];rfl
   unfold lH;rw[ag (by omega)];by_cases c:12≤deep
   · refine⟨1, ?_⟩
     rw[dx,dx,bN,pU,lX,hs,ag (by simp),ag (by omega),ag (by omega),ag (by omega),ag (by omega),ah ht,ag h1,ag h2,hl.sign,ah (by decide),ah c]
   · obtain ⟨f,hf'⟩:=hfa (deep+1) (r :: rest) (by omega) (by omega) (by rw[hr.sign];decide) (CV hr rest (by decide) 0)
     have hcl:ax ⟨#[41]⟩ (ts++r :: rest)=false:=by
      rcases hb with ⟨_,_,rfl,hd0⟩|⟨_,g1,_⟩
      · omega
      · exact g1 _
     refine⟨f+1, ?_⟩;rw[dx,dx,bN,pU,lX,hs,ag (by simp),ag (by omega),ag (by omega),ag (by omega),ag (by omega),ah ht,ag h1,ag h2,hl.sign,ah (by decide),ag c,List.tail_cons,hcl,ag (by simp),hf'];rfl
 | none base=>exact⟨fun h=>(by cases h),fun _=>⟨.inl ⟨rfl,rfl,rfl,rfl⟩,fun deep rest h1 h2=>by omega⟩⟩
 | one base ns a ts rk d h ih =>
   refine⟨fun h=>(by cases h),fun _ => ?_⟩;obtain⟨a',e,hb⟩:=ih.1 rfl;obtain rfl:a=(a':Int):=by simpa using e
   refine⟨PH hb.back,fun deep rest hd hf hc hs => ?_⟩;have h1:=hb.at 0 deep rest (by omega) hd hf hc hs;unfold lH at h1;rw[ah (by omega)]at h1;obtain⟨f,hf'⟩:=h1;exact⟨f+1,by rw[o8,dV,Nat.add_zero,hf'];rfl⟩
 | and base ns ms ks b ts us rk d1 d2 h hk c hc g ih jl =>
   refine⟨fun h=>(by cases h),fun _ => ?_⟩;obtain⟨hb,hfa⟩:=ih.2 rfl;obtain⟨b',e,gb⟩:=jl.1 rfl;obtain rfl:b=(b':Int):=by simpa using e
   refine⟨Pz hb hk hc gb.back,fun deep rest hd hf za hs => ?_⟩;rw[bN,dx];have hc1:ax ⟨#[58]⟩ (c :: (us++rest))=false:=by rw[hc.sign];decide
   have hs1:=CV hc (us++rest) (by decide) 0;by_cases c1:12<deep+d1
   · exact hfa deep _ hd c1 hc1 hs1
   · rcases hb with ⟨h,_⟩|⟨_,_,h2⟩
     · exact absurd h hk
     · have k1:=gb.at 0 deep rest (by omega) hd (by omega) za hs
       unfold lH at k1;rw[ah (by omega)]at k1;obtain⟨f,hf'⟩:=k1;exact h2 deep _ (by omega) hc1 hs1 (f+1) (.error 6) (by rw[hc.sign,ah (by decide),List.tail_cons,o8,hf'];rfl)
theorem agK {a:Int}{rk:Nat}(h:Sh false 0 ns [a] ts rk d)(hd:12<d)(e:ai)(he:e.kind=0):∃f,lW f (ts++[e])=some (.error 6):=by
 obtain⟨a',_,hb⟩:=(agL h).1 rfl;have hsg:∀s:ByteArray,ax s [e]=false:=by intro s;unfold ax;simp only[he];rfl
 have h1:=hb.at 0 0 [e] (by omega) (by omega) (by omega) (hsg _) (by
  intro m _ _;unfold fC
  have hf:(gp m).find? (fun p=>ax p.1 [e])=none:=by
   rw[List.find?_eq_none];intro p _;rw[hsg];simp
  rw[hf])
 unfold lH at h1;rw[ah (by omega)]at h1;obtain⟨f,hf⟩:=h1;exact⟨f,by unfold lW;rw[hf];rfl⟩
theorem aif (h:cO ns=true)(hm:∀n∈ns,n.num≤9223372036854775807):∃vs g,gJ (cz ns)=some vs∧(lW g vs=some (.ok ns)∨lW g vs=some (.error 6)):=by
 obtain⟨a,ts,rk,d,h1,h2⟩:=IW h hm;rw[Bq h1 h];by_cases hd:d≤12
 · obtain⟨vs,g,k1,k2⟩:=Ni h1 hd h2
   exact⟨vs,g,k1,.inl k2⟩
 · obtain⟨vs,e,k1,k2,k3⟩:=LY ts 0 ((Nh h1).1 rfl).1 h2
   obtain⟨g,hg⟩:=agK (h1.goto vs k3) (by omega) e k2;exact⟨vs++[e],g,k1,.inr hg⟩
theorem NL (h:cO ns=true)(hm:∀n∈ns,n.num≤9223372036854775807):cz ns≠[]:=by
 obtain⟨a,ts,rk,d,h1,h2⟩:=IW h hm;rw[Bq h1 h];obtain⟨_,⟨t,l,rfl,_⟩,_⟩:=(Nh h1).1 rfl;obtain⟨x,k,e,_⟩:=NI (h2 t (by simp));rw[gG,e];simp
theorem VP {sh:List Int}{c r:Int}{ac ar:Bool}(h:cK sh c r=true):aZ sh c r ac ar≠[]:=by
 unfold aZ;rw[ah h];intro e;exact tY _ (List.append_eq_nil_iff.1 e).2
theorem abL {b:Bool}{t:List Int}(h:t≠[]):jm b t≠[]:=by
 unfold jm;split
 · simp
 · exact h
theorem U7 {t:ByteArray}(h:t≠⟨#[]⟩):sb t≠[]:=by
 intro e;apply h;have h1:=bz t;rw[e]at h1;have h1:t.size=0:=h1.symm;cases t with
 | mk d =>
   have:d=#[]:=Array.eq_empty_of_size_eq_zero h1;rw[this]
theorem ael:∀o:Nat,o<11→rD o≠[]:=by decide
theorem Sz {n:Nd}(h:aH n=true)(hk:n.kind=5):bQ n.ref=true:=by
 unfold aH at h;split at h
 · cases h
 · simpa [hk]using h
theorem acG {n:Nd}(h:aH n=true)(hk:n.kind=1):0≤n.num:=by
 unfold aH at h;split at h
 · cases h
 · simpa [hk]using h
theorem agH (h:cO l=true)(h0:0≤i)(h1:i<l.length):bI l i≠[]:=by
 obtain⟨hnb, -⟩:=zM h h0 h1;obtain⟨-, -, -,b1,b2,hl⟩:=qX hnb;rw[vN h h0 h1 _ rfl];split
 · exact tY _
 split
 · simp
 split
 · split <;> simp
 split
 · simp
 split
 · exact VP (Sz hl ‹_›)
 split
 · simp
 split
 · simp
 split
 · simp
 · have:=ael (((nodeAt l i).kind - 9).toNat) (by omega)
   simp[this]
theorem Uo (h:cO l=true)(p:aB)(hp:j3 l p):kS l p≠[]:=by
 unfold kS;by_cases ht:p.t=⟨#[]⟩
 · obtain⟨h0,h1⟩:=hp ht
   rw[ah ht];exact abL (agH h h0 h1)
 · rw[ag ht];exact U7 ht
theorem Gm (h:cO l=true):∀ps:List aB,(∀p∈ps,j3 l p)→ps.length≤(ps.flatMap (kS l)).length
 | [],_=>aj _
 | p :: ps,hp=>by
   have ih:=Gm h ps fun q hq=>hp q (List.mem_cons_of_mem _ hq)
   have h1:=List.length_pos_iff.2 (Uo h p (hp p (by simp)));rw[pV,av,aX];omega
theorem Gh:∀(k u:Nat),u<10 ^ (k+1)→(aV u).length≤k+1
 | 0,u,h=>by rw[mr u (by simpa using h)];simp
 | k + 1,u,h=>by
   by_cases h1:u<10
   · rw[mr u h1];simp
   · rw[qi u h1,av,fE]
     have:=Gh k (u / 10) (by rw[Nat.pow_succ]at h;omega);omega
theorem Zh (n:Int):(bB n).length≤2:=by
 unfold bB;split
 · simp
 · split <;> simp
theorem zK (sh:List Int)(c r:Int)(ac ar:Bool):(aZ sh c r ac ar).length≤sh.length+8:=by
 unfold aZ;split
 · rename_i h
   unfold cK at h;rw[dH,aK]at h;have h1:=Gh 2 (r+1).toNat (by omega);have h2:=Zh c;have h3:(if sh=[]then ([]:List Int)else sh++[33]).length≤sh.length+1:=by split <;> simp
   have h4:∀b:Bool,(if b=true then [(36:Int)]else []).length≤1:=by intro b;split <;> simp
   have h5:=h4 ac;have h6:=h4 ar;simp only[av];omega
 · simp
theorem KC:∀l:List Int,(fe l).length≤2*l.length
 | []=>aj _
 | x :: l=>by
   have:=KC l;show((if x=34 then [34,34]else [x])++fe l).length≤_;rw[av,aX];have:(if x=34 then [34,34]else [x]:List Int).length≤2:=by split <;> simp
   omega
def mY(n:Nd):Nat:=2*n.text.size+n.ref.sh.size+n.af.sh.size+60
def qE(ns:List Nd):Nat:=(ns.map mY).sum
theorem EZ(a b:List Nd):qE (a++b)=qE a+qE b:=by unfold qE;simp
theorem IK(n:Nd):qE [n]=mY n:=by unfold qE;simp
theorem qI(t:ai)(ts:List ai):(eO (t :: ts)).length=(dA t).length+(eO ts).length:=by rw[gG,av]
theorem yu:eO []=[]:=rfl
theorem N9 {rk:Nat}(h:Wr n rk d ts d' ts'):(eO ts').length≤(eO ts).length+2:=by
 rw[IY h];unfold jm;split
 · simp
 · omega
theorem acF (h:mJ ts nd)(hm:nd.num≤9223372036854775807):(eO ts).length+4≤mY nd:=by
 cases h with
 | num t h =>
   have hm:t.num≤9223372036854775807:=hm;have h1:=Gh 18 t.num.toNat (by omega);rw[qI,yu];unfold dA mY;rw[ah h,dV];omega
 | text t h =>
   have h1:=KC (sb t.text);rw[bz]at h1;rw[qI,yu];unfold dA mY;rw[ag (by omega),ah h,dV,aX,av,fE];show _≤2*t.text.size+_+_+60;omega
 | yes t h g=>rw[qI,yu];unfold dA mY;rw[ag (by omega),ag (by omega),ag (by omega),ag (by omega),g,bz];show 4+0+4≤_;omega
 | no t h g=>rw[qI,yu];unfold dA mY;rw[ag (by omega),ag (by omega),ag (by omega),ag (by omega),g,bz];show 5+0+4≤_;omega
 | dead t h=>rw[qI,yu];unfold dA mY;rw[ag (by omega),ag (by omega),ag (by omega),ah h];show 5+0+4≤_;omega
 | ref t h =>
   have h1:=zK (sb t.sh) t.c t.r t.ac t.ar;rw[bz]at h1;rw[qI,yu];unfold dA mY;rw[ag (by omega),ag (by omega),ah h,dV];show _≤_+t.sh.size+_+60;omega
 | range t c u h hc g hs =>
   have h1:=zK (sb t.sh) t.c t.r t.ac t.ar;have h2:=zK (sb u.sh) u.c u.r u.ac u.ar;rw[bz]at h1 h2;rw[qI,qI,qI,yu,rQ hc,bz];unfold dA mY;rw[ag (by omega),ag (by omega),ah h,ag (by omega),ag (by omega),ah g,dV];show _+(1+_)+4≤_+t.sh.size+u.sh.size+60;omega
theorem agP {b:Bool}(h:Sh b base ns ks ts nK d):(∀n∈ns,n.num≤9223372036854775807)→(eO ts).length+(if b=true then 0 else 4)≤qE ns:=by
 induction h with
 | leaf base ts nd h=>intro hm;rw[IK];exact acF h (hm nd (by simp))
 | neg base ns a ts rk d h m hm d' ts' hw ih =>
   intro hn;have h1:=ih fun n hn'=>hn n (List.mem_append_left _ hn')
   have h2:=N9 hw;rw[ag (by decide)]at h1 ⊢;rw[qI,rQ hm,EZ,IK,bz];show 1+_+4≤_+mY _;unfold mY;omega
 | op base o ho ns ms a b ts us oo lZ d1 d2 h g s hs e1 e2 ts' iT hw gw ih jl =>
   intro hn;have h1:=ih fun n hn'=>hn n (List.mem_append_left _ hn')
   have h2:=jl fun n hn'=>hn n (List.mem_append_right _ (List.mem_append_left _ hn'))
   have h3:=N9 hw;have h4:=N9 gw
   have h5:(jW.getD o ⟨#[]⟩).size≤2:=by
    have:∀o:Nat,o<11→(jW.getD o ⟨#[]⟩).size≤2:=by decide
    exact this o ho
   rw[ag (by decide)]at h1 h2 ⊢;rw[qH,av,qI,rQ hs,EZ,EZ,IK,bz];unfold mY;omega
 | call base ns ks ts d h t x r ht h1 h2 hl hr ih =>
   intro hn;have g1:=ih fun n hn'=>hn n (List.mem_append_left _ hn')
   rw[ah rfl]at g1;rw[ag (by decide),qI,qI,qH,av,qI,rQ hl,rQ hr,EZ,IK,yu,bz,bz];have:dA t=sb t.text:=by unfold dA;rw[ht];rfl
   rw[this,bz];unfold mY;show t.text.size+(1+(_+(1+0)))+4≤_+(2*t.text.size+_+_+60);omega
 | none base=>intro _;rw[ah rfl,yu];exact eP _
 | one base ns a ts rk d h ih =>
   intro hn;have:=ih hn;rw[ag (by decide)]at this;rw[ah rfl];omega
 | and base ns ms ks b ts us rk d1 d2 h hk c hc g ih jl =>
   intro hn;have h1:=ih fun n hn'=>hn n (List.mem_append_left _ hn')
   have h2:=jl fun n hn'=>hn n (List.mem_append_right _ hn')
   rw[ah rfl]at h1;rw[ag (by decide)]at h2;rw[ah rfl,qH,av,qI,rQ hc,EZ,bz];show _+(1+_)+0≤_;omega
theorem Un (h:cO ns=true)(hm:∀n∈ns,n.num≤9223372036854775807):(cz ns).length+4≤qE ns:=by
 obtain⟨a,ts,rk,d,h1,h2⟩:=IW h hm;rw[Bq h1 h];have:=agP h1 hm;rw[ag (by decide)]at this;exact this
theorem PR:∃j,Tryz.prog.info? 82=some j∧j.size=2:=by
 have h:(Tryz.prog.info? 82).map (·.size)=some 2:=by kernel_rfl
 obtain⟨j,h1,h2⟩:=Option.map_eq_some_iff.1 h;exact⟨j,h1,h2⟩
structure iK (w w':World)(b:Nat):Prop where
 os:w'.os=w.os
 tape:w'.tape=w.tape
 output:w'.output=w.output
 size:w.heap.size≤w'.heap.size
 block:∀k,k<w.heap.size→k≠b→(k<b∨∀cur fr,w.heap[k]? ≠ some (.cells cur 5 fr))→w'.heap[k]? = w.heap[k]?
theorem iK.refl(w:World)(b:Nat):iK w w b:=⟨rfl,rfl,rfl,aj _,fun _ _ _ _=>rfl⟩
theorem iK.trans (h:iK w w1 b)(k:iK w1 w2 b):iK w w2 b :=
 ⟨k.os.trans h.os,k.tape.trans h.tape,k.output.trans h.output,bO h.size k.size,fun j hj hb hr=>by
  have h1:=h.block j hj hb hr;rw[k.block j (eZ hj h.size) hb (hr.imp id fun hn cur fr=>by rw[h1];exact hn cur fr)];exact h1⟩
theorem iK.setCell (j:Nat)(v:Value):iK w (w.setCell ⟨b,j,none⟩ v) b :=
 have h:=grownBy.gU (grownBy.fP w (some b)) j v
 ⟨h.os,h.tape,h.output,h.size,fun k hk hkb _=>h.block k hk (fun e=>hkb (dU e))⟩
theorem iK.grown {g:Nat}(h:w.grownBy w' (some g))(hg:∃cur fr,w.heap[g]? = some (.cells cur 5 fr))(hb:b<g):iK w w' b :=
 ⟨h.os,h.tape,h.output,h.size,fun k hk hkb hr=>h.block k hk (by
  intro e;injection e with e;subst e;rcases hr with hr|hr
  · omega
  · obtain⟨cur,fr,hx⟩:=hg;exact hr cur fr hx)⟩
theorem agc {P:Program}{t tx ty e bytes:Nat}(dh:Elem P t e size bytes)(E:Enc α size)(base:Nat)(v:Value)(xs:List α)(iG:Own E e w base v xs)
 (x:Value) (m:Nat) (ys:List α) (hl:ys.length=m) (hs:Src P size tx x m (E.all ys) w) (hb:(xs.length+m)*bytes≤140737488355328) (hb2:xs.length+m≤maxLen) (jT:base≤w.heap.size) :
 ∃v' w',(Builtin.append_ #[t,tx] ty #[v,x]).run P w = .ok v' w'∧Own E e w' base v' (xs++ys)∧w.grownBy w' v.ownBlock:=by
 obtain⟨z,hi,hz⟩:=dh.inf;obtain⟨i,hi1,hi2,hi3,hi4⟩:=info_parts hi;have ht:=dh.und;subst hi3;subst hi4;have hlx:=E.mP xs;have AO:=E.mP ys;rw[hl]at AO;have hlen:(E.all (xs++ys)).length=(xs.length+m)*i.size:=by rw[E.mP,av,hl]
 have Lp:xs.length+m≤9223372036854775807:=by simp only[maxLen]at hb2;omega
 have grown:∀(old:Nat),old<xs.length+m →
  Own E e (w.drew.alloc (.cells ((E.all xs++E.all ys).toArray++Builtin.zeroCells z.cells (grownCap w (xs.length+m) old e - (xs.length+m))) e)) base (.slice (some ⟨w.heap.size,0,none⟩) (xs.length+m) (grownCap w (xs.length+m) old e)) (xs++ys) ∧
  ∀r,w.grownBy (w.drew.alloc (.cells ((E.all xs++E.all ys).toArray++Builtin.zeroCells z.cells (grownCap w (xs.length+m) old e - (xs.length+m))) e)) r:=by
  intro old ho;have hge:=grownCap_ge w (xs.length+m) old e;have hcm:grownCap w (xs.length+m) old e≤maxLen:=grownCap_le_maxLen w (xs.length+m) old e hb2;refine⟨?_,fun r=>grownBy.below' (grownBy.fP _ _) (((ak _ _).drew).alloc (aj _) _)⟩;unfold Own;rw[av,hl];refine⟨hlen,.inr ⟨w.heap.size,_,_,rfl,jT,heap_alloc_new w.drew _,hge,hcm, ?_, ?_⟩⟩
  · simp only[Array.size_append,List.size_toArray,size_zeroCells,hz,av,hlx,AO, ← Nat.add_mul]
    congr 1;omega
  · simp only[Array.toList_append]
    rw[← E.all_append, ← hlen];exact List.take_left
 have h0:=iG;rcases iG.2 with ⟨rfl,hn⟩|⟨g,cap,cur,rfl,hbg,hg,hnc,hcm,hcs,Ey⟩
 · have hx:xs=[]:=kV hn
   subst hx;by_cases hm:m=0
   · subst hm
     have hy:ys=[]:=kV hl;subst hy;refine⟨.slice none 0 0,w, ?_,Own.nil E e w base,grownBy.fP _ _⟩;have hc:=hs.cells;have hll:=hs.len;have hc':(Builtin.firstCells i.size 0 x).run P w = .ok #[] w:=hc
     rcases hs.kind with ⟨e',hk⟩|hk <;>
      simp[Builtin.append_,run_underlying ht,run_underlying hk,sizeOf,typeInfo,hi1,hll,hc']
   · have hgr:=grown 0 (by simp;omega)
     have hr:=run_append_grow_src (P:=P) w t tx ty e i z ht hi1 hi2 none 0 0 [] (by simp[Builtin.firstCells]) x m (E.all ys) hs (by omega) (by simp at Lp;omega) (growslice_fits (by omega) (by simpa using hb));simp only[dV,Nat.zero_add,iy,Enc.all,List.flatMap_nil]at hgr hr ⊢;exact⟨_,_,hr,hgr.1,hgr.2 _⟩
 · by_cases AV:xs.length+m≤cap
   · have AB:xs.length*i.size+(E.all ys).length≤cur.size:=by rw[AO,hcs, ← Nat.add_mul];exact Nat.mul_le_mul_right _ AV
     have hst:=run_storeCells_at P g (xs.length*i.size) e (E.all ys) 0 cur w hg (by omega) (E.ym ys);simp only[Nat.add_zero]at hst;refine⟨.slice (some ⟨g,0,none⟩) (xs.length+m) cap,w.setRow g (cur.toList.take (xs.length*i.size)++E.all ys++cur.toList.drop (xs.length*i.size+(E.all ys).length)).toArray, ?_, ?_, ?_⟩
     · rcases hs.kind with ⟨e',hk⟩|hk <;> simp[Builtin.append_,run_underlying ht,run_underlying hk,sizeOf,typeInfo,hi1,hs.len,AV,hs.cells,Addr.add_lit,hst]
     · unfold Own
       rw[av,hl];refine⟨hlen,.inr ⟨g,cap,_,rfl,hbg,setRow_heap w g cur _ e _ hg,AV,hcm, ?_, ?_⟩⟩
       · simp only[List.size_toArray,av,gX,lG,Array.length_toList]
         omega
       · rw[Ey, ← hlen, ← E.all_append]
         exact List.take_left
     · exact⟨rfl,rfl,rfl,by simp,fun k hk hne=>setRow_other w g k _ (fun e=>hne (congrArg some e))⟩
   · have hold:(Builtin.firstCells i.size xs.length (.slice (some ⟨g,0,none⟩) xs.length cap)).run P w.drew = .ok (E.all xs).toArray w.drew :=
      run_firstCells_some w.drew i.size xs.length ⟨g,0,none⟩ xs.length cap (E.all xs) hlx (World.ownsRow.cells (w:=w.drew) h0 (g:=g) rfl)
     have hgr:=grown cap (by omega);have hr:=run_append_grow_src (P:=P) w t tx ty e i z ht hi1 hi2 (some ⟨g,0,none⟩) xs.length cap (E.all xs) hold x m (E.all ys) hs (by omega) (by omega) (growslice_fits (by omega) hb);exact⟨_,_,hr,hgr.1,hgr.2 _⟩
theorem Wn {P:Program}{t tx e bytes:Nat}{ops:Array Oper}{rest:List Oper}{o:Oper}{a:Act}{Q:Exit→Act→World→Prop}(dh:Elem P t e size bytes)(E:Enc α size)
 (hgd:o.guard=none) (s x:Operand) (ho:o.op = .call { callee := .builtin .append,args:=#[s,x],argTypes:=#[t,tx] }) (base:Nat) (v:Value) (xs:List α)
 (hs:a.eval s=v) (iG:Own E e w base v xs) (y:Value) (m:Nat) (ys:List α) (hx:a.eval x=y) (hl:ys.length=m) (Lr:Src P size tx y m (E.all ys) w)
 (hb:(xs.length+m)*bytes≤140737488355328) (hb2:xs.length+m≤maxLen) (jT:base≤w.heap.size)
 (h:∀(v':Value)(w':World),Own E e w' base v' (xs++ys)→w.grownBy w' v.ownBlock→wpList P ops Q rest (a.put o.dst v') w'):wpList P ops Q (o :: rest) a w:=by
 obtain⟨v',w',q8,h2,h3⟩:=agc (ty:=o.type) dh E base v xs iG y m ys hl Lr hb hb2 jT;refine wpList_plain hgd fun _ hK => ?_
 unfold Oper.wp execOp;simp only[ho,resolve,invoke,builtin,Sem.run_bind,Sem.run_pure,Result.andThen_ok,List.map_toArray,jM,List.map_nil,hs,hx,q8];exact hK _ _ (h v' w' h2 h3)
theorem MF {xs:List Int}(h:qc w b v xs)(g:Nat)(hg:v.ownBlock=some g):b≤g∧∃cur fr,w.heap[g]? = some (.cells cur 5 fr):=by
 rcases h.2 with ⟨h1,_⟩|⟨g',qf,cur,h1,h2,h3,_⟩
 · rw[h1]at hg;cases hg
 · rw[h1]at hg
   have:g'=g:=dU hg;subst this;exact⟨h2,cur,_,h3⟩
theorem H5 {E:Enc α size}{e:TypeId}{xs:List α}(h:Own E e w b v xs):∃ao n c,v = .slice ao n c:=by
 rcases h.2 with ⟨h1,_⟩|⟨g,cap,cur,h1,_⟩
 · exact⟨_,_,_,h1⟩
 · exact⟨_,_,_,h1⟩
theorem iK.own {xs:List Int}(h:qc w (b+1) v xs)(hg:w.grownBy w' v.ownBlock):iK w w' b:=by
 cases hv:v.ownBlock with
 | none =>
   rw[hv]at hg;exact⟨hg.os,hg.tape,hg.output,hg.size,fun k hk _ _=>hg.block k hk (by simp)⟩
 | some g =>
   rw[hv]at hg;obtain⟨h1,h2⟩:=MF h g hv;exact iK.grown hg h2 (by omega)
end Go.Proofs.YtaobhjliflomaaaGreatDoor
