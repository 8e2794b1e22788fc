import Derived.Test.YtdnooocmlhcpkaaGreatDoorMD10
import Derived.Test.YtdnooocmlhcpkaaGreatDoorCards
import Derived.Test.YtdnooocmlhcpkaaGreatDoorTie
import Derived.Shelf.Vars
import Derived.Deep.Strs
import Derived.Stop.LaidErr
import Derived.Lay
set_option maxRecDepth 100000
set_option maxHeartbeats 64000000
namespace Go.Proofs.YtdnooocmlhcpkaaGreatDoor
open Go.RowKit
def jc(w:World)(b:Nat)(v:Value)(e:Int):Prop:=w.heap[b]? = some (.cells #[v,.int .i64 e] 100)
theorem jc.lt{w:World}{b:Nat}{v:Value}{e:Int}(h:jc w b v e):b<w.heap.size:=(dZ.1 h).1
theorem jc.below{w w':World}{B b:Nat}{v:Value}{e:Int}(h:jc w b v e)(hb:Below B w w')(hB:b<B):jc w' b v e:=by unfold jc;rw[hb.block b hB];exact h
theorem jc.facts {w:World}{b:Nat}{v:Value}{e:Int}(h:jc w b v e):w.cell? ⟨b,0,none⟩=some v∧w.cell? ⟨b,1,none⟩=some (.int .i64 e) :=
 ⟨by rw[cell_of_row w b 0 _ _ _ h];rfl,by rw[cell_of_row w b 1 _ _ _ h];rfl⟩
theorem jc.bK{w:World}{b:Nat}{v:Value}{e:Int}(h:jc w b v e):w.frozen? ⟨b,0,none⟩=false∧w.frozen? ⟨b,1,none⟩=false:=⟨frozen_of_row w b 0 _ _ h,frozen_of_row w b 1 _ _ h⟩
theorem jc.qH {w:World}{b:Nat}{v0:Value}{e0:Int}(h:jc w b v0 e0)(v:Value)(e:Int):jc ((w.setCell ⟨b,0,none⟩ v).setCell ⟨b,1,none⟩ (.int .i64 e)) b v e:=by
 have h1:(w.setCell ⟨b,0,none⟩ v).heap[b]? = some (.cells #[v,.int .i64 e0] 100):=by rw[heap_setCell_same w b 0 _ _ _ h];rfl
 unfold jc;rw[heap_setCell_same _ b 1 _ _ _ h1];rfl
theorem jc.new(w:World)(v:Value)(e:Int):jc (w.alloc (.cells #[v,.int .i64 e] 100)) w.heap.size v e:=(jw w _).1
theorem aaz:(Tryz.prog.info? 100).map (·.size)=some 2:=by kernel_rfl
theorem EJ {w:World}{b:Nat}{v:Value}{e:Int}(h:jc w b v e)(fn:Func)(tmps:Array Value)(p:Tmp)(hf:fn.results=#[.cell p 100])(hp:tmps.getD p undef = .pointer (some ⟨b,0,none⟩)) :
 (results fn tmps).run Tryz.prog w = .ok (.agg #[v,.int .i64 e]) w :=
 results_cell_row hf tmps w b _ _ _ _ hp h Tryz.underlying100 rfl aaz
theorem E5:Tryz.f62.results=#[.cell 2 100]:=by kernel_rfl
theorem DZ{B:Nat}{a w:World}{g:Nat}(h:Below B a w)(hg:B≤g)(v0 v1:Value):Below B a ((w.setCell ⟨g,0,none⟩ v0).setCell ⟨g,1,none⟩ v1):=(h.setCell hg _).setCell hg _
def TV (res:Except Int (List Nd))(w:World)(e:Ending)(w':World):Prop :=
 Below w.heap.size w w'∧((∃c,res = .error c∧(c=4∨c=5∨c=6)∧e = .returned (.agg #[.slice none 0 0,.int .i64 c])) ∨
  (∃ns g cap vs,res = .ok ns∧vs.map aB.n=ns∧e = .returned (.agg #[.slice (some ⟨g,0,none⟩) vs.length cap,.int .i64 0])∧jL w' w.heap.size (.slice (some ⟨g,0,none⟩) vs.length cap) vs∧vs.length≤1000))
theorem Y0 {s:ByteArray}{w w1:World}{e:Ending}(h:DL s w e w1)(h1:s.size≤300)(ts:List af)(h2:fG (sb s)=some ts):Below w.heap.size w w1∧∃v,e = .returned (.agg #[v,.int .i64 0])∧qy w1 w.heap.size v ts:=by
 rcases h with ⟨hb,⟨h,_⟩|⟨_,h,_⟩|⟨_,ts',v,h3,h4,h5⟩⟩
 · omega
 · rw[h2]at h;cases h
 · rw[h2]at h3;injection h3 with h3;subst h3;exact⟨hb,v,h4,h5⟩
theorem O9 {s:ByteArray}{w w1:World}{e:Ending}(h:DL s w e w1)(h1:300<s.size∨(s.size≤300∧fG (sb s)=none)):Below w.heap.size w w1∧e = .returned (.agg #[.slice none 0 0,.int .i64 (if 300<s.size then 4 else 5)]):=by
 rcases h with ⟨hb,⟨h,he⟩|⟨h,h0,he⟩|⟨h,ts',v,h3,_⟩⟩
 · rw[if_pos h];exact⟨hb,he⟩
 · rw[if_neg (by omega)];exact⟨hb,he⟩
 · rcases h1 with h1|⟨_,h1⟩
   · omega
   · rw[h1]at h3;cases h3
theorem ZU{w:World}{B:Nat}{v:Value}{us:List aB}(h:jL w B v us)(n:Nat):jL (w.drewN n) B v us:=h
theorem jc.fr {w w':World}{b c:Nat}{v:Value}{e:Int}(h:jc w c v e)(hf:Fr w w' b)(hc:c<b):jc w' c v e:=by
 unfold jc;rw[hf.block c h.lt (by omega) (.inl hc)];exact h
theorem QG (s:ByteArray)(w:World)(c:Int)(hc:c=4∨c=5)(hl:∀w e w1,DL s w e w1→Below w.heap.size w w1∧e = .returned (.agg #[.slice none 0 0,.int .i64 c])) :
 Calls Tryz.prog 62 #[.string s] w fun e w'=>Below w.heap.size w w'∧e = .returned (.agg #[.slice none 0 0,.int .i64 c]):=by
 have HL:=aa hl;have hc0:(c != 0)=true:=by rw[bne_iff_ne];omega
 have qX:=aa (jc.new w (.slice none 0 0) 0);have aR:=aa (show Below w.heap.size w (w.alloc (.cells #[.slice none 0 0,.int .i64 0] 100))from(ai _ _).alloc (ag _) _);have nZ:=aa (fun w=>Qh s w);clear hl;go_enter Tryz.func62,Tryz.ntmps62;go_upto_region 1 with (fail)
 generalize w.alloc (.cells #[.slice none 0 0,.int .i64 0] 100)=w1 at qX aR ⊢;go_upto_region 2 with (go_at_call 98;((with_reducible refine(nZ.o _).mono ?_);intro e w2 hx;obtain⟨hb,he⟩:=HL.o _ _ _ hx;subst he;have HB2:=aa (aR.o.trans (hb.mono aR.o.size));have zF:=aa (qX.o.below hb qX.o.lt);clear hb hx))
 have hB3:Below w2.heap.size w2 (w2.alloc (.cells #[.slice none 0 0,.int .i64 c] 148)):=(ai _ _).alloc (ag _) _;have HT3:=kE.new w2 (.slice none 0 0) c;have HB3:=aa (HB2.o.trans (hB3.mono HB2.o.size));have uG:=aa (zF.o.below hB3 zF.o.lt);clear hB3;generalize hb2:w2.heap.size=b2 at HT3 ⊢;generalize w2.alloc (.cells #[.slice none 0 0,.int .i64 c] 148)=w3 at HT3 HB3 uG ⊢;clear hb2;obtain⟨x0,x1⟩:=HT3.facts;obtain⟨y0,y1⟩:=uG.o.facts;obtain⟨z0,z1⟩:=uG.o.bK;go_wp2_with fail
 exact bodyPost_ret (EJ (uG.o.qH (.slice none 0 0) c) _ _ 2 E5 rfl) rfl ⟨DZ HB3.o (ag _) _ _,rfl⟩
theorem acb (s:ByteArray)(w:World)(res:Except Int (List Nd))(hp:nE s res):Calls Tryz.prog 62 #[.string s] w (TV res w):=by
 rcases hp with ⟨h1,rfl⟩|⟨h1,h2,rfl⟩|⟨h1,ts,f,h2,h3⟩
 · refine(QG s w 4 (.inl rfl) (fun w e w1 h=>by have:=O9 h (.inl h1);rw[if_pos h1]at this;exact this)).mono ?_
   rintro e w' ⟨hb,rfl⟩;exact⟨hb,.inl ⟨4,rfl,.inl rfl,rfl⟩⟩
 · refine(QG s w 5 (.inr rfl) (fun w e w1 h=>by have:=O9 h (.inr ⟨h1,h2⟩);rw[if_neg (by omega)]at this;exact this)).mono ?_
   rintro e w' ⟨hb,rfl⟩;exact⟨hb,.inl ⟨5,rfl,.inr (.inl rfl),rfl⟩⟩
 obtain⟨hgood,hfit⟩:=Ey s ts h2;have hlen:=OZ s ts h2;have hne:=List.length_pos_iff.2 (I5 s ts h2);have Bh:=aa hfit;have qX:=aa (jc.new w (.slice none 0 0) 0);have aR:=aa (show Below w.heap.size w (w.alloc (.cells #[.slice none 0 0,.int .i64 0] 100))from(ai _ _).alloc (ag _) _);have nZ:=aa (fun w=>(Qh s w).mono fun e w1 h=>Y0 h h1 ts h2);unfold mF at h3;have H3:=aa h3;obtain⟨nt,hnt⟩:∃nt,ts.length=nt:=⟨_,rfl⟩;have kG:=aa hnt;rw[hnt]at hlen hne;clear h2 h3 hgood hfit hnt;go_enter Tryz.func62,Tryz.ntmps62;go_upto_region 1 with (fail)
 generalize w.alloc (.cells #[.slice none 0 0,.int .i64 0] 100)=w1 at qX aR ⊢;go_upto_region 2 with (go_at_call 98;((with_reducible refine(nZ.o _).mono ?_);rintro e w2 ⟨hb,tv,rfl,ho⟩;obtain⟨g1,fe,qF,hg0,hg1, -, -⟩:=Own.some ho (by rw[kG.o];exact hne);rw[kG.o]at qF;subst qF;have HB2:=aa (aR.o.trans (hb.mono aR.o.size));have zF:=aa (qX.o.below hb qX.o.lt);have jX:=aa ho;clear hb ho))
 have hB3:Below w2.heap.size w2 (w2.alloc (.cells #[.slice (some ⟨g1,0,none⟩) nt fe,.int .i64 0] 148)):=(ai _ _).alloc (ag _) _;have HT3:=kE.new w2 (.slice (some ⟨g1,0,none⟩) nt fe) 0;have HB3:=aa (HB2.o.trans (hB3.mono HB2.o.size));have uG:=aa (zF.o.below hB3 zF.o.lt);have fA:=aa (jX.o.below hB3 (ag _));have hg3:g1<(w2.alloc (.cells #[.slice (some ⟨g1,0,none⟩) nt fe,.int .i64 0] 148)).heap.size:=by simp;omega
 clear hB3 HB2 zF jX nZ hg0 hg1;generalize hb2:w2.heap.size=b2 at HT3 ⊢;generalize w2.alloc (.cells #[.slice (some ⟨g1,0,none⟩) nt fe,.int .i64 0] 148)=w3 at HT3 HB3 uG fA hg3 ⊢;clear hb2;obtain⟨x0,x1⟩:=HT3.facts;clear HT3;go_upto_region 5 with (fail)
 have hB4:Below w3.heap.size w3 (w3.alloc (.cells #[.slice (some ⟨g1,0,none⟩) nt fe,.int .i64 0,.int .i64 0,.int .i64 0,.slice none 0 0] 152)):=(ai _ _).alloc (ag _) _;have BO:(w3.alloc (.cells #[.slice (some ⟨g1,0,none⟩) nt fe,.int .i64 0,.int .i64 0,.int .i64 0,.slice none 0 0] 152)).heap[w3.heap.size]? = some (.cells #[.slice (some ⟨g1,0,none⟩) nt fe,.int .i64 0,.int .i64 0,.int .i64 0,.slice none 0 0] 152):=(jw w3 _).1;have bG:=aa (HB3.o.trans (hB4.mono HB3.o.size));have Gm:=aa (uG.o.below hB4 uG.o.lt);have l9:=aa (fA.o.below hB4 (ag _));have hpb:=uG.o.lt;have hzb:=HB3.o.size;clear hB4 x0 x1;generalize w3.alloc (.cells #[.slice (some ⟨g1,0,none⟩) nt fe,.int .i64 0,.int .i64 0,.int .i64 0,.slice none 0 0] 152)=w4 at BO bG Gm l9 ⊢;generalize w3.heap.size=b at BO hg3 hpb hzb ⊢
 have HP:=aa (show aX w4 b (.slice (some ⟨g1,0,none⟩) nt fe) ts 0 ((0:Nat):Int) 0 (.slice none 0 0) []from
  ⟨BO,⟨g1,fe,by rw[kG.o],hg3,l9.o.mono (cu _)⟩,jL.nil _ _,by rw[kG.o];exact hne,Bh.o,by rw[kG.o];omega,cu _⟩)
 clear BO l9 Bh fA HB3 uG aR qX;have hB0:w.heap.size≤b:=by omega
 rcases dQ H3.o with ⟨c,g2,rfl⟩|⟨ns,a,r,g2,g3⟩
 · have HX:=aa (show Calls Tryz.prog 99 #[.pointer (some ⟨b,0,none⟩),.int .i64 0] w4 (cB (0+6*0) (.error c) w4 b (.slice (some ⟨g1,0,none⟩) nt fe) ts 0 [])from(Qw f).1 0 0 _ w4 b _ ts 0 _ [] (by omega) (by omega) HP.o (ag _) g2)
   clear g2 H3;go_upto_region 6 with (go_at_call 99;((with_reducible refine HX.o.mono ?_);intro e w5 ho;obtain⟨hf,hc,x,rfl,p5,d5,ni,dx,hk5,gU, -, -, -⟩:=ho.bad rfl;have dU:=aa (bG.o.trans (hf.toBelow hB0 bG.o.size));have wN:=aa (Gm.o.fr hf hpb);have bq:=aa gU;have HC:=aa hc;clear hf hc ho hk5 gU))
   obtain⟨c0,c1,c2,c3,c4⟩:=bq.o.facts;obtain⟨y0,y1⟩:=wN.o.facts;obtain⟨z0,z1⟩:=wN.o.bK;have hc0:(c == 0)=false:=by rw[beq_eq_false_iff_ne];rcases HC.o with h|h <;> omega
   have hc1:(c != 0)=true:=by rw[bne,hc0];rfl
   go_quiet (fail)
   go_wp2_with fail
   exact bodyPost_ret (EJ ((show jc (w5.drewN nq) w.heap.size (.slice none 0 0) 0 from wN.o).qH (.slice none 0 0) c) _ _ 2 E5 rfl) rfl ⟨DZ (oF dU.o nq) (ag _) _ _,.inl ⟨c,rfl,.inr HC.o,rfl⟩⟩
 · have HX:=aa (show Calls Tryz.prog 99 #[.pointer (some ⟨b,0,none⟩),.int .i64 0] w4 (cB (0+6*0) (.ok (ns,a,r)) w4 b (.slice (some ⟨g1,0,none⟩) nt fe) ts 0 [])from(Qw f).1 0 0 _ w4 b _ ts 0 _ [] (by omega) (by omega) HP.o (ag _) g2)
   have hns:=((xC f).1 _ _ _ _ _ _ _ g2).2.2;have H4:=aa g3;clear g2 g3 H3;go_upto_region 6 with (go_at_call 99;((with_reducible refine HX.o.mono ?_);intro e w5 ho;obtain⟨hf,rfl,p5,ni,dx,kg,kr,hk5,gU, -⟩:=ho.good rfl;have dU:=aa (bG.o.trans (hf.toBelow hB0 bG.o.size));have wN:=aa (Gm.o.fr hf hpb);have bq:=aa gU;have HD5:=aa kg;have jK:=aa kr;clear hf ho kg kr hk5 gU))
   obtain⟨c0,c1,c2,c3,c4⟩:=bq.o.facts;obtain⟨gt,ct,t,qF,ht,hd, -,k0, -⟩:=bq.o.tok;injection qF with qF htl htc;injection qF with qF;injection qF with qF;subst qF;have h4:=H4.o;rw[← HD5.o,hd]at h4;have xc:=bq.o.lt;obtain⟨g5,cap5,rfl, -, -, -, -⟩:=Own.some bq.o.nodes.1 (show 0<(([]:List aB)++dx).length by rw[fQ, ← dN (f:=aB.n),jK.o];omega);have hi1:(0:Int)≤(p5:Int):=by omega
   have hi2:(p5:Int)<(nt:Int):=by rw[kG.o]at xc;omega
   obtain⟨kd,hkd⟩:∃kd,t.kind=kd:=⟨_,rfl⟩;rw[hkd]at k0;clear HX ht hd H4 htl htc xc;by_cases h0:t.kind=0
   · rw[show uS (t :: ts.drop (p5+1))=t.kind from rfl,if_pos h0]at h4
     injection h4 with h4;have HR:=aa h4.symm;have e0:(kd != 0)=false:=by rw[← hkd,h0];rfl
     clear h4 h0 hkd;go_quiet (fail)
     obtain⟨y0,y1⟩:=wN.o.facts;obtain⟨z0,z1⟩:=wN.o.bK;go_wp2_with fail
     have uE:=aa (ZU bq.o.nodes nq);exact bodyPost_ret (EJ ((show jc (w5.drewN nq) w.heap.size (.slice none 0 0) 0 from wN.o).qH _ 0) _ _ 2 E5 rfl) rfl ⟨DZ (oF dU.o nq) (ag _) _ _,.inr ⟨ns,g5,cap5,([]:List aB)++dx,HR.o,by rw[fQ];exact jK.o,rfl,((uE.o.set (by omega) _ _).set (by omega) _ _).mono (by omega),by have h1:=bq.o.cnt;have h2:=kG.o;omega⟩⟩
   · rw[show uS (t :: ts.drop (p5+1))=t.kind from rfl,if_neg h0]at h4
     injection h4 with h4;have HR:=aa h4.symm;have e0:(kd != 0)=true:=by rw[bne_iff_ne, ← hkd];exact h0
     clear h4 h0 hkd;go_quiet (fail)
     have gT:Below w5.heap.size w5 (w5.drewN nq):=oF (ai _ _) nq;have bM:=aa (bq.o.below gT);have lI:=aa (oF dU.o nq);have Lc:=aa (show jc (w5.drewN nq) w.heap.size (.slice none 0 0) 0 from wN.o);have qV:=aa (zb bM.o 5);clear c0 c1 c2 c3 c4 k0 gT;generalize w5.drewN nq=w6 at bM lI Lc qV ⊢;go_wp2_with (go_at_call 100;((with_reducible refine qV.o.mono ?_);rintro e w7 ⟨rfl,h1,h2⟩;have qP:=aa (lI.o.trans (h1.toBelow hB0 lI.o.size));have Gn:=aa (Lc.o.fr h1 hpb);obtain⟨c0,c1,c2,c3,c4⟩:=(aX.Jk h2).facts;obtain⟨y0,y1⟩:=Gn.o.facts;obtain⟨z0,z1⟩:=Gn.o.bK;clear h1 h2 c0 c1 c2 c4))
     exact bodyPost_ret (EJ (Gn.o.qH (.slice none 0 0) 5) _ _ 2 E5 rfl) rfl ⟨DZ qP.o (ag _) _ _,.inl ⟨5,HR.o,.inr (.inl rfl),rfl⟩⟩
theorem yT (w:World)(n:Nd)(A:Option Addr)(m c:Nat):∃w1,w.alloc (.cells #[.int .i64 n.kind,.int .i64 n.num,.string n.text,.string n.ref.sh,.int .i64 n.ref.c,.int .i64 n.ref.r,.bool n.ref.ac,.bool n.ref.ar,.string n.ae.sh,.int .i64 n.ae.c,.int .i64 n.ae.r,.bool n.ae.ac,.bool n.ae.ar,.slice A m c] 48)=w1∧aH w1 w.heap.size n (.slice A m c)∧Below w.heap.size w w1 :=
 ⟨_,rfl,aH.new w n _,(ai _ _).alloc (ag _) _⟩
theorem abe (n:Nd)(hk:n.kind=1)(_hs:n.text.size≤1000000)(_hr:n.ref.sh.size≤1000000)(_ht:n.ae.sh.size≤1000000)(bU:aD n=true)(A:Option Addr)(m c:Nat)(w:World):Calls Tryz.prog 84 #[.agg #[.int .i64 n.kind,.int .i64 n.num,.string n.text,.string n.ref.sh,.int .i64 n.ref.c,.int .i64 n.ref.r,.bool n.ref.ac,.bool n.ref.ar,.string n.ae.sh,.int .i64 n.ae.c,.int .i64 n.ae.r,.bool n.ae.ac,.bool n.ae.ar,.slice A m c]] w fun e w'=>e = .returned (.bool (aD n))∧Below w.heap.size w w':=by
 have bX:=aa bU;clear bU;obtain⟨w1,hw1,hx,hb⟩:=yT w n A m c;have HB:=aa hb;have fT:=aa (fun w=>pW n.ref w);have ed:=aa (fun w=>pW n.ae w);have HK:=aa hk;clear hk;go_enter Tryz.func84,Tryz.ntmps84;go_upto_region 1 with (fail)
 clear hw1 hb;generalize hb0:w.heap.size=b0 at hx ⊢;obtain⟨x0,x1,x2,x3,x4,x5,x6,x7,az,aW,aT,aU,aV,aP⟩:=hx.cells;have HX:=aa hx;clear hx;have hk:=HK.o;rw[hk]at x0;by_cases htext:n.text=⟨#[]⟩;rotate_left
 · have t0:¬ n.text.toList=[]:=by rw[← nL];exact nX _ _ htext
   have t1:n.text.toList.isEmpty=false:=by simpa using t0
   have HR:=aa (show aD n=false by unfold aD;simp[hk,htext]);exact absurd HR.o (by rw[bX.o];decide)
 have t0:=nL;rw[htext]at x2;cases hq1:gX n.ref
 · have nC:=aa hq1
   have HR:=aa (show aD n=false by unfold aD;simp[hk,htext,hq1]);exact absurd HR.o (by rw[bX.o];decide)
 have nC:=aa hq1;cases hq2:gX n.ae
 · have lK:=aa hq2
   have HR:=aa (show aD n=false by unfold aD;simp[hk,htext,hq1,hq2]);exact absurd HR.o (by rw[bX.o];decide)
 have lK:=aa hq2;have HR:=aa (show aD n=decide (0≤n.num)by unfold aD;simp[hk,htext,hq1,hq2]);clear htext;clear hq1;clear hq2;clear hk
 go_wp2_with (first
  | (go_at_call 120;((with_reducible refine(fT.o _).mono ?_);rintro e w2 ⟨rfl,h1⟩;rw[nC.o];have HB2:=aa (HB.o.trans (h1.mono HB.o.size));have cz:=aa (HX.o.below h1 HX.o.lt);clear x0 x1 x2 x3 x4 x5 x6 x7 az aW aT aU aV aP;obtain⟨x0,x1,x2,x3,x4,x5,x6,x7,az,aW,aT,aU,aV,aP⟩:=cz.o.cells;rw[HK.o]at x0;clear h1;clear fT))
  | (go_at_call 120;((with_reducible refine(ed.o _).mono ?_);rintro e w3 ⟨rfl,h1⟩;rw[lK.o];have HB3:=aa (HB2.o.trans (h1.mono HB2.o.size));have dV:=aa (cz.o.below h1 cz.o.lt);clear x0 x1 x2 x3 x4 x5 x6 x7 az aW aT aU aV aP;obtain⟨x0,x1,x2,x3,x4,x5,x6,x7,az,aW,aT,aU,aV,aP⟩:=dV.o.cells;rw[HK.o]at x0;clear h1)))
 go_ret;exact⟨by rw[HR.o] <;> rfl,HB3.o⟩
theorem abf (n:Nd)(hk:n.kind=2)(hs:n.text.size≤1000000)(_hr:n.ref.sh.size≤1000000)(_ht:n.ae.sh.size≤1000000)(bU:aD n=true)(A:Option Addr)(m c:Nat)(w:World):Calls Tryz.prog 84 #[.agg #[.int .i64 n.kind,.int .i64 n.num,.string n.text,.string n.ref.sh,.int .i64 n.ref.c,.int .i64 n.ref.r,.bool n.ref.ac,.bool n.ref.ar,.string n.ae.sh,.int .i64 n.ae.c,.int .i64 n.ae.r,.bool n.ae.ac,.bool n.ae.ar,.slice A m c]] w fun e w'=>e = .returned (.bool (aD n))∧Below w.heap.size w w':=by
 have bX:=aa bU;clear bU;obtain⟨w1,hw1,hx,hb⟩:=yT w n A m c;have HB:=aa hb;have fT:=aa (fun w=>pW n.ref w);have ed:=aa (fun w=>pW n.ae w);have HK:=aa hk;clear hk;go_enter Tryz.func84,Tryz.ntmps84;go_upto_region 1 with (fail)
 clear hw1 hb;generalize hb0:w.heap.size=b0 at hx ⊢;obtain⟨x0,x1,x2,x3,x4,x5,x6,x7,az,aW,aT,aU,aV,aP⟩:=hx.cells;have HX:=aa hx;clear hx;have hk:=HK.o;rw[hk]at x0;by_cases bE:n.num=0;rotate_left
 · have en:(n.num != 0)=true:=by rw[bne_iff_ne];exact bE
   have HR:=aa (show aD n=false by unfold aD;simp[hk,bE]);exact absurd HR.o (by rw[bX.o];decide)
 rw[bE]at x1;cases hq1:gX n.ref
 · have nC:=aa hq1
   have HR:=aa (show aD n=false by unfold aD;simp[hk,bE,hq1]);exact absurd HR.o (by rw[bX.o];decide)
 have nC:=aa hq1;cases hq2:gX n.ae
 · have lK:=aa hq2
   have HR:=aa (show aD n=false by unfold aD;simp[hk,bE,hq1,hq2]);exact absurd HR.o (by rw[bX.o];decide)
 have lK:=aa hq2;have HR:=aa (show aD n=lq (sb n.text)by unfold aD;simp[hk,bE,hq1,hq2]);clear bE;clear hq1;clear hq2;clear hk
 go_wp2_with (first
  | (go_at_call 120;((with_reducible refine(fT.o _).mono ?_);rintro e w2 ⟨rfl,h1⟩;rw[nC.o];have HB2:=aa (HB.o.trans (h1.mono HB.o.size));have cz:=aa (HX.o.below h1 HX.o.lt);clear x0 x1 x2 x3 x4 x5 x6 x7 az aW aT aU aV aP;obtain⟨x0,x1,x2,x3,x4,x5,x6,x7,az,aW,aT,aU,aV,aP⟩:=cz.o.cells;rw[HK.o]at x0;clear h1;clear fT))
  | (go_at_call 120;((with_reducible refine(ed.o _).mono ?_);rintro e w3 ⟨rfl,h1⟩;rw[lK.o];have HB3:=aa (HB2.o.trans (h1.mono HB2.o.size));have dV:=aa (cz.o.below h1 cz.o.lt);clear x0 x1 x2 x3 x4 x5 x6 x7 az aW aT aU aV aP;obtain⟨x0,x1,x2,x3,x4,x5,x6,x7,az,aW,aT,aU,aV,aP⟩:=dV.o.cells;rw[HK.o]at x0;clear h1))
  | (go_at_call 121;((with_reducible refine(abt _ _ hs).mono ?_);rintro e wp ⟨rfl,rfl⟩)))
 go_ret;exact⟨by rw[HR.o] <;> rfl,HB3.o⟩
theorem abg (n:Nd)(hk:n.kind=3)(_hs:n.text.size≤1000000)(_hr:n.ref.sh.size≤1000000)(_ht:n.ae.sh.size≤1000000)(bU:aD n=true)(A:Option Addr)(m c:Nat)(w:World):Calls Tryz.prog 84 #[.agg #[.int .i64 n.kind,.int .i64 n.num,.string n.text,.string n.ref.sh,.int .i64 n.ref.c,.int .i64 n.ref.r,.bool n.ref.ac,.bool n.ref.ar,.string n.ae.sh,.int .i64 n.ae.c,.int .i64 n.ae.r,.bool n.ae.ac,.bool n.ae.ar,.slice A m c]] w fun e w'=>e = .returned (.bool (aD n))∧Below w.heap.size w w':=by
 have bX:=aa bU;clear bU;obtain⟨w1,hw1,hx,hb⟩:=yT w n A m c;have HB:=aa hb;have fT:=aa (fun w=>pW n.ref w);have ed:=aa (fun w=>pW n.ae w);have HK:=aa hk;clear hk;go_enter Tryz.func84,Tryz.ntmps84;go_upto_region 1 with (fail)
 clear hw1 hb;generalize hb0:w.heap.size=b0 at hx ⊢;obtain⟨x0,x1,x2,x3,x4,x5,x6,x7,az,aW,aT,aU,aV,aP⟩:=hx.cells;have HX:=aa hx;clear hx;have hk:=HK.o;rw[hk]at x0;by_cases htext:n.text=⟨#[]⟩;rotate_left
 · have t0:¬ n.text.toList=[]:=by rw[← nL];exact nX _ _ htext
   have t1:n.text.toList.isEmpty=false:=by simpa using t0
   have HR:=aa (show aD n=false by unfold aD;simp[hk,htext]);exact absurd HR.o (by rw[bX.o];decide)
 have t0:=nL;rw[htext]at x2;cases hq1:gX n.ref
 · have nC:=aa hq1
   have HR:=aa (show aD n=false by unfold aD;simp[hk,htext,hq1]);exact absurd HR.o (by rw[bX.o];decide)
 have nC:=aa hq1;cases hq2:gX n.ae
 · have lK:=aa hq2
   have HR:=aa (show aD n=false by unfold aD;simp[hk,htext,hq1,hq2]);exact absurd HR.o (by rw[bX.o];decide)
 have lK:=aa hq2;by_cases h0:n.num=0
 · have HR:=aa (show aD n=true by unfold aD;simp[hk,htext,hq1,hq2,h0])
   have e0:(n.num == 0)=true:=beq_iff_eq.2 h0;clear htext;clear hq1;clear hq2;clear hk;clear h0
   go_wp2_with (first
    | (go_at_call 120;((with_reducible refine(fT.o _).mono ?_);rintro e w2 ⟨rfl,h1⟩;rw[nC.o];have HB2:=aa (HB.o.trans (h1.mono HB.o.size));have cz:=aa (HX.o.below h1 HX.o.lt);clear x0 x1 x2 x3 x4 x5 x6 x7 az aW aT aU aV aP;obtain⟨x0,x1,x2,x3,x4,x5,x6,x7,az,aW,aT,aU,aV,aP⟩:=cz.o.cells;rw[HK.o]at x0;clear h1;clear fT))
    | (go_at_call 120;((with_reducible refine(ed.o _).mono ?_);rintro e w3 ⟨rfl,h1⟩;rw[lK.o];have HB3:=aa (HB2.o.trans (h1.mono HB2.o.size));have dV:=aa (cz.o.below h1 cz.o.lt);clear x0 x1 x2 x3 x4 x5 x6 x7 az aW aT aU aV aP;obtain⟨x0,x1,x2,x3,x4,x5,x6,x7,az,aW,aT,aU,aV,aP⟩:=dV.o.cells;rw[HK.o]at x0;clear h1)))
   go_ret;exact⟨by rw[HR.o] <;> rfl,HB3.o⟩
 · have e0:(n.num == 0)=false:=beq_eq_false_iff_ne.2 h0
   by_cases h1:n.num=1
   · have e1:(n.num == 1)=true:=beq_iff_eq.2 h1
     have HR:=aa (show aD n=true by unfold aD;simp[hk,htext,hq1,hq2,h1]);clear htext;clear hq1;clear hq2;clear hk;clear h0 h1
     go_wp2_with (first
      | (go_at_call 120;((with_reducible refine(fT.o _).mono ?_);rintro e w2 ⟨rfl,h1⟩;rw[nC.o];have HB2:=aa (HB.o.trans (h1.mono HB.o.size));have cz:=aa (HX.o.below h1 HX.o.lt);clear x0 x1 x2 x3 x4 x5 x6 x7 az aW aT aU aV aP;obtain⟨x0,x1,x2,x3,x4,x5,x6,x7,az,aW,aT,aU,aV,aP⟩:=cz.o.cells;rw[HK.o]at x0;clear h1;clear fT))
      | (go_at_call 120;((with_reducible refine(ed.o _).mono ?_);rintro e w3 ⟨rfl,h1⟩;rw[lK.o];have HB3:=aa (HB2.o.trans (h1.mono HB2.o.size));have dV:=aa (cz.o.below h1 cz.o.lt);clear x0 x1 x2 x3 x4 x5 x6 x7 az aW aT aU aV aP;obtain⟨x0,x1,x2,x3,x4,x5,x6,x7,az,aW,aT,aU,aV,aP⟩:=dV.o.cells;rw[HK.o]at x0;clear h1)))
     go_ret;exact⟨by rw[HR.o] <;> rfl,HB3.o⟩
   · have e1:(n.num == 1)=false:=beq_eq_false_iff_ne.2 h1
     have HR:=aa (show aD n=false by unfold aD;simp[hk,htext,hq1,hq2,h0,h1]);exact absurd HR.o (by rw[bX.o];decide)
theorem abh (n:Nd)(hk:n.kind=5)(_hs:n.text.size≤1000000)(hr:n.ref.sh.size≤1000000)(_ht:n.ae.sh.size≤1000000)(bU:aD n=true)(A:Option Addr)(m c:Nat)(w:World):Calls Tryz.prog 84 #[.agg #[.int .i64 n.kind,.int .i64 n.num,.string n.text,.string n.ref.sh,.int .i64 n.ref.c,.int .i64 n.ref.r,.bool n.ref.ac,.bool n.ref.ar,.string n.ae.sh,.int .i64 n.ae.c,.int .i64 n.ae.r,.bool n.ae.ac,.bool n.ae.ar,.slice A m c]] w fun e w'=>e = .returned (.bool (aD n))∧Below w.heap.size w w':=by
 have bX:=aa bU;clear bU;obtain⟨w1,hw1,hx,hb⟩:=yT w n A m c;have HB:=aa hb;have fT:=aa (fun w=>pW n.ref w);have ed:=aa (fun w=>pW n.ae w);have HK:=aa hk;clear hk;go_enter Tryz.func84,Tryz.ntmps84;go_upto_region 1 with (fail)
 clear hw1 hb;generalize hb0:w.heap.size=b0 at hx ⊢;obtain⟨x0,x1,x2,x3,x4,x5,x6,x7,az,aW,aT,aU,aV,aP⟩:=hx.cells;have HX:=aa hx;clear hx;have hk:=HK.o;rw[hk]at x0;by_cases bE:n.num=0;rotate_left
 · have en:(n.num != 0)=true:=by rw[bne_iff_ne];exact bE
   have HR:=aa (show aD n=false by unfold aD;simp[hk,bE]);exact absurd HR.o (by rw[bX.o];decide)
 rw[bE]at x1;by_cases htext:n.text=⟨#[]⟩;rotate_left
 · have t0:¬ n.text.toList=[]:=by rw[← nL];exact nX _ _ htext
   have t1:n.text.toList.isEmpty=false:=by simpa using t0
   have HR:=aa (show aD n=false by unfold aD;simp[hk,bE,htext]);exact absurd HR.o (by rw[bX.o];decide)
 have t0:=nL;rw[htext]at x2;cases hq2:gX n.ae
 · have lK:=aa hq2
   have HR:=aa (show aD n=false by unfold aD;simp[hk,bE,htext,hq2]);exact absurd HR.o (by rw[bX.o];decide)
 have lK:=aa hq2;have HR:=aa (show aD n=gp n.ref by unfold aD;simp[hk,bE,htext,hq2]);clear bE;clear htext;clear hq2;clear hk
 go_wp2_with (first
  | (go_at_call 120;((with_reducible refine(ed.o _).mono ?_);rintro e w2 ⟨rfl,h1⟩;rw[lK.o];have HB2:=aa (HB.o.trans (h1.mono HB.o.size));have cz:=aa (HX.o.below h1 HX.o.lt);clear x0 x1 x2 x3 x4 x5 x6 x7 az aW aT aU aV aP;obtain⟨x0,x1,x2,x3,x4,x5,x6,x7,az,aW,aT,aU,aV,aP⟩:=cz.o.cells;rw[HK.o]at x0;clear h1))
  | (go_at_call 85;((with_reducible refine(oL _ _ _ _ _ _ hr).mono ?_);rintro e wp ⟨rfl,h1⟩;have R5:=aa (HB2.o.trans (h1.mono HB2.o.size));clear h1)))
 go_ret;exact⟨by rw[HR.o] <;> rfl,R5.o⟩
theorem abj (n:Nd)(hk:n.kind=6)(_hs:n.text.size≤1000000)(hr:n.ref.sh.size≤1000000)(ht:n.ae.sh.size≤1000000)(bU:aD n=true)(A:Option Addr)(m c:Nat)(w:World):Calls Tryz.prog 84 #[.agg #[.int .i64 n.kind,.int .i64 n.num,.string n.text,.string n.ref.sh,.int .i64 n.ref.c,.int .i64 n.ref.r,.bool n.ref.ac,.bool n.ref.ar,.string n.ae.sh,.int .i64 n.ae.c,.int .i64 n.ae.r,.bool n.ae.ac,.bool n.ae.ar,.slice A m c]] w fun e w'=>e = .returned (.bool (aD n))∧Below w.heap.size w w':=by
 have bX:=aa bU;clear bU;obtain⟨w1,hw1,hx,hb⟩:=yT w n A m c;have HB:=aa hb;have fT:=aa (fun w=>pW n.ref w);have ed:=aa (fun w=>pW n.ae w);have HK:=aa hk;clear hk;go_enter Tryz.func84,Tryz.ntmps84;go_upto_region 1 with (fail)
 clear hw1 hb;generalize hb0:w.heap.size=b0 at hx ⊢;obtain⟨x0,x1,x2,x3,x4,x5,x6,x7,az,aW,aT,aU,aV,aP⟩:=hx.cells;have HX:=aa hx;clear hx;have hk:=HK.o;rw[hk]at x0;by_cases bE:n.num=0;rotate_left
 · have en:(n.num != 0)=true:=by rw[bne_iff_ne];exact bE
   have HR:=aa (show aD n=false by unfold aD;simp[hk,bE]);exact absurd HR.o (by rw[bX.o];decide)
 rw[bE]at x1;by_cases htext:n.text=⟨#[]⟩;rotate_left
 · have t0:¬ n.text.toList=[]:=by rw[← nL];exact nX _ _ htext
   have t1:n.text.toList.isEmpty=false:=by simpa using t0
   have HR:=aa (show aD n=false by unfold aD;simp[hk,bE,htext]);exact absurd HR.o (by rw[bX.o];decide)
 have t0:=nL;rw[htext]at x2;cases q1:gp n.ref
 · have M1:=aa (show dn (sb n.ref.sh) n.ref.c n.ref.r=false from q1)
   have HR:=aa (show aD n=false by unfold aD;simp[hk,bE,htext,q1]);exact absurd HR.o (by rw[bX.o];decide)
 have M1:=aa (show dn (sb n.ref.sh) n.ref.c n.ref.r=true from q1);cases q2:gp n.ae
 · have M2:=aa (show dn (sb n.ae.sh) n.ae.c n.ae.r=false from q2)
   have HR:=aa (show aD n=false by unfold aD;simp[hk,bE,htext,q1,q2]);exact absurd HR.o (by rw[bX.o];decide)
 have M2:=aa (show dn (sb n.ae.sh) n.ae.c n.ae.r=true from q2);have HR:=aa (show aD n=fP n.ref n.ae by unfold aD;simp[hk,bE,htext,q1,q2]);clear q1 q2;clear bE;clear htext;clear hk
 go_wp2_with (first
  | (go_at_call 85;((with_reducible refine(oL n.ref.sh n.ref.c n.ref.r n.ref.ac n.ref.ar _ hr).mono ?_);rintro e w2 ⟨rfl,h1⟩;rw[M1.o];have HB2:=aa (HB.o.trans (h1.mono HB.o.size));have cz:=aa (HX.o.below h1 HX.o.lt);clear x0 x1 x2 x3 x4 x5 x6 x7 az aW aT aU aV aP;obtain⟨x0,x1,x2,x3,x4,x5,x6,x7,az,aW,aT,aU,aV,aP⟩:=cz.o.cells;rw[HK.o]at x0;clear h1;clear M1))
  | (go_at_call 85;((with_reducible refine(oL n.ae.sh n.ae.c n.ae.r n.ae.ac n.ae.ar _ ht).mono ?_);rintro e w3 ⟨rfl,h1⟩;rw[M2.o];have HB3:=aa (HB2.o.trans (h1.mono HB2.o.size));have dV:=aa (cz.o.below h1 cz.o.lt);clear x0 x1 x2 x3 x4 x5 x6 x7 az aW aT aU aV aP;obtain⟨x0,x1,x2,x3,x4,x5,x6,x7,az,aW,aT,aU,aV,aP⟩:=dV.o.cells;rw[HK.o]at x0;clear h1))
  | (go_at_call 124;((with_reducible refine(Qm _ _ _ _ _ _ _ _ _ _ _).mono ?_);rintro e w4 ⟨rfl,h1⟩;have bG:=aa (HB3.o.trans (h1.mono HB3.o.size));clear h1)))
 go_ret;exact⟨by rw[HR.o] <;> rfl,bG.o⟩
theorem abm (n:Nd)(k1:¬ n.kind=1)(k2:¬ n.kind=2)(k3:¬ n.kind=3)(k5:¬ n.kind=5)(k6:¬ n.kind=6)(k7:¬ n.kind=7)(_hs:n.text.size≤1000000)(_hr:n.ref.sh.size≤1000000)(_ht:n.ae.sh.size≤1000000)(bU:aD n=true)(A:Option Addr)(m c:Nat)(w:World):Calls Tryz.prog 84 #[.agg #[.int .i64 n.kind,.int .i64 n.num,.string n.text,.string n.ref.sh,.int .i64 n.ref.c,.int .i64 n.ref.r,.bool n.ref.ac,.bool n.ref.ar,.string n.ae.sh,.int .i64 n.ae.c,.int .i64 n.ae.r,.bool n.ae.ac,.bool n.ae.ar,.slice A m c]] w fun e w'=>e = .returned (.bool (aD n))∧Below w.heap.size w w':=by
 have bX:=aa bU;clear bU;obtain⟨w1,hw1,hx,hb⟩:=yT w n A m c;have HB:=aa hb;have fT:=aa (fun w=>pW n.ref w);have ed:=aa (fun w=>pW n.ae w);go_enter Tryz.func84,Tryz.ntmps84;go_upto_region 1 with (fail)
 clear hw1 hb;generalize hb0:w.heap.size=b0 at hx ⊢;obtain⟨x0,x1,x2,x3,x4,x5,x6,x7,az,aW,aT,aU,aV,aP⟩:=hx.cells;have HX:=aa hx;clear hx;obtain⟨kd,hkd⟩:∃kd,n.kind=kd:=⟨_,rfl⟩;rw[hkd]at x0;have HK:=aa hkd;have e1:(kd == 1)=false:=beq_eq_false_iff_ne.2 (by omega);have d1:(kd != 1)=true:=by rw[bne,e1];rfl
 have e2:(kd == 2)=false:=beq_eq_false_iff_ne.2 (by omega);have d2:(kd != 2)=true:=by rw[bne,e2];rfl
 have e3:(kd == 3)=false:=beq_eq_false_iff_ne.2 (by omega);have d3:(kd != 3)=true:=by rw[bne,e3];rfl
 have e5:(kd == 5)=false:=beq_eq_false_iff_ne.2 (by omega);have d5:(kd != 5)=true:=by rw[bne,e5];rfl
 have e6:(kd == 6)=false:=beq_eq_false_iff_ne.2 (by omega);have d6:(kd != 6)=true:=by rw[bne,e6];rfl
 have e7:(kd == 7)=false:=beq_eq_false_iff_ne.2 (by omega);have d7:(kd != 7)=true:=by rw[bne,e7];rfl
 by_cases bE:n.num=0;rotate_left
 · have en:(n.num != 0)=true:=by rw[bne_iff_ne];exact bE
   have HR:=aa (show aD n=false by unfold aD;simp[k1,k2,k3,k5,k6,k7,bE]);exact absurd HR.o (by rw[bX.o];decide)
 rw[bE]at x1;by_cases htext:n.text=⟨#[]⟩;rotate_left
 · have t0:¬ n.text.toList=[]:=by rw[← nL];exact nX _ _ htext
   have t1:n.text.toList.isEmpty=false:=by simpa using t0
   have HR:=aa (show aD n=false by unfold aD;simp[k1,k2,k3,k5,k6,k7,bE,htext]);exact absurd HR.o (by rw[bX.o];decide)
 have t0:=nL;rw[htext]at x2;cases hq1:gX n.ref
 · have nC:=aa hq1
   have HR:=aa (show aD n=false by unfold aD;simp[k1,k2,k3,k5,k6,k7,bE,htext,hq1]);exact absurd HR.o (by rw[bX.o];decide)
 have nC:=aa hq1;cases hq2:gX n.ae
 · have lK:=aa hq2
   have HR:=aa (show aD n=false by unfold aD;simp[k1,k2,k3,k5,k6,k7,bE,htext,hq1,hq2]);exact absurd HR.o (by rw[bX.o];decide)
 have lK:=aa hq2;have HR:=aa (show aD n=true by unfold aD;simp[k1,k2,k3,k5,k6,k7,bE,htext,hq1,hq2]);clear bE;clear htext;clear hq1;clear hq2
 go_wp2_with (first
  | (go_at_call 120;((with_reducible refine(fT.o _).mono ?_);rintro e w2 ⟨rfl,h1⟩;rw[nC.o];have HB2:=aa (HB.o.trans (h1.mono HB.o.size));have cz:=aa (HX.o.below h1 HX.o.lt);clear x0 x1 x2 x3 x4 x5 x6 x7 az aW aT aU aV aP;obtain⟨x0,x1,x2,x3,x4,x5,x6,x7,az,aW,aT,aU,aV,aP⟩:=cz.o.cells;rw[HK.o]at x0;clear h1;clear fT))
  | (go_at_call 120;((with_reducible refine(ed.o _).mono ?_);rintro e w3 ⟨rfl,h1⟩;rw[lK.o];have HB3:=aa (HB2.o.trans (h1.mono HB2.o.size));have dV:=aa (cz.o.below h1 cz.o.lt);clear x0 x1 x2 x3 x4 x5 x6 x7 az aW aT aU aV aP;obtain⟨x0,x1,x2,x3,x4,x5,x6,x7,az,aW,aT,aU,aV,aP⟩:=dV.o.cells;rw[HK.o]at x0;clear h1)))
 go_ret;exact⟨by rw[HR.o] <;> rfl,HB3.o⟩
theorem abk (n:Nd)(hk:n.kind=7)(hs:n.text.size≤1000000)(_hr:n.ref.sh.size≤1000000)(_ht:n.ae.sh.size≤1000000)(bU:aD n=true)(A:Option Addr)(m c:Nat)(w:World):Calls Tryz.prog 84 #[.agg #[.int .i64 n.kind,.int .i64 n.num,.string n.text,.string n.ref.sh,.int .i64 n.ref.c,.int .i64 n.ref.r,.bool n.ref.ac,.bool n.ref.ar,.string n.ae.sh,.int .i64 n.ae.c,.int .i64 n.ae.r,.bool n.ae.ac,.bool n.ae.ar,.slice A m c]] w fun e w'=>e = .returned (.bool (aD n))∧Below w.heap.size w w':=by
 have bX:=aa bU;clear bU;obtain⟨w1,hw1,hx,hb⟩:=yT w n A m c;have HB:=aa hb;have fT:=aa (fun w=>pW n.ref w);have ed:=aa (fun w=>pW n.ae w);have HK:=aa hk;clear hk;go_enter Tryz.func84,Tryz.ntmps84;go_upto_region 1 with (fail)
 clear hw1 hb;generalize hb0:w.heap.size=b0 at hx ⊢;obtain⟨x0,x1,x2,x3,x4,x5,x6,x7,az,aW,aT,aU,aV,aP⟩:=hx.cells;have HX:=aa hx;clear hx;have hk:=HK.o;rw[hk]at x0;by_cases bE:n.num=0;rotate_left
 · have en:(n.num != 0)=true:=by rw[bne_iff_ne];exact bE
   have HR:=aa (show aD n=false by unfold aD;simp[hk,bE]);exact absurd HR.o (by rw[bX.o];decide)
 rw[bE]at x1;cases hq1:gX n.ref
 · have nC:=aa hq1
   have HR:=aa (show aD n=false by unfold aD;simp[hk,bE,hq1]);exact absurd HR.o (by rw[bX.o];decide)
 have nC:=aa hq1;cases hq2:gX n.ae
 · have lK:=aa hq2
   have HR:=aa (show aD n=false by unfold aD;simp[hk,bE,hq1,hq2]);exact absurd HR.o (by rw[bX.o];decide)
 have lK:=aa hq2;obtain⟨tx,htx⟩:∃tx,n.text=tx:=⟨_,rfl⟩;have HC:=aa (show aD n=jo tx by unfold aD;simp[hk,bE,hq1,hq2];rw[htx]);have mQ:=aa htx;rw[htx]at hs;clear bE;clear hq1;clear hq2;clear hk;clear htx;have q1:=xN tx ⟨#[84,82,85,69]⟩;have q2:=xN tx ⟨#[70,65,76,83,69]⟩;rw[EA]at q1;rw[Ez]at q2;cases hq:fO tx with
 | some d =>
   have oq:=aa (fun (e:Ending)(he:Says (sb tx) e)=>Fe hq he);have HQ:=aa hq;clear hq
   go_upto_region 12 with (first
    | (go_at_call 120;((with_reducible refine(fT.o _).mono ?_);rintro e w2 ⟨rfl,h1⟩;rw[nC.o];have HB2:=aa (HB.o.trans (h1.mono HB.o.size));have cz:=aa (HX.o.below h1 HX.o.lt);clear x0 x1 x2 x3 x4 x5 x6 x7 az aW aT aU aV aP;obtain⟨x0,x1,x2,x3,x4,x5,x6,x7,az,aW,aT,aU,aV,aP⟩:=cz.o.cells;rw[mQ.o]at x2;rw[HK.o]at x0;clear h1;clear fT))
    | (go_at_call 120;((with_reducible refine(ed.o _).mono ?_);rintro e w3 ⟨rfl,h1⟩;rw[lK.o];have HB3:=aa (HB2.o.trans (h1.mono HB2.o.size));have dV:=aa (cz.o.below h1 cz.o.lt);clear x0 x1 x2 x3 x4 x5 x6 x7 az aW aT aU aV aP;obtain⟨x0,x1,x2,x3,x4,x5,x6,x7,az,aW,aT,aU,aV,aP⟩:=dV.o.cells;rw[mQ.o]at x2;rw[HK.o]at x0;clear h1))
    | (go_at_call 122;((with_reducible refine(Ar tx _ hs).mono ?_);rintro e w4 ⟨h1,h2⟩;obtain rfl:=oq.o e h1;clear h1;have bG:=aa (HB3.o.trans (h2.mono HB3.o.size));have mR:=aa (dV.o.below h2 dV.o.lt);clear h2)))
   have yz:Below w4.heap.size w4 (w4.alloc (.cells #[.string d.sh,.int .i64 d.c,.int .i64 d.r,.bool d.ac,.bool d.ar] 45)):=(ai _ _).alloc (ag _) _;have dU:=aa (bG.o.trans (yz.mono bG.o.size));have lN:=aa (mR.o.below yz mR.o.lt);clear yz x0 x1 x2 x3 x4 x5 x6 x7 az aW aT aU aV aP;generalize w4.alloc (.cells #[.string d.sh,.int .i64 d.c,.int .i64 d.r,.bool d.ac,.bool d.ar] 45)=w5 at dU lN ⊢;obtain⟨x0,x1,x2,x3,x4,x5,x6,x7,az,aW,aT,aU,aV,aP⟩:=lN.o.cells;rw[mQ.o]at x2;cases hc:iO (sb tx)
   · have uB:=aa hc
     have HR:=aa (show aD n=false by rw[HC.o];unfold jo;rw[HQ.o,hc];rfl);exact absurd HR.o (by rw[bX.o];decide)
   have uB:=aa hc;have HR:=aa (show aD n=false by rw[HC.o];unfold jo;rw[HQ.o,hc];rfl);exact absurd HR.o (by rw[bX.o];decide)
 | none =>
   have oq:=aa (fun (e:Ending)(he:Says (sb tx) e)=>Fb hq he);have HQ:=aa hq;clear hq
   go_upto_region 12 with (first
    | (go_at_call 120;((with_reducible refine(fT.o _).mono ?_);rintro e w2 ⟨rfl,h1⟩;rw[nC.o];have HB2:=aa (HB.o.trans (h1.mono HB.o.size));have cz:=aa (HX.o.below h1 HX.o.lt);clear x0 x1 x2 x3 x4 x5 x6 x7 az aW aT aU aV aP;obtain⟨x0,x1,x2,x3,x4,x5,x6,x7,az,aW,aT,aU,aV,aP⟩:=cz.o.cells;rw[mQ.o]at x2;rw[HK.o]at x0;clear h1;clear fT))
    | (go_at_call 120;((with_reducible refine(ed.o _).mono ?_);rintro e w3 ⟨rfl,h1⟩;rw[lK.o];have HB3:=aa (HB2.o.trans (h1.mono HB2.o.size));have dV:=aa (cz.o.below h1 cz.o.lt);clear x0 x1 x2 x3 x4 x5 x6 x7 az aW aT aU aV aP;obtain⟨x0,x1,x2,x3,x4,x5,x6,x7,az,aW,aT,aU,aV,aP⟩:=dV.o.cells;rw[mQ.o]at x2;rw[HK.o]at x0;clear h1))
    | (go_at_call 122;((with_reducible refine(Ar tx _ hs).mono ?_);rintro e w4 ⟨h1,h2⟩;obtain rfl:=oq.o e h1;clear h1;have bG:=aa (HB3.o.trans (h2.mono HB3.o.size));have mR:=aa (dV.o.below h2 dV.o.lt);clear h2)))
   have yz:Below w4.heap.size w4 (w4.alloc (.cells #[.string ⟨#[]⟩,.int .i64 0,.int .i64 0,.bool false,.bool false] 45)):=(ai _ _).alloc (ag _) _;have dU:=aa (bG.o.trans (yz.mono bG.o.size));have lN:=aa (mR.o.below yz mR.o.lt);clear yz x0 x1 x2 x3 x4 x5 x6 x7 az aW aT aU aV aP;generalize w4.alloc (.cells #[.string ⟨#[]⟩,.int .i64 0,.int .i64 0,.bool false,.bool false] 45)=w5 at dU lN ⊢;obtain⟨x0,x1,x2,x3,x4,x5,x6,x7,az,aW,aT,aU,aV,aP⟩:=lN.o.cells;rw[mQ.o]at x2;cases hc:iO (sb tx)
   · have uB:=aa hc
     have HR:=aa (show aD n=false by rw[HC.o];unfold jo;rw[HQ.o,hc];rfl);exact absurd HR.o (by rw[bX.o];decide)
   have uB:=aa hc;by_cases g1:tx=⟨#[84,82,85,69]⟩
   · rw[decide_eq_true g1]at q1
     have Jv:(tx.toList != [84,82,85,69])=false:=by rw[bne,q1];rfl
     have HR:=aa (show aD n=false by rw[HC.o];unfold jo;rw[HQ.o,hc,decide_eq_false (show ¬ ¬ tx=_ from fun h=>h g1)];rfl);exact absurd HR.o (by rw[bX.o];decide)
   rw[decide_eq_false g1]at q1;have Jv:(tx.toList != [84,82,85,69])=true:=by rw[bne,q1];rfl
   by_cases g2:tx=⟨#[70,65,76,83,69]⟩
   · rw[decide_eq_true g2]at q2
     have Jw:(tx.toList != [70,65,76,83,69])=false:=by rw[bne,q2];rfl
     have HR:=aa (show aD n=false by rw[HC.o];unfold jo;rw[HQ.o,hc,decide_eq_false (show ¬ ¬ tx=⟨#[70,65,76,83,69]⟩from fun h=>h g2)];simp);exact absurd HR.o (by rw[bX.o];decide)
   rw[decide_eq_false g2]at q2;have Jw:(tx.toList != [70,65,76,83,69])=true:=by rw[bne,q2];rfl
   have HR:=aa (show aD n=true by rw[HC.o];unfold jo;rw[HQ.o,hc,decide_eq_true g1,decide_eq_true g2];rfl);clear hc g1 g2;go_wp2_with ((go_at_call 123;((with_reducible refine(JD tx _ hs).mono ?_);rintro e wq ⟨rfl,rfl⟩;rw[uB.o])))
   go_ret;exact⟨by rw[HR.o] <;> rfl,dU.o⟩
theorem abl (n:Nd)(hs:n.text.size≤1000000)(hr:n.ref.sh.size≤1000000)(ht:n.ae.sh.size≤1000000)(bU:aD n=true)(A:Option Addr)(m c:Nat)(w:World):Calls Tryz.prog 84 #[.agg #[.int .i64 n.kind,.int .i64 n.num,.string n.text,.string n.ref.sh,.int .i64 n.ref.c,.int .i64 n.ref.r,.bool n.ref.ac,.bool n.ref.ar,.string n.ae.sh,.int .i64 n.ae.c,.int .i64 n.ae.r,.bool n.ae.ac,.bool n.ae.ar,.slice A m c]] w fun e w'=>e = .returned (.bool (aD n))∧Below w.heap.size w w':=by
 by_cases h1:n.kind=1
 · exact abe n h1 hs hr ht bU A m c w
 by_cases h2:n.kind=2
 · exact abf n h2 hs hr ht bU A m c w
 by_cases h3:n.kind=3
 · exact abg n h3 hs hr ht bU A m c w
 by_cases h5:n.kind=5
 · exact abh n h5 hs hr ht bU A m c w
 by_cases h6:n.kind=6
 · exact abj n h6 hs hr ht bU A m c w
 by_cases h7:n.kind=7
 · exact abk n h7 hs hr ht bU A m c w
 exact abm n h1 h2 h3 h5 h6 h7 hs hr ht bU A m c w
theorem abG (w:World)(v:Value)(vs:List (Nd × Value))(h:jl w w.heap.size v vs)(hz:SZ vs)(bU:dM (vs.map (·.1))=true):Calls Tryz.prog 56 #[v] w fun e w'=>e = .returned (.bool true)∧Below w.heap.size w w':=by
 obtain⟨⟨A,cap,rfl,hat⟩,tq⟩:=h;obtain⟨hlen,hsz⟩:=hz;obtain⟨nl,hnl⟩:∃nl,vs.length=nl:=⟨_,rfl⟩;rw[hnl]at hlen ⊢;have bX:=aa bU;clear bU;have HAT:=aa hat;have Bl:=aa tq;have jZ:=aa hsz;have nA:=aa hnl;obtain⟨eb,lh,dA⟩:=Elem.kid;have kS:=aa dA;clear hat tq hsz hnl dA;go_enter Tryz.func56,Tryz.ntmps56;go_upto_region 3 with (fail)
 go_loopw [3,4] (fun rv iv wr=>∃(i:Nat)(st:List Int)(rk:Value),i≤nl∧st.length≤i∧rk=rv∧iv = .int .i64 (i:Int)∧Hid (dM (vs.map (·.1))=qb st i ((vs.map (·.1)).drop i))∧Hid (Own (bT .i64) 3 wr w.heap.size rk st)∧Hid (Below w.heap.size w wr))
  (fun _ iv _=>nl - (intOf iv).toNat)
 case atStart=>exact⟨0,[],.slice none 0 0,cu _,ag _,rfl,rfl,aa rfl,aa (Own.nil _ _ _ _),aa (ai _ _)⟩
 case round =>
  obtain⟨i,st,rk,hi,hsi,rfl,rfl,HT,HO,HB⟩:=hrel;by_cases hlt:i<nl
  · have hii : (i:Int)<(nl:Int):=by omega
    obtain⟨⟨n,k⟩,hnk⟩:∃q,vs[i]? = some q:=⟨_,bn (by rw[nA.o];exact hlt)⟩;have hmem:=dz hnk;obtain⟨hz1,hz2,hz3⟩:=jZ.o _ hmem;have HZ1:=aa hz1;have HZ2:=aa hz2;have HZ3:=aa hz3;clear hz1 hz2 hz3;have pK:je w w.heap.size k n.kids:=Bl.o _ hmem;obtain⟨aJ,ck,hk,hkc,dh,iw⟩:=id pK;obtain⟨m,hm⟩:∃m,n.kids.length=m:=⟨_,rfl⟩;rw[hm]at hk hkc;subst hk;have hmm:m≤maxLen:=bZ hkc dh;have hmx:m≤9223372036854775807:=by unfold maxLen at hmm;omega
    have HM:=aa hm;have qj:=aa iw
    have HD:=aa (show(vs.map (·.1)).drop i=n :: (vs.map (·.1)).drop (i+1)by
     have hl:i<(vs.map (·.1)).length:=by rw[dN,nA.o];exact hlt
     rw[List.drop_eq_getElem_cons hl];congr 1;have h1:(vs.map (·.1))[i]? = some n:=by rw[iD,hnk];rfl
     rw[bn hl]at h1;exact dX h1)
    have Bf:=aa (show fo n=false→dM (vs.map (·.1))=false from fun e=>by rw[HT.o,HD.o,qc,e,Bool.false_and]);rcases HAT.o with e|⟨pb,po,rfl,hpb,hcells⟩
    · exfalso;rw[e]at hnk;simp at hnk
    have hcell:=hcells i n _ hnk;have k0:wr.cell? ⟨pb,po+i*14,none⟩=some (.int .i64 n.kind):=(HB.o.cell (p:=⟨pb,po+i*14,none⟩) hpb).trans (hcell 0 (by omega));have k1:wr.cell? ⟨pb,po+i*14+1,none⟩=some (.int .i64 n.num):=(HB.o.cell (p:=⟨pb,po+i*14+1,none⟩) hpb).trans (hcell 1 (by omega));have k2:wr.cell? ⟨pb,po+i*14+2,none⟩=some (.string n.text):=(HB.o.cell (p:=⟨pb,po+i*14+2,none⟩) hpb).trans (hcell 2 (by omega));have k3:wr.cell? ⟨pb,po+i*14+3,none⟩=some (.string n.ref.sh):=(HB.o.cell (p:=⟨pb,po+i*14+3,none⟩) hpb).trans (hcell 3 (by omega));have k4:wr.cell? ⟨pb,po+i*14+4,none⟩=some (.int .i64 n.ref.c):=(HB.o.cell (p:=⟨pb,po+i*14+4,none⟩) hpb).trans (hcell 4 (by omega));have k5:wr.cell? ⟨pb,po+i*14+5,none⟩=some (.int .i64 n.ref.r):=(HB.o.cell (p:=⟨pb,po+i*14+5,none⟩) hpb).trans (hcell 5 (by omega));have k6:wr.cell? ⟨pb,po+i*14+6,none⟩=some (.bool n.ref.ac):=(HB.o.cell (p:=⟨pb,po+i*14+6,none⟩) hpb).trans (hcell 6 (by omega));have k7:wr.cell? ⟨pb,po+i*14+7,none⟩=some (.bool n.ref.ar):=(HB.o.cell (p:=⟨pb,po+i*14+7,none⟩) hpb).trans (hcell 7 (by omega));have k8:wr.cell? ⟨pb,po+i*14+8,none⟩=some (.string n.ae.sh):=(HB.o.cell (p:=⟨pb,po+i*14+8,none⟩) hpb).trans (hcell 8 (by omega));have k9:wr.cell? ⟨pb,po+i*14+9,none⟩=some (.int .i64 n.ae.c):=(HB.o.cell (p:=⟨pb,po+i*14+9,none⟩) hpb).trans (hcell 9 (by omega));have k10:wr.cell? ⟨pb,po+i*14+10,none⟩=some (.int .i64 n.ae.r):=(HB.o.cell (p:=⟨pb,po+i*14+10,none⟩) hpb).trans (hcell 10 (by omega));have k11:wr.cell? ⟨pb,po+i*14+11,none⟩=some (.bool n.ae.ac):=(HB.o.cell (p:=⟨pb,po+i*14+11,none⟩) hpb).trans (hcell 11 (by omega));have k12:wr.cell? ⟨pb,po+i*14+12,none⟩=some (.bool n.ae.ar):=(HB.o.cell (p:=⟨pb,po+i*14+12,none⟩) hpb).trans (hcell 12 (by omega));have k13:wr.cell? ⟨pb,po+i*14+13,none⟩=some (.slice aJ m ck):=(HB.o.cell (p:=⟨pb,po+i*14+13,none⟩) hpb).trans (hcell 13 (by omega));clear hcell hcells hnk hmem pK iw hm hkc dh hmm;have hL:st.length≤1000:=by omega
    have hB3:Below wr.heap.size wr (wr.alloc (.cells #[.int .i64 n.kind,.int .i64 n.num,.string n.text,.string n.ref.sh,.int .i64 n.ref.c,.int .i64 n.ref.r,.bool n.ref.ac,.bool n.ref.ar,.string n.ae.sh,.int .i64 n.ae.c,.int .i64 n.ae.r,.bool n.ae.ac,.bool n.ae.ar,.slice aJ m ck] 48)):=(ai _ _).alloc (ag _) _;have aA:aH (wr.alloc (.cells #[.int .i64 n.kind,.int .i64 n.num,.string n.text,.string n.ref.sh,.int .i64 n.ref.c,.int .i64 n.ref.r,.bool n.ref.ac,.bool n.ref.ar,.string n.ae.sh,.int .i64 n.ae.c,.int .i64 n.ae.r,.bool n.ae.ac,.bool n.ae.ar,.slice aJ m ck] 48)) wr.heap.size n (.slice aJ m ck):=aH.new wr n _;have HB3:=aa (HB.o.trans (hB3.mono HB.o.size));have fA:=aa (HO.o.alloc (.cells #[.int .i64 n.kind,.int .i64 n.num,.string n.text,.string n.ref.sh,.int .i64 n.ref.c,.int .i64 n.ref.r,.bool n.ref.ac,.bool n.ref.ar,.string n.ae.sh,.int .i64 n.ae.c,.int .i64 n.ae.r,.bool n.ae.ac,.bool n.ae.ar,.slice aJ m ck] 48));clear hB3;go_upto_region 6 with (fail)
    generalize hb3:wr.heap.size=b3 at aA ⊢;generalize wr.alloc (.cells #[.int .i64 n.kind,.int .i64 n.num,.string n.text,.string n.ref.sh,.int .i64 n.ref.c,.int .i64 n.ref.r,.bool n.ref.ac,.bool n.ref.ar,.string n.ae.sh,.int .i64 n.ae.c,.int .i64 n.ae.r,.bool n.ae.ac,.bool n.ae.ar,.slice aJ m ck] 48)=w3 at aA HB3 fA ⊢;clear hb3 k0 k1 k2 k3 k4 k5 k6 k7 k8 k9 k10 k11 k12 k13 HO;obtain⟨x0,x1,x2,x3,x4,x5,x6,x7,az,aW,aT,aU,aV,aP⟩:=aA.cells;have aA:=aa aA;obtain⟨a,ha⟩:∃a,jm n.kind=a:=⟨_,rfl⟩;have KF:=aa (show ∀w,Calls Tryz.prog 83 #[.int .i64 n.kind] w fun e w'=>e = .returned (.int .i64 a)∧w=w' from fun w=>by rw[← ha];exact aa9 _ w);have ql:=aa (show fo n=(aD n&&(decide (a = -1)||decide (a=(m:Int))))by rw[ZL,ha,HM.o])
    have har:a = -1∨a = -2∨a=0∨a=1∨a=2:=by
     rw[← ha];unfold jm;split
     · omega
     split
     · omega
     split
     · omega
     split <;> omega
    clear ha;have key:(a = -1∨a=(m:Int))∨(¬ a = -1∧¬ a=(m:Int)):=by omega
    rcases key with key|⟨ka,kb⟩
    rotate_left
    · have ea:(a == -1)=false:=beq_eq_false_iff_ne.2 ka
      have HT2:=aa (show dM (vs.map (·.1))=false from Bf.o (by rw[ql.o,decide_eq_false ka,decide_eq_false kb,Bool.or_self,Bool.and_false]));exact absurd HT2.o (by rw[bX.o];decide)
    have Gd:=aa (show fo n=aD n by
     rw[ql.o];rcases key with e|e
     · rw[decide_eq_true e,Bool.true_or,Bool.and_true]
     · rw[decide_eq_true e,Bool.or_true,Bool.and_true])
    have hm0:¬ (m:Int)<0:=by omega
    have hmb:((m:Int) != (m:Int))=false:=by simp
    have L6:(∃ea:(a == -1)=true,True)∨(∃ea:(a == -1)=false,a=(m:Int)):=by
     by_cases e:a = -1
     · exact .inl ⟨beq_iff_eq.2 e,trivial⟩
     · exact .inr ⟨beq_eq_false_iff_ne.2 e,by omega⟩
    clear key ql har;by_cases oH:m≤st.length;rotate_left
    · have HT2:=aa (show dM (vs.map (·.1))=false by rw[HT.o,HD.o,qc,HM.o,decide_eq_false oH,Bool.false_and,Bool.and_false])
      exact absurd HT2.o (by rw[bX.o];decide)
    have Xw:¬ (st.length:Int)<(m:Int):=by omega
    have Xx:¬ st.length<m:=by omega
    cases hlf:aD n
    · have HT2:=aa (show dM (vs.map (·.1))=false from Bf.o (by rw[Gd.o,hlf]))
      exact absurd HT2.o (by rw[bX.o];decide)
    have F5:=aa (show ∀w,Calls Tryz.prog 84 #[.agg #[.int .i64 n.kind,.int .i64 n.num,.string n.text,.string n.ref.sh,.int .i64 n.ref.c,.int .i64 n.ref.r,.bool n.ref.ac,.bool n.ref.ar,.string n.ae.sh,.int .i64 n.ae.c,.int .i64 n.ae.r,.bool n.ae.ac,.bool n.ae.ar,.slice aJ m ck]] w fun e w'=>e = .returned (.bool (aD n))∧Below w.heap.size w w' from fun w=>abl n HZ1.o HZ2.o HZ3.o hlf aJ m ck w);rw[hlf]at F5;have kG:=aa (show fo n=true by rw[Gd.o,hlf]);clear hlf Bf Gd
    have xY:=aa (show n.kids=[]∨∃kb eT,aJ=some ⟨kb,eT,none⟩∧∀(j:Nat)(x:Int),n.kids[j]? = some x→w3.cell? ⟨kb,eT+j,none⟩=some (.int .i64 x)from by
     rcases qj.o with e|⟨kb,eT,e1,e2,e3⟩
     · exact .inl e
     · exact .inr ⟨kb,eT,e1,fun j x hj=>(HB3.o.cell (p:=⟨kb,eT+j,none⟩) e2).trans (e3 j x hj)⟩)
    have Xm:=qj.o
    have Sq:=aa (show ∀kb eT,aJ=some ⟨kb,eT,none⟩→n.kids≠[]→kb<w3.heap.size from by
     intro kb eT e hne;rcases qj.o with e0|⟨kb',ko',e1,e2,e3⟩
     · exact absurd e0 hne
     · rw[e1]at e;injection e with e;injection e with e _ _
       have:=HB3.o.size;omega)
    clear Xm;obtain⟨f,hf⟩:∃f,st.length - m=f:=⟨_,rfl⟩
    have FV:=aa (show dM (vs.map (·.1))=(decide (st.drop f=n.kids)&&qb (st.take f++[(i:Int)]) (i+1) ((vs.map (·.1)).drop (i+1)))by
     rw[HT.o,HD.o,qc,kG.o,HM.o,decide_eq_true oH,hf,Bool.true_and,Bool.true_and])
    have hfm:f+m=st.length:=by omega
    rcases fA.o.shape with ⟨rfl,hst⟩|⟨rg,uW,rfl,hrg,hrl,hrc,hrm⟩
    · have Il:m=0:=by rw[hst]at oH;simp at oH;omega
      have Xx:¬ 0<m:=by omega
      have Xw:¬ 0<(m:Int):=by omega
      have HST:=aa hst;have Sr:=aa (show n.kids=[]from l5 (by rw[HM.o,Il]));have Sc:=aa (show f=0 by rw[hst]at hfm;simp at hfm;omega);have Sv:=aa Il;clear oH hst hf hfm Il;rcases L6 with ⟨ea, -⟩|⟨ea,rfl⟩
      all_goals
       go_upto_region 12 with (first
        | (go_at_call 83;((with_reducible refine(KF.o _).mono ?_);rintro e w4 ⟨rfl,rfl⟩))
        | (go_at_call 84;((with_reducible refine(F5.o _).mono ?_);rintro e w5 ⟨rfl,h1⟩;have dU:=aa (HB3.o.trans (h1.mono HB3.o.size));clear h1)))
       go_loopw [7] (fun vP wq=>vP = .int .i64 0∧w5=wq) (fun _ _=>0)
       case atStart=>exact⟨rfl,rfl⟩
       case round =>
        obtain⟨rfl,rfl⟩:=hrel;have hmz:m=0:=Sv.o;subst hmz;go_wp2_with (at_builtin;refine RL kS.o (bT .i64) rfl (.tmp 75) (.tmp 77) rfl none 0 0 ([]:List Int) rfl (fun _=>⟨rfl,rfl⟩) rfl (fun b e=>by cases e) ⟨w5.heap.size,0,none⟩ 1 1 [(i:Int)] rfl rfl ?_ (by omega) ?_ ?_ ?_;exact fZ _ _ _ rfl;exact bZ (Nat.mul_le_mul_left _ lh) (by omega);(unfold maxLen;omega);intro v' w7 h1 h2;have qm:=aa h1;have qP:=aa h2;clear h1 h2)
        go_roundw
        case rel =>
         refine⟨i+1,[(i:Int)],v',by omega,by simp,rfl,by go_num,aa ?_,aa (qm.o.mono ?_),aa ?_⟩
         · rw[FV.o,Sc.o,HST.o,Sr.o];rfl
         · simp;have:=dU.o.size;omega
         · exact(dU.o.trans ((ai _ _).alloc dU.o.size _)).trans (qP.o.mono (by simp;have:=dU.o.size;omega))
        case measure=>simp[intOf];omega
    · have hw1 : -9223372036854775808≤(st.length:Int) - (m:Int):=by omega
      have hw2:(st.length:Int) - (m:Int)≤9223372036854775807:=by omega
      have hfi:(st.length:Int) - (m:Int)=(f:Int):=by omega
      have wF:=aa hfi;have HRL:=aa hrl;clear oH hf hfi hrl;rcases L6 with ⟨ea, -⟩|⟨ea,rfl⟩
      all_goals
       go_upto_region 12 with (first
        | (go_at_call 83;((with_reducible refine(KF.o _).mono ?_);rintro e w4 ⟨rfl,rfl⟩))
        | (go_at_call 84;((with_reducible refine(F5.o _).mono ?_);rintro e w5 ⟨rfl,h1⟩;have dU:=aa (HB3.o.trans (h1.mono HB3.o.size));have mO:=aa (fA.o.below h1 (ag _));have gu:=aa (aA.o.below h1 aA.o.lt);have R4:=aa h1;clear h1)))
       clear x0 x1 x2 x3 x4 x5 x6 x7 az aW aT aU aV aP;obtain⟨x0,x1,x2,x3,x4,x5,x6,x7,az,aW,aT,aU,aV,aP⟩:=gu.o.cells;clear x0 x1 x2 x3 x4 x5 x6 x7 az aW aT aU aV
       go_loopw [7] (fun vP wq=>∃j q:Nat,j≤m∧vP = .int .i64 (j:Int)∧Hid ((st.drop f).take j=n.kids.take j)∧w5.drewN q=wq) (fun vP _=>m - (intOf vP).toNat)
       case atStart=>exact⟨0,0,cu _,rfl,aa rfl,rfl⟩
       case round =>
        obtain⟨j,q,hj,rfl,bu,rfl⟩:=hrel;by_cases hjm:j<m
        · have hji:(j:Int)<(m:Int):=by omega
          obtain⟨x,hx⟩:∃x,st[f+j]? = some x:=⟨_,bn (by omega)⟩;obtain⟨y,hy⟩:∃y,n.kids[j]? = some y:=⟨_,bn (by rw[HM.o];exact hjm)⟩;rcases xY.o with e|⟨kb,eT,rfl,hkc⟩
          · exfalso;rw[e]at hy;simp at hy
          have k1:=PV mO.o (f+j) x hx;have k2:w5.cell? ⟨kb,eT+j,none⟩=some (.int .i64 y):=(R4.o.cell (p:=⟨kb,eT+j,none⟩) (Sq.o kb eT rfl (by intro e;rw[e]at hy;simp at hy))).trans (hkc j y hy);have HX:=aa hx;have fB:=aa hy;have hz1 : -9223372036854775808≤(f:Int)+(j:Int):=by omega
          have hz2:(f:Int)+(j:Int)≤9223372036854775807:=by omega
          have hz3:(0:Int)≤(f:Int)+(j:Int):=by omega
          have IC:(f:Int)+(j:Int)<(st.length:Int):=by omega
          clear hkc hx hy;have hfi:=wF.o;by_cases hxy:x=y
          · have ex:(x != y)=false:=by rw[hxy];simp
            have HT2:=aa (VK bu.o HX.o (by rw[hxy];exact fB.o));clear hxy;have W1:IntKind.i64.wrap ((st.length:Int) - (m:Int))=(f:Int):=by rw[dK];omega
            have W2:IntKind.i64.wrap ((f:Int)+(j:Int))=(f:Int)+(j:Int):=by rw[dK];omega
            have W3:((f:Int)+(j:Int)).toNat=f+j:=by omega
            go_wp2_with fail
            go_quiet (fail)
            clear W1 W2 W3;go_wp2_with fail
            go_roundw
            case rel=>exact⟨j+1,_,by omega,by go_num,HT2,by first|rfl|trivial⟩
            case measure=>simp[intOf];omega
          · have HR:=aa (show dM (vs.map (·.1))=false by rw[FV.o,decide_eq_false (VJ HX.o fB.o hxy),Bool.false_and])
            exact absurd HR.o (by rw[bX.o];decide)
        · have hji:¬ (j:Int)<(m:Int):=by omega
          have afE:j=m:=by omega
          have kT:=aa (show st.drop f=n.kids by
           have h1:=bu.o;rw[mK (by rw[List.length_drop];omega),mK (by rw[HM.o];omega)]at h1;exact h1)
          have hfi:=wF.o;have BZ:f≤st.length:=by omega
          have hn0:(0:Int)≤(f:Int):=by omega
          have hn1:(f:Int)≤(uW:Int):=by omega
          have hn2:f≤uW:=by omega
          go_wp2_with (at_builtin;refine RL kS.o (bT .i64) rfl (.tmp 75) (.tmp 77) rfl (some ⟨rg,0,none⟩) f f (st.take f) ?_ (fun h=>by cases h) ?_ ?_ ⟨w5.heap.size,0,none⟩ 1 1 [(i:Int)] rfl rfl ?_ (by omega) ?_ ?_ ?_;rfl;(rw[gD];omega);(intro b e;injection e with e;subst e;intro j' u hu;rw[Addr.add_mid,Nat.zero_add];exact Own.cells (((PY mO.o f BZ).drewN q).alloc _) j' u hu);exact fZ _ _ _ rfl;exact bZ (Nat.mul_le_mul_left _ lh) (by omega);(unfold maxLen;omega);intro v' w7 h1 h2;have qm:=aa h1;have qP:=aa h2;clear h1 h2)
          go_roundw
          case rel =>
           refine⟨i+1,st.take f++[(i:Int)],v',by omega,by simp;omega,rfl,by go_num,aa ?_,aa (qm.o.mono ?_),aa ?_⟩
           · rw[FV.o,decide_eq_true kT.o,Bool.true_and]
           · simp;have:=dU.o.size;omega
           · exact(Below.alloc (oF dU.o q) (oF dU.o q).size _).trans (qP.o.mono (by simp;have:=dU.o.size;omega))
          case measure=>simp[intOf];omega
  · have hii:¬ (i:Int)<(nl:Int):=by omega
    have hin:i=nl:=by omega
    have HT2:=aa (show dM (vs.map (·.1))=decide (st.length=1)by
     rw[HT.o,List.drop_of_length_le (by rw[dN,nA.o];omega)];rfl)
    rcases HO.o.shape with ⟨rfl,hst⟩|⟨rg,uW,rfl, -⟩
    · rw[hst]at HT2
      exact absurd HT2.o (by rw[bX.o];decide)
    · by_cases h1:st.length=1
      · have Wz:((st.length:Int) == 1)=true:=by rw[beq_iff_eq];omega
        clear h1 HT2;go_wp2_with fail
        go_ret;exact⟨rfl,HB.o⟩
      · rw[decide_eq_false h1,bX.o]at HT2
        exact absurd HT2.o (by decide)
theorem abr (w:World)(v:Value)(l:List (Nd × Value))(h:jl w w.heap.size v l)(hz:SZ l)(hn:∀q∈l,q.1.num≤9223372036854775807)(hlen:(gY (l.map (·.1))).length≤1000000000)(bU:dM (l.map (·.1))=true) :
 Calls Tryz.prog 29 #[v] w fun e w'=>e = .returned (.string (strOfNums (gY (l.map (·.1)))))∧Below w.heap.size w w':=by
 have HT:=aa (abG w v l h hz bU);obtain⟨ns,hns⟩:∃ns,l.map (·.1)=ns:=⟨_,rfl⟩;rw[hns]at hlen bU ⊢;have ht:dM ns=true:=bU;clear bU
 · skip
   have C:mW w v l ns:=⟨h,hns,ht,hz.1,hz.2,hn⟩;have hpos:=aeo ht;have hll:l.length=ns.length:=by rw[← hns,dN]
   obtain⟨L,hL⟩:∃L,l.length=L:=⟨_,rfl⟩
   have hp:gY ns=bg ns ((L - 1:Nat):Int):=by
    unfold gY bg;rw[if_pos ht];congr 1;omega
   rw[hp]at hlen ⊢;have HS:=aa (QT C L (L - 1) (by omega) (by omega) hlen);obtain⟨A,cap,rfl⟩:=h.tQ;have hL1:(L:Int) - 1=((L - 1:Nat):Int):=by omega
   have hlm:L≤1000:=by have:=hz.1;omega
   have hwr:IntKind.i64.wrap ((L:Int) - 1)=(L:Int) - 1:=by rw[dK];omega
   rw[hL]at HT HS ⊢;rw[← hL1]at HS;clear C h hz hn hlen hns ht hll hp hpos hL hL1;go_enter Tryz.func29,Tryz.ntmps29
   go_wp2_with (first
    | (go_at_call 56;((with_reducible refine HT.o.mono ?_);rintro e w2 ⟨rfl,h1⟩;have HB2:=aa h1;clear h1))
    | (go_at_call 61;((with_reducible refine(HS.o _ HB2.o).mono ?_);rintro e w3 ⟨rfl,h1⟩;have HB3:=aa (HB2.o.trans (h1.mono HB2.o.size));clear h1)))
   go_ret;exact⟨by rfl,HB3.o⟩
theorem abI (s:ByteArray)(w:World)(ns:List Nd)(hp:nE s (.ok ns)) :
 Calls Tryz.prog 62 #[.string s] w fun e w'=>Below w.heap.size w w'∧∃g cap vs,e = .returned (.agg #[.slice (some ⟨g,0,none⟩) ns.length cap,.int .i64 0])∧vs.map Prod.fst=ns∧jl w' w'.heap.size (.slice (some ⟨g,0,none⟩) ns.length cap) vs:=by
 refine(acb s w _ hp).mono ?_;rintro e w' ⟨hb,⟨c,h,_⟩|⟨ns',g,cap,vs,h,h1,he,h3,h4⟩⟩
 · cases h
 · injection h with h;subst h
   have hl:vs.length=ns.length:=by rw[← h1,dN]
   rw[hl]at he h3 h4;exact⟨hb,g,cap,_,he,(Q7 vs).trans h1,h3.sn hl⟩
theorem abJ (t:ByteArray)(ns:List Nd)(hp:nE t (.ok ns))(ht:strOfNums (gY ns)=t)(w1 wr:World)(v:Value)(l:List (Nd × Value))(hm:l.map Prod.fst=ns)(hs:jl w1 w1.heap.size v l)(hr:Below w1.heap.size w1 wr) :
 Calls Tryz.prog 29 #[v] wr fun e w'=>e = .returned (.string t)∧Below wr.heap.size wr w':=by
 obtain⟨⟨Xn,_,IA⟩,bE,hpl,XI,_⟩:=DJ t ns hp;have hsz:=LK t ns hp;have hl:l.length=ns.length:=by rw[← hm,dN]
 have:=abr wr v l (hs.lift hr hr.size) ⟨by omega,fun p hp=>hsz p.1 (by rw[← hm];exact List.mem_map_of_mem hp)⟩ (fun p hp=>bE p.1 (by rw[← hm];exact List.mem_map_of_mem hp)) (by rw[show l.map (·.1)=ns from hm];omega) (by rw[show l.map (·.1)=ns from hm];exact IA);rw[show l.map (·.1)=ns from hm,ht]at this;exact this
theorem ab0 (s p:ByteArray)(hs:s.size≤100)(hp0:0<s.size)(zV:(s[0].toNat:Int)=61)(hr:s.extract 1 s.size=p)(vO:yS++p=s)(ns:List Nd)(hp:nE p (.ok ns))(pJ:strOfNums (gY ns)=p)(w:World) :
 Calls Tryz.prog 30 #[.string s] w fun e w'=>e = .returned (.bool true)∧Below w.heap.size w w':=by
 have hi:¬ (300:Int)<(s.size:Int):=by omega
 have hi0:(0:Int)<(s.size:Int):=by omega
 have hi1:(1:Int)≤(s.size:Int):=by omega
 have hne:=p8 s (by omega);have hne2:s.toList.isEmpty=false:=by cases hq:s.toList with|nil=>exact absurd hq hne|cons a l=>rfl
 have NP:(s.toList == [])=false:=beq_eq_false_iff_ne.2 hne;have hcc:(((⟨#[61]⟩:ByteArray)++p).toList == s.toList)=true:=by rw[show(⟨#[61]⟩:ByteArray)++p=s from vO];exact beq_self_eq_true _
 have afx:(⟨#[61]⟩:ByteArray)++p=s:=vO;have hpz:¬ 9223372036854775807<1+p.size:=by rw[← hr,ByteArray.size_extract];omega
 have HA:=aa (abI p w ns hp);have Gr:=aa (fun (w1 wr:World)(v:Value)(l:List (Nd × Value))(hm:l.map Prod.fst=ns)(hs:jl w1 w1.heap.size v l)(hr:Below w1.heap.size w1 wr)=>abJ p ns hp pJ w1 wr v l hm hs hr);obtain⟨L,hL⟩:∃L,ns.length=L:=⟨_,rfl⟩;rw[hL]at HA;clear hp pJ hL hs vO;go_enter Tryz.func30,Tryz.ntmps30;go_upto_region 7 with (go_at_call 62;((with_reducible refine HA.o.mono ?_);rintro e w1 ⟨hb,g1,fe,l1,rfl,hm1,hs1⟩;have HB1:=aa hb;have Sw:=aa hm1;have dG:=aa hs1;clear hb hm1 hs1))
 have HK:=aa (jc.new w1 (.slice (some ⟨g1,0,none⟩) L fe) 0);have aR:=aa (show Below w1.heap.size w1 (w1.alloc (.cells #[.slice (some ⟨g1,0,none⟩) L fe,.int .i64 0] 100))from(ai _ _).alloc (ag _) _);obtain⟨b,hb⟩:∃b,w1.heap.size=b:=⟨_,rfl⟩;obtain⟨w2,hw2⟩:∃w2,w1.alloc (.cells #[.slice (some ⟨g1,0,none⟩) L fe,.int .i64 0] 100)=w2:=⟨_,rfl⟩;have bJ:=aa (Gr.o w1 w2 _ l1 Sw.o dG.o (by rw[← hw2];exact aR.o));rw[hw2]at HK aR ⊢;have HB2:=aa (HB1.o.trans (aR.o.mono HB1.o.size));rw[hb]at HK ⊢;clear hw2 hb;obtain⟨y0,y1⟩:=HK.o.facts;go_wp2_with (go_at_call 29;((with_reducible refine bJ.o.mono ?_);rintro e w3 ⟨rfl,h1⟩;have H3:=aa (HB2.o.trans (h1.mono HB2.o.size));clear h1))
 go_ret;exact⟨rfl,H3.o⟩
def vE(t:ByteArray):Prop:=zK t∧(kd t=3→t.size=1∧∀h:0<t.size,48≤(t[0].toNat:Int)∧(t[0].toNat:Int)≤57)
theorem QB (t:ByteArray)(h:vE t)(w:World):Calls Tryz.prog 30 #[.string t] w fun e w'=>e = .returned (.bool true)∧Below w.heap.size w w':=by
 obtain⟨⟨hn,hs⟩,hd⟩:=h;by_cases h0:t.size=0
 · obtain rfl:t=⟨#[]⟩:=by rw[← jU t,rJ t h0];rfl
   exact(ab1 w).mono fun e w' ⟨he,hw⟩=>⟨he,by subst hw;exact ai _ _⟩
 have hp0:0<t.size:=by omega
 have hk:=OL t hp0 _ rfl;rcases hn.kinds with hh|⟨hh,p,ns,hr,hp,pJ⟩|⟨hh,n,ha,ht⟩
 · have yx:(t[0].toNat:Int)=39:=by
    by_cases c1:(t[0].toNat:Int)=39
    · exact c1
    · rw[if_neg c1]at hk
      split at hk
      · omega
      · split at hk <;> omega
   exact(ab2 t hs hp0 _ rfl yx w).mono fun e w' ⟨he,hw⟩=>⟨he,by subst hw;exact ai _ _⟩
 · have zV:(t[0].toNat:Int)=61:=by
    by_cases c1:(t[0].toNat:Int)=39
    · rw[if_pos c1]at hk;omega
    · rw[if_neg c1]at hk
      split at hk
      · assumption
      · split at hk <;> omega
   refine ab0 t p hs hp0 zV hr ?_ ns hp pJ w
   have hsb:sb t=61 :: (sb t).tail:=by
    have h2:=oN t 0 hp0;rw[zV]at h2;cases hq:sb t with
    | nil=>have:=bC t;rw[hq]at this;simp at this;omega
    | cons a l=>rw[hq]at h2;simp at h2;rw[h2];rfl
   have vO:yS++strOfNums (sb t).tail=t:=by
    have:=gq [61] (sb t).tail;rw[List.singleton_append, ← hsb,jU]at this;exact this
   have:=Jd yS _ _ rfl vO;rw[← hr,this];exact vO
 · obtain ⟨h1,h2⟩:=hd hh
   obtain⟨h48,h57⟩:=h2 hp0;refine abZ t h1 hp0 _ rfl h48 h57 ?_ w
   have hsb:sb t=[(t[0].toNat:Int)]:=by
    have h2:=oN t 0 hp0;have h3:=bC t
    match hq:sb t,h3 with
    | [a],_=>rw[hq]at h2;simp at h2;rw[h2]
    | [],h3=>simp at h3;omega
    | a :: b :: l,h3=>simp at h3;omega
   have e:kZ ((t[0].toNat:Int) - 48)=[(t[0].toNat:Int)]:=by
    unfold kZ;rw[if_neg (by omega),lg _ (by omega)];congr 1;omega
   rw[e, ← hsb,jU]
theorem abY (w:World)(s:ak)(h:jM w w.heap.size (.slice s.A s.rows.length s.cap) s.rows)(ho:DR s)(hc:∀r∈s.rows,∀x∈r.l,vE x) :
 Calls Tryz.prog 71 #[.agg #[.string s.nm,.int .i64 s.ay,.slice s.A s.rows.length s.cap]] w fun e w'=>e = .returned (.bool true)∧Below w.heap.size w w':=by
 obtain⟨nm,ay,A,cap,rows⟩:=s;simp only at h hc ⊢;have HC:=aa hc;have HB:=aa (nJ w nm ay (.slice A rows.length cap));have HS:=aa (ShAt.new w nm ay (.slice A rows.length cap));have hnm:=fun (w1:World)=>JF nm w1 (by have:nm.size≤1000:=ho.size;omega)
 rw[show fF (sb nm)=true from ho.name]at hnm;have qW:=aa hnm;have HX:=aa (h.lift HB.o);have h1:(0:Int)≤ay:=ho.low;have h2:ay≤(12:Int):=ho.ay;have h3:(rows.length:Int)≤24:=by have:rows.length≤24:=ho.rows;omega
 have HW:=aa (show ∀r∈rows,(r.l.length:Int)=ay from ho.wide);clear h hc ho hnm;go_enter Tryz.func71,Tryz.ntmps71;go_upto_region 1 with (fail)
 obtain⟨b,hb⟩:∃b,w.heap.size=b:=⟨_,rfl⟩;obtain⟨w1,hw1⟩:∃w1,w.alloc (.cells #[.string nm,.int .i64 ay,.slice A rows.length cap] 73)=w1:=⟨_,rfl⟩;have HB0:=aa (fun (wq:World)(e:Ending)(h:e = .returned (.bool true))(hq:Below w1.heap.size w1 wq)=>(show e = .returned (.bool true)∧Below b w wq from⟨h,by rw[← hb];rw[hw1]at HB;exact HB.o.trans (hq.mono HB.o.size)⟩));rw[hw1]at HS HX ⊢;rw[hb]at HS ⊢;clear HB;clear hw1;obtain⟨n,hn⟩:∃n,rows.length=n:=⟨_,rfl⟩;have HN:=aa hn;rw[hn]at HS HX h3;have hx0:w.heap.size=b:=hb;obtain⟨y0,y1,y2⟩:=HS.o.cells;clear hn;go_upto_region 4 with (go_at_call 110;((with_reducible refine(qW.o _).mono ?_);rintro e w2 ⟨rfl,rfl⟩))
 clear y0 y1 y2
 go_loopw [3,4] (fun iv bf wr=>∃i:Nat,i≤n∧iv = .int .i64 (i:Int)∧bf=bf∧Hid (Below w1.heap.size w1 wr))
  (fun iv _ _=>n - (intOf iv).toNat)
 case atStart=>exact⟨0,cu _,rfl,rfl,aa (ai _ _)⟩
 case round =>
  obtain⟨i,hi,rfl,_,HR⟩:=hrel;obtain⟨y0,y1,y2⟩:=(HS.o.over HR.o).cells;by_cases hlt:i<n
  · have hii:(i:Int)<(n:Int):=by omega
    have hi0:(0:Int)≤(i:Int):=by omega
    obtain⟨x,hx⟩:∃x,rows[i]? = some x:=⟨_,bn (by rw[HN.o];exact hlt)⟩;obtain⟨pb,po,rfl,hpb,e0,hrx⟩:=rH HX.o hx;have hwx:=HW.o x (dz hx);have Bb:=aa (HC.o x (dz hx));obtain⟨A2,cap2,l2⟩:=x;simp only at e0 hrx hwx;obtain⟨m,hm⟩:∃m,l2.length=m:=⟨_,rfl⟩;rw[hm]at e0 hrx hwx;have HM:=aa hm;have uH:=aa hrx;have HE:=aa (fun (wq:World)(hq:Below w1.heap.size w1 wq)=>(show wq.cell? ⟨pb,po+i,none⟩=some (.slice A2 m cap2)from(hq.cell (p:=⟨pb,po+i,none⟩) hpb).trans e0));have x0:=HE.o _ HR.o;clear hx e0 hrx hm;go_upto_region 6 with (fail)
    go_quiet (fail)
    clear y0 y1 y2 x0;go_upto_region 9 with (fail)
    generalize Ci:World.drewN _ _=FC;have xP:=aa (show Below w1.heap.size w1 FC from by rw[← Ci];exact uM HR.o _);clear Ci
    go_loopw [4] (fun bf wr=>∃k:Nat,k≤m∧bf = .int .i64 (k:Int)∧Hid (Below w1.heap.size w1 wr))
     (fun bf _=>m - (intOf bf).toNat)
    case atStart=>exact⟨0,cu _,rfl,xP⟩
    case round =>
     obtain⟨k,hk,rfl,HR2⟩:=hrel;obtain⟨y0,y1,y2⟩:=(HS.o.over HR2.o).cells;have x0:=HE.o _ HR2.o;by_cases hkl:k<m
     · have hki:(k:Int)<(m:Int):=by omega
       have hk0:(0:Int)≤(k:Int):=by omega
       obtain⟨t,ht⟩:∃t,l2[k]? = some t:=⟨_,bn (by rw[HM.o];exact hkl)⟩;obtain⟨di,dJ,rfl,mq,f0⟩:=xH uH.o ht;have z0:=(HR2.o.cell (p:=⟨di,dJ+k,none⟩) mq).trans f0;have HT:=aa (fun (wq:World)=>QB t (Bb.o t (dz ht)) wq);clear f0 ht;go_wp2_with (go_at_call 30;((with_reducible refine(HT.o _).mono ?_);rintro e w2 ⟨rfl,h1⟩;have H2:=aa (HR2.o.trans (h1.mono HR2.o.size));clear h1))
       go_roundw
       case rel=>exact⟨k+1,by omega,by go_num,H2⟩
       case measure=>simp[intOf];omega
     · have hki:¬ (k:Int)<(m:Int):=by omega
       go_wp2_with fail
       go_roundw
       case rel=>exact⟨i+1,by omega,by go_num,by first|rfl|trivial,HR2⟩
       case measure=>simp[intOf];omega
  · have hii:¬ (i:Int)<(n:Int):=by omega
    go_wp2_with fail
    go_ret;exact HB0.o _ _ rfl HR.o
theorem Qy:∀ {ah:List ak}{last:ByteArray}{i:Nat}{x y:ak},zN last ah→ah[i]? = some x→ah[i+1]? = some y→Op.bytesLess x.nm.toList y.nm.toList=true
 | [],_,_,_,_,_,hx,_=>by simp at hx
 | s :: l,_,0,x,y,h,hx,hy=>by
   have e:s=x:=by simpa using hx
   subst e;cases l with
   | nil=>simp at hy
   | cons s2 l2 =>
     have e2:s2=y:=by simpa using hy
     subst e2;exact h.2.1
 | s :: l,_,i+1,x,y,h,hx,hy=>Qy h.2 (by simpa using hx) (by simpa using hy)
theorem abX (w:World)(A:Option Addr)(n cap:Nat)(ah:List ak)(h:eH w w.heap.size (.slice A n cap) ah)(ho:zu ah)(hc:∀s∈ah,∀r∈s.rows,∀x∈r.l,vE x) :
 Calls Tryz.prog 43 #[.agg #[.slice A n cap]] w fun e w'=>e = .returned (.bool true)∧Below w.heap.size w w':=by
 have HB:=aa (kJ w (.slice A n cap));have HS:=aa (aY.new w (.slice A n cap));have hl:=h.1.len.1;have HL:=aa hl;have h3:(n:Int)≤5:=by have:=ho.few;omega
 have HX:=aa (h.lift HB.o);have HO:=aa ho;have HC:=aa hc;clear h ho hc hl;go_enter Tryz.func43,Tryz.ntmps43;go_upto_region 1 with (fail)
 obtain⟨b,hb⟩:∃b,w.heap.size=b:=⟨_,rfl⟩;obtain⟨w1,hw1⟩:∃w1,w.alloc (.cells #[.slice A n cap] 26)=w1:=⟨_,rfl⟩;have HB0:=aa (fun (wq:World)(e:Ending)(h:e = .returned (.bool true))(hq:Below w1.heap.size w1 wq)=>(show e = .returned (.bool true)∧Below b w wq from⟨h,by rw[← hb];rw[hw1]at HB;exact HB.o.trans (hq.mono HB.o.size)⟩));rw[hw1]at HS HX ⊢;rw[hb]at HS ⊢;clear HB hw1;have x0:=HS.o.cell;go_upto_region 4 with (fail)
 clear x0
 go_loopw [3] (fun iv wr=>∃i:Nat,i≤n∧iv = .int .i64 (i:Int)∧Hid (Below w1.heap.size w1 wr))
  (fun iv _=>n - (intOf iv).toNat)
 case atStart=>exact⟨0,cu _,rfl,aa (ai _ _)⟩
 case round =>
  obtain⟨i,hi,rfl,HR⟩:=hrel;have x0:=(HS.o.over HR.o).cell;by_cases hlt:i<n
  · have hii:(i:Int)<(n:Int):=by omega
    have hi0:(0:Int)≤(i:Int):=by omega
    obtain⟨x,hx⟩:∃x,ah[i]? = some x:=⟨_,bn (by rw[HL.o];exact hlt)⟩;obtain⟨pb,po,rfl,hpb,e0,e1,e2,hrx⟩:=oP HX.o hx;have HM:=aa (fun (wq:World)(hq:Below w1.heap.size w1 wq)=>abY wq x (hrx.lift hq) (HO.o.each x (dz hx)) (HC.o x (dz hx)))
    have HE:=aa (fun (wq:World)(hq:Below w1.heap.size w1 wq)=>(show wq.cell? ⟨b,0,none⟩=some (.slice (some ⟨pb,po,none⟩) n cap)∧wq.cell? ⟨pb,po+i*3,none⟩=some (.string x.nm)∧wq.cell? ⟨pb,po+i*3+1,none⟩=some (.int .i64 x.ay)∧wq.cell? ⟨pb,po+i*3+2,none⟩=some (.slice x.A x.rows.length x.cap)from
     ⟨(HS.o.over hq).cell,(hq.cell (p:=⟨pb,po+i*3,none⟩) hpb).trans e0,(hq.cell (p:=⟨pb,po+i*3+1,none⟩) hpb).trans e1,(hq.cell (p:=⟨pb,po+i*3+2,none⟩) hpb).trans e2⟩))
    have bR:=aa (Below.drew HR.o);by_cases hi1:i=0
    · subst hi1
      have iN:=aa (fun (wq:World)(hq:Below w1.heap.size w1 wq)=>(show wq.cell? ⟨b,0,none⟩=some (.slice (some ⟨pb,po,none⟩) n cap)∧wq.cell? ⟨pb,po,none⟩=some (.string x.nm)∧wq.cell? ⟨pb,po+1,none⟩=some (.int .i64 x.ay)∧wq.cell? ⟨pb,po+2,none⟩=some (.slice x.A x.rows.length x.cap)from by
       have:=HE.o wq hq;rwa[Nat.zero_mul,Nat.add_zero]at this))
      clear e0 e1 e2 hrx hx;go_upto_region 6 with (fail)
      clear x0;obtain⟨x0,x1,x2,x3⟩:=iN.o _ bR.o;clear x0 x1 x2 x3;refine wp_region_held_drew (S:=(fun wq=>wq.cell? ⟨b,0,none⟩=some (.slice (some ⟨pb,po,none⟩) n cap)∧wq.cell? ⟨pb,po,none⟩=some (.string x.nm)∧wq.cell? ⟨pb,po+1,none⟩=some (.int .i64 x.ay)∧wq.cell? ⟨pb,po+2,none⟩=some (.slice x.A x.rows.length x.cap))) (by kernel_rfl) (iN.o _ bR.o) (fun _ => ?_);show wpAnyH _ _ _ _ _ 27 #[false,false,false,false,false,false,false,false,false,false,false,false,false,false,false,false,false,false,false,false,false,false,false,false,false,false,false] _ _;refine hU 0 (iN.o _ bR.o) ?_;refine hU 1 (iN.o _ bR.o) ?_;refine hU 2 (iN.o _ bR.o) ?_;refine hU 3 (iN.o _ bR.o) ?_;refine hU 4 (iN.o _ bR.o) ?_;refine hO 5 (fun K hK => ?_);go_simp;go_at_call 71;(with_reducible refine(HM.o _ bR.o).mono ?_);rintro e w2 ⟨rfl,h1⟩;have H2:=aa (bR.o.trans (h1.mono bR.o.size));clear h1;dsimp only;refine hK.o _ _ (iN.o _ H2.o) ?_;clear hK K;simp only[Act.put,sT,iT,iR];refine hU 6 (iN.o _ H2.o) ?_;refine hU 7 (iN.o _ H2.o) ?_;refine hU 8 (iN.o _ H2.o) ?_;refine hU 9 (iN.o _ H2.o) ?_;refine hU 10 (iN.o _ H2.o) ?_;refine hN 11 (iN.o _ H2.o) ?_;refine hN 12 (iN.o _ H2.o) ?_;refine hN 13 (iN.o _ H2.o) ?_;refine hN 14 (iN.o _ H2.o) ?_;refine hN 15 (iN.o _ H2.o) ?_;refine hN 16 (iN.o _ H2.o) ?_;refine hN 17 (iN.o _ H2.o) ?_;refine hN 18 (iN.o _ H2.o) ?_;refine hN 19 (iN.o _ H2.o) ?_;refine hN 20 (iN.o _ H2.o) ?_;refine hN 21 (iN.o _ H2.o) ?_;refine hN 22 (iN.o _ H2.o) ?_;refine hN 23 (iN.o _ H2.o) ?_;refine hN 24 (iN.o _ H2.o) ?_;refine hU 25 (iN.o _ H2.o) ?_;refine hU 26 (iN.o _ H2.o) ?_;refine wpAnyH_done (by kernel_rfl) ?_ _;all_goals go_wp2_with fail
      all_goals
       go_roundw
       case rel=>exact⟨1,by omega,by go_num,H2⟩
       case measure=>simp[intOf];omega
    · have hn0:(0:Int)<(i:Int):=by omega
      obtain⟨y,hy⟩:∃y,ah[i - 1]? = some y:=⟨_,bn (by rw[HL.o];omega)⟩;have afL:=Qy HO.o.rise hy (by rw[show i - 1+1=i from by omega];exact hx);obtain⟨pb2,po2,hA2,afO,f0,_,_,_⟩:=oP HX.o hy;obtain⟨rfl,rfl⟩:pb=pb2∧po=po2:=by injection hA2 with h;injection h with h1 h2;exact⟨h1,h2⟩
      obtain⟨j,hj⟩:∃j,i - 1=j:=⟨_,rfl⟩;rw[hj]at f0;have hw1:IntKind.i64.wrap ((i:Int) - 1)=(j:Int):=by rw[dK];omega
      have hwj:IntKind.i64.wrap (j:Int)=(j:Int):=by rw[dK];omega
      have hj0:(0:Int)≤(j:Int):=by omega
      have hjn:(j:Int)<(n:Int):=by omega
      have HF:=aa (fun (wq:World)(hq:Below w1.heap.size w1 wq)=>(show wq.cell? ⟨pb,po+j*3,none⟩=some (.string y.nm)from(hq.cell (p:=⟨pb,po+j*3,none⟩) hpb).trans f0));clear e0 e1 e2 hrx hx hy hA2 f0 hj;go_upto_region 6 with (fail)
      clear x0;obtain⟨x0,x1,x2,x3⟩:=HE.o _ bR.o;have x4:=HF.o _ bR.o
      have HG:=aa (fun (wq:World)(hq:Below w1.heap.size w1 wq)=>(show wq.cell? ⟨b,0,none⟩=some (.slice (some ⟨pb,po,none⟩) n cap)∧wq.cell? ⟨pb,po+i*3,none⟩=some (.string x.nm)∧wq.cell? ⟨pb,po+i*3+1,none⟩=some (.int .i64 x.ay)∧wq.cell? ⟨pb,po+i*3+2,none⟩=some (.slice x.A x.rows.length x.cap)∧wq.cell? ⟨pb,po+j*3,none⟩=some (.string y.nm)from
       ⟨(HE.o _ hq).1,(HE.o _ hq).2.1,(HE.o _ hq).2.2.1,(HE.o _ hq).2.2.2,HF.o _ hq⟩))
      clear x0 x1 x2 x3 x4;have hin:0<i:=by omega
      refine wp_region_held_drew (S:=(fun wq=>wq.cell? ⟨b,0,none⟩=some (.slice (some ⟨pb,po,none⟩) n cap)∧wq.cell? ⟨pb,po+i*3,none⟩=some (.string x.nm)∧wq.cell? ⟨pb,po+i*3+1,none⟩=some (.int .i64 x.ay)∧wq.cell? ⟨pb,po+i*3+2,none⟩=some (.slice x.A x.rows.length x.cap)∧wq.cell? ⟨pb,po+j*3,none⟩=some (.string y.nm))) (by kernel_rfl) (HG.o _ bR.o) (fun _ => ?_);show wpAnyH _ _ _ _ _ 27 #[false,false,false,false,false,false,false,false,false,false,false,false,false,false,false,false,false,false,false,false,false,false,false,false,false,false,false] _ _;refine hU 0 (HG.o _ bR.o) ?_;refine hU 1 (HG.o _ bR.o) ?_;refine hU 2 (HG.o _ bR.o) ?_;refine hU 3 (HG.o _ bR.o) ?_;refine hU 4 (HG.o _ bR.o) ?_;refine hO 5 (fun K hK => ?_);go_simp;go_at_call 71;(with_reducible refine(HM.o _ bR.o).mono ?_);rintro e w2 ⟨rfl,h1⟩;have H2:=aa (bR.o.trans (h1.mono bR.o.size));clear h1;dsimp only;refine hK.o _ _ (HG.o _ H2.o) ?_;clear hK K;simp only[Act.put,sT,iT,iR];refine hU 6 (HG.o _ H2.o) ?_;refine hU 7 (HG.o _ H2.o) ?_;refine hU 8 (HG.o _ H2.o) ?_;refine hU 9 (HG.o _ H2.o) ?_;refine hU 10 (HG.o _ H2.o) ?_;refine hU 11 (HG.o _ H2.o) ?_;refine hU 12 (HG.o _ H2.o) ?_;refine hU 13 (HG.o _ H2.o) ?_;refine hU 14 (HG.o _ H2.o) ?_;refine hU 15 (HG.o _ H2.o) ?_;refine hU 16 (HG.o _ H2.o) ?_;refine hU 17 (HG.o _ H2.o) ?_;refine hU 18 (HG.o _ H2.o) ?_;refine hU 19 (HG.o _ H2.o) ?_;refine hU 20 (HG.o _ H2.o) ?_;refine hU 21 (HG.o _ H2.o) ?_;refine hU 22 (HG.o _ H2.o) ?_;refine hU 23 (HG.o _ H2.o) ?_;refine hU 24 (HG.o _ H2.o) ?_;refine hU 25 (HG.o _ H2.o) ?_;refine hU 26 (HG.o _ H2.o) ?_;refine wpAnyH_done (by kernel_rfl) ?_ _;all_goals go_wp2_with fail
      all_goals
       go_roundw
       case rel=>exact⟨i+1,by omega,by go_num,H2⟩
       case measure=>simp[intOf];omega
  · have hii:¬ (i:Int)<(n:Int):=by omega
    go_wp2_with fail
    go_ret;exact HB0.o _ _ rfl HR.o
theorem Qx (w:World)(A:Option Addr)(n cap:Nat)(ah:List ak)(nm:ByteArray)(o:Option (Nat × ak))(h:eH w w.heap.size (.slice A n cap) ah)(hn:n≤1000000)(ho:vg ah nm o) :
 Calls Tryz.prog 42 #[.agg #[.slice A n cap],.string nm] w fun e w'=>e = .returned (.int .i64 (sS o))∧Below w.heap.size w w':=by
 have HB:=aa (kJ w (.slice A n cap));have HA:=aa (aY.new w (.slice A n cap));have HL:=aa h.1.len.1;have gM:=aa (h.lift HB.o);have HO:=aa ho;clear h ho;go_enter Tryz.func42,Tryz.ntmps42;go_upto_region 1 with (fail)
 obtain⟨w1,hw1⟩:∃w1,w.alloc (.cells #[.slice A n cap] 26)=w1:=⟨_,rfl⟩;rw[hw1]at HA HB gM ⊢;clear hw1;go_upto_region 2 with (fail)
 go_loopw [5] (fun iv wr=>∃i:Nat,i≤n∧iv = .int .i64 (i:Int)∧Hid (∀(j:Nat)(t:ak),j<i→ah[j]? = some t→t.nm≠nm)∧wr=w1)
  (fun iv _=>n - (intOf iv).toNat)
 case atStart=>exact⟨0,cu _,rfl,aa (fun j t h=>by omega),rfl⟩
 case round =>
  obtain⟨i,hi,rfl,HT,hwr⟩:=hrel;subst hwr;have b0:=HA.o.cell;by_cases hlt:i<n
  · have hii:(i:Int)<(n:Int):=by omega
    have hi0:(0:Int)≤(i:Int):=by omega
    obtain⟨s,hs⟩:∃s,ah[i]? = some s:=⟨_,bn (by rw[HL.o];exact hlt)⟩;obtain⟨pb,po,rfl,hpb,e0,e1,e2,hrow⟩:=oP gM.o hs;have HS:=aa hs;clear e1 e2 hrow hs;by_cases he:s.nm=nm
    · have hq:(s.nm.toList == nm.toList)=true:=by rw[CZ];exact decide_eq_true he
      have hq2:s.nm.toList=nm.toList:=by rw[he]
      have HF:=aa (show sS o=(i:Int)from by
       cases o with
       | none=>exact absurd he (HO.o i s HS.o)
       | some p =>
         obtain⟨k,t⟩:=p;obtain⟨h1,h2,h3⟩:=HO.o;show(k:Int)=(i:Int);rcases Nat.lt_trichotomy i k with h|h|h
         · exact absurd he (h3 i s h HS.o)
         · omega
         · exact absurd h2 (HT.o k t h h1))
      clear he;go_wp2_with fail
      go_ret;exact⟨za HF.o.symm,HB.o⟩
    · have hq:(s.nm.toList == nm.toList)=false:=by rw[CZ];exact decide_eq_false he
      have hq2:¬ s.nm.toList=nm.toList:=nX _ _ he
      have HF:=aa (show ∀(j:Nat)(t:ak),j<i+1→ah[j]? = some t→t.nm≠nm from fun j t hj ht=>by
       by_cases hji:j=i
       · subst hji
         have h:=HS.o;rw[ht]at h;injection h with h;subst h;exact he
       · exact HT.o j t (by omega) ht)
      clear he;go_wp2_with fail
      go_roundw
      case rel=>exact⟨i+1,by omega,by go_num,HF,by first|rfl|trivial⟩
      case measure=>simp[intOf];omega
  · have hii:¬ (i:Int)<(n:Int):=by omega
    have HF:=aa (show sS o = -1 from by
     cases o with
     | none=>rfl
     | some p =>
       obtain⟨k,t⟩:=p;obtain⟨h1,h2,h3⟩:=HO.o;have:=(dm.1 h1).1;have:=HL.o;exact absurd h2 (HT.o k t (by omega) h1))
    go_wp2_with fail
    go_ret;exact⟨za HF.o.symm,HB.o⟩
theorem Ov (w:World)(s:ak)(h:jM w w.heap.size (.slice s.A s.rows.length s.cap) s.rows)(r c:Nat)(rv:aN)(hr:s.rows[r]? = some rv)(hc:c<rv.l.length) :
 Calls Tryz.prog 44 #[.agg #[.string s.nm,.int .i64 s.ay,.slice s.A s.rows.length s.cap],.int .i64 (r:Int),.int .i64 (c:Int)] w fun e w'=>e = .returned (.bool true)∧Below w.heap.size w w':=by
 have HB:=aa (nJ w s.nm s.ay (.slice s.A s.rows.length s.cap));have HS:=aa (ShAt.new w s.nm s.ay (.slice s.A s.rows.length s.cap));obtain⟨pb,po,hA,hpb,e0,_⟩:=rH (h.lift HB.o) hr;have hrl:=(dm.1 hr).1;obtain⟨n,hn⟩:∃n,s.rows.length=n:=⟨_,rfl⟩;obtain⟨m,hm⟩:∃m,rv.l.length=m:=⟨_,rfl⟩;rw[hm]at e0 hc;rw[hn]at hrl HB HS e0 ⊢;rw[hA]at HB HS e0 ⊢;have tK:(r:Int)<(n:Int):=by omega
 have hci:(c:Int)<(m:Int):=by omega
 have hr0:(0:Int)≤(r:Int):=by omega
 have hc0:(0:Int)≤(c:Int):=by omega
 have HE:=aa e0;clear h hr hA hpb hn hm e0;go_enter Tryz.func44,Tryz.ntmps44;go_upto_region 1 with (fail)
 obtain⟨w1,hw1⟩:∃w1,w.alloc (.cells #[.string s.nm,.int .i64 s.ay,.slice (some ⟨pb,po,none⟩) n s.cap] 73)=w1:=⟨_,rfl⟩;rw[hw1]at HB HS HE ⊢;clear hw1;obtain⟨x0,x1,x2⟩:=HS.o.cells;have y0:=HE.o;go_wp2_with fail
 go_ret;exact⟨rfl,HB.o⟩
theorem Ot (w:World)(s:ak)(row aI:Int)(h:¬ (0≤row∧row<(s.rows.length:Int))) :
 Calls Tryz.prog 44 #[.agg #[.string s.nm,.int .i64 s.ay,.slice s.A s.rows.length s.cap],.int .i64 row,.int .i64 aI] w fun e w'=>e = .returned (.bool false)∧Below w.heap.size w w':=by
 have HB:=aa (nJ w s.nm s.ay (.slice s.A s.rows.length s.cap));have HS:=aa (ShAt.new w s.nm s.ay (.slice s.A s.rows.length s.cap));obtain⟨n,hn⟩:∃n,s.rows.length=n:=⟨_,rfl⟩;rw[hn]at HB HS h ⊢;clear hn;go_enter Tryz.func44,Tryz.ntmps44;go_upto_region 1 with (fail)
 obtain⟨w1,hw1⟩:∃w1,w.alloc (.cells #[.string s.nm,.int .i64 s.ay,.slice s.A n s.cap] 73)=w1:=⟨_,rfl⟩;rw[hw1]at HB HS ⊢;clear hw1;obtain⟨x0,x1,x2⟩:=HS.o.cells;by_cases h0:0≤row
 · have h1:¬ row<(n:Int):=fun e=>h ⟨h0,e⟩
   clear h;go_wp2_with fail
   go_ret;exact⟨rfl,HB.o⟩
 · clear h
   go_wp2_with fail
   go_ret;exact⟨rfl,HB.o⟩
theorem Ou (w:World)(s:ak)(h:jM w w.heap.size (.slice s.A s.rows.length s.cap) s.rows)(r:Nat)(rv:aN)(aI:Int)(hr:s.rows[r]? = some rv)(hc:¬ (0≤aI∧aI<(rv.l.length:Int))) :
 Calls Tryz.prog 44 #[.agg #[.string s.nm,.int .i64 s.ay,.slice s.A s.rows.length s.cap],.int .i64 (r:Int),.int .i64 aI] w fun e w'=>e = .returned (.bool false)∧Below w.heap.size w w':=by
 have HB:=aa (nJ w s.nm s.ay (.slice s.A s.rows.length s.cap));have HS:=aa (ShAt.new w s.nm s.ay (.slice s.A s.rows.length s.cap));obtain⟨pb,po,hA,hpb,e0,_⟩:=rH (h.lift HB.o) hr;have hrl:=(dm.1 hr).1;obtain⟨n,hn⟩:∃n,s.rows.length=n:=⟨_,rfl⟩;obtain⟨m,hm⟩:∃m,rv.l.length=m:=⟨_,rfl⟩;rw[hm]at e0 hc;rw[hn]at hrl HB HS e0 ⊢;rw[hA]at HB HS e0 ⊢;have tK:(r:Int)<(n:Int):=by omega
 have hr0:(0:Int)≤(r:Int):=by omega
 have HE:=aa e0;clear h hr hA hpb hn hm e0;go_enter Tryz.func44,Tryz.ntmps44;go_upto_region 1 with (fail)
 obtain⟨w1,hw1⟩:∃w1,w.alloc (.cells #[.string s.nm,.int .i64 s.ay,.slice (some ⟨pb,po,none⟩) n s.cap] 73)=w1:=⟨_,rfl⟩;rw[hw1]at HB HS HE ⊢;clear hw1;obtain⟨x0,x1,x2⟩:=HS.o.cells;have y0:=HE.o;by_cases h0:0≤aI
 · have h1:¬ aI<(m:Int):=fun e=>hc ⟨h0,e⟩
   clear hc;go_wp2_with fail
   go_ret;exact⟨rfl,HB.o⟩
 · clear hc
   go_wp2_with fail
   go_ret;exact⟨rfl,HB.o⟩
theorem abV (w:World)(A:Option Addr)(n cap:Nat)(ah:List ak)(nm:ByteArray)(row aI:Int)(o:Option (Nat × ak × Nat × aN × Nat))(h:eH w w.heap.size (.slice A n cap) ah)(hn:n≤1000000)(ho:qA ah nm row aI o) :
 Calls Tryz.prog 16 #[.agg #[.slice A n cap],.agg #[.string nm,.int .i64 row,.int .i64 aI]] w fun e w'=>e = .returned (.string (xG o))∧Below w.heap.size w w':=by
 obtain⟨w2,hw2,hb,hbk,hsp,hsz⟩:=AJ w (.slice A n cap) nm row aI;have HX:=aa (h.lift hb);have HB:=aa hb;have gM:=aa hbk;have jY:=aa hsp;have HL:=aa h.1.len.1
 have hfind:∃f,vg ah nm f∧((f=none∧o=none)∨∃i s,f=some (i,s)∧First ah nm i s):=by
  cases o with
  | none =>
    rcases ho with ho|⟨i,s,hf,_⟩
    · exact⟨none,ho,.inl ⟨rfl,rfl⟩⟩
    · exact⟨some (i,s),hf,.inr ⟨i,s,rfl,hf⟩⟩
  | some p=>obtain⟨i,s,r,rv,c⟩:=p;exact⟨some (i,s),ho.1,.inr ⟨i,s,rfl,ho.1⟩⟩
 obtain⟨f,hf,hcase⟩:=hfind;have HF:=aa (Qx w2 A n cap ah nm f HX.o hn hf);have HO:=aa ho;clear h hb hbk hsp ho hsz hf;go_enter Tryz.func16,Tryz.ntmps16;go_upto_region 1 with (fail)
 clear hw2;have b0:=gM.o.cell;obtain⟨s0,s1,s2⟩:=jY.o.cells;go_upto_region 2 with (go_at_call 42;((with_reducible refine HF.o.mono ?_);rintro e w3 ⟨rfl,h1⟩;have H3:=aa h1;clear h1))
 clear b0 s0 s1 s2;have HB3:=aa (HB.o.trans (H3.o.mono HB.o.size));have A7:=aa (gM.o.over H3.o);have o6:=aa (jY.o.over H3.o);have dV:=aa (HX.o.lift H3.o);have fw:=aa (Below.drew (ai w3.heap.size w3));rcases hcase with ⟨rfl,rfl⟩|⟨i,s,rfl,hfi⟩
 · have hm1:sS none = -1:=rfl
   rw[hm1];clear hm1;have hd1:decide ((-1:Int)<0)=true:=rfl;go_quiet (fail)
   go_wp2_with fail
   go_ret;exact⟨rfl,uM HB3.o _⟩
 · have hfn:sS (some (i,s))=(i:Int):=rfl
   rw[hfn];clear hfn;have hi0:(0:Int)≤(i:Int):=by omega
   have hil:i<n:=by have:=(dm.1 hfi.1).1;rw[HL.o]at this;exact this
   have hii:(i:Int)<(n:Int):=by omega
   have Xh:decide ((i:Int)<0)=false:=decide_eq_false (by omega);obtain⟨pb,po,hA,hpb,e0,e1,e2,hrow⟩:=oP dV.o hfi.1;have oo:=aa hrow;cases o with
   | none =>
     have gN:=aa (fun (wq:World)(hq:Below w3.heap.size w3 wq)=>(show wq.cell? ⟨w.heap.size,0,none⟩=some (.slice (some ⟨pb,po,none⟩) n cap)∧wq.cell? ⟨w.heap.size+1,0,none⟩=some (.string nm)∧wq.cell? ⟨w.heap.size+1,1,none⟩=some (.int .i64 row)∧wq.cell? ⟨w.heap.size+1,2,none⟩=some (.int .i64 aI)∧wq.cell? ⟨pb,po+i*3,none⟩=some (.string s.nm)∧wq.cell? ⟨pb,po+i*3+1,none⟩=some (.int .i64 s.ay)∧wq.cell? ⟨pb,po+i*3+2,none⟩=some (Value.slice s.A s.rows.length s.cap)from by
      have hb0:=(A7.o.over hq).cell;rw[hA]at hb0;exact⟨hb0,(o6.o.over hq).cells.1,(o6.o.over hq).cells.2.1,(o6.o.over hq).cells.2.2,(hq.cell (p:=⟨pb,po+i*3,none⟩) hpb).trans e0,(hq.cell (p:=⟨pb,po+i*3+1,none⟩) hpb).trans e1,(hq.cell (p:=⟨pb,po+i*3+2,none⟩) hpb).trans e2⟩))
     have qi:=aa (fun (wq:World)(hq:Below w3.heap.size w3 wq)=>(show Calls Tryz.prog 44 #[.agg #[.string s.nm,.int .i64 s.ay,.slice s.A s.rows.length s.cap],.int .i64 row,.int .i64 aI] wq fun e w'=>e = .returned (.bool false)∧Below wq.heap.size wq w' from by
      rcases HO.o with ho|⟨i2,s',hf2,ho⟩
      · exact absurd hfi.2.1 (ho i s hfi.1)
      · have hse:s'=s:=by
         rcases Nat.lt_trichotomy i i2 with h|h|h
         · exact absurd hfi.2.1 (hf2.2.2 i s h hfi.1)
         · subst h;have:=hf2.1;rw[hfi.1]at this;exact(dX this).symm
         · exact absurd hf2.2.1 (hfi.2.2 i2 s' h hf2.1)
        subst hse;rcases ho with ho|⟨r,rv,rfl,hr,hc⟩
        · exact Ot wq s' row aI ho
        · exact Ou wq s' (oo.o.lift hq) r rv aI hr hc))
     clear e0 e1 e2 hrow hpb;obtain⟨x0,x1,x2,x3,x4,x5,x6⟩:=gN.o _ fw.o
     go_region_held3 (fun wq=>wq.cell? ⟨w.heap.size,0,none⟩=some (.slice (some ⟨pb,po,none⟩) n cap)∧wq.cell? ⟨w.heap.size+1,0,none⟩=some (.string nm)∧wq.cell? ⟨w.heap.size+1,1,none⟩=some (.int .i64 row)∧wq.cell? ⟨w.heap.size+1,2,none⟩=some (.int .i64 aI)∧wq.cell? ⟨pb,po+i*3,none⟩=some (.string s.nm)∧wq.cell? ⟨pb,po+i*3+1,none⟩=some (.int .i64 s.ay)∧wq.cell? ⟨pb,po+i*3+2,none⟩=some (Value.slice s.A s.rows.length s.cap)) (first|exact⟨x0,x1,x2,x3,x4,x5,x6⟩|exact gN.o _ H4.o) (first
      | (go_at_call 44;((with_reducible refine(qi.o _ fw.o).mono ?_);rintro e w4 ⟨rfl,h1⟩;have H4:=aa (fw.o.trans (h1.mono fw.o.size));clear h1)))
     all_goals clear x0 x1 x2 x3 x4 x5 x6
     all_goals go_wp2_with fail
     all_goals go_ret
     all_goals exact⟨rfl,HB3.o.trans (H4.o.mono HB3.o.size)⟩
   | some p =>
     obtain⟨i2,s',r,rv,c⟩:=p;obtain⟨hf2,rfl,hr,rfl,hc⟩:=HO.o
     have hse:s'=s:=by
      rcases Nat.lt_trichotomy i i2 with h|h|h
      · exact absurd hfi.2.1 (hf2.2.2 i s h hfi.1)
      · subst h;have:=hf2.1;rw[hfi.1]at this;exact(dX this).symm
      · exact absurd hf2.2.1 (hfi.2.2 i2 s' h hf2.1)
     subst hse;have hin:=fun (wq:World)(hq:Below w3.heap.size w3 wq)=>Ov wq s' (oo.o.lift hq) r c rv hr hc
     obtain⟨di,dJ,hA2,mq,f0,htx⟩:=rH hrow hr;obtain⟨ub,zo,hA3,hub,g0⟩:=xH htx (i:=c) (x:=rv.l.getD c ⟨#[]⟩) (by rw[iC,bn hc];rfl);have hrl:=(dm.1 hr).1;obtain⟨rn,hrn⟩:∃rn,s'.rows.length=rn:=⟨_,rfl⟩;obtain⟨cn,hcn⟩:∃cn,rv.l.length=cn:=⟨_,rfl⟩;rw[hrn]at hrl;simp only[hA2,hrn]at hin;rw[hA2,hrn]at e2;rw[hA3,hcn]at f0;rw[hcn]at hc;have qi:=aa hin;have Bf:=aa f0;have Bi:=aa g0;have SX:=aa mq;have TD:=aa hub
     have gN:=aa (fun (wq:World)(hq:Below w3.heap.size w3 wq)=>(show wq.cell? ⟨w.heap.size,0,none⟩=some (.slice (some ⟨pb,po,none⟩) n cap)∧wq.cell? ⟨w.heap.size+1,0,none⟩=some (.string nm)∧wq.cell? ⟨w.heap.size+1,1,none⟩=some (.int .i64 (r:Int))∧wq.cell? ⟨w.heap.size+1,2,none⟩=some (.int .i64 (c:Int))∧wq.cell? ⟨pb,po+i*3,none⟩=some (.string s'.nm)∧wq.cell? ⟨pb,po+i*3+1,none⟩=some (.int .i64 s'.ay)∧wq.cell? ⟨pb,po+i*3+2,none⟩=some (Value.slice (some ⟨di,dJ,none⟩) rn s'.cap)from by
      have hb0:=(A7.o.over hq).cell;rw[hA]at hb0;exact⟨hb0,(o6.o.over hq).cells.1,(o6.o.over hq).cells.2.1,(o6.o.over hq).cells.2.2,(hq.cell (p:=⟨pb,po+i*3,none⟩) hpb).trans e0,(hq.cell (p:=⟨pb,po+i*3+1,none⟩) hpb).trans e1,(hq.cell (p:=⟨pb,po+i*3+2,none⟩) hpb).trans e2⟩))
     have hr0:(0:Int)≤(r:Int):=by omega
     have tK:(r:Int)<(rn:Int):=by omega
     have hc0:(0:Int)≤(c:Int):=by omega
     have hci:(c:Int)<(cn:Int):=by omega
     clear e0 e1 e2 hrow hpb hin f0 g0 mq hub hr htx hA2 hA3 hrn hcn hfi hf2 HO;obtain⟨x0,x1,x2,x3,x4,x5,x6⟩:=gN.o _ fw.o
     go_region_held3 (fun wq=>wq.cell? ⟨w.heap.size,0,none⟩=some (.slice (some ⟨pb,po,none⟩) n cap)∧wq.cell? ⟨w.heap.size+1,0,none⟩=some (.string nm)∧wq.cell? ⟨w.heap.size+1,1,none⟩=some (.int .i64 (r:Int))∧wq.cell? ⟨w.heap.size+1,2,none⟩=some (.int .i64 (c:Int))∧wq.cell? ⟨pb,po+i*3,none⟩=some (.string s'.nm)∧wq.cell? ⟨pb,po+i*3+1,none⟩=some (.int .i64 s'.ay)∧wq.cell? ⟨pb,po+i*3+2,none⟩=some (Value.slice (some ⟨di,dJ,none⟩) rn s'.cap)) (first|exact⟨x0,x1,x2,x3,x4,x5,x6⟩|exact gN.o _ H4.o) (first
      | (go_at_call 44;((with_reducible refine(qi.o _ fw.o).mono ?_);rintro e w4 ⟨rfl,h1⟩;have H4:=aa (fw.o.trans (h1.mono fw.o.size));clear h1)))
     all_goals
      clear x0 x1 x2 x3 x4 x5 x6;obtain⟨y0,y1,y2,y3,y4,kQ,y6⟩:=gN.o _ H4.o;have f1:=(H4.o.cell (p:=⟨di,dJ+r,none⟩) SX.o).trans Bf.o;have g1:=(H4.o.cell (p:=⟨ub,zo+c,none⟩) TD.o).trans Bi.o;go_upto_region 4 with (fail)
      go_quiet (fail)
      go_wp2_with fail
      go_ret;exact⟨rfl,uM (HB3.o.trans (H4.o.mono HB3.o.size)) _⟩
theorem JK:Tryz.f13.results=#[.cell 6 26,.tmp 7]:=by kernel_rfl
def LP (B:Nat)(ah:List ak)(n:Nat)(t:ByteArray)(o:Option (Nat × ak × Nat × aN × Nat))(e:Ending)(w':World):Prop :=
 match o with
 | none=>e = .returned (.tuple #[.agg #[.slice none 0 0],.int .i64 2])
 | some (i,_,r,_,c)=>∃A' c' sv,e = .returned (.tuple #[.agg #[.slice A' n c'],.int .i64 0])∧bF sv=wo (bF ah) i r c t∧iU w' B (.slice A' n c') sv
theorem ach (w:World)(A:Option Addr)(n cap:Nat)(ah:List ak)(nm:ByteArray)(row aI:Int)(t:ByteArray)(o:Option (Nat × ak × Nat × aN × Nat))(h:eH w w.heap.size (.slice A n cap) ah)(hok:zu ah)(hwd:G5 ah)(hd:∀s∈ah,∀r∈s.rows,∀x∈r.l,vE x)(htd:vE t)(ho:qA ah nm row aI o) :
 Calls Tryz.prog 13 #[.agg #[.slice A n cap],.agg #[.string nm,.int .i64 row,.int .i64 aI],.string t] w fun e w'=>Below w.heap.size w w'∧LP w.heap.size ah n t o e w':=by
 obtain⟨w1,hw1,hb,hbk,hsp,hz0,hsz⟩:=Ro w (.slice A n cap) nm row aI;have hn:n≤1000000:=by have h1:=hok.few;have h2:=h.1.len.1;omega
 have HX:=aa (h.lift hb);have HB:=aa hb;have gM:=aa hbk;have jY:=aa hsp;have HL:=aa h.1.len.1;have HZ0:=aa (show aY w1 (w.heap.size+1+1) (.slice none 0 0)from hz0);have jZ:=aa hsz
 have hfind:∃f,vg ah nm f∧((f=none∧o=none)∨∃i s,f=some (i,s)∧First ah nm i s):=by
  cases o with
  | none =>
    rcases ho with ho|⟨i,s,hf,_⟩
    · exact⟨none,ho,.inl ⟨rfl,rfl⟩⟩
    · exact⟨some (i,s),hf,.inr ⟨i,s,rfl,hf⟩⟩
  | some p=>obtain⟨i,s,r,rv,c⟩:=p;exact⟨some (i,s),ho.1,.inr ⟨i,s,rfl,ho.1⟩⟩
 obtain⟨f,hf,hcase⟩:=hfind;have HF:=aa (Qx w1 A n cap ah nm f HX.o hn hf);have HO:=aa ho;have kH:=aa hok;have GL:=aa hwd;have Sz:=aa (fun (wq:World)(hq:Below w1.heap.size w1 wq)=>abX wq A n cap ah (HX.o.lift hq) hok hd);have SA:=aa (fun (wq:World)=>QB t htd wq);clear h hb hbk hsp ho hsz hf hz0 hok hwd hd htd;go_enter Tryz.func13,Tryz.ntmps13;go_upto_region 1 with (fail)
 clear hw1;have b0:=gM.o.cell;obtain⟨s0,s1,s2⟩:=jY.o.cells;go_upto_region 2 with (go_at_call 42;((with_reducible refine HF.o.mono ?_);rintro e w2 ⟨rfl,h1⟩;have H2:=aa h1;clear h1))
 clear b0 s0 s1 s2;have b0:=(gM.o.over H2.o).cell
 go_upto_region 4 with (first
  | (go_at_call 43;((with_reducible refine(Sz.o _ H2.o).mono ?_);rintro e w3 ⟨rfl,h1⟩;have H3:=aa (H2.o.trans (h1.mono H2.o.size));clear h1))
  | (go_at_call 30;((with_reducible refine(SA.o _).mono ?_);rintro e w4 ⟨rfl,h1⟩;have H4:=aa (H3.o.trans (h1.mono H3.o.size));clear h1)))
 clear b0;have HB3:=aa (HB.o.trans (H4.o.mono HB.o.size));have A7:=aa (gM.o.over H4.o);have o6:=aa (jY.o.over H4.o);have dV:=aa (HX.o.lift H4.o);have HZ3:=aa (HZ0.o.over H4.o);have qw:=aa (show w.heap.size+3≤w4.heap.size from by have h1:=H4.o.size;have h2:=jZ.o;omega);have fw:=aa (Below.drew (ai w4.heap.size w4));rcases hcase with ⟨rfl,rfl⟩|⟨i,s,rfl,hfi⟩
 · have hm1:sS none = -1:=rfl
   rw[hm1];clear hm1;have hd1:decide ((-1:Int)<0)=true:=rfl;go_quiet (fail)
   go_upto_region 5 with (fail)
   generalize Ci:World.drewN _ _=FC;have xP:=aa (show Below w4.heap.size w4 FC from by rw[← Ci];exact uM (ai _ _) _);clear Ci;have ib:=aa (HZ3.o.over xP.o);have lI:=aa (HB3.o.trans (xP.o.mono HB3.o.size));have m0:=ib.o.jh;have z0:=ib.o.cell;go_wp2_with fail
   exact bodyPost_ret (Cx (ib.o.put (.slice none 0 0)) _ _ (.int .i64 2) 6 7 JK rfl rfl) rfl ⟨lI.o.setCell (by show w.heap.size≤w.heap.size+1+1;omega) _,rfl⟩
 · have hfn:sS (some (i,s))=(i:Int):=rfl
   rw[hfn];clear hfn;have hi0:(0:Int)≤(i:Int):=by omega
   have hil:i<n:=by have:=(dm.1 hfi.1).1;rw[HL.o]at this;exact this
   have hii:(i:Int)<(n:Int):=by omega
   have Xh:decide ((i:Int)<0)=false:=decide_eq_false (by omega);obtain⟨pb,po,hA,hpb,e0,e1,e2,hrow⟩:=oP dV.o hfi.1;have oo:=aa hrow;cases o with
   | none =>
     have gN:=aa (fun (wq:World)(hq:Below w4.heap.size w4 wq)=>(show wq.cell? ⟨w.heap.size,0,none⟩=some (.slice (some ⟨pb,po,none⟩) n cap)∧wq.cell? ⟨w.heap.size+1,0,none⟩=some (.string nm)∧wq.cell? ⟨w.heap.size+1,1,none⟩=some (.int .i64 row)∧wq.cell? ⟨w.heap.size+1,2,none⟩=some (.int .i64 aI)∧wq.cell? ⟨pb,po+i*3,none⟩=some (.string s.nm)∧wq.cell? ⟨pb,po+i*3+1,none⟩=some (.int .i64 s.ay)∧wq.cell? ⟨pb,po+i*3+2,none⟩=some (Value.slice s.A s.rows.length s.cap)from by
      have hb0:=(A7.o.over hq).cell;rw[hA]at hb0;exact⟨hb0,(o6.o.over hq).cells.1,(o6.o.over hq).cells.2.1,(o6.o.over hq).cells.2.2,(hq.cell (p:=⟨pb,po+i*3,none⟩) hpb).trans e0,(hq.cell (p:=⟨pb,po+i*3+1,none⟩) hpb).trans e1,(hq.cell (p:=⟨pb,po+i*3+2,none⟩) hpb).trans e2⟩))
     have qi:=aa (fun (wq:World)(hq:Below w4.heap.size w4 wq)=>(show Calls Tryz.prog 44 #[.agg #[.string s.nm,.int .i64 s.ay,.slice s.A s.rows.length s.cap],.int .i64 row,.int .i64 aI] wq fun e w'=>e = .returned (.bool false)∧Below wq.heap.size wq w' from by
      rcases HO.o with ho|⟨i2,s',hf2,ho⟩
      · exact absurd hfi.2.1 (ho i s hfi.1)
      · have hse:s'=s:=by
         rcases Nat.lt_trichotomy i i2 with h|h|h
         · exact absurd hfi.2.1 (hf2.2.2 i s h hfi.1)
         · subst h;have:=hf2.1;rw[hfi.1]at this;exact(dX this).symm
         · exact absurd hf2.2.1 (hfi.2.2 i2 s' h hf2.1)
        subst hse;rcases ho with ho|⟨r,rv,rfl,hr,hc⟩
        · exact Ot wq s' row aI ho
        · exact Ou wq s' (oo.o.lift hq) r rv aI hr hc))
     clear e0 e1 e2 hrow hpb;obtain⟨x0,x1,x2,x3,x4,x5,x6⟩:=gN.o _ fw.o
     go_region_held3 (fun wq=>wq.cell? ⟨w.heap.size,0,none⟩=some (.slice (some ⟨pb,po,none⟩) n cap)∧wq.cell? ⟨w.heap.size+1,0,none⟩=some (.string nm)∧wq.cell? ⟨w.heap.size+1,1,none⟩=some (.int .i64 row)∧wq.cell? ⟨w.heap.size+1,2,none⟩=some (.int .i64 aI)∧wq.cell? ⟨pb,po+i*3,none⟩=some (.string s.nm)∧wq.cell? ⟨pb,po+i*3+1,none⟩=some (.int .i64 s.ay)∧wq.cell? ⟨pb,po+i*3+2,none⟩=some (Value.slice s.A s.rows.length s.cap)) (first|exact⟨x0,x1,x2,x3,x4,x5,x6⟩|exact gN.o _ aQ.o) (first
      | (go_at_call 44;((with_reducible refine(qi.o _ fw.o).mono ?_);rintro e w5 ⟨rfl,h1⟩;have aQ:=aa (fw.o.trans (h1.mono fw.o.size));clear h1)))
     all_goals clear x0 x1 x2 x3 x4 x5 x6
     all_goals
      have ib:=aa (HZ3.o.over aQ.o);have lI:=aa (HB3.o.trans (aQ.o.mono HB3.o.size));have m0:=ib.o.jh;have z0:=ib.o.cell;go_wp2_with fail
      exact bodyPost_ret (Cx (ib.o.put (.slice none 0 0)) _ _ (.int .i64 2) 6 7 JK rfl rfl) rfl ⟨lI.o.setCell (by show w.heap.size≤w.heap.size+1+1;omega) _,rfl⟩
   | some p =>
     obtain⟨i2,s',r,rv,c⟩:=p;obtain⟨hf2,rfl,hr,rfl,hc⟩:=HO.o
     have hie:i2=i∧s'=s:=by
      rcases Nat.lt_trichotomy i i2 with h|h|h
      · exact absurd hfi.2.1 (hf2.2.2 i s h hfi.1)
      · subst h;have:=hf2.1;rw[hfi.1]at this;exact⟨rfl,(dX this).symm⟩
      · exact absurd hf2.2.1 (hfi.2.2 i2 s' h hf2.1)
     obtain⟨rfl,rfl⟩:=hie;have qi:=aa (fun (wq:World)(hq:Below w4.heap.size w4 wq)=>Ov wq s' (oo.o.lift hq) r c rv hr hc)
     have gN:=aa (fun (wq:World)(hq:Below w4.heap.size w4 wq)=>(show wq.cell? ⟨w.heap.size,0,none⟩=some (.slice (some ⟨pb,po,none⟩) n cap)∧wq.cell? ⟨w.heap.size+1,0,none⟩=some (.string nm)∧wq.cell? ⟨w.heap.size+1,1,none⟩=some (.int .i64 (r:Int))∧wq.cell? ⟨w.heap.size+1,2,none⟩=some (.int .i64 (c:Int))∧wq.cell? ⟨pb,po+i2*3,none⟩=some (.string s'.nm)∧wq.cell? ⟨pb,po+i2*3+1,none⟩=some (.int .i64 s'.ay)∧wq.cell? ⟨pb,po+i2*3+2,none⟩=some (Value.slice s'.A s'.rows.length s'.cap)from by
      have hb0:=(A7.o.over hq).cell;rw[hA]at hb0;exact⟨hb0,(o6.o.over hq).cells.1,(o6.o.over hq).cells.2.1,(o6.o.over hq).cells.2.2,(hq.cell (p:=⟨pb,po+i2*3,none⟩) hpb).trans e0,(hq.cell (p:=⟨pb,po+i2*3+1,none⟩) hpb).trans e1,(hq.cell (p:=⟨pb,po+i2*3+2,none⟩) hpb).trans e2⟩))
     have HR:=aa hr;have HC:=aa hc;clear e0 e1 e2 hrow hpb hr hc;obtain⟨x0,x1,x2,x3,x4,x5,x6⟩:=gN.o _ fw.o
     go_region_held3 (fun wq=>wq.cell? ⟨w.heap.size,0,none⟩=some (.slice (some ⟨pb,po,none⟩) n cap)∧wq.cell? ⟨w.heap.size+1,0,none⟩=some (.string nm)∧wq.cell? ⟨w.heap.size+1,1,none⟩=some (.int .i64 (r:Int))∧wq.cell? ⟨w.heap.size+1,2,none⟩=some (.int .i64 (c:Int))∧wq.cell? ⟨pb,po+i2*3,none⟩=some (.string s'.nm)∧wq.cell? ⟨pb,po+i2*3+1,none⟩=some (.int .i64 s'.ay)∧wq.cell? ⟨pb,po+i2*3+2,none⟩=some (Value.slice s'.A s'.rows.length s'.cap)) (first|exact⟨x0,x1,x2,x3,x4,x5,x6⟩|exact gN.o _ aQ.o) (first
      | (go_at_call 44;((with_reducible refine(qi.o _ fw.o).mono ?_);rintro e w5 ⟨rfl,h1⟩;have aQ:=aa (fw.o.trans (h1.mono fw.o.size));clear h1)))
     all_goals clear x0 x1 x2 x3 x4 x5 x6
     all_goals
      have x0:=(gN.o _ aQ.o).1;have lN:=aa (dV.o.lift aQ.o);have KO:=aa (aa3 w5 A n cap ah lN.o kH.o.sz GL.o);rw[hA]at KO;go_upto_region 7 with (go_at_call 45;((with_reducible refine KO.o.mono ?_);rintro e w6 ⟨h1,A2,c2,sv,rfl,hp,hr,hz⟩;have eO:=aa h1;have bM:=aa hp;have Lh:=aa hr;have o8:=aa hz;clear h1 hp hr hz))
      clear x0;obtain⟨o',ho',hid,_⟩:=J4 bM.o HO.o;cases o' with
      | none=>exact absurd hid (by intro e;cases e)
      | some p3 =>
      obtain⟨i3,s3,r3,rv3,c3⟩:=p3;have Ca:some (i3,r3,c3)=some (i2,r,c):=hid;injection Ca with Ca;injection Ca with e1 Ca;injection Ca with e2 e3;subst e1;subst e2;subst e3;obtain⟨hf3,_,hr3,_,hc3⟩:=ho';obtain⟨g,Nc,hlo,hlt,_,_,_⟩:=Lh.o.cell o8.o hf3.1 hr3 hc3;have Dt:=aa (aY.new w6 (.slice A2 n c2));have qP:=aa (kJ w6 (.slice A2 n c2));obtain⟨P,hP⟩:∃P,w6.heap.size=P:=⟨_,rfl⟩;obtain⟨w7,hw7⟩:∃w7,w6.alloc (.cells #[.slice A2 n c2] 26)=w7:=⟨_,rfl⟩;have BC:=aa (Lh.o.next qP.o);rw[hw7]at Dt qP BC ⊢;rw[hP]at Dt hlt ⊢;have FI:=aa (aQ.o.trans ((eO.o.trans (qP.o.mono eO.o.size)).mono aQ.o.size));have oZ:=aa (show w5.heap.size≤P from by rw[← hP];exact eO.o.size);clear hw7 hP;obtain⟨g',H6,_,_,hce,hfr,hput⟩:=BC.o.cell o8.o hf3.1 hr3 hc3;obtain rfl:g=g':=by rw[Nc]at H6;injection H6 with h2;injection h2
      obtain⟨di,dJ,hA2,_,_,_,y2,hrow3⟩:=oP BC.o.wX hf3.1;obtain⟨ub,zo,hA3,_,y3,_⟩:=rH hrow3 hr3;have Gl:=aa (Jt (c:=c3) t hf3.1 hr3);have Gs:=aa (hput t);have hrl:=(dm.1 hr3).1;obtain⟨rn,hrn⟩:∃rn,s3.rows.length=rn:=⟨_,rfl⟩;obtain⟨cn,hcn⟩:∃cn,rv3.l.length=cn:=⟨_,rfl⟩;rw[hA3,hrn]at y2;rw[Nc,hcn]at y3;rw[hrn]at hrl;rw[hcn]at hc3;have hr0:(0:Int)≤(r3:Int):=by omega
      have tK:(r3:Int)<(rn:Int):=by omega
      have hc0:(0:Int)≤(c3:Int):=by omega
      have hci:(c3:Int)<(cn:Int):=by omega
      have Tw:=aa (o6.o.over FI.o);have uJ:=aa (HZ3.o.over FI.o);have afQ:=aQ.o.size;have hs3:=qw.o;have pJ:=oZ.o;subst hA2;have x0:=Dt.o.cell;obtain⟨z0,z1,z2⟩:=Tw.o.cells;clear hrow3 hr3 hf3 hput hid H6 hA3 hrn hcn
      go_region
      all_goals
       clear x0 z0 z1 z2 hce hfr y2 y3;have KX:=aa (Dt.o.other ⟨g,c3,none⟩ (.string t) (by show P≠g;omega));have LA:=aa (uJ.o.other ⟨g,c3,none⟩ (.string t) (by show w.heap.size+1+1≠g;omega));have FM:=aa ((HB3.o.trans (FI.o.mono HB3.o.size)).setCell (p:=⟨g,c3,none⟩) (by show w.heap.size≤g;omega) (.string t));have Bc:=aa (Below.drew (ai (w7.setCell ⟨g,c3,none⟩ (.string t)).heap.size (w7.setCell ⟨g,c3,none⟩ (.string t))));have KY:=aa (KX.o.over Bc.o);have DC:=aa (LA.o.over Bc.o);have KH:=aa (FM.o.trans (Bc.o.mono FM.o.size));have Lt:=aa (Gs.o.next Bc.o);obtain⟨w8,hw8⟩:∃w8,(w7.setCell ⟨g,c3,none⟩ (.string t)).drew=w8:=⟨_,rfl⟩;rw[hw8]at KY DC KH Lt ⊢;clear hw8 KX LA FM Bc Gs;have x0:=KY.o.cell;have z0:=DC.o.cell;have m0:=DC.o.jh;go_wp2_with fail
       refine bodyPost_ret (Cx (DC.o.put (.slice (some ⟨di,dJ,none⟩) n c2)) _ _ (.int .i64 0) 6 7 JK rfl rfl) rfl ⟨KH.o.setCell (by show w.heap.size≤w.heap.size+1+1;omega) _, ?_⟩;refine⟨_,c2,_,rfl,Gl.o.trans (by rw[bM.o]), ?_⟩;exact(Lt.o.keep (w':=w8.setCell ⟨w.heap.size+1+1,0,none⟩ (.slice (some ⟨di,dJ,none⟩) n c2)) fun y h1 _=>heap_setCell_other w8 _ y _ (by show y≠w.heap.size+1+1;omega)).mono (by omega)
theorem aew:∀n:Nat,n<256→(!(decide (Ad (bY n)=3))||(decide ((bY n).length=1)&&(bY n).all fun x=>decide (48≤x∧x≤57)))=true:=by decide +kernel
theorem Pn (n:Nat)(h:n<256):vE (strOfNums (bY n)):=by
 refine⟨Jb n h,fun hk => ?_⟩;have hs:=gK _ (FB n h).1;have hk2:Ad (bY n)=3:=by unfold kd at hk;rwa[hs]at hk
 have h1:=aew n h;rw[decide_eq_true hk2,Bool.not_true,Bool.false_or,dE,decide_eq_true_iff,List.all_eq_true]at h1;refine⟨by rw[strOfNums_size];exact h1.1,fun hp => ?_⟩;have h2:=oN (strOfNums (bY n)) 0 hp;rw[hs]at h2;rw[← h2]
 have h3:(bY n).getD 0 0∈bY n:=by
  rw[iC,bn (by omega)];exact List.getElem_mem _
 exact of_decide_eq_true (h1.2 _ h3)
theorem Zk:vE ⟨#[]⟩:=⟨Pp,fun h=>by rw[IU ⟨#[]⟩ rfl]at h;omega⟩
theorem Vf (ns:List Int)(hb:Bytes ns)(k:Nat):vE (cellS ns k):=by
 unfold cellS;cases h:ns[k]? with
 | none=>exact Zk
 | some x =>
   have:=hb x (dz h);exact Pn _ (by omega)
theorem UQ {ah:List ak}{xs:List Int}{m:Nat}(hb:Bytes xs)(h:bF ah=oC xs m):∀s∈ah,∀r∈s.rows,∀x∈r.l,vE x:=by
 intro s hs r hr x hx;obtain⟨k,hk⟩:=List.getElem?_of_mem hs;have hp:=(zf h hk).2;have e3:dI s.rows=nV xs (iA m) (gz m) (k*(iA m*gz m)):=congrArg jf.rows hp;have h1:r.l∈dI s.rows:=List.mem_map_of_mem hr;rw[e3]at h1;unfold nV at h1;obtain⟨j,_,h2⟩:=List.mem_map.1 h1;rw[← h2]at hx;unfold jG at hx;obtain⟨c,_,h3⟩:=List.mem_map.1 hx;rw[← h3];exact Vf xs hb _
def xO(w:World)(B:Nat)(v:Value)(sv:List ak):Prop:=∀w2:World,(∀g,B≤g→g<w.heap.size→w2.heap[g]? = w.heap[g]?)→w.heap.size≤w2.heap.size→eH w2 w2.heap.size v sv
theorem mM.Hd{w:World}{A:Option Addr}{n cap:Nat}{sv:List ak}{lo:Nat}(h:mM w A n cap sv lo w.heap.size):xO w lo (.slice A n cap) sv:=fun _ hk hs=>(h.keep hk).wX hs
theorem iU.Hd{w:World}{v:Value}{sv:List ak}{lo:Nat}(h:iU w lo v sv):xO w lo v sv:=fun _ hk _=>(h.keep hk).wX
theorem xO.nil(w:World)(B:Nat):xO w B (.slice none 0 0) []:=fun w2 _ _=>(iU.nil w2 0).wX
def DF(B:Nat)(E:List jf)(K:Int)(e:Ending)(w':World):Prop:=∃A' n' c' sv,e = .returned (.tuple #[.agg #[.slice A' n' c'],.int .i64 K])∧bF sv=E∧xO w' B (.slice A' n' c') sv
def Hr (ah:List ak)(t:ByteArray):Option (Nat × ak × Nat × aN × Nat)→List jf
 | none=>[]
 | some (i,_,r,_,c)=>wo (bF ah) i r c t
def IP:Option (Nat × ak × Nat × aN × Nat)→Int
 | none=>2
 | some _=>0
theorem acI {w w':World}{n:Nat}{ah:List ak}{t:ByteArray}{o:Option (Nat × ak × Nat × aN × Nat)}{e:Ending}(h:LQ w n ah t (yN o) e w'):DF w.heap.size (Hr ah t o) (IP o) e w':=by
 cases o with
 | none=>exact⟨_,_,_,[],h,rfl,xO.nil _ _⟩
 | some p =>
   obtain⟨i,s,r,rv,c⟩:=p;obtain⟨A',sv,h1,h2,h3⟩:=h;exact⟨A',n,n,sv,h1,h2,h3.Hd⟩
theorem acg {w w':World}{n:Nat}{ah:List ak}{t:ByteArray}{o:Option (Nat × ak × Nat × aN × Nat)}{e:Ending}(h:LP w.heap.size ah n t o e w'):DF w.heap.size (Hr ah t o) (IP o) e w':=by
 cases o with
 | none=>exact⟨_,_,_,[],h,rfl,xO.nil _ _⟩
 | some p =>
   obtain⟨i,s,r,rv,c⟩:=p;obtain⟨A',c',sv,h1,h2,h3⟩:=h;exact⟨A',n,c',sv,h1,h2,h3.Hd⟩
theorem UN (w:World)(A:Option Addr)(n cap:Nat)(xs:List Int)(hs:S8 w w.heap.size A n cap xs)(m ro co sh u:Nat)(hm:m<256)(hro:ro<256)(hco:co<256)(hsh:sh<256)(hu:u<256)(hx:qO w) :
 Calls Tryz.prog 3 #[.slice A n cap,.int .u8 (m:Int),.int .u8 (ro:Int),.int .u8 (co:Int),.int .u8 (sh:Int),.int .u8 (u:Int)] w fun e w'=>e = .returned (.bool true)∧Below w.heap.size w w':=by
 have KG:=aa (fun (w1:World)(h1:Below w.heap.size w w1)=>Uv w1 (hx.below h1));by_cases h80:80<n
 · have Xg:(80:Int)<(n:Int):=by omega
   clear hs hx;go_enter Tryz.func3,Tryz.ntmps3;go_wp2_with (go_at_call 9;((with_reducible refine(KG.o _ (ai _ _)).mono ?_);rintro e w2 ⟨rfl,h1⟩;have HB2:=aa h1;clear h1))
   go_ret;exact⟨rfl,HB2.o⟩
 have Xg:¬ (80:Int)<(n:Int):=by omega
 have gM:=aa (Mm w A n cap xs hs (by omega) m hm);have wC:=aa hs.bytes;have Bb:=aa hx;obtain⟨S,hS⟩:∃S,kK m=S:=⟨_,rfl⟩;have hS1:=Je m;have Dx:=aa hS;rw[hS]at gM hS1;clear hs hx hS;obtain⟨r7,XF⟩:∃k,ro % 7=k:=⟨_,rfl⟩;obtain⟨c6,hc6⟩:∃k,co % 6=k:=⟨_,rfl⟩;obtain⟨s4,hs4⟩:∃k,sh % 4=k:=⟨_,rfl⟩;have b7:r7<7:=by omega
 have b6:c6<6:=by omega
 have b4:s4<4:=by omega
 have q7:(ro:Int) % 7=(r7:Int):=by omega
 have q6:(co:Int) % 6=(c6:Int):=by omega
 have q4:(sh:Int) % 4=(s4:Int):=by omega
 have t7:(ro:Int).tmod 7=(r7:Int):=by rw[ja (by omega)];exact q7
 have t6:(co:Int).tmod 6=(c6:Int):=by rw[ja (by omega)];exact q6
 have t4:(sh:Int).tmod 4=(s4:Int):=by rw[ja (by omega)];exact q4
 have v7:IntKind.i64.wrap (ro:Int)=(ro:Int):=by rw[dK];omega
 have v6:IntKind.i64.wrap (co:Int)=(co:Int):=by rw[dK];omega
 have vu:IntKind.i64.wrap (u:Int)=(u:Int):=by rw[dK];omega
 have w7':IntKind.i64.wrap ((r7:Int) - 1)=(r7:Int) - 1:=by rw[dK];omega
 have w6':IntKind.i64.wrap ((c6:Int) - 1)=(c6:Int) - 1:=by rw[dK];omega
 clear XF hc6 hs4 hro hco hsh;have hcv:=fun w=>xx w 5 (65+(s4:Int))
 obtain⟨nm,Eg⟩:∃nm,strOfNums [65+(s4:Int)]=nm:=⟨_,rfl⟩;rw[Eg]at hcv;clear Eg;go_enter Tryz.func3,Tryz.ntmps3;go_upto_region 4 with (go_at_call 10;((with_reducible refine gM.o.mono ?_);rintro e w2 ⟨h1,A1,c1,ah,rfl,hp,hr⟩;have H2:=aa h1;have HP:=aa hp;have HR:=aa hr;clear h1 hp hr))
 have zD:=aa (Ml hm wC.o HP.o);have TG:=aa (aeN HP.o);have kV:=aa (aY.new w2 (.slice A1 S c1));have HB3:=aa (kJ w2 (.slice A1 S c1));obtain⟨b,hb⟩:∃b,w2.heap.size=b:=⟨_,rfl⟩;obtain⟨w3,hw3⟩:∃w3,w2.alloc (.cells #[.slice A1 S c1] 26)=w3:=⟨_,rfl⟩;have HR3:=aa (HR.o.lift HB3.o);rw[hw3]at kV HB3 HR3 ⊢;rw[hb]at kV ⊢;have H3:=aa (H2.o.trans (HB3.o.mono H2.o.size));clear hw3 hb;go_upto_region 5 with (fail)
 have x8:=aa (show Below w3.heap.size w3 (w3.alloc (.cells #[.int .u8 (65+(s4:Int))] 5))from(ai _ _).alloc (ag _) _);have hz1:=kD w3 (.cells #[.int .u8 (65+(s4:Int))] 5);obtain⟨wa,uR⟩:∃wa,w3.alloc (.cells #[.int .u8 (65+(s4:Int))] 5)=wa:=⟨_,rfl⟩;rw[uR]at x8 hz1 ⊢;clear uR hcv;have jY:=aa (lS.new wa nm ((r7:Int) - 1) ((c6:Int) - 1));have zI:=aa (Ha wa nm ((r7:Int) - 1) ((c6:Int) - 1));obtain⟨y,hy⟩:∃y,w3.heap.size+1=y:=⟨_,rfl⟩;rw[hz1,hy]at jY;rw[hy];obtain⟨w4,hw4⟩:∃w4,wa.alloc (.cells #[.string nm,.int .i64 ((r7:Int) - 1),.int .i64 ((c6:Int) - 1)] 29)=w4:=⟨_,rfl⟩;rw[hw4]at jY zI ⊢;have HU:=aa (x8.o.trans (zI.o.mono x8.o.size));clear hw4 hz1 hy;have Bj:=aa (kV.o.over HU.o);have HR4:=aa (HR3.o.lift HU.o);have uI:=aa (H3.o.trans (HU.o.mono H3.o.size));have hso:=adp ah nm ((r7:Int) - 1) ((c6:Int) - 1);obtain⟨o,ho⟩:=hso;have HO:=aa ho;have K6:=aa (Jb u hu);have K5:=aa (Pn u hu);have mQ:=aa (fun (wq:World)=>Rn u hu wq);obtain⟨t,ht⟩:∃t,strOfNums (bY u)=t:=⟨_,rfl⟩;rw[ht]at mQ K6 K5;clear ht ho hu;obtain⟨E,hE⟩:∃E,Hr ah t o=E:=⟨_,rfl⟩;obtain⟨K,hK⟩:∃K,IP o=K:=⟨_,rfl⟩;have tH:S≤1000000:=by omega
 have Bz:=aa (fun (wq:World)(hq:Below w4.heap.size w4 wq)=>(show Calls Tryz.prog 11 #[.agg #[.slice A1 S c1],.agg #[.string nm,.int .i64 ((r7:Int) - 1),.int .i64 ((c6:Int) - 1)],.string t] wq fun e w'=>Below wq.heap.size wq w'∧DF wq.heap.size E K e w' from by
  refine(QO wq A1 S c1 ah nm ((r7:Int) - 1) ((c6:Int) - 1) t o (HR4.o.lift hq) zD.o.1.sz HO.o (fun wr hr=>Ja wr A1 S c1 ah ((HR4.o.lift hq).lift hr) zD.o.1 (Kg (((Bb.o.below uI.o).below hq).below hr) zD.o.2.1)) (fun wr hr=>Jc t K6.o.1 wr (((Bb.o.below uI.o).below hq).below hr))).mono ?_;rintro e w' ⟨h1,h2⟩;exact⟨h1,by rw[← hE, ← hK];exact acI h2⟩))
 have Tf:=aa (fun (wq:World)(hq:Below w4.heap.size w4 wq)=>(show Calls Tryz.prog 13 #[.agg #[.slice A1 S c1],.agg #[.string nm,.int .i64 ((r7:Int) - 1),.int .i64 ((c6:Int) - 1)],.string t] wq fun e w'=>Below wq.heap.size wq w'∧DF wq.heap.size E K e w' from by
  refine(ach wq A1 S c1 ah nm ((r7:Int) - 1) ((c6:Int) - 1) t o (HR4.o.lift hq) zD.o.1 TG.o (UQ wC.o HP.o) K5.o HO.o).mono ?_;rintro e w' ⟨h1,h2⟩;exact⟨h1,by rw[← hE, ← hK];exact acg h2⟩))
 have gN:=aa (fun (wq:World)(hq:Below w4.heap.size w4 wq)=>(show wq.cell? ⟨b,0,none⟩=some (.slice A1 S c1)∧wq.cell? ⟨y,0,none⟩=some (.string nm)∧wq.cell? ⟨y,1,none⟩=some (.int .i64 ((r7:Int) - 1))∧wq.cell? ⟨y,2,none⟩=some (.int .i64 ((c6:Int) - 1))from
  ⟨(Bj.o.over hq).cell,(jY.o.over hq).cells⟩))
 clear hE hK;have zx:=aa (Below.drew (ai w4.heap.size w4))
 go_cut [15,16] (fun pv ev wx=>∃(z:Nat)(A3:Option Addr)(n3 c3:Nat)(nz:List ak)(kC:World),pv = .pointer (some ⟨z,0,none⟩)∧ev = .int .i64 K∧kC=wx∧Hid (bF nz=E)∧Hid (aY kC z (.slice A3 n3 c3))∧Hid (eH kC kC.heap.size (.slice A3 n3 c3) nz)∧Hid (Below w4.heap.size w4 kC))
 case first =>
  obtain⟨x0,x1,x2,x3⟩:=gN.o _ zx.o
  go_region_held3 (fun wq=>wq.cell? ⟨b,0,none⟩=some (.slice A1 S c1)∧wq.cell? ⟨y,0,none⟩=some (.string nm)∧wq.cell? ⟨y,1,none⟩=some (.int .i64 ((r7:Int) - 1))∧wq.cell? ⟨y,2,none⟩=some (.int .i64 ((c6:Int) - 1))) (first|exact⟨x0,x1,x2,x3⟩|exact gN.o _ eO.o|exact gN.o _ aQ.o|exact gN.o _ (zx.o.alloc (ag _) _)|exact gN.o _ (aQ.o.alloc aQ.o.size _)|exact gN.o _ (eO.o.alloc eO.o.size _)|exact gN.o _ (eO.o.setCell yf.o _)) (first
   | (go_at_call 12;((with_reducible refine(mQ.o _).mono ?_);rintro e w5 ⟨rfl,h1⟩;have aQ:=aa ((zx.o.alloc (ag _) _).trans (h1.mono (zx.o.alloc (ag _) _).size));have j4:=aa (show aY w5 w4.heap.size (.slice none 0 0)from(aY.new w4.drew (.slice none 0 0)).over h1);clear h1))
   | (go_at_call 12;((with_reducible refine(mQ.o _).mono ?_);rintro e w5 ⟨rfl,h1⟩;have aQ:=aa (zx.o.trans (h1.mono zx.o.size));clear h1))
   | (go_at_call 11;((with_reducible refine(Bz.o _ aQ.o).mono ?_);rintro e w6 ⟨h1,A3,n3,c3,nz,rfl,hp,hf⟩;have ib:=aa (j4.o.over h1);have eO:=aa (aQ.o.trans (h1.mono aQ.o.size));have z0:=ib.o.cell;have z1:=ib.o.jh;have bM:=aa hp;have cK:=aa hf;have yf:=aa (ag w4.heap.size);have wJ:=aa j4.o.lt;clear h1 hp hf))
   | (go_at_call 11;((with_reducible refine(Bz.o _ (aQ.o.alloc aQ.o.size _)).mono ?_);rintro e w6 ⟨h1,A3,n3,c3,nz,rfl,hp,hf⟩;have ib:=aa (show aY w6 w5.heap.size (.slice none 0 0)from(aY.new w5 (.slice none 0 0)).over h1);have eO:=aa ((aQ.o.alloc aQ.o.size _).trans (h1.mono (aQ.o.alloc aQ.o.size _).size));have z0:=ib.o.cell;have z1:=ib.o.jh;have bM:=aa hp;have cK:=aa hf;have yf:=aa aQ.o.size;have wJ:=aa (aY.new w5 (.slice none 0 0)).lt;clear h1 hp hf))
   | (go_at_call 11;((with_reducible refine(Bz.o _ aQ.o).mono ?_);rintro e w6 ⟨h1,A3,n3,c3,nz,rfl,hp,hf⟩;have eO:=aa (aQ.o.trans (h1.mono aQ.o.size));have bM:=aa hp;have cK:=aa hf;have ib:=aa (aY.new w6 (.slice none 0 0));have z0:=ib.o.cell;have z1:=ib.o.jh;clear h1 hp hf)))
  all_goals go_wp2_with fail
  all_goals go_meet
  all_goals first
   | exact⟨_,A3,n3,c3,nz,_,rfl,rfl,rfl,bM,aa (ib.o.put (.slice A3 n3 c3)),aa (cK.o _ (fun g h1 _=>heap_setCell_other w6 _ g _ (Nat.ne_of_gt (eU wJ.o h1))) (by rw[lG];exact ag _)),aa (eO.o.setCell yf.o _)⟩
   | exact⟨_,A3,n3,c3,nz,_,rfl,rfl,rfl,bM,aa (aY.new w6 (.slice A3 n3 c3)),aa (cK.o _ (fun g _ h2=>(kJ w6 (.slice A3 n3 c3)).block g h2) (kJ w6 (.slice A3 n3 c3)).size),aa (eO.o.alloc eO.o.size _)⟩
   | fail
 case rest =>
 obtain⟨z,A3,n3,c3,nz,w7,rfl,rfl,rfl,SK,uD,qY,zw⟩:=hcut;have xS:=aa (fun (wq:World)(hq:Below w7.heap.size w7 wq)=>gN.o wq (zw.o.trans (hq.mono zw.o.size)));have Gu:=aa (fun (wq:World)(hq:Below w7.heap.size w7 wq)=>Tf.o wq (zw.o.trans (hq.mono zw.o.size)));go_upto_region 6 with (fail)
 have zy:=aa (Below.drew (ai w7.heap.size w7))
 go_cut [17,18] (fun pv ev wx=>∃(z:Nat)(A3:Option Addr)(n3 c3:Nat)(nz:List ak)(kC:World),pv = .pointer (some ⟨z,0,none⟩)∧ev = .int .i64 K∧kC=wx∧Hid (bF nz=E)∧Hid (aY kC z (.slice A3 n3 c3))∧Hid (eH kC kC.heap.size (.slice A3 n3 c3) nz)∧Hid (Below w7.heap.size w7 kC))
 case first =>
  obtain⟨x0,x1,x2,x3⟩:=xS.o _ zy.o
  go_region_held3 (fun wq=>wq.cell? ⟨b,0,none⟩=some (.slice A1 S c1)∧wq.cell? ⟨y,0,none⟩=some (.string nm)∧wq.cell? ⟨y,1,none⟩=some (.int .i64 ((r7:Int) - 1))∧wq.cell? ⟨y,2,none⟩=some (.int .i64 ((c6:Int) - 1))) (first|exact⟨x0,x1,x2,x3⟩|exact xS.o _ eO.o|exact xS.o _ aQ.o|exact xS.o _ (zy.o.alloc (ag _) _)|exact xS.o _ (aQ.o.alloc aQ.o.size _)|exact xS.o _ (eO.o.alloc eO.o.size _)|exact xS.o _ (eO.o.setCell yf.o _)) (first
   | (go_at_call 12;((with_reducible refine(mQ.o _).mono ?_);rintro e w5 ⟨rfl,h1⟩;have aQ:=aa ((zy.o.alloc (ag _) _).trans (h1.mono (zy.o.alloc (ag _) _).size));have j4:=aa (show aY w5 w7.heap.size (.slice none 0 0)from(aY.new w7.drew (.slice none 0 0)).over h1);clear h1))
   | (go_at_call 12;((with_reducible refine(mQ.o _).mono ?_);rintro e w5 ⟨rfl,h1⟩;have aQ:=aa (zy.o.trans (h1.mono zy.o.size));clear h1))
   | (go_at_call 13;((with_reducible refine(Gu.o _ aQ.o).mono ?_);rintro e w6 ⟨h1,A3,n3,c3,nz,rfl,hp,hf⟩;have ib:=aa (j4.o.over h1);have eO:=aa (aQ.o.trans (h1.mono aQ.o.size));have z0:=ib.o.cell;have z1:=ib.o.jh;have bM:=aa hp;have cK:=aa hf;have yf:=aa (ag w7.heap.size);have wJ:=aa j4.o.lt;clear h1 hp hf))
   | (go_at_call 13;((with_reducible refine(Gu.o _ (aQ.o.alloc aQ.o.size _)).mono ?_);rintro e w6 ⟨h1,A3,n3,c3,nz,rfl,hp,hf⟩;have ib:=aa (show aY w6 w5.heap.size (.slice none 0 0)from(aY.new w5 (.slice none 0 0)).over h1);have eO:=aa ((aQ.o.alloc aQ.o.size _).trans (h1.mono (aQ.o.alloc aQ.o.size _).size));have z0:=ib.o.cell;have z1:=ib.o.jh;have bM:=aa hp;have cK:=aa hf;have yf:=aa aQ.o.size;have wJ:=aa (aY.new w5 (.slice none 0 0)).lt;clear h1 hp hf))
   | (go_at_call 13;((with_reducible refine(Gu.o _ aQ.o).mono ?_);rintro e w6 ⟨h1,A3,n3,c3,nz,rfl,hp,hf⟩;have eO:=aa (aQ.o.trans (h1.mono aQ.o.size));have bM:=aa hp;have cK:=aa hf;have ib:=aa (aY.new w6 (.slice none 0 0));have z0:=ib.o.cell;have z1:=ib.o.jh;clear h1 hp hf)))
  all_goals go_wp2_with fail
  all_goals go_meet
  all_goals first
   | exact⟨_,A3,n3,c3,nz,_,rfl,rfl,rfl,bM,aa (ib.o.put (.slice A3 n3 c3)),aa (cK.o _ (fun g h1 _=>heap_setCell_other w6 _ g _ (Nat.ne_of_gt (eU wJ.o h1))) (by rw[lG];exact ag _)),aa (eO.o.setCell yf.o _)⟩
   | exact⟨_,A3,n3,c3,nz,_,rfl,rfl,rfl,bM,aa (aY.new w6 (.slice A3 n3 c3)),aa (cK.o _ (fun g _ h2=>(kJ w6 (.slice A3 n3 c3)).block g h2) (kJ w6 (.slice A3 n3 c3)).size),aa (eO.o.alloc eO.o.size _)⟩
   | fail
 case rest =>
 obtain⟨z4,A4,n4,c4,sv4,gL,rfl,rfl,rfl,SL,rX,bR,FJ⟩:=hcut;have Di:=aa (zw.o.trans (FJ.o.mono zw.o.size));have vC:=aa (uI.o.trans (Di.o.mono uI.o.size));have Dm:=aa (Below.drew (ai gL.heap.size gL));have Sn:=aa (uD.o.over FJ.o);have Tc:=aa (qY.o.lift FJ.o);have om:=aa (HR4.o.lift Di.o)
 have zB:=aa (fun (wq:World)(hq:Below gL.heap.size gL wq)=>(show wq.cell? ⟨b,0,none⟩=some (.slice A1 S c1)∧wq.cell? ⟨y,0,none⟩=some (.string nm)∧wq.cell? ⟨y,1,none⟩=some (.int .i64 ((r7:Int) - 1))∧wq.cell? ⟨y,2,none⟩=some (.int .i64 ((c6:Int) - 1))∧wq.cell? ⟨z,0,none⟩=some (.slice A3 n3 c3)∧wq.cell? ⟨z4,0,none⟩=some (.slice A4 n4 c4)from by
  have h1:=gN.o wq (Di.o.trans (hq.mono Di.o.size));exact⟨h1.1,h1.2.1,h1.2.2.1,h1.2.2.2,(Sn.o.over hq).cell,(rX.o.over hq).cell⟩))
 have F7:=aa (fun (wq:World)(hq:Below gL.heap.size gL wq)=>Ja wq A1 S c1 ah (om.o.lift hq) zD.o.1 (Kg ((Bb.o.below vC.o).below hq) zD.o.2.1));obtain⟨T,hT⟩:∃T,xG o=T:=⟨_,rfl⟩;have hg1:=fun (wq:World)(hq:Below gL.heap.size gL wq)=>HY wq A1 S c1 ah nm ((r7:Int) - 1) ((c6:Int) - 1) o (om.o.lift hq) tH HO.o
 have hg2:=fun (wq:World)(hq:Below gL.heap.size gL wq)=>abV wq A1 S c1 ah nm ((r7:Int) - 1) ((c6:Int) - 1) o (om.o.lift hq) tH HO.o
 rw[hT]at hg1 hg2;have kU:=aa hg1;have HG2:=aa hg2
 have Tm:=aa (fun (wq:World)(hq:Below gL.heap.size gL wq)=>(show Calls Tryz.prog 17 #[.agg #[.slice A3 n3 c3],.agg #[.slice A4 n4 c4]] wq fun e w'=>e = .returned (.bool true)∧Below wq.heap.size wq w' from by
  have:=aby wq A3 n3 c3 nz A4 n4 c4 sv4 (Tc.o.lift hq) (bR.o.lift hq);rwa[decide_eq_true (SK.o.trans SL.o.symm)]at this))
 have R3:=aa (fun (wq:World)(hq:Below gL.heap.size gL wq)=>KG.o wq (vC.o.trans (hq.mono vC.o.size)));have xe:(T.toList == T.toList)=true:=beq_self_eq_true _;have hkk:(K == K)=true:=beq_self_eq_true _;clear hg1 hg2 hT;go_upto_region 7 with (fail)
 obtain⟨x0,x1,x2,x3,x4,x5⟩:=zB.o _ Dm.o
 go_region_held3 (fun wq=>wq.cell? ⟨b,0,none⟩=some (.slice A1 S c1)∧wq.cell? ⟨y,0,none⟩=some (.string nm)∧wq.cell? ⟨y,1,none⟩=some (.int .i64 ((r7:Int) - 1))∧wq.cell? ⟨y,2,none⟩=some (.int .i64 ((c6:Int) - 1))∧wq.cell? ⟨z,0,none⟩=some (.slice A3 n3 c3)∧wq.cell? ⟨z4,0,none⟩=some (.slice A4 n4 c4)) (first|exact⟨x0,x1,x2,x3,x4,x5⟩|exact zB.o _ xP.o|exact zB.o _ Dh.o|exact zB.o _ Df.o|exact zB.o _ De.o|exact zB.o _ Dc.o) (first
  | (go_at_call 14;((with_reducible refine(F7.o _ Dm.o).mono ?_);rintro e w10 ⟨rfl,h1⟩;have Dc:=aa (Dm.o.trans (h1.mono Dm.o.size));clear h1))
  | (go_at_call 15;((with_reducible refine(kU.o _ Dc.o).mono ?_);rintro e w11 ⟨rfl,h1⟩;have De:=aa (Dc.o.trans (h1.mono Dc.o.size));clear h1))
  | (go_at_call 16;((with_reducible refine(HG2.o _ De.o).mono ?_);rintro e w12 ⟨rfl,h1⟩;have Df:=aa (De.o.trans (h1.mono De.o.size));clear h1))
  | (go_at_call 17;((with_reducible refine(Tm.o _ Df.o).mono ?_);rintro e qM ⟨rfl,h1⟩;have Dh:=aa (Df.o.trans (h1.mono Df.o.size));clear h1))
  | (go_at_call 18;((with_reducible refine(PN K _).mono ?_);rintro e wn ⟨rfl,rfl⟩))
  | (go_at_call 9;((with_reducible refine(R3.o _ Dh.o).mono ?_);rintro e FC ⟨rfl,h1⟩;have xP:=aa (Dh.o.trans (h1.mono Dh.o.size));clear h1)))
 all_goals go_wp2_with fail
 all_goals go_ret
 all_goals exact⟨rfl,vC.o.trans (xP.o.mono vC.o.size)⟩
end Go.Proofs.YtdnooocmlhcpkaaGreatDoor
namespace Go.Proofs.YtdnooocmlhcpkaaGreatDoor
open Go.ChangeShapes Go.WideShapes Go.ChangeAt Go.RowKit
theorem Vm:Tryz.prog.cellsOf 5=1:=by kernel_rfl
theorem aai {H:Type}{enc:TypeId × Value→H}{W:World}{base:Nat}{v:Value}{d:DataW H}{p:List MemPlace}(hval:Value.okWide Tryz.prog W .any base 22 v)(h:DataW.Trod enc Tryz.prog W 0 (fun _=>true) true 22 v d p) :
 ∃A len cap xs,v = .slice A len cap∧S8 W W.heap.size A len cap xs:=by
 obtain⟨A,len,cap,rfl⟩:=okWide_slice Tryz.underlying22 hval;obtain⟨fuel,hf⟩:=h;rcases open_ints Tryz.underlying22 Tryz.underlying5 Vm hf with ⟨hcs,_⟩|⟨a,len',cap',zs,hcs,_,hl,hm,hz,_,hcell,hwz⟩
 · simp[Value.cells]at hcs
   obtain⟨rfl,rfl,rfl⟩:=hcs;exact⟨none,0,0,[],rfl,rfl,ag _,by unfold maxLen;omega,Bytes.nil,.inl rfl⟩
 · simp [Value.cells]at hcs
   obtain⟨rfl,rfl,rfl⟩:=hcs;simp only[if_true]at hz;have hb:Bytes zs:=fun n hn=>bounds_u8 (hwz n hn)
   by_cases h0:cap=0
   · have hl0:len=0:=by omega
     exact⟨some a,len,cap,zs.take len,rfl,by rw[gD];omega,hl,hm,hb.take _,.inl hl0⟩
   · obtain⟨b,off,rfl,hc⟩:=ints_at hcell (by omega)
     refine⟨some ⟨b,off,none⟩,len,cap,zs.take len,rfl,by rw[gD];omega,hl,hm,hb.take _,.inr ⟨b,off,rfl,block_lt_of_cell (hc 0 (by omega)),fun j hj => ?_⟩⟩;rw[hc j (by omega)];congr 2;simp only[iC];rw[List.getElem?_take_of_lt hj]
end Go.Proofs.YtdnooocmlhcpkaaGreatDoor
namespace Go.Proofs.YtdnooocmlhcpkaaGreatDoor
open Go.ChangeShapes Go.WideShapes Go.ChangeAt Go.RowKit
def Fv{H:Type}(bs:List (List UInt8)):DataW H := .agg (bs.map fun b => .lit (.string b))
theorem MG {H:Type}{enc:TypeId × Value→H}{P:Program}{w:World}{base:Nat}{sp:Nat→Bool}{held:Bool}{fuel:Nat}{t e:TypeId}{n:Nat}{cs:List Value}{bs:List (List UInt8)}{p:List MemPlace}
 (ht:P.underlying t=some (.array n e)) (he:P.underlying e=some .string) (hce:P.cellsOf e=1) (hct:P.cellsOf t=n)
 (h:DataW.trod enc P w base sp held fuel t cs=some (Fv bs,p)):cs=bs.map fun b=>Value.string ⟨b.toArray⟩:=by
 cases fuel with
 | zero=>simp[DataW.trod]at h
 | succ fuel =>
   simp only[DataW.trod,ht,hce,hct,Nat.mul_one]at h;split at h
   · rename_i hl
     obtain⟨xs,hm,hx⟩:=Option.map_eq_some_iff.1 h
     have hxs:xs.map (·.1)=bs.map fun b=>(DataW.lit (.string b):DataW H):=by
      have:=congrArg Prod.fst hx
      simpa [Fv]using this
     have hxl:xs.length=n:=by simpa using Lib.mapM_length hm
     have hzl:bs.length=n:=by
      have:=congrArg List.length hxs;simp at this;omega
     apply List.ext_getElem?;intro i;by_cases hi:i<n
     · obtain ⟨b,hb,hf⟩:=Lib.mapM_at hm i i (by simp[hi])
       obtain⟨z,hc,rfl,_⟩:=DataW.trod_string he hf
       have h1:cs[i]? = some (.string z):=by
        have:=congrArg (·[0]?) hc
        simpa [List.getElem?_take,List.getElem?_drop]using this
       have h2:(xs.map (·.1))[i]? = some (DataW.lit (.string z.data.toList):DataW H):=by simp[hb]
       rw[hxs]at h2;simp only[iD,Option.map_eq_some_iff,DataW.lit.injEq,Lit.string.injEq]at h2;obtain⟨z',hz',e⟩:=h2;simp only[h1,iD,hz',Option.map_some,e]
     · rw[List.getElem?_eq_none (by omega),List.getElem?_eq_none (by simp;omega)]
   · cases h
def nR : List (String × DataW Unit) := [("math/bits.deBruijn32tab", Rows.laid_math_bits_deBruijn32tab), ("math/bits.deBruijn64tab", Rows.laid_math_bits_deBruijn64tab), ("internal/strconv.uint64pow10", Rows.laid_internal_strconv_uint64pow10), ("unicode/utf8.acceptRanges", Rows.laid_unicode_utf8_acceptRanges), ("strconv.ErrRange", Rows.laid_strconv_ErrRange), ("strconv.ErrSyntax", Rows.laid_strconv_ErrSyntax), ("chequer/lex.signs", Rows.laid_chequer_lex_signs), ("chequer/parse.operators", Rows.laid_chequer_parse_operators), ("chequer/show.signs", Rows.laid_chequer_show_signs), ("unicode/utf8.first", Rows.laid_unicode_utf8_first)]
theorem M5 : Tryz.prog.globalNamed "strconv.ErrRange" = some 2 := by kernel_rfl
theorem Wm:(Tryz.prog.globals[(2:Nat)]?).map (·.type)=some 179:=by kernel_rfl
theorem M8 : Tryz.prog.globalNamed "chequer/lex.signs" = some 4 := by kernel_rfl
theorem Wp:(Tryz.prog.globals[(4:Nat)]?).map (·.type)=some 246:=by kernel_rfl
theorem ME:Tryz.prog.cellsOf 256=1:=by kernel_rfl
theorem D7:Tryz.prog.cellsOf 9=1:=by kernel_rfl
theorem Vj:Tryz.prog.cellsOf 246=15:=by kernel_rfl
theorem star : "*" ++ "errors.errorString" = "*errors.errorString" := by decide
theorem QC (u : TypeId) (h : Tryz.prog.typeName? 3 u = some "*errors.errorString") : u = 254 :=
 typeName_ptr_named (nm := "errors.errorString") (by rw [star]; kernel_rfl) (by kernel_rfl) (by decide) u (by rw [star]; exact h)
def QW:List (List UInt8):=[[60,62],[60,61],[62,61],[43],[45],[42],[47],[38],[61],[60],[62],[40],[41],[44],[58]]
theorem ada:(Rows.laid_chequer_lex_signs:DataW Unit)=Fv QW:=rfl
theorem ac':(QW.map fun b=>Value.string ⟨b.toArray⟩)=xy.toList:=rfl
theorem iW {P:Program}{x:String × DataW Unit}{l:List (String × DataW Unit)}{w:World}(h:laidMet P (x :: l) w):laidMet P l w:=by
 obtain⟨ps,h1,h2,h3⟩:=h;obtain⟨n,d⟩:=x;obtain⟨g,t,cs,fuel,p,q,_,_,_,_,hq,rfl⟩:=h1;exact⟨q,hq,(List.nodup_append.1 h2).2.1,fun b off hm=>h3 b off (List.mem_append_right _ hm)⟩
theorem Ws:(Tryz.prog.globals[3]?).map (·.type)=some 242:=by kernel_rfl
theorem UU:Tryz.prog.cellsOf 242=20:=by kernel_rfl
theorem UT:Tryz.prog.cellsOf 109=1:=by kernel_rfl
theorem adJ {W:World}(h:laidMetH Tryz.prog nR W):jN W:=by
 have h1:laidMet Tryz.prog nR W:=h;exact Lib.tabIs_of_head Na Ws Tryz.underlying242 Tryz.underlying109 UT UU (iW (iW h1))
theorem M7 : Tryz.prog.globalNamed "chequer/show.signs" = some 0 := by kernel_rfl
theorem Wo:(Tryz.prog.globals[(0:Nat)]?).map (·.type)=some 219:=by kernel_rfl
theorem Vi:Tryz.prog.cellsOf 219=20:=by kernel_rfl
def QS:List (List UInt8):=[[],[],[],[],[],[],[],[],[],[61],[60,62],[60],[60,61],[62],[62,61],[38],[43],[45],[42],[47]]
theorem acZ:(Rows.laid_chequer_show_signs:DataW Unit)=Fv QS:=rfl
theorem acY:(QS.map fun b=>Value.string ⟨b.toArray⟩)=CK.toList:=rfl
theorem adG {W:World}(h:laidMetH Tryz.prog nR W):pg W:=by
 have h1:laidMet Tryz.prog nR W:=h;have h6:=iW (iW (iW (iW (iW (iW (iW (iW (h1))))))));obtain⟨ps,⟨g',t',cs,fuel,p,q,hg',ht',hvar,hd,_,_⟩,_⟩:=h6;obtain rfl:=dX (M7.symm.trans hg');obtain rfl:=dX (Wo.symm.trans ht');rw[acZ]at hd;have hc:=MG Tryz.underlying219 Tryz.underlying9 D7 Vi hd;rw[acY]at hc;unfold World.var? at hvar;rw[M7]at hvar;simp only[Option.bind_some]at hvar;split at hvar
 · rename_i cs' ty fr hh
   injection hvar with hvar;subst hvar;have:cs'=CK:=Array.toList_inj.1 hc;exact⟨ty,fr,by rw[← this];exact hh⟩
 · cases hvar
theorem tables {W:World}(h:laidMetH Tryz.prog nR W):Vars W:=by
 have h1:laidMet Tryz.prog nR W:=h;have h4:=iW (iW (iW (iW (h1))));constructor
 · obtain⟨a0,s0,hv0, -, -, -⟩:=laid_sentinel h4 M5 Wm Tryz.underlying179 QC Tryz.underlying254 Tryz.underlying256 rfl rfl Tryz.underlying9 ME D7
   exact⟨_,by have h0:=World.var?_cell M5 hv0 0;simpa using h0,Or.inr ⟨_,_,rfl⟩⟩
 · have h6:=iW (iW h4)
   obtain⟨ps,⟨g',t',cs,fuel,p,q,hg',ht',hvar,hd,_,_⟩,_⟩:=h6;obtain rfl:=dX (M8.symm.trans hg');obtain rfl:=dX (Wp.symm.trans ht');rw[ada]at hd;have hc:=MG Tryz.underlying246 Tryz.underlying9 D7 Vj hd;rw[ac']at hc;unfold World.var? at hvar;rw[M8]at hvar;simp only[Option.bind_some]at hvar;split at hvar
   · rename_i cs' ty fr hh
     injection hvar with hvar;subst hvar;have:cs'=xy:=Array.toList_inj.1 hc;exact⟨ty,fr,by rw[← this];exact hh⟩
   · cases hvar
def opC(q:ByteArray × Nat × Int):List Value:=[.string q.1,.int .i64 (q.2.1:Int),.int .i64 q.2.2]
theorem cells3:∀(L:List (ByteArray × Nat × Int))(cs:List Value),cs.length=L.length*3→(∀(i:Nat) q,L[i]? = some q→(cs.drop (i*3)).take 3=opC q)→cs=L.flatMap opC
 | [],cs,h,_=>by simpa using h
 | q :: L,cs,h,hi=>by
   have h0:=hi 0 q rfl;rw[Nat.zero_mul,List.drop_zero]at h0
   have h1:=cells3 L (cs.drop 3) (by rw[List.length_drop,h,aK];omega) (fun i q' hq=>by
    have:=hi (i+1) q' (by simpa using hq);rw[Nat.succ_mul]at this;rw[List.drop_drop,Nat.add_comm 3];exact this)
   rw[jV, ← h0, ← h1,List.take_append_drop]
def Ak{H:Type}(q:ByteArray × Nat × Int):DataW H := .agg [.lit (.string q.1.data.toList),.lit (.int .i64 (q.2.1:Int)),.lit (.int .i64 q.2.2)]
theorem aal:(Rows.laid_chequer_parse_operators:DataW Unit) = .agg (pU.map Ak):=rfl
theorem M6 : Tryz.prog.globalNamed "chequer/parse.operators" = some 5 := by kernel_rfl
theorem Wn:(Tryz.prog.globals[(5:Nat)]?).map (·.type)=some 249:=by kernel_rfl
theorem Vh:Tryz.prog.cellsOf 249=33:=by kernel_rfl
theorem MF:Tryz.prog.cellsOf 248=3:=by kernel_rfl
theorem aag {enc:TypeId × Value→Unit}{w:World}{base:Nat}{sp:Nat→Bool}{held:Bool}{fuel:Nat}{cs:List Value}{q:ByteArray × Nat × Int}{p:List MemPlace}
 (h:DataW.trod enc Tryz.prog w base sp held fuel 248 cs=some (Ak q,p)):cs=opC q:=by
 obtain⟨y0,y1,y2,n,hx,hl,h0,h1,h2⟩:=Go.Deep.trod_struct3 Tryz.underlying248 h;injection hx with hx _;unfold Ak at hx;injection hx with hx;injection hx with e0 hx;injection hx with e1 hx;injection hx with e2 _;rw[MF]at hl
 match cs,hl with
 | [c0,c1,c2],_ =>
   obtain⟨s,g0,g0',_⟩:=DataW.trod_string Tryz.underlying9 h0;obtain⟨n1,g1,g1',_⟩:=DataW.trod_int Tryz.underlying3 h1;obtain⟨n2,g2,g2',_⟩:=DataW.trod_int Tryz.underlying3 h2;have k0:[c0]=[Value.string s]:=g0;have k1:[c1]=[Value.int .i64 n1]:=g1;have k2:[c2]=[Value.int .i64 n2]:=g2;injection k0 with k0 _;injection k1 with k1 _;injection k2 with k2 _;rw[g0']at e0;rw[g1']at e1;rw[g2']at e2;injection e0 with e0;injection e0 with e0;injection e1 with e1;injection e1 with _ e1;injection e2 with e2;injection e2 with _ e2
   have es:s=q.1:=by
    cases s;cases hq:q.1
    rw[hq]at e0;simp only at e0;rw[Array.toList_inj.1 e0.symm]
   rw[k0,k1,k2,es, ← e1, ← e2];rfl
theorem Vl {enc:TypeId × Value→Unit}{w:World}{base:Nat}{sp:Nat→Bool}{held:Bool}{fuel:Nat}{cs:List Value}{p:List MemPlace}
 (h:DataW.trod enc Tryz.prog w base sp held fuel 249 cs=some (.agg (pU.map Ak),p)):cs=pU.flatMap opC:=by
 obtain⟨xs,m,_,hx,hl,hxl,hi⟩:=DataW.trod_array Tryz.underlying249 h;injection hx with hx _;injection hx with hx;rw[Vh]at hl;refine cells3 pU cs (by rw[hl];rfl) fun i q hq => ?_
 have hlt:=(dm.1 hq).1;have hlt:i<11:=hlt;have h1:=hi i hlt;rw[MF]at h1;obtain⟨y,hy⟩:∃y,xs[i]? = some y:=⟨_,bn (by omega)⟩;rw[hy]at h1;have h2:(xs.map (·.1))[i]? = some y.1:=by rw[iD,hy];rfl
 rw[← hx,iD,hq]at h2;have h2:Ak q=y.1:=dX h2;obtain⟨y1,y2⟩:=y;have h2:Ak q=y1:=h2;subst h2;exact aag h1
theorem Z8:yZ.toList=pU.flatMap opC:=rfl
theorem adF {W:World}(h:laidMetH Tryz.prog nR W):mV W:=by
 have h1:laidMet Tryz.prog nR W:=h;have h4:=iW (iW (iW (iW (iW (iW (iW (h1)))))));obtain⟨ps,⟨g',t',cs,fuel,p,q,hg',ht',hvar,hd,_,_⟩,_⟩:=h4;obtain rfl:=dX (M6.symm.trans hg');obtain rfl:=dX (Wn.symm.trans ht');rw[aal]at hd;have hc:=Vl hd;rw[← Z8]at hc;unfold World.var? at hvar;rw[M6]at hvar;simp only[Option.bind_some]at hvar;split at hvar
 · rename_i cs' ty fr hh
   injection hvar with hvar;subst hvar;have:cs'=yZ:=Array.toList_inj.1 hc;exact⟨ty,fr,by rw[← this];exact hh⟩
 · cases hvar
theorem maxOf {W:World}(h:W.ShapedOpen Tryz.prog):o9 W :=
 cell_of_shapedOpen_int (g:=8) (t:=3) (zero:=#[.int .i64 0]) h (of_decide_eq_true (by kernel_rfl)) (by kernel_rfl) rfl (by kernel_rfl) (by kernel_rfl) Tryz.underlying3
theorem adH{W:World}(h:laidMetH Tryz.prog nR W)(hs:W.ShapedOpen Tryz.prog):Sx W:=⟨tables h,adF h,adJ h,maxOf hs,adG h⟩
noncomputable def Eu (os:Os):World:=World.laidAll Tryz.prog os nR
theorem Yx(os:Os)(args:Array Value):laidMet Tryz.prog nR ((Eu os).forCall (fun _ _=>0) ⟨#[],args,[]⟩).memory:=laidMet_laidAll args (by kernel_rfl) (by kernel_rfl)
end Go.Proofs.YtdnooocmlhcpkaaGreatDoor
namespace Go.Proofs.YtdnooocmlhcpkaaGreatDoor
open Go.ChangeShapes Go.WideShapes Go.ChangeAt Go.RowKit
theorem M9 : Tryz.prog.globalNamed "strconv.ErrSyntax" = some 1 := by kernel_rfl
theorem Wq:(Tryz.prog.globals[(1:Nat)]?).map (·.type)=some 179:=by kernel_rfl
theorem adI {W:World}(h:laidMetH Tryz.prog nR W):AZ W:=by
 have h1:laidMet Tryz.prog nR W:=h;have h5:=iW (iW (iW (iW (iW (h1)))));obtain⟨a0,s0,hv0, -, -, -⟩:=laid_sentinel h5 M9 Wq Tryz.underlying179 QC Tryz.underlying254 Tryz.underlying256 rfl rfl Tryz.underlying9 ME D7;exact⟨_,by have h0:=World.var?_cell M9 hv0 0;simpa using h0,Or.inr ⟨_,_,rfl⟩⟩
theorem adE{W:World}(h:laidMetH Tryz.prog nR W)(hs:W.ShapedOpen Tryz.prog):qO W:=⟨adH h hs,adI h⟩
end Go.Proofs.YtdnooocmlhcpkaaGreatDoor
