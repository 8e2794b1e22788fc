import Derived.Test.YtaobhjliflomaaaGreatDoorMT9
set_option maxRecDepth 100000
set_option maxHeartbeats 64000000
namespace Go.Proofs.YtaobhjliflomaaaGreatDoor
open Go.RowKit
def vC(w:World)(gs gk:Nat)(L:List (ByteArray × Int)):Prop:=w.heap[gs]? = some (.cells (L.map fun q=>Value.string q.1).toArray 9)∧w.heap[gk]? = some (.cells (L.map fun q=>Value.int .i64 q.2).toArray 3)
theorem vC.below {w w':World}{gs gk:Nat}{L:List (ByteArray × Int)}(h:vC w gs gk L)(hb:Below w.heap.size w w'):vC w' gs gk L :=
 ⟨by rw[hb.block gs (dO.1 h.1).1];exact h.1,by rw[hb.block gk (dO.1 h.2).1];exact h.2⟩
theorem vC.fr {w w':World}{b gs gk:Nat}{L:List (ByteArray × Int)}(h:vC w gs gk L)(hf:Fr w w' b)(h1:b<gs)(h2:b<gk):vC w' gs gk L:=by
 refine⟨?_, ?_⟩
 · rw[hf.block gs (dO.1 h.1).1 (by omega) (.inr (by rintro⟨cur,fr,e⟩;rw[h.1]at e;injection e with e;injection e with _ e;exact absurd e (by decide)))];exact h.1
 · rw[hf.block gk (dO.1 h.2).1 (by omega) (.inr (by rintro⟨cur,fr,e⟩;rw[h.2]at e;injection e with e;injection e with _ e;exact absurd e (by decide)))];exact h.2
theorem vC.cells {w:World}{gs gk:Nat}{L:List (ByteArray × Int)}(h:vC w gs gk L)(j:Nat)(q:ByteArray × Int)(hj:L[j]? = some q):w.cell? ⟨gs,j,none⟩=some (.string q.1)∧w.cell? ⟨gk,j,none⟩=some (.int .i64 q.2):=by
 refine⟨?_, ?_⟩
 · rw[cell_of_row w gs j _ _ _ h.1];simp[hj]
 · rw[cell_of_row w gk j _ _ _ h.2];simp[hj]
def Oc (n:Nat)(w:World)(e:Ending)(w':World):Prop :=
 Below w.heap.size w w'∧∃gs gk,e = .returned (.tuple #[.slice (some ⟨gs,0,none⟩) (fC n).length (fC n).length,.slice (some ⟨gk,0,none⟩) (fC n).length (fC n).length])∧w.heap.size≤gs∧w.heap.size≤gk∧vC w' gs gk (fC n)
theorem abG (n:Nat)(w:World)(A B:Array Value)(h1:A=((fC n).map fun q=>Value.string q.1).toArray)(h2:B=((fC n).map fun q=>Value.int .i64 q.2).toArray) :
 Oc n w (.returned (.tuple #[.slice (some ⟨w.heap.size,0,none⟩) (fC n).length (fC n).length,.slice (some ⟨w.heap.size+1,0,none⟩) (fC n).length (fC n).length])) ((w.alloc (.cells A 9)).alloc (.cells B 3)):=by
 subst h1;subst h2;refine⟨((ai _ _).alloc (ah _) _).alloc (by simp) _,w.heap.size,w.heap.size+1,rfl,ah _,by omega, ?_, ?_⟩
 · rw[Below.heap_alloc _ _ _ (by simp)];exact(ko w _).1
 · have:=(ko (w.alloc (.cells ((fC n).map fun q=>Value.string q.1).toArray 9)) (.cells ((fC n).map fun q=>Value.int .i64 q.2).toArray 3)).1
   rwa[show(w.alloc (.cells ((fC n).map fun q=>Value.string q.1).toArray 9)).heap.size=w.heap.size+1 by simp]at this
theorem aeV (n:Nat)(hn:n≤3)(w:World):Calls Tryz.prog 55 #[.int .i64 (n:Int)] w (Oc n w):=by
 rcases(show n=0∨n=1∨n=2∨n=3 by omega)with rfl|rfl|rfl|rfl
 all_goals
  go_enter Tryz.func55,Tryz.ntmps55;go_wp2_with fail
  go_ret2
  exact abG _ _ _ _ rfl rfl
theorem aZ.K9{w':World}{b:Nat}{tv:Value}{ts:List ag}{p:Nat}{d:Int}{nv:Value}{vs:List az}{c:Int}(h:ui b tv ts p d 0 nv vs c w'):aZ w' b tv ts p d c nv vs:=by unfold ui at h;rw[if_pos rfl]at h;exact h
def cz (sl:Nat)(res:dR)(w:World)(b:Nat)(tv:Value)(ts:List ag)(deep:Nat)(vs:List az)(e:Ending)(w':World):Prop :=
 Fr w w' b∧((∃c,res = .error c∧(c=5∨c=6)∧(∃x:Int,e = .returned (.int .i64 x))∧∃p' d aT us,(∀u∈us,∀g,u.aS.ownBlock=some g→w.heap.size≤g)∧aZ w' b tv ts p' d c aT (vs++us)∧(vs++us).length+sl≤ts.length+100∧(sl:Int)≤d+100∧d≤100) ∨
  (∃ms a r,res = .ok (ms,a,r)∧e = .returned (.int .i64 ((a:Nat):Int))∧∃p' aT us,ts.drop p'=r∧us.map az.n=ms∧(∀u∈us,∀g,u.aS.ownBlock=some g→w.heap.size≤g)∧aZ w' b tv ts p' (deep:Int) 0 aT (vs++us)∧(vs++us).length≤p'))
theorem cz.ret {sl:Nat}{res:dR}{w w':World}{b:Nat}{tv:Value}{ts:List ag}{deep:Nat}{vs:List az}{e:Ending}(h:cz sl res w b tv ts deep vs e w'):∃c:Int,e = .returned (.int .i64 c):=by
 rcases h.2 with ⟨c,_,_,h,_⟩|⟨_,a,_,_,h,_⟩
 · exact h
 · exact⟨a,h⟩
theorem cz.from {sl:Nat}{res:dR}{w w2 w3:World}{b:Nat}{tv:Value}{ts:List ag}{deep:Nat}{vs:List az}{e:Ending}(hf:Fr w w2 b)(h:cz sl res w2 b tv ts deep vs e w3):cz sl res w b tv ts deep vs e w3:=by
 refine⟨hf.trans h.1,h.2.imp ?_ ?_⟩
 · rintro⟨c,g1,g2,g3,p',d,aT,us,g4,g5,g6⟩
   exact⟨c,g1,g2,g3,p',d,aT,us,fun u hu j hj=>bF hf.size (g4 u hu j hj),g5,g6⟩
 · rintro⟨ms,a,r,g1,g2,p',aT,us,g3,g4,g5,g6⟩
   exact⟨ms,a,r,g1,g2,p',aT,us,g3,g4,fun u hu j hj=>bF hf.size (g5 u hu j hj),g6⟩
theorem cz.leaf {sl:Nat}{res:dR}{w w':World}{b:Nat}{tv:Value}{ts:List ag}{deep p':Nat}{vs:List az}{aT:Value}{n:Nd}{a:Nat}{r:List ag}(hr:res = .ok ([n],a,r))(hf:Fr w w' b)(hp:ts.drop p'=r)(h:aZ w' b tv ts p' (deep:Int) 0 aT (vs++[az.leaf n]))(hc:vs.length+1≤p'):cz sl res w b tv ts deep vs (.returned (.int .i64 (a:Int))) w' :=
 ⟨hf,.inr ⟨[n],a,r,hr,rfl,p',aT,[az.leaf n],hp,rfl,(by intro u hu g hg;rw[List.mem_singleton.1 hu]at hg;cases hg),h,by rw[ak];exact hc⟩⟩
theorem cz.err {sl:Nat}{res:dR}{w w':World}{b:Nat}{tv:Value}{ts:List ag}{deep p':Nat}{d:Int}{vs:List az}{aT:Value}{c x:Int}(hr:res = .error c)(hc:c=5∨c=6)(hf:Fr w w' b)(h:aZ w' b tv ts p' d c aT vs)(hs:vs.length+sl≤ts.length+100)(hd:(sl:Int)≤d+100∧d≤100):cz sl res w b tv ts deep vs (.returned (.int .i64 x)) w' :=
 ⟨hf,.inl ⟨c,hr,hc,⟨x,rfl⟩,p',d,aT,[],(fun u hu=>absurd hu (by simp)),by rw[fM];exact h,by rw[fM];exact hs,hd⟩⟩
theorem cz.bad {sl:Nat}{res:dR}{w w':World}{b:Nat}{tv:Value}{ts:List ag}{deep:Nat}{vs:List az}{e:Ending}{c:Int}(h:cz sl res w b tv ts deep vs e w')(hr:res = .error c) :
 Fr w w' b∧(c=5∨c=6)∧∃x:Int,e = .returned (.int .i64 x)∧∃p' d aT us,(∀u∈us,∀g,u.aS.ownBlock=some g→w.heap.size≤g)∧aZ w' b tv ts p' d c aT (vs++us)∧(vs++us).length+sl≤ts.length+100∧(sl:Int)≤d+100∧d≤100:=by
 rcases h.2 with ⟨c',h1,h2,⟨x,h3⟩,h4⟩|⟨ms,a,r,h1,_⟩
 · rw[hr]at h1;injection h1 with h1;subst h1;exact⟨h.1,h2,x,h3,h4⟩
 · rw[hr]at h1;cases h1
theorem cz.ry {sl:Nat}{res:dR}{w w':World}{b:Nat}{tv:Value}{ts:List ag}{deep:Nat}{vs:List az}{e:Ending}{ms:List Nd}{a:Nat}{r:List ag}(h:cz sl res w b tv ts deep vs e w')(hr:res = .ok (ms,a,r)) :
 Fr w w' b∧e = .returned (.int .i64 ((a:Nat):Int))∧∃p' aT us,ts.drop p'=r∧us.map az.n=ms∧(∀u∈us,∀g,u.aS.ownBlock=some g→w.heap.size≤g)∧aZ w' b tv ts p' (deep:Int) 0 aT (vs++us)∧(vs++us).length≤p':=by
 rcases h.2 with ⟨c',h1,h2,h3⟩|⟨ms',a',r',h1,h2,h3⟩
 · rw[hr]at h1;cases h1
 · rw[hr]at h1;injection h1 with h1;injection h1 with e1 e2;injection e2 with e2 e3;subst e1;subst e2;subst e3;exact⟨h.1,h2,h3⟩
def CG (f:Nat):Prop:=∀(n deep:Nat)(res:dR)(w:World)(b:Nat)(tv:Value)(ts:List ag)(p:Nat)(nv:Value)(vs:List az),n≤4→deep≤12→aZ w b tv ts p (deep:Int) 0 nv vs→vs.length≤p→dX f n deep vs.length (ts.drop p)=some res →
 Calls Tryz.prog 31 #[.pointer (some ⟨b,0,none⟩),.int .i64 (n:Int)] w (cz (n+6*deep) res w b tv ts deep vs)
theorem ae8 {w:World}{b:Nat}{tv:Value}{ts:List ag}{p deep:Nat}{nv:Value}{vs:List az}(h:aZ w b tv ts p (deep:Int) 0 nv vs)(sH:vs.length≤p)(ng:deep≤12)(t:ag)(hnx:p+1<ts.length) :
 Calls Tryz.prog 110 #[.pointer (some ⟨b,0,none⟩),.agg #[.string t.sh,.int .i64 t.c,.int .i64 t.r,.bool t.ac,.bool t.ar]] w (cz (5+6*deep) (jc vs.length t (ts.drop (p+1))) w b tv ts deep vs):=by
 have hal:Below w.heap.size w (w.alloc (.cells #[.string t.sh,.int .i64 t.c,.int .i64 t.r,.bool t.ac,.bool t.ar] 43)):=(ai _ _).alloc (ah _) _;have bD:=ae (h.below hal);have hx:=bU.new w t.sh t.c t.r t.ac t.ar;have h2:=h.few;have hlt:=h.lt;have hbl:=h.blt;have aU:=ae hal;clear h hal;go_enter Tryz.func110,Tryz.ntmps110;go_upto_region 1 with (fail)
 generalize w.alloc (.cells #[.string t.sh,.int .i64 t.c,.int .i64 t.r,.bool t.ac,.bool t.ar] 43)=w1 at bD aU hx ⊢;obtain⟨c0,c1,c2,c3,c4⟩:=bD.o.facts;have f1:=bD.o.frozen 1;clear c0 c2 c3 c4;go_upto_region 2 with (fail)
 have dB:=ae (bD.o.next hnx);have bT:=ae (hx.set (show w.heap.size≠b by omega) 1 (.int .i64 ((p:Int)+1)));have bI:=ae ((Fr.of b aU.o).setCell 1 (.int .i64 ((p:Int)+1)));clear c1 f1 hx bD aU;generalize w1.setCell ⟨b,1,none⟩ (.int .i64 ((p:Int)+1))=w2 at dB bT bI ⊢;have HT:=ae (xk dB.o ⟨#[58]⟩);rw[decide_eq_true rfl,Bool.true_and]at HT;have hw0:w.heap.size≠b:=by omega
 cases hq:au ⟨#[58]⟩ (ts.drop (p+1))
 · rw[hq]at HT
   have HR:=ae (show jc vs.length t (ts.drop (p+1)) = .ok ([{ Nd.zero with kind:=5,ref:=t.dw }],vs.length,ts.drop (p+1))by unfold jc;rw[hq,if_neg (by decide)]);clear hq;go_upto_region 3 with (go_at_call 56;((with_reducible refine HT.o.mono ?_);rintro e w3 ⟨rfl,h1⟩;have dD:=ae (bI.o.below h1);have dZ:=ae (bT.o.below h1 bT.o.lt);have aW:=ae (dB.o.below h1);clear h1))
   obtain⟨x0,x1,x2,x3,x4⟩:=dZ.o.facts;have HA:=ae (show Calls Tryz.prog 57 #[.pointer (some ⟨b,0,none⟩),.agg #[.int .i64 5,.int .i64 0,.string ⟨#[]⟩,.string t.sh,.int .i64 t.c,.int .i64 t.r,.bool t.ac,.bool t.ar,.string ⟨#[]⟩,.int .i64 0,.int .i64 0,.bool false,.bool false,.slice none 0 0]] w3 _ from oL aW.o (az.leaf { Nd.zero with kind:=5,ref:=t.dw }) (wY _ _ _ rfl) (by omega) (.slice none 0 0) rfl { Nd.zero with kind:=5,ref:=t.dw } rfl);go_wp2_with (go_at_call 57;((with_reducible refine HA.o.mono ?_);rintro e w4 ⟨h1,rfl,aT,h3⟩;have dL:=ae (dD.o.trans h1);have cO:=ae h3;clear h1 h3))
   go_ret;exact cz.leaf HR.o dL.o rfl cO.o (by omega)
 · have wV:=yD dB.o hq
   obtain⟨u,hu⟩:∃u,ts[p+2]? = some u:=⟨_,dm wV⟩
   have hd:(ts.drop (p+1)).tail=u :: ts.drop (p+3):=by
    rw[List.tail_drop,List.drop_eq_getElem_cons wV];rw[dm wV]at hu;rw[dU hu]
   have hR:jc vs.length t (ts.drop (p+1))=if u.kind=4∧eD t.dw u.dw=true then .ok ([(⟨6,0,⟨#[]⟩,t.dw,u.dw,[]⟩:Nd)],vs.length,ts.drop (p+3))else .error 5:=by
    unfold jc;rw[hq,if_pos rfl,hd] <;> rfl
   rw[hq]at HT;clear hq hd;go_upto_region 4 with (go_at_call 56;((with_reducible refine HT.o.mono ?_);rintro e w3 ⟨rfl,h1⟩;have dD:=ae (bI.o.below h1);have dZ:=ae (bT.o.below h1 bT.o.lt);have aW:=ae (dB.o.below h1);clear h1))
   obtain⟨c0,c1,c2,c3,c4⟩:=aW.o.facts;have f1:=aW.o.frozen 1;clear c0 c2 c3 c4;go_upto_region 5 with (fail)
   have cO:=ae (aW.o.next wV);have nJ:=ae (dZ.o.set hw0 1 (.int .i64 (((p+1:Nat):Int)+1)));have dL:=ae (dD.o.setCell 1 (.int .i64 (((p+1:Nat):Int)+1)));clear c1 f1 aW dZ dD HT bI bT dB;rw[show((p+1:Nat):Int)=(p:Int)+1 from rfl]at cO nJ dL;generalize w3.setCell ⟨b,1,none⟩ (.int .i64 ((p:Int)+1+1))=w4 at cO nJ dL ⊢;obtain⟨c0,c1,c2,c3,c4⟩:=cO.o.facts;obtain⟨g,cap,u',rfl,hu', -,hg,k0,k1,k2,k3,k4,k5,k6,k7,k8⟩:=cO.o.tok;have hu':ts[p+2]? = some u':=hu';rw[hu]at hu';injection hu' with hu';subst hu';have kS:Below w4.heap.size w4 (w4.alloc (.cells jF 71)):=(ai _ _).alloc (ah _) _;obtain⟨a0,a1, -, -, -⟩:=(cO.o.below kS).facts;have hgb:g<w4.heap.size:=by have:=cO.o.blt;omega
   have j0:=(kS.cell (p:=⟨g,(p+1+1)*9,none⟩) hgb).trans k0;have j1:=(kS.cell (p:=⟨g,(p+1+1)*9+1,none⟩) hgb).trans k1;have j2:=(kS.cell (p:=⟨g,(p+1+1)*9+2,none⟩) hgb).trans k2;have zR:=(kS.cell (p:=⟨g,(p+1+1)*9+3,none⟩) hgb).trans k3;have FQ:=(kS.cell (p:=⟨g,(p+1+1)*9+4,none⟩) hgb).trans k4;have FR:=(kS.cell (p:=⟨g,(p+1+1)*9+5,none⟩) hgb).trans k5;have FT:=(kS.cell (p:=⟨g,(p+1+1)*9+6,none⟩) hgb).trans k6;have j7:=(kS.cell (p:=⟨g,(p+1+1)*9+7,none⟩) hgb).trans k7;have j8:=(kS.cell (p:=⟨g,(p+1+1)*9+8,none⟩) hgb).trans k8;have aM:=aC.zero w4;obtain⟨x0,x1,x2,x3,x4,x5,x6,x7,av⟩:=aM.cells;obtain⟨f0,f1,f2,f3,f4,f5,f6,f7,f8⟩:=aM.bH;clear aM kS;obtain⟨q,hq⟩:∃q,p+1+1=q:=⟨_,rfl⟩;rw[hq]at c1 k0 k1 k2 k3 k4 k5 k6 k7 k8 a1 j0 j1 j2 zR FQ FR FT j7 j8;have hi1:(0:Int)≤(q:Int):=by omega
   have hi2:(q:Int)<(ts.length:Int):=by omega
   clear c2 c3 c4 hq
   go_region
   have hB:Below w4.heap.size w4 (w4.alloc (.cells #[.int .i64 u.kind,.string u.text,.int .i64 u.num,.string u.sh,.int .i64 u.c,.int .i64 u.r,.bool u.ac,.bool u.ar,.int .i64 u.pos] 71)).drew:=((ai _ _).alloc (ah _) _).drew;have fP:aC (w4.alloc (.cells #[.int .i64 u.kind,.string u.text,.int .i64 u.num,.string u.sh,.int .i64 u.c,.int .i64 u.r,.bool u.ac,.bool u.ar,.int .i64 u.pos] 71)).drew w4.heap.size u:=(aC.new w4 u).drew;have aR:=ae (dL.o.below hB);have nK:=ae (nJ.o.below hB nJ.o.lt);have aP:=ae (cO.o.below hB);clear hB nJ cO dL c0 c1 a0 a1 j0 j1 j2 zR FQ FR FT j7 j8 k0 k1 k2 k3 k4 k5 k6 k7 k8 x0 x1 x2 x3 x4 x5 x6 x7 av f0 f1 f2 f3 f4 f5 f6 f7 f8 hgb;generalize hb4:w4.heap.size=b4 at fP ⊢;generalize (w4.alloc (.cells #[.int .i64 u.kind,.string u.text,.int .i64 u.num,.string u.sh,.int .i64 u.c,.int .i64 u.r,.bool u.ac,.bool u.ar,.int .i64 u.pos] 71)).drew=w5 at fP aR nK aP ⊢;clear hb4;obtain⟨x0,x1,x2,x3,x4,x5,x6,x7,av⟩:=fP.cells;obtain⟨y0,y1,y2,y3,y4⟩:=nK.o.facts;have hcs:vs.length+(5+6*deep)≤ts.length+100:=by omega
   by_cases h4:u.kind=4
   · have e4:(u.kind != 4)=false:=by rw[h4];rfl
     have e5:(u.kind == 4)=true:=beq_iff_eq.2 h4;have HI:=ae (Tq t.sh u.sh t.c t.r u.c u.r t.ac t.ar u.ac u.ar w5);cases hs:eD t.dw u.dw
     · have HR:=ae (show jc vs.length t (ts.drop (p+1)) = .error 5 by rw[hR,hs,if_neg (by simp)])
       have HS:=ae (show eD ⟨t.sh,t.c,t.r,t.ac,t.ar⟩ ⟨u.sh,u.c,u.r,u.ac,u.ar⟩=false from hs);rw[HS.o]at HI;clear hR hs h4
       go_wp2_with (first
        | (go_at_call 51;((with_reducible refine HI.o.mono ?_);rintro e w6 ⟨rfl,h1⟩;have dM:=ae (aR.o.below h1);have rO:=ae (Af (aP.o.below h1) 5);clear h1))
        | (go_at_call 32;((with_reducible refine rO.o.mono ?_);rintro e w7 ⟨rfl,h1,h2⟩;have bM:=ae (dM.o.trans h1);have bB:=ae h2;clear h1 h2)))
       go_ret;exact cz.err HR.o (.inl rfl) bM.o (by have:=bB.o;unfold ui at this;rw[if_pos rfl]at this;exact this) hcs (by omega)
     · have HR:=ae (show jc vs.length t (ts.drop (p+1)) = .ok ([(⟨6,0,⟨#[]⟩,t.dw,u.dw,[]⟩:Nd)],vs.length,ts.drop (p+3))by rw[hR,hs,if_pos ⟨h4,rfl⟩])
       have HS:=ae (show eD ⟨t.sh,t.c,t.r,t.ac,t.ar⟩ ⟨u.sh,u.c,u.r,u.ac,u.ar⟩=true from hs);rw[HS.o]at HI;have dG:=ae (show p+1+1+1<ts.length from aP.o.fit.next hu (by omega));have fP:=ae fP;clear hR hs h4;go_upto_region 9 with (go_at_call 51;((with_reducible refine HI.o.mono ?_);rintro e w6 ⟨rfl,h1⟩;have dM:=ae (aR.o.below h1);have dE:=ae (aP.o.below h1);have EB:=ae (nK.o.below h1 nK.o.lt);have Ct:=ae (fP.o.below h1 fP.o.lt);clear h1))
       clear x0 x1 x2 x3 x4 x5 x6 x7 av y0 y1 y2 y3 y4 aP nK fP aR;obtain⟨c0,c1,c2,c3,c4⟩:=dE.o.facts;have f1:=dE.o.frozen 1;clear c0 c2 c3 c4;rw[show((p+1+1:Nat):Int)=(p:Int)+1+1 from rfl]at c1;go_upto_region 10 with (fail)
       have qW:=ae (show b4≠b from by
        intro e;have h1:=Ct.o;unfold aC at h1;rw[e,dE.o.cell]at h1;injection h1 with h1;injection h1 with _ h1;exact absurd h1 (by decide))
       have bB:=ae (dE.o.next dG.o);have Jg:=ae (EB.o.set hw0 1 (.int .i64 (((p+1+1:Nat):Int)+1)));have Iy:=ae (show aC (w6.setCell ⟨b,1,none⟩ (.int .i64 (((p+1+1:Nat):Int)+1))) b4 u from by unfold aC;rw[fO _ _ _ _ (by exact qW.o)];exact Ct.o);have bM:=ae (dM.o.setCell 1 (.int .i64 (((p+1+1:Nat):Int)+1)));clear c1 f1 dE EB Ct dM;rw[show((p+1+1:Nat):Int)=(p:Int)+1+1 from rfl]at bB Jg Iy bM;generalize w6.setCell ⟨b,1,none⟩ (.int .i64 ((p:Int)+1+1+1))=w7 at bB Jg Iy bM ⊢;obtain⟨x0,x1,x2,x3,x4,x5,x6,x7,av⟩:=Iy.o.cells;obtain⟨y0,y1,y2,y3,y4⟩:=Jg.o.facts;have HA:=ae (show Calls Tryz.prog 57 #[.pointer (some ⟨b,0,none⟩),.agg #[.int .i64 6,.int .i64 0,.string ⟨#[]⟩,.string t.sh,.int .i64 t.c,.int .i64 t.r,.bool t.ac,.bool t.ar,.string u.sh,.int .i64 u.c,.int .i64 u.r,.bool u.ac,.bool u.ar,.slice none 0 0]] w7 _ from oL bB.o (az.leaf (⟨6,0,⟨#[]⟩,t.dw,u.dw,[]⟩:Nd)) (wY _ _ _ rfl) (by omega) (.slice none 0 0) rfl (⟨6,0,⟨#[]⟩,t.dw,u.dw,[]⟩:Nd) rfl);go_wp2_with (go_at_call 57;((with_reducible refine HA.o.mono ?_);rintro e w8 ⟨h1,rfl,aT,h3⟩;have l9:=ae (bM.o.trans h1);have lh:=ae h3;clear h1 h3))
       go_ret;exact cz.leaf HR.o l9.o rfl lh.o (by omega)
   · have e4:(u.kind != 4)=true:=by rw[bne_iff_ne];exact h4
     have e5:(u.kind == 4)=false:=beq_eq_false_iff_ne.2 h4;have HR:=ae (show jc vs.length t (ts.drop (p+1)) = .error 5 by rw[hR,if_neg (fun h=>h4 h.1)]);have rO:=ae (Af aP.o 5);clear hR h4;go_wp2_with (go_at_call 32;((with_reducible refine rO.o.mono ?_);rintro e w7 ⟨rfl,h1,h2⟩;have bM:=ae (aR.o.trans h1);have bB:=ae h2;clear h1 h2))
     go_ret;exact cz.err HR.o (.inl rfl) bM.o (by have:=bB.o;unfold ui at this;rw[if_pos rfl]at this;exact this) hcs (by omega)
theorem cz.xZ {sl:Nat}{res:dR}{w w':World}{b:Nat}{tv:Value}{ts:List ag}{deep p':Nat}{d:Int}{vs us:List az}{aT:Value}{c x:Int}(hr:res = .error c)(hc:c=5∨c=6)(hf:Fr w w' b)
 (hu:∀u∈us,∀g,u.aS.ownBlock=some g→w.heap.size≤g) (h:aZ w' b tv ts p' d c aT (vs++us)) (hs:(vs++us).length+sl≤ts.length+100) (hd:(sl:Int)≤d+100∧d≤100):cz sl res w b tv ts deep vs (.returned (.int .i64 x)) w' :=
 ⟨hf,.inl ⟨c,hr,hc,⟨x,rfl⟩,p',d,aT,us,hu,h,hs,hd⟩⟩
theorem aeZ (f:Nat)(IH:∀g,g≤f→CG g)(name:ByteArray){w:World}{b:Nat}{tv:Value}{ts:List ag}{p deep:Nat}{nv:Value}{vs:List az}(h:aZ w b tv ts p (deep:Int) 0 nv vs)(sH:vs.length≤p)(ng:deep≤12)(hnx:p+1<ts.length)(res:dR)(aj:Hl f deep vs.length name (ts.drop (p+1))=some res) :
 Calls Tryz.prog 111 #[.pointer (some ⟨b,0,none⟩),.string name] w (cz (5+6*deep) res w b tv ts deep vs):=by
 unfold Hl at aj;have q1:=yP name ⟨#[84,82,85,69]⟩;have q2:=yP name ⟨#[70,65,76,83,69]⟩;rw[F5]at q1;rw[F4]at q2;have jZ:=h.few;have hlt:=h.lt;have hbl:=h.blt;obtain⟨c0,c1,c2,c3,c4⟩:=h.facts;have f1:=h.frozen 1;have bD:=ae (h.next hnx);have jT:=ae ((Fr.refl w b).setCell 1 (.int .i64 ((p:Int)+1)));have hcs:vs.length+(5+6*deep)≤ts.length+100:=by omega
 clear c0 c2 c3 c4 h;go_enter Tryz.func111,Tryz.ntmps111;go_upto_region 2 with (fail)
 generalize w.setCell ⟨b,1,none⟩ (.int .i64 ((p:Int)+1))=w1 at bD jT ⊢;clear c1 f1;by_cases h1:name=⟨#[84,82,85,69]⟩
 · rw[decide_eq_true h1]at q1
   rw[if_pos h1]at aj;injection aj with aj;have HR:=ae aj.symm;have HA:=ae (show Calls Tryz.prog 57 #[.pointer (some ⟨b,0,none⟩),.agg #[.int .i64 3,.int .i64 1,.string ⟨#[]⟩,.string ⟨#[]⟩,.int .i64 0,.int .i64 0,.bool false,.bool false,.string ⟨#[]⟩,.int .i64 0,.int .i64 0,.bool false,.bool false,.slice none 0 0]] w1 _ from oL bD.o (az.leaf { Nd.zero with kind:=3,num:=1 }) (wY _ _ _ rfl) (by omega) (.slice none 0 0) rfl { Nd.zero with kind:=3,num:=1 } rfl);clear aj h1 q2;go_wp2_with (go_at_call 57;((with_reducible refine HA.o.mono ?_);rintro e w7 ⟨h1,rfl,aT,h3⟩;have bM:=ae (jT.o.trans h1);have bB:=ae h3;clear h1 h3))
   go_ret;exact cz.leaf HR.o bM.o rfl bB.o (by omega)
 rw[decide_eq_false h1]at q1;rw[if_neg h1]at aj;by_cases h2:name=⟨#[70,65,76,83,69]⟩
 · rw[decide_eq_true h2]at q2
   rw[if_pos h2]at aj;injection aj with aj;have HR:=ae aj.symm;have HA:=ae (show Calls Tryz.prog 57 #[.pointer (some ⟨b,0,none⟩),.agg #[.int .i64 3,.int .i64 0,.string ⟨#[]⟩,.string ⟨#[]⟩,.int .i64 0,.int .i64 0,.bool false,.bool false,.string ⟨#[]⟩,.int .i64 0,.int .i64 0,.bool false,.bool false,.slice none 0 0]] w1 _ from oL bD.o (az.leaf { Nd.zero with kind:=3 }) (wY _ _ _ rfl) (by omega) (.slice none 0 0) rfl { Nd.zero with kind:=3 } rfl);clear aj h1 h2;go_wp2_with (go_at_call 57;((with_reducible refine HA.o.mono ?_);rintro e w7 ⟨h1,rfl,aT,h3⟩;have bM:=ae (jT.o.trans h1);have bB:=ae h3;clear h1 h3))
   go_ret;exact cz.leaf HR.o bM.o rfl bB.o (by omega)
 rw[decide_eq_false h2]at q2;rw[if_neg h2]at aj;clear h1 h2;have HS:=ae (xk bD.o ⟨#[40]⟩);rw[decide_eq_true rfl,Bool.true_and]at HS;cases hs:au ⟨#[40]⟩ (ts.drop (p+1))
 · rw [hs,if_neg (by decide)]at aj
   injection aj with aj;have HR:=ae aj.symm;rw[hs]at HS;clear aj hs
   go_wp2_with (first
    | (go_at_call 56;((with_reducible refine HS.o.mono ?_);rintro e w2 ⟨rfl,h1⟩;have bI:=ae (jT.o.below h1);have rO:=ae (Af (bD.o.below h1) 5);clear h1))
    | (go_at_call 32;((with_reducible refine rO.o.mono ?_);rintro e w7 ⟨rfl,h1,h2⟩;have bM:=ae (bI.o.trans h1);have bB:=ae h2;clear h1 h2)))
   go_ret;exact cz.err HR.o (.inl rfl) bM.o (aZ.K9 bB.o) hcs (by omega)
 have Kb:=yD bD.o hs;rw[hs,if_pos rfl]at aj;rw[hs]at HS;clear hs;go_upto_region 9 with (go_at_call 56;((with_reducible refine HS.o.mono ?_);rintro e w2 ⟨rfl,h1⟩;have bI:=ae (jT.o.below h1);have dB:=ae (bD.o.below h1);clear h1))
 have HO:=ae (Ah dB.o ng Kb);unfold Ba at aj;have hz2:=bI.o.size;have aie:=dB.o.blt;have HOW:=ae (show Own (aK .i64) 3 w2 (b+1) (.slice none 0 0) []from Own.nil _ _ _ _);by_cases hd:12≤deep
 · rw [if_pos hd]at aj
   injection aj with aj;have HR:=ae aj.symm;clear aj
   go_upto_region 17 with (first
    | (go_at_call 83;((with_reducible refine HO.o.mono ?_);rintro e w3 ⟨rfl,h1,h2⟩;rcases h2 with ⟨-,h2⟩|⟨h2, -⟩;rotate_left;exact absurd hd h2;have dD:=ae (bI.o.trans h1);have aW:=ae h2;have za:=ae (BL h2 ⟨#[41]⟩);obtain⟨c0,c1,c2,c3,c4⟩:=h2.facts;clear c0 c1 c2 c4 h1 h2))
    | (go_at_call 109;((with_reducible refine za.o.mono ?_);rintro e w4 ⟨rfl,h1,h2⟩;have dL:=ae (dD.o.trans h1);have cO:=ae (show aZ w4 b tv ts (p+1) (deep:Int) 6 nv vs from(by rcases h2 with ⟨_,h2⟩|⟨h2,_⟩|⟨h2,_⟩;exact h2;exact absurd h2 (by decide);exact absurd h2 (by decide)));clear h1 h2)))
   have jV:=ae (show(⟨{ Nd.zero with kind:=7,text:=name,kids:=[] },none⟩:az).n={ Nd.zero with kind:=7,text:=name,kids:=[] }from rfl);have mo:=ae (show(⟨{ Nd.zero with kind:=7,text:=name,kids:=[] },none⟩:az).aS = .slice none 0 0 from rfl);obtain⟨c0,c1,c2,c3,c4⟩:=cO.o.facts;have f2:=cO.o.frozen 2;clear c0 c1 c3 c4;have hd1 : -9223372036854775808≤(deep:Int) - 1:=by omega
   have hd2:(deep:Int) - 1≤9223372036854775807:=by omega
   go_upto_region 18 with (fail)
   have p9:=ae (cO.o.pK ((deep:Int) - 1));have pX:=ae (dL.o.setCell 2 (.int .i64 ((deep:Int) - 1)));have pY:=ae (show Own (aK .i64) 3 (w4.setCell ⟨b,2,none⟩ (.int .i64 ((deep:Int) - 1))) (b+1) (.slice none 0 0) []from(show Own (aK .i64) 3 w4 (b+1) (.slice none 0 0) []from Own.nil _ _ _ _).keep fun j hj _ _=>fO _ _ _ _ (by show j≠b;omega));generalize w4.setCell ⟨b,2,none⟩ (.int .i64 ((deep:Int) - 1))=nA at p9 pX pY ⊢;clear c2 f2;have HA:=ae (show Calls Tryz.prog 57 #[.pointer (some ⟨b,0,none⟩),.agg #[.int .i64 7,.int .i64 0,.string name,.string ⟨#[]⟩,.int .i64 0,.int .i64 0,.bool false,.bool false,.string ⟨#[]⟩,.int .i64 0,.int .i64 0,.bool false,.bool false,(.slice none 0 0)]] nA _ from oL p9.o ⟨{ Nd.zero with kind:=7,text:=name,kids:=[] },none⟩ (by rw[mo.o,jV.o];exact pY.o) (by omega) _ mo.o { Nd.zero with kind:=7,text:=name,kids:=[] } jV.o);go_wp2_with (go_at_call 57;((with_reducible refine HA.o.mono ?_);rintro e w8 ⟨h1,rfl,yo,h3⟩;have l9:=ae (pX.o.trans h1);have lh:=ae h3;clear h1 h3))
   go_ret;refine cz.xZ (us:=[⟨{ Nd.zero with kind:=7,text:=name,kids:=[] },none⟩]) HR.o (.inr rfl) l9.o ?_ lh.o (by simp;omega) (by omega);intro u hu g hg;rw[List.mem_singleton.1 hu]at hg;cases hg
 · rw [if_neg hd,List.tail_drop]at aj
   have tT:=ae aj;have qR:=ae IH;obtain⟨eb,jK,bV⟩:=Elem.kid;have jH:=ae bV;have hdp:deep+1≤12:=by omega
   clear aj IH bV;go_upto_region 10 with (go_at_call 83;((with_reducible refine HO.o.mono ?_);rintro e w3 ⟨rfl,h1,h2⟩;rcases h2 with ⟨h2, -⟩|⟨-,h2⟩;exact absurd h2 hd;have dD:=ae (bI.o.trans h1);have aW:=ae h2;clear h1 h2))
   have HIS:=ae (xk aW.o ⟨#[41]⟩);rw[decide_eq_true rfl,Bool.true_and]at HIS;obtain⟨c0,c1,c2,c3,c4⟩:=aW.o.facts;clear c0 c1 c2 c4 HO dB HOW HS;have hz3:=dD.o.size;have aif:=aW.o.blt;cases hs:au ⟨#[41]⟩ (ts.drop (p+1+1))
   rotate_left
   · have hr:=tT.o
     rw[hs,if_pos rfl]at hr;have hr:rZ vs.length name [] [] (ts.drop (p+1+1))=some res:=hr;unfold rZ at hr;rw[hs,if_pos rfl,List.tail_drop]at hr;injection hr with hr;have HR:=ae hr.symm;have wV:=yD aW.o hs;rw[hs]at HIS;have Wh:=ae hs;clear hr hs
     go_upto_region 17 with (first
      | (go_at_call 56;((with_reducible refine HIS.o.mono ?_);rintro e w4 ⟨rfl,h1⟩;have dL:=ae (dD.o.below h1);have za:=ae (BL (aW.o.below h1) ⟨#[41]⟩);clear h1))
      | (go_at_call 109;((with_reducible refine za.o.mono ?_);rintro e w5 ⟨rfl,h1,h2⟩;have aR:=ae (dL.o.trans h1);have aP:=ae (show aZ w5 b tv ts (p+1+1+1) ((deep+1:Nat):Int) 0 nv vs from(by rcases h2 with ⟨h2,_⟩|⟨_,_,h2⟩|⟨_,h2,_⟩;exact absurd rfl h2;exact h2;rw[Wh.o]at h2;cases h2));clear h1 h2)))
     rw[show((deep+1:Nat):Int)=(deep:Int)+1 from rfl]at aP;have jV:=ae (show(⟨{ Nd.zero with kind:=7,text:=name,kids:=[] },none⟩:az).n={ Nd.zero with kind:=7,text:=name,kids:=[] }from rfl);have mo:=ae (show(⟨{ Nd.zero with kind:=7,text:=name,kids:=[] },none⟩:az).aS = .slice none 0 0 from rfl);obtain⟨c0,c1,c2,c3,c4⟩:=aP.o.facts;have f2:=aP.o.frozen 2;clear c0 c1 c3 c4;have hd1 : -9223372036854775808≤(deep:Int)+1 - 1:=by omega
     have hd2:(deep:Int)+1 - 1≤9223372036854775807:=by omega
     go_upto_region 18 with (fail)
     have p9:=ae (aP.o.pK ((deep:Int)));have pX:=ae (aR.o.setCell 2 (.int .i64 ((deep:Int))));have pY:=ae (show Own (aK .i64) 3 (w5.setCell ⟨b,2,none⟩ (.int .i64 ((deep:Int)))) (b+1) (.slice none 0 0) []from(show Own (aK .i64) 3 w5 (b+1) (.slice none 0 0) []from Own.nil _ _ _ _).keep fun j hj _ _=>fO _ _ _ _ (by show j≠b;omega));generalize w5.setCell ⟨b,2,none⟩ (.int .i64 ((deep:Int)))=nA at p9 pX pY ⊢;clear c2 f2;have HA:=ae (show Calls Tryz.prog 57 #[.pointer (some ⟨b,0,none⟩),.agg #[.int .i64 7,.int .i64 0,.string name,.string ⟨#[]⟩,.int .i64 0,.int .i64 0,.bool false,.bool false,.string ⟨#[]⟩,.int .i64 0,.int .i64 0,.bool false,.bool false,(.slice none 0 0)]] nA _ from oL p9.o ⟨{ Nd.zero with kind:=7,text:=name,kids:=[] },none⟩ (by rw[mo.o,jV.o];exact pY.o) (by omega) _ mo.o { Nd.zero with kind:=7,text:=name,kids:=[] } jV.o);go_wp2_with (go_at_call 57;((with_reducible refine HA.o.mono ?_);rintro e w8 ⟨h1,rfl,yo,h3⟩;have l9:=ae (pX.o.trans h1);have lh:=ae h3;clear h1 h3))
     go_ret;refine⟨l9.o,.inr ⟨_,_,_,HR.o,rfl,p+1+1+1,yo,[⟨{ Nd.zero with kind:=7,text:=name,kids:=[] },none⟩],rfl,rfl, ?_,lh.o,by simp;omega⟩⟩;intro u hu g hg;rw[List.mem_singleton.1 hu]at hg;cases hg
   have hr:=tT.o;rw[hs,if_neg (by decide)]at hr;have gM:=ae hr;rw[hs]at HIS;clear hr hs tT;go_upto_region 12 with (go_at_call 56;((with_reducible refine HIS.o.mono ?_);rintro e w4 ⟨rfl,h1⟩;have dL:=ae (dD.o.below h1);have cO:=ae (aW.o.below h1);clear h1))
   clear c3
   go_loopw [5] (fun KD wr=>∃(aS:Value)(g:Nat)(ns:List Nd)(ks:List Int)(p':Nat)(aT:Value)(us:List az),aS=KD∧g≤f∧ks.length≤us.length∧us.length=ns.length∧vs.length+us.length≤p' ∧
    Hid (iC (gB g (deep+1) vs.length ns ks (ts.drop p')) (rZ vs.length name)=some res) ∧
    Hid (us.map az.n=ns)∧Hid (∀u∈us,∀j,u.aS.ownBlock=some j→w.heap.size≤j)∧Hid (∀u∈vs++us,∀j,u.aS.ownBlock=some j→aS.ownBlock≠some j) ∧
    Hid (Own (aK .i64) 3 wr w.heap.size aS ks)∧Hid (aZ wr b tv ts p' ((deep+1:Nat):Int) 0 aT (vs++us))∧Hid (Fr w wr b))
    (fun _ wr=>vW b ts.length wr)
   case atStart =>
    exact⟨.slice none 0 0,f,[],[],p+1+1,nv,[],rfl,ah _,ah _,rfl,by simp;omega,gM,ae rfl,ae (by simp),ae (by intro u _ j _ e;cases e),ae (Own.nil _ _ _ _),by rw[fM];exact cO,dL⟩
   case round =>
    clear HIS gM dD aW dL cO bI;obtain⟨aS,g,ns,ks,p',aT,us,rfl,hg,hkl,zO,hcn,HM,HU,HK,HJ,kM,iA,HF⟩:=hrel;have Z4:=iA.o.lt;have hlen:(vs++us).length=vs.length+us.length:=ak;have Eu:=ae (iA.o.vW ts.length);have NW:=ae HF.o.size;obtain⟨c0,c1,c2,c3,c4⟩:=iA.o.facts;clear c0 c1 c2 c4;have hA:=HM.o
    match g,hg,hA with
    | 0,_,hA=>unfold gB iC at hA;cases hA
    | g+1,hg,hA =>
    rw[oo,OD]at hA;have jk:vs.length+ns.length=(vs++us).length:=by rw[hlen,zO]
    rw[jk]at hA;rcases dP hA with ⟨c,h1,rfl⟩|⟨ms,a,r,h1,h2⟩
    · have HL:=ae (show Calls Tryz.prog 31 #[.pointer (some ⟨b,0,none⟩),.int .i64 0] wr (cz (0+6*(deep+1)) (.error c) wr b tv ts (deep+1) (vs++us))from qR.o g (by omega) 0 (deep+1) _ wr b tv ts p' aT (vs++us) (by omega) (by omega) iA.o (by omega) h1)
      clear h1 hA HM
      go_upto_region 14 with (first
       | (go_at_call 31;((with_reducible refine HL.o.mono ?_);intro e w5 ho;obtain⟨hf,hc,x,rfl,p5,d5,nP,dz,hk5,iD,De,hd5,PY⟩:=ho.bad rfl;have aR:=ae (HF.o.trans hf);have tL:=ae (kM.o.fr hf hbl (by decide));have HC:=ae hc;have aP:=ae iD;have kv:=ae hk5;have wG:=ae hf.size;clear hf hc ho iD hk5))
       | (at_builtin;refine BU jH.o (aK .i64) rfl (.tmp 45) (.tmp 48) rfl w.heap.size aS ks rfl (tL.o.alloc _) ⟨w5.heap.size,0,none⟩ 1 1 [x] rfl rfl ?_ ?_ ?_ ?_ ?_;exact gQ _ _ _ rfl;exact bF (Nat.mul_le_mul_left _ jK) (by omega);(unfold maxLen;omega);(have:=aR.o.size;simp;omega);intro qz w6 h1 h2 h3;have qX:=ae h1;have qQ:=ae h2;have HAT:=ae h3;clear h1 h2 h3))
      have gG:Below w5.heap.size w5 (w5.alloc (.cells #[.int .i64 x] 3)):=(ai _ _).alloc (ah _) _;have uC:=tL.o.alloc (.cells #[.int .i64 x] 3);have Kq:=aR.o.size
      have ve:=ae (show ∀u∈(vs++us)++dz,∀j,u.aS.ownBlock=some j→aS.ownBlock≠some j from by
       intro u hu j hj;rcases List.mem_append.1 hu with hu|hu
       · exact HJ.o u hu j hj
       · intro e
         have h3:=kv.o u hu j hj;have h4:=(kM.o.jX j e).2.1;omega)
      have dE:=ae ((aP.o.below gG).kids qQ.o (by
       intro j e;obtain⟨q1,q2,cur,q3⟩:=uC.jX j e;refine⟨by omega, ?_,fun u hu e2=>ve.o u hu j e2 e⟩;rintro⟨O3,fr,e2⟩;rw[q3]at e2;injection e2 with e2;injection e2 with _ e2;exact absurd e2 (by decide)))
      have dM:=ae ((aR.o.below gG).row qQ.o (by
       intro j e;obtain⟨q1,q2,cur,q3⟩:=uC.jX j e;exact⟨by omega,.inl q1⟩))
      have rf:=ae (xk dE.o ⟨#[44]⟩);rw[decide_eq_false (show ¬ c=0 by rcases HC.o with h|h <;> omega),Bool.false_and]at rf;have Jd:=ae (fun w7 (h1:Below w6.heap.size w6 w7)=>BL (dE.o.below h1) ⟨#[41]⟩);clear gG uC qQ HAT ve tL HF iA HL
      go_upto_region 17 with (first
       | (go_at_call 56;((with_reducible refine rf.o.mono ?_);rintro e w7 ⟨rfl,h1⟩;have bM:=ae (dM.o.below h1);have HW:=ae (Jd.o _ h1);have qY:=ae (qX.o.below h1 (ah _));clear h1))
       | (go_at_call 109;((with_reducible refine HW.o.mono ?_);rintro e iN ⟨rfl,h1,h2⟩;have xC:=ae (bM.o.trans h1);have rQ:=ae (qY.o.fr h1 hbl (by decide));have lQ:=ae (show aZ iN b tv ts p5 d5 c nP ((vs++us)++dz)from(by rcases h2 with ⟨_,h2⟩|⟨h2,_⟩|⟨h2,_⟩;exact h2;(exfalso;rcases HC.o with h|h <;> omega);(exfalso;rcases HC.o with h|h <;> omega)));clear h1 h2)))
      obtain ⟨v,qw,hvk⟩:∃v:az,v.n={ Nd.zero with kind:=7,text:=name,kids:=ks++[x] }∧v.aS=qz:=by
       rcases rQ.o.shape with ⟨rfl,h0⟩|⟨g1,cap,rfl,_⟩
       · exact absurd h0 (by simp)
       · exact⟨⟨_,some (g1,cap)⟩,rfl,rfl⟩
      have jV:=ae qw;have mo:=ae hvk;clear qw hvk;obtain⟨g1,eU,lv, -, -, -, -⟩:=Own.some rQ.o (by simp);obtain⟨n1,hn1⟩:∃n1,(ks++[x]).length=n1:=⟨_,rfl⟩;rw[hn1]at lv;subst lv
      have Fy:∀u∈us++(dz++[v]),∀j,u.aS.ownBlock=some j→w.heap.size≤j:=by
       intro u hu j hj;rcases List.mem_append.1 hu with hu|hu
       · exact HK.o u hu j hj
       · rcases List.mem_append.1 hu with hu|hu
         · exact bF NW.o (kv.o u hu j hj)
         · rw[List.mem_singleton.1 hu,mo.o]at hj
           exact(rQ.o.jX j hj).1
      have Es:=ae Fy;clear Fy hn1;obtain⟨c0,c1,c2,c3,c4⟩:=lQ.o.facts;have f2:=lQ.o.frozen 2;clear c0 c1 c3 c4;have hd1 : -9223372036854775808≤d5 - 1:=by omega
      have hd2:d5 - 1≤9223372036854775807:=by omega
      go_upto_region 18 with (fail)
      have p9:=ae (lQ.o.pK (d5 - 1));have pX:=ae (xC.o.setCell 2 (.int .i64 (d5 - 1)));have pY:=ae (show Own (aK .i64) 3 (iN.setCell ⟨b,2,none⟩ (.int .i64 (d5 - 1))) (b+1) (.slice (some ⟨g1,0,none⟩) n1 eU) (ks++[x])from(rQ.o.mono (show b+1≤w.heap.size by omega)).keep fun j hj _ _=>fO _ _ _ _ (by show j≠b;omega));generalize iN.setCell ⟨b,2,none⟩ (.int .i64 (d5 - 1))=nA at p9 pX pY ⊢;clear c2 f2;have HA:=ae (show Calls Tryz.prog 57 #[.pointer (some ⟨b,0,none⟩),.agg #[.int .i64 7,.int .i64 0,.string name,.string ⟨#[]⟩,.int .i64 0,.int .i64 0,.bool false,.bool false,.string ⟨#[]⟩,.int .i64 0,.int .i64 0,.bool false,.bool false,(.slice (some ⟨g1,0,none⟩) n1 eU)]] nA _ from oL p9.o v (by rw[mo.o,jV.o];exact pY.o) (by omega) _ mo.o { Nd.zero with kind:=7,text:=name,kids:=(ks++[x]) } jV.o);go_wp2_with (go_at_call 57;((with_reducible refine HA.o.mono ?_);rintro e w8 ⟨h1,rfl,yo,h3⟩;have l9:=ae (pX.o.trans h1);have lh:=ae h3;clear h1 h3))
      go_ret;refine cz.xZ (us:=us++(dz++[v])) rfl HC.o l9.o Es.o (by rw[← bG, ← bG];exact lh.o) (by simp only[ak,fK]at De ⊢;omega) (by omega)
    · have HL:=ae (show Calls Tryz.prog 31 #[.pointer (some ⟨b,0,none⟩),.int .i64 0] wr (cz (0+6*(deep+1)) (.ok (ms,a,r)) wr b tv ts (deep+1) (vs++us))from qR.o g (by omega) 0 (deep+1) _ wr b tv ts p' aT (vs++us) (by omega) (by omega) iA.o (by omega) h1)
      have H1:=ae h1;have H2:=ae h2;clear h1 h2 hA HM
      go_upto_region 14 with (first
       | (go_at_call 31;((with_reducible refine HL.o.mono ?_);intro e w5 ho;obtain⟨hf,rfl,p5,nP,dz,kU,kW,hk5,iD,De⟩:=ho.ry rfl;have aR:=ae (HF.o.trans hf);have tL:=ae (kM.o.fr hf hbl (by decide));have aP:=ae iD;have HD5:=ae kU;have ky:=ae kW;have kv:=ae hk5;clear hf ho iD hk5 kU kW))
       | (at_builtin;refine BU jH.o (aK .i64) rfl (.tmp 45) (.tmp 48) rfl w.heap.size aS ks rfl (tL.o.alloc _) ⟨w5.heap.size,0,none⟩ 1 1 [((a:Nat):Int)] rfl rfl ?_ ?_ ?_ ?_ ?_;exact gQ _ _ _ rfl;exact bF (Nat.mul_le_mul_left _ jK) (by omega);(unfold maxLen;omega);(have:=aR.o.size;simp;omega);intro qz w6 h1 h2 h3;have qX:=ae h1;have qQ:=ae h2;have HAT:=ae h3;clear h1 h2 h3))
      have gG:Below w5.heap.size w5 (w5.alloc (.cells #[.int .i64 ((a:Nat):Int)] 3)):=(ai _ _).alloc (ah _) _;have uC:=tL.o.alloc (.cells #[.int .i64 ((a:Nat):Int)] 3);have Kq:=aR.o.size;have FH:dz.length=ms.length:=by rw[← ky.o,fw]
      obtain⟨hc1,hc2,hc3⟩:=xY H1.o HD5.o aP.o.lt;have Fv:((vs++us)++dz).length=vs.length+us.length+dz.length:=by rw[ak,ak]
      have ve:=ae (show ∀u∈(vs++us)++dz,∀j,u.aS.ownBlock=some j→aS.ownBlock≠some j from by
       intro u hu j hj;rcases List.mem_append.1 hu with hu|hu
       · exact HJ.o u hu j hj
       · intro e
         have h3:=kv.o u hu j hj;have h4:=(kM.o.jX j e).2.1;omega)
      have dE:=ae ((aP.o.below gG).kids qQ.o (by
       intro j e;obtain⟨q1,q2,cur,q3⟩:=uC.jX j e;refine⟨by omega, ?_,fun u hu e2=>ve.o u hu j e2 e⟩;rintro⟨O3,fr,e2⟩;rw[q3]at e2;injection e2 with e2;injection e2 with _ e2;exact absurd e2 (by decide)))
      have dM:=ae ((aR.o.below gG).row qQ.o (by
       intro j e;obtain⟨q1,q2,cur,q3⟩:=uC.jX j e;exact⟨by omega,.inl q1⟩))
      have En:=ae (show ∀u∈(vs++us)++dz,∀j,u.aS.ownBlock=some j→qz.ownBlock≠some j from by
       intro u hu j hj;rcases HAT.o with e|e
       · rw[e];exact ve.o u hu j hj
       · rw[e]
         have h4:=((aP.o.nodes.2 u hu).jX j hj).2.1;intro e2;injection e2 with e2;simp at e2;omega)
      have CW:∀u∈us++dz,∀j,u.aS.ownBlock=some j→w.heap.size≤j:=by
       intro u hu j hj;rcases List.mem_append.1 hu with hu|hu
       · exact HK.o u hu j hj
       · exact bF NW.o (kv.o u hu j hj)
      have Cn:=ae CW;have rf:=ae (xk dE.o ⟨#[44]⟩);rw[decide_eq_true rfl,Bool.true_and]at rf;have h2:=H2.o;rw[← HD5.o]at h2;clear gG uC qQ HAT ve tL HF iA H2 HL CW;cases hs:au ⟨#[44]⟩ (ts.drop p5)
      rotate_left
      · rw [hs,if_pos rfl,List.tail_drop]at h2
        have HN:=ae h2;have Qh:=yD dE.o hs;rw[hs]at rf;clear h2 hs;go_upto_region 15 with (go_at_call 56;((with_reducible refine rf.o.mono ?_);rintro e w7 ⟨rfl,h1⟩;have bM:=ae (dM.o.below h1);have qY:=ae (qX.o.below h1 (ah _));have bB:=ae (dE.o.below h1);clear h1))
        obtain⟨c0,c1,c2,c3,c4⟩:=bB.o.facts;have f1:=bB.o.frozen 1;clear c0 c2 c3 c4;go_wp2_with fail
        have lh:=ae (bB.o.next Qh);have VJ:=ae (show Own (aK .i64) 3 (w7.setCell ⟨b,1,none⟩ (.int .i64 ((p5:Int)+1))) w.heap.size qz (ks++[((a:Nat):Int)])from qY.o.keep fun j hj _ _=>fO _ _ _ _ (by show j≠b;omega));have l9:=ae (bM.o.setCell 1 (.int .i64 ((p5:Int)+1)))
        go_roundw
        case rel =>
         refine⟨qz,g,ns++ms,ks++[((a:Nat):Int)],p5+1,nP,us++dz,rfl,by omega,by rw[ak,ak,fK];omega,by rw[ak,ak];omega,by rw[ak];omega,HN,ae (by rw[iy,HU.o,ky.o]),Cn, ?_,VJ, ?_,l9⟩
         · rw[← bG];exact En
         · rw[← bG];exact lh
        case measure =>
         have h1:=lh.o.vW ts.length;rw[Eu.o,h1];simp only[if_true];omega
      rw[hs,if_neg (by decide)]at h2;have HN:=ae (show rZ vs.length name (ns++ms) (ks++[((a:Nat):Int)]) (ts.drop p5)=some res from h2);rw[hs]at rf;clear h2 hs;have Jd:=ae (fun w7 (h1:Below w6.heap.size w6 w7)=>BL (dE.o.below h1) ⟨#[41]⟩)
      go_upto_region 17 with (first
       | (go_at_call 56;((with_reducible refine rf.o.mono ?_);rintro e w7 ⟨rfl,h1⟩;have bM:=ae (dM.o.below h1);have HW:=ae (Jd.o _ h1);have qY:=ae (qX.o.below h1 (ah _));clear h1))
       | (go_at_call 109;((with_reducible refine HW.o.mono ?_);rintro e iN ⟨rfl,h1,h2⟩;have xC:=ae (bM.o.trans h1);have rQ:=ae (qY.o.fr h1 hbl (by decide));have Jc:=ae h2;clear h1 h2)))
      obtain ⟨v,qw,hvk⟩:∃v:az,v.n={ Nd.zero with kind:=7,text:=name,kids:=ks++[((a:Nat):Int)] }∧v.aS=qz:=by
       rcases rQ.o.shape with ⟨rfl,h0⟩|⟨g1,cap,rfl,_⟩
       · exact absurd h0 (by simp)
       · exact⟨⟨_,some (g1,cap)⟩,rfl,rfl⟩
      have jV:=ae qw;have mo:=ae hvk;clear qw hvk;obtain⟨g1,eU,lv, -, -, -, -⟩:=Own.some rQ.o (by simp);obtain⟨n1,hn1⟩:∃n1,(ks++[((a:Nat):Int)]).length=n1:=⟨_,rfl⟩;rw[hn1]at lv;subst lv
      have Es:=ae (show ∀u∈us++(dz++[v]),∀j,u.aS.ownBlock=some j→w.heap.size≤j from by
       intro u hu j hj;rw[← bG]at hu;rcases List.mem_append.1 hu with hu|hu
       · exact Cn.o u hu j hj
       · rw[List.mem_singleton.1 hu,mo.o]at hj
         exact(rQ.o.jX j hj).1)
      clear hn1;have hN:=HN.o;unfold rZ at hN;have aah:=aP.o.lt;rw[show((deep+1:Nat):Int)=(deep:Int)+1 from rfl]at Jc;cases hs:au ⟨#[41]⟩ (ts.drop p5)
      · rw[hs,if_neg (by decide)]at hN
        injection hN with hN;have HR:=ae hN.symm;have lQ:=ae (show aZ iN b tv ts p5 ((deep:Int)+1) 5 nP ((vs++us)++dz)from(by rcases Jc.o with ⟨h2,_⟩|⟨_,h2,_⟩|⟨_,_,h2⟩;exact absurd rfl h2;(rw[hs]at h2;cases h2);exact h2));clear hN hs;obtain⟨c0,c1,c2,c3,c4⟩:=lQ.o.facts;have f2:=lQ.o.frozen 2;clear c0 c1 c3 c4;have hd1 : -9223372036854775808≤(deep:Int)+1 - 1:=by omega
        have hd2:(deep:Int)+1 - 1≤9223372036854775807:=by omega
        go_upto_region 18 with (fail)
        have p9:=ae (lQ.o.pK ((deep:Int)));have pX:=ae (xC.o.setCell 2 (.int .i64 ((deep:Int))));have pY:=ae (show Own (aK .i64) 3 (iN.setCell ⟨b,2,none⟩ (.int .i64 ((deep:Int)))) (b+1) (.slice (some ⟨g1,0,none⟩) n1 eU) (ks++[((a:Nat):Int)])from(rQ.o.mono (show b+1≤w.heap.size by omega)).keep fun j hj _ _=>fO _ _ _ _ (by show j≠b;omega));generalize iN.setCell ⟨b,2,none⟩ (.int .i64 ((deep:Int)))=nA at p9 pX pY ⊢;clear c2 f2;have HA:=ae (show Calls Tryz.prog 57 #[.pointer (some ⟨b,0,none⟩),.agg #[.int .i64 7,.int .i64 0,.string name,.string ⟨#[]⟩,.int .i64 0,.int .i64 0,.bool false,.bool false,.string ⟨#[]⟩,.int .i64 0,.int .i64 0,.bool false,.bool false,(.slice (some ⟨g1,0,none⟩) n1 eU)]] nA _ from oL p9.o v (by rw[mo.o,jV.o];exact pY.o) (by omega) _ mo.o { Nd.zero with kind:=7,text:=name,kids:=(ks++[((a:Nat):Int)]) } jV.o);go_wp2_with (go_at_call 57;((with_reducible refine HA.o.mono ?_);rintro e w8 ⟨h1,rfl,yo,h3⟩;have l9:=ae (pX.o.trans h1);have lh:=ae h3;clear h1 h3))
        go_ret;exact cz.xZ (us:=us++(dz++[v])) HR.o (.inl rfl) l9.o Es.o (by rw[← bG, ← bG];exact lh.o) (by simp only[ak,fK];omega) (by omega)
      rw[hs,if_pos rfl,List.tail_drop]at hN;injection hN with hN;have HR:=ae hN.symm;have lQ:=ae (show aZ iN b tv ts (p5+1) ((deep:Int)+1) 0 nP ((vs++us)++dz)from(by rcases Jc.o with ⟨h2,_⟩|⟨_,_,h2⟩|⟨_,h2,_⟩;exact absurd rfl h2;exact h2;(rw[hs]at h2;cases h2)));clear hN hs;obtain⟨c0,c1,c2,c3,c4⟩:=lQ.o.facts;have f2:=lQ.o.frozen 2;clear c0 c1 c3 c4;have hd1 : -9223372036854775808≤(deep:Int)+1 - 1:=by omega
      have hd2:(deep:Int)+1 - 1≤9223372036854775807:=by omega
      go_upto_region 18 with (fail)
      have p9:=ae (lQ.o.pK ((deep:Int)));have pX:=ae (xC.o.setCell 2 (.int .i64 ((deep:Int))));have pY:=ae (show Own (aK .i64) 3 (iN.setCell ⟨b,2,none⟩ (.int .i64 ((deep:Int)))) (b+1) (.slice (some ⟨g1,0,none⟩) n1 eU) (ks++[((a:Nat):Int)])from(rQ.o.mono (show b+1≤w.heap.size by omega)).keep fun j hj _ _=>fO _ _ _ _ (by show j≠b;omega));generalize iN.setCell ⟨b,2,none⟩ (.int .i64 ((deep:Int)))=nA at p9 pX pY ⊢;clear c2 f2;have HA:=ae (show Calls Tryz.prog 57 #[.pointer (some ⟨b,0,none⟩),.agg #[.int .i64 7,.int .i64 0,.string name,.string ⟨#[]⟩,.int .i64 0,.int .i64 0,.bool false,.bool false,.string ⟨#[]⟩,.int .i64 0,.int .i64 0,.bool false,.bool false,(.slice (some ⟨g1,0,none⟩) n1 eU)]] nA _ from oL p9.o v (by rw[mo.o,jV.o];exact pY.o) (by omega) _ mo.o { Nd.zero with kind:=7,text:=name,kids:=(ks++[((a:Nat):Int)]) } jV.o);go_wp2_with (go_at_call 57;((with_reducible refine HA.o.mono ?_);rintro e w8 ⟨h1,rfl,yo,h3⟩;have l9:=ae (pX.o.trans h1);have lh:=ae h3;clear h1 h3))
      go_ret;refine⟨l9.o,.inr ⟨_,_,_,HR.o,LM (by simp only[ak];omega),p5+1,yo,us++(dz++[v]),rfl, ?_,Es.o,by rw[← bG, ← bG];exact lh.o,by simp only[ak,fK];omega⟩⟩;rw[iy,iy,HU.o,ky.o,jr,List.map_nil,jV.o,bG]
theorem ae7 (f:Nat)(IH:∀g,g≤f→CG g){w:World}{b:Nat}{tv:Value}{ts:List ag}{p deep:Nat}{nv:Value}{vs:List az}(h:aZ w b tv ts p (deep:Int) 0 nv vs)(sH:vs.length≤p)(ng:deep≤12)(res:dR)(aj:iU (f+1) deep vs.length (ts.drop p)=some res) :
 Calls Tryz.prog 82 #[.pointer (some ⟨b,0,none⟩)] w (cz (5+6*deep) res w b tv ts deep vs):=by
 have jZ:=h.few;have hlt:=h.lt;have hbl:=h.blt;have hcs:vs.length+(5+6*deep)≤ts.length+100:=by omega
 have HP:=ae h;obtain⟨c0,c1,c2,c3,c4⟩:=h.facts;obtain⟨g,cap,t,rfl,ht,hd,hg,k0,k1,k2,k3,k4,k5,k6,k7,k8⟩:=h.tok;rw[hd,kZ]at aj;have HD:=ae hd;have Qi:t.kind≠0→p+1<ts.length:=fun hk=>h.fit.next ht hk
 have kS:Below w.heap.size w (w.alloc (.cells jF 71)):=(ai _ _).alloc (ah _) _;obtain⟨a0,a1, -, -, -⟩:=(h.below kS).facts;have hgb:g<w.heap.size:=by omega
 have j0:=(kS.cell (p:=⟨g,p*9,none⟩) hgb).trans k0;have j1:=(kS.cell (p:=⟨g,p*9+1,none⟩) hgb).trans k1;have j2:=(kS.cell (p:=⟨g,p*9+2,none⟩) hgb).trans k2;have zR:=(kS.cell (p:=⟨g,p*9+3,none⟩) hgb).trans k3;have FQ:=(kS.cell (p:=⟨g,p*9+4,none⟩) hgb).trans k4;have FR:=(kS.cell (p:=⟨g,p*9+5,none⟩) hgb).trans k5;have FT:=(kS.cell (p:=⟨g,p*9+6,none⟩) hgb).trans k6;have j7:=(kS.cell (p:=⟨g,p*9+7,none⟩) hgb).trans k7;have j8:=(kS.cell (p:=⟨g,p*9+8,none⟩) hgb).trans k8;have aM:=aC.zero w;obtain⟨x0,x1,x2,x3,x4,x5,x6,x7,av⟩:=aM.cells;obtain⟨f0,f1,f2,f3,f4,f5,f6,f7,f8⟩:=aM.bH;have hi1:(0:Int)≤(p:Int):=by omega
 have hi2:(p:Int)<(ts.length:Int):=by omega
 have tT:=ae aj;have dG:=ae Qi;clear aM kS c2 c4 aj Qi hd ht h;go_enter Tryz.func82,Tryz.ntmps82;go_upto_region 3 with (fail)
 go_region
 have hB:Below w.heap.size w (w.alloc (.cells #[.int .i64 t.kind,.string t.text,.int .i64 t.num,.string t.sh,.int .i64 t.c,.int .i64 t.r,.bool t.ac,.bool t.ar,.int .i64 t.pos] 71)).drew:=((ai _ _).alloc (ah _) _).drew;have aB:=ae (show aC (w.alloc (.cells #[.int .i64 t.kind,.string t.text,.int .i64 t.num,.string t.sh,.int .i64 t.c,.int .i64 t.r,.bool t.ac,.bool t.ar,.int .i64 t.pos] 71)).drew w.heap.size t from(aC.new w t).drew);have dD:=ae (Fr.of b hB);have aW:=ae (HP.o.below hB);clear hB c0 c1 c3 a0 a1 j0 j1 j2 zR FQ FR FT j7 j8 k0 k1 k2 k3 k4 k5 k6 k7 k8 x0 x1 x2 x3 x4 x5 x6 x7 av f0 f1 f2 f3 f4 f5 f6 f7 f8 hgb hg HP;generalize hb3:w.heap.size=b3 at aB ⊢;generalize (w.alloc (.cells #[.int .i64 t.kind,.string t.text,.int .i64 t.num,.string t.sh,.int .i64 t.c,.int .i64 t.r,.bool t.ac,.bool t.ar,.int .i64 t.pos] 71)).drew=w3 at aB dD aW ⊢;clear hb3;have HS:=ae (xk aW.o ⟨#[40]⟩);rw[decide_eq_true rfl,Bool.true_and]at HS;have aj:=tT.o;clear tT;cases hs:au ⟨#[40]⟩ (ts.drop p)
 rotate_left
 · have hnx:=yD aW.o hs
   have hs2:au ⟨#[40]⟩ (t :: ts.drop (p+1))=true:=by rw[← HD.o];exact hs
   rw[if_pos hs2]at aj;rw[hs]at HS;clear hs hs2;by_cases hdp:12≤deep
   · rw [if_pos hdp]at aj
     injection aj with aj;have HR:=ae aj.symm;clear aj
     go_wp2_with (first
      | (go_at_call 56;((with_reducible refine HS.o.mono ?_);rintro e w4 ⟨rfl,h1⟩;have dL:=ae (dD.o.below h1);have HO:=ae (Ah (aW.o.below h1) ng hnx);clear h1))
      | (go_at_call 83;((with_reducible refine HO.o.mono ?_);rintro e w5 ⟨rfl,h1,h2⟩;rcases h2 with ⟨-,h2⟩|⟨h2, -⟩;rotate_left;exact absurd hdp h2;have aR:=ae (dL.o.trans h1);have aP:=ae h2;obtain⟨c0,c1,c2,c3,c4⟩:=h2.facts;clear c0 c1 c2 c4 h1 h2)))
     go_ret;exact cz.err HR.o (.inr rfl) aR.o aP.o hcs (by omega)
   · rw [if_neg hdp]at aj
     have C9:deep+1≤12:=by omega
     rcases dP aj with ⟨c,h1,rfl⟩|⟨ns,a,r,h1,h2⟩
     · have HI:=ae (fun w2 hps=>IH f (ah _) 0 (deep+1) _ w2 b (.slice (some ⟨g,0,none⟩) ts.length cap) ts (p+1) nv vs (by omega) C9 hps (by omega) h1)
       clear aj IH h1
       go_upto_region 10 with (first
        | (go_at_call 56;((with_reducible refine HS.o.mono ?_);rintro e w4 ⟨rfl,h1⟩;have dL:=ae (dD.o.below h1);have HO:=ae (Ah (aW.o.below h1) ng hnx);clear h1))
        | (go_at_call 83;((with_reducible refine HO.o.mono ?_);rintro e w5 ⟨rfl,h1,h2⟩;rcases h2 with ⟨h2, -⟩|⟨-,h2⟩;exact absurd h2 hdp;have aR:=ae (dL.o.trans h1);have aP:=ae h2;obtain⟨c0,c1,c2,c3,c4⟩:=h2.facts;have HL:=ae (show Calls Tryz.prog 31 #[.pointer (some ⟨b,0,none⟩),.int .i64 0] w5 (cz (0+6*(deep+1)) (.error c) w5 b (.slice (some ⟨g,0,none⟩) ts.length cap) ts (deep+1) vs)from HI.o w5 h2);clear c0 c1 c2 c4 h1 h2))
        | (go_at_call 31;((with_reducible refine HL.o.mono ?_);intro e w6 ho;obtain⟨hf,hc,x,rfl,p6,d6,zY,tH,oD,rA,Df,hd6,Zz⟩:=ho.bad rfl;have dM:=ae (aR.o.trans hf);have HC:=ae hc;have dE:=ae rA;have wG:=ae aR.o.size;have rP:=ae oD;have za:=ae (BL rA ⟨#[41]⟩);clear hf hc ho rA oD))
        | (go_at_call 109;((with_reducible refine za.o.mono ?_);rintro e w7 ⟨rfl,h1,h2⟩;have bM:=ae (dM.o.trans h1);have bB:=ae (show aZ w7 b (.slice (some ⟨g,0,none⟩) ts.length cap) ts p6 d6 c zY (vs++tH)from(by rcases h2 with ⟨_,h2⟩|⟨h2,_⟩|⟨h2,_⟩;exact h2;(exfalso;rcases HC.o with h|h <;> omega);(exfalso;rcases HC.o with h|h <;> omega)));clear h1 h2)))
       clear c3;obtain⟨c0,c1,c2,c3,c4⟩:=bB.o.facts;have f2:=bB.o.frozen 2;clear c0 c1 c3 c4;have hd1 : -9223372036854775808≤d6 - 1:=by omega
       have hd2:d6 - 1≤9223372036854775807:=by omega
       go_wp2_with fail
       go_ret;exact cz.xZ (us:=tH) rfl HC.o (bM.o.setCell _ _) (fun u hu j hj=>bF wG.o (rP.o u hu j hj)) (bB.o.pK (d6 - 1)) (by omega) (by omega)
     · have HI:=ae (fun w2 hps=>IH f (ah _) 0 (deep+1) _ w2 b (.slice (some ⟨g,0,none⟩) ts.length cap) ts (p+1) nv vs (by omega) C9 hps (by omega) h1)
       have H2:=ae h2;clear aj IH h1 h2
       go_upto_region 10 with (first
        | (go_at_call 56;((with_reducible refine HS.o.mono ?_);rintro e w4 ⟨rfl,h1⟩;have dL:=ae (dD.o.below h1);have HO:=ae (Ah (aW.o.below h1) ng hnx);clear h1))
        | (go_at_call 83;((with_reducible refine HO.o.mono ?_);rintro e w5 ⟨rfl,h1,h2⟩;rcases h2 with ⟨h2, -⟩|⟨-,h2⟩;exact absurd h2 hdp;have aR:=ae (dL.o.trans h1);have aP:=ae h2;obtain⟨c0,c1,c2,c3,c4⟩:=h2.facts;have HL:=ae (show Calls Tryz.prog 31 #[.pointer (some ⟨b,0,none⟩),.int .i64 0] w5 (cz (0+6*(deep+1)) (.ok (ns,a,r)) w5 b (.slice (some ⟨g,0,none⟩) ts.length cap) ts (deep+1) vs)from HI.o w5 h2);clear c0 c1 c2 c4 h1 h2))
        | (go_at_call 31;((with_reducible refine HL.o.mono ?_);intro e w6 ho;obtain⟨hf,rfl,p6,zY,tH,Bi,Dm,oD,rA,Df⟩:=ho.ry rfl;have dM:=ae (aR.o.trans hf);have dE:=ae rA;have wG:=ae aR.o.size;have HD6:=ae Bi;have Ez:=ae Dm;have rP:=ae oD;have za:=ae (BL rA ⟨#[41]⟩);clear hf ho rA oD Bi Dm))
        | (go_at_call 109;((with_reducible refine za.o.mono ?_);rintro e w7 ⟨rfl,h1,h2⟩;have bM:=ae (dM.o.trans h1);have Jb:=ae h2;clear h1 h2)))
       clear c3;have h2:=H2.o;rw[← HD6.o]at h2;have Qm:=dE.o.lt;rw[show((deep+1:Nat):Int)=(deep:Int)+1 from rfl]at Jb;cases hs:au ⟨#[41]⟩ (ts.drop p6)
       · rw[hs,if_neg (by decide)]at h2
         injection h2 with h2;have HR:=ae h2.symm;have bB:=ae (show aZ w7 b (.slice (some ⟨g,0,none⟩) ts.length cap) ts p6 ((deep:Int)+1) 5 zY (vs++tH)from(by rcases Jb.o with ⟨h2,_⟩|⟨_,h2,_⟩|⟨_,_,h2⟩;exact absurd rfl h2;(rw[hs]at h2;cases h2);exact h2));clear h2 hs;obtain⟨c0,c1,c2,c3,c4⟩:=bB.o.facts;have f2:=bB.o.frozen 2;clear c0 c1 c3 c4;go_wp2_with fail
         go_ret;exact cz.xZ (us:=tH) HR.o (.inl rfl) (bM.o.setCell _ _) (fun u hu j hj=>bF wG.o (rP.o u hu j hj)) (bB.o.pK (deep:Int)) (by omega) (by omega)
       · rw[hs,if_pos rfl,List.tail_drop]at h2
         injection h2 with h2;have HR:=ae h2.symm;have bB:=ae (show aZ w7 b (.slice (some ⟨g,0,none⟩) ts.length cap) ts (p6+1) ((deep:Int)+1) 0 zY (vs++tH)from(by rcases Jb.o with ⟨h2,_⟩|⟨_,_,h2⟩|⟨_,h2,_⟩;exact absurd rfl h2;exact h2;(rw[hs]at h2;cases h2)));clear h2 hs;obtain⟨c0,c1,c2,c3,c4⟩:=bB.o.facts;have f2:=bB.o.frozen 2;clear c0 c1 c3 c4;go_wp2_with fail
         go_ret;exact⟨bM.o.setCell _ _,.inr ⟨_,_,_,HR.o,rfl,p6+1,zY,tH,rfl,Ez.o,fun u hu j hj=>bF wG.o (rP.o u hu j hj),bB.o.pK (deep:Int),by omega⟩⟩
 have hs2:¬ au ⟨#[40]⟩ (t :: ts.drop (p+1))=true:=by rw[← HD.o,hs];decide
 rw[if_neg hs2]at aj;rw[hs]at HS;clear hs hs2;go_upto_region 12 with (go_at_call 56;((with_reducible refine HS.o.mono ?_);rintro e w4 ⟨rfl,h1⟩;have dL:=ae (dD.o.below h1);have cO:=ae (aW.o.below h1);have yY:=ae (aB.o.below h1 aB.o.lt);clear h1))
 clear HS dD aW aB;obtain⟨x0,x1,x2,x3,x4,x5,x6,x7,av⟩:=yY.o.cells
 have qW:=ae (show b3≠b from by
  intro e;have h1:=yY.o;unfold aC at h1;rw[e,cO.o.cell]at h1;injection h1 with h1;injection h1 with _ h1;exact absurd h1 (by decide))
 obtain⟨kd,hkd⟩:∃kd,t.kind=kd:=⟨_,rfl⟩;rw[hkd]at x0;by_cases k1:t.kind=1
 · have hnx:=dG.o (by omega)
   rw[if_pos k1]at aj;injection aj with aj;have HR:=ae aj.symm;have e1:(kd == 1)=true:=beq_iff_eq.2 (by omega);obtain⟨c0,c1,c2,c3,c4⟩:=cO.o.facts;have f1:=cO.o.frozen 1;clear aj k1 hkd IH c0 c2 c3 c4;go_upto_region 14 with (fail)
   have aP:=ae (cO.o.next hnx);have fP:=ae (show aC (w4.setCell ⟨b,1,none⟩ (.int .i64 ((p:Int)+1))) b3 t from by unfold aC;rw[fO _ _ _ _ (by exact qW.o)];exact yY.o);have aR:=ae (dL.o.setCell 1 (.int .i64 ((p:Int)+1)));clear c1 f1 x0 x1 x2 x3 x4 x5 x6 x7 av;generalize w4.setCell ⟨b,1,none⟩ (.int .i64 ((p:Int)+1))=w5 at aP fP aR ⊢;obtain⟨x0,x1,x2,x3,x4,x5,x6,x7,av⟩:=fP.o.cells;have HA:=ae (show Calls Tryz.prog 57 #[.pointer (some ⟨b,0,none⟩),.agg #[.int .i64 1,.int .i64 t.num,.string ⟨#[]⟩,.string ⟨#[]⟩,.int .i64 0,.int .i64 0,.bool false,.bool false,.string ⟨#[]⟩,.int .i64 0,.int .i64 0,.bool false,.bool false,.slice none 0 0]] w5 _ from oL aP.o (az.leaf { Nd.zero with kind:=1,num:=t.num }) (wY _ _ _ rfl) (by omega) (.slice none 0 0) rfl { Nd.zero with kind:=1,num:=t.num } rfl);go_wp2_with (go_at_call 57;((with_reducible refine HA.o.mono ?_);rintro e w7 ⟨h1,rfl,aT,h3⟩;have bM:=ae (aR.o.trans h1);have bB:=ae h3;clear h1 h3))
   go_ret;exact cz.leaf HR.o bM.o rfl bB.o (by omega)
 have e1:(kd == 1)=false:=beq_eq_false_iff_ne.2 (by omega);by_cases k2:t.kind=2
 · have hnx:=dG.o (by omega)
   rw[if_neg k1,if_pos k2]at aj;injection aj with aj;have HR:=ae aj.symm;have e2:(kd == 2)=true:=beq_iff_eq.2 (by omega);obtain⟨c0,c1,c2,c3,c4⟩:=cO.o.facts;have f1:=cO.o.frozen 1;clear aj k1 k2 hkd IH c0 c2 c3 c4;go_upto_region 17 with (fail)
   have aP:=ae (cO.o.next hnx);have fP:=ae (show aC (w4.setCell ⟨b,1,none⟩ (.int .i64 ((p:Int)+1))) b3 t from by unfold aC;rw[fO _ _ _ _ (by exact qW.o)];exact yY.o);have aR:=ae (dL.o.setCell 1 (.int .i64 ((p:Int)+1)));clear c1 f1 x0 x1 x2 x3 x4 x5 x6 x7 av;generalize w4.setCell ⟨b,1,none⟩ (.int .i64 ((p:Int)+1))=w5 at aP fP aR ⊢;obtain⟨x0,x1,x2,x3,x4,x5,x6,x7,av⟩:=fP.o.cells;have HA:=ae (show Calls Tryz.prog 57 #[.pointer (some ⟨b,0,none⟩),.agg #[.int .i64 2,.int .i64 0,.string t.text,.string ⟨#[]⟩,.int .i64 0,.int .i64 0,.bool false,.bool false,.string ⟨#[]⟩,.int .i64 0,.int .i64 0,.bool false,.bool false,.slice none 0 0]] w5 _ from oL aP.o (az.leaf { Nd.zero with kind:=2,text:=t.text }) (wY _ _ _ rfl) (by omega) (.slice none 0 0) rfl { Nd.zero with kind:=2,text:=t.text } rfl);go_wp2_with (go_at_call 57;((with_reducible refine HA.o.mono ?_);rintro e w7 ⟨h1,rfl,aT,h3⟩;have bM:=ae (aR.o.trans h1);have bB:=ae h3;clear h1 h3))
   go_ret;exact cz.leaf HR.o bM.o rfl bB.o (by omega)
 have e2:(kd == 2)=false:=beq_eq_false_iff_ne.2 (by omega);by_cases k6:t.kind=6
 · have hnx:=dG.o (by omega)
   rw[if_neg k1,if_neg k2,if_pos k6]at aj;injection aj with aj;have HR:=ae aj.symm;have e6:(kd == 6)=true:=beq_iff_eq.2 (by omega);obtain⟨c0,c1,c2,c3,c4⟩:=cO.o.facts;have f1:=cO.o.frozen 1;clear aj k1 k2 k6 hkd IH c0 c2 c3 c4;go_upto_region 20 with (fail)
   have aP:=ae (cO.o.next hnx);have fP:=ae (show aC (w4.setCell ⟨b,1,none⟩ (.int .i64 ((p:Int)+1))) b3 t from by unfold aC;rw[fO _ _ _ _ (by exact qW.o)];exact yY.o);have aR:=ae (dL.o.setCell 1 (.int .i64 ((p:Int)+1)));clear c1 f1 x0 x1 x2 x3 x4 x5 x6 x7 av;generalize w4.setCell ⟨b,1,none⟩ (.int .i64 ((p:Int)+1))=w5 at aP fP aR ⊢;obtain⟨x0,x1,x2,x3,x4,x5,x6,x7,av⟩:=fP.o.cells;have HA:=ae (show Calls Tryz.prog 57 #[.pointer (some ⟨b,0,none⟩),.agg #[.int .i64 4,.int .i64 0,.string ⟨#[]⟩,.string ⟨#[]⟩,.int .i64 0,.int .i64 0,.bool false,.bool false,.string ⟨#[]⟩,.int .i64 0,.int .i64 0,.bool false,.bool false,.slice none 0 0]] w5 _ from oL aP.o (az.leaf { Nd.zero with kind:=4 }) (wY _ _ _ rfl) (by omega) (.slice none 0 0) rfl { Nd.zero with kind:=4 } rfl);go_wp2_with (go_at_call 57;((with_reducible refine HA.o.mono ?_);rintro e w7 ⟨h1,rfl,aT,h3⟩;have bM:=ae (aR.o.trans h1);have bB:=ae h3;clear h1 h3))
   go_ret;exact cz.leaf HR.o bM.o rfl bB.o (by omega)
 have e6:(kd == 6)=false:=beq_eq_false_iff_ne.2 (by omega);by_cases k4:t.kind=4
 · have hnx:=dG.o (by omega)
   rw[if_neg k1,if_neg k2,if_neg k6,if_pos k4]at aj;injection aj with aj;have HA:=ae (ae8 cO.o sH ng t hnx);rw[aj]at HA;have e4:(kd == 4)=true:=beq_iff_eq.2 (by omega);clear aj k1 k2 k6 k4 hkd;go_wp2_with (go_at_call 110;((with_reducible refine HA.o.mono ?_);intro e w7 ho;have nI:=ae (cz.from dL.o ho);obtain⟨c,rfl⟩:=ho.ret;clear ho))
   go_ret;exact nI.o
 have e4:(kd == 4)=false:=beq_eq_false_iff_ne.2 (by omega);by_cases k3:t.kind=3
 · have hnx:=dG.o (by omega)
   rw[if_neg k1,if_neg k2,if_neg k6,if_neg k4,if_pos k3]at aj;have HA:=ae (aeZ f IH t.text cO.o sH ng hnx res aj);have e3:(kd == 3)=true:=beq_iff_eq.2 (by omega);clear aj k1 k2 k6 k4 k3 hkd IH;go_wp2_with (go_at_call 111;((with_reducible refine HA.o.mono ?_);intro e w7 ho;have nI:=ae (cz.from dL.o ho);obtain⟨c,rfl⟩:=ho.ret;clear ho))
   go_ret;exact nI.o
 have e3:(kd == 3)=false:=beq_eq_false_iff_ne.2 (by omega);rw[if_neg k1,if_neg k2,if_neg k6,if_neg k4,if_neg k3]at aj;injection aj with aj;have HR:=ae aj.symm;have rO:=ae (Af cO.o 5);clear aj k1 k2 k6 k4 k3 hkd IH;go_wp2_with (go_at_call 32;((with_reducible refine rO.o.mono ?_);rintro e w7 ⟨rfl,h1,h2⟩;have bM:=ae (dL.o.trans h1);have bB:=ae h2;clear h1 h2))
 go_ret;exact cz.err HR.o (.inl rfl) bM.o (aZ.K9 bB.o) hcs (by omega)
theorem cz.less {sl sl':Nat}{res:dR}{w w':World}{b:Nat}{tv:Value}{ts:List ag}{deep:Nat}{vs:List az}{e:Ending}(h:cz sl res w b tv ts deep vs e w')(hs:sl'≤sl):cz sl' res w b tv ts deep vs e w':=by
 refine⟨h.1,h.2.imp ?_ id⟩;rintro⟨c,g1,g2,g3,p',d,aT,us,g4,g5,g6,g7,g8⟩;exact⟨c,g1,g2,g3,p',d,aT,us,g4,g5,by omega,by omega,g8⟩
def Jp (f:Nat):Prop:=∀(deep:Nat)(res:dR)(w:World)(b:Nat)(tv:Value)(ts:List ag)(p:Nat)(nv:Value)(vs:List az),deep≤12→aZ w b tv ts p (deep:Int) 0 nv vs→vs.length≤p→dX f 4 deep vs.length (ts.drop p)=some res →
 Calls Tryz.prog 54 #[.pointer (some ⟨b,0,none⟩)] w (cz (4+6*deep) res w b tv ts deep vs)
theorem aff (f:Nat)(IH:∀g,g≤f→CG g)(AV:∀g,g≤f→Jp g){w:World}{b:Nat}{tv:Value}{ts:List ag}{p deep:Nat}{nv:Value}{vs:List az}(h:aZ w b tv ts p (deep:Int) 0 nv vs)(sH:vs.length≤p)(ng:deep≤12)(res:dR)(aj:dX (f+1) 4 deep vs.length (ts.drop p)=some res) :
 Calls Tryz.prog 54 #[.pointer (some ⟨b,0,none⟩)] w (cz (4+6*deep) res w b tv ts deep vs):=by
 have HS:=ae (xk h ⟨#[45]⟩);rw[decide_eq_true rfl,Bool.true_and]at HS;rw[kR,if_neg (by omega)]at aj;have jZ:=h.few;have hlt:=h.lt;have hbl:=h.blt;have hcs:vs.length+(4+6*deep)≤ts.length+100:=by omega
 have HP:=ae h;cases hq:au ⟨#[45]⟩ (ts.drop p)
 · rw [hq,if_neg (by decide)]at aj
   rw[hq]at HS
   match f,IH,aj with
   | 0,_,aj=>unfold iU at aj;cases aj
   | f+1,IH,aj =>
   have HL:=ae (fun w1 (hb:Below w.heap.size w w1)=>(ae7 f (fun g hg=>IH g (by omega)) (HP.o.below hb) sH ng res aj).mono fun e w3 ho=>(cz.from (Fr.of b hb) ho).less (show 4+6*deep≤5+6*deep by omega));clear hq aj h IH AV;go_enter Tryz.func54,Tryz.ntmps54
   go_wp2_with (first
    | (go_at_call 56;((with_reducible refine HS.o.mono ?_);rintro e w1 ⟨rfl,h1⟩;have xG:=ae (HL.o w1 h1);clear h1))
    | (go_at_call 82;((with_reducible refine xG.o.mono ?_);intro e w7 ho;have nI:=ae ho;obtain⟨c,rfl⟩:=ho.ret;clear ho)))
   go_ret;exact nI.o
 · have hnx:=yD h hq
   rw[hq,if_pos rfl]at aj;rw[hq]at HS;by_cases hd:12≤deep
   · rw [if_pos hd]at aj
     injection aj with aj;have HR:=ae aj.symm;clear hq aj h IH AV;go_enter Tryz.func54,Tryz.ntmps54
     go_wp2_with (first
      | (go_at_call 56;((with_reducible refine HS.o.mono ?_);rintro e w4 ⟨rfl,h1⟩;have dL:=ae (Fr.of b h1);have HO:=ae (Ah (HP.o.below h1) ng hnx);clear h1))
      | (go_at_call 83;((with_reducible refine HO.o.mono ?_);rintro e w5 ⟨rfl,h1,h2⟩;rcases h2 with ⟨-,h2⟩|⟨h2, -⟩;rotate_left;exact absurd hd h2;have aR:=ae (dL.o.trans h1);have aP:=ae h2;obtain⟨c0,c1,c2,c3,c4⟩:=h2.facts;clear c0 c1 c2 c4 h1 h2)))
     go_ret;exact cz.err HR.o (.inr rfl) aR.o aP.o hcs (by omega)
   · rw [if_neg hd,List.tail_drop]at aj
     have C9:deep+1≤12:=by omega
     rcases dP aj with ⟨c,h1,rfl⟩|⟨ns,a,r,h1,h2⟩
     · have HI:=ae (fun w2 hps=>AV f (ah _) (deep+1) _ w2 b tv ts (p+1) nv vs C9 hps (by omega) h1)
       clear hq aj h IH AV h1;go_enter Tryz.func54,Tryz.ntmps54
       go_upto_region 7 with (first
        | (go_at_call 56;((with_reducible refine HS.o.mono ?_);rintro e w4 ⟨rfl,h1⟩;have dL:=ae (Fr.of b h1);have HO:=ae (Ah (HP.o.below h1) ng hnx);clear h1))
        | (go_at_call 83;((with_reducible refine HO.o.mono ?_);rintro e w5 ⟨rfl,h1,h2⟩;rcases h2 with ⟨h2, -⟩|⟨-,h2⟩;exact absurd h2 hd;have aR:=ae (dL.o.trans h1);have aP:=ae h2;obtain⟨c0,c1,c2,c3,c4⟩:=h2.facts;have HL:=ae (HI.o w5 h2);clear c0 c1 c2 c4 h1 h2))
        | (go_at_call 54;((with_reducible refine HL.o.mono ?_);intro e w6 ho;obtain⟨hf,hc,x,rfl,p6,d6,zY,tH,oD,rA,Df,hd6,Zz⟩:=ho.bad rfl;have dM:=ae (aR.o.trans hf);have HC:=ae hc;have dE:=ae rA;have wG:=ae aR.o.size;have rP:=ae oD;clear hf hc ho rA oD)))
       clear c3;obtain⟨c0,c1,c2,c3,c4⟩:=dE.o.facts;have f2:=dE.o.frozen 2;clear c0 c1 c3 c4;have hd1 : -9223372036854775808≤d6 - 1:=by omega
       have hd2:d6 - 1≤9223372036854775807:=by omega
       go_upto_region 8 with (fail)
       have bB:=ae (dE.o.pK (d6 - 1));have bM:=ae (dM.o.setCell 2 (.int .i64 (d6 - 1)));clear c2 f2;generalize w6.setCell ⟨b,2,none⟩ (.int .i64 (d6 - 1))=w7 at bB bM ⊢;have Zu:=bB.o.blt;have zq:Below w7.heap.size w7 (w7.alloc (.cells #[.int .i64 x] 3)):=(ai _ _).alloc (ah _) _;have lh:=ae (bB.o.below zq);have l9:=ae (bM.o.below zq);have Ji:=ae bM.o.size;have HA:=ae (show Calls Tryz.prog 57 #[.pointer (some ⟨b,0,none⟩),.agg #[.int .i64 8,.int .i64 0,.string ⟨#[]⟩,.string ⟨#[]⟩,.int .i64 0,.int .i64 0,.bool false,.bool false,.string ⟨#[]⟩,.int .i64 0,.int .i64 0,.bool false,.bool false,.slice (some ⟨w7.heap.size,0,none⟩) 1 1]] (w7.alloc (.cells #[.int .i64 x] 3)) _ from oL lh.o ⟨{ Nd.zero with kind:=8,kids:=[x] },some (w7.heap.size,1)⟩ (Gp w7 (b+1) x (by omega)) (by omega) (.slice (some ⟨w7.heap.size,0,none⟩) 1 1) rfl { Nd.zero with kind:=8,kids:=[x] } rfl);clear zq;go_wp2_with (go_at_call 57;((with_reducible refine HA.o.mono ?_);rintro e iN ⟨h1,rfl,Sm,h3⟩;have xC:=ae (l9.o.trans h1);have lQ:=ae h3;clear h1 h3))
       go_ret;refine cz.xZ (us:=tH++[⟨{ Nd.zero with kind:=8,kids:=[x] },some (w7.heap.size,1)⟩]) rfl HC.o xC.o ?_ (by rw[← bG];exact lQ.o) (by simp only[ak,fK]at Df ⊢;omega) (by omega);intro u hu j hj;rcases List.mem_append.1 hu with hu|hu
       · exact bF wG.o (rP.o u hu j hj)
       · rw[List.mem_singleton.1 hu]at hj
         have hj:some w7.heap.size=some j:=hj;injection hj with hj;have:=Ji.o;omega
     · have HI:=ae (fun w2 hps=>AV f (ah _) (deep+1) _ w2 b tv ts (p+1) nv vs C9 hps (by omega) h1)
       have H1:=ae h1;injection h2 with h2;have HR:=ae h2.symm;clear hq aj h IH AV h1 h2;go_enter Tryz.func54,Tryz.ntmps54
       go_upto_region 7 with (first
        | (go_at_call 56;((with_reducible refine HS.o.mono ?_);rintro e w4 ⟨rfl,h1⟩;have dL:=ae (Fr.of b h1);have HO:=ae (Ah (HP.o.below h1) ng hnx);clear h1))
        | (go_at_call 83;((with_reducible refine HO.o.mono ?_);rintro e w5 ⟨rfl,h1,h2⟩;rcases h2 with ⟨h2, -⟩|⟨-,h2⟩;exact absurd h2 hd;have aR:=ae (dL.o.trans h1);have aP:=ae h2;obtain⟨c0,c1,c2,c3,c4⟩:=h2.facts;have HL:=ae (HI.o w5 h2);clear c0 c1 c2 c4 h1 h2))
        | (go_at_call 54;((with_reducible refine HL.o.mono ?_);intro e w6 ho;obtain⟨hf,rfl,p6,zY,tH,Bi,Dm,oD,rA,Df⟩:=ho.ry rfl;have dM:=ae (aR.o.trans hf);have dE:=ae rA;have wG:=ae aR.o.size;have HD6:=ae Bi;have Ez:=ae Dm;have rP:=ae oD;clear hf ho rA oD Bi Dm)))
       clear c3;rw[show((deep+1:Nat):Int)=(deep:Int)+1 from rfl]at dE;obtain⟨c0,c1,c2,c3,c4⟩:=dE.o.facts;have f2:=dE.o.frozen 2;have Qm:=dE.o.lt;have aiG:tH.length=ns.length:=by rw[← Ez.o,fw]
       clear c0 c1 c3 c4;go_upto_region 8 with (fail)
       have bB:=ae (dE.o.pK (deep:Int));have bM:=ae (dM.o.setCell 2 (.int .i64 (deep:Int)));clear c2 f2;generalize w6.setCell ⟨b,2,none⟩ (.int .i64 (deep:Int))=w7 at bB bM ⊢;have Zu:=bB.o.blt;have zq:Below w7.heap.size w7 (w7.alloc (.cells #[.int .i64 ((a:Nat):Int)] 3)):=(ai _ _).alloc (ah _) _;have lh:=ae (bB.o.below zq);have l9:=ae (bM.o.below zq);have Ji:=ae bM.o.size;have HA:=ae (show Calls Tryz.prog 57 #[.pointer (some ⟨b,0,none⟩),.agg #[.int .i64 8,.int .i64 0,.string ⟨#[]⟩,.string ⟨#[]⟩,.int .i64 0,.int .i64 0,.bool false,.bool false,.string ⟨#[]⟩,.int .i64 0,.int .i64 0,.bool false,.bool false,.slice (some ⟨w7.heap.size,0,none⟩) 1 1]] (w7.alloc (.cells #[.int .i64 ((a:Nat):Int)] 3)) _ from oL lh.o ⟨{ Nd.zero with kind:=8,kids:=[((a:Nat):Int)] },some (w7.heap.size,1)⟩ (Gp w7 (b+1) ((a:Nat):Int) (by omega)) (by omega) (.slice (some ⟨w7.heap.size,0,none⟩) 1 1) rfl { Nd.zero with kind:=8,kids:=[((a:Nat):Int)] } rfl);clear zq;go_wp2_with (go_at_call 57;((with_reducible refine HA.o.mono ?_);rintro e iN ⟨h1,rfl,Sm,h3⟩;have xC:=ae (l9.o.trans h1);have lQ:=ae h3;clear h1 h3))
       go_ret;obtain⟨hc1,hc2,hc3⟩:=xY H1.o HD6.o Qm;refine⟨xC.o,.inr ⟨_,_,_,HR.o,LM (by first|omega|(simp only[ak];omega)),p6,Sm,tH++[⟨{ Nd.zero with kind:=8,kids:=[((a:Nat):Int)] },some (w7.heap.size,1)⟩],HD6.o,by rw[iy,Ez.o];rfl, ?_,by rw[← bG];exact lQ.o,by simp only[ak,fK]at Df ⊢;omega⟩⟩;intro u hu j hj;rcases List.mem_append.1 hu with hu|hu
       · exact bF wG.o (rP.o u hu j hj)
       · rw[List.mem_singleton.1 hu]at hj
         have hj:some w7.heap.size=some j:=hj;injection hj with hj;have:=Ji.o;omega
theorem abH:∀n:Nat,n≤3→∀q∈fC n,9≤q.2∧q.2≤19
 | 0,_=>by decide
 | 1,_=>by decide
 | 2,_=>by decide
 | 3,_=>by decide
 | n+4,h=>by omega
theorem abI:∀n:Nat,n≤3→1≤(fC n).length∧(fC n).length≤6
 | 0,_=>by decide
 | 1,_=>by decide
 | 2,_=>by decide
 | 3,_=>by decide
 | n+4,h=>by omega
def xO(n:Nat)(ts:List ag)(j:Nat):Prop:=∀(q:Nat)(y:ByteArray × Int),q<j→(fC n)[q]? = some y→au y.1 ts=false
theorem xO.none {n:Nat}{ts:List ag}{j:Nat}(h:xO n ts j)(hj:(fC n).length≤j):eH n ts=0:=by
 unfold eH;rw[JL (fun p=>au p.1 ts) (fC n) (fun q y hy=>h q y (by have:=(dW.1 hy).1;omega) hy)]
theorem xO.at {n:Nat}{ts:List ag}{j:Nat}{y:ByteArray × Int}(h:xO n ts j)(hy:(fC n)[j]? = some y)(hs:au y.1 ts=true):eH n ts=y.2:=by
 unfold eH;rw[JK (fun p=>au p.1 ts) (fC n) j y hy hs (fun q z hq hz=>h q z hq hz)]
theorem xO.succ {n:Nat}{ts:List ag}{j:Nat}{y:ByteArray × Int}(h:xO n ts j)(hy:(fC n)[j]? = some y)(hs:au y.1 ts=false):xO n ts (j+1):=by
 intro q z hq hz;by_cases e:q<j
 · exact h q z e hz
 · rw[show q=j by omega,hy]at hz;injection hz with hz;subst hz;exact hs
def WU (f n:Nat)(res:dR)(w:World)(b:Nat)(tv:Value)(ts:List ag)(deep:Nat)(vs:List az)(gs gk:Nat)(xS:Value)(wr:World):Prop :=
 ∃ (g:Nat)(ns':List Nd)(a' p':Nat)(aT:Value)(us:List az),xS = .int .i64 ((a':Nat):Int)∧g≤f∧a'+1=vs.length+ns'.length∧us.length=ns'.length∧vs.length+us.length≤p' ∧
   gZ g n deep vs.length ns' a' (ts.drop p')=some res∧us.map az.n=ns'∧(∀u∈us,∀j,u.aS.ownBlock=some j→w.heap.size≤j)∧aZ wr b tv ts p' (deep:Int) 0 aT (vs++us)∧Fr w wr b∧vC wr gs gk (fC n)
def WT (n:Nat)(res:dR)(w:World)(b:Nat)(tv:Value)(ts:List ag)(deep:Nat)(vs:List az)(xS:Value)(wr:World):Prop :=
 ∃(c x d:Int)(p':Nat)(aT:Value)(us:List az),xS = .int .i64 x∧res = .error c∧(c=5∨c=6)∧(∀u∈us,∀j,u.aS.ownBlock=some j→w.heap.size≤j)∧aZ wr b tv ts p' d c aT (vs++us)∧Fr w wr b∧(vs++us).length+(n+6*deep)≤ts.length+100∧((n+6*deep:Nat):Int)≤d+100∧d≤100
theorem ae9 (f:Nat)(IH:∀g,g≤f→CG g)(n:Nat)(hn:n≤3){w:World}{b:Nat}{tv:Value}{ts:List ag}{p deep:Nat}{nv:Value}{vs:List az}(h:aZ w b tv ts p (deep:Int) 0 nv vs)(sH:vs.length≤p)(ng:deep≤12)(res:dR)
 (aj:iC (dX f (n+1) deep vs.length (ts.drop p)) (fun ns a r=>gZ f n deep vs.length ns a r)=some res) :
 Calls Tryz.prog 31 #[.pointer (some ⟨b,0,none⟩),.int .i64 (n:Int)] w (cz (n+6*deep) res w b tv ts deep vs):=by
 have hw1 : -9223372036854775808≤(n:Int)+1:=by omega
 have hw2:(n:Int)+1≤9223372036854775807:=by omega
 have Fx:¬ (3:Int)<(n:Int):=by omega
 have uH:n+1≤4:=by omega
 have jZ:=h.few;have hbl:=h.blt;have Nr:=ae (fun w=>aeV n hn w);obtain⟨hl1,ZU⟩:=abI n hn;obtain⟨LL,wQ⟩:∃LL,(fC n).length=LL:=⟨_,rfl⟩;have yV:=ae wQ;rw[wQ]at hl1 ZU;clear wQ;rcases dP aj with ⟨c,h1,rfl⟩|⟨ns,a,r,h1,h2⟩
 · have HL:=ae (show Calls Tryz.prog 31 #[.pointer (some ⟨b,0,none⟩),.int .i64 ((n:Int)+1)] w (cz (n+1+6*deep) (.error c) w b tv ts deep vs)from IH f (ah _) (n+1) deep _ w b tv ts p nv vs uH ng h sH h1)
   clear aj h1 IH h;go_enter Tryz.func31,Tryz.ntmps31
   go_upto_region 5 with (first
    | (go_at_call 31;((with_reducible refine HL.o.mono ?_);intro e w2 ho;obtain⟨hf,hc,x,rfl,p2,d2,Sl,Ar,hk2,Di,hn2,hd2,aik⟩:=ho.bad rfl;have bI:=ae hf;have HC:=ae hc;have dB:=ae Di;have nV:=ae hk2;clear hf hc ho Di hk2))
    | (go_at_call 55;((with_reducible refine(Nr.o _).mono ?_);rintro e w3 ⟨h1,gs,gk,rfl,h2,h3,h4⟩;rw[yV.o];have dD:=ae (bI.o.below h1);have aW:=ae (dB.o.below h1);clear h1 h2 h3 h4)))
   obtain⟨c0,c1,c2,c3,c4⟩:=aW.o.facts;clear c0 c1 c2 c4;have hc0:(c == 0)=false:=by rw[beq_eq_false_iff_ne];rcases HC.o with h|h <;> omega
   go_loopw [5] (fun xS wr=>xS = .int .i64 x∧w3=wr) (fun _ _=>0)
   case atStart=>exact⟨rfl,rfl⟩
   case round =>
    obtain⟨rfl,rfl⟩:=hrel;go_wp2_with fail
    go_ret;exact cz.xZ rfl HC.o dD.o nV.o aW.o (by omega) (by omega)
 · have HL := ae (show Calls Tryz.prog 31 #[.pointer (some ⟨b,0,none⟩),.int .i64 ((n:Int)+1)] w (cz (n+1+6*deep) (.ok (ns,a,r)) w b tv ts deep vs)from IH f (ah _) (n+1) deep _ w b tv ts p nv vs uH ng h sH h1)
   have qR:=ae IH;have H1:=ae h1;have H2:=ae h2;clear aj h1 h2 IH h;go_enter Tryz.func31,Tryz.ntmps31
   go_upto_region 5 with (first
    | (go_at_call 31;((with_reducible refine HL.o.mono ?_);intro e w2 ho;obtain⟨hf,rfl,p2,Sl,Ar,hp2,hu2,hk2,Di,hn2⟩:=ho.ry rfl;have bI:=ae hf;have dB:=ae Di;have HD2:=ae hp2;have I9:=ae hu2;have nV:=ae hk2;clear hf ho Di hk2 hp2 hu2))
    | (go_at_call 55;((with_reducible refine(Nr.o _).mono ?_);rintro e w3 ⟨h1,gs,gk,rfl,h2,h3,h4⟩;rw[yV.o];have dD:=ae (bI.o.below h1);have aW:=ae (dB.o.below h1);have NQ:=ae h4;have hgs:=dB.o.blt;have ZJ:=bI.o.size;clear h1 h4)))
   have hbs:b<gs:=by omega
   have hbk:b<gk:=by omega
   have QD:Ar.length=ns.length:=by rw[← I9.o,fw]
   have ZX:(vs++Ar).length=vs.length+Ar.length:=ak;have h3:=xY H1.o HD2.o aW.o.lt
   go_loopw [5] (fun xS wr=>Hid (WU f n res w b tv ts deep vs gs gk xS wr)∨Hid (WT n res w b tv ts deep vs xS wr)) (fun _ wr=>vW b ts.length wr)
   case atStart =>
    refine .inl (ae ⟨f,ns,a,p2,Sl,Ar,rfl,ah _,h3.2.1,QD,by omega, ?_,I9.o,nV.o,aW.o,dD.o,NQ.o⟩);rw[HD2.o];exact H2.o
   case round =>
    clear HL H1 H2 bI dB HD2 I9 nV dD aW NQ h3 QD ZX hn2 hgs ZJ h2;rcases hrel with hrel|hrel
    rotate_left
    · obtain⟨c,x,d,p',aT,us,rfl,hrc,hc,hk,hps,hf,hct,hd1,hd2⟩:=hrel.o
      have HP:=ae hps;have HF:=ae hf;have HK:=ae hk;have HC:=ae hc;have vB:=ae hrc;have hc0:(c == 0)=false:=by rw[beq_eq_false_iff_ne];rcases hc with h|h <;> omega
      obtain⟨c0,c1,c2,c3,c4⟩:=hps.facts;clear hps hf hk hc hrc c0 c1 c2 c4 hrel;go_wp2_with fail
      go_ret;exact cz.xZ vB.o HC.o HF.o HK.o HP.o hct (by omega)
    obtain⟨g,ns',a',p',aT,us,rfl,hg,ha,zO,hcn,hR,hU,hK,PI,hF,hV⟩:=hrel.o;have HU:=ae hU;have HK:=ae hK;have iA:=ae PI;have HF:=ae hF;have dH:=ae hV;have HR:=ae hR;clear hU hK PI hF hV hR hrel;have Z4:=iA.o.lt;have HM:=ae (iA.o.vW ts.length);obtain⟨c0,c1,c2,c3,c4⟩:=iA.o.facts;clear c0 c1 c2 c4;go_upto_region 8 with (fail)
    match g,hg,HR with
    | 0,_,HR=>have:=HR.o;unfold gZ at this;cases this
    | g+1,hg,HR =>
    have hr:=HR.o;rw[pG]at hr;have HRR:=ae hr;clear hr HR
    go_loopw [8,9] (fun aS wW wq=>∃(j:Nat),j≤LL∧wW = .int .i64 (j:Int)∧((aS = .int .i64 0∧Hid (xO n (ts.drop p') j)∧Hid (Below wr.heap.size wr wq)) ∨
     (∃kd:Int,aS = .int .i64 kd∧Hid (eH n (ts.drop p')=kd)∧9≤kd∧Hid (aZ wq b tv ts (p'+1) (deep:Int) 0 aT (vs++us))∧Hid (Fr wr wq b))))
     (fun _ wW _=>LL - (intOf wW).toNat)
    case atStart=>exact⟨0,dV _,rfl,.inl ⟨rfl,ae (by intro q y hq;omega),ae (ai _ _)⟩⟩
    case round =>
     obtain⟨j,hj,rfl,hk⟩:=hrel;rcases hk with ⟨rfl,HN,HB⟩|⟨kd,rfl,lN,J7,yZ,Ii⟩
     · by_cases hjl:j<LL
       · have hji:(j:Int)<(LL:Int):=by omega
         obtain⟨q,hq⟩:∃q,(fC n)[j]? = some q:=⟨_,dm (by rw[yV.o];exact hjl)⟩;obtain⟨d0,d1⟩:=(dH.o.below HB.o).cells j q hq;have yZ:=ae (iA.o.below HB.o);have HS:=ae (xk yZ.o q.1);rw[decide_eq_true rfl,Bool.true_and]at HS;have HQ:=ae hq;cases hs:au q.1 (ts.drop p')
         · rw[hs]at HS
           have bS:=ae (HN.o.succ hq hs);clear hs hq;go_wp2_with (go_at_call 56;((with_reducible refine HS.o.mono ?_);rintro e w4 ⟨rfl,h1⟩;have dJ:=ae (HB.o.trans (h1.mono HB.o.size));clear h1))
           go_roundw
           case rel=>exact⟨j+1,by omega,by go_num,.inl ⟨rfl,bS,dJ⟩⟩
           case measure=>simp[intOf];omega
         · have hnx:=yD yZ.o hs
           rw[hs]at HS;have kM:=ae (HN.o.at hq hs);have hkr:=(abH n hn q (fu hq)).1;clear hs hq;go_upto_region 12 with (go_at_call 56;((with_reducible refine HS.o.mono ?_);rintro e w4 ⟨rfl,h1⟩;have dJ:=ae (HB.o.trans (h1.mono HB.o.size));have cO:=ae (yZ.o.below h1);obtain⟨z0,z1⟩:=(dH.o.below dJ.o).cells j q HQ.o;clear h1))
           clear z0 z1 d0 d1 c3;obtain⟨c0,c1,c2,c3,c4⟩:=cO.o.facts;have f1:=cO.o.frozen 1;clear c0 c2 c3 c4;go_wp2_with fail
           go_roundw
           case rel=>exact⟨j+1,by omega,by go_num,.inr ⟨q.2,rfl,kM,hkr,ae (cO.o.next hnx),ae ((Fr.of b dJ.o).setCell _ _)⟩⟩
           case measure=>simp[intOf];omega
       · have hji:¬ (j:Int)<(LL:Int):=by omega
         have h0:=HN.o.none (by rw[yV.o];omega);have hr:=HRR.o;rw[if_pos h0]at hr;injection hr with hr;have IV:=ae hr.symm;have cO:=ae (iA.o.below HB.o);have dL:=ae (HF.o.below HB.o);have hlen:(vs++us).length=vs.length+us.length:=ak;clear hr h0;go_wp2_with fail
         go_ret;exact⟨dL.o,.inr ⟨_,_,_,IV.o,rfl,p',aT,us,rfl,HU.o,HK.o,cO.o,by omega⟩⟩
     · have hk0:(kd == 0)=false:=by rw[beq_eq_false_iff_ne];omega
       have hr:=HRR.o;rw[if_neg (by rw[lN.o];omega),lN.o,List.tail_drop]at hr;have hlen:(vs++us).length=vs.length+us.length:=ak;have jk:vs.length+ns'.length=(vs++us).length:=by rw[hlen,zO]
       rw[jk]at hr;have hpq:=yZ.o.lt;have NV:=ae (bF HF.o.size Ii.o.size);have Nl:=ae (HF.o.trans Ii.o);have WA:=ae (dH.o.fr Ii.o hbs hbk);clear c3;have hjc:(j:Int)<(LL:Int)∨¬ (j:Int)<(LL:Int):=by omega
       rcases dP hr with ⟨c,h1,h2⟩|⟨ms,b2,r2,h1,h2⟩
       · have vB:=ae h2
         have HL:=ae (show Calls Tryz.prog 31 #[.pointer (some ⟨b,0,none⟩),.int .i64 ((n:Int)+1)] wr (cz (n+1+6*deep) (.error c) wr b tv ts deep (vs++us))from qR.o g (by omega) (n+1) deep _ wr b tv ts (p'+1) aT (vs++us) uH ng yZ.o (by omega) h1);clear h1 h2 hr HRR;rcases hjc with hji|hji
         all_goals
         go_upto_region 15 with (go_at_call 31;((with_reducible refine HL.o.mono ?_);intro e w5 ho;obtain⟨hf,hc,x,rfl,p5,d5,nP,dz,hk5,iD,De,hd5,PY⟩:=ho.bad rfl;have aR:=ae (Nl.o.trans hf);have aP:=ae iD;have kv:=ae hk5;have HC:=ae hc;clear hf hc ho iD hk5))
         have hbl:=aP.o.blt;have gG:Below w5.heap.size w5 (w5.alloc (.cells #[.int .i64 ((a':Nat):Int),.int .i64 x] 3)):=(ai _ _).alloc (ah _) _;have dE:=ae (aP.o.below gG);have dM:=ae (aR.o.below gG);have HA:=ae (show Calls Tryz.prog 57 #[.pointer (some ⟨b,0,none⟩),.agg #[.int .i64 kd,.int .i64 0,.string ⟨#[]⟩,.string ⟨#[]⟩,.int .i64 0,.int .i64 0,.bool false,.bool false,.string ⟨#[]⟩,.int .i64 0,.int .i64 0,.bool false,.bool false,.slice (some ⟨w5.heap.size,0,none⟩) 2 2]] (w5.alloc (.cells #[.int .i64 ((a':Nat):Int),.int .i64 x] 3)) _ from oL dE.o ⟨{ Nd.zero with kind:=kd,kids:=[((a':Nat):Int),x] },some (w5.heap.size,2)⟩ (Gq w5 (b+1) ((a':Nat):Int) (x) (by omega)) (by omega) (.slice (some ⟨w5.heap.size,0,none⟩) 2 2) rfl { Nd.zero with kind:=kd,kids:=[((a':Nat):Int),x] } rfl);clear gG;go_wp2_with (go_at_call 57;((with_reducible refine HA.o.mono ?_);rintro e w7 ⟨h1,rfl,zZ,h3⟩;have bM:=ae (dM.o.trans h1);have bB:=ae h3;clear h1 h3))
         have IC:=ae (show ∀u∈us++(dz++[⟨{ Nd.zero with kind:=kd,kids:=[((a':Nat):Int),x] },some (w5.heap.size,2)⟩]),∀j,u.aS.ownBlock=some j→w.heap.size≤j from by
          intro u hu j hj;rcases List.mem_append.1 hu with hu|hu
          · exact HK.o u hu j hj
          · rcases List.mem_append.1 hu with hu|hu
            · exact bF NV.o (kv.o u hu j hj)
            · rw[List.mem_singleton.1 hu]at hj
              have hj:some w5.heap.size=some j:=hj;injection hj with hj;have:=aR.o.size;omega)
         go_roundw
         case rel =>
          refine .inr (ae ⟨c,_,d5,p5,zZ,us++(dz++[⟨{ Nd.zero with kind:=kd,kids:=[((a':Nat):Int),x] },some (w5.heap.size,2)⟩]),rfl,vB.o,HC.o,IC.o,by rw[← bG, ← bG];exact bB.o,bM.o, ?_,by omega,PY⟩);simp only[ak,fK]at De ⊢;omega
         case measure =>
          have h1:=bB.o.vW ts.length;rw[HM.o,h1,if_neg (show ¬ c=0 by rcases HC.o with h|h <;> omega)];simp only[if_true];omega
       · have HL:=ae (show Calls Tryz.prog 31 #[.pointer (some ⟨b,0,none⟩),.int .i64 ((n:Int)+1)] wr (cz (n+1+6*deep) (.ok (ms,b2,r2)) wr b tv ts deep (vs++us))from qR.o g (by omega) (n+1) deep _ wr b tv ts (p'+1) aT (vs++us) uH ng yZ.o (by omega) h1)
         have H1:=ae h1;have H2:=ae h2;clear h1 h2 hr HRR;rcases hjc with hji|hji
         all_goals
         go_upto_region 15 with (go_at_call 31;((with_reducible refine HL.o.mono ?_);intro e w5 ho;obtain⟨hf,rfl,p5,nP,dz,kU,kW,hk5,iD,De⟩:=ho.ry rfl;have aR:=ae (Nl.o.trans hf);have aP:=ae iD;have HD5:=ae kU;have ky:=ae kW;have kv:=ae hk5;have HV5:=ae (WA.o.fr hf hbs hbk);clear hf ho iD hk5 kU kW))
         obtain⟨hc1,hc2,hc3⟩:=xY H1.o HD5.o aP.o.lt;have FH:dz.length=ms.length:=by rw[← ky.o,fw]
         have Fv:((vs++us)++dz).length=vs.length+us.length+dz.length:=by rw[ak,ak]
         have aah:=aP.o.lt;have hbl:=aP.o.blt;have gG:Below w5.heap.size w5 (w5.alloc (.cells #[.int .i64 ((a':Nat):Int),.int .i64 ((b2:Nat):Int)] 3)):=(ai _ _).alloc (ah _) _;have dE:=ae (aP.o.below gG);have dM:=ae (aR.o.below gG);have HA:=ae (show Calls Tryz.prog 57 #[.pointer (some ⟨b,0,none⟩),.agg #[.int .i64 kd,.int .i64 0,.string ⟨#[]⟩,.string ⟨#[]⟩,.int .i64 0,.int .i64 0,.bool false,.bool false,.string ⟨#[]⟩,.int .i64 0,.int .i64 0,.bool false,.bool false,.slice (some ⟨w5.heap.size,0,none⟩) 2 2]] (w5.alloc (.cells #[.int .i64 ((a':Nat):Int),.int .i64 ((b2:Nat):Int)] 3)) _ from oL dE.o ⟨{ Nd.zero with kind:=kd,kids:=[((a':Nat):Int),((b2:Nat):Int)] },some (w5.heap.size,2)⟩ (Gq w5 (b+1) ((a':Nat):Int) (((b2:Nat):Int)) (by omega)) (by omega) (.slice (some ⟨w5.heap.size,0,none⟩) 2 2) rfl { Nd.zero with kind:=kd,kids:=[((a':Nat):Int),((b2:Nat):Int)] } rfl);have xy:=ae gG;clear gG;go_wp2_with (go_at_call 57;((with_reducible refine HA.o.mono ?_);rintro e w7 ⟨h1,rfl,zZ,h3⟩;have rO:=ae h1;have bM:=ae (dM.o.trans h1);have bB:=ae h3;clear h1 h3))
         have IC:=ae (show ∀u∈us++(dz++[⟨{ Nd.zero with kind:=kd,kids:=[((a':Nat):Int),((b2:Nat):Int)] },some (w5.heap.size,2)⟩]),∀j,u.aS.ownBlock=some j→w.heap.size≤j from by
          intro u hu j hj;rcases List.mem_append.1 hu with hu|hu
          · exact HK.o u hu j hj
          · rcases List.mem_append.1 hu with hu|hu
            · exact bF NV.o (kv.o u hu j hj)
            · rw[List.mem_singleton.1 hu]at hj
              have hj:some w5.heap.size=some j:=hj;injection hj with hj;have:=aR.o.size;omega)
         have Wz:=ae (HV5.o.fr ((Fr.of b xy.o).trans rO.o) hbs hbk)
         go_roundw
         case rel =>
          refine .inl (ae ⟨g,ns'++(ms++[{ Nd.zero with kind:=kd,kids:=[((a':Nat):Int),((b2:Nat):Int)] }]),vs.length+(ns'.length+ms.length),p5,zZ,us++(dz++[⟨{ Nd.zero with kind:=kd,kids:=[((a':Nat):Int),((b2:Nat):Int)] },some (w5.heap.size,2)⟩]), ?_,by omega, ?_, ?_, ?_, ?_, ?_,IC.o,by rw[← bG, ← bG];exact bB.o,bM.o,Wz.o⟩)
          · congr 1
          · rw[ak,ak,fK];omega
          · rw[ak,ak,ak,ak,fK,fK];omega
          · rw[ak,ak,fK];omega
          · rw[HD5.o];exact H2.o
          · rw[iy,iy,HU.o,ky.o];rfl
         case measure =>
          have h1:=bB.o.vW ts.length;rw[HM.o,h1];simp only[if_true];omega
theorem TF:∀F:Nat,CG F∧Jp F:=by
 intro F
 induction F using Nat.strongRecOn with
 | _ F ih =>
   have main:Jp F:=by
    intro deep res w b tv ts p nv vs hd h hc aj
    match F,ih,aj with
    | 0,_,aj=>unfold dX at aj;cases aj
    | f+1,ih,aj=>exact aff f (fun g hg=>(ih g (by omega)).1) (fun g hg=>(ih g (by omega)).2) h hc hd res aj
   refine⟨?_,main⟩;intro n deep res w b tv ts p nv vs hn hd h hc aj;by_cases h3:n≤3
   · match F,ih,aj with
     | 0,_,aj=>unfold dX at aj;cases aj
     | f+1,ih,aj =>
     rw[kR,if_pos h3]at aj;exact ae9 f (fun g hg=>(ih g (by omega)).1) n h3 h hc hd res aj
   · have e4:n=4:=by omega
     subst e4;have HM:=ae (main deep res w b tv ts p nv vs hd h hc aj);clear aj h main ih hc hn h3;go_enter Tryz.func31,Tryz.ntmps31;go_wp2_with (go_at_call 54;((with_reducible refine HM.o.mono ?_);intro e w7 ho;have nI:=ae ho;obtain⟨c,rfl⟩:=ho.ret;clear ho))
     go_ret;exact nI.o
def jg(w:World)(b:Nat)(v:Value)(e:Int):Prop:=w.heap[b]? = some (.cells #[v,.int .i64 e] 49)
theorem jg.lt{w:World}{b:Nat}{v:Value}{e:Int}(h:jg w b v e):b<w.heap.size:=(dO.1 h).1
theorem jg.below{w w':World}{B b:Nat}{v:Value}{e:Int}(h:jg w b v e)(hb:Below B w w')(hB:b<B):jg w' b v e:=by unfold jg;rw[hb.block b hB];exact h
theorem jg.facts {w:World}{b:Nat}{v:Value}{e:Int}(h:jg w b v e):w.cell? ⟨b,0,none⟩=some v∧w.cell? ⟨b,1,none⟩=some (.int .i64 e) :=
 ⟨by rw[cell_of_row w b 0 _ _ _ h];rfl,by rw[cell_of_row w b 1 _ _ _ h];rfl⟩
theorem jg.bH{w:World}{b:Nat}{v:Value}{e:Int}(h:jg w b v e):w.frozen? ⟨b,0,none⟩=false∧w.frozen? ⟨b,1,none⟩=false:=⟨frozen_of_row w b 0 _ _ h,frozen_of_row w b 1 _ _ h⟩
theorem jg.nQ {w:World}{b:Nat}{v0:Value}{e0:Int}(h:jg w b v0 e0)(v:Value)(e:Int):jg ((w.setCell ⟨b,0,none⟩ v).setCell ⟨b,1,none⟩ (.int .i64 e)) b v e:=by
 have h1:(w.setCell ⟨b,0,none⟩ v).heap[b]? = some (.cells #[v,.int .i64 e0] 49):=by rw[heap_setCell_same w b 0 _ _ _ h];rfl
 unfold jg;rw[heap_setCell_same _ b 1 _ _ _ h1];rfl
theorem jg.new(w:World)(v:Value)(e:Int):jg (w.alloc (.cells #[v,.int .i64 e] 49)) w.heap.size v e:=(ko w _).1
theorem adG:(Tryz.prog.info? 49).map (·.size)=some 2:=by kernel_rfl
theorem Gm {w:World}{b:Nat}{v:Value}{e:Int}(h:jg w b v e)(fn:Func)(tmps:Array Value)(p:Tmp)(hf:fn.results=#[.cell p 49])(hp:tmps.getD p undef = .pointer (some ⟨b,0,none⟩)) :
 (results fn tmps).run Tryz.prog w = .ok (.agg #[v,.int .i64 e]) w :=
 results_cell_row hf tmps w b _ _ _ _ hp h Tryz.underlying49 rfl adG
theorem GJ:Tryz.f17.results=#[.cell 2 49]:=by kernel_rfl
theorem EY{B:Nat}{a w:World}{g:Nat}(h:Below B a w)(hg:B≤g)(v0 v1:Value):Below B a ((w.setCell ⟨g,0,none⟩ v0).setCell ⟨g,1,none⟩ v1):=(h.setCell hg _).setCell hg _
def WS (res:Except Int (List Nd))(w:World)(e:Ending)(w':World):Prop :=
 Below w.heap.size w w'∧((∃c,res = .error c∧(c=4∨c=5∨c=6)∧e = .returned (.agg #[.slice none 0 0,.int .i64 c])) ∨
  (∃ns g cap vs,res = .ok ns∧vs.map az.n=ns∧e = .returned (.agg #[.slice (some ⟨g,0,none⟩) vs.length cap,.int .i64 0])∧jI w' w.heap.size (.slice (some ⟨g,0,none⟩) vs.length cap) vs∧vs.length≤1000))
theorem abP {s:ByteArray}{w w1:World}{e:Ending}(h:EI s w e w1)(h1:s.size≤300)(ts:List ag)(h2:fT (sb s)=some ts):Below w.heap.size w w1∧∃v,e = .returned (.agg #[v,.int .i64 0])∧rq w1 w.heap.size v ts:=by
 rcases h with ⟨hb,⟨h,_⟩|⟨_,h,_⟩|⟨_,ts',v,h3,h4,h5⟩⟩
 · omega
 · rw[h2]at h;cases h
 · rw[h2]at h3;injection h3 with h3;subst h3;exact⟨hb,v,h4,h5⟩
theorem Rp {s:ByteArray}{w w1:World}{e:Ending}(h:EI s w e w1)(h1:300<s.size∨(s.size≤300∧fT (sb s)=none)):Below w.heap.size w w1∧e = .returned (.agg #[.slice none 0 0,.int .i64 (if 300<s.size then 4 else 5)]):=by
 rcases h with ⟨hb,⟨h,he⟩|⟨h,h0,he⟩|⟨h,ts',v,h3,_⟩⟩
 · rw[if_pos h];exact⟨hb,he⟩
 · rw[if_neg (by omega)];exact⟨hb,he⟩
 · rcases h1 with h1|⟨_,h1⟩
   · omega
   · rw[h1]at h3;cases h3
theorem ac5{w:World}{B:Nat}{v:Value}{us:List az}(h:jI w B v us)(n:Nat):jI (w.drewN n) B v us:=h
theorem jg.fr {w w':World}{b c:Nat}{v:Value}{e:Int}(h:jg w c v e)(hf:Fr w w' b)(hc:c<b):jg w' c v e:=by
 unfold jg;rw[hf.block c h.lt (by omega) (.inl hc)];exact h
theorem TM (s:ByteArray)(w:World)(c:Int)(hc:c=4∨c=5)(hl:∀w e w1,EI s w e w1→Below w.heap.size w w1∧e = .returned (.agg #[.slice none 0 0,.int .i64 c])) :
 Calls Tryz.prog 17 #[.string s] w fun e w'=>Below w.heap.size w w'∧e = .returned (.agg #[.slice none 0 0,.int .i64 c]):=by
 have HL:=ae hl;have hc0:(c != 0)=true:=by rw[bne_iff_ne];omega
 have rR:=ae (jg.new w (.slice none 0 0) 0);have aU:=ae (show Below w.heap.size w (w.alloc (.cells #[.slice none 0 0,.int .i64 0] 49))from(ai _ _).alloc (ah _) _);have wz:=ae (fun w=>Tg s w);clear hl;go_enter Tryz.func17,Tryz.ntmps17;go_upto_region 1 with (fail)
 generalize w.alloc (.cells #[.slice none 0 0,.int .i64 0] 49)=w1 at rR aU ⊢;go_upto_region 2 with (go_at_call 30;((with_reducible refine(wz.o _).mono ?_);intro e w2 hx;obtain⟨hb,he⟩:=HL.o _ _ _ hx;subst he;have HB2:=ae (aU.o.trans (hb.mono aU.o.size));have AP:=ae (rR.o.below hb rR.o.lt);clear hb hx))
 have hB3:Below w2.heap.size w2 (w2.alloc (.cells #[.slice none 0 0,.int .i64 c] 65)):=(ai _ _).alloc (ah _) _;have HT3:=lq.new w2 (.slice none 0 0) c;have HB3:=ae (HB2.o.trans (hB3.mono HB2.o.size));have vv:=ae (AP.o.below hB3 AP.o.lt);clear hB3;generalize hb2:w2.heap.size=b2 at HT3 ⊢;generalize w2.alloc (.cells #[.slice none 0 0,.int .i64 c] 65)=w3 at HT3 HB3 vv ⊢;clear hb2;obtain⟨x0,x1⟩:=HT3.facts;obtain⟨y0,y1⟩:=vv.o.facts;obtain⟨z0,z1⟩:=vv.o.bH;go_wp2_with fail
 exact bodyPost_ret (Gm (vv.o.nQ (.slice none 0 0) c) _ _ 2 GJ rfl) rfl ⟨EY HB3.o (ah _) _ _,rfl⟩
theorem TL (s:ByteArray)(w:World)(res:Except Int (List Nd))(hp:iB s res):Calls Tryz.prog 17 #[.string s] w (WS res w):=by
 rcases hp with ⟨h1,rfl⟩|⟨h1,h2,rfl⟩|⟨h1,ts,f,h2,h3⟩
 · refine(TM s w 4 (.inl rfl) (fun w e w1 h=>by have:=Rp h (.inl h1);rw[if_pos h1]at this;exact this)).mono ?_
   rintro e w' ⟨hb,rfl⟩;exact⟨hb,.inl ⟨4,rfl,.inl rfl,rfl⟩⟩
 · refine(TM s w 5 (.inr rfl) (fun w e w1 h=>by have:=Rp h (.inr ⟨h1,h2⟩);rw[if_neg (by omega)]at this;exact this)).mono ?_
   rintro e w' ⟨hb,rfl⟩;exact⟨hb,.inl ⟨5,rfl,.inr (.inl rfl),rfl⟩⟩
 obtain⟨wT,zC⟩:=F3 s ts h2;have hlen:=Rh s ts h2;have hne:=List.length_pos_iff.2 (KI s ts h2);have Cj:=ae zC;have rR:=ae (jg.new w (.slice none 0 0) 0);have aU:=ae (show Below w.heap.size w (w.alloc (.cells #[.slice none 0 0,.int .i64 0] 49))from(ai _ _).alloc (ah _) _);have wz:=ae (fun w=>(Tg s w).mono fun e w1 h=>abP h h1 ts h2);unfold kY at h3;have H3:=ae h3;obtain⟨nt,hnt⟩:∃nt,ts.length=nt:=⟨_,rfl⟩;have lF:=ae hnt;rw[hnt]at hlen hne;clear h2 h3 wT zC hnt;go_enter Tryz.func17,Tryz.ntmps17;go_upto_region 1 with (fail)
 generalize w.alloc (.cells #[.slice none 0 0,.int .i64 0] 49)=w1 at rR aU ⊢;go_upto_region 2 with (go_at_call 30;((with_reducible refine(wz.o _).mono ?_);rintro e w2 ⟨hb,tv,rfl,ho⟩;obtain⟨g1,eU,vP,hg0,hg1, -, -⟩:=Own.some ho (by rw[lF.o];exact hne);rw[lF.o]at vP;subst vP;have HB2:=ae (aU.o.trans (hb.mono aU.o.size));have AP:=ae (rR.o.below hb rR.o.lt);have mO:=ae ho;clear hb ho))
 have hB3:Below w2.heap.size w2 (w2.alloc (.cells #[.slice (some ⟨g1,0,none⟩) nt eU,.int .i64 0] 65)):=(ai _ _).alloc (ah _) _;have HT3:=lq.new w2 (.slice (some ⟨g1,0,none⟩) nt eU) 0;have HB3:=ae (HB2.o.trans (hB3.mono HB2.o.size));have vv:=ae (AP.o.below hB3 AP.o.lt);have fZ:=ae (mO.o.below hB3 (ah _));have hg3:g1<(w2.alloc (.cells #[.slice (some ⟨g1,0,none⟩) nt eU,.int .i64 0] 65)).heap.size:=by simp;omega
 clear hB3 HB2 AP mO wz hg0 hg1;generalize hb2:w2.heap.size=b2 at HT3 ⊢;generalize w2.alloc (.cells #[.slice (some ⟨g1,0,none⟩) nt eU,.int .i64 0] 65)=w3 at HT3 HB3 vv fZ hg3 ⊢;clear hb2;obtain⟨x0,x1⟩:=HT3.facts;clear HT3;go_upto_region 5 with (fail)
 have hB4:Below w3.heap.size w3 (w3.alloc (.cells #[.slice (some ⟨g1,0,none⟩) nt eU,.int .i64 0,.int .i64 0,.int .i64 0,.slice none 0 0] 69)):=(ai _ _).alloc (ah _) _;have Fq:(w3.alloc (.cells #[.slice (some ⟨g1,0,none⟩) nt eU,.int .i64 0,.int .i64 0,.int .i64 0,.slice none 0 0] 69)).heap[w3.heap.size]? = some (.cells #[.slice (some ⟨g1,0,none⟩) nt eU,.int .i64 0,.int .i64 0,.int .i64 0,.slice none 0 0] 69):=(ko w3 _).1;have dJ:=ae (HB3.o.trans (hB4.mono HB3.o.size));have II:=ae (vv.o.below hB4 vv.o.lt);have mP:=ae (fZ.o.below hB4 (ah _));have hpb:=vv.o.lt;have hzb:=HB3.o.size;clear hB4 x0 x1;generalize w3.alloc (.cells #[.slice (some ⟨g1,0,none⟩) nt eU,.int .i64 0,.int .i64 0,.int .i64 0,.slice none 0 0] 69)=w4 at Fq dJ II mP ⊢;generalize w3.heap.size=b at Fq hg3 hpb hzb ⊢
 have HP:=ae (show aZ w4 b (.slice (some ⟨g1,0,none⟩) nt eU) ts 0 ((0:Nat):Int) 0 (.slice none 0 0) []from
  ⟨Fq,⟨g1,eU,by rw[lF.o],hg3,mP.o.mono (dV _)⟩,jI.nil _ _,by rw[lF.o];exact hne,Cj.o,by rw[lF.o];omega,dV _⟩)
 clear Fq mP Cj fZ HB3 vv aU rR;have hB0:w.heap.size≤b:=by omega
 rcases dP H3.o with ⟨c,g2,rfl⟩|⟨ns,a,r,g2,g3⟩
 · have HX:=ae (show Calls Tryz.prog 31 #[.pointer (some ⟨b,0,none⟩),.int .i64 0] w4 (cz (0+6*0) (.error c) w4 b (.slice (some ⟨g1,0,none⟩) nt eU) ts 0 [])from(TF f).1 0 0 _ w4 b _ ts 0 _ [] (by omega) (by omega) HP.o (ah _) g2)
   clear g2 H3;go_upto_region 6 with (go_at_call 31;((with_reducible refine HX.o.mono ?_);intro e w5 ho;obtain⟨hf,hc,x,rfl,p5,d5,nP,dz,hk5,iD, -, -, -⟩:=ho.bad rfl;have eP:=ae (dJ.o.trans (hf.toBelow hB0 dJ.o.size));have xJ:=ae (II.o.fr hf hpb);have aP:=ae iD;have HC:=ae hc;clear hf hc ho hk5 iD))
   obtain⟨c0,c1,c2,c3,c4⟩:=aP.o.facts;obtain⟨y0,y1⟩:=xJ.o.facts;obtain⟨z0,z1⟩:=xJ.o.bH;have hc0:(c == 0)=false:=by rw[beq_eq_false_iff_ne];rcases HC.o with h|h <;> omega
   have hc1:(c != 0)=true:=by rw[bne,hc0];rfl
   go_quiet (fail)
   go_wp2_with fail
   exact bodyPost_ret (Gm ((show jg (w5.drewN nq) w.heap.size (.slice none 0 0) 0 from xJ.o).nQ (.slice none 0 0) c) _ _ 2 GJ rfl) rfl ⟨EY (o7 eP.o nq) (ah _) _ _,.inl ⟨c,rfl,.inr HC.o,rfl⟩⟩
 · have HX:=ae (show Calls Tryz.prog 31 #[.pointer (some ⟨b,0,none⟩),.int .i64 0] w4 (cz (0+6*0) (.ok (ns,a,r)) w4 b (.slice (some ⟨g1,0,none⟩) nt eU) ts 0 [])from(TF f).1 0 0 _ w4 b _ ts 0 _ [] (by omega) (by omega) HP.o (ah _) g2)
   have hns:=((uU f).1 _ _ _ _ _ _ _ g2).2.2;have H4:=ae g3;clear g2 g3 H3;go_upto_region 6 with (go_at_call 31;((with_reducible refine HX.o.mono ?_);intro e w5 ho;obtain⟨hf,rfl,p5,nP,dz,kU,kW,hk5,iD, -⟩:=ho.ry rfl;have eP:=ae (dJ.o.trans (hf.toBelow hB0 dJ.o.size));have xJ:=ae (II.o.fr hf hpb);have aP:=ae iD;have HD5:=ae kU;have ky:=ae kW;clear hf ho kU kW hk5 iD))
   obtain⟨c0,c1,c2,c3,c4⟩:=aP.o.facts;obtain⟨gt,ct,t,vP,ht,hd, -,k0, -⟩:=aP.o.tok;injection vP with vP htl htc;injection vP with vP;injection vP with vP;subst vP;have h4:=H4.o;rw[← HD5.o,hd]at h4;have yg:=aP.o.lt;obtain⟨g5,OQ,rfl, -, -, -, -⟩:=Own.some aP.o.nodes.1 (show 0<(([]:List az)++dz).length by rw[gL, ← fw (f:=az.n),ky.o];omega);have hi1:(0:Int)≤(p5:Int):=by omega
   have hi2:(p5:Int)<(nt:Int):=by rw[lF.o]at yg;omega
   obtain⟨kd,hkd⟩:∃kd,t.kind=kd:=⟨_,rfl⟩;rw[hkd]at k0;clear HX ht hd H4 htl htc yg;by_cases h0:t.kind=0
   · rw[show sN (t :: ts.drop (p5+1))=t.kind from rfl,if_pos h0]at h4
     injection h4 with h4;have HR:=ae h4.symm;have e0:(kd != 0)=false:=by rw[← hkd,h0];rfl
     clear h4 h0 hkd;go_quiet (fail)
     obtain⟨y0,y1⟩:=xJ.o.facts;obtain⟨z0,z1⟩:=xJ.o.bH;go_wp2_with fail
     have gq:=ae (ac5 aP.o.nodes nq);exact bodyPost_ret (Gm ((show jg (w5.drewN nq) w.heap.size (.slice none 0 0) 0 from xJ.o).nQ _ 0) _ _ 2 GJ rfl) rfl ⟨EY (o7 eP.o nq) (ah _) _ _,.inr ⟨ns,g5,OQ,([]:List az)++dz,HR.o,by rw[gL];exact ky.o,rfl,((gq.o.set (by omega) _ _).set (by omega) _ _).mono (by omega),by have h1:=aP.o.cnt;have h2:=lF.o;omega⟩⟩
   · rw[show sN (t :: ts.drop (p5+1))=t.kind from rfl,if_neg h0]at h4
     injection h4 with h4;have HR:=ae h4.symm;have e0:(kd != 0)=true:=by rw[bne_iff_ne, ← hkd];exact h0
     clear h4 h0 hkd;go_quiet (fail)
     have gG:Below w5.heap.size w5 (w5.drewN nq):=o7 (ai _ _) nq;have dE:=ae (aP.o.below gG);have nU:=ae (o7 eP.o nq);have NF:=ae (show jg (w5.drewN nq) w.heap.size (.slice none 0 0) 0 from xJ.o);have rO:=ae (Af dE.o 5);clear c0 c1 c2 c3 c4 k0 gG;generalize w5.drewN nq=w6 at dE nU NF rO ⊢;go_wp2_with (go_at_call 32;((with_reducible refine rO.o.mono ?_);rintro e w7 ⟨rfl,h1,h2⟩;have Ce:=ae (nU.o.trans (h1.toBelow hB0 nU.o.size));have IJ:=ae (NF.o.fr h1 hpb);obtain⟨c0,c1,c2,c3,c4⟩:=(aZ.K9 h2).facts;obtain⟨y0,y1⟩:=IJ.o.facts;obtain⟨z0,z1⟩:=IJ.o.bH;clear h1 h2 c0 c1 c2 c4))
     exact bodyPost_ret (Gm (IJ.o.nQ (.slice none 0 0) 5) _ _ 2 GJ rfl) rfl ⟨EY Ce.o (ah _) _ _,.inl ⟨5,HR.o,.inr (.inl rfl),rfl⟩⟩
theorem zW (w:World)(n:Nd)(A:Option Addr)(m c:Nat):∃w1,w.alloc (.cells #[.int .i64 n.kind,.int .i64 n.num,.string n.text,.string n.ref.sh,.int .i64 n.ref.c,.int .i64 n.ref.r,.bool n.ref.ac,.bool n.ref.ar,.string n.af.sh,.int .i64 n.af.c,.int .i64 n.af.r,.bool n.af.ac,.bool n.af.ar,.slice A m c] 45)=w1∧ax w1 w.heap.size n (.slice A m c)∧Below w.heap.size w w1 :=
 ⟨_,rfl,ax.new w n _,(ai _ _).alloc (ah _) _⟩
theorem aeg (n:Nd)(hk:n.kind=1)(_hs:n.text.size≤1000000)(_hr:n.ref.sh.size≤1000000)(_ht:n.af.sh.size≤1000000)(bQ:aD n=true)(A:Option Addr)(m c:Nat)(w:World):Calls Tryz.prog 24 #[.agg #[.int .i64 n.kind,.int .i64 n.num,.string n.text,.string n.ref.sh,.int .i64 n.ref.c,.int .i64 n.ref.r,.bool n.ref.ac,.bool n.ref.ar,.string n.af.sh,.int .i64 n.af.c,.int .i64 n.af.r,.bool n.af.ac,.bool n.af.ar,.slice A m c]] w fun e w'=>e = .returned (.bool (aD n))∧Below w.heap.size w w':=by
 have bZ:=ae bQ;clear bQ;obtain⟨w1,hw1,hx,hb⟩:=zW w n A m c;have HB:=ae hb;have dK:=ae (fun w=>qH n.ref w);have bS:=ae (fun w=>qH n.af w);have HK:=ae hk;clear hk;go_enter Tryz.func24,Tryz.ntmps24;go_upto_region 1 with (fail)
 clear hw1 hb;generalize hb0:w.heap.size=b0 at hx ⊢;obtain⟨x0,x1,x2,x3,x4,x5,x6,x7,av,aJ,aG,aH,aI,aF⟩:=hx.cells;have HX:=ae hx;clear hx;have hk:=HK.o;rw[hk]at x0;by_cases eY:n.text=⟨#[]⟩;rotate_left
 · have t0:¬ n.text.toList=[]:=by rw[← ow];exact pR _ _ eY
   have t1:n.text.toList.isEmpty=false:=by simpa using t0
   have HR:=ae (show aD n=false by unfold aD;simp[hk,eY]);exact absurd HR.o (by rw[bZ.o];decide)
 have t0:=ow;rw[eY]at x2;cases hq1:fe n.ref
 · have nX:=ae hq1
   have HR:=ae (show aD n=false by unfold aD;simp[hk,eY,hq1]);exact absurd HR.o (by rw[bZ.o];decide)
 have nX:=ae hq1;cases hq2:fe n.af
 · have mg:=ae hq2
   have HR:=ae (show aD n=false by unfold aD;simp[hk,eY,hq1,hq2]);exact absurd HR.o (by rw[bZ.o];decide)
 have mg:=ae hq2;have HR:=ae (show aD n=decide (0≤n.num)by unfold aD;simp[hk,eY,hq1,hq2]);clear eY;clear hq1;clear hq2;clear hk
 go_wp2_with (first
  | (go_at_call 46;((with_reducible refine(dK.o _).mono ?_);rintro e w2 ⟨rfl,h1⟩;rw[nX.o];have HB2:=ae (HB.o.trans (h1.mono HB.o.size));have bT:=ae (HX.o.below h1 HX.o.lt);clear x0 x1 x2 x3 x4 x5 x6 x7 av aJ aG aH aI aF;obtain⟨x0,x1,x2,x3,x4,x5,x6,x7,av,aJ,aG,aH,aI,aF⟩:=bT.o.cells;rw[HK.o]at x0;clear h1;clear dK))
  | (go_at_call 46;((with_reducible refine(bS.o _).mono ?_);rintro e w3 ⟨rfl,h1⟩;rw[mg.o];have HB3:=ae (HB2.o.trans (h1.mono HB2.o.size));have dZ:=ae (bT.o.below h1 bT.o.lt);clear x0 x1 x2 x3 x4 x5 x6 x7 av aJ aG aH aI aF;obtain⟨x0,x1,x2,x3,x4,x5,x6,x7,av,aJ,aG,aH,aI,aF⟩:=dZ.o.cells;rw[HK.o]at x0;clear h1)))
 go_ret;exact⟨by rw[HR.o] <;> rfl,HB3.o⟩
theorem aeh (n:Nd)(hk:n.kind=2)(hs:n.text.size≤1000000)(_hr:n.ref.sh.size≤1000000)(_ht:n.af.sh.size≤1000000)(bQ:aD n=true)(A:Option Addr)(m c:Nat)(w:World):Calls Tryz.prog 24 #[.agg #[.int .i64 n.kind,.int .i64 n.num,.string n.text,.string n.ref.sh,.int .i64 n.ref.c,.int .i64 n.ref.r,.bool n.ref.ac,.bool n.ref.ar,.string n.af.sh,.int .i64 n.af.c,.int .i64 n.af.r,.bool n.af.ac,.bool n.af.ar,.slice A m c]] w fun e w'=>e = .returned (.bool (aD n))∧Below w.heap.size w w':=by
 have bZ:=ae bQ;clear bQ;obtain⟨w1,hw1,hx,hb⟩:=zW w n A m c;have HB:=ae hb;have dK:=ae (fun w=>qH n.ref w);have bS:=ae (fun w=>qH n.af w);have HK:=ae hk;clear hk;go_enter Tryz.func24,Tryz.ntmps24;go_upto_region 1 with (fail)
 clear hw1 hb;generalize hb0:w.heap.size=b0 at hx ⊢;obtain⟨x0,x1,x2,x3,x4,x5,x6,x7,av,aJ,aG,aH,aI,aF⟩:=hx.cells;have HX:=ae hx;clear hx;have hk:=HK.o;rw[hk]at x0;by_cases bE:n.num=0;rotate_left
 · have en:(n.num != 0)=true:=by rw[bne_iff_ne];exact bE
   have HR:=ae (show aD n=false by unfold aD;simp[hk,bE]);exact absurd HR.o (by rw[bZ.o];decide)
 rw[bE]at x1;cases hq1:fe n.ref
 · have nX:=ae hq1
   have HR:=ae (show aD n=false by unfold aD;simp[hk,bE,hq1]);exact absurd HR.o (by rw[bZ.o];decide)
 have nX:=ae hq1;cases hq2:fe n.af
 · have mg:=ae hq2
   have HR:=ae (show aD n=false by unfold aD;simp[hk,bE,hq1,hq2]);exact absurd HR.o (by rw[bZ.o];decide)
 have mg:=ae hq2;have HR:=ae (show aD n=lI (sb n.text)by unfold aD;simp[hk,bE,hq1,hq2]);clear bE;clear hq1;clear hq2;clear hk
 go_wp2_with (first
  | (go_at_call 46;((with_reducible refine(dK.o _).mono ?_);rintro e w2 ⟨rfl,h1⟩;rw[nX.o];have HB2:=ae (HB.o.trans (h1.mono HB.o.size));have bT:=ae (HX.o.below h1 HX.o.lt);clear x0 x1 x2 x3 x4 x5 x6 x7 av aJ aG aH aI aF;obtain⟨x0,x1,x2,x3,x4,x5,x6,x7,av,aJ,aG,aH,aI,aF⟩:=bT.o.cells;rw[HK.o]at x0;clear h1;clear dK))
  | (go_at_call 46;((with_reducible refine(bS.o _).mono ?_);rintro e w3 ⟨rfl,h1⟩;rw[mg.o];have HB3:=ae (HB2.o.trans (h1.mono HB2.o.size));have dZ:=ae (bT.o.below h1 bT.o.lt);clear x0 x1 x2 x3 x4 x5 x6 x7 av aJ aG aH aI aF;obtain⟨x0,x1,x2,x3,x4,x5,x6,x7,av,aJ,aG,aH,aI,aF⟩:=dZ.o.cells;rw[HK.o]at x0;clear h1))
  | (go_at_call 47;((with_reducible refine(aet _ _ hs).mono ?_);rintro e wp ⟨rfl,rfl⟩)))
 go_ret;exact⟨by rw[HR.o] <;> rfl,HB3.o⟩
theorem aei (n:Nd)(hk:n.kind=3)(_hs:n.text.size≤1000000)(_hr:n.ref.sh.size≤1000000)(_ht:n.af.sh.size≤1000000)(bQ:aD n=true)(A:Option Addr)(m c:Nat)(w:World):Calls Tryz.prog 24 #[.agg #[.int .i64 n.kind,.int .i64 n.num,.string n.text,.string n.ref.sh,.int .i64 n.ref.c,.int .i64 n.ref.r,.bool n.ref.ac,.bool n.ref.ar,.string n.af.sh,.int .i64 n.af.c,.int .i64 n.af.r,.bool n.af.ac,.bool n.af.ar,.slice A m c]] w fun e w'=>e = .returned (.bool (aD n))∧Below w.heap.size w w':=by
 have bZ:=ae bQ;clear bQ;obtain⟨w1,hw1,hx,hb⟩:=zW w n A m c;have HB:=ae hb;have dK:=ae (fun w=>qH n.ref w);have bS:=ae (fun w=>qH n.af w);have HK:=ae hk;clear hk;go_enter Tryz.func24,Tryz.ntmps24;go_upto_region 1 with (fail)
 clear hw1 hb;generalize hb0:w.heap.size=b0 at hx ⊢;obtain⟨x0,x1,x2,x3,x4,x5,x6,x7,av,aJ,aG,aH,aI,aF⟩:=hx.cells;have HX:=ae hx;clear hx;have hk:=HK.o;rw[hk]at x0;by_cases eY:n.text=⟨#[]⟩;rotate_left
 · have t0:¬ n.text.toList=[]:=by rw[← ow];exact pR _ _ eY
   have t1:n.text.toList.isEmpty=false:=by simpa using t0
   have HR:=ae (show aD n=false by unfold aD;simp[hk,eY]);exact absurd HR.o (by rw[bZ.o];decide)
 have t0:=ow;rw[eY]at x2;cases hq1:fe n.ref
 · have nX:=ae hq1
   have HR:=ae (show aD n=false by unfold aD;simp[hk,eY,hq1]);exact absurd HR.o (by rw[bZ.o];decide)
 have nX:=ae hq1;cases hq2:fe n.af
 · have mg:=ae hq2
   have HR:=ae (show aD n=false by unfold aD;simp[hk,eY,hq1,hq2]);exact absurd HR.o (by rw[bZ.o];decide)
 have mg:=ae hq2;by_cases h0:n.num=0
 · have HR:=ae (show aD n=true by unfold aD;simp[hk,eY,hq1,hq2,h0])
   have e0:(n.num == 0)=true:=beq_iff_eq.2 h0;clear eY;clear hq1;clear hq2;clear hk;clear h0
   go_wp2_with (first
    | (go_at_call 46;((with_reducible refine(dK.o _).mono ?_);rintro e w2 ⟨rfl,h1⟩;rw[nX.o];have HB2:=ae (HB.o.trans (h1.mono HB.o.size));have bT:=ae (HX.o.below h1 HX.o.lt);clear x0 x1 x2 x3 x4 x5 x6 x7 av aJ aG aH aI aF;obtain⟨x0,x1,x2,x3,x4,x5,x6,x7,av,aJ,aG,aH,aI,aF⟩:=bT.o.cells;rw[HK.o]at x0;clear h1;clear dK))
    | (go_at_call 46;((with_reducible refine(bS.o _).mono ?_);rintro e w3 ⟨rfl,h1⟩;rw[mg.o];have HB3:=ae (HB2.o.trans (h1.mono HB2.o.size));have dZ:=ae (bT.o.below h1 bT.o.lt);clear x0 x1 x2 x3 x4 x5 x6 x7 av aJ aG aH aI aF;obtain⟨x0,x1,x2,x3,x4,x5,x6,x7,av,aJ,aG,aH,aI,aF⟩:=dZ.o.cells;rw[HK.o]at x0;clear h1)))
   go_ret;exact⟨by rw[HR.o] <;> rfl,HB3.o⟩
 · have e0:(n.num == 0)=false:=beq_eq_false_iff_ne.2 h0
   by_cases h1:n.num=1
   · have e1:(n.num == 1)=true:=beq_iff_eq.2 h1
     have HR:=ae (show aD n=true by unfold aD;simp[hk,eY,hq1,hq2,h1]);clear eY;clear hq1;clear hq2;clear hk;clear h0 h1
     go_wp2_with (first
      | (go_at_call 46;((with_reducible refine(dK.o _).mono ?_);rintro e w2 ⟨rfl,h1⟩;rw[nX.o];have HB2:=ae (HB.o.trans (h1.mono HB.o.size));have bT:=ae (HX.o.below h1 HX.o.lt);clear x0 x1 x2 x3 x4 x5 x6 x7 av aJ aG aH aI aF;obtain⟨x0,x1,x2,x3,x4,x5,x6,x7,av,aJ,aG,aH,aI,aF⟩:=bT.o.cells;rw[HK.o]at x0;clear h1;clear dK))
      | (go_at_call 46;((with_reducible refine(bS.o _).mono ?_);rintro e w3 ⟨rfl,h1⟩;rw[mg.o];have HB3:=ae (HB2.o.trans (h1.mono HB2.o.size));have dZ:=ae (bT.o.below h1 bT.o.lt);clear x0 x1 x2 x3 x4 x5 x6 x7 av aJ aG aH aI aF;obtain⟨x0,x1,x2,x3,x4,x5,x6,x7,av,aJ,aG,aH,aI,aF⟩:=dZ.o.cells;rw[HK.o]at x0;clear h1)))
     go_ret;exact⟨by rw[HR.o] <;> rfl,HB3.o⟩
   · have e1:(n.num == 1)=false:=beq_eq_false_iff_ne.2 h1
     have HR:=ae (show aD n=false by unfold aD;simp[hk,eY,hq1,hq2,h0,h1]);exact absurd HR.o (by rw[bZ.o];decide)
theorem aej (n:Nd)(hk:n.kind=5)(_hs:n.text.size≤1000000)(hr:n.ref.sh.size≤1000000)(_ht:n.af.sh.size≤1000000)(bQ:aD n=true)(A:Option Addr)(m c:Nat)(w:World):Calls Tryz.prog 24 #[.agg #[.int .i64 n.kind,.int .i64 n.num,.string n.text,.string n.ref.sh,.int .i64 n.ref.c,.int .i64 n.ref.r,.bool n.ref.ac,.bool n.ref.ar,.string n.af.sh,.int .i64 n.af.c,.int .i64 n.af.r,.bool n.af.ac,.bool n.af.ar,.slice A m c]] w fun e w'=>e = .returned (.bool (aD n))∧Below w.heap.size w w':=by
 have bZ:=ae bQ;clear bQ;obtain⟨w1,hw1,hx,hb⟩:=zW w n A m c;have HB:=ae hb;have dK:=ae (fun w=>qH n.ref w);have bS:=ae (fun w=>qH n.af w);have HK:=ae hk;clear hk;go_enter Tryz.func24,Tryz.ntmps24;go_upto_region 1 with (fail)
 clear hw1 hb;generalize hb0:w.heap.size=b0 at hx ⊢;obtain⟨x0,x1,x2,x3,x4,x5,x6,x7,av,aJ,aG,aH,aI,aF⟩:=hx.cells;have HX:=ae hx;clear hx;have hk:=HK.o;rw[hk]at x0;by_cases bE:n.num=0;rotate_left
 · have en:(n.num != 0)=true:=by rw[bne_iff_ne];exact bE
   have HR:=ae (show aD n=false by unfold aD;simp[hk,bE]);exact absurd HR.o (by rw[bZ.o];decide)
 rw[bE]at x1;by_cases eY:n.text=⟨#[]⟩;rotate_left
 · have t0:¬ n.text.toList=[]:=by rw[← ow];exact pR _ _ eY
   have t1:n.text.toList.isEmpty=false:=by simpa using t0
   have HR:=ae (show aD n=false by unfold aD;simp[hk,bE,eY]);exact absurd HR.o (by rw[bZ.o];decide)
 have t0:=ow;rw[eY]at x2;cases hq2:fe n.af
 · have mg:=ae hq2
   have HR:=ae (show aD n=false by unfold aD;simp[hk,bE,eY,hq2]);exact absurd HR.o (by rw[bZ.o];decide)
 have mg:=ae hq2;have HR:=ae (show aD n=bO n.ref by unfold aD;simp[hk,bE,eY,hq2]);clear bE;clear eY;clear hq2;clear hk
 go_wp2_with (first
  | (go_at_call 46;((with_reducible refine(bS.o _).mono ?_);rintro e w2 ⟨rfl,h1⟩;rw[mg.o];have HB2:=ae (HB.o.trans (h1.mono HB.o.size));have bT:=ae (HX.o.below h1 HX.o.lt);clear x0 x1 x2 x3 x4 x5 x6 x7 av aJ aG aH aI aF;obtain⟨x0,x1,x2,x3,x4,x5,x6,x7,av,aJ,aG,aH,aI,aF⟩:=bT.o.cells;rw[HK.o]at x0;clear h1))
  | (go_at_call 50;((with_reducible refine(pE _ _ _ _ _ _ hr).mono ?_);rintro e wp ⟨rfl,h1⟩;have Vm:=ae (HB2.o.trans (h1.mono HB2.o.size));clear h1)))
 go_ret;exact⟨by rw[HR.o] <;> rfl,Vm.o⟩
theorem aek (n:Nd)(hk:n.kind=6)(_hs:n.text.size≤1000000)(hr:n.ref.sh.size≤1000000)(ht:n.af.sh.size≤1000000)(bQ:aD n=true)(A:Option Addr)(m c:Nat)(w:World):Calls Tryz.prog 24 #[.agg #[.int .i64 n.kind,.int .i64 n.num,.string n.text,.string n.ref.sh,.int .i64 n.ref.c,.int .i64 n.ref.r,.bool n.ref.ac,.bool n.ref.ar,.string n.af.sh,.int .i64 n.af.c,.int .i64 n.af.r,.bool n.af.ac,.bool n.af.ar,.slice A m c]] w fun e w'=>e = .returned (.bool (aD n))∧Below w.heap.size w w':=by
 have bZ:=ae bQ;clear bQ;obtain⟨w1,hw1,hx,hb⟩:=zW w n A m c;have HB:=ae hb;have dK:=ae (fun w=>qH n.ref w);have bS:=ae (fun w=>qH n.af w);have HK:=ae hk;clear hk;go_enter Tryz.func24,Tryz.ntmps24;go_upto_region 1 with (fail)
 clear hw1 hb;generalize hb0:w.heap.size=b0 at hx ⊢;obtain⟨x0,x1,x2,x3,x4,x5,x6,x7,av,aJ,aG,aH,aI,aF⟩:=hx.cells;have HX:=ae hx;clear hx;have hk:=HK.o;rw[hk]at x0;by_cases bE:n.num=0;rotate_left
 · have en:(n.num != 0)=true:=by rw[bne_iff_ne];exact bE
   have HR:=ae (show aD n=false by unfold aD;simp[hk,bE]);exact absurd HR.o (by rw[bZ.o];decide)
 rw[bE]at x1;by_cases eY:n.text=⟨#[]⟩;rotate_left
 · have t0:¬ n.text.toList=[]:=by rw[← ow];exact pR _ _ eY
   have t1:n.text.toList.isEmpty=false:=by simpa using t0
   have HR:=ae (show aD n=false by unfold aD;simp[hk,bE,eY]);exact absurd HR.o (by rw[bZ.o];decide)
 have t0:=ow;rw[eY]at x2;cases q1:bO n.ref
 · have M1:=ae (show di (sb n.ref.sh) n.ref.c n.ref.r=false from q1)
   have HR:=ae (show aD n=false by unfold aD;simp[hk,bE,eY,q1]);exact absurd HR.o (by rw[bZ.o];decide)
 have M1:=ae (show di (sb n.ref.sh) n.ref.c n.ref.r=true from q1);cases q2:bO n.af
 · have M2:=ae (show di (sb n.af.sh) n.af.c n.af.r=false from q2)
   have HR:=ae (show aD n=false by unfold aD;simp[hk,bE,eY,q1,q2]);exact absurd HR.o (by rw[bZ.o];decide)
 have M2:=ae (show di (sb n.af.sh) n.af.c n.af.r=true from q2);have HR:=ae (show aD n=eD n.ref n.af by unfold aD;simp[hk,bE,eY,q1,q2]);clear q1 q2;clear bE;clear eY;clear hk
 go_wp2_with (first
  | (go_at_call 50;((with_reducible refine(pE n.ref.sh n.ref.c n.ref.r n.ref.ac n.ref.ar _ hr).mono ?_);rintro e w2 ⟨rfl,h1⟩;rw[M1.o];have HB2:=ae (HB.o.trans (h1.mono HB.o.size));have bT:=ae (HX.o.below h1 HX.o.lt);clear x0 x1 x2 x3 x4 x5 x6 x7 av aJ aG aH aI aF;obtain⟨x0,x1,x2,x3,x4,x5,x6,x7,av,aJ,aG,aH,aI,aF⟩:=bT.o.cells;rw[HK.o]at x0;clear h1;clear M1))
  | (go_at_call 50;((with_reducible refine(pE n.af.sh n.af.c n.af.r n.af.ac n.af.ar _ ht).mono ?_);rintro e w3 ⟨rfl,h1⟩;rw[M2.o];have HB3:=ae (HB2.o.trans (h1.mono HB2.o.size));have dZ:=ae (bT.o.below h1 bT.o.lt);clear x0 x1 x2 x3 x4 x5 x6 x7 av aJ aG aH aI aF;obtain⟨x0,x1,x2,x3,x4,x5,x6,x7,av,aJ,aG,aH,aI,aF⟩:=dZ.o.cells;rw[HK.o]at x0;clear h1))
  | (go_at_call 51;((with_reducible refine(Tq _ _ _ _ _ _ _ _ _ _ _).mono ?_);rintro e w4 ⟨rfl,h1⟩;have dJ:=ae (HB3.o.trans (h1.mono HB3.o.size));clear h1)))
 go_ret;exact⟨by rw[HR.o] <;> rfl,dJ.o⟩
theorem aen (n:Nd)(k1:¬ n.kind=1)(k2:¬ n.kind=2)(k3:¬ n.kind=3)(k5:¬ n.kind=5)(k6:¬ n.kind=6)(k7:¬ n.kind=7)(_hs:n.text.size≤1000000)(_hr:n.ref.sh.size≤1000000)(_ht:n.af.sh.size≤1000000)(bQ:aD n=true)(A:Option Addr)(m c:Nat)(w:World):Calls Tryz.prog 24 #[.agg #[.int .i64 n.kind,.int .i64 n.num,.string n.text,.string n.ref.sh,.int .i64 n.ref.c,.int .i64 n.ref.r,.bool n.ref.ac,.bool n.ref.ar,.string n.af.sh,.int .i64 n.af.c,.int .i64 n.af.r,.bool n.af.ac,.bool n.af.ar,.slice A m c]] w fun e w'=>e = .returned (.bool (aD n))∧Below w.heap.size w w':=by
 have bZ:=ae bQ;clear bQ;obtain⟨w1,hw1,hx,hb⟩:=zW w n A m c;have HB:=ae hb;have dK:=ae (fun w=>qH n.ref w);have bS:=ae (fun w=>qH n.af w);go_enter Tryz.func24,Tryz.ntmps24;go_upto_region 1 with (fail)
 clear hw1 hb;generalize hb0:w.heap.size=b0 at hx ⊢;obtain⟨x0,x1,x2,x3,x4,x5,x6,x7,av,aJ,aG,aH,aI,aF⟩:=hx.cells;have HX:=ae hx;clear hx;obtain⟨kd,hkd⟩:∃kd,n.kind=kd:=⟨_,rfl⟩;rw[hkd]at x0;have HK:=ae hkd;have e1:(kd == 1)=false:=beq_eq_false_iff_ne.2 (by omega);have d1:(kd != 1)=true:=by rw[bne,e1];rfl
 have e2:(kd == 2)=false:=beq_eq_false_iff_ne.2 (by omega);have d2:(kd != 2)=true:=by rw[bne,e2];rfl
 have e3:(kd == 3)=false:=beq_eq_false_iff_ne.2 (by omega);have d3:(kd != 3)=true:=by rw[bne,e3];rfl
 have e5:(kd == 5)=false:=beq_eq_false_iff_ne.2 (by omega);have d5:(kd != 5)=true:=by rw[bne,e5];rfl
 have e6:(kd == 6)=false:=beq_eq_false_iff_ne.2 (by omega);have d6:(kd != 6)=true:=by rw[bne,e6];rfl
 have e7:(kd == 7)=false:=beq_eq_false_iff_ne.2 (by omega);have d7:(kd != 7)=true:=by rw[bne,e7];rfl
 by_cases bE:n.num=0;rotate_left
 · have en:(n.num != 0)=true:=by rw[bne_iff_ne];exact bE
   have HR:=ae (show aD n=false by unfold aD;simp[k1,k2,k3,k5,k6,k7,bE]);exact absurd HR.o (by rw[bZ.o];decide)
 rw[bE]at x1;by_cases eY:n.text=⟨#[]⟩;rotate_left
 · have t0:¬ n.text.toList=[]:=by rw[← ow];exact pR _ _ eY
   have t1:n.text.toList.isEmpty=false:=by simpa using t0
   have HR:=ae (show aD n=false by unfold aD;simp[k1,k2,k3,k5,k6,k7,bE,eY]);exact absurd HR.o (by rw[bZ.o];decide)
 have t0:=ow;rw[eY]at x2;cases hq1:fe n.ref
 · have nX:=ae hq1
   have HR:=ae (show aD n=false by unfold aD;simp[k1,k2,k3,k5,k6,k7,bE,eY,hq1]);exact absurd HR.o (by rw[bZ.o];decide)
 have nX:=ae hq1;cases hq2:fe n.af
 · have mg:=ae hq2
   have HR:=ae (show aD n=false by unfold aD;simp[k1,k2,k3,k5,k6,k7,bE,eY,hq1,hq2]);exact absurd HR.o (by rw[bZ.o];decide)
 have mg:=ae hq2;have HR:=ae (show aD n=true by unfold aD;simp[k1,k2,k3,k5,k6,k7,bE,eY,hq1,hq2]);clear bE;clear eY;clear hq1;clear hq2
 go_wp2_with (first
  | (go_at_call 46;((with_reducible refine(dK.o _).mono ?_);rintro e w2 ⟨rfl,h1⟩;rw[nX.o];have HB2:=ae (HB.o.trans (h1.mono HB.o.size));have bT:=ae (HX.o.below h1 HX.o.lt);clear x0 x1 x2 x3 x4 x5 x6 x7 av aJ aG aH aI aF;obtain⟨x0,x1,x2,x3,x4,x5,x6,x7,av,aJ,aG,aH,aI,aF⟩:=bT.o.cells;rw[HK.o]at x0;clear h1;clear dK))
  | (go_at_call 46;((with_reducible refine(bS.o _).mono ?_);rintro e w3 ⟨rfl,h1⟩;rw[mg.o];have HB3:=ae (HB2.o.trans (h1.mono HB2.o.size));have dZ:=ae (bT.o.below h1 bT.o.lt);clear x0 x1 x2 x3 x4 x5 x6 x7 av aJ aG aH aI aF;obtain⟨x0,x1,x2,x3,x4,x5,x6,x7,av,aJ,aG,aH,aI,aF⟩:=dZ.o.cells;rw[HK.o]at x0;clear h1)))
 go_ret;exact⟨by rw[HR.o] <;> rfl,HB3.o⟩
theorem ael (n:Nd)(hk:n.kind=7)(hs:n.text.size≤1000000)(_hr:n.ref.sh.size≤1000000)(_ht:n.af.sh.size≤1000000)(bQ:aD n=true)(A:Option Addr)(m c:Nat)(w:World):Calls Tryz.prog 24 #[.agg #[.int .i64 n.kind,.int .i64 n.num,.string n.text,.string n.ref.sh,.int .i64 n.ref.c,.int .i64 n.ref.r,.bool n.ref.ac,.bool n.ref.ar,.string n.af.sh,.int .i64 n.af.c,.int .i64 n.af.r,.bool n.af.ac,.bool n.af.ar,.slice A m c]] w fun e w'=>e = .returned (.bool (aD n))∧Below w.heap.size w w':=by
 have bZ:=ae bQ;clear bQ;obtain⟨w1,hw1,hx,hb⟩:=zW w n A m c;have HB:=ae hb;have dK:=ae (fun w=>qH n.ref w);have bS:=ae (fun w=>qH n.af w);have HK:=ae hk;clear hk;go_enter Tryz.func24,Tryz.ntmps24;go_upto_region 1 with (fail)
 clear hw1 hb;generalize hb0:w.heap.size=b0 at hx ⊢;obtain⟨x0,x1,x2,x3,x4,x5,x6,x7,av,aJ,aG,aH,aI,aF⟩:=hx.cells;have HX:=ae hx;clear hx;have hk:=HK.o;rw[hk]at x0;by_cases bE:n.num=0;rotate_left
 · have en:(n.num != 0)=true:=by rw[bne_iff_ne];exact bE
   have HR:=ae (show aD n=false by unfold aD;simp[hk,bE]);exact absurd HR.o (by rw[bZ.o];decide)
 rw[bE]at x1;cases hq1:fe n.ref
 · have nX:=ae hq1
   have HR:=ae (show aD n=false by unfold aD;simp[hk,bE,hq1]);exact absurd HR.o (by rw[bZ.o];decide)
 have nX:=ae hq1;cases hq2:fe n.af
 · have mg:=ae hq2
   have HR:=ae (show aD n=false by unfold aD;simp[hk,bE,hq1,hq2]);exact absurd HR.o (by rw[bZ.o];decide)
 have mg:=ae hq2;obtain⟨tx,htx⟩:∃tx,n.text=tx:=⟨_,rfl⟩;have HC:=ae (show aD n=jy tx by unfold aD;simp[hk,bE,hq1,hq2];rw[htx]);have nY:=ae htx;rw[htx]at hs;clear bE;clear hq1;clear hq2;clear hk;clear htx;have q1:=yP tx ⟨#[84,82,85,69]⟩;have q2:=yP tx ⟨#[70,65,76,83,69]⟩;rw[F5]at q1;rw[F4]at q2;cases hq:gH tx with
 | some d =>
   have oU:=ae (fun (e:Ending)(he:mV (sb tx) e)=>GR hq he);have HQ:=ae hq;clear hq
   go_upto_region 12 with (first
    | (go_at_call 46;((with_reducible refine(dK.o _).mono ?_);rintro e w2 ⟨rfl,h1⟩;rw[nX.o];have HB2:=ae (HB.o.trans (h1.mono HB.o.size));have bT:=ae (HX.o.below h1 HX.o.lt);clear x0 x1 x2 x3 x4 x5 x6 x7 av aJ aG aH aI aF;obtain⟨x0,x1,x2,x3,x4,x5,x6,x7,av,aJ,aG,aH,aI,aF⟩:=bT.o.cells;rw[nY.o]at x2;rw[HK.o]at x0;clear h1;clear dK))
    | (go_at_call 46;((with_reducible refine(bS.o _).mono ?_);rintro e w3 ⟨rfl,h1⟩;rw[mg.o];have HB3:=ae (HB2.o.trans (h1.mono HB2.o.size));have dZ:=ae (bT.o.below h1 bT.o.lt);clear x0 x1 x2 x3 x4 x5 x6 x7 av aJ aG aH aI aF;obtain⟨x0,x1,x2,x3,x4,x5,x6,x7,av,aJ,aG,aH,aI,aF⟩:=dZ.o.cells;rw[nY.o]at x2;rw[HK.o]at x0;clear h1))
    | (go_at_call 48;((with_reducible refine(BG tx _ hs).mono ?_);rintro e w4 ⟨h1,h2⟩;obtain rfl:=oU.o e h1;clear h1;have dJ:=ae (HB3.o.trans (h2.mono HB3.o.size));have nJ:=ae (dZ.o.below h2 dZ.o.lt);clear h2)))
   have zo:Below w4.heap.size w4 (w4.alloc (.cells #[.string d.sh,.int .i64 d.c,.int .i64 d.r,.bool d.ac,.bool d.ar] 43)):=(ai _ _).alloc (ah _) _;have eP:=ae (dJ.o.trans (zo.mono dJ.o.size));have nK:=ae (nJ.o.below zo nJ.o.lt);clear zo x0 x1 x2 x3 x4 x5 x6 x7 av aJ aG aH aI aF;generalize w4.alloc (.cells #[.string d.sh,.int .i64 d.c,.int .i64 d.r,.bool d.ac,.bool d.ar] 43)=w5 at eP nK ⊢;obtain⟨x0,x1,x2,x3,x4,x5,x6,x7,av,aJ,aG,aH,aI,aF⟩:=nK.o.cells;rw[nY.o]at x2;cases hc:jb (sb tx)
   · have AJ:=ae hc
     have HR:=ae (show aD n=false by rw[HC.o];unfold jy;rw[HQ.o,hc];rfl);exact absurd HR.o (by rw[bZ.o];decide)
   have AJ:=ae hc;have HR:=ae (show aD n=false by rw[HC.o];unfold jy;rw[HQ.o,hc];rfl);exact absurd HR.o (by rw[bZ.o];decide)
 | none =>
   have oU:=ae (fun (e:Ending)(he:mV (sb tx) e)=>GQ hq he);have HQ:=ae hq;clear hq
   go_upto_region 12 with (first
    | (go_at_call 46;((with_reducible refine(dK.o _).mono ?_);rintro e w2 ⟨rfl,h1⟩;rw[nX.o];have HB2:=ae (HB.o.trans (h1.mono HB.o.size));have bT:=ae (HX.o.below h1 HX.o.lt);clear x0 x1 x2 x3 x4 x5 x6 x7 av aJ aG aH aI aF;obtain⟨x0,x1,x2,x3,x4,x5,x6,x7,av,aJ,aG,aH,aI,aF⟩:=bT.o.cells;rw[nY.o]at x2;rw[HK.o]at x0;clear h1;clear dK))
    | (go_at_call 46;((with_reducible refine(bS.o _).mono ?_);rintro e w3 ⟨rfl,h1⟩;rw[mg.o];have HB3:=ae (HB2.o.trans (h1.mono HB2.o.size));have dZ:=ae (bT.o.below h1 bT.o.lt);clear x0 x1 x2 x3 x4 x5 x6 x7 av aJ aG aH aI aF;obtain⟨x0,x1,x2,x3,x4,x5,x6,x7,av,aJ,aG,aH,aI,aF⟩:=dZ.o.cells;rw[nY.o]at x2;rw[HK.o]at x0;clear h1))
    | (go_at_call 48;((with_reducible refine(BG tx _ hs).mono ?_);rintro e w4 ⟨h1,h2⟩;obtain rfl:=oU.o e h1;clear h1;have dJ:=ae (HB3.o.trans (h2.mono HB3.o.size));have nJ:=ae (dZ.o.below h2 dZ.o.lt);clear h2)))
   have zo:Below w4.heap.size w4 (w4.alloc (.cells #[.string ⟨#[]⟩,.int .i64 0,.int .i64 0,.bool false,.bool false] 43)):=(ai _ _).alloc (ah _) _;have eP:=ae (dJ.o.trans (zo.mono dJ.o.size));have nK:=ae (nJ.o.below zo nJ.o.lt);clear zo x0 x1 x2 x3 x4 x5 x6 x7 av aJ aG aH aI aF;generalize w4.alloc (.cells #[.string ⟨#[]⟩,.int .i64 0,.int .i64 0,.bool false,.bool false] 43)=w5 at eP nK ⊢;obtain⟨x0,x1,x2,x3,x4,x5,x6,x7,av,aJ,aG,aH,aI,aF⟩:=nK.o.cells;rw[nY.o]at x2;cases hc:jb (sb tx)
   · have AJ:=ae hc
     have HR:=ae (show aD n=false by rw[HC.o];unfold jy;rw[HQ.o,hc];rfl);exact absurd HR.o (by rw[bZ.o];decide)
   have AJ:=ae hc;by_cases g1:tx=⟨#[84,82,85,69]⟩
   · rw[decide_eq_true g1]at q1
     have Li:(tx.toList != [84,82,85,69])=false:=by rw[bne,q1];rfl
     have HR:=ae (show aD n=false by rw[HC.o];unfold jy;rw[HQ.o,hc,decide_eq_false (show ¬ ¬ tx=_ from fun h=>h g1)];rfl);exact absurd HR.o (by rw[bZ.o];decide)
   rw[decide_eq_false g1]at q1;have Li:(tx.toList != [84,82,85,69])=true:=by rw[bne,q1];rfl
   by_cases g2:tx=⟨#[70,65,76,83,69]⟩
   · rw[decide_eq_true g2]at q2
     have Lj:(tx.toList != [70,65,76,83,69])=false:=by rw[bne,q2];rfl
     have HR:=ae (show aD n=false by rw[HC.o];unfold jy;rw[HQ.o,hc,decide_eq_false (show ¬ ¬ tx=⟨#[70,65,76,83,69]⟩from fun h=>h g2)];simp);exact absurd HR.o (by rw[bZ.o];decide)
   rw[decide_eq_false g2]at q2;have Lj:(tx.toList != [70,65,76,83,69])=true:=by rw[bne,q2];rfl
   have HR:=ae (show aD n=true by rw[HC.o];unfold jy;rw[HQ.o,hc,decide_eq_true g1,decide_eq_true g2];rfl);clear hc g1 g2;go_wp2_with ((go_at_call 49;((with_reducible refine(Lt tx _ hs).mono ?_);rintro e wq ⟨rfl,rfl⟩;rw[AJ.o])))
   go_ret;exact⟨by rw[HR.o] <;> rfl,eP.o⟩
theorem aem (n:Nd)(hs:n.text.size≤1000000)(hr:n.ref.sh.size≤1000000)(ht:n.af.sh.size≤1000000)(bQ:aD n=true)(A:Option Addr)(m c:Nat)(w:World):Calls Tryz.prog 24 #[.agg #[.int .i64 n.kind,.int .i64 n.num,.string n.text,.string n.ref.sh,.int .i64 n.ref.c,.int .i64 n.ref.r,.bool n.ref.ac,.bool n.ref.ar,.string n.af.sh,.int .i64 n.af.c,.int .i64 n.af.r,.bool n.af.ac,.bool n.af.ar,.slice A m c]] w fun e w'=>e = .returned (.bool (aD n))∧Below w.heap.size w w':=by
 by_cases h1:n.kind=1
 · exact aeg n h1 hs hr ht bQ A m c w
 by_cases h2:n.kind=2
 · exact aeh n h2 hs hr ht bQ A m c w
 by_cases h3:n.kind=3
 · exact aei n h3 hs hr ht bQ A m c w
 by_cases h5:n.kind=5
 · exact aej n h5 hs hr ht bQ A m c w
 by_cases h6:n.kind=6
 · exact aek n h6 hs hr ht bQ A m c w
 by_cases h7:n.kind=7
 · exact ael n h7 hs hr ht bQ A m c w
 exact aen n h1 h2 h3 h5 h6 h7 hs hr ht bQ A m c w
theorem aeE (w:World)(v:Value)(vs:List (Nd × Value))(h:eF w w.heap.size v vs)(hz:SZ vs)(bQ:bR (vs.map (·.1))=true):Calls Tryz.prog 14 #[v] w fun e w'=>e = .returned (.bool true)∧Below w.heap.size w w':=by
 obtain⟨⟨A,cap,rfl,hat⟩,uF⟩:=h;obtain⟨hlen,hsz⟩:=hz;obtain⟨nl,hnl⟩:∃nl,vs.length=nl:=⟨_,rfl⟩;rw[hnl]at hlen ⊢;have bZ:=ae bQ;clear bQ;have HAT:=ae hat;have Cm:=ae uF;have q9:=ae hsz;have iW:=ae hnl;obtain⟨eb,jK,bV⟩:=Elem.kid;have jH:=ae bV;clear hat uF hsz hnl bV;go_enter Tryz.func14,Tryz.ntmps14;go_upto_region 3 with (fail)
 go_loopw [3,4] (fun rv iv wr=>∃(i:Nat)(st:List Int)(rk:Value),i≤nl∧st.length≤i∧rk=rv∧iv = .int .i64 (i:Int)∧Hid (bR (vs.map (·.1))=mI st i ((vs.map (·.1)).drop i))∧Hid (Own (aK .i64) 3 wr w.heap.size rk st)∧Hid (Below w.heap.size w wr))
  (fun _ iv _=>nl - (intOf iv).toNat)
 case atStart=>exact⟨0,[],.slice none 0 0,dV _,ah _,rfl,rfl,ae rfl,ae (Own.nil _ _ _ _),ae (ai _ _)⟩
 case round =>
  obtain⟨i,st,rk,hi,hsi,rfl,rfl,HT,HO,HB⟩:=hrel;by_cases hlt:i<nl
  · have hii : (i:Int)<(nl:Int):=by omega
    obtain⟨⟨n,k⟩,hnk⟩:∃q,vs[i]? = some q:=⟨_,dm (by rw[iW.o];exact hlt)⟩;have bW:=fu hnk;obtain⟨hz1,hz2,hz3⟩:=q9.o _ bW;have HZ1:=ae hz1;have HZ2:=ae hz2;have HZ3:=ae hz3;clear hz1 hz2 hz3;have qp:ig w w.heap.size k n.kids:=Cm.o _ bW;obtain⟨aN,ck,hk,hkc,dn,iK⟩:=id qp;obtain⟨m,hm⟩:∃m,n.kids.length=m:=⟨_,rfl⟩;rw[hm]at hk hkc;subst hk;have hmm:m≤maxLen:=bF hkc dn;have hmx:m≤9223372036854775807:=by unfold maxLen at hmm;omega
    have HM:=ae hm;have qU:=ae iK
    have HD:=ae (show(vs.map (·.1)).drop i=n :: (vs.map (·.1)).drop (i+1)by
     have hl:i<(vs.map (·.1)).length:=by rw[fw,iW.o];exact hlt
     rw[List.drop_eq_getElem_cons hl];congr 1;have h1:(vs.map (·.1))[i]? = some n:=by rw[iw,hnk];rfl
     rw[dm hl]at h1;exact dU h1)
    have Ib:=ae (show bX n=false→bR (vs.map (·.1))=false from fun e=>by rw[HT.o,HD.o,mJ,e,Bool.false_and]);rcases HAT.o with e|⟨pb,po,rfl,hpb,uE⟩
    · exfalso;rw[e]at hnk;simp at hnk
    have hcell:=uE i n _ hnk;have k0:wr.cell? ⟨pb,po+i*14,none⟩=some (.int .i64 n.kind):=(HB.o.cell (p:=⟨pb,po+i*14,none⟩) hpb).trans (hcell 0 (by omega));have k1:wr.cell? ⟨pb,po+i*14+1,none⟩=some (.int .i64 n.num):=(HB.o.cell (p:=⟨pb,po+i*14+1,none⟩) hpb).trans (hcell 1 (by omega));have k2:wr.cell? ⟨pb,po+i*14+2,none⟩=some (.string n.text):=(HB.o.cell (p:=⟨pb,po+i*14+2,none⟩) hpb).trans (hcell 2 (by omega));have k3:wr.cell? ⟨pb,po+i*14+3,none⟩=some (.string n.ref.sh):=(HB.o.cell (p:=⟨pb,po+i*14+3,none⟩) hpb).trans (hcell 3 (by omega));have k4:wr.cell? ⟨pb,po+i*14+4,none⟩=some (.int .i64 n.ref.c):=(HB.o.cell (p:=⟨pb,po+i*14+4,none⟩) hpb).trans (hcell 4 (by omega));have k5:wr.cell? ⟨pb,po+i*14+5,none⟩=some (.int .i64 n.ref.r):=(HB.o.cell (p:=⟨pb,po+i*14+5,none⟩) hpb).trans (hcell 5 (by omega));have k6:wr.cell? ⟨pb,po+i*14+6,none⟩=some (.bool n.ref.ac):=(HB.o.cell (p:=⟨pb,po+i*14+6,none⟩) hpb).trans (hcell 6 (by omega));have k7:wr.cell? ⟨pb,po+i*14+7,none⟩=some (.bool n.ref.ar):=(HB.o.cell (p:=⟨pb,po+i*14+7,none⟩) hpb).trans (hcell 7 (by omega));have k8:wr.cell? ⟨pb,po+i*14+8,none⟩=some (.string n.af.sh):=(HB.o.cell (p:=⟨pb,po+i*14+8,none⟩) hpb).trans (hcell 8 (by omega));have k9:wr.cell? ⟨pb,po+i*14+9,none⟩=some (.int .i64 n.af.c):=(HB.o.cell (p:=⟨pb,po+i*14+9,none⟩) hpb).trans (hcell 9 (by omega));have k10:wr.cell? ⟨pb,po+i*14+10,none⟩=some (.int .i64 n.af.r):=(HB.o.cell (p:=⟨pb,po+i*14+10,none⟩) hpb).trans (hcell 10 (by omega));have k11:wr.cell? ⟨pb,po+i*14+11,none⟩=some (.bool n.af.ac):=(HB.o.cell (p:=⟨pb,po+i*14+11,none⟩) hpb).trans (hcell 11 (by omega));have k12:wr.cell? ⟨pb,po+i*14+12,none⟩=some (.bool n.af.ar):=(HB.o.cell (p:=⟨pb,po+i*14+12,none⟩) hpb).trans (hcell 12 (by omega));have k13:wr.cell? ⟨pb,po+i*14+13,none⟩=some (.slice aN m ck):=(HB.o.cell (p:=⟨pb,po+i*14+13,none⟩) hpb).trans (hcell 13 (by omega));clear hcell uE hnk bW qp iK hm hkc dn hmm;have hL:st.length≤1000:=by omega
    have hB3:Below wr.heap.size wr (wr.alloc (.cells #[.int .i64 n.kind,.int .i64 n.num,.string n.text,.string n.ref.sh,.int .i64 n.ref.c,.int .i64 n.ref.r,.bool n.ref.ac,.bool n.ref.ar,.string n.af.sh,.int .i64 n.af.c,.int .i64 n.af.r,.bool n.af.ac,.bool n.af.ar,.slice aN m ck] 45)):=(ai _ _).alloc (ah _) _;have aB:ax (wr.alloc (.cells #[.int .i64 n.kind,.int .i64 n.num,.string n.text,.string n.ref.sh,.int .i64 n.ref.c,.int .i64 n.ref.r,.bool n.ref.ac,.bool n.ref.ar,.string n.af.sh,.int .i64 n.af.c,.int .i64 n.af.r,.bool n.af.ac,.bool n.af.ar,.slice aN m ck] 45)) wr.heap.size n (.slice aN m ck):=ax.new wr n _;have HB3:=ae (HB.o.trans (hB3.mono HB.o.size));have fZ:=ae (HO.o.alloc (.cells #[.int .i64 n.kind,.int .i64 n.num,.string n.text,.string n.ref.sh,.int .i64 n.ref.c,.int .i64 n.ref.r,.bool n.ref.ac,.bool n.ref.ar,.string n.af.sh,.int .i64 n.af.c,.int .i64 n.af.r,.bool n.af.ac,.bool n.af.ar,.slice aN m ck] 45));clear hB3;go_upto_region 6 with (fail)
    generalize hb3:wr.heap.size=b3 at aB ⊢;generalize wr.alloc (.cells #[.int .i64 n.kind,.int .i64 n.num,.string n.text,.string n.ref.sh,.int .i64 n.ref.c,.int .i64 n.ref.r,.bool n.ref.ac,.bool n.ref.ar,.string n.af.sh,.int .i64 n.af.c,.int .i64 n.af.r,.bool n.af.ac,.bool n.af.ar,.slice aN m ck] 45)=w3 at aB HB3 fZ ⊢;clear hb3 k0 k1 k2 k3 k4 k5 k6 k7 k8 k9 k10 k11 k12 k13 HO;obtain⟨x0,x1,x2,x3,x4,x5,x6,x7,av,aJ,aG,aH,aI,aF⟩:=aB.cells;have aB:=ae aB;obtain⟨a,ha⟩:∃a,jh n.kind=a:=⟨_,rfl⟩;have M7:=ae (show ∀w,Calls Tryz.prog 23 #[.int .i64 n.kind] w fun e w'=>e = .returned (.int .i64 a)∧w=w' from fun w=>by rw[← ha];exact aed _ w);have qW:=ae (show bX n=(aD n&&(decide (a = -1)||decide (a=(m:Int))))by rw[acW,ha,HM.o])
    have har:a = -1∨a = -2∨a=0∨a=1∨a=2:=by
     rw[← ha];unfold jh;split
     · omega
     split
     · omega
     split
     · omega
     split <;> omega
    clear ha;have key:(a = -1∨a=(m:Int))∨(¬ a = -1∧¬ a=(m:Int)):=by omega
    rcases key with key|⟨ka,kb⟩
    rotate_left
    · have ea:(a == -1)=false:=beq_eq_false_iff_ne.2 ka
      have HT2:=ae (show bR (vs.map (·.1))=false from Ib.o (by rw[qW.o,decide_eq_false ka,decide_eq_false kb,Bool.or_self,Bool.and_false]));exact absurd HT2.o (by rw[bZ.o];decide)
    have Iz:=ae (show bX n=aD n by
     rw[qW.o];rcases key with e|e
     · rw[decide_eq_true e,Bool.true_or,Bool.and_true]
     · rw[decide_eq_true e,Bool.or_true,Bool.and_true])
    have hm0:¬ (m:Int)<0:=by omega
    have hmb:((m:Int) != (m:Int))=false:=by simp
    have Ol:(∃ea:(a == -1)=true,True)∨(∃ea:(a == -1)=false,a=(m:Int)):=by
     by_cases e:a = -1
     · exact .inl ⟨beq_iff_eq.2 e,trivial⟩
     · exact .inr ⟨beq_eq_false_iff_ne.2 e,by omega⟩
    clear key qW har;by_cases pg:m≤st.length;rotate_left
    · have HT2:=ae (show bR (vs.map (·.1))=false by rw[HT.o,HD.o,mJ,HM.o,decide_eq_false pg,Bool.false_and,Bool.and_false])
      exact absurd HT2.o (by rw[bZ.o];decide)
    have Z5:¬ (st.length:Int)<(m:Int):=by omega
    have Z6:¬ st.length<m:=by omega
    cases hlf:aD n
    · have HT2:=ae (show bR (vs.map (·.1))=false from Ib.o (by rw[Iz.o,hlf]))
      exact absurd HT2.o (by rw[bZ.o];decide)
    have Iq:=ae (show ∀w,Calls Tryz.prog 24 #[.agg #[.int .i64 n.kind,.int .i64 n.num,.string n.text,.string n.ref.sh,.int .i64 n.ref.c,.int .i64 n.ref.r,.bool n.ref.ac,.bool n.ref.ar,.string n.af.sh,.int .i64 n.af.c,.int .i64 n.af.r,.bool n.af.ac,.bool n.af.ar,.slice aN m ck]] w fun e w'=>e = .returned (.bool (aD n))∧Below w.heap.size w w' from fun w=>aem n HZ1.o HZ2.o HZ3.o hlf aN m ck w);rw[hlf]at Iq;have lF:=ae (show bX n=true by rw[Iz.o,hlf]);clear hlf Ib Iz
    have kN:=ae (show n.kids=[]∨∃kb eZ,aN=some ⟨kb,eZ,none⟩∧∀(j:Nat)(x:Int),n.kids[j]? = some x→w3.cell? ⟨kb,eZ+j,none⟩=some (.int .i64 x)from by
     rcases qU.o with e|⟨kb,eZ,e1,e2,e3⟩
     · exact .inl e
     · exact .inr ⟨kb,eZ,e1,fun j x hj=>(HB3.o.cell (p:=⟨kb,eZ+j,none⟩) e2).trans (e3 j x hj)⟩)
    have ZR:=qU.o
    have VC:=ae (show ∀kb eZ,aN=some ⟨kb,eZ,none⟩→n.kids≠[]→kb<w3.heap.size from by
     intro kb eZ e hne;rcases qU.o with e0|⟨kb',ko',e1,e2,e3⟩
     · exact absurd e0 hne
     · rw[e1]at e;injection e with e;injection e with e _ _
       have:=HB3.o.size;omega)
    clear ZR;obtain⟨f,hf⟩:∃f,st.length - m=f:=⟨_,rfl⟩
    have Ih:=ae (show bR (vs.map (·.1))=(decide (st.drop f=n.kids)&&mI (st.take f++[(i:Int)]) (i+1) ((vs.map (·.1)).drop (i+1)))by
     rw[HT.o,HD.o,mJ,lF.o,HM.o,decide_eq_true pg,hf,Bool.true_and,Bool.true_and])
    have hfm:f+m=st.length:=by omega
    rcases fZ.o.shape with ⟨rfl,hst⟩|⟨rg,vT,rfl,hrg,hrl,hrc,hrm⟩
    · have J9:m=0:=by rw[hst]at pg;simp at pg;omega
      have Z6:¬ 0<m:=by omega
      have Z5:¬ 0<(m:Int):=by omega
      have HST:=ae hst;have VD:=ae (show n.kids=[]from kg (by rw[HM.o,J9]));have Vs:=ae (show f=0 by rw[hst]at hfm;simp at hfm;omega);have VG:=ae J9;clear pg hst hf hfm J9;rcases Ol with ⟨ea, -⟩|⟨ea,rfl⟩
      all_goals
       go_upto_region 12 with (first
        | (go_at_call 23;((with_reducible refine(M7.o _).mono ?_);rintro e w4 ⟨rfl,rfl⟩))
        | (go_at_call 24;((with_reducible refine(Iq.o _).mono ?_);rintro e w5 ⟨rfl,h1⟩;have eP:=ae (HB3.o.trans (h1.mono HB3.o.size));clear h1)))
       go_loopw [7] (fun wW wq=>wW = .int .i64 0∧w5=wq) (fun _ _=>0)
       case atStart=>exact⟨rfl,rfl⟩
       case round =>
        obtain⟨rfl,rfl⟩:=hrel;have hmz:m=0:=VG.o;subst hmz;go_wp2_with (at_builtin;refine Hm jH.o (aK .i64) rfl (.tmp 75) (.tmp 77) rfl none 0 0 ([]:List Int) rfl (fun _=>⟨rfl,rfl⟩) rfl (fun b e=>by cases e) ⟨w5.heap.size,0,none⟩ 1 1 [(i:Int)] rfl rfl ?_ (by omega) ?_ ?_ ?_;exact gQ _ _ _ rfl;exact bF (Nat.mul_le_mul_left _ jK) (by omega);(unfold maxLen;omega);intro v' w7 h1 h2;have qY:=ae h1;have Ce:=ae h2;clear h1 h2)
        go_roundw
        case rel =>
         refine⟨i+1,[(i:Int)],v',by omega,by simp,rfl,by go_num,ae ?_,ae (qY.o.mono ?_),ae ?_⟩
         · rw[Ih.o,Vs.o,HST.o,VD.o];rfl
         · simp;have:=eP.o.size;omega
         · exact(eP.o.trans ((ai _ _).alloc eP.o.size _)).trans (Ce.o.mono (by simp;have:=eP.o.size;omega))
        case measure=>simp[intOf];omega
    · have hw1 : -9223372036854775808≤(st.length:Int) - (m:Int):=by omega
      have hw2:(st.length:Int) - (m:Int)≤9223372036854775807:=by omega
      have hfi:(st.length:Int) - (m:Int)=(f:Int):=by omega
      have Nj:=ae hfi;have HRL:=ae hrl;clear pg hf hfi hrl;rcases Ol with ⟨ea, -⟩|⟨ea,rfl⟩
      all_goals
       go_upto_region 12 with (first
        | (go_at_call 23;((with_reducible refine(M7.o _).mono ?_);rintro e w4 ⟨rfl,rfl⟩))
        | (go_at_call 24;((with_reducible refine(Iq.o _).mono ?_);rintro e w5 ⟨rfl,h1⟩;have eP:=ae (HB3.o.trans (h1.mono HB3.o.size));have vo:=ae (fZ.o.below h1 (ah _));have fP:=ae (aB.o.below h1 aB.o.lt);have Vl:=ae h1;clear h1)))
       clear x0 x1 x2 x3 x4 x5 x6 x7 av aJ aG aH aI aF;obtain⟨x0,x1,x2,x3,x4,x5,x6,x7,av,aJ,aG,aH,aI,aF⟩:=fP.o.cells;clear x0 x1 x2 x3 x4 x5 x6 x7 av aJ aG aH aI
       go_loopw [7] (fun wW wq=>∃j q:Nat,j≤m∧wW = .int .i64 (j:Int)∧Hid ((st.drop f).take j=n.kids.take j)∧w5.drewN q=wq) (fun wW _=>m - (intOf wW).toNat)
       case atStart=>exact⟨0,0,dV _,rfl,ae rfl,rfl⟩
       case round =>
        obtain⟨j,q,hj,rfl,aM,rfl⟩:=hrel;by_cases hjm:j<m
        · have hji:(j:Int)<(m:Int):=by omega
          obtain⟨x,hx⟩:∃x,st[f+j]? = some x:=⟨_,dm (by omega)⟩;obtain⟨y,hy⟩:∃y,n.kids[j]? = some y:=⟨_,dm (by rw[HM.o];exact hjm)⟩;rcases kN.o with e|⟨kb,eZ,rfl,hkc⟩
          · exfalso;rw[e]at hy;simp at hy
          have k1:=Sv vo.o (f+j) x hx;have k2:w5.cell? ⟨kb,eZ+j,none⟩=some (.int .i64 y):=(Vl.o.cell (p:=⟨kb,eZ+j,none⟩) (VC.o kb eZ rfl (by intro e;rw[e]at hy;simp at hy))).trans (hkc j y hy);have HX:=ae hx;have iY:=ae hy;have hz1 : -9223372036854775808≤(f:Int)+(j:Int):=by omega
          have hz2:(f:Int)+(j:Int)≤9223372036854775807:=by omega
          have hz3:(0:Int)≤(f:Int)+(j:Int):=by omega
          have Ku:(f:Int)+(j:Int)<(st.length:Int):=by omega
          clear hkc hx hy;have hfi:=Nj.o;by_cases hxy:x=y
          · have ex:(x != y)=false:=by rw[hxy];simp
            have HT2:=ae (Yw aM.o HX.o (by rw[hxy];exact iY.o));clear hxy;have W1:IntKind.i64.wrap ((st.length:Int) - (m:Int))=(f:Int):=by rw[gV];omega
            have W2:IntKind.i64.wrap ((f:Int)+(j:Int))=(f:Int)+(j:Int):=by rw[gV];omega
            have W3:((f:Int)+(j:Int)).toNat=f+j:=by omega
            go_wp2_with fail
            go_quiet (fail)
            clear W1 W2 W3;go_wp2_with fail
            go_roundw
            case rel=>exact⟨j+1,_,by omega,by go_num,HT2,by first|rfl|trivial⟩
            case measure=>simp[intOf];omega
          · have HR:=ae (show bR (vs.map (·.1))=false by rw[Ih.o,decide_eq_false (Yv HX.o iY.o hxy),Bool.false_and])
            exact absurd HR.o (by rw[bZ.o];decide)
        · have hji:¬ (j:Int)<(m:Int):=by omega
          have air:j=m:=by omega
          have xB:=ae (show st.drop f=n.kids by
           have h1:=aM.o;rw[pW (by rw[List.length_drop];omega),pW (by rw[HM.o];omega)]at h1;exact h1)
          have hfi:=Nj.o;have Db:f≤st.length:=by omega
          have hn0:(0:Int)≤(f:Int):=by omega
          have hn1:(f:Int)≤(vT:Int):=by omega
          have hn2:f≤vT:=by omega
          go_wp2_with (at_builtin;refine Hm jH.o (aK .i64) rfl (.tmp 75) (.tmp 77) rfl (some ⟨rg,0,none⟩) f f (st.take f) ?_ (fun h=>by cases h) ?_ ?_ ⟨w5.heap.size,0,none⟩ 1 1 [(i:Int)] rfl rfl ?_ (by omega) ?_ ?_ ?_;rfl;(rw[gK];omega);(intro b e;injection e with e;subst e;intro j' u hu;rw[Addr.add_mid,Nat.zero_add];exact Own.cells (((Sy vo.o f Db).drewN q).alloc _) j' u hu);exact gQ _ _ _ rfl;exact bF (Nat.mul_le_mul_left _ jK) (by omega);(unfold maxLen;omega);intro v' w7 h1 h2;have qY:=ae h1;have Ce:=ae h2;clear h1 h2)
          go_roundw
          case rel =>
           refine⟨i+1,st.take f++[(i:Int)],v',by omega,by simp;omega,rfl,by go_num,ae ?_,ae (qY.o.mono ?_),ae ?_⟩
           · rw[Ih.o,decide_eq_true xB.o,Bool.true_and]
           · simp;have:=eP.o.size;omega
           · exact(Below.alloc (o7 eP.o q) (o7 eP.o q).size _).trans (Ce.o.mono (by simp;have:=eP.o.size;omega))
          case measure=>simp[intOf];omega
  · have hii:¬ (i:Int)<(nl:Int):=by omega
    have hin:i=nl:=by omega
    have HT2:=ae (show bR (vs.map (·.1))=decide (st.length=1)by
     rw[HT.o,List.drop_of_length_le (by rw[fw,iW.o];omega)];rfl)
    rcases HO.o.shape with ⟨rfl,hst⟩|⟨rg,vT,rfl, -⟩
    · rw[hst]at HT2
      exact absurd HT2.o (by rw[bZ.o];decide)
    · by_cases h1:st.length=1
      · have Zg:((st.length:Int) == 1)=true:=by rw[beq_iff_eq];omega
        clear h1 HT2;go_wp2_with fail
        go_ret;exact⟨rfl,HB.o⟩
      · rw[decide_eq_false h1,bZ.o]at HT2
        exact absurd HT2.o (by decide)
theorem Tm (w:World)(v:Value)(l:List (Nd × Value))(h:eF w w.heap.size v l)(hz:SZ l)(hn:∀q∈l,q.1.num≤9223372036854775807)(hlen:(cB (l.map (·.1))).length≤1000000000)(bQ:bR (l.map (·.1))=true) :
 Calls Tryz.prog 6 #[v] w fun e w'=>e = .returned (.string (strOfNums (cB (l.map (·.1)))))∧Below w.heap.size w w':=by
 have HT:=ae (aeE w v l h hz bQ);obtain⟨ns,hns⟩:∃ns,l.map (·.1)=ns:=⟨_,rfl⟩;rw[hns]at hlen bQ ⊢;have ht:bR ns=true:=bQ;clear bQ
 · skip
   have C:nL w v l ns:=⟨h,hns,ht,hz.1,hz.2,hn⟩;have lH:=ahc ht;have hll:l.length=ns.length:=by rw[← hns,fw]
   obtain⟨L,hL⟩:∃L,l.length=L:=⟨_,rfl⟩
   have hp:cB ns=bq ns ((L - 1:Nat):Int):=by
    unfold cB bq;rw[if_pos ht];congr 1;omega
   rw[hp]at hlen ⊢;have HS:=ae (Ue C L (L - 1) (by omega) (by omega) hlen);obtain⟨A,cap,rfl⟩:=h.sP;have hL1:(L:Int) - 1=((L - 1:Nat):Int):=by omega
   have hlm:L≤1000:=by have:=hz.1;omega
   have hwr:IntKind.i64.wrap ((L:Int) - 1)=(L:Int) - 1:=by rw[gV];omega
   rw[hL]at HT HS ⊢;rw[← hL1]at HS;clear C h hz hn hlen hns ht hll hp lH hL hL1;go_enter Tryz.func6,Tryz.ntmps6
   go_wp2_with (first
    | (go_at_call 14;((with_reducible refine HT.o.mono ?_);rintro e w2 ⟨rfl,h1⟩;have HB2:=ae h1;clear h1))
    | (go_at_call 15;((with_reducible refine(HS.o _ HB2.o).mono ?_);rintro e w3 ⟨rfl,h1⟩;have HB3:=ae (HB2.o.trans (h1.mono HB2.o.size));clear h1)))
   go_ret;exact⟨by rfl,HB3.o⟩
theorem aeH (s:ByteArray)(w:World)(ns:List Nd)(hp:iB s (.ok ns)) :
 Calls Tryz.prog 17 #[.string s] w fun e w'=>Below w.heap.size w w'∧∃g cap vs,e = .returned (.agg #[.slice (some ⟨g,0,none⟩) ns.length cap,.int .i64 0])∧vs.map Prod.fst=ns∧eF w' w'.heap.size (.slice (some ⟨g,0,none⟩) ns.length cap) vs:=by
 refine(TL s w _ hp).mono ?_;rintro e w' ⟨hb,⟨c,h,_⟩|⟨ns',g,cap,vs,h,h1,he,h3,h4⟩⟩
 · cases h
 · injection h with h;subst h
   have hl:vs.length=ns.length:=by rw[← h1,fw]
   rw[hl]at he h3 h4;exact⟨hb,g,cap,_,he,(Mi vs).trans h1,h3.sn hl⟩
theorem aeI (t:ByteArray)(ns:List Nd)(hp:iB t (.ok ns))(ht:strOfNums (cB ns)=t)(w1 wr:World)(v:Value)(l:List (Nd × Value))(hm:l.map Prod.fst=ns)(hs:eF w1 w1.heap.size v l)(hr:Below w1.heap.size w1 wr) :
 Calls Tryz.prog 6 #[v] wr fun e w'=>e = .returned (.string t)∧Below wr.heap.size wr w':=by
 obtain⟨⟨ZT,_,Kr⟩,bE,hpl,aan,_⟩:=AY t ns hp;have hsz:=Ob t ns hp;have hl:l.length=ns.length:=by rw[← hm,fw]
 have:=Tm wr v l (hs.lift hr hr.size) ⟨by omega,fun p hp=>hsz p.1 (by rw[← hm];exact List.mem_map_of_mem hp)⟩ (fun p hp=>bE p.1 (by rw[← hm];exact List.mem_map_of_mem hp)) (by rw[show l.map (·.1)=ns from hm];omega) (by rw[show l.map (·.1)=ns from hm];exact Kr);rw[show l.map (·.1)=ns from hm,ht]at this;exact this
theorem aeW (s p:ByteArray)(hs:s.size≤300)(hp0:0<s.size)(x9:(s[0].toNat:Int)=61)(hr:s.extract 1 s.size=p)(vK:jC++p=s)(ns:List Nd)(hp:iB p (.ok ns))(qm:strOfNums (cB ns)=p)(w:World) :
 Calls Tryz.prog 8 #[.string s] w fun e w'=>e = .returned (.bool true)∧Below w.heap.size w w':=by
 have hi:¬ (300:Int)<(s.size:Int):=by omega
 have hi0:(0:Int)<(s.size:Int):=by omega
 have hi1:(1:Int)≤(s.size:Int):=by omega
 have hne:=rG s (by omega);have vN:s.toList.isEmpty=false:=by cases hq:s.toList with|nil=>exact absurd hq hne|cons a l=>rfl
 have Z7:(s.toList == [])=false:=beq_eq_false_iff_ne.2 hne;have hcc:(((⟨#[61]⟩:ByteArray)++p).toList == s.toList)=true:=by rw[show(⟨#[61]⟩:ByteArray)++p=s from vK];exact beq_self_eq_true _
 have Zx:(⟨#[61]⟩:ByteArray)++p=s:=vK;have hpz:¬ 9223372036854775807<1+p.size:=by rw[← hr,ByteArray.size_extract];omega
 have HA:=ae (aeH p w ns hp);have tN:=ae (fun (w1 wr:World)(v:Value)(l:List (Nd × Value))(hm:l.map Prod.fst=ns)(hs:eF w1 w1.heap.size v l)(hr:Below w1.heap.size w1 wr)=>aeI p ns hp qm w1 wr v l hm hs hr);obtain⟨L,hL⟩:∃L,ns.length=L:=⟨_,rfl⟩;rw[hL]at HA;clear hp qm hL hs vK;go_enter Tryz.func8,Tryz.ntmps8;go_upto_region 7 with (go_at_call 17;((with_reducible refine HA.o.mono ?_);rintro e w1 ⟨hb,g1,eU,l1,rfl,hm1,hs1⟩;have HB1:=ae hb;have Ir:=ae hm1;have gu:=ae hs1;clear hb hm1 hs1))
 have HK:=ae (jg.new w1 (.slice (some ⟨g1,0,none⟩) L eU) 0);have aU:=ae (show Below w1.heap.size w1 (w1.alloc (.cells #[.slice (some ⟨g1,0,none⟩) L eU,.int .i64 0] 49))from(ai _ _).alloc (ah _) _);obtain⟨b,hb⟩:∃b,w1.heap.size=b:=⟨_,rfl⟩;obtain⟨w2,hw2⟩:∃w2,w1.alloc (.cells #[.slice (some ⟨g1,0,none⟩) L eU,.int .i64 0] 49)=w2:=⟨_,rfl⟩;have bD:=ae (tN.o w1 w2 _ l1 Ir.o gu.o (by rw[← hw2];exact aU.o));rw[hw2]at HK aU ⊢;have HB2:=ae (HB1.o.trans (aU.o.mono HB1.o.size));rw[hb]at HK ⊢;clear hw2 hb;obtain⟨y0,y1⟩:=HK.o.facts;go_wp2_with (go_at_call 6;((with_reducible refine bD.o.mono ?_);rintro e w3 ⟨rfl,h1⟩;have H3:=ae (HB2.o.trans (h1.mono HB2.o.size));clear h1))
 go_ret;exact⟨rfl,H3.o⟩
theorem TH (s p:ByteArray)(hs:s.size≤300)(hp0:0<s.size)(x9:(s[0].toNat:Int)=61)(hr:s.extract 1 s.size=p)(vK:jC++p=s)(c:Int)(hp:iB p (.error c))(hc:c≠0)(w:World) :
 Calls Tryz.prog 8 #[.string s] w fun e w'=>e = .returned (.bool false)∧Below w.heap.size w w':=by
 have hi:¬ (300:Int)<(s.size:Int):=by omega
 have hi0:(0:Int)<(s.size:Int):=by omega
 have hi1:(1:Int)≤(s.size:Int):=by omega
 have hne:=rG s (by omega);have vN:s.toList.isEmpty=false:=by cases hq:s.toList with|nil=>exact absurd hq hne|cons a l=>rfl
 have Z7:(s.toList == [])=false:=beq_eq_false_iff_ne.2 hne;have hcc:(((⟨#[61]⟩:ByteArray)++p).toList == s.toList)=true:=by rw[show(⟨#[61]⟩:ByteArray)++p=s from vK];exact beq_self_eq_true _
 have Zx:(⟨#[61]⟩:ByteArray)++p=s:=vK;have hpz:¬ 9223372036854775807<1+p.size:=by rw[← hr,ByteArray.size_extract];omega
 have hc0:(c == 0)=false:=beq_eq_false_iff_ne.2 hc
 have HA:=ae (show Calls Tryz.prog 17 #[.string p] w fun e w'=>Below w.heap.size w w'∧e = .returned (.agg #[.slice none 0 0,.int .i64 c])from by
  refine(TL p w _ hp).mono ?_;rintro e w' ⟨hb,⟨c',h,_,he⟩|⟨_,_,_,_,h,_⟩⟩
  · injection h with h;subst h;exact⟨hb,he⟩
  · cases h)
 clear hp hs vK hc;go_enter Tryz.func8,Tryz.ntmps8;go_upto_region 7 with (go_at_call 17;((with_reducible refine HA.o.mono ?_);rintro e w1 ⟨hb,rfl⟩;have HB1:=ae hb;clear hb))
 have HK:=ae (jg.new w1 (.slice none 0 0) c);have aU:=ae (show Below w1.heap.size w1 (w1.alloc (.cells #[.slice none 0 0,.int .i64 c] 49))from(ai _ _).alloc (ah _) _);obtain⟨b,hb⟩:∃b,w1.heap.size=b:=⟨_,rfl⟩;obtain⟨w2,hw2⟩:∃w2,w1.alloc (.cells #[.slice none 0 0,.int .i64 c] 49)=w2:=⟨_,rfl⟩;rw[hw2]at HK aU ⊢;have HB2:=ae (HB1.o.trans (aU.o.mono HB1.o.size));rw[hb]at HK ⊢;clear hw2 hb;obtain⟨y0,y1⟩:=HK.o.facts;go_wp2_with fail
 go_ret;exact⟨rfl,HB2.o⟩
theorem aeX (s:ByteArray)(hs:300<s.size)(w:World):Calls Tryz.prog 8 #[.string s] w fun e w'=>e = .returned (.bool false)∧Below w.heap.size w w':=by
 have hi:(300:Int)<(s.size:Int):=by omega
 clear hs;go_enter Tryz.func8,Tryz.ntmps8;go_wp2_with fail
 go_ret;exact⟨rfl,ai _ _⟩
theorem aeY (ns:List Nd)(h:qa ns):∃b:Bool,(b=true→(jC++strOfNums (cB ns)).size≤300∧iB (strOfNums (cB ns)) (.ok ns))∧∀w:World,Calls Tryz.prog 8 #[.string (jC++strOfNums (cB ns))] w fun e w'=>e = .returned (.bool b)∧Below w.heap.size w w':=by
 obtain⟨p,hp⟩:∃p,strOfNums (cB ns)=p:=⟨_,rfl⟩;have hz:(jC++p).size=1+p.size:=by rw[ByteArray.size_append];rfl
 have h0:0<(jC++p).size:=by omega
 have x9:((jC++p)[0].toNat:Int)=61:=by
  have:(jC++p)[0]=jC[0]'(by decide):=ByteArray.getElem_append_left (by decide);rw[this];rfl
 have hr:(jC++p).extract 1 (jC++p).size=p:=by
  exact RQ jC p _ rfl rfl
 rw[hp];by_cases hs:300<(jC++p).size
 · exact⟨false,fun e=>absurd e (by decide),fun w=>aeX _ hs w⟩
 · by_cases hne:ns=[]
   · obtain⟨c,hpe,hc⟩:=adB
     have hp0:p=⟨#[]⟩:=by rw[← hp,hne];decide
     exact⟨false,fun e=>absurd e (by decide),fun w=>TH _ p (by omega) h0 x9 hr rfl c (by rw[hp0];exact hpe) hc w⟩
   · obtain⟨_,PX⟩:=h.told hne
     rw[hp]at PX;rcases PX with hok|⟨c,hpe,hc,_⟩
     · exact⟨true,fun _=>⟨by omega,hok⟩,fun w=>aeW _ p (by omega) h0 x9 hr rfl ns hok hp w⟩
     · exact⟨false,fun e=>absurd e (by decide),fun w=>TH _ p (by omega) h0 x9 hr rfl c hpe hc w⟩
theorem aeD (w:World)(A:Option Addr)(cap:Nat):Calls Tryz.prog 14 #[.slice A 0 cap] w fun e w'=>e = .returned (.bool false)∧Below w.heap.size w w':=by
 go_enter Tryz.func14,Tryz.ntmps14;go_upto_region 3 with (fail)
 go_loopw [3,4] (fun rv iv wr=>rv = .slice none 0 0∧iv = .int .i64 0∧Below w.heap.size w wr) (fun _ _ _=>0)
 case atStart=>exact⟨rfl,rfl,ai _ _⟩
 case round =>
  obtain⟨rfl,rfl,hb⟩:=hrel;have HB:=ae hb;clear hb;go_wp2_with fail
  go_ret;exact⟨rfl,HB.o⟩
theorem aes (w:World)(A:Option Addr)(cap:Nat):Calls Tryz.prog 6 #[.slice A 0 cap] w fun e w'=>e = .returned (.string ⟨#[]⟩)∧Below w.heap.size w w':=by
 have HT:=ae (aeD w A cap);go_enter Tryz.func6,Tryz.ntmps6
 go_wp2_with (first
  | (go_at_call 14;((with_reducible refine HT.o.mono ?_);rintro e w2 ⟨rfl,h1⟩;have HB2:=ae h1;clear h1)))
 go_ret;exact⟨rfl,HB2.o⟩
theorem ab9 (w:World)(v:Value)(l:List (Nd × Value))(hs:eF w w.heap.size v l)(hN:qa (l.map (·.1))) :
 Calls Tryz.prog 6 #[v] w fun e w'=>e = .returned (.string (strOfNums (cB (l.map (·.1)))))∧Below w.heap.size w w':=by
 by_cases h0:l=[]
 · subst h0
   obtain⟨A,cap,rfl⟩:=hs.sP;rw[show strOfNums (cB (([]:List (Nd × Value)).map (·.1)))=⟨#[]⟩by decide];exact aes w A cap
 · exact Tm w v l hs ⟨by have:=hN.few;rw[fw]at this;omega,fun p hp=>hN.G7 p.1 (List.mem_map_of_mem hp)⟩ (fun p hp=>hN.num p.1 (List.mem_map_of_mem hp)) (bF hN.len (by omega)) (hN.tree (by intro e;exact h0 (List.map_eq_nil_iff.1 e)))
theorem ab8 {ns:List Nd}(h:qa ns):¬ 9223372036854775807<1+(strOfNums (cB ns)).size:=by
 have:=h.len;rw[strOfNums_size];omega
end Go.Proofs.YtaobhjliflomaaaGreatDoor
