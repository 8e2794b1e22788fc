import Derived.Test.YtaobhjliflomaaaGreatDoorMW9
set_option maxRecDepth 100000
set_option maxHeartbeats 64000000
namespace Go.Proofs.YtaobhjliflomaaaGreatDoor
open Go.RowKit
variable {e:Ending}{c d:Int}{L:List (ByteArray × Int)}{vs:List aC}{ts:List ai}{B b deep gk gs j n p p' sl:Nat}{bq tv v:Value}{w w':World}{res:eQ}
def wB(w:World)(gs gk:Nat)(L:List (ByteArray × Int)):Prop:=w.heap[gs]? = some (.cells (L.map fun q=>Value.string q.1).toArray 9)∧w.heap[gk]? = some (.cells (L.map fun q=>Value.int .i64 q.2).toArray 3)
theorem wB.below (h:wB w gs gk L)(hb:Below w.heap.size w w'):wB w' gs gk L :=
 ⟨by rw[hb.block gs (dn.1 h.1).1];exact h.1,by rw[hb.block gk (dn.1 h.2).1];exact h.2⟩
theorem wB.fr (h:wB w gs gk L)(hf:Fr w w' b)(h1:b<gs)(h2:b<gk):wB w' gs gk L:=by
 refine⟨?_, ?_⟩
 · rw[hf.block gs (dn.1 h.1).1 (by omega) (.inr (by rintro⟨cur,fr,e⟩;rw[h.1]at e;injection e with e;injection e with _ e;exact absurd e (by decide)))];exact h.1
 · rw[hf.block gk (dn.1 h.2).1 (by omega) (.inr (by rintro⟨cur,fr,e⟩;rw[h.2]at e;injection e with e;injection e with _ e;exact absurd e (by decide)))];exact h.2
theorem wB.cells (h:wB w gs gk L)(j:Nat)(q:ByteArray × Int)(hj:L[j]? = some q):w.cell? ⟨gs,j,none⟩=some (.string q.1)∧w.cell? ⟨gk,j,none⟩=some (.int .i64 q.2):=by
 refine⟨?_, ?_⟩
 · rw[cell_of_row w gs j _ _ _ h.1];simp[hj]
 · rw[cell_of_row w gk j _ _ _ h.2];simp[hj]
def Pk (n:Nat)(w:World)(e:Ending)(w':World):Prop :=
 Below w.heap.size w w'∧∃gs gk,e = .returned (.tuple #[.slice (some ⟨gs,0,none⟩) (gp n).length (gp n).length,.slice (some ⟨gk,0,none⟩) (gp n).length (gp n).length])∧w.heap.size≤gs∧w.heap.size≤gk∧wB w' gs gk (gp n)
theorem acN (n:Nat)(w:World)(A B:Array Value)(h1:A=((gp n).map fun q=>Value.string q.1).toArray)(h2:B=((gp n).map fun q=>Value.int .i64 q.2).toArray) :
 Pk n w (.returned (.tuple #[.slice (some ⟨w.heap.size,0,none⟩) (gp n).length (gp n).length,.slice (some ⟨w.heap.size+1,0,none⟩) (gp n).length (gp n).length])) ((w.alloc (.cells A 9)).alloc (.cells B 3)):=by
 subst h1;subst h2;refine⟨((ak _ _).alloc (aj _) _).alloc (by simp) _,w.heap.size,w.heap.size+1,rfl,aj _,by omega, ?_, ?_⟩
 · rw[Below.heap_alloc _ _ _ (by simp)];exact(kW w _).1
 · have:=(kW (w.alloc (.cells ((gp n).map fun q=>Value.string q.1).toArray 9)) (.cells ((gp n).map fun q=>Value.int .i64 q.2).toArray 3)).1
   rwa[show(w.alloc (.cells ((gp n).map fun q=>Value.string q.1).toArray 9)).heap.size=w.heap.size+1 by simp]at this
theorem afW (n:Nat)(hn:n≤3)(w:World):Calls Tryz.prog 55 #[.int .i64 (n:Int)] w (Pk n w):=by
 rcases(show n=0∨n=1∨n=2∨n=3 by omega)with rfl|rfl|rfl|rfl
 all_goals
  go_enter Tryz.func55,Tryz.ntmps55;go_wp2_with fail
  go_ret2
  exact acN _ _ _ _ rfl rfl
theorem bD.Mv{nv:Value}(h:uU b tv ts p d 0 nv vs c w'):bD w' b tv ts p d c nv vs:=by unfold uU at h;rw[ah rfl]at h;exact h
def dz (sl:Nat)(res:eQ)(w:World)(b:Nat)(tv:Value)(ts:List ai)(deep:Nat)(vs:List aC)(e:Ending)(w':World):Prop :=
 Fr w w' b∧((∃c,res = .error c∧(c=5∨c=6)∧(∃x:Int,e = .returned (.int .i64 x))∧∃p' d bq us,(∀u∈us,∀g,u.bn.ownBlock=some g→w.heap.size≤g)∧bD w' b tv ts p' d c bq (vs++us)∧(vs++us).length+sl≤ts.length+100∧(sl:Int)≤d+100∧d≤100) ∨
  (∃ms a r,res = .ok (ms,a,r)∧e = .returned (.int .i64 ((a:Nat):Int))∧∃p' bq us,ts.drop p'=r∧us.map aC.n=ms∧(∀u∈us,∀g,u.bn.ownBlock=some g→w.heap.size≤g)∧bD w' b tv ts p' (deep:Int) 0 bq (vs++us)∧(vs++us).length≤p'))
theorem dz.ret (h:dz sl res w b tv ts deep vs e w'):∃c:Int,e = .returned (.int .i64 c):=by
 rcases h.2 with ⟨c,_,_,h,_⟩|⟨_,a,_,_,h,_⟩
 · exact h
 · exact⟨a,h⟩
theorem dz.from {w2 w3:World}(hf:Fr w w2 b)(h:dz sl res w2 b tv ts deep vs e w3):dz sl res w b tv ts deep vs e w3:=by
 refine⟨hf.trans h.1,h.2.imp ?_ ?_⟩
 · rintro⟨c,g1,g2,g3,p',d,bq,us,g4,g5,g6⟩
   exact⟨c,g1,g2,g3,p',d,bq,us,fun u hu j hj=>bO hf.size (g4 u hu j hj),g5,g6⟩
 · rintro⟨ms,a,r,g1,g2,p',bq,us,g3,g4,g5,g6⟩
   exact⟨ms,a,r,g1,g2,p',bq,us,g3,g4,fun u hu j hj=>bO hf.size (g5 u hu j hj),g6⟩
theorem dz.leaf {n:Nd}{a:Nat}{r:List ai}(hr:res = .ok ([n],a,r))(hf:Fr w w' b)(hp:ts.drop p'=r)(h:bD w' b tv ts p' (deep:Int) 0 bq (vs++[aC.leaf n]))(hc:vs.length+1≤p'):dz sl res w b tv ts deep vs (.returned (.int .i64 (a:Int))) w' :=
 ⟨hf,.inr ⟨[n],a,r,hr,rfl,p',bq,[aC.leaf n],hp,rfl,(by intro u hu g hg;rw[fA.1 hu]at hg;cases hg),h,by rw[av];exact hc⟩⟩
theorem dz.err {x:Int}(hr:res = .error c)(hc:c=5∨c=6)(hf:Fr w w' b)(h:bD w' b tv ts p' d c bq vs)(hs:vs.length+sl≤ts.length+100)(hd:(sl:Int)≤d+100∧d≤100):dz sl res w b tv ts deep vs (.returned (.int .i64 x)) w' :=
 ⟨hf,.inl ⟨c,hr,hc,⟨x,rfl⟩,p',d,bq,[],(fun u hu=>absurd hu (by simp)),by rw[fF];exact h,by rw[fF];exact hs,hd⟩⟩
theorem dz.bad (h:dz sl res w b tv ts deep vs e w')(hr:res = .error c) :
 Fr w w' b∧(c=5∨c=6)∧∃x:Int,e = .returned (.int .i64 x)∧∃p' d bq us,(∀u∈us,∀g,u.bn.ownBlock=some g→w.heap.size≤g)∧bD w' b tv ts p' d c bq (vs++us)∧(vs++us).length+sl≤ts.length+100∧(sl:Int)≤d+100∧d≤100:=by
 rcases h.2 with ⟨c',h1,h2,⟨x,h3⟩,h4⟩|⟨ms,a,r,h1,_⟩
 · rw[hr]at h1;injection h1 with h1;subst h1;exact⟨h.1,h2,x,h3,h4⟩
 · rw[hr]at h1;cases h1
theorem dz.sH {ms:List Nd}{a:Nat}{r:List ai}(h:dz sl res w b tv ts deep vs e w')(hr:res = .ok (ms,a,r)) :
 Fr w w' b∧e = .returned (.int .i64 ((a:Nat):Int))∧∃p' bq us,ts.drop p'=r∧us.map aC.n=ms∧(∀u∈us,∀g,u.bn.ownBlock=some g→w.heap.size≤g)∧bD w' b tv ts p' (deep:Int) 0 bq (vs++us)∧(vs++us).length≤p':=by
 rcases h.2 with ⟨c',h1,h2,h3⟩|⟨ms',a',r',h1,h2,h3⟩
 · rw[hr]at h1;cases h1
 · rw[hr]at h1;injection h1 with h1;injection h1 with e1 e2;injection e2 with e2 e3;subst e1;subst e2;subst e3;exact⟨h.1,h2,h3⟩
def DT (f:Nat):Prop:=∀(n deep:Nat)(res:eQ)(w:World)(b:Nat)(tv:Value)(ts:List ai)(p:Nat)(nv:Value)(vs:List aC),n≤4→deep≤12→bD w b tv ts p (deep:Int) 0 nv vs→vs.length≤p→eU f n deep vs.length (ts.drop p)=some res →
 Calls Tryz.prog 31 #[.pointer (some ⟨b,0,none⟩),.int .i64 (n:Int)] w (dz (n+6*deep) res w b tv ts deep vs)
theorem af9 {nv:Value}(h:bD w b tv ts p (deep:Int) 0 nv vs)(tZ:vs.length≤p)(nX:deep≤12)(t:ai)(hnx:p+1<ts.length) :
 Calls Tryz.prog 110 #[.pointer (some ⟨b,0,none⟩),.agg #[.string t.sh,.int .i64 t.c,.int .i64 t.r,.bool t.ac,.bool t.ar]] w (dz (5+6*deep) (jJ vs.length t (ts.drop (p+1))) w b tv ts deep vs):=by
 have hal:Below w.heap.size w (w.alloc (.cells #[.string t.sh,.int .i64 t.c,.int .i64 t.r,.bool t.ac,.bool t.ar] 43)):=(ak _ _).alloc (aj _) _;have bG:=ae (h.below hal);have hx:=df.new w t.sh t.c t.r t.ac t.ar;have h2:=h.few;have hlt:=h.lt;have hbl:=h.blt;have bu:=ae hal;clear h hal;go_enter Tryz.func110,Tryz.ntmps110;go_upto_region 1 with (fail)
 generalize w.alloc (.cells #[.string t.sh,.int .i64 t.c,.int .i64 t.r,.bool t.ac,.bool t.ar] 43)=w1 at bG bu hx ⊢;obtain⟨c0,c1,c2,c3,c4⟩:=bG.o.facts;have f1:=bG.o.frozen 1;clear c0 c2 c3 c4;go_upto_region 2 with (fail)
 have dI:=ae (bG.o.next hnx);have bZ:=ae (hx.set (show w.heap.size≠b by omega) 1 (.int .i64 ((p:Int)+1)));have bT:=ae ((Fr.of b bu.o).setCell 1 (.int .i64 ((p:Int)+1)));clear c1 f1 hx bG bu;generalize w1.setCell ⟨b,1,none⟩ (.int .i64 ((p:Int)+1))=w2 at dI bZ bT ⊢;have HT:=ae (yo dI.o ⟨#[58]⟩);rw[aQ rfl,gL]at HT;have hw0:w.heap.size≠b:=by omega
 cases hq:ax ⟨#[58]⟩ (ts.drop (p+1))
 · rw[hq]at HT
   have HR:=ae (show jJ vs.length t (ts.drop (p+1)) = .ok ([{ Nd.zero with kind:=5,ref:=t.bR }],vs.length,ts.drop (p+1))by unfold jJ;rw[hq,ag (by decide)]);clear hq;go_upto_region 3 with (go_at_call 56;((with_reducible refine HT.o.mono ?_);rintro e w3 ⟨rfl,h1⟩;have dP:=ae (bT.o.below h1);have eF:=ae (bZ.o.below h1 bZ.o.lt);have aY:=ae (dI.o.below h1);clear h1))
   obtain⟨x0,x1,x2,x3,x4⟩:=eF.o.facts;have HA:=ae (show Calls Tryz.prog 57 #[.pointer (some ⟨b,0,none⟩),.agg #[.int .i64 5,.int .i64 0,.string ⟨#[]⟩,.string t.sh,.int .i64 t.c,.int .i64 t.r,.bool t.ac,.bool t.ar,.string ⟨#[]⟩,.int .i64 0,.int .i64 0,.bool false,.bool false,.slice none 0 0]] w3 _ from pK aY.o (aC.leaf { Nd.zero with kind:=5,ref:=t.bR }) (yc _ _ _ rfl) (by omega) (.slice none 0 0) rfl { Nd.zero with kind:=5,ref:=t.bR } rfl);go_wp2_with (go_at_call 57;((with_reducible refine HA.o.mono ?_);rintro e w4 ⟨h1,rfl,bq,h3⟩;have dY:=ae (dP.o.trans h1);have dD:=ae h3;clear h1 h3))
   go_ret;exact dz.leaf HR.o dY.o rfl dD.o (by omega)
 · have xY:=zF dI.o hq
   obtain⟨u,hu⟩:∃u,ts[p+2]? = some u:=⟨_,dL xY⟩
   have hd:(ts.drop (p+1)).tail=u :: ts.drop (p+3):=by
    rw[List.tail_drop,List.drop_eq_getElem_cons xY];rw[dL xY]at hu;rw[dU hu]
   have hR:jJ vs.length t (ts.drop (p+1))=if u.kind=4∧fu t.bR u.bR=true then .ok ([(⟨6,0,⟨#[]⟩,t.bR,u.bR,[]⟩:Nd)],vs.length,ts.drop (p+3))else .error 5:=by
    unfold jJ;rw[hq,ah rfl,hd] <;> rfl
   rw[hq]at HT;clear hq hd;go_upto_region 4 with (go_at_call 56;((with_reducible refine HT.o.mono ?_);rintro e w3 ⟨rfl,h1⟩;have dP:=ae (bT.o.below h1);have eF:=ae (bZ.o.below h1 bZ.o.lt);have aY:=ae (dI.o.below h1);clear h1))
   obtain⟨c0,c1,c2,c3,c4⟩:=aY.o.facts;have f1:=aY.o.frozen 1;clear c0 c2 c3 c4;go_upto_region 5 with (fail)
   have dD:=ae (aY.o.next xY);have nA:=ae (eF.o.set hw0 1 (.int .i64 (((p+1:Nat):Int)+1)));have dY:=ae (dP.o.setCell 1 (.int .i64 (((p+1:Nat):Int)+1)));clear c1 f1 aY eF dP HT bT bZ dI;rw[show((p+1:Nat):Int)=(p:Int)+1 from rfl]at dD nA dY;generalize w3.setCell ⟨b,1,none⟩ (.int .i64 ((p:Int)+1+1))=w4 at dD nA dY ⊢;obtain⟨c0,c1,c2,c3,c4⟩:=dD.o.facts;obtain⟨g,cap,u',rfl,hu', -,hg,k0,k1,k2,k3,k4,k5,k6,k7,k8⟩:=dD.o.tok;have hu':ts[p+2]? = some u':=hu';rw[hu]at hu';injection hu' with hu';subst hu';have lS:Below w4.heap.size w4 (w4.alloc (.cells ku 71)):=(ak _ _).alloc (aj _) _;obtain⟨a0,a1, -, -, -⟩:=(dD.o.below lS).facts;have hgb:g<w4.heap.size:=by have:=dD.o.blt;omega
   have j0:=(lS.cell (p:=⟨g,(p+1+1)*9,none⟩) hgb).trans k0;have j1:=(lS.cell (p:=⟨g,(p+1+1)*9+1,none⟩) hgb).trans k1;have j2:=(lS.cell (p:=⟨g,(p+1+1)*9+2,none⟩) hgb).trans k2;have A9:=(lS.cell (p:=⟨g,(p+1+1)*9+3,none⟩) hgb).trans k3;have GQ:=(lS.cell (p:=⟨g,(p+1+1)*9+4,none⟩) hgb).trans k4;have GR:=(lS.cell (p:=⟨g,(p+1+1)*9+5,none⟩) hgb).trans k5;have GU:=(lS.cell (p:=⟨g,(p+1+1)*9+6,none⟩) hgb).trans k6;have j7:=(lS.cell (p:=⟨g,(p+1+1)*9+7,none⟩) hgb).trans k7;have j8:=(lS.cell (p:=⟨g,(p+1+1)*9+8,none⟩) hgb).trans k8;have aR:=aG.zero w4;obtain⟨x0,x1,x2,x3,x4,x5,x6,x7,ay⟩:=aR.cells;obtain⟨f0,f1,f2,f3,f4,f5,f6,f7,f8⟩:=aR.bS;clear aR lS;obtain⟨q,hq⟩:∃q,p+1+1=q:=⟨_,rfl⟩;rw[hq]at c1 k0 k1 k2 k3 k4 k5 k6 k7 k8 a1 j0 j1 j2 A9 GQ GR GU j7 j8;have hi1:(0:Int)≤(q:Int):=by omega
   have hi2:(q:Int)<(ts.length:Int):=by omega
   clear c2 c3 c4 hq
   go_region
   have hB:Below w4.heap.size w4 (w4.alloc (.cells #[.int .i64 u.kind,.string u.text,.int .i64 u.num,.string u.sh,.int .i64 u.c,.int .i64 u.r,.bool u.ac,.bool u.ar,.int .i64 u.pos] 71)).drew:=((ak _ _).alloc (aj _) _).drew;have gI:aG (w4.alloc (.cells #[.int .i64 u.kind,.string u.text,.int .i64 u.num,.string u.sh,.int .i64 u.c,.int .i64 u.r,.bool u.ac,.bool u.ar,.int .i64 u.pos] 71)).drew w4.heap.size u:=(aG.new w4 u).drew;have bg:=ae (dY.o.below hB);have oG:=ae (nA.o.below hB nA.o.lt);have aU:=ae (dD.o.below hB);clear hB nA dD dY c0 c1 a0 a1 j0 j1 j2 A9 GQ GR GU j7 j8 k0 k1 k2 k3 k4 k5 k6 k7 k8 x0 x1 x2 x3 x4 x5 x6 x7 ay f0 f1 f2 f3 f4 f5 f6 f7 f8 hgb;generalize hb4:w4.heap.size=b4 at gI ⊢;generalize (w4.alloc (.cells #[.int .i64 u.kind,.string u.text,.int .i64 u.num,.string u.sh,.int .i64 u.c,.int .i64 u.r,.bool u.ac,.bool u.ar,.int .i64 u.pos] 71)).drew=w5 at gI bg oG aU ⊢;clear hb4;obtain⟨x0,x1,x2,x3,x4,x5,x6,x7,ay⟩:=gI.cells;obtain⟨y0,y1,y2,y3,y4⟩:=oG.o.facts;have hcs:vs.length+(5+6*deep)≤ts.length+100:=by omega
   by_cases h4:u.kind=4
   · have e4:(u.kind != 4)=false:=by rw[h4];rfl
     have e5:(u.kind == 4)=true:=bA.2 h4;have HI:=ae (UI t.sh u.sh t.c t.r u.c u.r t.ac t.ar u.ac u.ar w5);cases hs:fu t.bR u.bR
     · have HR:=ae (show jJ vs.length t (ts.drop (p+1)) = .error 5 by rw[hR,hs,ag (by simp)])
       have HS:=ae (show fu ⟨t.sh,t.c,t.r,t.ac,t.ar⟩ ⟨u.sh,u.c,u.r,u.ac,u.ar⟩=false from hs);rw[HS.o]at HI;clear hR hs h4
       go_wp2_with (first
        | (go_at_call 51;((with_reducible refine HI.o.mono ?_);rintro e w6 ⟨rfl,h1⟩;have ek:=ae (bg.o.below h1);have sV:=ae (Bo (aU.o.below h1) 5);clear h1))
        | (go_at_call 32;((with_reducible refine sV.o.mono ?_);rintro e w7 ⟨rfl,h1,h2⟩;have bX:=ae (ek.o.trans h1);have bC:=ae h2;clear h1 h2)))
       go_ret;exact dz.err HR.o (.inl rfl) bX.o (by have:=bC.o;unfold uU at this;rw[ah rfl]at this;exact this) hcs (by omega)
     · have HR:=ae (show jJ vs.length t (ts.drop (p+1)) = .ok ([(⟨6,0,⟨#[]⟩,t.bR,u.bR,[]⟩:Nd)],vs.length,ts.drop (p+3))by rw[hR,hs,ah ⟨h4,rfl⟩])
       have HS:=ae (show fu ⟨t.sh,t.c,t.r,t.ac,t.ar⟩ ⟨u.sh,u.c,u.r,u.ac,u.ar⟩=true from hs);rw[HS.o]at HI;have dR:=ae (show p+1+1+1<ts.length from aU.o.fit.next hu (by omega));have gI:=ae gI;clear hR hs h4;go_upto_region 9 with (go_at_call 51;((with_reducible refine HI.o.mono ?_);rintro e w6 ⟨rfl,h1⟩;have ek:=ae (bg.o.below h1);have dJ:=ae (aU.o.below h1);have FN:=ae (oG.o.below h1 oG.o.lt);have Dz:=ae (gI.o.below h1 gI.o.lt);clear h1))
       clear x0 x1 x2 x3 x4 x5 x6 x7 ay y0 y1 y2 y3 y4 aU oG gI bg;obtain⟨c0,c1,c2,c3,c4⟩:=dJ.o.facts;have f1:=dJ.o.frozen 1;clear c0 c2 c3 c4;rw[show((p+1+1:Nat):Int)=(p:Int)+1+1 from rfl]at c1;go_upto_region 10 with (fail)
       have sj:=ae (show b4≠b from by
        intro e;have h1:=Dz.o;unfold aG at h1;rw[e,dJ.o.cell]at h1;injection h1 with h1;injection h1 with _ h1;exact absurd h1 (by decide))
       have bC:=ae (dJ.o.next dR.o);have Kb:=ae (FN.o.set hw0 1 (.int .i64 (((p+1+1:Nat):Int)+1)));have JF:=ae (show aG (w6.setCell ⟨b,1,none⟩ (.int .i64 (((p+1+1:Nat):Int)+1))) b4 u from by unfold aG;rw[fw _ _ _ _ (by exact sj.o)];exact Dz.o);have bX:=ae (ek.o.setCell 1 (.int .i64 (((p+1+1:Nat):Int)+1)));clear c1 f1 dJ FN Dz ek;rw[show((p+1+1:Nat):Int)=(p:Int)+1+1 from rfl]at bC Kb JF bX;generalize w6.setCell ⟨b,1,none⟩ (.int .i64 ((p:Int)+1+1+1))=w7 at bC Kb JF bX ⊢;obtain⟨x0,x1,x2,x3,x4,x5,x6,x7,ay⟩:=JF.o.cells;obtain⟨y0,y1,y2,y3,y4⟩:=Kb.o.facts;have HA:=ae (show Calls Tryz.prog 57 #[.pointer (some ⟨b,0,none⟩),.agg #[.int .i64 6,.int .i64 0,.string ⟨#[]⟩,.string t.sh,.int .i64 t.c,.int .i64 t.r,.bool t.ac,.bool t.ar,.string u.sh,.int .i64 u.c,.int .i64 u.r,.bool u.ac,.bool u.ar,.slice none 0 0]] w7 _ from pK bC.o (aC.leaf (⟨6,0,⟨#[]⟩,t.bR,u.bR,[]⟩:Nd)) (yc _ _ _ rfl) (by omega) (.slice none 0 0) rfl (⟨6,0,⟨#[]⟩,t.bR,u.bR,[]⟩:Nd) rfl);go_wp2_with (go_at_call 57;((with_reducible refine HA.o.mono ?_);rintro e w8 ⟨h1,rfl,bq,h3⟩;have ng:=ae (bX.o.trans h1);have l6:=ae h3;clear h1 h3))
       go_ret;exact dz.leaf HR.o ng.o rfl l6.o (by omega)
   · have e4:(u.kind != 4)=true:=by rw[bne_iff_ne];exact h4
     have e5:(u.kind == 4)=false:=aA.2 h4;have HR:=ae (show jJ vs.length t (ts.drop (p+1)) = .error 5 by rw[hR,ag (fun h=>h4 h.1)]);have sV:=ae (Bo aU.o 5);clear hR h4;go_wp2_with (go_at_call 32;((with_reducible refine sV.o.mono ?_);rintro e w7 ⟨rfl,h1,h2⟩;have bX:=ae (bg.o.trans h1);have bC:=ae h2;clear h1 h2))
     go_ret;exact dz.err HR.o (.inl rfl) bX.o (by have:=bC.o;unfold uU at this;rw[ah rfl]at this;exact this) hcs (by omega)
theorem dz.y5 {us:List aC}{x:Int}(hr:res = .error c)(hc:c=5∨c=6)(hf:Fr w w' b)
 (hu:∀u∈us,∀g,u.bn.ownBlock=some g→w.heap.size≤g) (h:bD w' b tv ts p' d c bq (vs++us)) (hs:(vs++us).length+sl≤ts.length+100) (hd:(sl:Int)≤d+100∧d≤100):dz sl res w b tv ts deep vs (.returned (.int .i64 x)) w' :=
 ⟨hf,.inl ⟨c,hr,hc,⟨x,rfl⟩,p',d,bq,us,hu,h,hs,hd⟩⟩
theorem af0 (f:Nat)(IH:∀g,g≤f→DT g)(name:ByteArray){nv:Value}(h:bD w b tv ts p (deep:Int) 0 nv vs)(tZ:vs.length≤p)(nX:deep≤12)(hnx:p+1<ts.length)(res:eQ)(au:I1 f deep vs.length name (ts.drop (p+1))=some res) :
 Calls Tryz.prog 111 #[.pointer (some ⟨b,0,none⟩),.string name] w (dz (5+6*deep) res w b tv ts deep vs):=by
 unfold I1 at au;have q1:=zR name ⟨#[84,82,85,69]⟩;have q2:=zR name ⟨#[70,65,76,83,69]⟩;rw[G8]at q1;rw[G7]at q2;have kR:=h.few;have hlt:=h.lt;have hbl:=h.blt;obtain⟨c0,c1,c2,c3,c4⟩:=h.facts;have f1:=h.frozen 1;have bG:=ae (h.next hnx);have kK:=ae ((Fr.refl w b).setCell 1 (.int .i64 ((p:Int)+1)));have hcs:vs.length+(5+6*deep)≤ts.length+100:=by omega
 clear c0 c2 c3 c4 h;go_enter Tryz.func111,Tryz.ntmps111;go_upto_region 2 with (fail)
 generalize w.setCell ⟨b,1,none⟩ (.int .i64 ((p:Int)+1))=w1 at bG kK ⊢;clear c1 f1;by_cases h1:name=⟨#[84,82,85,69]⟩
 · rw[aQ h1]at q1
   rw[ah h1]at au;injection au with au;have HR:=ae au.symm;have HA:=ae (show Calls Tryz.prog 57 #[.pointer (some ⟨b,0,none⟩),.agg #[.int .i64 3,.int .i64 1,.string ⟨#[]⟩,.string ⟨#[]⟩,.int .i64 0,.int .i64 0,.bool false,.bool false,.string ⟨#[]⟩,.int .i64 0,.int .i64 0,.bool false,.bool false,.slice none 0 0]] w1 _ from pK bG.o (aC.leaf { Nd.zero with kind:=3,num:=1 }) (yc _ _ _ rfl) (by omega) (.slice none 0 0) rfl { Nd.zero with kind:=3,num:=1 } rfl);clear au h1 q2;go_wp2_with (go_at_call 57;((with_reducible refine HA.o.mono ?_);rintro e w7 ⟨h1,rfl,bq,h3⟩;have bX:=ae (kK.o.trans h1);have bC:=ae h3;clear h1 h3))
   go_ret;exact dz.leaf HR.o bX.o rfl bC.o (by omega)
 rw[aS h1]at q1;rw[ag h1]at au;by_cases h2:name=⟨#[70,65,76,83,69]⟩
 · rw[aQ h2]at q2
   rw[ah h2]at au;injection au with au;have HR:=ae au.symm;have HA:=ae (show Calls Tryz.prog 57 #[.pointer (some ⟨b,0,none⟩),.agg #[.int .i64 3,.int .i64 0,.string ⟨#[]⟩,.string ⟨#[]⟩,.int .i64 0,.int .i64 0,.bool false,.bool false,.string ⟨#[]⟩,.int .i64 0,.int .i64 0,.bool false,.bool false,.slice none 0 0]] w1 _ from pK bG.o (aC.leaf { Nd.zero with kind:=3 }) (yc _ _ _ rfl) (by omega) (.slice none 0 0) rfl { Nd.zero with kind:=3 } rfl);clear au h1 h2;go_wp2_with (go_at_call 57;((with_reducible refine HA.o.mono ?_);rintro e w7 ⟨h1,rfl,bq,h3⟩;have bX:=ae (kK.o.trans h1);have bC:=ae h3;clear h1 h3))
   go_ret;exact dz.leaf HR.o bX.o rfl bC.o (by omega)
 rw[aS h2]at q2;rw[ag h2]at au;clear h1 h2;have HS:=ae (yo bG.o ⟨#[40]⟩);rw[aQ rfl,gL]at HS;cases hs:ax ⟨#[40]⟩ (ts.drop (p+1))
 · rw [hs,ag (by decide)]at au
   injection au with au;have HR:=ae au.symm;rw[hs]at HS;clear au hs
   go_wp2_with (first
    | (go_at_call 56;((with_reducible refine HS.o.mono ?_);rintro e w2 ⟨rfl,h1⟩;have bT:=ae (kK.o.below h1);have sV:=ae (Bo (bG.o.below h1) 5);clear h1))
    | (go_at_call 32;((with_reducible refine sV.o.mono ?_);rintro e w7 ⟨rfl,h1,h2⟩;have bX:=ae (bT.o.trans h1);have bC:=ae h2;clear h1 h2)))
   go_ret;exact dz.err HR.o (.inl rfl) bX.o (bD.Mv bC.o) hcs (by omega)
 have La:=zF bG.o hs;rw[hs,ah rfl]at au;rw[hs]at HS;clear hs;go_upto_region 9 with (go_at_call 56;((with_reducible refine HS.o.mono ?_);rintro e w2 ⟨rfl,h1⟩;have bT:=ae (kK.o.below h1);have dI:=ae (bG.o.below h1);clear h1))
 have HO:=ae (Bp dI.o nX La);unfold Ce at au;have hz2:=bT.o.size;have ajr:=dI.o.blt;have HOW:=ae (show Own (aI .i64) 3 w2 (b+1) (.slice none 0 0) []from Own.nil _ _ _ _);by_cases hd:12≤deep
 · rw [ah hd]at au
   injection au with au;have HR:=ae au.symm;clear au
   go_upto_region 17 with (first
    | (go_at_call 83;((with_reducible refine HO.o.mono ?_);rintro e w3 ⟨rfl,h1,h2⟩;rcases h2 with ⟨-,h2⟩|⟨h2, -⟩;rotate_left;exact absurd hd h2;have dP:=ae (bT.o.trans h1);have aY:=ae h2;have Ae:=ae (CU h2 ⟨#[41]⟩);obtain⟨c0,c1,c2,c3,c4⟩:=h2.facts;clear c0 c1 c2 c4 h1 h2))
    | (go_at_call 109;((with_reducible refine Ae.o.mono ?_);rintro e w4 ⟨rfl,h1,h2⟩;have dY:=ae (dP.o.trans h1);have dD:=ae (show bD w4 b tv ts (p+1) (deep:Int) 6 nv vs from(by rcases h2 with ⟨_,h2⟩|⟨h2,_⟩|⟨h2,_⟩;exact h2;exact absurd h2 (by decide);exact absurd h2 (by decide)));clear h1 h2)))
   have kM:=ae (show(⟨{ Nd.zero with kind:=7,text:=name,kids:=[] },none⟩:aC).n={ Nd.zero with kind:=7,text:=name,kids:=[] }from rfl);have nz:=ae (show(⟨{ Nd.zero with kind:=7,text:=name,kids:=[] },none⟩:aC).bn = .slice none 0 0 from rfl);obtain⟨c0,c1,c2,c3,c4⟩:=dD.o.facts;have f2:=dD.o.frozen 2;clear c0 c1 c3 c4;have hd1 : -9223372036854775808≤(deep:Int) - 1:=by omega
   have hd2:(deep:Int) - 1≤9223372036854775807:=by omega
   go_upto_region 18 with (fail)
   have qN:=ae (dD.o.qD ((deep:Int) - 1));have qK:=ae (dY.o.setCell 2 (.int .i64 ((deep:Int) - 1)));have qL:=ae (show Own (aI .i64) 3 (w4.setCell ⟨b,2,none⟩ (.int .i64 ((deep:Int) - 1))) (b+1) (.slice none 0 0) []from(show Own (aI .i64) 3 w4 (b+1) (.slice none 0 0) []from Own.nil _ _ _ _).keep fun j hj _ _=>fw _ _ _ _ (by show j≠b;omega));generalize w4.setCell ⟨b,2,none⟩ (.int .i64 ((deep:Int) - 1))=ou at qN qK qL ⊢;clear c2 f2;have HA:=ae (show Calls Tryz.prog 57 #[.pointer (some ⟨b,0,none⟩),.agg #[.int .i64 7,.int .i64 0,.string name,.string ⟨#[]⟩,.int .i64 0,.int .i64 0,.bool false,.bool false,.string ⟨#[]⟩,.int .i64 0,.int .i64 0,.bool false,.bool false,(.slice none 0 0)]] ou _ from pK qN.o ⟨{ Nd.zero with kind:=7,text:=name,kids:=[] },none⟩ (by rw[nz.o,kM.o];exact qL.o) (by omega) _ nz.o { Nd.zero with kind:=7,text:=name,kids:=[] } kM.o);go_wp2_with (go_at_call 57;((with_reducible refine HA.o.mono ?_);rintro e w8 ⟨h1,rfl,zt,h3⟩;have ng:=ae (qK.o.trans h1);have l6:=ae h3;clear h1 h3))
   go_ret;refine dz.y5 (us:=[⟨{ Nd.zero with kind:=7,text:=name,kids:=[] },none⟩]) HR.o (.inr rfl) ng.o ?_ l6.o (by simp;omega) (by omega);intro u hu g hg;rw[fA.1 hu]at hg;cases hg
 · rw [ag hd,List.tail_drop]at au
   have uM:=ae au;have rZ:=ae IH;obtain⟨eb,kz,dh⟩:=Elem.kid;have kv:=ae dh;have hdp:deep+1≤12:=by omega
   clear au IH dh;go_upto_region 10 with (go_at_call 83;((with_reducible refine HO.o.mono ?_);rintro e w3 ⟨rfl,h1,h2⟩;rcases h2 with ⟨h2, -⟩|⟨-,h2⟩;exact absurd h2 hd;have dP:=ae (bT.o.trans h1);have aY:=ae h2;clear h1 h2))
   have HIS:=ae (yo aY.o ⟨#[41]⟩);rw[aQ rfl,gL]at HIS;obtain⟨c0,c1,c2,c3,c4⟩:=aY.o.facts;clear c0 c1 c2 c4 HO dI HOW HS;have hz3:=dP.o.size;have ajs:=aY.o.blt;cases hs:ax ⟨#[41]⟩ (ts.drop (p+1+1))
   rotate_left
   · have hr:=uM.o
     rw[hs,ah rfl]at hr;have hr:tN vs.length name [] [] (ts.drop (p+1+1))=some res:=hr;unfold tN at hr;rw[hs,ah rfl,List.tail_drop]at hr;injection hr with hr;have HR:=ae hr.symm;have xY:=zF aY.o hs;rw[hs]at HIS;have XB:=ae hs;clear hr hs
     go_upto_region 17 with (first
      | (go_at_call 56;((with_reducible refine HIS.o.mono ?_);rintro e w4 ⟨rfl,h1⟩;have dY:=ae (dP.o.below h1);have Ae:=ae (CU (aY.o.below h1) ⟨#[41]⟩);clear h1))
      | (go_at_call 109;((with_reducible refine Ae.o.mono ?_);rintro e w5 ⟨rfl,h1,h2⟩;have bg:=ae (dY.o.trans h1);have aU:=ae (show bD w5 b tv ts (p+1+1+1) ((deep+1:Nat):Int) 0 nv vs from(by rcases h2 with ⟨h2,_⟩|⟨_,_,h2⟩|⟨_,h2,_⟩;exact absurd rfl h2;exact h2;rw[XB.o]at h2;cases h2));clear h1 h2)))
     rw[show((deep+1:Nat):Int)=(deep:Int)+1 from rfl]at aU;have kM:=ae (show(⟨{ Nd.zero with kind:=7,text:=name,kids:=[] },none⟩:aC).n={ Nd.zero with kind:=7,text:=name,kids:=[] }from rfl);have nz:=ae (show(⟨{ Nd.zero with kind:=7,text:=name,kids:=[] },none⟩:aC).bn = .slice none 0 0 from rfl);obtain⟨c0,c1,c2,c3,c4⟩:=aU.o.facts;have f2:=aU.o.frozen 2;clear c0 c1 c3 c4;have hd1 : -9223372036854775808≤(deep:Int)+1 - 1:=by omega
     have hd2:(deep:Int)+1 - 1≤9223372036854775807:=by omega
     go_upto_region 18 with (fail)
     have qN:=ae (aU.o.qD ((deep:Int)));have qK:=ae (bg.o.setCell 2 (.int .i64 ((deep:Int))));have qL:=ae (show Own (aI .i64) 3 (w5.setCell ⟨b,2,none⟩ (.int .i64 ((deep:Int)))) (b+1) (.slice none 0 0) []from(show Own (aI .i64) 3 w5 (b+1) (.slice none 0 0) []from Own.nil _ _ _ _).keep fun j hj _ _=>fw _ _ _ _ (by show j≠b;omega));generalize w5.setCell ⟨b,2,none⟩ (.int .i64 ((deep:Int)))=ou at qN qK qL ⊢;clear c2 f2;have HA:=ae (show Calls Tryz.prog 57 #[.pointer (some ⟨b,0,none⟩),.agg #[.int .i64 7,.int .i64 0,.string name,.string ⟨#[]⟩,.int .i64 0,.int .i64 0,.bool false,.bool false,.string ⟨#[]⟩,.int .i64 0,.int .i64 0,.bool false,.bool false,(.slice none 0 0)]] ou _ from pK qN.o ⟨{ Nd.zero with kind:=7,text:=name,kids:=[] },none⟩ (by rw[nz.o,kM.o];exact qL.o) (by omega) _ nz.o { Nd.zero with kind:=7,text:=name,kids:=[] } kM.o);go_wp2_with (go_at_call 57;((with_reducible refine HA.o.mono ?_);rintro e w8 ⟨h1,rfl,zt,h3⟩;have ng:=ae (qK.o.trans h1);have l6:=ae h3;clear h1 h3))
     go_ret;refine⟨ng.o,.inr ⟨_,_,_,HR.o,rfl,p+1+1+1,zt,[⟨{ Nd.zero with kind:=7,text:=name,kids:=[] },none⟩],rfl,rfl, ?_,l6.o,by simp;omega⟩⟩;intro u hu g hg;rw[fA.1 hu]at hg;cases hg
   have hr:=uM.o;rw[hs,ag (by decide)]at hr;have iA:=ae hr;rw[hs]at HIS;clear hr hs uM;go_upto_region 12 with (go_at_call 56;((with_reducible refine HIS.o.mono ?_);rintro e w4 ⟨rfl,h1⟩;have dY:=ae (dP.o.below h1);have dD:=ae (aY.o.below h1);clear h1))
   clear c3
   go_loopw [5] (fun LK wr=>∃(bn:Value)(g:Nat)(ns:List Nd)(ks:List Int)(p':Nat)(bq:Value)(us:List aC),bn=LK∧g≤f∧ks.length≤us.length∧us.length=ns.length∧vs.length+us.length≤p' ∧
    Hid (iW (ib g (deep+1) vs.length ns ks (ts.drop p')) (tN vs.length name)=some res) ∧
    Hid (us.map aC.n=ns)∧Hid (∀u∈us,∀j,u.bn.ownBlock=some j→w.heap.size≤j)∧Hid (∀u∈vs++us,∀j,u.bn.ownBlock=some j→bn.ownBlock≠some j) ∧
    Hid (Own (aI .i64) 3 wr w.heap.size bn ks)∧Hid (bD wr b tv ts p' ((deep+1:Nat):Int) 0 bq (vs++us))∧Hid (Fr w wr b))
    (fun _ wr=>wV b ts.length wr)
   case atStart =>
    exact⟨.slice none 0 0,f,[],[],p+1+1,nv,[],rfl,aj _,aj _,rfl,by simp;omega,iA,ae rfl,ae (by simp),ae (by intro u _ j _ e;cases e),ae (Own.nil _ _ _ _),by rw[fF];exact dD,dY⟩
   case round =>
    clear HIS iA dP aY dY dD bT;obtain⟨bn,g,ns,ks,p',bq,us,rfl,hg,hkl,AZ,hcn,HM,HU,HK,HJ,lJ,iV,HF⟩:=hrel;have aa8:=iV.o.lt;have hlen:(vs++us).length=vs.length+us.length:=av;have FH:=ae (iV.o.wV ts.length);have Pb:=ae HF.o.size;obtain⟨c0,c1,c2,c3,c4⟩:=iV.o.facts;clear c0 c1 c2 c4;have hA:=HM.o
    match g,hg,hA with
    | 0,_,hA=>unfold ib iW at hA;cases hA
    | g+1,hg,hA =>
    rw[o8,PQ]at hA;have jT:vs.length+ns.length=(vs++us).length:=by rw[hlen,AZ]
    rw[jT]at hA;rcases eG hA with ⟨c,h1,rfl⟩|⟨ms,a,r,h1,h2⟩
    · have HL:=ae (show Calls Tryz.prog 31 #[.pointer (some ⟨b,0,none⟩),.int .i64 0] wr (dz (0+6*(deep+1)) (.error c) wr b tv ts (deep+1) (vs++us))from rZ.o g (by omega) 0 (deep+1) _ wr b tv ts p' bq (vs++us) (by omega) (by omega) iV.o (by omega) h1)
      clear h1 hA HM
      go_upto_region 14 with (first
       | (go_at_call 31;((with_reducible refine HL.o.mono ?_);intro e w5 ho;obtain⟨hf,hc,x,rfl,p5,d5,oM,dN,hk5,iX,Er,hd5,Q0⟩:=ho.bad rfl;have bg:=ae (HF.o.trans hf);have uJ:=ae (lJ.o.fr hf hbl (by decide));have HC:=ae hc;have aU:=ae iX;have lg:=ae hk5;have xC:=ae hf.size;clear hf hc ho iX hk5))
       | (at_builtin;refine C9 kv.o (aI .i64) rfl (.tmp 45) (.tmp 48) rfl w.heap.size bn ks rfl (uJ.o.alloc _) ⟨w5.heap.size,0,none⟩ 1 1 [x] rfl rfl ?_ ?_ ?_ ?_ ?_;exact ic _ _ _ rfl;exact bO (Nat.mul_le_mul_left _ kz) (by omega);(unfold maxLen;omega);(have:=bg.o.size;simp;omega);intro ru w6 h1 h2 h3;have pY:=ae h1;have pX:=ae h2;have HAT:=ae h3;clear h1 h2 h3))
      have il:Below w5.heap.size w5 (w5.alloc (.cells #[.int .i64 x] 3)):=(ak _ _).alloc (aj _) _;have vv:=uJ.o.alloc (.cells #[.int .i64 x] 3);have Lt:=bg.o.size
      have vY:=ae (show ∀u∈(vs++us)++dN,∀j,u.bn.ownBlock=some j→bn.ownBlock≠some j from by
       intro u hu j hj;rcases dK.1 hu with hu|hu
       · exact HJ.o u hu j hj
       · intro e
         have h3:=lg.o u hu j hj;have h4:=(lJ.o.kP j e).2.1;omega)
      have dJ:=ae ((aU.o.below il).kids pX.o (by
       intro j e;obtain⟨q1,q2,cur,q3⟩:=vv.kP j e;refine⟨by omega, ?_,fun u hu e2=>vY.o u hu j e2 e⟩;rintro⟨Qf,fr,e2⟩;rw[q3]at e2;injection e2 with e2;injection e2 with _ e2;exact absurd e2 (by decide)))
      have ek:=ae ((bg.o.below il).row pX.o (by
       intro j e;obtain⟨q1,q2,cur,q3⟩:=vv.kP j e;exact⟨by omega,.inl q1⟩))
      have sD:=ae (yo dJ.o ⟨#[44]⟩);rw[aS (show ¬ c=0 by rcases HC.o with h|h <;> omega),Bool.false_and]at sD;have J8:=ae (fun w7 (h1:Below w6.heap.size w6 w7)=>CU (dJ.o.below h1) ⟨#[41]⟩);clear il vv pX HAT vY uJ HF iV HL
      go_upto_region 17 with (first
       | (go_at_call 56;((with_reducible refine sD.o.mono ?_);rintro e w7 ⟨rfl,h1⟩;have bX:=ae (ek.o.below h1);have HW:=ae (J8.o _ h1);have su:=ae (pY.o.below h1 (aj _));clear h1))
       | (go_at_call 109;((with_reducible refine HW.o.mono ?_);rintro e gW ⟨rfl,h1,h2⟩;have yF:=ae (bX.o.trans h1);have sZ:=ae (su.o.fr h1 hbl (by decide));have mI:=ae (show bD gW b tv ts p5 d5 c oM ((vs++us)++dN)from(by rcases h2 with ⟨_,h2⟩|⟨h2,_⟩|⟨h2,_⟩;exact h2;(exfalso;rcases HC.o with h|h <;> omega);(exfalso;rcases HC.o with h|h <;> omega)));clear h1 h2)))
      obtain ⟨v,rf,hvk⟩:∃v:aC,v.n={ Nd.zero with kind:=7,text:=name,kids:=ks++[x] }∧v.bn=ru:=by
       rcases sZ.o.shape with ⟨rfl,h0⟩|⟨g1,cap,rfl,_⟩
       · exact absurd h0 (by simp)
       · exact⟨⟨_,some (g1,cap)⟩,rfl,rfl⟩
      have kM:=ae rf;have nz:=ae hvk;clear rf hvk;obtain⟨g1,gm,ma, -, -, -, -⟩:=Own.some sZ.o (by simp);obtain⟨n1,hn1⟩:∃n1,(ks++[x]).length=n1:=⟨_,rfl⟩;rw[hn1]at ma;subst ma
      have Gx:∀u∈us++(dN++[v]),∀j,u.bn.ownBlock=some j→w.heap.size≤j:=by
       intro u hu j hj;rcases dK.1 hu with hu|hu
       · exact HK.o u hu j hj
       · rcases dK.1 hu with hu|hu
         · exact bO Pb.o (lg.o u hu j hj)
         · rw[fA.1 hu,nz.o]at hj
           exact(sZ.o.kP j hj).1
      have FD:=ae Gx;clear Gx hn1;obtain⟨c0,c1,c2,c3,c4⟩:=mI.o.facts;have f2:=mI.o.frozen 2;clear c0 c1 c3 c4;have hd1 : -9223372036854775808≤d5 - 1:=by omega
      have hd2:d5 - 1≤9223372036854775807:=by omega
      go_upto_region 18 with (fail)
      have qN:=ae (mI.o.qD (d5 - 1));have qK:=ae (yF.o.setCell 2 (.int .i64 (d5 - 1)));have qL:=ae (show Own (aI .i64) 3 (gW.setCell ⟨b,2,none⟩ (.int .i64 (d5 - 1))) (b+1) (.slice (some ⟨g1,0,none⟩) n1 gm) (ks++[x])from(sZ.o.mono (show b+1≤w.heap.size by omega)).keep fun j hj _ _=>fw _ _ _ _ (by show j≠b;omega));generalize gW.setCell ⟨b,2,none⟩ (.int .i64 (d5 - 1))=ou at qN qK qL ⊢;clear c2 f2;have HA:=ae (show Calls Tryz.prog 57 #[.pointer (some ⟨b,0,none⟩),.agg #[.int .i64 7,.int .i64 0,.string name,.string ⟨#[]⟩,.int .i64 0,.int .i64 0,.bool false,.bool false,.string ⟨#[]⟩,.int .i64 0,.int .i64 0,.bool false,.bool false,(.slice (some ⟨g1,0,none⟩) n1 gm)]] ou _ from pK qN.o v (by rw[nz.o,kM.o];exact qL.o) (by omega) _ nz.o { Nd.zero with kind:=7,text:=name,kids:=(ks++[x]) } kM.o);go_wp2_with (go_at_call 57;((with_reducible refine HA.o.mono ?_);rintro e w8 ⟨h1,rfl,zt,h3⟩;have ng:=ae (qK.o.trans h1);have l6:=ae h3;clear h1 h3))
      go_ret;refine dz.y5 (us:=us++(dN++[v])) rfl HC.o ng.o FD.o (by rw[← bN, ← bN];exact l6.o) (by simp only[av,fE]at Er ⊢;omega) (by omega)
    · have HL:=ae (show Calls Tryz.prog 31 #[.pointer (some ⟨b,0,none⟩),.int .i64 0] wr (dz (0+6*(deep+1)) (.ok (ms,a,r)) wr b tv ts (deep+1) (vs++us))from rZ.o g (by omega) 0 (deep+1) _ wr b tv ts p' bq (vs++us) (by omega) (by omega) iV.o (by omega) h1)
      have H1:=ae h1;have H2:=ae h2;clear h1 h2 hA HM
      go_upto_region 14 with (first
       | (go_at_call 31;((with_reducible refine HL.o.mono ?_);intro e w5 ho;obtain⟨hf,rfl,p5,oM,dN,lT,j6,hk5,iX,Er⟩:=ho.sH rfl;have bg:=ae (HF.o.trans hf);have uJ:=ae (lJ.o.fr hf hbl (by decide));have aU:=ae iX;have HD5:=ae lT;have lh:=ae j6;have lg:=ae hk5;clear hf ho iX hk5 lT j6))
       | (at_builtin;refine C9 kv.o (aI .i64) rfl (.tmp 45) (.tmp 48) rfl w.heap.size bn ks rfl (uJ.o.alloc _) ⟨w5.heap.size,0,none⟩ 1 1 [((a:Nat):Int)] rfl rfl ?_ ?_ ?_ ?_ ?_;exact ic _ _ _ rfl;exact bO (Nat.mul_le_mul_left _ kz) (by omega);(unfold maxLen;omega);(have:=bg.o.size;simp;omega);intro ru w6 h1 h2 h3;have pY:=ae h1;have pX:=ae h2;have HAT:=ae h3;clear h1 h2 h3))
      have il:Below w5.heap.size w5 (w5.alloc (.cells #[.int .i64 ((a:Nat):Int)] 3)):=(ak _ _).alloc (aj _) _;have vv:=uJ.o.alloc (.cells #[.int .i64 ((a:Nat):Int)] 3);have Lt:=bg.o.size;have GH:dN.length=ms.length:=by rw[← lh.o,eB]
      obtain⟨hc1,hc2,hc3⟩:=yZ H1.o HD5.o aU.o.lt;have Gu:((vs++us)++dN).length=vs.length+us.length+dN.length:=by rw[av,av]
      have vY:=ae (show ∀u∈(vs++us)++dN,∀j,u.bn.ownBlock=some j→bn.ownBlock≠some j from by
       intro u hu j hj;rcases dK.1 hu with hu|hu
       · exact HJ.o u hu j hj
       · intro e
         have h3:=lg.o u hu j hj;have h4:=(lJ.o.kP j e).2.1;omega)
      have dJ:=ae ((aU.o.below il).kids pX.o (by
       intro j e;obtain⟨q1,q2,cur,q3⟩:=vv.kP j e;refine⟨by omega, ?_,fun u hu e2=>vY.o u hu j e2 e⟩;rintro⟨Qf,fr,e2⟩;rw[q3]at e2;injection e2 with e2;injection e2 with _ e2;exact absurd e2 (by decide)))
      have ek:=ae ((bg.o.below il).row pX.o (by
       intro j e;obtain⟨q1,q2,cur,q3⟩:=vv.kP j e;exact⟨by omega,.inl q1⟩))
      have FB:=ae (show ∀u∈(vs++us)++dN,∀j,u.bn.ownBlock=some j→ru.ownBlock≠some j from by
       intro u hu j hj;rcases HAT.o with e|e
       · rw[e];exact vY.o u hu j hj
       · rw[e]
         have h4:=((aU.o.nodes.2 u hu).kP j hj).2.1;intro e2;injection e2 with e2;simp at e2;omega)
      have Ee:∀u∈us++dN,∀j,u.bn.ownBlock=some j→w.heap.size≤j:=by
       intro u hu j hj;rcases dK.1 hu with hu|hu
       · exact HK.o u hu j hj
       · exact bO Pb.o (lg.o u hu j hj)
      have Dv:=ae Ee;have sD:=ae (yo dJ.o ⟨#[44]⟩);rw[aQ rfl,gL]at sD;have h2:=H2.o;rw[← HD5.o]at h2;clear il vv pX HAT vY uJ HF iV H2 HL Ee;cases hs:ax ⟨#[44]⟩ (ts.drop p5)
      rotate_left
      · rw [hs,ah rfl,List.tail_drop]at h2
        have HN:=ae h2;have Rl:=zF dJ.o hs;rw[hs]at sD;clear h2 hs;go_upto_region 15 with (go_at_call 56;((with_reducible refine sD.o.mono ?_);rintro e w7 ⟨rfl,h1⟩;have bX:=ae (ek.o.below h1);have su:=ae (pY.o.below h1 (aj _));have bC:=ae (dJ.o.below h1);clear h1))
        obtain⟨c0,c1,c2,c3,c4⟩:=bC.o.facts;have f1:=bC.o.frozen 1;clear c0 c2 c3 c4;go_wp2_with fail
        have l6:=ae (bC.o.next Rl);have Xe:=ae (show Own (aI .i64) 3 (w7.setCell ⟨b,1,none⟩ (.int .i64 ((p5:Int)+1))) w.heap.size ru (ks++[((a:Nat):Int)])from su.o.keep fun j hj _ _=>fw _ _ _ _ (by show j≠b;omega));have ng:=ae (bX.o.setCell 1 (.int .i64 ((p5:Int)+1)))
        go_roundw
        case rel =>
         refine⟨ru,g,ns++ms,ks++[((a:Nat):Int)],p5+1,oM,us++dN,rfl,by omega,by rw[av,av,fE];omega,by rw[av,av];omega,by rw[av];omega,HN,ae (by rw[gP,HU.o,lh.o]),Dv, ?_,Xe, ?_,ng⟩
         · rw[← bN];exact FB
         · rw[← bN];exact l6
        case measure =>
         have h1:=l6.o.wV ts.length;rw[FH.o,h1];simp only[if_true];omega
      rw[hs,ag (by decide)]at h2;have HN:=ae (show tN vs.length name (ns++ms) (ks++[((a:Nat):Int)]) (ts.drop p5)=some res from h2);rw[hs]at sD;clear h2 hs;have J8:=ae (fun w7 (h1:Below w6.heap.size w6 w7)=>CU (dJ.o.below h1) ⟨#[41]⟩)
      go_upto_region 17 with (first
       | (go_at_call 56;((with_reducible refine sD.o.mono ?_);rintro e w7 ⟨rfl,h1⟩;have bX:=ae (ek.o.below h1);have HW:=ae (J8.o _ h1);have su:=ae (pY.o.below h1 (aj _));clear h1))
       | (go_at_call 109;((with_reducible refine HW.o.mono ?_);rintro e gW ⟨rfl,h1,h2⟩;have yF:=ae (bX.o.trans h1);have sZ:=ae (su.o.fr h1 hbl (by decide));have J7:=ae h2;clear h1 h2)))
      obtain ⟨v,rf,hvk⟩:∃v:aC,v.n={ Nd.zero with kind:=7,text:=name,kids:=ks++[((a:Nat):Int)] }∧v.bn=ru:=by
       rcases sZ.o.shape with ⟨rfl,h0⟩|⟨g1,cap,rfl,_⟩
       · exact absurd h0 (by simp)
       · exact⟨⟨_,some (g1,cap)⟩,rfl,rfl⟩
      have kM:=ae rf;have nz:=ae hvk;clear rf hvk;obtain⟨g1,gm,ma, -, -, -, -⟩:=Own.some sZ.o (by simp);obtain⟨n1,hn1⟩:∃n1,(ks++[((a:Nat):Int)]).length=n1:=⟨_,rfl⟩;rw[hn1]at ma;subst ma
      have FD:=ae (show ∀u∈us++(dN++[v]),∀j,u.bn.ownBlock=some j→w.heap.size≤j from by
       intro u hu j hj;rw[← bN]at hu;rcases dK.1 hu with hu|hu
       · exact Dv.o u hu j hj
       · rw[fA.1 hu,nz.o]at hj
         exact(sZ.o.kP j hj).1)
      clear hn1;have hN:=HN.o;unfold tN at hN;have abm:=aU.o.lt;rw[show((deep+1:Nat):Int)=(deep:Int)+1 from rfl]at J7;cases hs:ax ⟨#[41]⟩ (ts.drop p5)
      · rw[hs,ag (by decide)]at hN
        injection hN with hN;have HR:=ae hN.symm;have mI:=ae (show bD gW b tv ts p5 ((deep:Int)+1) 5 oM ((vs++us)++dN)from(by rcases J7.o with ⟨h2,_⟩|⟨_,h2,_⟩|⟨_,_,h2⟩;exact absurd rfl h2;(rw[hs]at h2;cases h2);exact h2));clear hN hs;obtain⟨c0,c1,c2,c3,c4⟩:=mI.o.facts;have f2:=mI.o.frozen 2;clear c0 c1 c3 c4;have hd1 : -9223372036854775808≤(deep:Int)+1 - 1:=by omega
        have hd2:(deep:Int)+1 - 1≤9223372036854775807:=by omega
        go_upto_region 18 with (fail)
        have qN:=ae (mI.o.qD ((deep:Int)));have qK:=ae (yF.o.setCell 2 (.int .i64 ((deep:Int))));have qL:=ae (show Own (aI .i64) 3 (gW.setCell ⟨b,2,none⟩ (.int .i64 ((deep:Int)))) (b+1) (.slice (some ⟨g1,0,none⟩) n1 gm) (ks++[((a:Nat):Int)])from(sZ.o.mono (show b+1≤w.heap.size by omega)).keep fun j hj _ _=>fw _ _ _ _ (by show j≠b;omega));generalize gW.setCell ⟨b,2,none⟩ (.int .i64 ((deep:Int)))=ou at qN qK qL ⊢;clear c2 f2;have HA:=ae (show Calls Tryz.prog 57 #[.pointer (some ⟨b,0,none⟩),.agg #[.int .i64 7,.int .i64 0,.string name,.string ⟨#[]⟩,.int .i64 0,.int .i64 0,.bool false,.bool false,.string ⟨#[]⟩,.int .i64 0,.int .i64 0,.bool false,.bool false,(.slice (some ⟨g1,0,none⟩) n1 gm)]] ou _ from pK qN.o v (by rw[nz.o,kM.o];exact qL.o) (by omega) _ nz.o { Nd.zero with kind:=7,text:=name,kids:=(ks++[((a:Nat):Int)]) } kM.o);go_wp2_with (go_at_call 57;((with_reducible refine HA.o.mono ?_);rintro e w8 ⟨h1,rfl,zt,h3⟩;have ng:=ae (qK.o.trans h1);have l6:=ae h3;clear h1 h3))
        go_ret;exact dz.y5 (us:=us++(dN++[v])) HR.o (.inl rfl) ng.o FD.o (by rw[← bN, ← bN];exact l6.o) (by simp only[av,fE];omega) (by omega)
      rw[hs,ah rfl,List.tail_drop]at hN;injection hN with hN;have HR:=ae hN.symm;have mI:=ae (show bD gW b tv ts (p5+1) ((deep:Int)+1) 0 oM ((vs++us)++dN)from(by rcases J7.o with ⟨h2,_⟩|⟨_,_,h2⟩|⟨_,h2,_⟩;exact absurd rfl h2;exact h2;(rw[hs]at h2;cases h2)));clear hN hs;obtain⟨c0,c1,c2,c3,c4⟩:=mI.o.facts;have f2:=mI.o.frozen 2;clear c0 c1 c3 c4;have hd1 : -9223372036854775808≤(deep:Int)+1 - 1:=by omega
      have hd2:(deep:Int)+1 - 1≤9223372036854775807:=by omega
      go_upto_region 18 with (fail)
      have qN:=ae (mI.o.qD ((deep:Int)));have qK:=ae (yF.o.setCell 2 (.int .i64 ((deep:Int))));have qL:=ae (show Own (aI .i64) 3 (gW.setCell ⟨b,2,none⟩ (.int .i64 ((deep:Int)))) (b+1) (.slice (some ⟨g1,0,none⟩) n1 gm) (ks++[((a:Nat):Int)])from(sZ.o.mono (show b+1≤w.heap.size by omega)).keep fun j hj _ _=>fw _ _ _ _ (by show j≠b;omega));generalize gW.setCell ⟨b,2,none⟩ (.int .i64 ((deep:Int)))=ou at qN qK qL ⊢;clear c2 f2;have HA:=ae (show Calls Tryz.prog 57 #[.pointer (some ⟨b,0,none⟩),.agg #[.int .i64 7,.int .i64 0,.string name,.string ⟨#[]⟩,.int .i64 0,.int .i64 0,.bool false,.bool false,.string ⟨#[]⟩,.int .i64 0,.int .i64 0,.bool false,.bool false,(.slice (some ⟨g1,0,none⟩) n1 gm)]] ou _ from pK qN.o v (by rw[nz.o,kM.o];exact qL.o) (by omega) _ nz.o { Nd.zero with kind:=7,text:=name,kids:=(ks++[((a:Nat):Int)]) } kM.o);go_wp2_with (go_at_call 57;((with_reducible refine HA.o.mono ?_);rintro e w8 ⟨h1,rfl,zt,h3⟩;have ng:=ae (qK.o.trans h1);have l6:=ae h3;clear h1 h3))
      go_ret;refine⟨ng.o,.inr ⟨_,_,_,HR.o,M5 (by simp only[av];omega),p5+1,zt,us++(dN++[v]),rfl, ?_,FD.o,by rw[← bN, ← bN];exact l6.o,by simp only[av,fE];omega⟩⟩;rw[gP,gP,HU.o,lh.o,jM,List.map_nil,kM.o,bN]
theorem af8 (f:Nat)(IH:∀g,g≤f→DT g){nv:Value}(h:bD w b tv ts p (deep:Int) 0 nv vs)(tZ:vs.length≤p)(nX:deep≤12)(res:eQ)(au:jB (f+1) deep vs.length (ts.drop p)=some res) :
 Calls Tryz.prog 82 #[.pointer (some ⟨b,0,none⟩)] w (dz (5+6*deep) res w b tv ts deep vs):=by
 have kR:=h.few;have hlt:=h.lt;have hbl:=h.blt;have hcs:vs.length+(5+6*deep)≤ts.length+100:=by omega
 have HP:=ae h;obtain⟨c0,c1,c2,c3,c4⟩:=h.facts;obtain⟨g,cap,t,rfl,ht,hd,hg,k0,k1,k2,k3,k4,k5,k6,k7,k8⟩:=h.tok;rw[hd,lX]at au;have HD:=ae hd;have Rm:t.kind≠0→p+1<ts.length:=fun hk=>h.fit.next ht hk
 have lS:Below w.heap.size w (w.alloc (.cells ku 71)):=(ak _ _).alloc (aj _) _;obtain⟨a0,a1, -, -, -⟩:=(h.below lS).facts;have hgb:g<w.heap.size:=by omega
 have j0:=(lS.cell (p:=⟨g,p*9,none⟩) hgb).trans k0;have j1:=(lS.cell (p:=⟨g,p*9+1,none⟩) hgb).trans k1;have j2:=(lS.cell (p:=⟨g,p*9+2,none⟩) hgb).trans k2;have A9:=(lS.cell (p:=⟨g,p*9+3,none⟩) hgb).trans k3;have GQ:=(lS.cell (p:=⟨g,p*9+4,none⟩) hgb).trans k4;have GR:=(lS.cell (p:=⟨g,p*9+5,none⟩) hgb).trans k5;have GU:=(lS.cell (p:=⟨g,p*9+6,none⟩) hgb).trans k6;have j7:=(lS.cell (p:=⟨g,p*9+7,none⟩) hgb).trans k7;have j8:=(lS.cell (p:=⟨g,p*9+8,none⟩) hgb).trans k8;have aR:=aG.zero w;obtain⟨x0,x1,x2,x3,x4,x5,x6,x7,ay⟩:=aR.cells;obtain⟨f0,f1,f2,f3,f4,f5,f6,f7,f8⟩:=aR.bS;have hi1:(0:Int)≤(p:Int):=by omega
 have hi2:(p:Int)<(ts.length:Int):=by omega
 have uM:=ae au;have dR:=ae Rm;clear aR lS c2 c4 au Rm hd ht h;go_enter Tryz.func82,Tryz.ntmps82;go_upto_region 3 with (fail)
 go_region
 have hB:Below w.heap.size w (w.alloc (.cells #[.int .i64 t.kind,.string t.text,.int .i64 t.num,.string t.sh,.int .i64 t.c,.int .i64 t.r,.bool t.ac,.bool t.ar,.int .i64 t.pos] 71)).drew:=((ak _ _).alloc (aj _) _).drew;have aF:=ae (show aG (w.alloc (.cells #[.int .i64 t.kind,.string t.text,.int .i64 t.num,.string t.sh,.int .i64 t.c,.int .i64 t.r,.bool t.ac,.bool t.ar,.int .i64 t.pos] 71)).drew w.heap.size t from(aG.new w t).drew);have dP:=ae (Fr.of b hB);have aY:=ae (HP.o.below hB);clear hB c0 c1 c3 a0 a1 j0 j1 j2 A9 GQ GR GU j7 j8 k0 k1 k2 k3 k4 k5 k6 k7 k8 x0 x1 x2 x3 x4 x5 x6 x7 ay f0 f1 f2 f3 f4 f5 f6 f7 f8 hgb hg HP;generalize hb3:w.heap.size=b3 at aF ⊢;generalize (w.alloc (.cells #[.int .i64 t.kind,.string t.text,.int .i64 t.num,.string t.sh,.int .i64 t.c,.int .i64 t.r,.bool t.ac,.bool t.ar,.int .i64 t.pos] 71)).drew=w3 at aF dP aY ⊢;clear hb3;have HS:=ae (yo aY.o ⟨#[40]⟩);rw[aQ rfl,gL]at HS;have au:=uM.o;clear uM;cases hs:ax ⟨#[40]⟩ (ts.drop p)
 rotate_left
 · have hnx:=zF aY.o hs
   have hs2:ax ⟨#[40]⟩ (t :: ts.drop (p+1))=true:=by rw[← HD.o];exact hs
   rw[ah hs2]at au;rw[hs]at HS;clear hs hs2;by_cases hdp:12≤deep
   · rw [ah hdp]at au
     injection au with au;have HR:=ae au.symm;clear au
     go_wp2_with (first
      | (go_at_call 56;((with_reducible refine HS.o.mono ?_);rintro e w4 ⟨rfl,h1⟩;have dY:=ae (dP.o.below h1);have HO:=ae (Bp (aY.o.below h1) nX hnx);clear h1))
      | (go_at_call 83;((with_reducible refine HO.o.mono ?_);rintro e w5 ⟨rfl,h1,h2⟩;rcases h2 with ⟨-,h2⟩|⟨h2, -⟩;rotate_left;exact absurd hdp h2;have bg:=ae (dY.o.trans h1);have aU:=ae h2;obtain⟨c0,c1,c2,c3,c4⟩:=h2.facts;clear c0 c1 c2 c4 h1 h2)))
     go_ret;exact dz.err HR.o (.inr rfl) bg.o aU.o hcs (by omega)
   · rw [ag hdp]at au
     have Ej:deep+1≤12:=by omega
     rcases eG au with ⟨c,h1,rfl⟩|⟨ns,a,r,h1,h2⟩
     · have HI:=ae (fun w2 hps=>IH f (aj _) 0 (deep+1) _ w2 b (.slice (some ⟨g,0,none⟩) ts.length cap) ts (p+1) nv vs (by omega) Ej hps (by omega) h1)
       clear au IH h1
       go_upto_region 10 with (first
        | (go_at_call 56;((with_reducible refine HS.o.mono ?_);rintro e w4 ⟨rfl,h1⟩;have dY:=ae (dP.o.below h1);have HO:=ae (Bp (aY.o.below h1) nX hnx);clear h1))
        | (go_at_call 83;((with_reducible refine HO.o.mono ?_);rintro e w5 ⟨rfl,h1,h2⟩;rcases h2 with ⟨h2, -⟩|⟨-,h2⟩;exact absurd h2 hdp;have bg:=ae (dY.o.trans h1);have aU:=ae h2;obtain⟨c0,c1,c2,c3,c4⟩:=h2.facts;have HL:=ae (show Calls Tryz.prog 31 #[.pointer (some ⟨b,0,none⟩),.int .i64 0] w5 (dz (0+6*(deep+1)) (.error c) w5 b (.slice (some ⟨g,0,none⟩) ts.length cap) ts (deep+1) vs)from HI.o w5 h2);clear c0 c1 c2 c4 h1 h2))
        | (go_at_call 31;((with_reducible refine HL.o.mono ?_);intro e w6 ho;obtain⟨hf,hc,x,rfl,p6,d6,Bg,uF,pF,sJ,Es,hd6,aaG⟩:=ho.bad rfl;have ek:=ae (bg.o.trans hf);have HC:=ae hc;have dJ:=ae sJ;have xC:=ae bg.o.size;have sW:=ae pF;have Ae:=ae (CU sJ ⟨#[41]⟩);clear hf hc ho sJ pF))
        | (go_at_call 109;((with_reducible refine Ae.o.mono ?_);rintro e w7 ⟨rfl,h1,h2⟩;have bX:=ae (ek.o.trans h1);have bC:=ae (show bD w7 b (.slice (some ⟨g,0,none⟩) ts.length cap) ts p6 d6 c Bg (vs++uF)from(by rcases h2 with ⟨_,h2⟩|⟨h2,_⟩|⟨h2,_⟩;exact h2;(exfalso;rcases HC.o with h|h <;> omega);(exfalso;rcases HC.o with h|h <;> omega)));clear h1 h2)))
       clear c3;obtain⟨c0,c1,c2,c3,c4⟩:=bC.o.facts;have f2:=bC.o.frozen 2;clear c0 c1 c3 c4;have hd1 : -9223372036854775808≤d6 - 1:=by omega
       have hd2:d6 - 1≤9223372036854775807:=by omega
       go_wp2_with fail
       go_ret;exact dz.y5 (us:=uF) rfl HC.o (bX.o.setCell _ _) (fun u hu j hj=>bO xC.o (sW.o u hu j hj)) (bC.o.qD (d6 - 1)) (by omega) (by omega)
     · have HI:=ae (fun w2 hps=>IH f (aj _) 0 (deep+1) _ w2 b (.slice (some ⟨g,0,none⟩) ts.length cap) ts (p+1) nv vs (by omega) Ej hps (by omega) h1)
       have H2:=ae h2;clear au IH h1 h2
       go_upto_region 10 with (first
        | (go_at_call 56;((with_reducible refine HS.o.mono ?_);rintro e w4 ⟨rfl,h1⟩;have dY:=ae (dP.o.below h1);have HO:=ae (Bp (aY.o.below h1) nX hnx);clear h1))
        | (go_at_call 83;((with_reducible refine HO.o.mono ?_);rintro e w5 ⟨rfl,h1,h2⟩;rcases h2 with ⟨h2, -⟩|⟨-,h2⟩;exact absurd h2 hdp;have bg:=ae (dY.o.trans h1);have aU:=ae h2;obtain⟨c0,c1,c2,c3,c4⟩:=h2.facts;have HL:=ae (show Calls Tryz.prog 31 #[.pointer (some ⟨b,0,none⟩),.int .i64 0] w5 (dz (0+6*(deep+1)) (.ok (ns,a,r)) w5 b (.slice (some ⟨g,0,none⟩) ts.length cap) ts (deep+1) vs)from HI.o w5 h2);clear c0 c1 c2 c4 h1 h2))
        | (go_at_call 31;((with_reducible refine HL.o.mono ?_);intro e w6 ho;obtain⟨hf,rfl,p6,Bg,uF,Co,Ez,pF,sJ,Es⟩:=ho.sH rfl;have ek:=ae (bg.o.trans hf);have dJ:=ae sJ;have xC:=ae bg.o.size;have HD6:=ae Co;have FL:=ae Ez;have sW:=ae pF;have Ae:=ae (CU sJ ⟨#[41]⟩);clear hf ho sJ pF Co Ez))
        | (go_at_call 109;((with_reducible refine Ae.o.mono ?_);rintro e w7 ⟨rfl,h1,h2⟩;have bX:=ae (ek.o.trans h1);have J6:=ae h2;clear h1 h2)))
       clear c3;have h2:=H2.o;rw[← HD6.o]at h2;have Rs:=dJ.o.lt;rw[show((deep+1:Nat):Int)=(deep:Int)+1 from rfl]at J6;cases hs:ax ⟨#[41]⟩ (ts.drop p6)
       · rw[hs,ag (by decide)]at h2
         injection h2 with h2;have HR:=ae h2.symm;have bC:=ae (show bD w7 b (.slice (some ⟨g,0,none⟩) ts.length cap) ts p6 ((deep:Int)+1) 5 Bg (vs++uF)from(by rcases J6.o with ⟨h2,_⟩|⟨_,h2,_⟩|⟨_,_,h2⟩;exact absurd rfl h2;(rw[hs]at h2;cases h2);exact h2));clear h2 hs;obtain⟨c0,c1,c2,c3,c4⟩:=bC.o.facts;have f2:=bC.o.frozen 2;clear c0 c1 c3 c4;go_wp2_with fail
         go_ret;exact dz.y5 (us:=uF) HR.o (.inl rfl) (bX.o.setCell _ _) (fun u hu j hj=>bO xC.o (sW.o u hu j hj)) (bC.o.qD (deep:Int)) (by omega) (by omega)
       · rw[hs,ah rfl,List.tail_drop]at h2
         injection h2 with h2;have HR:=ae h2.symm;have bC:=ae (show bD w7 b (.slice (some ⟨g,0,none⟩) ts.length cap) ts (p6+1) ((deep:Int)+1) 0 Bg (vs++uF)from(by rcases J6.o with ⟨h2,_⟩|⟨_,_,h2⟩|⟨_,h2,_⟩;exact absurd rfl h2;exact h2;(rw[hs]at h2;cases h2)));clear h2 hs;obtain⟨c0,c1,c2,c3,c4⟩:=bC.o.facts;have f2:=bC.o.frozen 2;clear c0 c1 c3 c4;go_wp2_with fail
         go_ret;exact⟨bX.o.setCell _ _,.inr ⟨_,_,_,HR.o,rfl,p6+1,Bg,uF,rfl,FL.o,fun u hu j hj=>bO xC.o (sW.o u hu j hj),bC.o.qD (deep:Int),by omega⟩⟩
 have hs2:¬ ax ⟨#[40]⟩ (t :: ts.drop (p+1))=true:=by rw[← HD.o,hs];decide
 rw[ag hs2]at au;rw[hs]at HS;clear hs hs2;go_upto_region 12 with (go_at_call 56;((with_reducible refine HS.o.mono ?_);rintro e w4 ⟨rfl,h1⟩;have dY:=ae (dP.o.below h1);have dD:=ae (aY.o.below h1);have Aa:=ae (aF.o.below h1 aF.o.lt);clear h1))
 clear HS dP aY aF;obtain⟨x0,x1,x2,x3,x4,x5,x6,x7,ay⟩:=Aa.o.cells
 have sj:=ae (show b3≠b from by
  intro e;have h1:=Aa.o;unfold aG at h1;rw[e,dD.o.cell]at h1;injection h1 with h1;injection h1 with _ h1;exact absurd h1 (by decide))
 obtain⟨kd,hkd⟩:∃kd,t.kind=kd:=⟨_,rfl⟩;rw[hkd]at x0;by_cases k1:t.kind=1
 · have hnx:=dR.o (by omega)
   rw[ah k1]at au;injection au with au;have HR:=ae au.symm;have e1:(kd == 1)=true:=bA.2 (by omega);obtain⟨c0,c1,c2,c3,c4⟩:=dD.o.facts;have f1:=dD.o.frozen 1;clear au k1 hkd IH c0 c2 c3 c4;go_upto_region 14 with (fail)
   have aU:=ae (dD.o.next hnx);have gI:=ae (show aG (w4.setCell ⟨b,1,none⟩ (.int .i64 ((p:Int)+1))) b3 t from by unfold aG;rw[fw _ _ _ _ (by exact sj.o)];exact Aa.o);have bg:=ae (dY.o.setCell 1 (.int .i64 ((p:Int)+1)));clear c1 f1 x0 x1 x2 x3 x4 x5 x6 x7 ay;generalize w4.setCell ⟨b,1,none⟩ (.int .i64 ((p:Int)+1))=w5 at aU gI bg ⊢;obtain⟨x0,x1,x2,x3,x4,x5,x6,x7,ay⟩:=gI.o.cells;have HA:=ae (show Calls Tryz.prog 57 #[.pointer (some ⟨b,0,none⟩),.agg #[.int .i64 1,.int .i64 t.num,.string ⟨#[]⟩,.string ⟨#[]⟩,.int .i64 0,.int .i64 0,.bool false,.bool false,.string ⟨#[]⟩,.int .i64 0,.int .i64 0,.bool false,.bool false,.slice none 0 0]] w5 _ from pK aU.o (aC.leaf { Nd.zero with kind:=1,num:=t.num }) (yc _ _ _ rfl) (by omega) (.slice none 0 0) rfl { Nd.zero with kind:=1,num:=t.num } rfl);go_wp2_with (go_at_call 57;((with_reducible refine HA.o.mono ?_);rintro e w7 ⟨h1,rfl,bq,h3⟩;have bX:=ae (bg.o.trans h1);have bC:=ae h3;clear h1 h3))
   go_ret;exact dz.leaf HR.o bX.o rfl bC.o (by omega)
 have e1:(kd == 1)=false:=aA.2 (by omega);by_cases k2:t.kind=2
 · have hnx:=dR.o (by omega)
   rw[ag k1,ah k2]at au;injection au with au;have HR:=ae au.symm;have e2:(kd == 2)=true:=bA.2 (by omega);obtain⟨c0,c1,c2,c3,c4⟩:=dD.o.facts;have f1:=dD.o.frozen 1;clear au k1 k2 hkd IH c0 c2 c3 c4;go_upto_region 17 with (fail)
   have aU:=ae (dD.o.next hnx);have gI:=ae (show aG (w4.setCell ⟨b,1,none⟩ (.int .i64 ((p:Int)+1))) b3 t from by unfold aG;rw[fw _ _ _ _ (by exact sj.o)];exact Aa.o);have bg:=ae (dY.o.setCell 1 (.int .i64 ((p:Int)+1)));clear c1 f1 x0 x1 x2 x3 x4 x5 x6 x7 ay;generalize w4.setCell ⟨b,1,none⟩ (.int .i64 ((p:Int)+1))=w5 at aU gI bg ⊢;obtain⟨x0,x1,x2,x3,x4,x5,x6,x7,ay⟩:=gI.o.cells;have HA:=ae (show Calls Tryz.prog 57 #[.pointer (some ⟨b,0,none⟩),.agg #[.int .i64 2,.int .i64 0,.string t.text,.string ⟨#[]⟩,.int .i64 0,.int .i64 0,.bool false,.bool false,.string ⟨#[]⟩,.int .i64 0,.int .i64 0,.bool false,.bool false,.slice none 0 0]] w5 _ from pK aU.o (aC.leaf { Nd.zero with kind:=2,text:=t.text }) (yc _ _ _ rfl) (by omega) (.slice none 0 0) rfl { Nd.zero with kind:=2,text:=t.text } rfl);go_wp2_with (go_at_call 57;((with_reducible refine HA.o.mono ?_);rintro e w7 ⟨h1,rfl,bq,h3⟩;have bX:=ae (bg.o.trans h1);have bC:=ae h3;clear h1 h3))
   go_ret;exact dz.leaf HR.o bX.o rfl bC.o (by omega)
 have e2:(kd == 2)=false:=aA.2 (by omega);by_cases k6:t.kind=6
 · have hnx:=dR.o (by omega)
   rw[ag k1,ag k2,ah k6]at au;injection au with au;have HR:=ae au.symm;have e6:(kd == 6)=true:=bA.2 (by omega);obtain⟨c0,c1,c2,c3,c4⟩:=dD.o.facts;have f1:=dD.o.frozen 1;clear au k1 k2 k6 hkd IH c0 c2 c3 c4;go_upto_region 20 with (fail)
   have aU:=ae (dD.o.next hnx);have gI:=ae (show aG (w4.setCell ⟨b,1,none⟩ (.int .i64 ((p:Int)+1))) b3 t from by unfold aG;rw[fw _ _ _ _ (by exact sj.o)];exact Aa.o);have bg:=ae (dY.o.setCell 1 (.int .i64 ((p:Int)+1)));clear c1 f1 x0 x1 x2 x3 x4 x5 x6 x7 ay;generalize w4.setCell ⟨b,1,none⟩ (.int .i64 ((p:Int)+1))=w5 at aU gI bg ⊢;obtain⟨x0,x1,x2,x3,x4,x5,x6,x7,ay⟩:=gI.o.cells;have HA:=ae (show Calls Tryz.prog 57 #[.pointer (some ⟨b,0,none⟩),.agg #[.int .i64 4,.int .i64 0,.string ⟨#[]⟩,.string ⟨#[]⟩,.int .i64 0,.int .i64 0,.bool false,.bool false,.string ⟨#[]⟩,.int .i64 0,.int .i64 0,.bool false,.bool false,.slice none 0 0]] w5 _ from pK aU.o (aC.leaf { Nd.zero with kind:=4 }) (yc _ _ _ rfl) (by omega) (.slice none 0 0) rfl { Nd.zero with kind:=4 } rfl);go_wp2_with (go_at_call 57;((with_reducible refine HA.o.mono ?_);rintro e w7 ⟨h1,rfl,bq,h3⟩;have bX:=ae (bg.o.trans h1);have bC:=ae h3;clear h1 h3))
   go_ret;exact dz.leaf HR.o bX.o rfl bC.o (by omega)
 have e6:(kd == 6)=false:=aA.2 (by omega);by_cases k4:t.kind=4
 · have hnx:=dR.o (by omega)
   rw[ag k1,ag k2,ag k6,ah k4]at au;injection au with au;have HA:=ae (af9 dD.o tZ nX t hnx);rw[au]at HA;have e4:(kd == 4)=true:=bA.2 (by omega);clear au k1 k2 k6 k4 hkd;go_wp2_with (go_at_call 110;((with_reducible refine HA.o.mono ?_);intro e w7 ho;have oF:=ae (dz.from dY.o ho);obtain⟨c,rfl⟩:=ho.ret;clear ho))
   go_ret;exact oF.o
 have e4:(kd == 4)=false:=aA.2 (by omega);by_cases k3:t.kind=3
 · have hnx:=dR.o (by omega)
   rw[ag k1,ag k2,ag k6,ag k4,ah k3]at au;have HA:=ae (af0 f IH t.text dD.o tZ nX hnx res au);have e3:(kd == 3)=true:=bA.2 (by omega);clear au k1 k2 k6 k4 k3 hkd IH;go_wp2_with (go_at_call 111;((with_reducible refine HA.o.mono ?_);intro e w7 ho;have oF:=ae (dz.from dY.o ho);obtain⟨c,rfl⟩:=ho.ret;clear ho))
   go_ret;exact oF.o
 have e3:(kd == 3)=false:=aA.2 (by omega);rw[ag k1,ag k2,ag k6,ag k4,ag k3]at au;injection au with au;have HR:=ae au.symm;have sV:=ae (Bo dD.o 5);clear au k1 k2 k6 k4 k3 hkd IH;go_wp2_with (go_at_call 32;((with_reducible refine sV.o.mono ?_);rintro e w7 ⟨rfl,h1,h2⟩;have bX:=ae (dY.o.trans h1);have bC:=ae h2;clear h1 h2))
 go_ret;exact dz.err HR.o (.inl rfl) bX.o (bD.Mv bC.o) hcs (by omega)
theorem dz.less {sl':Nat}(h:dz sl res w b tv ts deep vs e w')(hs:sl'≤sl):dz sl' res w b tv ts deep vs e w':=by
 refine⟨h.1,h.2.imp ?_ id⟩;rintro⟨c,g1,g2,g3,p',d,bq,us,g4,g5,g6,g7,g8⟩;exact⟨c,g1,g2,g3,p',d,bq,us,g4,g5,by omega,by omega,g8⟩
def Kk (f:Nat):Prop:=∀(deep:Nat)(res:eQ)(w:World)(b:Nat)(tv:Value)(ts:List ai)(p:Nat)(nv:Value)(vs:List aC),deep≤12→bD w b tv ts p (deep:Int) 0 nv vs→vs.length≤p→eU f 4 deep vs.length (ts.drop p)=some res →
 Calls Tryz.prog 54 #[.pointer (some ⟨b,0,none⟩)] w (dz (4+6*deep) res w b tv ts deep vs)
theorem agi (f:Nat)(IH:∀g,g≤f→DT g)(BU:∀g,g≤f→Kk g){nv:Value}(h:bD w b tv ts p (deep:Int) 0 nv vs)(tZ:vs.length≤p)(nX:deep≤12)(res:eQ)(au:eU (f+1) 4 deep vs.length (ts.drop p)=some res) :
 Calls Tryz.prog 54 #[.pointer (some ⟨b,0,none⟩)] w (dz (4+6*deep) res w b tv ts deep vs):=by
 have HS:=ae (yo h ⟨#[45]⟩);rw[aQ rfl,gL]at HS;rw[lQ,ag (by omega)]at au;have kR:=h.few;have hlt:=h.lt;have hbl:=h.blt;have hcs:vs.length+(4+6*deep)≤ts.length+100:=by omega
 have HP:=ae h;cases hq:ax ⟨#[45]⟩ (ts.drop p)
 · rw [hq,ag (by decide)]at au
   rw[hq]at HS
   match f,IH,au with
   | 0,_,au=>unfold jB at au;cases au
   | f+1,IH,au =>
   have HL:=ae (fun w1 (hb:Below w.heap.size w w1)=>(af8 f (fun g hg=>IH g (by omega)) (HP.o.below hb) tZ nX res au).mono fun e w3 ho=>(dz.from (Fr.of b hb) ho).less (show 4+6*deep≤5+6*deep by omega));clear hq au h IH BU;go_enter Tryz.func54,Tryz.ntmps54
   go_wp2_with (first
    | (go_at_call 56;((with_reducible refine HS.o.mono ?_);rintro e w1 ⟨rfl,h1⟩;have yI:=ae (HL.o w1 h1);clear h1))
    | (go_at_call 82;((with_reducible refine yI.o.mono ?_);intro e w7 ho;have oF:=ae ho;obtain⟨c,rfl⟩:=ho.ret;clear ho)))
   go_ret;exact oF.o
 · have hnx:=zF h hq
   rw[hq,ah rfl]at au;rw[hq]at HS;by_cases hd:12≤deep
   · rw [ah hd]at au
     injection au with au;have HR:=ae au.symm;clear hq au h IH BU;go_enter Tryz.func54,Tryz.ntmps54
     go_wp2_with (first
      | (go_at_call 56;((with_reducible refine HS.o.mono ?_);rintro e w4 ⟨rfl,h1⟩;have dY:=ae (Fr.of b h1);have HO:=ae (Bp (HP.o.below h1) nX hnx);clear h1))
      | (go_at_call 83;((with_reducible refine HO.o.mono ?_);rintro e w5 ⟨rfl,h1,h2⟩;rcases h2 with ⟨-,h2⟩|⟨h2, -⟩;rotate_left;exact absurd hd h2;have bg:=ae (dY.o.trans h1);have aU:=ae h2;obtain⟨c0,c1,c2,c3,c4⟩:=h2.facts;clear c0 c1 c2 c4 h1 h2)))
     go_ret;exact dz.err HR.o (.inr rfl) bg.o aU.o hcs (by omega)
   · rw [ag hd,List.tail_drop]at au
     have Ej:deep+1≤12:=by omega
     rcases eG au with ⟨c,h1,rfl⟩|⟨ns,a,r,h1,h2⟩
     · have HI:=ae (fun w2 hps=>BU f (aj _) (deep+1) _ w2 b tv ts (p+1) nv vs Ej hps (by omega) h1)
       clear hq au h IH BU h1;go_enter Tryz.func54,Tryz.ntmps54
       go_upto_region 7 with (first
        | (go_at_call 56;((with_reducible refine HS.o.mono ?_);rintro e w4 ⟨rfl,h1⟩;have dY:=ae (Fr.of b h1);have HO:=ae (Bp (HP.o.below h1) nX hnx);clear h1))
        | (go_at_call 83;((with_reducible refine HO.o.mono ?_);rintro e w5 ⟨rfl,h1,h2⟩;rcases h2 with ⟨h2, -⟩|⟨-,h2⟩;exact absurd h2 hd;have bg:=ae (dY.o.trans h1);have aU:=ae h2;obtain⟨c0,c1,c2,c3,c4⟩:=h2.facts;have HL:=ae (HI.o w5 h2);clear c0 c1 c2 c4 h1 h2))
        | (go_at_call 54;((with_reducible refine HL.o.mono ?_);intro e w6 ho;obtain⟨hf,hc,x,rfl,p6,d6,Bg,uF,pF,sJ,Es,hd6,aaG⟩:=ho.bad rfl;have ek:=ae (bg.o.trans hf);have HC:=ae hc;have dJ:=ae sJ;have xC:=ae bg.o.size;have sW:=ae pF;clear hf hc ho sJ pF)))
       clear c3;obtain⟨c0,c1,c2,c3,c4⟩:=dJ.o.facts;have f2:=dJ.o.frozen 2;clear c0 c1 c3 c4;have hd1 : -9223372036854775808≤d6 - 1:=by omega
       have hd2:d6 - 1≤9223372036854775807:=by omega
       go_upto_region 8 with (fail)
       have bC:=ae (dJ.o.qD (d6 - 1));have bX:=ae (ek.o.setCell 2 (.int .i64 (d6 - 1)));clear c2 f2;generalize w6.setCell ⟨b,2,none⟩ (.int .i64 (d6 - 1))=w7 at bC bX ⊢;have aaB:=bC.o.blt;have Aq:Below w7.heap.size w7 (w7.alloc (.cells #[.int .i64 x] 3)):=(ak _ _).alloc (aj _) _;have l6:=ae (bC.o.below Aq);have ng:=ae (bX.o.below Aq);have Kc:=ae bX.o.size;have HA:=ae (show Calls Tryz.prog 57 #[.pointer (some ⟨b,0,none⟩),.agg #[.int .i64 8,.int .i64 0,.string ⟨#[]⟩,.string ⟨#[]⟩,.int .i64 0,.int .i64 0,.bool false,.bool false,.string ⟨#[]⟩,.int .i64 0,.int .i64 0,.bool false,.bool false,.slice (some ⟨w7.heap.size,0,none⟩) 1 1]] (w7.alloc (.cells #[.int .i64 x] 3)) _ from pK l6.o ⟨{ Nd.zero with kind:=8,kids:=[x] },some (w7.heap.size,1)⟩ (HY w7 (b+1) x (by omega)) (by omega) (.slice (some ⟨w7.heap.size,0,none⟩) 1 1) rfl { Nd.zero with kind:=8,kids:=[x] } rfl);clear Aq;go_wp2_with (go_at_call 57;((with_reducible refine HA.o.mono ?_);rintro e gW ⟨h1,rfl,TU,h3⟩;have yF:=ae (ng.o.trans h1);have mI:=ae h3;clear h1 h3))
       go_ret;refine dz.y5 (us:=uF++[⟨{ Nd.zero with kind:=8,kids:=[x] },some (w7.heap.size,1)⟩]) rfl HC.o yF.o ?_ (by rw[← bN];exact mI.o) (by simp only[av,fE]at Es ⊢;omega) (by omega);intro u hu j hj;rcases dK.1 hu with hu|hu
       · exact bO xC.o (sW.o u hu j hj)
       · rw[fA.1 hu]at hj
         have hj:some w7.heap.size=some j:=hj;injection hj with hj;have:=Kc.o;omega
     · have HI:=ae (fun w2 hps=>BU f (aj _) (deep+1) _ w2 b tv ts (p+1) nv vs Ej hps (by omega) h1)
       have H1:=ae h1;injection h2 with h2;have HR:=ae h2.symm;clear hq au h IH BU h1 h2;go_enter Tryz.func54,Tryz.ntmps54
       go_upto_region 7 with (first
        | (go_at_call 56;((with_reducible refine HS.o.mono ?_);rintro e w4 ⟨rfl,h1⟩;have dY:=ae (Fr.of b h1);have HO:=ae (Bp (HP.o.below h1) nX hnx);clear h1))
        | (go_at_call 83;((with_reducible refine HO.o.mono ?_);rintro e w5 ⟨rfl,h1,h2⟩;rcases h2 with ⟨h2, -⟩|⟨-,h2⟩;exact absurd h2 hd;have bg:=ae (dY.o.trans h1);have aU:=ae h2;obtain⟨c0,c1,c2,c3,c4⟩:=h2.facts;have HL:=ae (HI.o w5 h2);clear c0 c1 c2 c4 h1 h2))
        | (go_at_call 54;((with_reducible refine HL.o.mono ?_);intro e w6 ho;obtain⟨hf,rfl,p6,Bg,uF,Co,Ez,pF,sJ,Es⟩:=ho.sH rfl;have ek:=ae (bg.o.trans hf);have dJ:=ae sJ;have xC:=ae bg.o.size;have HD6:=ae Co;have FL:=ae Ez;have sW:=ae pF;clear hf ho sJ pF Co Ez)))
       clear c3;rw[show((deep+1:Nat):Int)=(deep:Int)+1 from rfl]at dJ;obtain⟨c0,c1,c2,c3,c4⟩:=dJ.o.facts;have f2:=dJ.o.frozen 2;have Rs:=dJ.o.lt;have ajR:uF.length=ns.length:=by rw[← FL.o,eB]
       clear c0 c1 c3 c4;go_upto_region 8 with (fail)
       have bC:=ae (dJ.o.qD (deep:Int));have bX:=ae (ek.o.setCell 2 (.int .i64 (deep:Int)));clear c2 f2;generalize w6.setCell ⟨b,2,none⟩ (.int .i64 (deep:Int))=w7 at bC bX ⊢;have aaB:=bC.o.blt;have Aq:Below w7.heap.size w7 (w7.alloc (.cells #[.int .i64 ((a:Nat):Int)] 3)):=(ak _ _).alloc (aj _) _;have l6:=ae (bC.o.below Aq);have ng:=ae (bX.o.below Aq);have Kc:=ae bX.o.size;have HA:=ae (show Calls Tryz.prog 57 #[.pointer (some ⟨b,0,none⟩),.agg #[.int .i64 8,.int .i64 0,.string ⟨#[]⟩,.string ⟨#[]⟩,.int .i64 0,.int .i64 0,.bool false,.bool false,.string ⟨#[]⟩,.int .i64 0,.int .i64 0,.bool false,.bool false,.slice (some ⟨w7.heap.size,0,none⟩) 1 1]] (w7.alloc (.cells #[.int .i64 ((a:Nat):Int)] 3)) _ from pK l6.o ⟨{ Nd.zero with kind:=8,kids:=[((a:Nat):Int)] },some (w7.heap.size,1)⟩ (HY w7 (b+1) ((a:Nat):Int) (by omega)) (by omega) (.slice (some ⟨w7.heap.size,0,none⟩) 1 1) rfl { Nd.zero with kind:=8,kids:=[((a:Nat):Int)] } rfl);clear Aq;go_wp2_with (go_at_call 57;((with_reducible refine HA.o.mono ?_);rintro e gW ⟨h1,rfl,TU,h3⟩;have yF:=ae (ng.o.trans h1);have mI:=ae h3;clear h1 h3))
       go_ret;obtain⟨hc1,hc2,hc3⟩:=yZ H1.o HD6.o Rs;refine⟨yF.o,.inr ⟨_,_,_,HR.o,M5 (by first|omega|(simp only[av];omega)),p6,TU,uF++[⟨{ Nd.zero with kind:=8,kids:=[((a:Nat):Int)] },some (w7.heap.size,1)⟩],HD6.o,by rw[gP,FL.o];rfl, ?_,by rw[← bN];exact mI.o,by simp only[av,fE]at Es ⊢;omega⟩⟩;intro u hu j hj;rcases dK.1 hu with hu|hu
       · exact bO xC.o (sW.o u hu j hj)
       · rw[fA.1 hu]at hj
         have hj:some w7.heap.size=some j:=hj;injection hj with hj;have:=Kc.o;omega
theorem acO:∀n:Nat,n≤3→∀q∈gp n,9≤q.2∧q.2≤19
 | 0,_=>by decide
 | 1,_=>by decide
 | 2,_=>by decide
 | 3,_=>by decide
 | n+4,h=>by omega
theorem acP:∀n:Nat,n≤3→1≤(gp n).length∧(gp n).length≤6
 | 0,_=>by decide
 | 1,_=>by decide
 | 2,_=>by decide
 | 3,_=>by decide
 | n+4,h=>by omega
def yO(n:Nat)(ts:List ai)(j:Nat):Prop:=∀(q:Nat)(y:ByteArray × Int),q<j→(gp n)[q]? = some y→ax y.1 ts=false
theorem yO.none (h:yO n ts j)(hj:(gp n).length≤j):fC n ts=0:=by
 unfold fC;rw[KM (fun p=>ax p.1 ts) (gp n) (fun q y hy=>h q y (by have:=(dS.1 hy).1;omega) hy)]
theorem yO.at {y:ByteArray × Int}(h:yO n ts j)(hy:(gp n)[j]? = some y)(hs:ax y.1 ts=true):fC n ts=y.2:=by
 unfold fC;rw[KL (fun p=>ax p.1 ts) (gp n) j y hy hs (fun q z hq hz=>h q z hq hz)]
theorem yO.succ {y:ByteArray × Int}(h:yO n ts j)(hy:(gp n)[j]? = some y)(hs:ax y.1 ts=false):yO n ts (j+1):=by
 intro q z hq hz;by_cases e:q<j
 · exact h q z e hz
 · rw[show q=j by omega,hy]at hz;injection hz with hz;subst hz;exact hs
def Yc (f n:Nat)(res:eQ)(w:World)(b:Nat)(tv:Value)(ts:List ai)(deep:Nat)(vs:List aC)(gs gk:Nat)(yU:Value)(wr:World):Prop :=
 ∃ (g:Nat)(ns':List Nd)(a' p':Nat)(bq:Value)(us:List aC),yU = .int .i64 ((a':Nat):Int)∧g≤f∧a'+1=vs.length+ns'.length∧us.length=ns'.length∧vs.length+us.length≤p' ∧
   iJ g n deep vs.length ns' a' (ts.drop p')=some res∧us.map aC.n=ns'∧(∀u∈us,∀j,u.bn.ownBlock=some j→w.heap.size≤j)∧bD wr b tv ts p' (deep:Int) 0 bq (vs++us)∧Fr w wr b∧wB wr gs gk (gp n)
def Yb (n:Nat)(res:eQ)(w:World)(b:Nat)(tv:Value)(ts:List ai)(deep:Nat)(vs:List aC)(yU:Value)(wr:World):Prop :=
 ∃(c x d:Int)(p':Nat)(bq:Value)(us:List aC),yU = .int .i64 x∧res = .error c∧(c=5∨c=6)∧(∀u∈us,∀j,u.bn.ownBlock=some j→w.heap.size≤j)∧bD wr b tv ts p' d c bq (vs++us)∧Fr w wr b∧(vs++us).length+(n+6*deep)≤ts.length+100∧((n+6*deep:Nat):Int)≤d+100∧d≤100
theorem af' (f:Nat)(IH:∀g,g≤f→DT g)(n:Nat)(hn:n≤3){nv:Value}(h:bD w b tv ts p (deep:Int) 0 nv vs)(tZ:vs.length≤p)(nX:deep≤12)(res:eQ)
 (au:iW (eU f (n+1) deep vs.length (ts.drop p)) (fun ns a r=>iJ f n deep vs.length ns a r)=some res) :
 Calls Tryz.prog 31 #[.pointer (some ⟨b,0,none⟩),.int .i64 (n:Int)] w (dz (n+6*deep) res w b tv ts deep vs):=by
 have hw1 : -9223372036854775808≤(n:Int)+1:=by omega
 have hw2:(n:Int)+1≤9223372036854775807:=by omega
 have Gw:¬ (3:Int)<(n:Int):=by omega
 have vC:n+1≤4:=by omega
 have kR:=h.few;have hbl:=h.blt;have OC:=ae (fun w=>afW n hn w);obtain⟨hl1,hl6⟩:=acP n hn;obtain⟨LL,xP⟩:∃LL,(gp n).length=LL:=⟨_,rfl⟩;have zZ:=ae xP;rw[xP]at hl1 hl6;clear xP;rcases eG au with ⟨c,h1,rfl⟩|⟨ns,a,r,h1,h2⟩
 · have HL:=ae (show Calls Tryz.prog 31 #[.pointer (some ⟨b,0,none⟩),.int .i64 ((n:Int)+1)] w (dz (n+1+6*deep) (.error c) w b tv ts deep vs)from IH f (aj _) (n+1) deep _ w b tv ts p nv vs vC nX h tZ h1)
   clear au h1 IH h;go_enter Tryz.func31,Tryz.ntmps31
   go_upto_region 5 with (first
    | (go_at_call 31;((with_reducible refine HL.o.mono ?_);intro e w2 ho;obtain⟨hf,hc,x,rfl,p2,d2,TT,BB,hk2,Ev,hn2,hd2,ajv⟩:=ho.bad rfl;have bT:=ae hf;have HC:=ae hc;have dI:=ae Ev;have oV:=ae hk2;clear hf hc ho Ev hk2))
    | (go_at_call 55;((with_reducible refine(OC.o _).mono ?_);rintro e w3 ⟨h1,gs,gk,rfl,h2,h3,h4⟩;rw[zZ.o];have dP:=ae (bT.o.below h1);have aY:=ae (dI.o.below h1);clear h1 h2 h3 h4)))
   obtain⟨c0,c1,c2,c3,c4⟩:=aY.o.facts;clear c0 c1 c2 c4;have hc0:(c == 0)=false:=by rw[aA];rcases HC.o with h|h <;> omega
   go_loopw [5] (fun yU wr=>yU = .int .i64 x∧w3=wr) (fun _ _=>0)
   case atStart=>exact⟨rfl,rfl⟩
   case round =>
    obtain⟨rfl,rfl⟩:=hrel;go_wp2_with fail
    go_ret;exact dz.y5 rfl HC.o dP.o oV.o aY.o (by omega) (by omega)
 · have HL := ae (show Calls Tryz.prog 31 #[.pointer (some ⟨b,0,none⟩),.int .i64 ((n:Int)+1)] w (dz (n+1+6*deep) (.ok (ns,a,r)) w b tv ts deep vs)from IH f (aj _) (n+1) deep _ w b tv ts p nv vs vC nX h tZ h1)
   have rZ:=ae IH;have H1:=ae h1;have H2:=ae h2;clear au h1 h2 IH h;go_enter Tryz.func31,Tryz.ntmps31
   go_upto_region 5 with (first
    | (go_at_call 31;((with_reducible refine HL.o.mono ?_);intro e w2 ho;obtain⟨hf,rfl,p2,TT,BB,hp2,hu2,hk2,Ev,hn2⟩:=ho.sH rfl;have bT:=ae hf;have dI:=ae Ev;have HD2:=ae hp2;have J4:=ae hu2;have oV:=ae hk2;clear hf ho Ev hk2 hp2 hu2))
    | (go_at_call 55;((with_reducible refine(OC.o _).mono ?_);rintro e w3 ⟨h1,gs,gk,rfl,h2,h3,h4⟩;rw[zZ.o];have dP:=ae (bT.o.below h1);have aY:=ae (dI.o.below h1);have O4:=ae h4;have hgs:=dI.o.blt;have aaP:=bT.o.size;clear h1 h4)))
   have hbs:b<gs:=by omega
   have hbk:b<gk:=by omega
   have RO:BB.length=ns.length:=by rw[← J4.o,eB]
   have aa4:(vs++BB).length=vs.length+BB.length:=av;have h3:=yZ H1.o HD2.o aY.o.lt
   go_loopw [5] (fun yU wr=>Hid (Yc f n res w b tv ts deep vs gs gk yU wr)∨Hid (Yb n res w b tv ts deep vs yU wr)) (fun _ wr=>wV b ts.length wr)
   case atStart =>
    refine .inl (ae ⟨f,ns,a,p2,TT,BB,rfl,aj _,h3.2.1,RO,by omega, ?_,J4.o,oV.o,aY.o,dP.o,O4.o⟩);rw[HD2.o];exact H2.o
   case round =>
    clear HL H1 H2 bT dI HD2 J4 oV dP aY O4 h3 RO aa4 hn2 hgs aaP h2;rcases hrel with hrel|hrel
    rotate_left
    · obtain⟨c,x,d,p',bq,us,rfl,hrc,hc,hk,hps,hf,hct,hd1,hd2⟩:=hrel.o
      have HP:=ae hps;have HF:=ae hf;have HK:=ae hk;have HC:=ae hc;have wu:=ae hrc;have hc0:(c == 0)=false:=by rw[aA];rcases hc with h|h <;> omega
      obtain⟨c0,c1,c2,c3,c4⟩:=hps.facts;clear hps hf hk hc hrc c0 c1 c2 c4 hrel;go_wp2_with fail
      go_ret;exact dz.y5 wu.o HC.o HF.o HK.o HP.o hct (by omega)
    obtain⟨g,ns',a',p',bq,us,rfl,hg,ha,AZ,hcn,hR,hU,hK,QN,hF,hV⟩:=hrel.o;have HU:=ae hU;have HK:=ae hK;have iV:=ae QN;have HF:=ae hF;have dF:=ae hV;have HR:=ae hR;clear hU hK QN hF hV hR hrel;have aa8:=iV.o.lt;have HM:=ae (iV.o.wV ts.length);obtain⟨c0,c1,c2,c3,c4⟩:=iV.o.facts;clear c0 c1 c2 c4;go_upto_region 8 with (fail)
    match g,hg,HR with
    | 0,_,HR=>have:=HR.o;unfold iJ at this;cases this
    | g+1,hg,HR =>
    have hr:=HR.o;rw[qB]at hr;have HRR:=ae hr;clear hr HR
    go_loopw [8,9] (fun bn x8 wq=>∃(j:Nat),j≤LL∧x8 = .int .i64 (j:Int)∧((bn = .int .i64 0∧Hid (yO n (ts.drop p') j)∧Hid (Below wr.heap.size wr wq)) ∨
     (∃kd:Int,bn = .int .i64 kd∧Hid (fC n (ts.drop p')=kd)∧9≤kd∧Hid (bD wq b tv ts (p'+1) (deep:Int) 0 bq (vs++us))∧Hid (Fr wr wq b))))
     (fun _ x8 _=>LL - (intOf x8).toNat)
    case atStart=>exact⟨0,eP _,rfl,.inl ⟨rfl,ae (by intro q y hq;omega),ae (ak _ _)⟩⟩
    case round =>
     obtain⟨j,hj,rfl,hk⟩:=hrel;rcases hk with ⟨rfl,HN,HB⟩|⟨kd,rfl,mH,K6,Ab,Js⟩
     · by_cases hjl:j<LL
       · have hji:(j:Int)<(LL:Int):=by omega
         obtain⟨q,hq⟩:∃q,(gp n)[j]? = some q:=⟨_,dL (by rw[zZ.o];exact hjl)⟩;obtain⟨d0,d1⟩:=(dF.o.below HB.o).cells j q hq;have Ab:=ae (iV.o.below HB.o);have HS:=ae (yo Ab.o q.1);rw[aQ rfl,gL]at HS;have HQ:=ae hq;cases hs:ax q.1 (ts.drop p')
         · rw[hs]at HS
           have cZ:=ae (HN.o.succ hq hs);clear hs hq;go_wp2_with (go_at_call 56;((with_reducible refine HS.o.mono ?_);rintro e w4 ⟨rfl,h1⟩;have dC:=ae (HB.o.trans (h1.mono HB.o.size));clear h1))
           go_roundw
           case rel=>exact⟨j+1,by omega,by go_num,.inl ⟨rfl,cZ,dC⟩⟩
           case measure=>simp[intOf];omega
         · have hnx:=zF Ab.o hs
           rw[hs]at HS;have lJ:=ae (HN.o.at hq hs);have hkr:=(acO n hn q (fT hq)).1;clear hs hq;go_upto_region 12 with (go_at_call 56;((with_reducible refine HS.o.mono ?_);rintro e w4 ⟨rfl,h1⟩;have dC:=ae (HB.o.trans (h1.mono HB.o.size));have dD:=ae (Ab.o.below h1);obtain⟨z0,z1⟩:=(dF.o.below dC.o).cells j q HQ.o;clear h1))
           clear z0 z1 d0 d1 c3;obtain⟨c0,c1,c2,c3,c4⟩:=dD.o.facts;have f1:=dD.o.frozen 1;clear c0 c2 c3 c4;go_wp2_with fail
           go_roundw
           case rel=>exact⟨j+1,by omega,by go_num,.inr ⟨q.2,rfl,lJ,hkr,ae (dD.o.next hnx),ae ((Fr.of b dC.o).setCell _ _)⟩⟩
           case measure=>simp[intOf];omega
       · have hji:¬ (j:Int)<(LL:Int):=by omega
         have h0:=HN.o.none (by rw[zZ.o];omega);have hr:=HRR.o;rw[ah h0]at hr;injection hr with hr;have JQ:=ae hr.symm;have dD:=ae (iV.o.below HB.o);have dY:=ae (HF.o.below HB.o);have hlen:(vs++us).length=vs.length+us.length:=av;clear hr h0;go_wp2_with fail
         go_ret;exact⟨dY.o,.inr ⟨_,_,_,JQ.o,rfl,p',bq,us,rfl,HU.o,HK.o,dD.o,by omega⟩⟩
     · have hk0:(kd == 0)=false:=by rw[aA];omega
       have hr:=HRR.o;rw[ag (by rw[mH.o];omega),mH.o,List.tail_drop]at hr;have hlen:(vs++us).length=vs.length+us.length:=av;have jT:vs.length+ns'.length=(vs++us).length:=by rw[hlen,AZ]
       rw[jT]at hr;have hpq:=Ab.o.lt;have O9:=ae (bO HF.o.size Js.o.size);have Ov:=ae (HF.o.trans Js.o);have XR:=ae (dF.o.fr Js.o hbs hbk);clear c3;have hjc:(j:Int)<(LL:Int)∨¬ (j:Int)<(LL:Int):=by omega
       rcases eG hr with ⟨c,h1,h2⟩|⟨ms,b2,r2,h1,h2⟩
       · have wu:=ae h2
         have HL:=ae (show Calls Tryz.prog 31 #[.pointer (some ⟨b,0,none⟩),.int .i64 ((n:Int)+1)] wr (dz (n+1+6*deep) (.error c) wr b tv ts deep (vs++us))from rZ.o g (by omega) (n+1) deep _ wr b tv ts (p'+1) bq (vs++us) vC nX Ab.o (by omega) h1);clear h1 h2 hr HRR;rcases hjc with hji|hji
         all_goals
         go_upto_region 15 with (go_at_call 31;((with_reducible refine HL.o.mono ?_);intro e w5 ho;obtain⟨hf,hc,x,rfl,p5,d5,oM,dN,hk5,iX,Er,hd5,Q0⟩:=ho.bad rfl;have bg:=ae (Ov.o.trans hf);have aU:=ae iX;have lg:=ae hk5;have HC:=ae hc;clear hf hc ho iX hk5))
         have hbl:=aU.o.blt;have il:Below w5.heap.size w5 (w5.alloc (.cells #[.int .i64 ((a':Nat):Int),.int .i64 x] 3)):=(ak _ _).alloc (aj _) _;have dJ:=ae (aU.o.below il);have ek:=ae (bg.o.below il);have HA:=ae (show Calls Tryz.prog 57 #[.pointer (some ⟨b,0,none⟩),.agg #[.int .i64 kd,.int .i64 0,.string ⟨#[]⟩,.string ⟨#[]⟩,.int .i64 0,.int .i64 0,.bool false,.bool false,.string ⟨#[]⟩,.int .i64 0,.int .i64 0,.bool false,.bool false,.slice (some ⟨w5.heap.size,0,none⟩) 2 2]] (w5.alloc (.cells #[.int .i64 ((a':Nat):Int),.int .i64 x] 3)) _ from pK dJ.o ⟨{ Nd.zero with kind:=kd,kids:=[((a':Nat):Int),x] },some (w5.heap.size,2)⟩ (HZ w5 (b+1) ((a':Nat):Int) (x) (by omega)) (by omega) (.slice (some ⟨w5.heap.size,0,none⟩) 2 2) rfl { Nd.zero with kind:=kd,kids:=[((a':Nat):Int),x] } rfl);clear il;go_wp2_with (go_at_call 57;((with_reducible refine HA.o.mono ?_);rintro e w7 ⟨h1,rfl,Bh,h3⟩;have bX:=ae (ek.o.trans h1);have bC:=ae h3;clear h1 h3))
         have JJ:=ae (show ∀u∈us++(dN++[⟨{ Nd.zero with kind:=kd,kids:=[((a':Nat):Int),x] },some (w5.heap.size,2)⟩]),∀j,u.bn.ownBlock=some j→w.heap.size≤j from by
          intro u hu j hj;rcases dK.1 hu with hu|hu
          · exact HK.o u hu j hj
          · rcases dK.1 hu with hu|hu
            · exact bO O9.o (lg.o u hu j hj)
            · rw[fA.1 hu]at hj
              have hj:some w5.heap.size=some j:=hj;injection hj with hj;have:=bg.o.size;omega)
         go_roundw
         case rel =>
          refine .inr (ae ⟨c,_,d5,p5,Bh,us++(dN++[⟨{ Nd.zero with kind:=kd,kids:=[((a':Nat):Int),x] },some (w5.heap.size,2)⟩]),rfl,wu.o,HC.o,JJ.o,by rw[← bN, ← bN];exact bC.o,bX.o, ?_,by omega,Q0⟩);simp only[av,fE]at Er ⊢;omega
         case measure =>
          have h1:=bC.o.wV ts.length;rw[HM.o,h1,ag (show ¬ c=0 by rcases HC.o with h|h <;> omega)];simp only[if_true];omega
       · have HL:=ae (show Calls Tryz.prog 31 #[.pointer (some ⟨b,0,none⟩),.int .i64 ((n:Int)+1)] wr (dz (n+1+6*deep) (.ok (ms,b2,r2)) wr b tv ts deep (vs++us))from rZ.o g (by omega) (n+1) deep _ wr b tv ts (p'+1) bq (vs++us) vC nX Ab.o (by omega) h1)
         have H1:=ae h1;have H2:=ae h2;clear h1 h2 hr HRR;rcases hjc with hji|hji
         all_goals
         go_upto_region 15 with (go_at_call 31;((with_reducible refine HL.o.mono ?_);intro e w5 ho;obtain⟨hf,rfl,p5,oM,dN,lT,j6,hk5,iX,Er⟩:=ho.sH rfl;have bg:=ae (Ov.o.trans hf);have aU:=ae iX;have HD5:=ae lT;have lh:=ae j6;have lg:=ae hk5;have HV5:=ae (XR.o.fr hf hbs hbk);clear hf ho iX hk5 lT j6))
         obtain⟨hc1,hc2,hc3⟩:=yZ H1.o HD5.o aU.o.lt;have GH:dN.length=ms.length:=by rw[← lh.o,eB]
         have Gu:((vs++us)++dN).length=vs.length+us.length+dN.length:=by rw[av,av]
         have abm:=aU.o.lt;have hbl:=aU.o.blt;have il:Below w5.heap.size w5 (w5.alloc (.cells #[.int .i64 ((a':Nat):Int),.int .i64 ((b2:Nat):Int)] 3)):=(ak _ _).alloc (aj _) _;have dJ:=ae (aU.o.below il);have ek:=ae (bg.o.below il);have HA:=ae (show Calls Tryz.prog 57 #[.pointer (some ⟨b,0,none⟩),.agg #[.int .i64 kd,.int .i64 0,.string ⟨#[]⟩,.string ⟨#[]⟩,.int .i64 0,.int .i64 0,.bool false,.bool false,.string ⟨#[]⟩,.int .i64 0,.int .i64 0,.bool false,.bool false,.slice (some ⟨w5.heap.size,0,none⟩) 2 2]] (w5.alloc (.cells #[.int .i64 ((a':Nat):Int),.int .i64 ((b2:Nat):Int)] 3)) _ from pK dJ.o ⟨{ Nd.zero with kind:=kd,kids:=[((a':Nat):Int),((b2:Nat):Int)] },some (w5.heap.size,2)⟩ (HZ w5 (b+1) ((a':Nat):Int) (((b2:Nat):Int)) (by omega)) (by omega) (.slice (some ⟨w5.heap.size,0,none⟩) 2 2) rfl { Nd.zero with kind:=kd,kids:=[((a':Nat):Int),((b2:Nat):Int)] } rfl);have yC:=ae il;clear il;go_wp2_with (go_at_call 57;((with_reducible refine HA.o.mono ?_);rintro e w7 ⟨h1,rfl,Bh,h3⟩;have sV:=ae h1;have bX:=ae (ek.o.trans h1);have bC:=ae h3;clear h1 h3))
         have JJ:=ae (show ∀u∈us++(dN++[⟨{ Nd.zero with kind:=kd,kids:=[((a':Nat):Int),((b2:Nat):Int)] },some (w5.heap.size,2)⟩]),∀j,u.bn.ownBlock=some j→w.heap.size≤j from by
          intro u hu j hj;rcases dK.1 hu with hu|hu
          · exact HK.o u hu j hj
          · rcases dK.1 hu with hu|hu
            · exact bO O9.o (lg.o u hu j hj)
            · rw[fA.1 hu]at hj
              have hj:some w5.heap.size=some j:=hj;injection hj with hj;have:=bg.o.size;omega)
         have XQ:=ae (HV5.o.fr ((Fr.of b yC.o).trans sV.o) hbs hbk)
         go_roundw
         case rel =>
          refine .inl (ae ⟨g,ns'++(ms++[{ Nd.zero with kind:=kd,kids:=[((a':Nat):Int),((b2:Nat):Int)] }]),vs.length+(ns'.length+ms.length),p5,Bh,us++(dN++[⟨{ Nd.zero with kind:=kd,kids:=[((a':Nat):Int),((b2:Nat):Int)] },some (w5.heap.size,2)⟩]), ?_,by omega, ?_, ?_, ?_, ?_, ?_,JJ.o,by rw[← bN, ← bN];exact bC.o,bX.o,XQ.o⟩)
          · congr 1
          · rw[av,av,fE];omega
          · rw[av,av,av,av,fE,fE];omega
          · rw[av,av,fE];omega
          · rw[HD5.o];exact H2.o
          · rw[gP,gP,HU.o,lh.o];rfl
         case measure =>
          have h1:=bC.o.wV ts.length;rw[HM.o,h1];simp only[if_true];omega
theorem UX:∀F:Nat,DT F∧Kk F:=by
 intro F
 induction F using Nat.strongRecOn with
 | _ F ih =>
   have main:Kk F:=by
    intro deep res w b tv ts p nv vs hd h hc au
    match F,ih,au with
    | 0,_,au=>unfold eU at au;cases au
    | f+1,ih,au=>exact agi f (fun g hg=>(ih g (by omega)).1) (fun g hg=>(ih g (by omega)).2) h hc hd res au
   refine⟨?_,main⟩;intro n deep res w b tv ts p nv vs hn hd h hc au;by_cases h3:n≤3
   · match F,ih,au with
     | 0,_,au=>unfold eU at au;cases au
     | f+1,ih,au =>
     rw[lQ,ah h3]at au;exact af' f (fun g hg=>(ih g (by omega)).1) n h3 h hc hd res au
   · have e4:n=4:=by omega
     subst e4;have HM:=ae (main deep res w b tv ts p nv vs hd h hc au);clear au h main ih hc hn h3;go_enter Tryz.func31,Tryz.ntmps31;go_wp2_with (go_at_call 54;((with_reducible refine HM.o.mono ?_);intro e w7 ho;have oF:=ae ho;obtain⟨c,rfl⟩:=ho.ret;clear ho))
     go_ret;exact oF.o
def jO(w:World)(b:Nat)(v:Value)(e:Int):Prop:=w.heap[b]? = some (.cells #[v,.int .i64 e] 49)
theorem jO.lt{e:Int}(h:jO w b v e):b<w.heap.size:=(dn.1 h).1
theorem jO.below{e:Int}(h:jO w b v e)(hb:Below B w w')(hB:b<B):jO w' b v e:=by unfold jO;rw[hb.block b hB];exact h
theorem jO.facts {e:Int}(h:jO w b v e):w.cell? ⟨b,0,none⟩=some v∧w.cell? ⟨b,1,none⟩=some (.int .i64 e) :=
 ⟨by rw[cell_of_row w b 0 _ _ _ h];rfl,by rw[cell_of_row w b 1 _ _ _ h];rfl⟩
theorem jO.bS{e:Int}(h:jO w b v e):w.frozen? ⟨b,0,none⟩=false∧w.frozen? ⟨b,1,none⟩=false:=⟨frozen_of_row w b 0 _ _ h,frozen_of_row w b 1 _ _ h⟩
theorem jO.oN {v0:Value}{e0:Int}(h:jO w b v0 e0)(v:Value)(e:Int):jO ((w.setCell ⟨b,0,none⟩ v).setCell ⟨b,1,none⟩ (.int .i64 e)) b v e:=by
 have h1:(w.setCell ⟨b,0,none⟩ v).heap[b]? = some (.cells #[v,.int .i64 e0] 49):=by rw[heap_setCell_same w b 0 _ _ _ h];rfl
 unfold jO;rw[heap_setCell_same _ b 1 _ _ _ h1];rfl
theorem jO.new(w:World)(v:Value)(e:Int):jO (w.alloc (.cells #[v,.int .i64 e] 49)) w.heap.size v e:=(kW w _).1
theorem aeH:(Tryz.prog.info? 49).map (·.size)=some 2:=by kernel_rfl
theorem Hy {e:Int}(h:jO w b v e)(fn:Func)(tmps:Array Value)(p:Tmp)(hf:fn.results=#[.cell p 49])(hp:tmps.getD p undef = .pointer (some ⟨b,0,none⟩)) :
 (results fn tmps).run Tryz.prog w = .ok (.agg #[v,.int .i64 e]) w :=
 results_cell_row hf tmps w b _ _ _ _ hp h Tryz.underlying49 rfl aeH
theorem Im:Tryz.f17.results=#[.cell 2 49]:=by kernel_rfl
theorem Gc{a:World}{g:Nat}(h:Below B a w)(hg:B≤g)(v0 v1:Value):Below B a ((w.setCell ⟨g,0,none⟩ v0).setCell ⟨g,1,none⟩ v1):=(h.setCell hg _).setCell hg _
def Ya (res:Except Int (List Nd))(w:World)(e:Ending)(w':World):Prop :=
 Below w.heap.size w w'∧((∃c,res = .error c∧(c=4∨c=5∨c=6)∧e = .returned (.agg #[.slice none 0 0,.int .i64 c])) ∨
  (∃ns g cap vs,res = .ok ns∧vs.map aC.n=ns∧e = .returned (.agg #[.slice (some ⟨g,0,none⟩) vs.length cap,.int .i64 0])∧ky w' w.heap.size (.slice (some ⟨g,0,none⟩) vs.length cap) vs∧vs.length≤1000))
theorem acW {s:ByteArray}{w1:World}(h:FV s w e w1)(h1:s.size≤300)(ts:List ai)(h2:gJ (sb s)=some ts):Below w.heap.size w w1∧∃v,e = .returned (.agg #[v,.int .i64 0])∧sF w1 w.heap.size v ts:=by
 rcases h with ⟨hb,⟨h,_⟩|⟨_,h,_⟩|⟨_,ts',v,h3,h4,h5⟩⟩
 · omega
 · rw[h2]at h;cases h
 · rw[h2]at h3;injection h3 with h3;subst h3;exact⟨hb,v,h4,h5⟩
theorem SX {s:ByteArray}{w1:World}(h:FV s w e w1)(h1:300<s.size∨(s.size≤300∧gJ (sb s)=none)):Below w.heap.size w w1∧e = .returned (.agg #[.slice none 0 0,.int .i64 (if 300<s.size then 4 else 5)]):=by
 rcases h with ⟨hb,⟨h,he⟩|⟨h,h0,he⟩|⟨h,ts',v,h3,_⟩⟩
 · rw[ah h];exact⟨hb,he⟩
 · rw[ag (by omega)];exact⟨hb,he⟩
 · rcases h1 with h1|⟨_,h1⟩
   · omega
   · rw[h1]at h3;cases h3
theorem ad'{us:List aC}(h:ky w B v us)(n:Nat):ky (w.drewN n) B v us:=h
theorem jO.fr {c:Nat}{e:Int}(h:jO w c v e)(hf:Fr w w' b)(hc:c<b):jO w' c v e:=by
 unfold jO;rw[hf.block c h.lt (by omega) (.inl hc)];exact h
theorem U3 (s:ByteArray)(w:World)(c:Int)(hc:c=4∨c=5)(hl:∀w e w1,FV s w e w1→Below w.heap.size w w1∧e = .returned (.agg #[.slice none 0 0,.int .i64 c])) :
 Calls Tryz.prog 17 #[.string s] w fun e w'=>Below w.heap.size w w'∧e = .returned (.agg #[.slice none 0 0,.int .i64 c]):=by
 have HL:=ae hl;have hc0:(c != 0)=true:=by rw[bne_iff_ne];omega
 have tq:=ae (jO.new w (.slice none 0 0) 0);have bu:=ae (show Below w.heap.size w (w.alloc (.cells #[.slice none 0 0,.int .i64 0] 49))from(ak _ _).alloc (aj _) _);have xk:=ae (fun w=>UB s w);clear hl;go_enter Tryz.func17,Tryz.ntmps17;go_upto_region 1 with (fail)
 generalize w.alloc (.cells #[.slice none 0 0,.int .i64 0] 49)=w1 at tq bu ⊢;go_upto_region 2 with (go_at_call 30;((with_reducible refine(xk.o _).mono ?_);intro e w2 hx;obtain⟨hb,he⟩:=HL.o _ _ _ hx;subst he;have HB2:=ae (bu.o.trans (hb.mono bu.o.size));have BN:=ae (tq.o.below hb tq.o.lt);clear hb hx))
 have hB3:Below w2.heap.size w2 (w2.alloc (.cells #[.slice none 0 0,.int .i64 c] 65)):=(ak _ _).alloc (aj _) _;have HT3:=l8.new w2 (.slice none 0 0) c;have HB3:=ae (HB2.o.trans (hB3.mono HB2.o.size));have wo:=ae (BN.o.below hB3 BN.o.lt);clear hB3;generalize hb2:w2.heap.size=b2 at HT3 ⊢;generalize w2.alloc (.cells #[.slice none 0 0,.int .i64 c] 65)=w3 at HT3 HB3 wo ⊢;clear hb2;obtain⟨x0,x1⟩:=HT3.facts;obtain⟨y0,y1⟩:=wo.o.facts;obtain⟨z0,z1⟩:=wo.o.bS;go_wp2_with fail
 exact bodyPost_ret (Hy (wo.o.oN (.slice none 0 0) c) _ _ 2 Im rfl) rfl ⟨Gc HB3.o (aj _) _ _,rfl⟩
theorem U2 (s:ByteArray)(w:World)(res:Except Int (List Nd))(hp:jc s res):Calls Tryz.prog 17 #[.string s] w (Ya res w):=by
 rcases hp with ⟨h1,rfl⟩|⟨h1,h2,rfl⟩|⟨h1,ts,f,h2,h3⟩
 · refine(U3 s w 4 (.inl rfl) (fun w e w1 h=>by have:=SX h (.inl h1);rw[ah h1]at this;exact this)).mono ?_
   rintro e w' ⟨hb,rfl⟩;exact⟨hb,.inl ⟨4,rfl,.inl rfl,rfl⟩⟩
 · refine(U3 s w 5 (.inr rfl) (fun w e w1 h=>by have:=SX h (.inr ⟨h1,h2⟩);rw[ag (by omega)]at this;exact this)).mono ?_
   rintro e w' ⟨hb,rfl⟩;exact⟨hb,.inl ⟨5,rfl,.inr (.inl rfl),rfl⟩⟩
 obtain⟨xS,AB⟩:=G6 s ts h2;have hlen:=SH s ts h2;have hne:=List.length_pos_iff.2 (LV s ts h2);have Dq:=ae AB;have tq:=ae (jO.new w (.slice none 0 0) 0);have bu:=ae (show Below w.heap.size w (w.alloc (.cells #[.slice none 0 0,.int .i64 0] 49))from(ak _ _).alloc (aj _) _);have xk:=ae (fun w=>(UB s w).mono fun e w1 h=>acW h h1 ts h2);unfold lW at h3;have H3:=ae h3;obtain⟨nt,hnt⟩:∃nt,ts.length=nt:=⟨_,rfl⟩;have mq:=ae hnt;rw[hnt]at hlen hne;clear h2 h3 xS AB hnt;go_enter Tryz.func17,Tryz.ntmps17;go_upto_region 1 with (fail)
 generalize w.alloc (.cells #[.slice none 0 0,.int .i64 0] 49)=w1 at tq bu ⊢;go_upto_region 2 with (go_at_call 30;((with_reducible refine(xk.o _).mono ?_);rintro e w2 ⟨hb,tv,rfl,ho⟩;obtain⟨g1,gm,wO,hg0,hg1, -, -⟩:=Own.some ho (by rw[mq.o];exact hne);rw[mq.o]at wO;subst wO;have HB2:=ae (bu.o.trans (hb.mono bu.o.size));have BN:=ae (tq.o.below hb tq.o.lt);have nP:=ae ho;clear hb ho))
 have hB3:Below w2.heap.size w2 (w2.alloc (.cells #[.slice (some ⟨g1,0,none⟩) nt gm,.int .i64 0] 65)):=(ak _ _).alloc (aj _) _;have HT3:=l8.new w2 (.slice (some ⟨g1,0,none⟩) nt gm) 0;have HB3:=ae (HB2.o.trans (hB3.mono HB2.o.size));have wo:=ae (BN.o.below hB3 BN.o.lt);have gQ:=ae (nP.o.below hB3 (aj _));have hg3:g1<(w2.alloc (.cells #[.slice (some ⟨g1,0,none⟩) nt gm,.int .i64 0] 65)).heap.size:=by simp;omega
 clear hB3 HB2 BN nP xk hg0 hg1;generalize hb2:w2.heap.size=b2 at HT3 ⊢;generalize w2.alloc (.cells #[.slice (some ⟨g1,0,none⟩) nt gm,.int .i64 0] 65)=w3 at HT3 HB3 wo gQ hg3 ⊢;clear hb2;obtain⟨x0,x1⟩:=HT3.facts;clear HT3;go_upto_region 5 with (fail)
 have hB4:Below w3.heap.size w3 (w3.alloc (.cells #[.slice (some ⟨g1,0,none⟩) nt gm,.int .i64 0,.int .i64 0,.int .i64 0,.slice none 0 0] 69)):=(ak _ _).alloc (aj _) _;have Gq:(w3.alloc (.cells #[.slice (some ⟨g1,0,none⟩) nt gm,.int .i64 0,.int .i64 0,.int .i64 0,.slice none 0 0] 69)).heap[w3.heap.size]? = some (.cells #[.slice (some ⟨g1,0,none⟩) nt gm,.int .i64 0,.int .i64 0,.int .i64 0,.slice none 0 0] 69):=(kW w3 _).1;have dC:=ae (HB3.o.trans (hB4.mono HB3.o.size));have JL:=ae (wo.o.below hB4 wo.o.lt);have nQ:=ae (gQ.o.below hB4 (aj _));have hpb:=wo.o.lt;have hzb:=HB3.o.size;clear hB4 x0 x1;generalize w3.alloc (.cells #[.slice (some ⟨g1,0,none⟩) nt gm,.int .i64 0,.int .i64 0,.int .i64 0,.slice none 0 0] 69)=w4 at Gq dC JL nQ ⊢;generalize w3.heap.size=b at Gq hg3 hpb hzb ⊢
 have HP:=ae (show bD w4 b (.slice (some ⟨g1,0,none⟩) nt gm) ts 0 ((0:Nat):Int) 0 (.slice none 0 0) []from
  ⟨Gq,⟨g1,gm,by rw[mq.o],hg3,nQ.o.mono (eP _)⟩,ky.nil _ _,by rw[mq.o];exact hne,Dq.o,by rw[mq.o];omega,eP _⟩)
 clear Gq nQ Dq gQ HB3 wo bu tq;have hB0:w.heap.size≤b:=by omega
 rcases eG H3.o with ⟨c,g2,rfl⟩|⟨ns,a,r,g2,g3⟩
 · have HX:=ae (show Calls Tryz.prog 31 #[.pointer (some ⟨b,0,none⟩),.int .i64 0] w4 (dz (0+6*0) (.error c) w4 b (.slice (some ⟨g1,0,none⟩) nt gm) ts 0 [])from(UX f).1 0 0 _ w4 b _ ts 0 _ [] (by omega) (by omega) HP.o (aj _) g2)
   clear g2 H3;go_upto_region 6 with (go_at_call 31;((with_reducible refine HX.o.mono ?_);intro e w5 ho;obtain⟨hf,hc,x,rfl,p5,d5,oM,dN,hk5,iX, -, -, -⟩:=ho.bad rfl;have eD:=ae (dC.o.trans (hf.toBelow hB0 dC.o.size));have yL:=ae (JL.o.fr hf hpb);have aU:=ae iX;have HC:=ae hc;clear hf hc ho hk5 iX))
   obtain⟨c0,c1,c2,c3,c4⟩:=aU.o.facts;obtain⟨y0,y1⟩:=yL.o.facts;obtain⟨z0,z1⟩:=yL.o.bS;have hc0:(c == 0)=false:=by rw[aA];rcases HC.o with h|h <;> omega
   have hc1:(c != 0)=true:=by rw[bne,hc0];rfl
   go_quiet (fail)
   go_wp2_with fail
   exact bodyPost_ret (Hy ((show jO (w5.drewN nq) w.heap.size (.slice none 0 0) 0 from yL.o).oN (.slice none 0 0) c) _ _ 2 Im rfl) rfl ⟨Gc (qj eD.o nq) (aj _) _ _,.inl ⟨c,rfl,.inr HC.o,rfl⟩⟩
 · have HX:=ae (show Calls Tryz.prog 31 #[.pointer (some ⟨b,0,none⟩),.int .i64 0] w4 (dz (0+6*0) (.ok (ns,a,r)) w4 b (.slice (some ⟨g1,0,none⟩) nt gm) ts 0 [])from(UX f).1 0 0 _ w4 b _ ts 0 _ [] (by omega) (by omega) HP.o (aj _) g2)
   have hns:=((vQ f).1 _ _ _ _ _ _ _ g2).2.2;have H4:=ae g3;clear g2 g3 H3;go_upto_region 6 with (go_at_call 31;((with_reducible refine HX.o.mono ?_);intro e w5 ho;obtain⟨hf,rfl,p5,oM,dN,lT,j6,hk5,iX, -⟩:=ho.sH rfl;have eD:=ae (dC.o.trans (hf.toBelow hB0 dC.o.size));have yL:=ae (JL.o.fr hf hpb);have aU:=ae iX;have HD5:=ae lT;have lh:=ae j6;clear hf ho lT j6 hk5 iX))
   obtain⟨c0,c1,c2,c3,c4⟩:=aU.o.facts;obtain⟨gt,ct,t,wO,ht,hd, -,k0, -⟩:=aU.o.tok;injection wO with wO htl htc;injection wO with wO;injection wO with wO;subst wO;have h4:=H4.o;rw[← HD5.o,hd]at h4;have ze:=aU.o.lt;obtain⟨g5,P5,rfl, -, -, -, -⟩:=Own.some aU.o.nodes.1 (show 0<(([]:List aC)++dN).length by rw[iy, ← eB (f:=aC.n),lh.o];omega);have hi1:(0:Int)≤(p5:Int):=by omega
   have hi2:(p5:Int)<(nt:Int):=by rw[mq.o]at ze;omega
   obtain⟨kd,hkd⟩:∃kd,t.kind=kd:=⟨_,rfl⟩;rw[hkd]at k0;clear HX ht hd H4 htl htc ze;by_cases h0:t.kind=0
   · rw[show uo (t :: ts.drop (p5+1))=t.kind from rfl,ah h0]at h4
     injection h4 with h4;have HR:=ae h4.symm;have e0:(kd != 0)=false:=by rw[← hkd,h0];rfl
     clear h4 h0 hkd;go_quiet (fail)
     obtain⟨y0,y1⟩:=yL.o.facts;obtain⟨z0,z1⟩:=yL.o.bS;go_wp2_with fail
     have gY:=ae (ad' aU.o.nodes nq);exact bodyPost_ret (Hy ((show jO (w5.drewN nq) w.heap.size (.slice none 0 0) 0 from yL.o).oN _ 0) _ _ 2 Im rfl) rfl ⟨Gc (qj eD.o nq) (aj _) _ _,.inr ⟨ns,g5,P5,([]:List aC)++dN,HR.o,by rw[iy];exact lh.o,rfl,((gY.o.set (by omega) _ _).set (by omega) _ _).mono (by omega),by have h1:=aU.o.cnt;have h2:=mq.o;omega⟩⟩
   · rw[show uo (t :: ts.drop (p5+1))=t.kind from rfl,ag h0]at h4
     injection h4 with h4;have HR:=ae h4.symm;have e0:(kd != 0)=true:=by rw[bne_iff_ne, ← hkd];exact h0
     clear h4 h0 hkd;go_quiet (fail)
     have il:Below w5.heap.size w5 (w5.drewN nq):=qj (ak _ _) nq;have dJ:=ae (aU.o.below il);have oU:=ae (qj eD.o nq);have OQ:=ae (show jO (w5.drewN nq) w.heap.size (.slice none 0 0) 0 from yL.o);have sV:=ae (Bo dJ.o 5);clear c0 c1 c2 c3 c4 k0 il;generalize w5.drewN nq=w6 at dJ oU OQ sV ⊢;go_wp2_with (go_at_call 32;((with_reducible refine sV.o.mono ?_);rintro e w7 ⟨rfl,h1,h2⟩;have Dk:=ae (oU.o.trans (h1.toBelow hB0 oU.o.size));have JM:=ae (OQ.o.fr h1 hpb);obtain⟨c0,c1,c2,c3,c4⟩:=(bD.Mv h2).facts;obtain⟨y0,y1⟩:=JM.o.facts;obtain⟨z0,z1⟩:=JM.o.bS;clear h1 h2 c0 c1 c2 c4))
     exact bodyPost_ret (Hy (JM.o.oN (.slice none 0 0) 5) _ _ 2 Im rfl) rfl ⟨Gc Dk.o (aj _) _ _,.inl ⟨5,HR.o,.inr (.inl rfl),rfl⟩⟩
theorem Be (w:World)(n:Nd)(A:Option Addr)(m c:Nat):∃w1,w.alloc (.cells #[.int .i64 n.kind,.int .i64 n.num,.string n.text,.string n.ref.sh,.int .i64 n.ref.c,.int .i64 n.ref.r,.bool n.ref.ac,.bool n.ref.ar,.string n.af.sh,.int .i64 n.af.c,.int .i64 n.af.r,.bool n.af.ac,.bool n.af.ar,.slice A m c] 45)=w1∧az w1 w.heap.size n (.slice A m c)∧Below w.heap.size w w1 :=
 ⟨_,rfl,az.new w n _,(ak _ _).alloc (aj _) _⟩
theorem afh (n:Nd)(hk:n.kind=1)(_hs:n.text.size≤1000000)(_hr:n.ref.sh.size≤1000000)(_ht:n.af.sh.size≤1000000)(cB:aH n=true)(A:Option Addr)(m c:Nat)(w:World):Calls Tryz.prog 24 #[.agg #[.int .i64 n.kind,.int .i64 n.num,.string n.text,.string n.ref.sh,.int .i64 n.ref.c,.int .i64 n.ref.r,.bool n.ref.ac,.bool n.ref.ar,.string n.af.sh,.int .i64 n.af.c,.int .i64 n.af.r,.bool n.af.ac,.bool n.af.ar,.slice A m c]] w fun e w'=>e = .returned (.bool (aH n))∧Below w.heap.size w w':=by
 have dw:=ae cB;clear cB;obtain⟨w1,hw1,hx,hb⟩:=Be w n A m c;have HB:=ae hb;have dW:=ae (fun w=>rH n.ref w);have cZ:=ae (fun w=>rH n.af w);have HK:=ae hk;clear hk;go_enter Tryz.func24,Tryz.ntmps24;go_upto_region 1 with (fail)
 clear hw1 hb;generalize hb0:w.heap.size=b0 at hx ⊢;obtain⟨x0,x1,x2,x3,x4,x5,x6,x7,ay,aO,aL,aM,aN,aJ⟩:=hx.cells;have HX:=ae hx;clear hx;have hk:=HK.o;rw[hk]at x0;by_cases fK:n.text=⟨#[]⟩;rotate_left
 · have t0:¬ n.text.toList=[]:=by rw[← pq];exact rM _ _ fK
   have t1:n.text.toList.isEmpty=false:=by simpa using t0
   have HR:=ae (show aH n=false by unfold aH;simp[hk,fK]);exact absurd HR.o (by rw[dw.o];decide)
 have t0:=pq;rw[fK]at x2;cases hq1:fO n.ref
 · have oZ:=ae hq1
   have HR:=ae (show aH n=false by unfold aH;simp[hk,fK,hq1]);exact absurd HR.o (by rw[dw.o];decide)
 have oZ:=ae hq1;cases hq2:fO n.af
 · have nu:=ae hq2
   have HR:=ae (show aH n=false by unfold aH;simp[hk,fK,hq1,hq2]);exact absurd HR.o (by rw[dw.o];decide)
 have nu:=ae hq2;have HR:=ae (show aH n=decide (0≤n.num)by unfold aH;simp[hk,fK,hq1,hq2]);clear fK;clear hq1;clear hq2;clear hk
 go_wp2_with (first
  | (go_at_call 46;((with_reducible refine(dW.o _).mono ?_);rintro e w2 ⟨rfl,h1⟩;rw[oZ.o];have HB2:=ae (HB.o.trans (h1.mono HB.o.size));have bZ:=ae (HX.o.below h1 HX.o.lt);clear x0 x1 x2 x3 x4 x5 x6 x7 ay aO aL aM aN aJ;obtain⟨x0,x1,x2,x3,x4,x5,x6,x7,ay,aO,aL,aM,aN,aJ⟩:=bZ.o.cells;rw[HK.o]at x0;clear h1;clear dW))
  | (go_at_call 46;((with_reducible refine(cZ.o _).mono ?_);rintro e w3 ⟨rfl,h1⟩;rw[nu.o];have HB3:=ae (HB2.o.trans (h1.mono HB2.o.size));have eF:=ae (bZ.o.below h1 bZ.o.lt);clear x0 x1 x2 x3 x4 x5 x6 x7 ay aO aL aM aN aJ;obtain⟨x0,x1,x2,x3,x4,x5,x6,x7,ay,aO,aL,aM,aN,aJ⟩:=eF.o.cells;rw[HK.o]at x0;clear h1)))
 go_ret;exact⟨by rw[HR.o] <;> rfl,HB3.o⟩
theorem afi (n:Nd)(hk:n.kind=2)(hs:n.text.size≤1000000)(_hr:n.ref.sh.size≤1000000)(_ht:n.af.sh.size≤1000000)(cB:aH n=true)(A:Option Addr)(m c:Nat)(w:World):Calls Tryz.prog 24 #[.agg #[.int .i64 n.kind,.int .i64 n.num,.string n.text,.string n.ref.sh,.int .i64 n.ref.c,.int .i64 n.ref.r,.bool n.ref.ac,.bool n.ref.ar,.string n.af.sh,.int .i64 n.af.c,.int .i64 n.af.r,.bool n.af.ac,.bool n.af.ar,.slice A m c]] w fun e w'=>e = .returned (.bool (aH n))∧Below w.heap.size w w':=by
 have dw:=ae cB;clear cB;obtain⟨w1,hw1,hx,hb⟩:=Be w n A m c;have HB:=ae hb;have dW:=ae (fun w=>rH n.ref w);have cZ:=ae (fun w=>rH n.af w);have HK:=ae hk;clear hk;go_enter Tryz.func24,Tryz.ntmps24;go_upto_region 1 with (fail)
 clear hw1 hb;generalize hb0:w.heap.size=b0 at hx ⊢;obtain⟨x0,x1,x2,x3,x4,x5,x6,x7,ay,aO,aL,aM,aN,aJ⟩:=hx.cells;have HX:=ae hx;clear hx;have hk:=HK.o;rw[hk]at x0;by_cases bM:n.num=0;rotate_left
 · have en:(n.num != 0)=true:=by rw[bne_iff_ne];exact bM
   have HR:=ae (show aH n=false by unfold aH;simp[hk,bM]);exact absurd HR.o (by rw[dw.o];decide)
 rw[bM]at x1;cases hq1:fO n.ref
 · have oZ:=ae hq1
   have HR:=ae (show aH n=false by unfold aH;simp[hk,bM,hq1]);exact absurd HR.o (by rw[dw.o];decide)
 have oZ:=ae hq1;cases hq2:fO n.af
 · have nu:=ae hq2
   have HR:=ae (show aH n=false by unfold aH;simp[hk,bM,hq1,hq2]);exact absurd HR.o (by rw[dw.o];decide)
 have nu:=ae hq2;have HR:=ae (show aH n=mF (sb n.text)by unfold aH;simp[hk,bM,hq1,hq2]);clear bM;clear hq1;clear hq2;clear hk
 go_wp2_with (first
  | (go_at_call 46;((with_reducible refine(dW.o _).mono ?_);rintro e w2 ⟨rfl,h1⟩;rw[oZ.o];have HB2:=ae (HB.o.trans (h1.mono HB.o.size));have bZ:=ae (HX.o.below h1 HX.o.lt);clear x0 x1 x2 x3 x4 x5 x6 x7 ay aO aL aM aN aJ;obtain⟨x0,x1,x2,x3,x4,x5,x6,x7,ay,aO,aL,aM,aN,aJ⟩:=bZ.o.cells;rw[HK.o]at x0;clear h1;clear dW))
  | (go_at_call 46;((with_reducible refine(cZ.o _).mono ?_);rintro e w3 ⟨rfl,h1⟩;rw[nu.o];have HB3:=ae (HB2.o.trans (h1.mono HB2.o.size));have eF:=ae (bZ.o.below h1 bZ.o.lt);clear x0 x1 x2 x3 x4 x5 x6 x7 ay aO aL aM aN aJ;obtain⟨x0,x1,x2,x3,x4,x5,x6,x7,ay,aO,aL,aM,aN,aJ⟩:=eF.o.cells;rw[HK.o]at x0;clear h1))
  | (go_at_call 47;((with_reducible refine(afu _ _ hs).mono ?_);rintro e wp ⟨rfl,rfl⟩)))
 go_ret;exact⟨by rw[HR.o] <;> rfl,HB3.o⟩
theorem afj (n:Nd)(hk:n.kind=3)(_hs:n.text.size≤1000000)(_hr:n.ref.sh.size≤1000000)(_ht:n.af.sh.size≤1000000)(cB:aH n=true)(A:Option Addr)(m c:Nat)(w:World):Calls Tryz.prog 24 #[.agg #[.int .i64 n.kind,.int .i64 n.num,.string n.text,.string n.ref.sh,.int .i64 n.ref.c,.int .i64 n.ref.r,.bool n.ref.ac,.bool n.ref.ar,.string n.af.sh,.int .i64 n.af.c,.int .i64 n.af.r,.bool n.af.ac,.bool n.af.ar,.slice A m c]] w fun e w'=>e = .returned (.bool (aH n))∧Below w.heap.size w w':=by
 have dw:=ae cB;clear cB;obtain⟨w1,hw1,hx,hb⟩:=Be w n A m c;have HB:=ae hb;have dW:=ae (fun w=>rH n.ref w);have cZ:=ae (fun w=>rH n.af w);have HK:=ae hk;clear hk;go_enter Tryz.func24,Tryz.ntmps24;go_upto_region 1 with (fail)
 clear hw1 hb;generalize hb0:w.heap.size=b0 at hx ⊢;obtain⟨x0,x1,x2,x3,x4,x5,x6,x7,ay,aO,aL,aM,aN,aJ⟩:=hx.cells;have HX:=ae hx;clear hx;have hk:=HK.o;rw[hk]at x0;by_cases fK:n.text=⟨#[]⟩;rotate_left
 · have t0:¬ n.text.toList=[]:=by rw[← pq];exact rM _ _ fK
   have t1:n.text.toList.isEmpty=false:=by simpa using t0
   have HR:=ae (show aH n=false by unfold aH;simp[hk,fK]);exact absurd HR.o (by rw[dw.o];decide)
 have t0:=pq;rw[fK]at x2;cases hq1:fO n.ref
 · have oZ:=ae hq1
   have HR:=ae (show aH n=false by unfold aH;simp[hk,fK,hq1]);exact absurd HR.o (by rw[dw.o];decide)
 have oZ:=ae hq1;cases hq2:fO n.af
 · have nu:=ae hq2
   have HR:=ae (show aH n=false by unfold aH;simp[hk,fK,hq1,hq2]);exact absurd HR.o (by rw[dw.o];decide)
 have nu:=ae hq2;by_cases h0:n.num=0
 · have HR:=ae (show aH n=true by unfold aH;simp[hk,fK,hq1,hq2,h0])
   have e0:(n.num == 0)=true:=bA.2 h0;clear fK;clear hq1;clear hq2;clear hk;clear h0
   go_wp2_with (first
    | (go_at_call 46;((with_reducible refine(dW.o _).mono ?_);rintro e w2 ⟨rfl,h1⟩;rw[oZ.o];have HB2:=ae (HB.o.trans (h1.mono HB.o.size));have bZ:=ae (HX.o.below h1 HX.o.lt);clear x0 x1 x2 x3 x4 x5 x6 x7 ay aO aL aM aN aJ;obtain⟨x0,x1,x2,x3,x4,x5,x6,x7,ay,aO,aL,aM,aN,aJ⟩:=bZ.o.cells;rw[HK.o]at x0;clear h1;clear dW))
    | (go_at_call 46;((with_reducible refine(cZ.o _).mono ?_);rintro e w3 ⟨rfl,h1⟩;rw[nu.o];have HB3:=ae (HB2.o.trans (h1.mono HB2.o.size));have eF:=ae (bZ.o.below h1 bZ.o.lt);clear x0 x1 x2 x3 x4 x5 x6 x7 ay aO aL aM aN aJ;obtain⟨x0,x1,x2,x3,x4,x5,x6,x7,ay,aO,aL,aM,aN,aJ⟩:=eF.o.cells;rw[HK.o]at x0;clear h1)))
   go_ret;exact⟨by rw[HR.o] <;> rfl,HB3.o⟩
 · have e0:(n.num == 0)=false:=aA.2 h0
   by_cases h1:n.num=1
   · have e1:(n.num == 1)=true:=bA.2 h1
     have HR:=ae (show aH n=true by unfold aH;simp[hk,fK,hq1,hq2,h1]);clear fK;clear hq1;clear hq2;clear hk;clear h0 h1
     go_wp2_with (first
      | (go_at_call 46;((with_reducible refine(dW.o _).mono ?_);rintro e w2 ⟨rfl,h1⟩;rw[oZ.o];have HB2:=ae (HB.o.trans (h1.mono HB.o.size));have bZ:=ae (HX.o.below h1 HX.o.lt);clear x0 x1 x2 x3 x4 x5 x6 x7 ay aO aL aM aN aJ;obtain⟨x0,x1,x2,x3,x4,x5,x6,x7,ay,aO,aL,aM,aN,aJ⟩:=bZ.o.cells;rw[HK.o]at x0;clear h1;clear dW))
      | (go_at_call 46;((with_reducible refine(cZ.o _).mono ?_);rintro e w3 ⟨rfl,h1⟩;rw[nu.o];have HB3:=ae (HB2.o.trans (h1.mono HB2.o.size));have eF:=ae (bZ.o.below h1 bZ.o.lt);clear x0 x1 x2 x3 x4 x5 x6 x7 ay aO aL aM aN aJ;obtain⟨x0,x1,x2,x3,x4,x5,x6,x7,ay,aO,aL,aM,aN,aJ⟩:=eF.o.cells;rw[HK.o]at x0;clear h1)))
     go_ret;exact⟨by rw[HR.o] <;> rfl,HB3.o⟩
   · have e1:(n.num == 1)=false:=aA.2 h1
     have HR:=ae (show aH n=false by unfold aH;simp[hk,fK,hq1,hq2,h0,h1]);exact absurd HR.o (by rw[dw.o];decide)
theorem afk (n:Nd)(hk:n.kind=5)(_hs:n.text.size≤1000000)(hr:n.ref.sh.size≤1000000)(_ht:n.af.sh.size≤1000000)(cB:aH n=true)(A:Option Addr)(m c:Nat)(w:World):Calls Tryz.prog 24 #[.agg #[.int .i64 n.kind,.int .i64 n.num,.string n.text,.string n.ref.sh,.int .i64 n.ref.c,.int .i64 n.ref.r,.bool n.ref.ac,.bool n.ref.ar,.string n.af.sh,.int .i64 n.af.c,.int .i64 n.af.r,.bool n.af.ac,.bool n.af.ar,.slice A m c]] w fun e w'=>e = .returned (.bool (aH n))∧Below w.heap.size w w':=by
 have dw:=ae cB;clear cB;obtain⟨w1,hw1,hx,hb⟩:=Be w n A m c;have HB:=ae hb;have dW:=ae (fun w=>rH n.ref w);have cZ:=ae (fun w=>rH n.af w);have HK:=ae hk;clear hk;go_enter Tryz.func24,Tryz.ntmps24;go_upto_region 1 with (fail)
 clear hw1 hb;generalize hb0:w.heap.size=b0 at hx ⊢;obtain⟨x0,x1,x2,x3,x4,x5,x6,x7,ay,aO,aL,aM,aN,aJ⟩:=hx.cells;have HX:=ae hx;clear hx;have hk:=HK.o;rw[hk]at x0;by_cases bM:n.num=0;rotate_left
 · have en:(n.num != 0)=true:=by rw[bne_iff_ne];exact bM
   have HR:=ae (show aH n=false by unfold aH;simp[hk,bM]);exact absurd HR.o (by rw[dw.o];decide)
 rw[bM]at x1;by_cases fK:n.text=⟨#[]⟩;rotate_left
 · have t0:¬ n.text.toList=[]:=by rw[← pq];exact rM _ _ fK
   have t1:n.text.toList.isEmpty=false:=by simpa using t0
   have HR:=ae (show aH n=false by unfold aH;simp[hk,bM,fK]);exact absurd HR.o (by rw[dw.o];decide)
 have t0:=pq;rw[fK]at x2;cases hq2:fO n.af
 · have nu:=ae hq2
   have HR:=ae (show aH n=false by unfold aH;simp[hk,bM,fK,hq2]);exact absurd HR.o (by rw[dw.o];decide)
 have nu:=ae hq2;have HR:=ae (show aH n=bQ n.ref by unfold aH;simp[hk,bM,fK,hq2]);clear bM;clear fK;clear hq2;clear hk
 go_wp2_with (first
  | (go_at_call 46;((with_reducible refine(cZ.o _).mono ?_);rintro e w2 ⟨rfl,h1⟩;rw[nu.o];have HB2:=ae (HB.o.trans (h1.mono HB.o.size));have bZ:=ae (HX.o.below h1 HX.o.lt);clear x0 x1 x2 x3 x4 x5 x6 x7 ay aO aL aM aN aJ;obtain⟨x0,x1,x2,x3,x4,x5,x6,x7,ay,aO,aL,aM,aN,aJ⟩:=bZ.o.cells;rw[HK.o]at x0;clear h1))
  | (go_at_call 50;((with_reducible refine(qz _ _ _ _ _ _ hr).mono ?_);rintro e wp ⟨rfl,h1⟩;have WE:=ae (HB2.o.trans (h1.mono HB2.o.size));clear h1)))
 go_ret;exact⟨by rw[HR.o] <;> rfl,WE.o⟩
theorem afl (n:Nd)(hk:n.kind=6)(_hs:n.text.size≤1000000)(hr:n.ref.sh.size≤1000000)(ht:n.af.sh.size≤1000000)(cB:aH n=true)(A:Option Addr)(m c:Nat)(w:World):Calls Tryz.prog 24 #[.agg #[.int .i64 n.kind,.int .i64 n.num,.string n.text,.string n.ref.sh,.int .i64 n.ref.c,.int .i64 n.ref.r,.bool n.ref.ac,.bool n.ref.ar,.string n.af.sh,.int .i64 n.af.c,.int .i64 n.af.r,.bool n.af.ac,.bool n.af.ar,.slice A m c]] w fun e w'=>e = .returned (.bool (aH n))∧Below w.heap.size w w':=by
 have dw:=ae cB;clear cB;obtain⟨w1,hw1,hx,hb⟩:=Be w n A m c;have HB:=ae hb;have dW:=ae (fun w=>rH n.ref w);have cZ:=ae (fun w=>rH n.af w);have HK:=ae hk;clear hk;go_enter Tryz.func24,Tryz.ntmps24;go_upto_region 1 with (fail)
 clear hw1 hb;generalize hb0:w.heap.size=b0 at hx ⊢;obtain⟨x0,x1,x2,x3,x4,x5,x6,x7,ay,aO,aL,aM,aN,aJ⟩:=hx.cells;have HX:=ae hx;clear hx;have hk:=HK.o;rw[hk]at x0;by_cases bM:n.num=0;rotate_left
 · have en:(n.num != 0)=true:=by rw[bne_iff_ne];exact bM
   have HR:=ae (show aH n=false by unfold aH;simp[hk,bM]);exact absurd HR.o (by rw[dw.o];decide)
 rw[bM]at x1;by_cases fK:n.text=⟨#[]⟩;rotate_left
 · have t0:¬ n.text.toList=[]:=by rw[← pq];exact rM _ _ fK
   have t1:n.text.toList.isEmpty=false:=by simpa using t0
   have HR:=ae (show aH n=false by unfold aH;simp[hk,bM,fK]);exact absurd HR.o (by rw[dw.o];decide)
 have t0:=pq;rw[fK]at x2;cases q1:bQ n.ref
 · have M1:=ae (show cK (sb n.ref.sh) n.ref.c n.ref.r=false from q1)
   have HR:=ae (show aH n=false by unfold aH;simp[hk,bM,fK,q1]);exact absurd HR.o (by rw[dw.o];decide)
 have M1:=ae (show cK (sb n.ref.sh) n.ref.c n.ref.r=true from q1);cases q2:bQ n.af
 · have M2:=ae (show cK (sb n.af.sh) n.af.c n.af.r=false from q2)
   have HR:=ae (show aH n=false by unfold aH;simp[hk,bM,fK,q1,q2]);exact absurd HR.o (by rw[dw.o];decide)
 have M2:=ae (show cK (sb n.af.sh) n.af.c n.af.r=true from q2);have HR:=ae (show aH n=fu n.ref n.af by unfold aH;simp[hk,bM,fK,q1,q2]);clear q1 q2;clear bM;clear fK;clear hk
 go_wp2_with (first
  | (go_at_call 50;((with_reducible refine(qz n.ref.sh n.ref.c n.ref.r n.ref.ac n.ref.ar _ hr).mono ?_);rintro e w2 ⟨rfl,h1⟩;rw[M1.o];have HB2:=ae (HB.o.trans (h1.mono HB.o.size));have bZ:=ae (HX.o.below h1 HX.o.lt);clear x0 x1 x2 x3 x4 x5 x6 x7 ay aO aL aM aN aJ;obtain⟨x0,x1,x2,x3,x4,x5,x6,x7,ay,aO,aL,aM,aN,aJ⟩:=bZ.o.cells;rw[HK.o]at x0;clear h1;clear M1))
  | (go_at_call 50;((with_reducible refine(qz n.af.sh n.af.c n.af.r n.af.ac n.af.ar _ ht).mono ?_);rintro e w3 ⟨rfl,h1⟩;rw[M2.o];have HB3:=ae (HB2.o.trans (h1.mono HB2.o.size));have eF:=ae (bZ.o.below h1 bZ.o.lt);clear x0 x1 x2 x3 x4 x5 x6 x7 ay aO aL aM aN aJ;obtain⟨x0,x1,x2,x3,x4,x5,x6,x7,ay,aO,aL,aM,aN,aJ⟩:=eF.o.cells;rw[HK.o]at x0;clear h1))
  | (go_at_call 51;((with_reducible refine(UI _ _ _ _ _ _ _ _ _ _ _).mono ?_);rintro e w4 ⟨rfl,h1⟩;have dC:=ae (HB3.o.trans (h1.mono HB3.o.size));clear h1)))
 go_ret;exact⟨by rw[HR.o] <;> rfl,dC.o⟩
theorem afo (n:Nd)(k1:¬ n.kind=1)(k2:¬ n.kind=2)(k3:¬ n.kind=3)(k5:¬ n.kind=5)(k6:¬ n.kind=6)(k7:¬ n.kind=7)(_hs:n.text.size≤1000000)(_hr:n.ref.sh.size≤1000000)(_ht:n.af.sh.size≤1000000)(cB:aH n=true)(A:Option Addr)(m c:Nat)(w:World):Calls Tryz.prog 24 #[.agg #[.int .i64 n.kind,.int .i64 n.num,.string n.text,.string n.ref.sh,.int .i64 n.ref.c,.int .i64 n.ref.r,.bool n.ref.ac,.bool n.ref.ar,.string n.af.sh,.int .i64 n.af.c,.int .i64 n.af.r,.bool n.af.ac,.bool n.af.ar,.slice A m c]] w fun e w'=>e = .returned (.bool (aH n))∧Below w.heap.size w w':=by
 have dw:=ae cB;clear cB;obtain⟨w1,hw1,hx,hb⟩:=Be w n A m c;have HB:=ae hb;have dW:=ae (fun w=>rH n.ref w);have cZ:=ae (fun w=>rH n.af w);go_enter Tryz.func24,Tryz.ntmps24;go_upto_region 1 with (fail)
 clear hw1 hb;generalize hb0:w.heap.size=b0 at hx ⊢;obtain⟨x0,x1,x2,x3,x4,x5,x6,x7,ay,aO,aL,aM,aN,aJ⟩:=hx.cells;have HX:=ae hx;clear hx;obtain⟨kd,hkd⟩:∃kd,n.kind=kd:=⟨_,rfl⟩;rw[hkd]at x0;have HK:=ae hkd;have e1:(kd == 1)=false:=aA.2 (by omega);have d1:(kd != 1)=true:=by rw[bne,e1];rfl
 have e2:(kd == 2)=false:=aA.2 (by omega);have d2:(kd != 2)=true:=by rw[bne,e2];rfl
 have e3:(kd == 3)=false:=aA.2 (by omega);have d3:(kd != 3)=true:=by rw[bne,e3];rfl
 have e5:(kd == 5)=false:=aA.2 (by omega);have d5:(kd != 5)=true:=by rw[bne,e5];rfl
 have e6:(kd == 6)=false:=aA.2 (by omega);have d6:(kd != 6)=true:=by rw[bne,e6];rfl
 have e7:(kd == 7)=false:=aA.2 (by omega);have d7:(kd != 7)=true:=by rw[bne,e7];rfl
 by_cases bM:n.num=0;rotate_left
 · have en:(n.num != 0)=true:=by rw[bne_iff_ne];exact bM
   have HR:=ae (show aH n=false by unfold aH;simp[k1,k2,k3,k5,k6,k7,bM]);exact absurd HR.o (by rw[dw.o];decide)
 rw[bM]at x1;by_cases fK:n.text=⟨#[]⟩;rotate_left
 · have t0:¬ n.text.toList=[]:=by rw[← pq];exact rM _ _ fK
   have t1:n.text.toList.isEmpty=false:=by simpa using t0
   have HR:=ae (show aH n=false by unfold aH;simp[k1,k2,k3,k5,k6,k7,bM,fK]);exact absurd HR.o (by rw[dw.o];decide)
 have t0:=pq;rw[fK]at x2;cases hq1:fO n.ref
 · have oZ:=ae hq1
   have HR:=ae (show aH n=false by unfold aH;simp[k1,k2,k3,k5,k6,k7,bM,fK,hq1]);exact absurd HR.o (by rw[dw.o];decide)
 have oZ:=ae hq1;cases hq2:fO n.af
 · have nu:=ae hq2
   have HR:=ae (show aH n=false by unfold aH;simp[k1,k2,k3,k5,k6,k7,bM,fK,hq1,hq2]);exact absurd HR.o (by rw[dw.o];decide)
 have nu:=ae hq2;have HR:=ae (show aH n=true by unfold aH;simp[k1,k2,k3,k5,k6,k7,bM,fK,hq1,hq2]);clear bM;clear fK;clear hq1;clear hq2
 go_wp2_with (first
  | (go_at_call 46;((with_reducible refine(dW.o _).mono ?_);rintro e w2 ⟨rfl,h1⟩;rw[oZ.o];have HB2:=ae (HB.o.trans (h1.mono HB.o.size));have bZ:=ae (HX.o.below h1 HX.o.lt);clear x0 x1 x2 x3 x4 x5 x6 x7 ay aO aL aM aN aJ;obtain⟨x0,x1,x2,x3,x4,x5,x6,x7,ay,aO,aL,aM,aN,aJ⟩:=bZ.o.cells;rw[HK.o]at x0;clear h1;clear dW))
  | (go_at_call 46;((with_reducible refine(cZ.o _).mono ?_);rintro e w3 ⟨rfl,h1⟩;rw[nu.o];have HB3:=ae (HB2.o.trans (h1.mono HB2.o.size));have eF:=ae (bZ.o.below h1 bZ.o.lt);clear x0 x1 x2 x3 x4 x5 x6 x7 ay aO aL aM aN aJ;obtain⟨x0,x1,x2,x3,x4,x5,x6,x7,ay,aO,aL,aM,aN,aJ⟩:=eF.o.cells;rw[HK.o]at x0;clear h1)))
 go_ret;exact⟨by rw[HR.o] <;> rfl,HB3.o⟩
theorem afm (n:Nd)(hk:n.kind=7)(hs:n.text.size≤1000000)(_hr:n.ref.sh.size≤1000000)(_ht:n.af.sh.size≤1000000)(cB:aH n=true)(A:Option Addr)(m c:Nat)(w:World):Calls Tryz.prog 24 #[.agg #[.int .i64 n.kind,.int .i64 n.num,.string n.text,.string n.ref.sh,.int .i64 n.ref.c,.int .i64 n.ref.r,.bool n.ref.ac,.bool n.ref.ar,.string n.af.sh,.int .i64 n.af.c,.int .i64 n.af.r,.bool n.af.ac,.bool n.af.ar,.slice A m c]] w fun e w'=>e = .returned (.bool (aH n))∧Below w.heap.size w w':=by
 have dw:=ae cB;clear cB;obtain⟨w1,hw1,hx,hb⟩:=Be w n A m c;have HB:=ae hb;have dW:=ae (fun w=>rH n.ref w);have cZ:=ae (fun w=>rH n.af w);have HK:=ae hk;clear hk;go_enter Tryz.func24,Tryz.ntmps24;go_upto_region 1 with (fail)
 clear hw1 hb;generalize hb0:w.heap.size=b0 at hx ⊢;obtain⟨x0,x1,x2,x3,x4,x5,x6,x7,ay,aO,aL,aM,aN,aJ⟩:=hx.cells;have HX:=ae hx;clear hx;have hk:=HK.o;rw[hk]at x0;by_cases bM:n.num=0;rotate_left
 · have en:(n.num != 0)=true:=by rw[bne_iff_ne];exact bM
   have HR:=ae (show aH n=false by unfold aH;simp[hk,bM]);exact absurd HR.o (by rw[dw.o];decide)
 rw[bM]at x1;cases hq1:fO n.ref
 · have oZ:=ae hq1
   have HR:=ae (show aH n=false by unfold aH;simp[hk,bM,hq1]);exact absurd HR.o (by rw[dw.o];decide)
 have oZ:=ae hq1;cases hq2:fO n.af
 · have nu:=ae hq2
   have HR:=ae (show aH n=false by unfold aH;simp[hk,bM,hq1,hq2]);exact absurd HR.o (by rw[dw.o];decide)
 have nu:=ae hq2;obtain⟨tx,htx⟩:∃tx,n.text=tx:=⟨_,rfl⟩;have HC:=ae (show aH n=j4 tx by unfold aH;simp[hk,bM,hq1,hq2];rw[htx]);have tu:=ae htx;rw[htx]at hs;clear bM;clear hq1;clear hq2;clear hk;clear htx;have q1:=zR tx ⟨#[84,82,85,69]⟩;have q2:=zR tx ⟨#[70,65,76,83,69]⟩;rw[G8]at q1;rw[G7]at q2;cases hq:iw tx with
 | some d =>
   have qa:=ae (fun (e:Ending)(he:nT (sb tx) e)=>Iw hq he);have HQ:=ae hq;clear hq
   go_upto_region 12 with (first
    | (go_at_call 46;((with_reducible refine(dW.o _).mono ?_);rintro e w2 ⟨rfl,h1⟩;rw[oZ.o];have HB2:=ae (HB.o.trans (h1.mono HB.o.size));have bZ:=ae (HX.o.below h1 HX.o.lt);clear x0 x1 x2 x3 x4 x5 x6 x7 ay aO aL aM aN aJ;obtain⟨x0,x1,x2,x3,x4,x5,x6,x7,ay,aO,aL,aM,aN,aJ⟩:=bZ.o.cells;rw[tu.o]at x2;rw[HK.o]at x0;clear h1;clear dW))
    | (go_at_call 46;((with_reducible refine(cZ.o _).mono ?_);rintro e w3 ⟨rfl,h1⟩;rw[nu.o];have HB3:=ae (HB2.o.trans (h1.mono HB2.o.size));have eF:=ae (bZ.o.below h1 bZ.o.lt);clear x0 x1 x2 x3 x4 x5 x6 x7 ay aO aL aM aN aJ;obtain⟨x0,x1,x2,x3,x4,x5,x6,x7,ay,aO,aL,aM,aN,aJ⟩:=eF.o.cells;rw[tu.o]at x2;rw[HK.o]at x0;clear h1))
    | (go_at_call 48;((with_reducible refine(CO tx _ hs).mono ?_);rintro e w4 ⟨h1,h2⟩;obtain rfl:=qa.o e h1;clear h1;have dC:=ae (HB3.o.trans (h2.mono HB3.o.size));have nA:=ae (eF.o.below h2 eF.o.lt);clear h2)))
   have Ap:Below w4.heap.size w4 (w4.alloc (.cells #[.string d.sh,.int .i64 d.c,.int .i64 d.r,.bool d.ac,.bool d.ar] 43)):=(ak _ _).alloc (aj _) _;have eD:=ae (dC.o.trans (Ap.mono dC.o.size));have oG:=ae (nA.o.below Ap nA.o.lt);clear Ap x0 x1 x2 x3 x4 x5 x6 x7 ay aO aL aM aN aJ;generalize w4.alloc (.cells #[.string d.sh,.int .i64 d.c,.int .i64 d.r,.bool d.ac,.bool d.ar] 43)=w5 at eD oG ⊢;obtain⟨x0,x1,x2,x3,x4,x5,x6,x7,ay,aO,aL,aM,aN,aJ⟩:=oG.o.cells;rw[tu.o]at x2;cases hc:jI (sb tx)
   · have BK:=ae hc
     have HR:=ae (show aH n=false by rw[HC.o];unfold j4;rw[HQ.o,hc];rfl);exact absurd HR.o (by rw[dw.o];decide)
   have BK:=ae hc;have HR:=ae (show aH n=false by rw[HC.o];unfold j4;rw[HQ.o,hc];rfl);exact absurd HR.o (by rw[dw.o];decide)
 | none =>
   have qa:=ae (fun (e:Ending)(he:nT (sb tx) e)=>Iu hq he);have HQ:=ae hq;clear hq
   go_upto_region 12 with (first
    | (go_at_call 46;((with_reducible refine(dW.o _).mono ?_);rintro e w2 ⟨rfl,h1⟩;rw[oZ.o];have HB2:=ae (HB.o.trans (h1.mono HB.o.size));have bZ:=ae (HX.o.below h1 HX.o.lt);clear x0 x1 x2 x3 x4 x5 x6 x7 ay aO aL aM aN aJ;obtain⟨x0,x1,x2,x3,x4,x5,x6,x7,ay,aO,aL,aM,aN,aJ⟩:=bZ.o.cells;rw[tu.o]at x2;rw[HK.o]at x0;clear h1;clear dW))
    | (go_at_call 46;((with_reducible refine(cZ.o _).mono ?_);rintro e w3 ⟨rfl,h1⟩;rw[nu.o];have HB3:=ae (HB2.o.trans (h1.mono HB2.o.size));have eF:=ae (bZ.o.below h1 bZ.o.lt);clear x0 x1 x2 x3 x4 x5 x6 x7 ay aO aL aM aN aJ;obtain⟨x0,x1,x2,x3,x4,x5,x6,x7,ay,aO,aL,aM,aN,aJ⟩:=eF.o.cells;rw[tu.o]at x2;rw[HK.o]at x0;clear h1))
    | (go_at_call 48;((with_reducible refine(CO tx _ hs).mono ?_);rintro e w4 ⟨h1,h2⟩;obtain rfl:=qa.o e h1;clear h1;have dC:=ae (HB3.o.trans (h2.mono HB3.o.size));have nA:=ae (eF.o.below h2 eF.o.lt);clear h2)))
   have Ap:Below w4.heap.size w4 (w4.alloc (.cells #[.string ⟨#[]⟩,.int .i64 0,.int .i64 0,.bool false,.bool false] 43)):=(ak _ _).alloc (aj _) _;have eD:=ae (dC.o.trans (Ap.mono dC.o.size));have oG:=ae (nA.o.below Ap nA.o.lt);clear Ap x0 x1 x2 x3 x4 x5 x6 x7 ay aO aL aM aN aJ;generalize w4.alloc (.cells #[.string ⟨#[]⟩,.int .i64 0,.int .i64 0,.bool false,.bool false] 43)=w5 at eD oG ⊢;obtain⟨x0,x1,x2,x3,x4,x5,x6,x7,ay,aO,aL,aM,aN,aJ⟩:=oG.o.cells;rw[tu.o]at x2;cases hc:jI (sb tx)
   · have BK:=ae hc
     have HR:=ae (show aH n=false by rw[HC.o];unfold j4;rw[HQ.o,hc];rfl);exact absurd HR.o (by rw[dw.o];decide)
   have BK:=ae hc;by_cases g1:tx=⟨#[84,82,85,69]⟩
   · rw[aQ g1]at q1
     have MH:(tx.toList != [84,82,85,69])=false:=by rw[bne,q1];rfl
     have HR:=ae (show aH n=false by rw[HC.o];unfold j4;rw[HQ.o,hc,aS (show ¬ ¬ tx=_ from fun h=>h g1)];rfl);exact absurd HR.o (by rw[dw.o];decide)
   rw[aS g1]at q1;have MH:(tx.toList != [84,82,85,69])=true:=by rw[bne,q1];rfl
   by_cases g2:tx=⟨#[70,65,76,83,69]⟩
   · rw[aQ g2]at q2
     have MI:(tx.toList != [70,65,76,83,69])=false:=by rw[bne,q2];rfl
     have HR:=ae (show aH n=false by rw[HC.o];unfold j4;rw[HQ.o,hc,aS (show ¬ ¬ tx=⟨#[70,65,76,83,69]⟩from fun h=>h g2)];simp);exact absurd HR.o (by rw[dw.o];decide)
   rw[aS g2]at q2;have MI:(tx.toList != [70,65,76,83,69])=true:=by rw[bne,q2];rfl
   have HR:=ae (show aH n=true by rw[HC.o];unfold j4;rw[HQ.o,hc,aQ g1,aQ g2];rfl);clear hc g1 g2;go_wp2_with ((go_at_call 49;((with_reducible refine(MP tx _ hs).mono ?_);rintro e wq ⟨rfl,rfl⟩;rw[BK.o])))
   go_ret;exact⟨by rw[HR.o] <;> rfl,eD.o⟩
theorem afn (n:Nd)(hs:n.text.size≤1000000)(hr:n.ref.sh.size≤1000000)(ht:n.af.sh.size≤1000000)(cB:aH n=true)(A:Option Addr)(m c:Nat)(w:World):Calls Tryz.prog 24 #[.agg #[.int .i64 n.kind,.int .i64 n.num,.string n.text,.string n.ref.sh,.int .i64 n.ref.c,.int .i64 n.ref.r,.bool n.ref.ac,.bool n.ref.ar,.string n.af.sh,.int .i64 n.af.c,.int .i64 n.af.r,.bool n.af.ac,.bool n.af.ar,.slice A m c]] w fun e w'=>e = .returned (.bool (aH n))∧Below w.heap.size w w':=by
 by_cases h1:n.kind=1
 · exact afh n h1 hs hr ht cB A m c w
 by_cases h2:n.kind=2
 · exact afi n h2 hs hr ht cB A m c w
 by_cases h3:n.kind=3
 · exact afj n h3 hs hr ht cB A m c w
 by_cases h5:n.kind=5
 · exact afk n h5 hs hr ht cB A m c w
 by_cases h6:n.kind=6
 · exact afl n h6 hs hr ht cB A m c w
 by_cases h7:n.kind=7
 · exact afm n h7 hs hr ht cB A m c w
 exact afo n h1 h2 h3 h5 h6 h7 hs hr ht cB A m c w
theorem afF (w:World)(v:Value)(vs:List (Nd × Value))(h:fI w w.heap.size v vs)(hz:SZ vs)(cB:cO (vs.map (·.1))=true):Calls Tryz.prog 14 #[v] w fun e w'=>e = .returned (.bool true)∧Below w.heap.size w w':=by
 obtain⟨⟨A,cap,rfl,hat⟩,vz⟩:=h;obtain⟨hlen,hsz⟩:=hz;obtain⟨nl,hnl⟩:∃nl,vs.length=nl:=⟨_,rfl⟩;rw[hnl]at hlen ⊢;have dw:=ae cB;clear cB;have HAT:=ae hat;have Du:=ae vz;have o5:=ae hsz;have jF:=ae hnl;obtain⟨eb,kz,dh⟩:=Elem.kid;have kv:=ae dh;clear hat vz hsz hnl dh;go_enter Tryz.func14,Tryz.ntmps14;go_upto_region 3 with (fail)
 go_loopw [3,4] (fun rv iv wr=>∃(i:Nat)(st:List Int)(rk:Value),i≤nl∧st.length≤i∧rk=rv∧iv = .int .i64 (i:Int)∧Hid (cO (vs.map (·.1))=nM st i ((vs.map (·.1)).drop i))∧Hid (Own (aI .i64) 3 wr w.heap.size rk st)∧Hid (Below w.heap.size w wr))
  (fun _ iv _=>nl - (intOf iv).toNat)
 case atStart=>exact⟨0,[],.slice none 0 0,eP _,aj _,rfl,rfl,ae rfl,ae (Own.nil _ _ _ _),ae (ak _ _)⟩
 case round =>
  obtain⟨i,st,rk,hi,hsi,rfl,rfl,HT,HO,HB⟩:=hrel;by_cases hlt:i<nl
  · have hii : (i:Int)<(nl:Int):=by omega
    obtain⟨⟨n,k⟩,hnk⟩:∃q,vs[i]? = some q:=⟨_,dL (by rw[jF.o];exact hlt)⟩;have di:=fT hnk;obtain⟨hz1,hz2,hz3⟩:=o5.o _ di;have HZ1:=ae hz1;have HZ2:=ae hz2;have HZ3:=ae hz3;clear hz1 hz2 hz3;have q9:iM w w.heap.size k n.kids:=Du.o _ di;obtain⟨aW,ck,hk,hkc,dM,ji⟩:=id q9;obtain⟨m,hm⟩:∃m,n.kids.length=m:=⟨_,rfl⟩;rw[hm]at hk hkc;subst hk;have hmm:m≤maxLen:=bO hkc dM;have hmx:m≤9223372036854775807:=by unfold maxLen at hmm;omega
    have HM:=ae hm;have r9:=ae ji
    have HD:=ae (show(vs.map (·.1)).drop i=n :: (vs.map (·.1)).drop (i+1)by
     have hl:i<(vs.map (·.1)).length:=by rw[eB,jF.o];exact hlt
     rw[List.drop_eq_getElem_cons hl];congr 1;have h1:(vs.map (·.1))[i]? = some n:=by rw[gN,hnk];rfl
     rw[dL hl]at h1;exact dU h1)
    have Jn:=ae (show dm n=false→cO (vs.map (·.1))=false from fun e=>by rw[HT.o,HD.o,nN,e,Bool.false_and]);rcases HAT.o with e|⟨pb,po,rfl,hpb,vw⟩
    · exfalso;rw[e]at hnk;simp at hnk
    have hcell:=vw i n _ hnk;have k0:wr.cell? ⟨pb,po+i*14,none⟩=some (.int .i64 n.kind):=(HB.o.cell (p:=⟨pb,po+i*14,none⟩) hpb).trans (hcell 0 (by omega));have k1:wr.cell? ⟨pb,po+i*14+1,none⟩=some (.int .i64 n.num):=(HB.o.cell (p:=⟨pb,po+i*14+1,none⟩) hpb).trans (hcell 1 (by omega));have k2:wr.cell? ⟨pb,po+i*14+2,none⟩=some (.string n.text):=(HB.o.cell (p:=⟨pb,po+i*14+2,none⟩) hpb).trans (hcell 2 (by omega));have k3:wr.cell? ⟨pb,po+i*14+3,none⟩=some (.string n.ref.sh):=(HB.o.cell (p:=⟨pb,po+i*14+3,none⟩) hpb).trans (hcell 3 (by omega));have k4:wr.cell? ⟨pb,po+i*14+4,none⟩=some (.int .i64 n.ref.c):=(HB.o.cell (p:=⟨pb,po+i*14+4,none⟩) hpb).trans (hcell 4 (by omega));have k5:wr.cell? ⟨pb,po+i*14+5,none⟩=some (.int .i64 n.ref.r):=(HB.o.cell (p:=⟨pb,po+i*14+5,none⟩) hpb).trans (hcell 5 (by omega));have k6:wr.cell? ⟨pb,po+i*14+6,none⟩=some (.bool n.ref.ac):=(HB.o.cell (p:=⟨pb,po+i*14+6,none⟩) hpb).trans (hcell 6 (by omega));have k7:wr.cell? ⟨pb,po+i*14+7,none⟩=some (.bool n.ref.ar):=(HB.o.cell (p:=⟨pb,po+i*14+7,none⟩) hpb).trans (hcell 7 (by omega));have k8:wr.cell? ⟨pb,po+i*14+8,none⟩=some (.string n.af.sh):=(HB.o.cell (p:=⟨pb,po+i*14+8,none⟩) hpb).trans (hcell 8 (by omega));have k9:wr.cell? ⟨pb,po+i*14+9,none⟩=some (.int .i64 n.af.c):=(HB.o.cell (p:=⟨pb,po+i*14+9,none⟩) hpb).trans (hcell 9 (by omega));have k10:wr.cell? ⟨pb,po+i*14+10,none⟩=some (.int .i64 n.af.r):=(HB.o.cell (p:=⟨pb,po+i*14+10,none⟩) hpb).trans (hcell 10 (by omega));have k11:wr.cell? ⟨pb,po+i*14+11,none⟩=some (.bool n.af.ac):=(HB.o.cell (p:=⟨pb,po+i*14+11,none⟩) hpb).trans (hcell 11 (by omega));have k12:wr.cell? ⟨pb,po+i*14+12,none⟩=some (.bool n.af.ar):=(HB.o.cell (p:=⟨pb,po+i*14+12,none⟩) hpb).trans (hcell 12 (by omega));have k13:wr.cell? ⟨pb,po+i*14+13,none⟩=some (.slice aW m ck):=(HB.o.cell (p:=⟨pb,po+i*14+13,none⟩) hpb).trans (hcell 13 (by omega));clear hcell vw hnk di q9 ji hm hkc dM hmm;have hL:st.length≤1000:=by omega
    have hB3:Below wr.heap.size wr (wr.alloc (.cells #[.int .i64 n.kind,.int .i64 n.num,.string n.text,.string n.ref.sh,.int .i64 n.ref.c,.int .i64 n.ref.r,.bool n.ref.ac,.bool n.ref.ar,.string n.af.sh,.int .i64 n.af.c,.int .i64 n.af.r,.bool n.af.ac,.bool n.af.ar,.slice aW m ck] 45)):=(ak _ _).alloc (aj _) _;have aF:az (wr.alloc (.cells #[.int .i64 n.kind,.int .i64 n.num,.string n.text,.string n.ref.sh,.int .i64 n.ref.c,.int .i64 n.ref.r,.bool n.ref.ac,.bool n.ref.ar,.string n.af.sh,.int .i64 n.af.c,.int .i64 n.af.r,.bool n.af.ac,.bool n.af.ar,.slice aW m ck] 45)) wr.heap.size n (.slice aW m ck):=az.new wr n _;have HB3:=ae (HB.o.trans (hB3.mono HB.o.size));have gQ:=ae (HO.o.alloc (.cells #[.int .i64 n.kind,.int .i64 n.num,.string n.text,.string n.ref.sh,.int .i64 n.ref.c,.int .i64 n.ref.r,.bool n.ref.ac,.bool n.ref.ar,.string n.af.sh,.int .i64 n.af.c,.int .i64 n.af.r,.bool n.af.ac,.bool n.af.ar,.slice aW m ck] 45));clear hB3;go_upto_region 6 with (fail)
    generalize hb3:wr.heap.size=b3 at aF ⊢;generalize wr.alloc (.cells #[.int .i64 n.kind,.int .i64 n.num,.string n.text,.string n.ref.sh,.int .i64 n.ref.c,.int .i64 n.ref.r,.bool n.ref.ac,.bool n.ref.ar,.string n.af.sh,.int .i64 n.af.c,.int .i64 n.af.r,.bool n.af.ac,.bool n.af.ar,.slice aW m ck] 45)=w3 at aF HB3 gQ ⊢;clear hb3 k0 k1 k2 k3 k4 k5 k6 k7 k8 k9 k10 k11 k12 k13 HO;obtain⟨x0,x1,x2,x3,x4,x5,x6,x7,ay,aO,aL,aM,aN,aJ⟩:=aF.cells;have aF:=ae aF;obtain⟨a,ha⟩:∃a,jQ n.kind=a:=⟨_,rfl⟩;have Od:=ae (show ∀w,Calls Tryz.prog 23 #[.int .i64 n.kind] w fun e w'=>e = .returned (.int .i64 a)∧w=w' from fun w=>by rw[← ha];exact afd _ w);have sj:=ae (show dm n=(aH n&&(decide (a = -1)||decide (a=(m:Int))))by rw[ad1,ha,HM.o])
    have har:a = -1∨a = -2∨a=0∨a=1∨a=2:=by
     rw[← ha];unfold jQ;split
     · omega
     split
     · omega
     split
     · omega
     split <;> omega
    clear ha;have key:(a = -1∨a=(m:Int))∨(¬ a = -1∧¬ a=(m:Int)):=by omega
    rcases key with key|⟨ka,kb⟩
    rotate_left
    · have ea:(a == -1)=false:=aA.2 ka
      have HT2:=ae (show cO (vs.map (·.1))=false from Jn.o (by rw[sj.o,aS ka,aS kb,Bool.or_self,Bool.and_false]));exact absurd HT2.o (by rw[dw.o];decide)
    have JG:=ae (show dm n=aH n by
     rw[sj.o];rcases key with e|e
     · rw[aQ e,Bool.true_or,Bool.and_true]
     · rw[aQ e,Bool.or_true,Bool.and_true])
    have hm0:¬ (m:Int)<0:=by omega
    have hmb:((m:Int) != (m:Int))=false:=by simp
    have Pv:(∃ea:(a == -1)=true,True)∨(∃ea:(a == -1)=false,a=(m:Int)):=by
     by_cases e:a = -1
     · exact .inl ⟨bA.2 e,trivial⟩
     · exact .inr ⟨aA.2 e,by omega⟩
    clear key sj har;by_cases qp:m≤st.length;rotate_left
    · have HT2:=ae (show cO (vs.map (·.1))=false by rw[HT.o,HD.o,nN,HM.o,aS qp,Bool.false_and,Bool.and_false])
      exact absurd HT2.o (by rw[dw.o];decide)
    have hmg:¬ (st.length:Int)<(m:Int):=by omega
    have aa':¬ st.length<m:=by omega
    cases hlf:aH n
    · have HT2:=ae (show cO (vs.map (·.1))=false from Jn.o (by rw[JG.o,hlf]))
      exact absurd HT2.o (by rw[dw.o];decide)
    have JA:=ae (show ∀w,Calls Tryz.prog 24 #[.agg #[.int .i64 n.kind,.int .i64 n.num,.string n.text,.string n.ref.sh,.int .i64 n.ref.c,.int .i64 n.ref.r,.bool n.ref.ac,.bool n.ref.ar,.string n.af.sh,.int .i64 n.af.c,.int .i64 n.af.r,.bool n.af.ac,.bool n.af.ar,.slice aW m ck]] w fun e w'=>e = .returned (.bool (aH n))∧Below w.heap.size w w' from fun w=>afn n HZ1.o HZ2.o HZ3.o hlf aW m ck w);rw[hlf]at JA;have mq:=ae (show dm n=true by rw[JG.o,hlf]);clear hlf Jn JG
    have lL:=ae (show n.kids=[]∨∃kb fM,aW=some ⟨kb,fM,none⟩∧∀(j:Nat)(x:Int),n.kids[j]? = some x→w3.cell? ⟨kb,fM+j,none⟩=some (.int .i64 x)from by
     rcases r9.o with e|⟨kb,fM,e1,e2,e3⟩
     · exact .inl e
     · exact .inr ⟨kb,fM,e1,fun j x hj=>(HB3.o.cell (p:=⟨kb,fM+j,none⟩) e2).trans (e3 j x hj)⟩)
    have aaZ:=r9.o
    have WX:=ae (show ∀kb fM,aW=some ⟨kb,fM,none⟩→n.kids≠[]→kb<w3.heap.size from by
     intro kb fM e hne;rcases r9.o with e0|⟨kb',ko',e1,e2,e3⟩
     · exact absurd e0 hne
     · rw[e1]at e;injection e with e;injection e with e _ _
       have:=HB3.o.size;omega)
    clear aaZ;obtain⟨f,hf⟩:∃f,st.length - m=f:=⟨_,rfl⟩
    have Jr:=ae (show cO (vs.map (·.1))=(decide (st.drop f=n.kids)&&nM (st.take f++[(i:Int)]) (i+1) ((vs.map (·.1)).drop (i+1)))by
     rw[HT.o,HD.o,nN,mq.o,HM.o,aQ qp,hf,gL,gL])
    have hfm:f+m=st.length:=by omega
    rcases gQ.o.shape with ⟨rfl,hst⟩|⟨rg,wS,rfl,hrg,hrl,hrc,hrm⟩
    · have K8:m=0:=by rw[hst]at qp;simp at qp;omega
      have aa':¬ 0<m:=by omega
      have hmg:¬ 0<(m:Int):=by omega
      have HST:=ae hst;have WY:=ae (show n.kids=[]from kV (by rw[HM.o,K8]));have WK:=ae (show f=0 by rw[hst]at hfm;simp at hfm;omega);have Xa:=ae K8;clear qp hst hf hfm K8;rcases Pv with ⟨ea, -⟩|⟨ea,rfl⟩
      all_goals
       go_upto_region 12 with (first
        | (go_at_call 23;((with_reducible refine(Od.o _).mono ?_);rintro e w4 ⟨rfl,rfl⟩))
        | (go_at_call 24;((with_reducible refine(JA.o _).mono ?_);rintro e w5 ⟨rfl,h1⟩;have eD:=ae (HB3.o.trans (h1.mono HB3.o.size));clear h1)))
       go_loopw [7] (fun x8 wq=>x8 = .int .i64 0∧w5=wq) (fun _ _=>0)
       case atStart=>exact⟨rfl,rfl⟩
       case round =>
        obtain⟨rfl,rfl⟩:=hrel;have hmz:m=0:=Xa.o;subst hmz;go_wp2_with (at_builtin;refine I4 kv.o (aI .i64) rfl (.tmp 75) (.tmp 77) rfl none 0 0 ([]:List Int) rfl (fun _=>⟨rfl,rfl⟩) rfl (fun b e=>by cases e) ⟨w5.heap.size,0,none⟩ 1 1 [(i:Int)] rfl rfl ?_ (by omega) ?_ ?_ ?_;exact ic _ _ _ rfl;exact bO (Nat.mul_le_mul_left _ kz) (by omega);(unfold maxLen;omega);intro v' w7 h1 h2;have su:=ae h1;have Dk:=ae h2;clear h1 h2)
        go_roundw
        case rel =>
         refine⟨i+1,[(i:Int)],v',by omega,by simp,rfl,by go_num,ae ?_,ae (su.o.mono ?_),ae ?_⟩
         · rw[Jr.o,WK.o,HST.o,WY.o];rfl
         · simp;have:=eD.o.size;omega
         · exact(eD.o.trans ((ak _ _).alloc eD.o.size _)).trans (Dk.o.mono (by simp;have:=eD.o.size;omega))
        case measure=>simp[intOf];omega
    · have hw1 : -9223372036854775808≤(st.length:Int) - (m:Int):=by omega
      have hw2:(st.length:Int) - (m:Int)≤9223372036854775807:=by omega
      have hfi:(st.length:Int) - (m:Int)=(f:Int):=by omega
      have Ot:=ae hfi;have HRL:=ae hrl;clear qp hf hfi hrl;rcases Pv with ⟨ea, -⟩|⟨ea,rfl⟩
      all_goals
       go_upto_region 12 with (first
        | (go_at_call 23;((with_reducible refine(Od.o _).mono ?_);rintro e w4 ⟨rfl,rfl⟩))
        | (go_at_call 24;((with_reducible refine(JA.o _).mono ?_);rintro e w5 ⟨rfl,h1⟩;have eD:=ae (HB3.o.trans (h1.mono HB3.o.size));have wm:=ae (gQ.o.below h1 (aj _));have gI:=ae (aF.o.below h1 aF.o.lt);have WC:=ae h1;clear h1)))
       clear x0 x1 x2 x3 x4 x5 x6 x7 ay aO aL aM aN aJ;obtain⟨x0,x1,x2,x3,x4,x5,x6,x7,ay,aO,aL,aM,aN,aJ⟩:=gI.o.cells;clear x0 x1 x2 x3 x4 x5 x6 x7 ay aO aL aM aN
       go_loopw [7] (fun x8 wq=>∃j q:Nat,j≤m∧x8 = .int .i64 (j:Int)∧Hid ((st.drop f).take j=n.kids.take j)∧w5.drewN q=wq) (fun x8 _=>m - (intOf x8).toNat)
       case atStart=>exact⟨0,0,eP _,rfl,ae rfl,rfl⟩
       case round =>
        obtain⟨j,q,hj,rfl,aR,rfl⟩:=hrel;by_cases hjm:j<m
        · have hji:(j:Int)<(m:Int):=by omega
          obtain⟨x,hx⟩:∃x,st[f+j]? = some x:=⟨_,dL (by omega)⟩;obtain⟨y,hy⟩:∃y,n.kids[j]? = some y:=⟨_,dL (by rw[HM.o];exact hjm)⟩;rcases lL.o with e|⟨kb,fM,rfl,hkc⟩
          · exfalso;rw[e]at hy;simp at hy
          have k1:=T9 wm.o (f+j) x hx;have k2:w5.cell? ⟨kb,fM+j,none⟩=some (.int .i64 y):=(WC.o.cell (p:=⟨kb,fM+j,none⟩) (WX.o kb fM rfl (by intro e;rw[e]at hy;simp at hy))).trans (hkc j y hy);have HX:=ae hx;have jb:=ae hy;have hz1 : -9223372036854775808≤(f:Int)+(j:Int):=by omega
          have hz2:(f:Int)+(j:Int)≤9223372036854775807:=by omega
          have hz3:(0:Int)≤(f:Int)+(j:Int):=by omega
          have zh:(f:Int)+(j:Int)<(st.length:Int):=by omega
          clear hkc hx hy;have hfi:=Ot.o;by_cases hxy:x=y
          · have ex:(x != y)=false:=by rw[hxy];simp
            have HT2:=ae (Zz aR.o HX.o (by rw[hxy];exact jb.o));clear hxy;have W1:IntKind.i64.wrap ((st.length:Int) - (m:Int))=(f:Int):=by rw[fU];omega
            have W2:IntKind.i64.wrap ((f:Int)+(j:Int))=(f:Int)+(j:Int):=by rw[fU];omega
            have W3:((f:Int)+(j:Int)).toNat=f+j:=by omega
            go_wp2_with fail
            go_quiet (fail)
            clear W1 W2 W3;go_wp2_with fail
            go_roundw
            case rel=>exact⟨j+1,_,by omega,by go_num,HT2,by first|rfl|trivial⟩
            case measure=>simp[intOf];omega
          · have HR:=ae (show cO (vs.map (·.1))=false by rw[Jr.o,aS (Zy HX.o jb.o hxy),Bool.false_and])
            exact absurd HR.o (by rw[dw.o];decide)
        · have hji:¬ (j:Int)<(m:Int):=by omega
          have ajC:j=m:=by omega
          have yE:=ae (show st.drop f=n.kids by
           have h1:=aR.o;rw[pW (by rw[lG];omega),pW (by rw[HM.o];omega)]at h1;exact h1)
          have hfi:=Ot.o;have En:f≤st.length:=by omega
          have hn0:(0:Int)≤(f:Int):=by omega
          have hn1:(f:Int)≤(wS:Int):=by omega
          have hn2:f≤wS:=by omega
          go_wp2_with (at_builtin;refine I4 kv.o (aI .i64) rfl (.tmp 75) (.tmp 77) rfl (some ⟨rg,0,none⟩) f f (st.take f) ?_ (fun h=>by cases h) ?_ ?_ ⟨w5.heap.size,0,none⟩ 1 1 [(i:Int)] rfl rfl ?_ (by omega) ?_ ?_ ?_;rfl;(rw[gX];omega);(intro b e;injection e with e;subst e;intro j' u hu;rw[Addr.add_mid,Nat.zero_add];exact Own.cells (((Ub wm.o f En).drewN q).alloc _) j' u hu);exact ic _ _ _ rfl;exact bO (Nat.mul_le_mul_left _ kz) (by omega);(unfold maxLen;omega);intro v' w7 h1 h2;have su:=ae h1;have Dk:=ae h2;clear h1 h2)
          go_roundw
          case rel =>
           refine⟨i+1,st.take f++[(i:Int)],v',by omega,by simp;omega,rfl,by go_num,ae ?_,ae (su.o.mono ?_),ae ?_⟩
           · rw[Jr.o,aQ yE.o,gL]
           · simp;have:=eD.o.size;omega
           · exact(Below.alloc (qj eD.o q) (qj eD.o q).size _).trans (Dk.o.mono (by simp;have:=eD.o.size;omega))
          case measure=>simp[intOf];omega
  · have hii:¬ (i:Int)<(nl:Int):=by omega
    have hin:i=nl:=by omega
    have HT2:=ae (show cO (vs.map (·.1))=decide (st.length=1)by
     rw[HT.o,List.drop_of_length_le (by rw[eB,jF.o];omega)];rfl)
    rcases HO.o.shape with ⟨rfl,hst⟩|⟨rg,wS,rfl, -⟩
    · rw[hst]at HT2
      exact absurd HT2.o (by rw[dw.o];decide)
    · by_cases h1:st.length=1
      · have h1i:((st.length:Int) == 1)=true:=by rw[bA];omega
        clear h1 HT2;go_wp2_with fail
        go_ret;exact⟨rfl,HB.o⟩
      · rw[aS h1,dw.o]at HT2
        exact absurd HT2.o (by decide)
theorem UF (w:World)(v:Value)(l:List (Nd × Value))(h:fI w w.heap.size v l)(hz:SZ l)(hn:∀q∈l,q.1.num≤9223372036854775807)(hlen:(cz (l.map (·.1))).length≤1000000000)(cB:cO (l.map (·.1))=true) :
 Calls Tryz.prog 6 #[v] w fun e w'=>e = .returned (.string (strOfNums (cz (l.map (·.1)))))∧Below w.heap.size w w':=by
 have HT:=ae (afF w v l h hz cB);obtain⟨ns,hns⟩:∃ns,l.map (·.1)=ns:=⟨_,rfl⟩;rw[hns]at hlen cB ⊢;have ht:cO ns=true:=cB;clear cB
 · skip
   have C:oI w v l ns:=⟨h,hns,ht,hz.1,hz.2,hn⟩;have mE:=aie ht;have hll:l.length=ns.length:=by rw[← hns,eB]
   obtain⟨L,hL⟩:∃L,l.length=L:=⟨_,rfl⟩
   have hp:cz ns=bI ns ((L - 1:Nat):Int):=by
    unfold cz bI;rw[ah ht];congr 1;omega
   rw[hp]at hlen ⊢;have HS:=ae (Vk C L (L - 1) (by omega) (by omega) hlen);obtain⟨A,cap,rfl⟩:=h.uq;have hL1:(L:Int) - 1=((L - 1:Nat):Int):=by omega
   have hlm:L≤1000:=by have:=hz.1;omega
   have hwr:IntKind.i64.wrap ((L:Int) - 1)=(L:Int) - 1:=by rw[fU];omega
   rw[hL]at HT HS ⊢;rw[← hL1]at HS;clear C h hz hn hlen hns ht hll hp mE hL hL1;go_enter Tryz.func6,Tryz.ntmps6
   go_wp2_with (first
    | (go_at_call 14;((with_reducible refine HT.o.mono ?_);rintro e w2 ⟨rfl,h1⟩;have HB2:=ae h1;clear h1))
    | (go_at_call 15;((with_reducible refine(HS.o _ HB2.o).mono ?_);rintro e w3 ⟨rfl,h1⟩;have HB3:=ae (HB2.o.trans (h1.mono HB2.o.size));clear h1)))
   go_ret;exact⟨by rfl,HB3.o⟩
theorem afH (s:ByteArray)(w:World)(ns:List Nd)(hp:jc s (.ok ns)) :
 Calls Tryz.prog 17 #[.string s] w fun e w'=>Below w.heap.size w w'∧∃g cap vs,e = .returned (.agg #[.slice (some ⟨g,0,none⟩) ns.length cap,.int .i64 0])∧vs.map Prod.fst=ns∧fI w' w'.heap.size (.slice (some ⟨g,0,none⟩) ns.length cap) vs:=by
 refine(U2 s w _ hp).mono ?_;rintro e w' ⟨hb,⟨c,h,_⟩|⟨ns',g,cap,vs,h,h1,he,h3,h4⟩⟩
 · cases h
 · injection h with h;subst h
   have hl:vs.length=ns.length:=by rw[← h1,eB]
   rw[hl]at he h3 h4;exact⟨hb,g,cap,_,he,(Ns vs).trans h1,h3.sn hl⟩
theorem afI (t:ByteArray)(ns:List Nd)(hp:jc t (.ok ns))(ht:strOfNums (cz ns)=t)(w1 wr:World)(v:Value)(l:List (Nd × Value))(hm:l.map Prod.fst=ns)(hs:fI w1 w1.heap.size v l)(hr:Below w1.heap.size w1 wr) :
 Calls Tryz.prog 6 #[v] wr fun e w'=>e = .returned (.string t)∧Below wr.heap.size wr w':=by
 obtain⟨⟨aa0,_,Lu⟩,bM,hpl,abt,_⟩:=BX t ns hp;have hsz:=Pj t ns hp;have hl:l.length=ns.length:=by rw[← hm,eB]
 have:=UF wr v l (hs.lift hr hr.size) ⟨by omega,fun p hp=>hsz p.1 (by rw[← hm];exact uG hp)⟩ (fun p hp=>bM p.1 (by rw[← hm];exact uG hp)) (by rw[show l.map (·.1)=ns from hm];omega) (by rw[show l.map (·.1)=ns from hm];exact Lu);rw[show l.map (·.1)=ns from hm,ht]at this;exact this
theorem afX (s p:ByteArray)(hs:s.size≤300)(hp0:0<s.size)(y9:(s[0].toNat:Int)=61)(hr:s.extract 1 s.size=p)(wJ:iq++p=s)(ns:List Nd)(hp:jc p (.ok ns))(wM:strOfNums (cz ns)=p)(w:World) :
 Calls Tryz.prog 8 #[.string s] w fun e w'=>e = .returned (.bool true)∧Below w.heap.size w w':=by
 have hi:¬ (300:Int)<(s.size:Int):=by omega
 have hi0:(0:Int)<(s.size:Int):=by omega
 have hi1:(1:Int)≤(s.size:Int):=by omega
 have hne:=sQ s (by omega);have xW:s.toList.isEmpty=false:=by cases hq:s.toList with|nil=>exact absurd hq hne|cons a l=>rfl
 have abb:(s.toList == [])=false:=aA.2 hne;have hcc:(((⟨#[61]⟩:ByteArray)++p).toList == s.toList)=true:=by rw[show(⟨#[61]⟩:ByteArray)++p=s from wJ];exact beq_self_eq_true _
 have aaE:(⟨#[61]⟩:ByteArray)++p=s:=wJ;have hpz:¬ 9223372036854775807<1+p.size:=by rw[← hr,ByteArray.size_extract];omega
 have HA:=ae (afH p w ns hp);have xn:=ae (fun (w1 wr:World)(v:Value)(l:List (Nd × Value))(hm:l.map Prod.fst=ns)(hs:fI w1 w1.heap.size v l)(hr:Below w1.heap.size w1 wr)=>afI p ns hp wM w1 wr v l hm hs hr);obtain⟨L,hL⟩:∃L,ns.length=L:=⟨_,rfl⟩;rw[hL]at HA;clear hp wM hL hs wJ;go_enter Tryz.func8,Tryz.ntmps8;go_upto_region 7 with (go_at_call 17;((with_reducible refine HA.o.mono ?_);rintro e w1 ⟨hb,g1,gm,l1,rfl,hm1,hs1⟩;have HB1:=ae hb;have JB:=ae hm1;have gy:=ae hs1;clear hb hm1 hs1))
 have HK:=ae (jO.new w1 (.slice (some ⟨g1,0,none⟩) L gm) 0);have bu:=ae (show Below w1.heap.size w1 (w1.alloc (.cells #[.slice (some ⟨g1,0,none⟩) L gm,.int .i64 0] 49))from(ak _ _).alloc (aj _) _);obtain⟨b,hb⟩:∃b,w1.heap.size=b:=⟨_,rfl⟩;obtain⟨w2,hw2⟩:∃w2,w1.alloc (.cells #[.slice (some ⟨g1,0,none⟩) L gm,.int .i64 0] 49)=w2:=⟨_,rfl⟩;have bG:=ae (xn.o w1 w2 _ l1 JB.o gy.o (by rw[← hw2];exact bu.o));rw[hw2]at HK bu ⊢;have HB2:=ae (HB1.o.trans (bu.o.mono HB1.o.size));rw[hb]at HK ⊢;clear hw2 hb;obtain⟨y0,y1⟩:=HK.o.facts;go_wp2_with (go_at_call 6;((with_reducible refine bG.o.mono ?_);rintro e w3 ⟨rfl,h1⟩;have H3:=ae (HB2.o.trans (h1.mono HB2.o.size));clear h1))
 go_ret;exact⟨rfl,H3.o⟩
theorem UY (s p:ByteArray)(hs:s.size≤300)(hp0:0<s.size)(y9:(s[0].toNat:Int)=61)(hr:s.extract 1 s.size=p)(wJ:iq++p=s)(c:Int)(hp:jc p (.error c))(hc:c≠0)(w:World) :
 Calls Tryz.prog 8 #[.string s] w fun e w'=>e = .returned (.bool false)∧Below w.heap.size w w':=by
 have hi:¬ (300:Int)<(s.size:Int):=by omega
 have hi0:(0:Int)<(s.size:Int):=by omega
 have hi1:(1:Int)≤(s.size:Int):=by omega
 have hne:=sQ s (by omega);have xW:s.toList.isEmpty=false:=by cases hq:s.toList with|nil=>exact absurd hq hne|cons a l=>rfl
 have abb:(s.toList == [])=false:=aA.2 hne;have hcc:(((⟨#[61]⟩:ByteArray)++p).toList == s.toList)=true:=by rw[show(⟨#[61]⟩:ByteArray)++p=s from wJ];exact beq_self_eq_true _
 have aaE:(⟨#[61]⟩:ByteArray)++p=s:=wJ;have hpz:¬ 9223372036854775807<1+p.size:=by rw[← hr,ByteArray.size_extract];omega
 have hc0:(c == 0)=false:=aA.2 hc
 have HA:=ae (show Calls Tryz.prog 17 #[.string p] w fun e w'=>Below w.heap.size w w'∧e = .returned (.agg #[.slice none 0 0,.int .i64 c])from by
  refine(U2 p w _ hp).mono ?_;rintro e w' ⟨hb,⟨c',h,_,he⟩|⟨_,_,_,_,h,_⟩⟩
  · injection h with h;subst h;exact⟨hb,he⟩
  · cases h)
 clear hp hs wJ hc;go_enter Tryz.func8,Tryz.ntmps8;go_upto_region 7 with (go_at_call 17;((with_reducible refine HA.o.mono ?_);rintro e w1 ⟨hb,rfl⟩;have HB1:=ae hb;clear hb))
 have HK:=ae (jO.new w1 (.slice none 0 0) c);have bu:=ae (show Below w1.heap.size w1 (w1.alloc (.cells #[.slice none 0 0,.int .i64 c] 49))from(ak _ _).alloc (aj _) _);obtain⟨b,hb⟩:∃b,w1.heap.size=b:=⟨_,rfl⟩;obtain⟨w2,hw2⟩:∃w2,w1.alloc (.cells #[.slice none 0 0,.int .i64 c] 49)=w2:=⟨_,rfl⟩;rw[hw2]at HK bu ⊢;have HB2:=ae (HB1.o.trans (bu.o.mono HB1.o.size));rw[hb]at HK ⊢;clear hw2 hb;obtain⟨y0,y1⟩:=HK.o.facts;go_wp2_with fail
 go_ret;exact⟨rfl,HB2.o⟩
theorem afY (s:ByteArray)(hs:300<s.size)(w:World):Calls Tryz.prog 8 #[.string s] w fun e w'=>e = .returned (.bool false)∧Below w.heap.size w w':=by
 have hi:(300:Int)<(s.size:Int):=by omega
 clear hs;go_enter Tryz.func8,Tryz.ntmps8;go_wp2_with fail
 go_ret;exact⟨rfl,ak _ _⟩
theorem afZ (ns:List Nd)(h:qP ns):∃b:Bool,(b=true→(iq++strOfNums (cz ns)).size≤300∧jc (strOfNums (cz ns)) (.ok ns))∧∀w:World,Calls Tryz.prog 8 #[.string (iq++strOfNums (cz ns))] w fun e w'=>e = .returned (.bool b)∧Below w.heap.size w w':=by
 obtain⟨p,hp⟩:∃p,strOfNums (cz ns)=p:=⟨_,rfl⟩;have hz:(iq++p).size=1+p.size:=by rw[ByteArray.size_append];rfl
 have h0:0<(iq++p).size:=by omega
 have y9:((iq++p)[0].toNat:Int)=61:=by
  have:(iq++p)[0]=iq[0]'(by decide):=ByteArray.getElem_append_left (by decide);rw[this];rfl
 have hr:(iq++p).extract 1 (iq++p).size=p:=by
  exact Tz iq p _ rfl rfl
 rw[hp];by_cases hs:300<(iq++p).size
 · exact⟨false,fun e=>absurd e (by decide),fun w=>afY _ hs w⟩
 · by_cases hne:ns=[]
   · obtain⟨c,hpe,hc⟩:=aeA
     have hp0:p=⟨#[]⟩:=by rw[← hp,hne];decide
     exact⟨false,fun e=>absurd e (by decide),fun w=>UY _ p (by omega) h0 y9 hr rfl c (by rw[hp0];exact hpe) hc w⟩
   · obtain⟨_,QZ⟩:=h.told hne
     rw[hp]at QZ;rcases QZ with hok|⟨c,hpe,hc,_⟩
     · exact⟨true,fun _=>⟨by omega,hok⟩,fun w=>afX _ p (by omega) h0 y9 hr rfl ns hok hp w⟩
     · exact⟨false,fun e=>absurd e (by decide),fun w=>UY _ p (by omega) h0 y9 hr rfl c hpe hc w⟩
theorem afE (w:World)(A:Option Addr)(cap:Nat):Calls Tryz.prog 14 #[.slice A 0 cap] w fun e w'=>e = .returned (.bool false)∧Below w.heap.size w w':=by
 go_enter Tryz.func14,Tryz.ntmps14;go_upto_region 3 with (fail)
 go_loopw [3,4] (fun rv iv wr=>rv = .slice none 0 0∧iv = .int .i64 0∧Below w.heap.size w wr) (fun _ _ _=>0)
 case atStart=>exact⟨rfl,rfl,ak _ _⟩
 case round =>
  obtain⟨rfl,rfl,hb⟩:=hrel;have HB:=ae hb;clear hb;go_wp2_with fail
  go_ret;exact⟨rfl,HB.o⟩
theorem aft (w:World)(A:Option Addr)(cap:Nat):Calls Tryz.prog 6 #[.slice A 0 cap] w fun e w'=>e = .returned (.string ⟨#[]⟩)∧Below w.heap.size w w':=by
 have HT:=ae (afE w A cap);go_enter Tryz.func6,Tryz.ntmps6
 go_wp2_with (first
  | (go_at_call 14;((with_reducible refine HT.o.mono ?_);rintro e w2 ⟨rfl,h1⟩;have HB2:=ae h1;clear h1)))
 go_ret;exact⟨rfl,HB2.o⟩
theorem adh (w:World)(v:Value)(l:List (Nd × Value))(hs:fI w w.heap.size v l)(hN:qP (l.map (·.1))) :
 Calls Tryz.prog 6 #[v] w fun e w'=>e = .returned (.string (strOfNums (cz (l.map (·.1)))))∧Below w.heap.size w w':=by
 by_cases h0:l=[]
 · subst h0
   obtain⟨A,cap,rfl⟩:=hs.uq;rw[show strOfNums (cz (([]:List (Nd × Value)).map (·.1)))=⟨#[]⟩by decide];exact aft w A cap
 · exact UF w v l hs ⟨by have:=hN.few;rw[eB]at this;omega,fun p hp=>hN.IL p.1 (uG hp)⟩ (fun p hp=>hN.num p.1 (uG hp)) (bO hN.len (by omega)) (hN.tree (by intro e;exact h0 (List.map_eq_nil_iff.1 e)))
theorem adg {ns:List Nd}(h:qP ns):¬ 9223372036854775807<1+(strOfNums (cz ns)).size:=by
 have:=h.len;rw[strOfNums_size];omega
end Go.Proofs.YtaobhjliflomaaaGreatDoor
