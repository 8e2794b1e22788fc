import Derived.Test.YtdnooocmlhcpkaaGreatDoorMD5
import Derived.Deep.CutBlock
set_option maxRecDepth 100000
set_option maxHeartbeats 64000000
namespace Go.Proofs.YtdnooocmlhcpkaaGreatDoor
open Go.RowKit Go.Shelf
attribute [local go_sem] Oper.semAt_some
theorem Elem.part:Elem Tryz.prog 131 139 3 32:=⟨Tryz.underlying131,⟨.agg #[.string ⟨#[]⟩,.int .i64 0,.int .i64 0],by kernel_rfl,rfl⟩,by decide⟩
theorem Um {P:Program}{α : Type}{size t e bytes:Nat}{w:World}(ty:TypeId)(dA:Elem P t e size bytes)(E:Enc α size)(base:Nat)(v:Value)(xs:List α)(hown:Own E e w base v xs)(ad:Addr)(m c:Nat)(ys:List α)(hl:ys.length=m)
 (hc:∀(j:Nat)(u:Value),(E.all ys)[j]? = some u→w.cell? (ad.add j)=some u) (hb:(xs.length+m)*bytes≤140737488355328) (hb2:xs.length+m≤maxLen) (hbase:base≤w.heap.size) :
 ∃v' w',(Builtin.append_ #[t,t] ty #[v,.slice (some ad) m c]).run P w = .ok v' w'∧Own E e w' base v' (xs++ys)∧w.grownBy w' v.ownBlock∧(v'.ownBlock=v.ownBlock∨v'.ownBlock=some w.heap.size):=by
 obtain⟨z,hi,hz⟩:=dA.inf;obtain⟨i,hi1,hi2,hi3,hi4⟩:=info_parts hi;obtain⟨v',w',hrun,r1,r2,_,r4⟩:=run_append_own_at (P:=P) w base t ty e i z size bytes dA.und hi1 hi2 hi3 hi4 hz dA.pos v xs.length (E.all xs) hown ad m c (E.all ys) (by rw[E.ku,hl]) hc (E.yY ys) hb2 hb hbase;refine⟨v',w',hrun, ?_,r2,r4⟩;unfold Own;rw[E.all_append,aj,hl];exact r1
theorem RQ {P:Program}{t:TypeId}{w w':World}{o:Oper}{a:Act}{K:Act→World→Prop}{Q:Exit→Act→World→Prop}{v x v':Value}(s y:Operand)(ho:o.op = .call { callee := .builtin .append,args:=#[s,y],argTypes:=#[t,t] })(hs:a.eval s=v)(hx:a.eval y=x)
 (hrun:(Builtin.append_ #[t,t] o.type #[v,x]).run P w = .ok v' w') (h:K (a.put o.dst v') w'):Oper.wp P o a w K Q:=by
 unfold Oper.wp;simp[execOp,ho,resolve,invoke,builtin,hs,hx,hrun,Result.andThen];exact h
theorem aaR (w:World)(b:Nat)(nv:Value)(st ps:List av)(txt:List Int)(lb cap:Nat)(h:dC w b nv st txt)(hps:Own nM 139 w 0 (.slice (some ⟨lb,0,none⟩) ps.length cap) ps)(hne:∀wv,j5 w b nv wv txt→wv.ownBlock≠some lb)(hl1:ps.length≤1000000)(hl2:st.length≤2000000000) :
 Calls Tryz.prog 88 #[.pointer (some ⟨b,0,none⟩),.slice (some ⟨lb,0,none⟩) ps.length cap] w fun e w'=>e = .returned (.tuple #[])∧dC w' b nv (st++ps.reverse) txt∧aZ w w' b:=by
 obtain⟨wv,hws,hq⟩:=h;have hwb:=hws.lt
 have hlt:lb<w.heap.size:=by
  rcases hps.2 with ⟨h1,_⟩|⟨g',cap',cur,h1,_,h3,_⟩
  · cases h1
  · injection h1 with e1;injection e1 with e1;injection e1 with e1;subst e1;exact(dZ.1 h3).1
 refine(callsIn_wide (n:=6)).1 ?_;refine callsIn_of_wp_marks Tryz.func88 rfl trivial ?_ rfl;simp only[Tryz.ntmps88,List.size_toArray,aK,dY,Nat.reduceAdd,Nat.reduceSub,Array.replicate_succ,Array.replicate_zero,List.push_toArray,List.append_toArray,fQ,dO]
 gi_wp2_with (refine⟨trivial, ?_⟩;gi_at_call 128;refine(UH Fence.wide _ trivial rfl _ _ _ _).mono ?_;rintro e w' ⟨rfl,rfl⟩)
 have wV:=(Boxed.new w 130 (.pointer (some ⟨b,0,none⟩))).alloc (.cells #[.slice (some ⟨lb,0,none⟩) ps.length cap] 131);have sK:=Boxed.new (w.alloc (.cells #[.pointer (some ⟨b,0,none⟩)] 130)) 131 (.slice (some ⟨lb,0,none⟩) ps.length cap);simp only[kD]at sK;have hB0:Below w.heap.size w ((w.alloc (.cells #[.pointer (some ⟨b,0,none⟩)] 130)).alloc (.cells #[.slice (some ⟨lb,0,none⟩) ps.length cap] 131)):=((ai _ w).alloc (ag _) _).alloc (by simp) _;have hsz:((w.alloc (.cells #[.pointer (some ⟨b,0,none⟩)] 130)).alloc (.cells #[.slice (some ⟨lb,0,none⟩) ps.length cap] 131)).heap.size=w.heap.size+2:=by simp
 obtain⟨W0,hW0⟩:∃W0,(w.alloc (.cells #[.pointer (some ⟨b,0,none⟩)] 130)).alloc (.cells #[.slice (some ⟨lb,0,none⟩) ps.length cap] 131)=W0:=⟨_,rfl⟩;rw[hW0]at wV sK hB0 hsz ⊢;clear hW0
 obtain ⟨lcs,lfr,NK⟩:∃cs fr,w.heap[lb]? = some (.cells cs 139 fr):=by
  rcases hps.2 with ⟨h1,_⟩|⟨g',cap',cur,h1,_,h3,_⟩
  · cases h1
  · injection h1 with e1;injection e1 with e1;injection e1 with e1;subst e1;exact⟨_,_,h3⟩
 have hcell:∀m p,ps[m]? = some p→w.cell? ⟨lb,m*3,none⟩=some (.string p.t)∧w.cell? ⟨lb,m*3+1,none⟩=some (.int .i64 p.node)∧w.cell? ⟨lb,m*3+2,none⟩=some (.int .i64 p.least):=fun m p hp =>
  ⟨Own.cells hps (m*3) _ (by have:=nM.at ps m 0 p hp (by omega);rw[Nat.add_zero]at this;rw[this];rfl),Own.cells hps (m*3+1) _ (by rw[nM.at ps m 1 p hp (by omega)];rfl),Own.cells hps (m*3+2) _ (by rw[nM.at ps m 2 p hp (by omega)];rfl)⟩
 refine wpIn_rangeFunc_ownH (F:=Fence.wide) (n:=6) rfl (by omega) (gf:=159) (lb:=#[.pointer (some ⟨w.heap.size+1,0,none⟩)]) rfl trivial (enters_of Tryz.func159 (by kernel_rfl) rfl)
  (UF Fence.wide 5 trivial rfl (by omega) (w.heap.size+1) lb cap ps (by omega) W0 (by omega) (by omega) sK.cell (fun m p hp=>⟨(hB0.cell (p:=⟨lb,m*3,none⟩) hlt).trans (hcell m p hp).1,(hB0.cell (p:=⟨lb,m*3+1,none⟩) hlt).trans (hcell m p hp).2.1,(hB0.cell (p:=⟨lb,m*3+2,none⟩) hlt).trans (hcell m p hp).2.2⟩))
  jO.trans (RA (by omega) (by omega)) (ai _ _) (fun _=>rfl)
  (fun pre W=>zM w b nv st txt lb pre W∧aZ w W b∧w.heap.size+2≤W.heap.size∧Boxed W (w.heap.size+1) 131 (.slice (some ⟨lb,0,none⟩) ps.length cap))
  (fun _ _ _=>False)
  ?hI (fun _ _ _ _ _ hs _ _=>hs) ?h0
  (fun x a' W=>∃Bx,w.heap.size+1<Bx∧ic W Bx x.2∧(∃wv ad bv,fJ W b nv wv ad bv∧wv.ownBlock≠some Bx)∧a'={ tmps:=#[.pointer (some ⟨b,0,none⟩),.slice (some ⟨lb,0,none⟩) ps.length cap,.pointer (some ⟨w.heap.size,0,none⟩),undef,undef,.pointer (some ⟨Bx,0,none⟩),.slice (some ⟨lb,0,none⟩) ps.length cap,.func (.func 159) #[] #[.pointer (some ⟨w.heap.size+1,0,none⟩)],.int .i64 (x.1:Int),.agg (lu x.2),undef,undef,undef,undef,undef,undef,undef,undef,undef,undef],defers:=[] })
  ?hAx ?assign ?body ?done ?stop
 case hI =>
  rintro pre X Y row ⟨h1,h2,h3,h4⟩ hg hr;refine⟨aaQ NK _ pre X Y row h1 hg hr,h2.stay hg (fun r e=>by have:=(hr r e).1;omega),by have:=hg.size;omega,wY hg (fun r e=>(hr r e).2) h4⟩
 case h0 =>
  refine⟨⟨⟨wv,hws.below hB0,by rw[List.map_nil,fu];exact Own.below hq hB0 (ag _),hne wv hws⟩,wV,hB0.block lb hlt⟩,aZ.gJ hB0,by omega,sK⟩
 case hAx =>
  rintro x a' _ X Y row ⟨Bx,h1,h2,⟨wv2,yj,yl,h4,h5⟩,h3⟩ hg hr;exact⟨Bx,h1,wY hg (fun r e=>(hr r e).2) h2,⟨wv2,yj,yl,wY hg (fun r e=>(hr r e).2) h4,h5⟩,h3⟩
 case assign =>
  rintro l pre ⟨j,p⟩ W K ⟨hI,hF,hz,hbs⟩ hK;dsimp only[lu];gi_wp2
  have hal:Below W.heap.size W (W.alloc (.cells (lu p) 139)):=(ai _ _).alloc (ag _) _
  have ZA:∃wv ad bv,fJ (W.alloc (.cells (lu p) 139)) b nv wv ad bv∧wv.ownBlock≠some W.heap.size:=by
   obtain⟨⟨wv2,⟨yj,yl,g1,g2,g3,g4⟩,g5,g6⟩, -, -⟩:=hI;exact⟨wv2,yj,yl,g1.below hal g1.lt,fun e=>by have:=(Own.jB g5 _ e).2.1;omega⟩
  exact hK _ _ ((KeepsOthers.alloc _ _).from _) ⟨hal.block _ (by omega),hal.block _ (by omega)⟩ ⟨hI.below hal (by omega),hF.trans (aZ.gJ hal),by simp;omega,hbs.alloc _⟩ ⟨W.heap.size,by omega,ic.new W p,ZA,rfl⟩
 case body =>
  rintro l pre ⟨j,p⟩ a' W hl ⟨r,hr⟩ ⟨⟨⟨wv1,⟨ad,bv,hw1,WK,ho1,WT⟩,hq1,hne1⟩,hbx,NI⟩,hF,hz,hbs⟩ ⟨Bx,hBx,hpt,⟨wv2,yj,yl,XM,Xy⟩,rfl⟩ hlt2
  have XO:wv2=wv1:=by
   have e:W.heap[b]? = some (.cells #[nv,wv1,ad,bv] 136):=hw1;have e2:W.heap[b]? = some (.cells #[nv,wv2,yj,yl] 136):=XM;rw[e]at e2;injection e2 with e2;injection e2 with e2;simp at e2;exact e2.1.symm
  subst XO;obtain⟨c0,c1,c2,c3⟩:=hw1.facts;have f1:=hw1.frozen 1;have Hf:=hbx.cell;obtain⟨y0,y1,y2⟩:=hpt.cells;have WH:=hw1.lt;have hbW:b<w.heap.size:=hwb;have oG:Bx<W.heap.size:=(dZ.1 hpt).1;have hnl:(st++pre.map (·.2)).length≤3000000000:=by rw[aj,dN];omega
  have NZ:Own nM 139 ((W.alloc (.cells #[.string p.t,.int .i64 p.node,.int .i64 p.least] 139)).drew) (b+1) wv2 (st++pre.map (·.2)):=(hq1.alloc _).drew;obtain⟨v',w',hrun,hown,hgr,hat⟩:=Um 131 Elem.part nM (b+1) wv2 _ NZ ⟨W.heap.size,0,none⟩ 1 1 [p] rfl (fun j u hu=>fZ (w:=W) _ _ _ rfl j u hu) (by omega) (by unfold maxLen;omega) (by simp;omega);have hgb:some b≠wv2.ownBlock:=fun e=>by have:=(Own.jB hq1 b e.symm).1;omega
  have hgw:some w.heap.size≠wv2.ownBlock:=fun e=>by
   obtain⟨-, -,cur,jr⟩:=Own.jB hq1 _ e.symm;have h2:W.heap[w.heap.size]? = some (.cells #[.pointer (some ⟨b,0,none⟩)] 130):=hbx;rw[h2]at jr;injection jr with jr;injection jr with _ ht;exact absurd ht (by decide)
  have hgB:some Bx≠wv2.ownBlock:=fun e=>Xy e.symm
  have kd:∀(ad:Addr){u:Value},ad.block<W.heap.size→some ad.block≠wv2.ownBlock→((W.alloc (.cells #[.string p.t,.int .i64 p.node,.int .i64 p.least] 139)).drew).cell? ad=some u→w'.cell? ad=some u:=fun ad u h1 h2 h3=>(fI (hgr.block ad.block (by simp;omega) h2)).trans h3
  have hw2:fJ w' b nv wv2 ad bv:=by
   unfold fJ;rw[hgr.block b (by simp;omega) hgb];exact hw1.below ((ai _ _).alloc (ag _) _).drew hw1.lt
  have Xp:lb≠b:=fun e=>by
   have e1:W.heap[b]? = some (.cells #[nv,_,ad,bv] 136):=hw1;rw[← e,NI,NK]at e1;injection e1 with e1;injection e1 with _ e2;exact absurd e2 (by decide)
  have Xd:some (w.heap.size+1)≠wv2.ownBlock:=fun e=>by
   obtain⟨-, -,cur,jr⟩:=Own.jB hq1 _ e.symm;have h2:W.heap[w.heap.size+1]? = some (.cells #[.slice (some ⟨lb,0,none⟩) ps.length cap] 131):=hbs;rw[h2]at jr;injection jr with jr;injection jr with _ ht;exact absurd ht (by decide)
  have hsame:∀k,k<W.heap.size→some k≠wv2.ownBlock→w'.heap[k]? = W.heap[k]? := fun k h1 h2=>(hgr.block k (by simp;omega) h2).trans (((ai W.heap.size W).alloc (ag _) (.cells #[.string p.t,.int .i64 p.node,.int .i64 p.least] 139)).drew.block k h1)
  have WS:oz w' (b+1) bv txt:=Own.keep ho1 fun g hg1 hg2 hg3=>hsame g hg2 (fun e=>by
   obtain⟨-, -,cur,jr⟩:=Own.jB hq1 _ e.symm;obtain⟨-,Vz,fr2,WU⟩:=Jr ho1 g hg3;rw[WU]at jr;injection jr with jr;injection jr with _ ht;exact absurd ht (by decide))
  have hsz':W.heap.size≤w'.heap.size:=by have:=hgr.size;simp at this;omega
  have hke:KeepsOthers W w':=((KeepsOthers.alloc W (.cells #[.string p.t,.int .i64 p.node,.int .i64 p.least] 139)).trans (KeepsOthers.drew _)).trans (KeepsOthers.of_grownBy hgr (fun j o hj ho=>by
   obtain⟨-, -,cur,jr⟩:=Own.jB NZ _ hj;rw[jr]at ho;cases ho;rfl))
  have Xc:aZ W w' b:=⟨hgr.os,hgr.tape,hgr.output,hsz',fun k hk hkb hr=>hsame k hk (fun e=>by
   obtain⟨h1, -,cur,jr⟩:=Own.jB hq1 _ e.symm;rcases hr with hr|hr
   · omega
   · exact(hr cur _).2 jr)⟩
  have XA:∀v2:Value,(v2.ownBlock=wv2.ownBlock∨v2.ownBlock=some ((W.alloc (.cells #[.string p.t,.int .i64 p.node,.int .i64 p.least] 139)).drew).heap.size)→v2.ownBlock≠some lb:=fun v2 h e=>by
   rcases h with h|h
   · rw[h]at e;exact hne1 e
   · rw[h]at e;have:=dX e;simp at this;omega
  obtain⟨ao,n1,fe,rfl⟩:=EL hq1;obtain⟨pz,n2,cap2,rfl⟩:=EL hown;have Li:=aa hrun;have hmx:Tryz.prog.follows .mixedOrders=true:=by kernel_rfl
  clear hrun;dsimp only at y0 y1 y2;have hal:Below W.heap.size W ((W.alloc (.cells #[.string p.t,.int .i64 p.node,.int .i64 p.least] 139)).drew):=((ai _ _).alloc (ag _) _).drew;gi_wp2
  have BE:KeepsFrom (w.heap.size+2) W (w'.setCell ⟨b,1,none⟩ (.slice pz n2 cap2))∧jO (w.heap.size+1) lb W (w'.setCell ⟨b,1,none⟩ (.slice pz n2 cap2))∧(zM w b nv st txt lb (pre++[(j,p)]) (w'.setCell ⟨b,1,none⟩ (.slice pz n2 cap2))∧aZ w (w'.setCell ⟨b,1,none⟩ (.slice pz n2 cap2)) b∧w.heap.size+2≤(w'.setCell ⟨b,1,none⟩ (.slice pz n2 cap2)).heap.size∧Boxed (w'.setCell ⟨b,1,none⟩ (.slice pz n2 cap2)) (w.heap.size+1) 131 (.slice (some ⟨lb,0,none⟩) ps.length cap)):=by
   have gs:=grownBy.setCell' (grownBy.refl' w' (some b)) 1 (.slice pz n2 cap2);have s1:(w'.setCell ⟨b,1,none⟩ (.slice pz n2 cap2)).heap[w.heap.size+1]? = W.heap[w.heap.size+1]? := (gZ w' ⟨b,1,none⟩ _ _ (by show w.heap.size+1≠b;omega)).trans (hsame _ (by omega) Xd);have s0:(w'.setCell ⟨b,1,none⟩ (.slice pz n2 cap2)).heap[w.heap.size]? = W.heap[w.heap.size]? := (gZ w' ⟨b,1,none⟩ _ _ (by show w.heap.size≠b;omega)).trans (hsame _ (by omega) hgw);have sl:(w'.setCell ⟨b,1,none⟩ (.slice pz n2 cap2)).heap[lb]? = W.heap[lb]? := (gZ w' ⟨b,1,none⟩ _ _ Xp).trans (hsame _ (by omega) (fun e=>hne1 e.symm));refine⟨(hke.trans (KeepsOthers.setCell _ _ _)).from _,⟨s1,sl⟩,⟨⟨.slice pz n2 cap2,⟨ad,bv,hw2.Qa _,WK,Own.other WS gs (Nat.lt_succ_self b),WT⟩, ?_,XA _ hat⟩,s0.trans hbx,sl.trans NI⟩,(hF.trans Xc).trans (aZ.rD (gF.rD gs)),by have:=gs.size;omega,s1.trans hbs⟩;rw[iE, ← bO];exact Own.other hown gs (Nat.lt_succ_self b)
  have qw:(fun w'=>w'.cell? ⟨w.heap.size,0,none⟩=some (.pointer (some ⟨b,0,none⟩))∧w'.cell? ⟨Bx,0,none⟩=some (.string p.t)∧w'.cell? ⟨Bx,1,none⟩=some (.int .i64 p.node)∧w'.cell? ⟨Bx,2,none⟩=some (.int .i64 p.least)) (w'.setCell ⟨b,1,none⟩ (.slice pz n2 cap2)):=by
   have gs:=grownBy.setCell' (grownBy.refl' w' (some b)) 1 (.slice pz n2 cap2);have kc:∀(ad:Addr){u:Value},ad.block<W.heap.size→ad.block≠b→w'.cell? ad=some u→(w'.setCell ⟨b,1,none⟩ (.slice pz n2 cap2)).cell? ad=some u:=fun ad u h0 h1 h2=>(fI (gZ w' ⟨b,1,none⟩ _ ad.block h1)).trans h2
   exact⟨kc ⟨w.heap.size,0,none⟩ (by show w.heap.size<_;omega) (by show w.heap.size≠b;omega) (kd ⟨w.heap.size,0,none⟩ (by show w.heap.size<_;omega) hgw ((hal.cell (p:=⟨w.heap.size,0,none⟩) (show w.heap.size<W.heap.size by omega)).trans Hf)),kc ⟨Bx,0,none⟩ oG (by show Bx≠b;omega) (kd ⟨Bx,0,none⟩ oG hgB ((hal.cell (p:=⟨Bx,0,none⟩) oG).trans y0)),kc ⟨Bx,1,none⟩ oG (by show Bx≠b;omega) (kd ⟨Bx,1,none⟩ oG hgB ((hal.cell (p:=⟨Bx,1,none⟩) oG).trans y1)),kc ⟨Bx,2,none⟩ oG (by show Bx≠b;omega) (kd ⟨Bx,2,none⟩ oG hgB ((hal.cell (p:=⟨Bx,2,none⟩) oG).trans y2))⟩
  have lL:(fun w'=>w'.cell? ⟨w.heap.size,0,none⟩=some (.pointer (some ⟨b,0,none⟩))∧w'.cell? ⟨Bx,0,none⟩=some (.string p.t)∧w'.cell? ⟨Bx,1,none⟩=some (.int .i64 p.node)∧w'.cell? ⟨Bx,2,none⟩=some (.int .i64 p.least)) W.drew:=⟨Hf,y0,y1,y2⟩;have dG:(fun w'=>w'.cell? ⟨w.heap.size,0,none⟩=some (.pointer (some ⟨b,0,none⟩))∧w'.cell? ⟨Bx,0,none⟩=some (.string p.t)∧w'.cell? ⟨Bx,1,none⟩=some (.int .i64 p.node)∧w'.cell? ⟨Bx,2,none⟩=some (.int .i64 p.least)) ((W.alloc (.cells #[.string p.t,.int .i64 p.node,.int .i64 p.least] 139)).drew):=⟨(hal.cell (p:=⟨w.heap.size,0,none⟩) (show w.heap.size<W.heap.size by omega)).trans Hf,(hal.cell (p:=⟨Bx,0,none⟩) oG).trans y0,(hal.cell (p:=⟨Bx,1,none⟩) oG).trans y1,(hal.cell (p:=⟨Bx,2,none⟩) oG).trans y2⟩;refine JG (by kernel_rfl) (by kernel_rfl) (wpAny_of_held (S:=fun w'=>w'.cell? ⟨w.heap.size,0,none⟩=some (.pointer (some ⟨b,0,none⟩))∧w'.cell? ⟨Bx,0,none⟩=some (.string p.t)∧w'.cell? ⟨Bx,1,none⟩=some (.int .i64 p.node)∧w'.cell? ⟨Bx,2,none⟩=some (.int .i64 p.least)) _ _ _ _ ?_);show wpAnyH _ _ _ _ _ 11 #[false,false,false,false,false,false,false,false,false,false,false] _ _;refine hT 0 lL ?_ (hy:=by(intro lC hSw;obtain⟨e1,e2,e3,e4⟩:=hSw;go_simp;try(with_reducible rfl)));refine hT 1 lL ?_ (hy:=by(intro lC hSw;obtain⟨e1,e2,e3,e4⟩:=hSw;go_simp;try(with_reducible rfl)));refine hT 2 lL ?_;refine hT 3 lL ?_;refine hT 5 lL ?_ (hy:=by(intro lC hSw;obtain⟨e1,e2,e3,e4⟩:=hSw;go_simp;try(with_reducible rfl)));have d1:((W.alloc (.cells #[.string p.t,.int .i64 p.node,.int .i64 p.least] 139)).drew).cell? ⟨b,1,none⟩=some (.slice ao n1 fe):=(hal.cell (p:=⟨b,1,none⟩) WH).trans c1;have HS2:(fun w'=>w'.cell? ⟨w.heap.size,0,none⟩=some (.pointer (some ⟨b,0,none⟩))∧w'.cell? ⟨Bx,0,none⟩=some (.string p.t)∧w'.cell? ⟨Bx,1,none⟩=some (.int .i64 p.node)∧w'.cell? ⟨Bx,2,none⟩=some (.int .i64 p.least)) w':=⟨kd ⟨w.heap.size,0,none⟩ (by show w.heap.size<_;omega) hgw dG.1,kd ⟨Bx,0,none⟩ oG hgB dG.2.1,kd ⟨Bx,1,none⟩ oG hgB dG.2.2.1,kd ⟨Bx,2,none⟩ oG hgB dG.2.2.2⟩;have f1':w'.frozen? ⟨b,1,none⟩=false:=hw2.frozen 1;have g1':w'.cell? ⟨b,1,none⟩=some (.slice ao n1 fe):=hw2.facts.2.1;refine wpAnyH_ready (rs:=[4,6]) (by kernel_rfl) (by simp) (AllReadyH.cons rfl (fun K hK => ?_) (AllReadyH.cons rfl (fun K hK => ?_) AllReadyH.nil))
  · rw[if_pos (by rfl)]
    go_simp;refine hK _ _ lL (fun _ => ?_);clear hK K;simp only[List.setIfInBounds_toArray,List.set_cons_zero,List.set_cons_succ];refine hO 6 (fun K hK => ?_);go_simp;refine hK.o _ _ dG ?_;clear hK K;simp only[Act.put,sT,iT,iR];refine hO 7 (fun K hK => ?_);refine RQ (.tmp 14) (.tmp 16) rfl rfl rfl Li.o ?_;refine hK.o _ _ HS2 ?_;clear hK K;simp only[Act.put,sT,iT,iR];refine hT 8 HS2 ?_;refine hT 9 HS2 ?_;refine hO 10 (fun K hK => ?_);go_simp;refine hK.o undef _ qw ?_;clear hK K;simp only[Act.put];refine wpAnyH_done (by kernel_rfl) ?_ _;refine⟨rfl, ?_⟩;gi_wp2
    exact BE
  · rw[if_pos (by rfl)]
    go_simp;refine hK _ _ dG (fun _ => ?_);clear hK K;simp only[List.setIfInBounds_toArray,List.set_cons_zero,List.set_cons_succ];refine hO 4 (fun K hK => ?_);go_simp;refine hK.o _ _ dG ?_;clear hK K;simp only[Act.put,sT,iT,iR];refine hO 7 (fun K hK => ?_);refine RQ (.tmp 14) (.tmp 16) rfl rfl rfl Li.o ?_;refine hK.o _ _ HS2 ?_;clear hK K;simp only[Act.put,sT,iT,iR];refine hT 8 HS2 ?_;refine hT 9 HS2 ?_;refine hO 10 (fun K hK => ?_);go_simp;refine hK.o undef _ qw ?_;clear hK K;simp only[Act.put];refine wpAnyH_done (by kernel_rfl) ?_ _;refine⟨rfl, ?_⟩;gi_wp2
    exact BE
 case done =>
  rintro D ys W hD rfl ⟨⟨⟨wv1,h1,h2, -⟩, -, -⟩,hF,hz, -⟩ hK;gi_wp2
  have hg:=grownBy_putObj' W D (.deferred none);have hr:∀r,some D=some r→∃o:Obj,W.heap[r]? = some o∧o.isCells=false:=fun r e=>by cases e;exact⟨_,hK,rfl⟩
  refine⟨by simp,.inl ⟨_,_,rfl,run_takeDeferred hK, ?_⟩⟩;rw[U9 ps 0 (cu _),List.drop_zero]at h2;exact⟨_,results_none rfl _ _ _,rfl,⟨wv1,j5.stay h1 hg hr,EK h2 hg hr⟩,hF.stay hg (fun r e=>by cases e;omega)⟩
 case stop =>
  rintro D c pre W _ _ h _;exact h.elim
end Go.Proofs.YtdnooocmlhcpkaaGreatDoor
namespace Go.Proofs.YtdnooocmlhcpkaaGreatDoor
open Go.RowKit
def ll(k:Int):Nat:=if k=1 then 161 else if k=2 then 162 else if k=3 then 163 else if k=4 then 164 else if k=5 then 165 else if k=6 then 166 else if k=7 then 167 else if k=8 then 168 else 169
theorem Py (k:Int)(w:World):Calls Tryz.prog 132 #[.int .i64 k] w fun e w'=>e = .returned (.func (.func (ll k)) #[] #[])∧w=w':=by
 have fin:∀r:Nat,ll k=r→(Calls Tryz.prog 132 #[.int .i64 k] w fun e w'=>e = .returned (.func (.func r) #[] #[])∧w=w')→Calls Tryz.prog 132 #[.int .i64 k] w fun e w'=>e = .returned (.func (.func (ll k)) #[] #[])∧w=w':=fun r h1 h2=>by rw[h1];exact h2
 by_cases h1:k=1
 · refine fin 161 (by subst h1;rfl) ?_
   clear fin;subst h1;go_enter Tryz.func132,Tryz.ntmps132;go_wp2_with fail
   go_ret;exact⟨rfl,rfl⟩
 by_cases h2:k=2
 · refine fin 162 (by subst h2;rfl) ?_
   clear fin;subst h2;go_enter Tryz.func132,Tryz.ntmps132;go_wp2_with fail
   go_ret;exact⟨rfl,rfl⟩
 by_cases h3:k=3
 · refine fin 163 (by subst h3;rfl) ?_
   clear fin;subst h3;go_enter Tryz.func132,Tryz.ntmps132;go_wp2_with fail
   go_ret;exact⟨rfl,rfl⟩
 by_cases h4:k=4
 · refine fin 164 (by subst h4;rfl) ?_
   clear fin;subst h4;go_enter Tryz.func132,Tryz.ntmps132;go_wp2_with fail
   go_ret;exact⟨rfl,rfl⟩
 by_cases h5:k=5
 · refine fin 165 (by subst h5;rfl) ?_
   clear fin;subst h5;go_enter Tryz.func132,Tryz.ntmps132;go_wp2_with fail
   go_ret;exact⟨rfl,rfl⟩
 by_cases h6:k=6
 · refine fin 166 (by subst h6;rfl) ?_
   clear fin;subst h6;go_enter Tryz.func132,Tryz.ntmps132;go_wp2_with fail
   go_ret;exact⟨rfl,rfl⟩
 by_cases h7:k=7
 · refine fin 167 (by subst h7;rfl) ?_
   clear fin;subst h7;go_enter Tryz.func132,Tryz.ntmps132;go_wp2_with fail
   go_ret;exact⟨rfl,rfl⟩
 by_cases h8:k=8
 · refine fin 168 (by subst h8;rfl) ?_
   clear fin;subst h8;go_enter Tryz.func132,Tryz.ntmps132;go_wp2_with fail
   go_ret;exact⟨rfl,rfl⟩
 refine fin 169 (by unfold ll;rw[if_neg h1,if_neg h2,if_neg h3,if_neg h4,if_neg h5,if_neg h6,if_neg h7,if_neg h8]) ?_;have e1:(k == 1)=false:=beq_eq_false_iff_ne.2 h1;have e2:(k == 2)=false:=beq_eq_false_iff_ne.2 h2;have e3:(k == 3)=false:=beq_eq_false_iff_ne.2 h3;have e4:(k == 4)=false:=beq_eq_false_iff_ne.2 h4;have e5:(k == 5)=false:=beq_eq_false_iff_ne.2 h5;have e6:(k == 6)=false:=beq_eq_false_iff_ne.2 h6;have e7:(k == 7)=false:=beq_eq_false_iff_ne.2 h7;have e8:(k == 8)=false:=beq_eq_false_iff_ne.2 h8;clear fin h1 h2 h3 h4 h5 h6 h7 h8;go_enter Tryz.func132,Tryz.ntmps132;go_wp2_with fail
 go_ret;exact⟨rfl,rfl⟩
theorem dC.below {w w':World}{b:Nat}{nv:Value}{st:List av}{txt:List Int}(h:dC w b nv st txt)(hb:Below w.heap.size w w'):dC w' b nv st txt:=by
 obtain⟨wv,h1,h2⟩:=h;exact⟨wv,h1.below hb,h2.below hb (ag _)⟩
theorem dC.wrote {w w':World}{b:Nat}{nv wv:Value}{st:List av}{txt:List Int}(h:Own nM 139 w (b+1) wv st)(hs:j5 w' b nv wv txt)(hf:gF w w' b):dC w' b nv st txt :=
 ⟨wv,hs,Own.keep h fun g h1 h2 h3=>hf.block g h2 (by omega) (.inr fun cur fr e=>by
  obtain⟨-, -,Vz,hc⟩:=Own.jB h g h3;rw[hc]at e;injection e with e;injection e with _ e2;exact absurd e2 (by decide))⟩
def Wrote (w:World)(b:Nat)(nv:Value)(st:List av)(txt:List Int)(n:Nd)(e:Ending)(w':World):Prop :=
 e = .returned (.tuple #[])∧dC w' b nv (st++(dR n).2.reverse) (txt++(dR n).1)∧aZ w w' b
theorem Wrote.of {w w1 w2:World}{b:Nat}{nv wv:Value}{st:List av}{txt RF:List Int}{n:Nd}(hb:Below w.heap.size w w1)(h:Own nM 139 w1 (b+1) wv st)(hs:j5 w2 b nv wv RF)(hf:gF w1 w2 b)(h1:(dR n).2=[])(h2:RF=txt++(dR n).1):Wrote w b nv st txt n (.returned (.tuple #[])) w2:=by
 refine⟨rfl, ?_,(aZ.gJ hb).trans (aZ.rD hf)⟩;rw[h1, ← h2,List.reverse_nil,fu];exact dC.wrote h hs hf
theorem VE (w:World)(b:Nat)(nv:Value)(st:List av)(txt:List Int)(n:Nd)(A:Option Addr)(m c:Nat)(h:dC w b nv st txt)(hk:n.kind=4)(hl:txt.length≤1000000000) :
 Calls Tryz.prog 164 #[.pointer (some ⟨b,0,none⟩),.agg #[.int .i64 n.kind,.int .i64 n.num,.string n.text,.string n.ref.sh,.int .i64 n.ref.c,.int .i64 n.ref.r,.bool n.ref.ac,.bool n.ref.ar,.string n.ae.sh,.int .i64 n.ae.c,.int .i64 n.ae.r,.bool n.ae.ac,.bool n.ae.ar,.slice A m c]] w (Wrote w b nv st txt n):=by
 have hB:Below w.heap.size w (w.alloc (.cells #[.int .i64 n.kind,.int .i64 n.num,.string n.text,.string n.ref.sh,.int .i64 n.ref.c,.int .i64 n.ref.r,.bool n.ref.ac,.bool n.ref.ar,.string n.ae.sh,.int .i64 n.ae.c,.int .i64 n.ae.r,.bool n.ae.ac,.bool n.ae.ar,.slice A m c] 48)):=(ai _ _).alloc (ag _) _;have hs:dR n=([35,82,69,70,33],[]):=by unfold dR;rw[if_neg (by omega),if_neg (by omega),if_neg (by omega),if_pos hk]
 have HS:=aa hs;have HB:=aa hB;obtain⟨wv,h1,h2⟩:=h.below hB;have HO:=aa h2;have HW:=aa (qN _ b nv wv txt ⟨#[35,82,69,70,33]⟩ h1 (by show txt.length+5≤_;omega));clear h h1 h2 hB hs hk;go_enter Tryz.func164,Tryz.ntmps164;go_wp2_with (go_at_call 129;((with_reducible refine HW.o.mono ?_);rintro e w2 ⟨⟨x,rfl⟩,h3,h4⟩;have H3:=aa h3;have H4:=aa h4;clear h3 h4))
 go_end0;exact Wrote.of HB.o HO.o H3.o H4.o (by rw[HS.o]) (by rw[HS.o,show sb ⟨#[35,82,69,70,33]⟩=[35,82,69,70,33]by decide])
theorem aes (w:World)(b:Nat)(nv:Value)(st:List av)(txt:List Int)(n:Nd)(A:Option Addr)(m c:Nat)(h:dC w b nv st txt)(hk:n.kind=3)(hv:n.num=1)(hl:txt.length≤1000000000) :
 Calls Tryz.prog 163 #[.pointer (some ⟨b,0,none⟩),.agg #[.int .i64 n.kind,.int .i64 n.num,.string n.text,.string n.ref.sh,.int .i64 n.ref.c,.int .i64 n.ref.r,.bool n.ref.ac,.bool n.ref.ar,.string n.ae.sh,.int .i64 n.ae.c,.int .i64 n.ae.r,.bool n.ae.ac,.bool n.ae.ar,.slice A m c]] w (Wrote w b nv st txt n):=by
 have hB:Below w.heap.size w (w.alloc (.cells #[.int .i64 n.kind,.int .i64 n.num,.string n.text,.string n.ref.sh,.int .i64 n.ref.c,.int .i64 n.ref.r,.bool n.ref.ac,.bool n.ref.ar,.string n.ae.sh,.int .i64 n.ae.c,.int .i64 n.ae.r,.bool n.ae.ac,.bool n.ae.ar,.slice A m c] 48)):=(ai _ _).alloc (ag _) _;have hs:dR n=([84,82,85,69],[]):=by unfold dR;rw[if_neg (by omega),if_neg (by omega),if_pos hk,if_pos hv]
 have HS:=aa hs;have HB:=aa hB;obtain⟨wv,h1,h2⟩:=h.below hB;have HO:=aa h2;have HW:=aa (qN _ b nv wv txt ⟨#[84,82,85,69]⟩ h1 (by show txt.length+4≤_;omega));have g1:(n.num == 1)=true:=beq_iff_eq.2 hv;clear h h1 h2 hB hs hk hv;go_enter Tryz.func163,Tryz.ntmps163;go_wp2_with (go_at_call 129;((with_reducible refine HW.o.mono ?_);rintro e w2 ⟨⟨x,rfl⟩,h3,h4⟩;have H3:=aa h3;have H4:=aa h4;clear h3 h4))
 go_end0;exact Wrote.of HB.o HO.o H3.o H4.o (by rw[HS.o]) (by rw[HS.o,show sb ⟨#[84,82,85,69]⟩=[84,82,85,69]by decide])
theorem aer (w:World)(b:Nat)(nv:Value)(st:List av)(txt:List Int)(n:Nd)(A:Option Addr)(m c:Nat)(h:dC w b nv st txt)(hk:n.kind=3)(hv:¬ n.num=1)(hl:txt.length≤1000000000) :
 Calls Tryz.prog 163 #[.pointer (some ⟨b,0,none⟩),.agg #[.int .i64 n.kind,.int .i64 n.num,.string n.text,.string n.ref.sh,.int .i64 n.ref.c,.int .i64 n.ref.r,.bool n.ref.ac,.bool n.ref.ar,.string n.ae.sh,.int .i64 n.ae.c,.int .i64 n.ae.r,.bool n.ae.ac,.bool n.ae.ar,.slice A m c]] w (Wrote w b nv st txt n):=by
 have hB:Below w.heap.size w (w.alloc (.cells #[.int .i64 n.kind,.int .i64 n.num,.string n.text,.string n.ref.sh,.int .i64 n.ref.c,.int .i64 n.ref.r,.bool n.ref.ac,.bool n.ref.ar,.string n.ae.sh,.int .i64 n.ae.c,.int .i64 n.ae.r,.bool n.ae.ac,.bool n.ae.ar,.slice A m c] 48)):=(ai _ _).alloc (ag _) _;have hs:dR n=([70,65,76,83,69],[]):=by unfold dR;rw[if_neg (by omega),if_neg (by omega),if_pos hk,if_neg hv]
 have HS:=aa hs;have HB:=aa hB;obtain⟨wv,h1,h2⟩:=h.below hB;have HO:=aa h2;have HW:=aa (qN _ b nv wv txt ⟨#[70,65,76,83,69]⟩ h1 (by show txt.length+5≤_;omega));have g1:(n.num == 1)=false:=beq_eq_false_iff_ne.2 hv;clear h h1 h2 hB hs hk hv;go_enter Tryz.func163,Tryz.ntmps163;go_wp2_with (go_at_call 129;((with_reducible refine HW.o.mono ?_);rintro e w2 ⟨⟨x,rfl⟩,h3,h4⟩;have H3:=aa h3;have H4:=aa h4;clear h3 h4))
 go_end0;exact Wrote.of HB.o HO.o H3.o H4.o (by rw[HS.o]) (by rw[HS.o,show sb ⟨#[70,65,76,83,69]⟩=[70,65,76,83,69]by decide])
theorem Vt (n:Int)(_h0 : -9223372036854775808≤n)(_h1:n≤9223372036854775807)(w:World) :
 Calls Tryz.prog 222 #[.int .i64 n] w fun e w'=>e = .returned (.string (strOfNums (aS n)))∧w=w':=by
 by_cases hr:n<0∨701<n
 · have hc:aS n=[]:=by unfold aS;rw[if_pos hr]
   have HC:=aa hc;clear hc;go_enter Tryz.func222,Tryz.ntmps222
   go_wp2
   all_goals first|omega|skip
   all_goals go_ret
   all_goals exact⟨by rw[HC.o];rfl,rfl⟩
 · have h0:¬ n<0:=by omega
   have h2:¬ 701<n:=by omega
   have h0':0≤n:=by omega
   have he:=MQ (65+n % 26) (by omega) (by omega);have HE:=aa he;clear he;by_cases BN:n<26
   · have hc:aS n=[65+n % 26]:=by unfold aS;rw[if_neg hr,if_pos BN];congr 1;omega
     have HC:=aa hc;clear hc hr;go_enter Tryz.func222,Tryz.ntmps222;go_wp2_with fail
     all_goals go_ret
     all_goals exact⟨by rw[HC.o, ← HE.o];rfl,rfl⟩
   · have hc:aS n=[65+n / 26 - 1]++[65+n % 26]:=by unfold aS;rw[if_neg hr,if_neg BN];show [64+n / 26,65+n % 26]=[65+n / 26 - 1,65+n % 26];congr 1;omega
     have he2:=MQ (65+n / 26 - 1) (by omega) (by omega);have hz:(Utf8.encode (65+n / 26 - 1)).size+(Utf8.encode (65+n % 26)).size≤8:=by rw[he2,HE.o,strOfNums_size,strOfNums_size];simp
     have HE2:=aa he2;clear he2;have HC:=aa hc;clear hc hr;go_enter Tryz.func222,Tryz.ntmps222;go_wp2_with fail
     all_goals go_ret
     all_goals exact⟨iQ (by rw[HC.o];exact adA _ _ _ _ HE2.o HE.o),rfl⟩
theorem abb{w:World}{b:Nat}{s:ByteArray}{c r:Int}{ac ar:Bool}(h:bV w b s c r ac ar):bV w.drew b s c r ac ar:=h
theorem jN.drew{w:World}(h:jN w):jN w.drew:=h
theorem UK{w w':World}(h:Below w.drew.heap.size w.drew w'):Below w.heap.size w w':=⟨h.os,h.tape,h.output,h.size,h.block⟩
theorem Ya {x:Int}{k:Nat}(h:x=(k:Int))(h1:k≤9223372036854775807)(w:World)(ht:jN w) :
 Calls Tryz.prog 105 #[.int .i64 x] w fun e w'=>e = .returned (.string (strOfNums (aF k)))∧Below w.heap.size w w':=by subst h;exact IK k h1 w ht
theorem ady{w:World}{base:Nat}{v:Value}{xs:List Int}{t:ByteArray}(e:strOfNums xs=t)(h:oz w base v xs):(convert 22 9 v).run Tryz.prog w = .ok (.string t) w:=by rw[← e];exact Aw h
theorem acx(c:Int):sb (strOfNums (aS c))=aS c:=gK _ (Mo c)
def rE(s:ByteArray):List Int:=if s.size=0 then []else sb s++[33]
def tY(b:Bool):List Int:=if b=true then [36]else []
theorem YN(s:ByteArray):(rE s).length≤s.size+1:=by unfold rE;split <;> simp[bC]
theorem OT(b:Bool):(tY b).length≤1:=by cases b <;> decide
theorem ad1 (s:ByteArray)(c r:Int)(k:Nat)(ac ar:Bool)(w:World)(htab:jN w)(_hs:s.size≤1000000)(hm:dn (sb s) c r=true)(hc0:0≤c)(hc1:c≤701)(hr0:0≤r)(hr1:r≤998)(hk:r+1=(k:Int))(hz1:(strOfNums (aS c)).size≤2)(hz2:(strOfNums (aF k)).size≤1000) :
 Calls Tryz.prog 195 #[.agg #[.string s,.int .i64 c,.int .i64 r,.bool ac,.bool ar]] w fun e w'=>e = .returned (.string (strOfNums (aO (sb s) c r ac ar)))∧Below w.heap.size w w':=by
 have hk2:(r+1).toNat=k:=by omega
 have hp1:=YN s;have hp2:=OT ac;have hp3:=OT ar
 have ht:(((rE s++tY ac)++sb (strOfNums (aS c)))++tY ar)++aF k=aO (sb s) c r ac ar:=by
  unfold aO rE tY;rw[if_pos hm,hk2,acx];by_cases h0:s.size=0
  · have he:sb s=[]:=l5 (by rw[bC];exact h0)
    rw[if_pos h0,if_pos he] <;> cases ac <;> cases ar <;> simp
  · have he:¬ sb s=[]:=fun h=>by have:=bC s;rw[h]at this;exact h0 this.symm
    rw[if_neg h0,if_neg he] <;> cases ac <;> cases ar <;> simp
 have HT:=aa ht;clear ht hk2;obtain⟨tt,xe⟩:∃t,strOfNums (((rE s++tY ac)++sb (strOfNums (aS c)))++tY ar)=t:=⟨_,rfl⟩;have XV:tt.size≤1000100:=by rw[← xe,strOfNums_size];simp only[aj,bC];omega
 have BB:=aa xe;clear xe;have Tz:=aa (show ¬ 9223372036854775807<tt.size+(strOfNums (aF k)).size by omega);have hR0:=bV.new w s c r ac ar;have gG:=aa hR0;clear hR0;have H0:=aa ((ai w.heap.size w).alloc (ag _) (.cells #[.string s,.int .i64 c,.int .i64 r,.bool ac,.bool ar] 45));have sj:=aa htab;clear htab;have Ij:k≤999:=by omega
 have hwr:IntKind.i64.wrap (r+1)=r+1:=by rw[dK];omega
 have HK:=aa hk;clear hk;go_enter Tryz.func195,Tryz.ntmps195;go_upto_region 4 with (go_at_call 119;((with_reducible refine(Cq _ _ _ _ _ _ ?_).mono ?_);(first|omega|skip);rintro e w1 ⟨rfl,h1⟩;have HR1:=aa (gG.o.below h1 gG.o.lt);have HO:=aa (Own.nil (bT .u8) 5 w1 w1.heap.size);have HB:=aa (ai w1.heap.size w1);have H1:=aa h1;clear h1))
 obtain⟨x0,x1,x2,x3,x4⟩:=HR1.o.facts;go_upto_if 9 with (fail)
 go_cut [3]from 4 (fun bv wx=>∃(v:Value)(kC:World),v=bv∧kC=wx∧Hid (Own (bT .u8) 5 kC w1.heap.size v (rE s))∧Hid (Below w1.heap.size w1 kC))
 case first =>
  by_cases h0:s.size=0
  · have hp:rE s=[]:=if_pos h0
    have oZ:=aa hp;have hl1:s.toList.isEmpty=true:=by rw[rJ s h0,show(⟨#[]⟩:ByteArray).toList=[]by rw[oI]];rfl
    simp only[hl1,Bool.not_true];clear h0 hp hl1;go_wp2_with fail
    go_meet
    case rel=>exact⟨_,_,rfl,rfl,aa (by rw[oZ.o];exact HO.o),HB⟩
  · have hp:rE s=([]++sb s)++[33]:=if_neg h0
    have oZ:=aa hp;have hne:=p8 s h0;have hne2:s.toList.isEmpty=false:=by cases hq:s.toList with|nil=>exact absurd hq hne|cons a l=>rfl
    simp only[hne2,Bool.not_false];clear h0 hp
    go_wp2_with (first
     | (at_builtin;refine RN Elem.u8 (bT .u8) rfl (.tmp 10) (.tmp 12) rfl w1.heap.size _ _ rfl HO.o (.string s) s.size (sb s) rfl (bC s) (Fp s) ?_ ?_ ?_ ?_;(simp only[dY];omega);(simp only[dY];unfold maxLen;omega);exact HB.o.size;intro v3 w3 h1 h2;have HO:=aa h1;clear h1;have HB:=aa (HB.o.trans h2);clear h2;clear x0 x1 x2 x3 x4;obtain⟨x0,x1,x2,x3,x4⟩:=(HR1.o.below (HB.o) HR1.o.lt).facts)
     | (at_builtin;refine mH Elem.u8 (bT .u8) rfl (.tmp 13) (.tmp 14) rfl w1.heap.size _ _ rfl (HO.o.alloc _) ⟨_,0,none⟩ 1 1 [33] rfl rfl ?_ ?_ ?_ ?_ ?_;exact fZ _ _ _ rfl;(simp only[dY,aj,bC];omega);(simp only[dY,aj,bC];unfold maxLen;omega);(have:=HB.o.size;simp <;> omega);intro v3 w3 h1 h2;have HO:=aa h1;clear h1;have HB:=aa ((HB.o.alloc HB.o.size _).trans h2);clear h2;clear x0 x1 x2 x3 x4;obtain⟨x0,x1,x2,x3,x4⟩:=(HR1.o.below (HB.o) HR1.o.lt).facts))
    go_meet
    case rel=>exact⟨_,_,rfl,rfl,aa (by rw[oZ.o];exact HO.o),HB⟩
 case rest =>
 obtain⟨v1,w2,rfl,rfl,HO,HB⟩:=hcut;clear x0 x1 x2 x3 x4;obtain⟨x0,x1,x2,x3,x4⟩:=(HR1.o.below HB.o HR1.o.lt).facts;go_upto_if 17 with (fail)
 go_cut [3]from 4 (fun bv wx=>∃(v:Value)(kC:World),v=bv∧kC=wx∧Hid (Own (bT .u8) 5 kC w1.heap.size v (rE s++tY ac))∧Hid (Below w1.heap.size w1 kC))
 case first =>
  cases ac
  · go_wp2_with fail
    go_meet
    case rel=>exact⟨_,_,rfl,rfl,by rw[show rE s++tY false=rE s from fu _];exact HO,HB⟩
  · go_wp2_with ((at_builtin;refine mH Elem.u8 (bT .u8) rfl (.tmp 18) (.tmp 19) rfl w1.heap.size _ _ rfl (HO.o.alloc _) ⟨_,0,none⟩ 1 1 [36] rfl rfl ?_ ?_ ?_ ?_ ?_;exact fZ _ _ _ rfl;omega;(unfold maxLen;omega);(have:=HB.o.size;simp <;> omega);intro v3 w3 h1 h2;have HO:=aa h1;clear h1;have HB:=aa ((HB.o.alloc HB.o.size _).trans h2);clear h2;clear x0 x1 x2 x3 x4;obtain⟨x0,x1,x2,x3,x4⟩:=(HR1.o.below (HB.o) HR1.o.lt).facts))
    go_meet
    case rel=>exact⟨_,_,rfl,rfl,HO,HB⟩
 case rest =>
 obtain⟨v2,w3,rfl,rfl,HO,HB⟩:=hcut;clear x0 x1 x2 x3 x4;obtain⟨x0,x1,x2,x3,x4⟩:=(HR1.o.below HB.o HR1.o.lt).facts
 go_upto_if 27 with (first
  | (go_at_call 222;((with_reducible refine(Vt _ ?_ ?_ _).mono ?_);(first|omega|skip);(first|omega|skip);rintro e w2 ⟨rfl,rfl⟩))
  | (at_builtin;refine RN Elem.u8 (bT .u8) rfl (.tmp 21) (.tmp 24) rfl w1.heap.size _ _ rfl HO.o (.string (strOfNums (aS c))) (strOfNums (aS c)).size (sb (strOfNums (aS c))) rfl (bC (strOfNums (aS c))) (Fp (strOfNums (aS c))) ?_ ?_ ?_ ?_;(simp only[aj];omega);(simp only[aj];unfold maxLen;omega);exact HB.o.size;intro v3 w3 h1 h2;have HO:=aa h1;clear h1;have HB:=aa (HB.o.trans h2);clear h2;clear x0 x1 x2 x3 x4;obtain⟨x0,x1,x2,x3,x4⟩:=(HR1.o.below (HB.o) HR1.o.lt).facts))
 go_cut [3]from 4 (fun bv wx=>∃(v:Value)(kC:World),v=bv∧kC=wx∧Hid (Own (bT .u8) 5 kC w1.heap.size v (((rE s++tY ac)++sb (strOfNums (aS c)))++tY ar))∧Hid (Below w1.heap.size w1 kC))
 case first =>
  cases ar
  · go_wp2_with fail
    go_meet
    case rel=>exact⟨_,_,rfl,rfl,by rw[show ∀l:List Int,l++tY false=l from fu];exact HO,HB⟩
  · go_wp2_with ((at_builtin;refine mH Elem.u8 (bT .u8) rfl (.tmp 28) (.tmp 29) rfl w1.heap.size _ _ rfl (HO.o.alloc _) ⟨_,0,none⟩ 1 1 [36] rfl rfl ?_ ?_ ?_ ?_ ?_;exact fZ _ _ _ rfl;(simp only[aj,bC];omega);(simp only[aj,bC];unfold maxLen;omega);(have:=HB.o.size;simp <;> omega);intro v3 w3 h1 h2;have HO:=aa h1;clear h1;have HB:=aa ((HB.o.alloc HB.o.size _).trans h2);clear h2;clear x0 x1 x2 x3 x4;obtain⟨x0,x1,x2,x3,x4⟩:=(HR1.o.below (HB.o) HR1.o.lt).facts))
    go_meet
    case rel=>exact⟨_,_,rfl,rfl,HO,HB⟩
 case rest =>
 obtain⟨v3,w4,rfl,rfl,HO,HB⟩:=hcut;clear x0 x1 x2 x3 x4;obtain⟨x0,x1,x2,x3,x4⟩:=(HR1.o.below HB.o HR1.o.lt).facts;go_upto_region 11 with (fail)
 refine Yn (by kernel_rfl) ?_;show wpAnyH _ _ _ _ _ 8 #[false,false,false,false,false,false,false,false] _ _;refine yP 0 ?_;refine yP 1 ?_ (hy:=by(intro lC hSw;have hz:=(fun W (hW:Below _ _ W)=>ady BB.o (Own.below (Own.drew HO.o) hW (ag _))) lC hSw;go_simp;try(with_reducible rfl)));refine yP 2 ?_;refine yP 3 ?_ (hy:=by(intro lC hSw;have hz:=(fun W (hW:Below _ _ W)=>((abb (HR1.o.below HB.o HR1.o.lt)).below hW (eU HR1.o.lt HB.o.size)).facts) lC hSw;go_simp;try(with_reducible rfl)));refine yP 4 ?_;refine Yc 5 (fun K hK => ?_);go_simp;refine(Ya HK.o (by omega) _ (jN.drew (((sj.o.below H0.o).below H1.o).below HB.o))).mono ?_;rintro e w4 ⟨rfl,hstep⟩;have bG:=aa (UK hstep);go_wp2_with fail
 refine hK.o _ _ hstep hstep.size ?_;clear hK K;simp only[Act.put,sT,iT,iR];refine yP 6 ?_ (hy:=by(intro lC hSw;have hz:=(fun (_:World)(_:Below _ _ _)=>Tz.o) lC hSw;go_simp;try(with_reducible rfl)));refine yP 7 ?_;refine wpAnyH_done (by kernel_rfl) ?_ _;go_wp2_with fail
 go_ret;exact⟨iQ (by rw[← BB.o];exact(gq _ _).trans (congrArg strOfNums HT.o)),vF H0.o H1.o HB.o bG.o⟩
theorem Ke (s:ByteArray)(c r:Int)(ac ar:Bool)(w:World)(htab:jN w)(_hs:s.size≤1000000) :
 Calls Tryz.prog 195 #[.agg #[.string s,.int .i64 c,.int .i64 r,.bool ac,.bool ar]] w fun e w'=>e = .returned (.string (strOfNums (aO (sb s) c r ac ar)))∧Below w.heap.size w w':=by
 by_cases hm:dn (sb s) c r=true
 · obtain⟨hc0,hc1,hr0,hr1⟩:=Po hm
   have hl1:=OU c;obtain⟨k,hk⟩:∃k:Nat,r+1=(k:Int):=⟨(r+1).toNat,by omega⟩;have hl2:=OV k;have hz1:(strOfNums (aS c)).size≤2:=by rw[strOfNums_size];exact hl1
   have hz2:(strOfNums (aF k)).size≤1000:=by rw[strOfNums_size];omega
   exact ad1 s c r k ac ar w htab _hs hm hc0 hc1 hr0 hr1 hk hz1 hz2
 · have hm':dn (sb s) c r=false:=by simpa using hm
   have ht:aO (sb s) c r ac ar=[]:=by unfold aO;rw[if_neg hm]
   have HT:=aa ht;clear ht hm htab;go_enter Tryz.func195,Tryz.ntmps195
   go_wp2_with (first
    | (go_at_call 119;((with_reducible refine(Cq _ _ _ _ _ _ ?_).mono ?_);(first|omega|skip);rintro e w1 ⟨rfl,h1⟩;have H1:=aa h1;clear h1)))
   go_ret;exact⟨by rw[HT.o];rfl,((ai _ _).alloc (ag _) _).trans (H1.o.mono ((ai _ _).alloc (ag _) _).size)⟩
theorem Z6 (w:World)(b:Nat)(nv:Value)(st:List av)(txt:List Int)(n:Nd)(A:Option Addr)(m c:Nat)(h:dC w b nv st txt)(hk:n.kind=1)(u:Nat)(hu:n.num=(u:Int))(IB:u≤9223372036854775807)(htab:jN w)(hl:txt.length≤1000000000) :
 Calls Tryz.prog 161 #[.pointer (some ⟨b,0,none⟩),.agg #[.int .i64 n.kind,.int .i64 n.num,.string n.text,.string n.ref.sh,.int .i64 n.ref.c,.int .i64 n.ref.r,.bool n.ref.ac,.bool n.ref.ar,.string n.ae.sh,.int .i64 n.ae.c,.int .i64 n.ae.r,.bool n.ae.ac,.bool n.ae.ar,.slice A m c]] w (Wrote w b nv st txt n):=by
 have hB:Below w.heap.size w (w.alloc (.cells #[.int .i64 n.kind,.int .i64 n.num,.string n.text,.string n.ref.sh,.int .i64 n.ref.c,.int .i64 n.ref.r,.bool n.ref.ac,.bool n.ref.ar,.string n.ae.sh,.int .i64 n.ae.c,.int .i64 n.ae.r,.bool n.ae.ac,.bool n.ae.ar,.slice A m c] 48)):=(ai _ _).alloc (ag _) _;have HN:aH (w.alloc (.cells #[.int .i64 n.kind,.int .i64 n.num,.string n.text,.string n.ref.sh,.int .i64 n.ref.c,.int .i64 n.ref.r,.bool n.ref.ac,.bool n.ref.ar,.string n.ae.sh,.int .i64 n.ae.c,.int .i64 n.ae.r,.bool n.ae.ac,.bool n.ae.ar,.slice A m c] 48)) w.heap.size n (.slice A m c):=aH.new w n _;have hs:dR n=(aF u,[]):=by unfold dR;rw[if_pos hk,hu];rfl
 have hdl:=D9 18 u (by omega);have hbw:b<w.heap.size:=by obtain⟨wv,h1, -⟩:=h;exact h1.lt
 have HS:=aa hs;have HB:=aa hB;obtain⟨wv,h1,h2⟩:=h.below hB;have sj:=aa (htab.below hB);have Sk:=aa hu;clear h hs hk htab hB hu;go_enter Tryz.func161,Tryz.ntmps161;go_upto_region 1 with (fail)
 generalize hz:w.heap.size=z at HN ⊢;generalize w.alloc (.cells #[.int .i64 n.kind,.int .i64 n.num,.string n.text,.string n.ref.sh,.int .i64 n.ref.c,.int .i64 n.ref.r,.bool n.ref.ac,.bool n.ref.ar,.string n.ae.sh,.int .i64 n.ae.c,.int .i64 n.ae.r,.bool n.ae.ac,.bool n.ae.ar,.slice A m c] 48)=w1 at HN HB sj h1 h2 ⊢;have x1:=HN.cells.2.1;rw[Sk.o]at x1;have hzl:=HN.lt;have hzb:z≠b:=by omega
 have ed:=aa HN;have HI:=aa (fun wr (hr:Below w1.heap.size w1 wr)=>IK u IB wr (sj.o.below hr));have HW:=aa (fun wr (hr:Below w1.heap.size w1 wr)=>qN wr b nv wv txt (strOfNums (aF u)) (h1.below hr) (by rw[strOfNums_size];omega));have HO:=aa h2;clear hz h1 h2 HN hdl;have H1:=aa ((ai w1.heap.size w1).drew)
 go_region_held3 (fun w'=>w'.cell? ⟨z,1,none⟩=some (.int .i64 (u:Int))) (go_keep) (first
  | (go_at_call 105;((with_reducible refine(HI.o _ H1.o).mono ?_);rintro e w3 ⟨rfl,h3⟩;have H3:=aa (H1.o.trans (h3.mono H1.o.size));have y1:=(H3.o.cell (p:=⟨z,1,none⟩) hzl).trans x1;clear h3))
  | (go_at_call 129;((with_reducible refine(HW.o _ H3.o).mono ?_);rintro e w4 ⟨⟨x,rfl⟩,h3,h4⟩;have su:=aa h3;have HF:=aa h4;have z1:w4.cell? ⟨z,1,none⟩=some (.int .i64 (u:Int)):=(fI (a:=⟨z,1,none⟩) (HF.o.block z (eU hzl H3.o.size) hzb (.inr fun cur fr e=>by
      have h5:=H3.o.block z hzl;have h6:w1.heap[z]? = some (.cells (fH n (.slice A m c)) 48):=ed.o;rw[h5,h6]at e;injection e with e;injection e with _ e2;exact absurd e2 (by decide)))).trans y1;clear h3 h4)))
 all_goals go_wp2_with fail
 all_goals go_end0
 all_goals exact Wrote.of (HB.o.trans (H3.o.mono HB.o.size)) (HO.o.below H3.o (ag _)) su.o HF.o (by rw[HS.o]) (by rw[HS.o,show sb (strOfNums (aF u))=aF u from gK _ (fun x hx=>by have:=iL (rA u x hx);omega)])
theorem aaB (w:World)(b:Nat)(nv:Value)(st:List av)(txt:List Int)(n:Nd)(A:Option Addr)(m c:Nat)(h:dC w b nv st txt)(hk:n.kind=5)(hz:n.ref.sh.size≤1000000)(htab:jN w)(hl:txt.length≤1000000000) :
 Calls Tryz.prog 165 #[.pointer (some ⟨b,0,none⟩),.agg #[.int .i64 n.kind,.int .i64 n.num,.string n.text,.string n.ref.sh,.int .i64 n.ref.c,.int .i64 n.ref.r,.bool n.ref.ac,.bool n.ref.ar,.string n.ae.sh,.int .i64 n.ae.c,.int .i64 n.ae.r,.bool n.ae.ac,.bool n.ae.ar,.slice A m c]] w (Wrote w b nv st txt n):=by
 have hB:Below w.heap.size w (w.alloc (.cells #[.int .i64 n.kind,.int .i64 n.num,.string n.text,.string n.ref.sh,.int .i64 n.ref.c,.int .i64 n.ref.r,.bool n.ref.ac,.bool n.ref.ar,.string n.ae.sh,.int .i64 n.ae.c,.int .i64 n.ae.r,.bool n.ae.ac,.bool n.ae.ar,.slice A m c] 48)):=(ai _ _).alloc (ag _) _;have HN:aH (w.alloc (.cells #[.int .i64 n.kind,.int .i64 n.num,.string n.text,.string n.ref.sh,.int .i64 n.ref.c,.int .i64 n.ref.r,.bool n.ref.ac,.bool n.ref.ar,.string n.ae.sh,.int .i64 n.ae.c,.int .i64 n.ae.r,.bool n.ae.ac,.bool n.ae.ar,.slice A m c] 48)) w.heap.size n (.slice A m c):=aH.new w n _;have hs:dR n=(aO (sb n.ref.sh) n.ref.c n.ref.r n.ref.ac n.ref.ar,[]):=by unfold dR;rw[if_neg (by omega),if_neg (by omega),if_neg (by omega),if_neg (by omega),if_pos hk]
 have hdl:=CU (sb n.ref.sh) n.ref.c n.ref.r n.ref.ac n.ref.ar;rw[bC]at hdl;have hbw:b<w.heap.size:=by obtain⟨wv,h1, -⟩:=h;exact h1.lt
 have HS:=aa hs;have HB:=aa hB;obtain⟨wv,h1,h2⟩:=h.below hB;have sj:=aa (htab.below hB);clear h hs hk htab hB;go_enter Tryz.func165,Tryz.ntmps165;go_upto_region 1 with (fail)
 generalize hzz:w.heap.size=z at HN ⊢;generalize w.alloc (.cells #[.int .i64 n.kind,.int .i64 n.num,.string n.text,.string n.ref.sh,.int .i64 n.ref.c,.int .i64 n.ref.r,.bool n.ref.ac,.bool n.ref.ar,.string n.ae.sh,.int .i64 n.ae.c,.int .i64 n.ae.r,.bool n.ae.ac,.bool n.ae.ar,.slice A m c] 48)=w1 at HN HB sj h1 h2 ⊢;obtain⟨-, -, -,x3,x4,x5,x6,x7, -⟩:=HN.cells;have hzl:=HN.lt;have hzb:z≠b:=by omega
 have ed:=aa HN;have HI:=aa (fun wr (hr:Below w1.heap.size w1 wr)=>Ke n.ref.sh n.ref.c n.ref.r n.ref.ac n.ref.ar wr (sj.o.below hr) hz);have HW:=aa (fun wr (hr:Below w1.heap.size w1 wr)=>qN wr b nv wv txt (strOfNums (aO (sb n.ref.sh) n.ref.c n.ref.r n.ref.ac n.ref.ar)) (h1.below hr) (by rw[strOfNums_size];omega));have HO:=aa h2;clear hzz h1 h2 HN hdl;have H1:=aa ((ai w1.heap.size w1).drew)
 go_region_held3 (fun w'=>w'.cell? ⟨z,3,none⟩=some (.string n.ref.sh)∧w'.cell? ⟨z,4,none⟩=some (.int .i64 n.ref.c)∧w'.cell? ⟨z,5,none⟩=some (.int .i64 n.ref.r)∧w'.cell? ⟨z,6,none⟩=some (.bool n.ref.ac)∧w'.cell? ⟨z,7,none⟩=some (.bool n.ref.ar)) (go_keep) (first
  | (go_at_call 195;((with_reducible refine(HI.o _ H1.o).mono ?_);rintro e w3 ⟨rfl,h3⟩;have H3:=aa (H1.o.trans (h3.mono H1.o.size));have y3:=(H3.o.cell (p:=⟨z,3,none⟩) hzl).trans x3;have y4:=(H3.o.cell (p:=⟨z,4,none⟩) hzl).trans x4;have kQ:=(H3.o.cell (p:=⟨z,5,none⟩) hzl).trans x5;have y6:=(H3.o.cell (p:=⟨z,6,none⟩) hzl).trans x6;have lF:=(H3.o.cell (p:=⟨z,7,none⟩) hzl).trans x7;clear h3))
  | (go_at_call 129;((with_reducible refine(HW.o _ H3.o).mono ?_);rintro e w4 ⟨⟨x,rfl⟩,h3,h4⟩;have su:=aa h3;have HF:=aa h4;have iy:=HF.o.block z (eU hzl H3.o.size) hzb (.inr fun cur fr e=>by
      have h5:=H3.o.block z hzl;have h6:w1.heap[z]? = some (.cells (fH n (.slice A m c)) 48):=ed.o;rw[h5,h6]at e;injection e with e;injection e with _ e2;exact absurd e2 (by decide));have z3:=(fI (a:=⟨z,3,none⟩) iy).trans y3;have z4:=(fI (a:=⟨z,4,none⟩) iy).trans y4;have z5:=(fI (a:=⟨z,5,none⟩) iy).trans kQ;have z6:=(fI (a:=⟨z,6,none⟩) iy).trans y6;have z7:=(fI (a:=⟨z,7,none⟩) iy).trans lF;clear h3 h4)))
 all_goals go_wp2_with fail
 all_goals go_end0
 all_goals exact Wrote.of (HB.o.trans (H3.o.mono HB.o.size)) (HO.o.below H3.o (ag _)) su.o HF.o (by rw[HS.o]) (by rw[HS.o,show sb (strOfNums (aO (sb n.ref.sh) n.ref.c n.ref.r n.ref.ac n.ref.ar))=aO (sb n.ref.sh) n.ref.c n.ref.r n.ref.ac n.ref.ar from gK _ (ym _ _ _ _ _)])
theorem aaC (w:World)(b:Nat)(nv:Value)(st:List av)(txt:List Int)(n:Nd)(A:Option Addr)(m c:Nat)(h:dC w b nv st txt)(hk:n.kind=6)(hz:n.ref.sh.size≤1000000)(hz2:n.ae.sh.size≤1000000)(htab:jN w)(hl:txt.length≤1000000000) :
 Calls Tryz.prog 166 #[.pointer (some ⟨b,0,none⟩),.agg #[.int .i64 n.kind,.int .i64 n.num,.string n.text,.string n.ref.sh,.int .i64 n.ref.c,.int .i64 n.ref.r,.bool n.ref.ac,.bool n.ref.ar,.string n.ae.sh,.int .i64 n.ae.c,.int .i64 n.ae.r,.bool n.ae.ac,.bool n.ae.ar,.slice A m c]] w (Wrote w b nv st txt n):=by
 have hB:Below w.heap.size w (w.alloc (.cells #[.int .i64 n.kind,.int .i64 n.num,.string n.text,.string n.ref.sh,.int .i64 n.ref.c,.int .i64 n.ref.r,.bool n.ref.ac,.bool n.ref.ar,.string n.ae.sh,.int .i64 n.ae.c,.int .i64 n.ae.r,.bool n.ae.ac,.bool n.ae.ar,.slice A m c] 48)):=(ai _ _).alloc (ag _) _;have HN:aH (w.alloc (.cells #[.int .i64 n.kind,.int .i64 n.num,.string n.text,.string n.ref.sh,.int .i64 n.ref.c,.int .i64 n.ref.r,.bool n.ref.ac,.bool n.ref.ar,.string n.ae.sh,.int .i64 n.ae.c,.int .i64 n.ae.r,.bool n.ae.ac,.bool n.ae.ar,.slice A m c] 48)) w.heap.size n (.slice A m c):=aH.new w n _;have hs:dR n=(aO (sb n.ref.sh) n.ref.c n.ref.r n.ref.ac n.ref.ar++58 :: aO (sb n.ae.sh) n.ae.c n.ae.r n.ae.ac n.ae.ar,[]):=by unfold dR;rw[if_neg (by omega),if_neg (by omega),if_neg (by omega),if_neg (by omega),if_neg (by omega),if_pos hk]
 have d1:=CU (sb n.ref.sh) n.ref.c n.ref.r n.ref.ac n.ref.ar;have d2:=CU (sb n.ae.sh) n.ae.c n.ae.r n.ae.ac n.ae.ar;rw[bC]at d1 d2;have hbw:b<w.heap.size:=by obtain⟨wv,h1, -⟩:=h;exact h1.lt
 have y1:=ym n.ref.sh n.ref.c n.ref.r n.ref.ac n.ref.ar;have y2:=ym n.ae.sh n.ae.c n.ae.r n.ae.ac n.ae.ar;have i1:=fun (wr:World)(ht:jN wr)=>Ke n.ref.sh n.ref.c n.ref.r n.ref.ac n.ref.ar wr ht hz
 have i2:=fun (wr:World)(ht:jN wr)=>Ke n.ae.sh n.ae.c n.ae.r n.ae.ac n.ae.ar wr ht hz2
 generalize aO (sb n.ref.sh) n.ref.c n.ref.r n.ref.ac n.ref.ar=l1 at hs d1 y1 i1;generalize aO (sb n.ae.sh) n.ae.c n.ae.r n.ae.ac n.ae.ar=l2 at hs d2 y2 i2;have f1:¬ 9223372036854775807<(strOfNums l1).size+(⟨#[58]⟩:ByteArray).size:=by rw[strOfNums_size];show ¬ _<_+1;omega
 have f2:¬ 9223372036854775807<(strOfNums l1).size+1:=by rw[strOfNums_size];omega
 have f3:(strOfNums l1++(⟨#[58]⟩:ByteArray)).size=l1.length+1:=by rw[ByteArray.size_append,strOfNums_size];rfl
 have f4:¬ 9223372036854775807<(strOfNums l1++(⟨#[58]⟩:ByteArray)).size+(strOfNums l2).size:=by rw[f3,strOfNums_size];omega
 have f5:¬ 9223372036854775807<(strOfNums l1).size+1+(strOfNums l2).size:=by rw[strOfNums_size,strOfNums_size];omega
 have mQ:=aa (show strOfNums l1++(⟨#[58]⟩:ByteArray)++strOfNums l2=strOfNums (l1++58 :: l2)by
  rw[show(⟨#[58]⟩:ByteArray)=strOfNums [58]from by decide,gq,gq,bO];rfl)
 have HS:=aa hs;have HB:=aa hB;obtain⟨wv,h1,h2⟩:=h.below hB;have sj:=aa (htab.below hB);clear h hs hk htab hB;go_enter Tryz.func166,Tryz.ntmps166;go_upto_region 1 with (fail)
 obtain⟨z,hzz⟩:∃z,w.heap.size=z:=⟨_,rfl⟩;obtain⟨w1,hw1⟩:∃w1,w.alloc (.cells #[.int .i64 n.kind,.int .i64 n.num,.string n.text,.string n.ref.sh,.int .i64 n.ref.c,.int .i64 n.ref.r,.bool n.ref.ac,.bool n.ref.ar,.string n.ae.sh,.int .i64 n.ae.c,.int .i64 n.ae.r,.bool n.ae.ac,.bool n.ae.ar,.slice A m c] 48)=w1:=⟨_,rfl⟩;rw[hw1]at HN HB sj h1 h2 ⊢;rw[hzz]at HN ⊢;obtain⟨-, -, -,x3,x4,x5,x6,x7,az,aW,aT,aU,aV, -⟩:=HN.cells;have hzl:=HN.lt;have hzb:z≠b:=by omega
 have ed:=aa HN;have HI:=aa (fun wr (hr:Below w1.heap.size w1 wr)=>i1 wr (sj.o.below hr));have HJ:=aa (fun wr (hr:Below w1.heap.size w1 wr)=>i2 wr (sj.o.below hr));have HW:=aa (fun wr (hr:Below w1.heap.size w1 wr)=>qN wr b nv wv txt (strOfNums l1++(⟨#[58]⟩:ByteArray)++strOfNums l2) (h1.below hr) (by rw[ByteArray.size_append,f3,strOfNums_size];omega));have HO:=aa h2;clear hzz hw1 h1 h2 HN d1 d2 i1 i2 f3 hz hz2;have H1:=aa ((ai w1.heap.size w1).drew)
 go_region_held3 (fun w'=>w'.cell? ⟨z,3,none⟩=some (.string n.ref.sh)∧w'.cell? ⟨z,4,none⟩=some (.int .i64 n.ref.c)∧w'.cell? ⟨z,5,none⟩=some (.int .i64 n.ref.r)∧w'.cell? ⟨z,6,none⟩=some (.bool n.ref.ac)∧w'.cell? ⟨z,7,none⟩=some (.bool n.ref.ar)∧w'.cell? ⟨z,8,none⟩=some (.string n.ae.sh)∧w'.cell? ⟨z,9,none⟩=some (.int .i64 n.ae.c)∧w'.cell? ⟨z,10,none⟩=some (.int .i64 n.ae.r)∧w'.cell? ⟨z,11,none⟩=some (.bool n.ae.ac)∧w'.cell? ⟨z,12,none⟩=some (.bool n.ae.ar)) (go_keep) (first
  | (go_at_call 195;((with_reducible refine(HI.o _ H1.o).mono ?_);rintro e w3 ⟨rfl,h3⟩;have H3:=aa (H1.o.trans (h3.mono H1.o.size));have p3:=(H3.o.cell (p:=⟨z,3,none⟩) hzl).trans x3;have p4:=(H3.o.cell (p:=⟨z,4,none⟩) hzl).trans x4;have p5:=(H3.o.cell (p:=⟨z,5,none⟩) hzl).trans x5;have p6:=(H3.o.cell (p:=⟨z,6,none⟩) hzl).trans x6;have p7:=(H3.o.cell (p:=⟨z,7,none⟩) hzl).trans x7;have af':=(H3.o.cell (p:=⟨z,8,none⟩) hzl).trans az;have aga:=(H3.o.cell (p:=⟨z,9,none⟩) hzl).trans aW;have p10:=(H3.o.cell (p:=⟨z,10,none⟩) hzl).trans aT;have p11:=(H3.o.cell (p:=⟨z,11,none⟩) hzl).trans aU;have p12:=(H3.o.cell (p:=⟨z,12,none⟩) hzl).trans aV;clear h3))
  | (go_at_call 195;((with_reducible refine(HJ.o _ H3.o).mono ?_);rintro e w4 ⟨rfl,h3⟩;have H4:=aa (H3.o.trans (h3.mono H3.o.size));have q3:=(H4.o.cell (p:=⟨z,3,none⟩) hzl).trans x3;have q4:=(H4.o.cell (p:=⟨z,4,none⟩) hzl).trans x4;have q5:=(H4.o.cell (p:=⟨z,5,none⟩) hzl).trans x5;have q6:=(H4.o.cell (p:=⟨z,6,none⟩) hzl).trans x6;have q7:=(H4.o.cell (p:=⟨z,7,none⟩) hzl).trans x7;have aaV:=(H4.o.cell (p:=⟨z,8,none⟩) hzl).trans az;have aaW:=(H4.o.cell (p:=⟨z,9,none⟩) hzl).trans aW;have q10:=(H4.o.cell (p:=⟨z,10,none⟩) hzl).trans aT;have q11:=(H4.o.cell (p:=⟨z,11,none⟩) hzl).trans aU;have Ju:=(H4.o.cell (p:=⟨z,12,none⟩) hzl).trans aV;clear h3))
  | (go_at_call 129;((with_reducible refine(HW.o _ H4.o).mono ?_);rintro e w5 ⟨⟨x,rfl⟩,h3,h4⟩;have su:=aa h3;have HF:=aa h4;have iy:=HF.o.block z (eU hzl H4.o.size) hzb (.inr fun cur fr e=>by
      have h5:=H4.o.block z hzl;have h6:w1.heap[z]? = some (.cells (fH n (.slice A m c)) 48):=ed.o;rw[h5,h6]at e;injection e with e;injection e with _ e2;exact absurd e2 (by decide));have r3:=(fI (a:=⟨z,3,none⟩) iy).trans q3;have r4:=(fI (a:=⟨z,4,none⟩) iy).trans q4;have r5:=(fI (a:=⟨z,5,none⟩) iy).trans q5;have r6:=(fI (a:=⟨z,6,none⟩) iy).trans q6;have r7:=(fI (a:=⟨z,7,none⟩) iy).trans q7;have r8:=(fI (a:=⟨z,8,none⟩) iy).trans aaV;have agm:=(fI (a:=⟨z,9,none⟩) iy).trans aaW;have r10:=(fI (a:=⟨z,10,none⟩) iy).trans q10;have r11:=(fI (a:=⟨z,11,none⟩) iy).trans q11;have r12:=(fI (a:=⟨z,12,none⟩) iy).trans Ju;clear h3 h4)))
 all_goals go_wp2_with fail
 all_goals go_end0
 all_goals exact Wrote.of (HB.o.trans (H4.o.mono HB.o.size)) (HO.o.below H4.o (ag _)) su.o HF.o (by rw[HS.o]) (by rw[HS.o,mQ.o,gK _ (by intro x hx;rcases List.mem_append.1 hx with hx|hx;exact y1 x hx;rcases List.mem_cons.1 hx with rfl|hx;exact⟨by decide,by decide⟩;exact y2 x hx)])
theorem OH:∀l:List UInt8,(Lib.index l [34] = -1∧∀x∈l,x≠34)∨∃i:Nat,Lib.index l [34]=i∧i<l.length∧(∀x∈l.take i,x≠34)∧l.drop i=34 :: l.drop (i+1)
 | [] => .inl ⟨rfl,fun x hx=>by cases hx⟩
 | b :: l => by
   by_cases hb:b=34
   · subst hb;exact .inr ⟨0,rfl,by simp,fun x hx=>by simp at hx,rfl⟩
   · have hp:List.isPrefixOf [34] (b :: l)=false:=by
      show((34:UInt8) == b&&List.isPrefixOf [] l)=false;rw[beq_eq_false_iff_ne.2 (fun e=>hb e.symm)];rfl
     have e:Lib.index (b :: l) [34]=if Lib.index l [34] == -1 then -1 else Lib.index l [34]+1:=by
      rw[Lib.index,if_neg (by rw[hp];decide)]
     rcases OH l with ⟨h1,h2⟩|⟨i,h1,h2,h3,h4⟩
     · refine .inl ⟨by rw[e,h1];rfl,fun x hx => ?_⟩
       rcases List.mem_cons.1 hx with rfl|hx
       · exact hb
       · exact h2 x hx
     · refine .inr ⟨i+1, ?_,by simp;omega,fun x hx => ?_,by simpa using h4⟩
       · rw[e,h1,if_neg (by intro h;have:=beq_iff_eq.1 h;omega)];rfl
       · rw[List.take_succ_cons]at hx
         rcases List.mem_cons.1 hx with rfl|hx
         · exact hb
         · exact h3 x hx
def ru:List UInt8→List UInt8
 | []=>[]
 | x :: l=>(if x=34 then [34,34]else [x])++ru l
theorem MN:∀l:List UInt8,(∀x∈l,x≠34)→ru l=l
 | [],_=>rfl
 | x :: l,h=>by
   show(if x=34 then [34,34]else [x])++ru l=x :: l;rw[if_neg (h x (List.mem_cons_self ..)),MN l (fun y hy=>h y (List.mem_cons_of_mem _ hy))];rfl
theorem MM:∀(p r:List UInt8),(∀x∈p,x≠34)→ru (p++34 :: r)=p++[34,34]++ru r
 | [],r,_=>rfl
 | x :: p,r,h=>by
   show(if x=34 then [34,34]else [x])++ru (p++34 :: r)=_;rw[if_neg (h x (List.mem_cons_self ..)),MM p r (fun y hy=>h y (List.mem_cons_of_mem _ hy))];rfl
theorem JH:∀(n:Nat)(l:List UInt8),l.length≤n→Lib.replaceK [34] [34,34] (Lib.count l [34]) l=ru l∧Lib.count l [34]≤l.length
 | n, l,hn=>by
   rcases OH l with ⟨h1,h2⟩|⟨i,h1,h2,h3,h4⟩
   · rw[Lib.count_miss h1,MN l h2];exact⟨rfl,cu _⟩
   · have hc:=Lib.count_hit (s:=l) (sub:=[34]) (by decide) h1
     have hd:(l.drop (i+1)).length=l.length - (i+1):=List.length_drop
     match n with
     | 0=>omega
     | n+1 =>
       obtain⟨e1,e2⟩:=JH n (l.drop (i+1)) (by omega);have hc2:Lib.count l [34]=Lib.count (l.drop (i+1)) [34]+1:=by rw[hc];show 1+Lib.count (l.drop (i+1)) [34]=_;omega
       refine⟨?_,by omega⟩;rw[hc2,Lib.replaceK_hit _ _ _ _ i h1];show l.take i++[34,34]++Lib.replaceK [34] [34,34] (Lib.count (l.drop (i+1)) [34]) (l.drop (i+1))=_;rw[e1, ← MM _ _ h3, ← h4,List.take_append_drop]
theorem Uc (l:List UInt8):Lib.replaceAll l [34] [34,34]=ru l:=by
 unfold Lib.replaceAll Lib.replace Lib.replaceNum;rw[if_neg (by decide),if_pos (.inl (by decide))];exact(JH l.length l (ag _)).1
theorem MO:∀l:List UInt8,(ru l).map (fun b=>(b.toNat:Int))=eu (l.map fun b=>(b.toNat:Int))
 | []=>rfl
 | x :: l=>by
   show((if x=34 then [34,34]else [x])++ru l).map _=(if (x.toNat:Int)=34 then [34,34]else [(x.toNat:Int)])++eu (l.map _);rw[iE,MO l];by_cases h:x=34
   · subst h;rfl
   · rw[if_neg h,if_neg (fun e=>h (UInt8.toNat_inj.1 (by have:(34:UInt8).toNat=34:=rfl;omega)))];rfl
def o9(w:World):Prop:=∃m,w.cell? ⟨(8:Nat),0,none⟩=some (.int .i64 m)
theorem o9.below {w w':World}(h:o9 w)(hb:Below w.heap.size w w'):o9 w':=by
 obtain⟨m,hm⟩:=h;exact⟨m,(hb.cell (p:=⟨(8:Nat),0,none⟩) (World.block_lt_of_cell? w _ hm)).trans hm⟩
theorem o9.wrote {w w':World}{b:Nat}(h:o9 w)(hf:gF w w' b)(hg:8<b):o9 w':=by
 obtain⟨m,hm⟩:=h;exact⟨m,(fI (a:=⟨(8:Nat),0,none⟩) (hf.block _ (World.block_lt_of_cell? w _ hm) (Nat.ne_of_lt hg) (.inl hg))).trans hm⟩
theorem abK (s:ByteArray)(hs:s.size≤1000000)(w:World)(hm:o9 w):Calls Tryz.prog 194 #[.string s,.string ⟨#[34]⟩,.string ⟨#[34,34]⟩] w fun e w'=>e = .returned (.string (strOfNums (eu (sb s))))∧Below w.heap.size w w':=by
 obtain⟨m,hm⟩:=hm;have hc:Lib.countB s ⟨#[34]⟩≤s.size:=(JH _ s.data.toList (ag _)).2;have h:=Tryz.strings_ReplaceAll s ⟨#[34]⟩ ⟨#[34,34]⟩ m w (by omega) hm (by decide) (by have:(⟨#[34,34]⟩:ByteArray).size=2:=rfl;rw[this];omega)
 rw [show(⟨(Lib.replaceAll s.data.toList (⟨#[34]⟩:ByteArray).data.toList (⟨#[34,34]⟩:ByteArray).data.toList).toArray⟩:ByteArray)=strOfNums (eu (sb s))from by
  rw[show(⟨#[34]⟩:ByteArray).data.toList=[34]from rfl,show(⟨#[34,34]⟩:ByteArray).data.toList=[34,34]from rfl,Uc, ← jU ⟨(ru s.data.toList).toArray⟩];congr 1;show(ru s.data.toList).map (fun b=>(b.toNat:Int))=_;rw[MO];rfl]at h
 exact h
theorem gF.below{w w':World}{b:Nat}(h:Below w.heap.size w w'):gF w w' b:=⟨h.os,h.tape,h.output,h.size,fun k hk _ _=>h.block k hk⟩
theorem aaZ (w:World)(b:Nat)(nv:Value)(st:List av)(txt:List Int)(n:Nd)(A:Option Addr)(m c:Nat)(h:dC w b nv st txt)(hk:n.kind=2)(hz:n.text.size≤1000000)(hmv:o9 w)(hgb:8<b)(hl:txt.length≤1000000000) :
 Calls Tryz.prog 162 #[.pointer (some ⟨b,0,none⟩),.agg #[.int .i64 n.kind,.int .i64 n.num,.string n.text,.string n.ref.sh,.int .i64 n.ref.c,.int .i64 n.ref.r,.bool n.ref.ac,.bool n.ref.ar,.string n.ae.sh,.int .i64 n.ae.c,.int .i64 n.ae.r,.bool n.ae.ac,.bool n.ae.ar,.slice A m c]] w (Wrote w b nv st txt n):=by
 have hB:Below w.heap.size w (w.alloc (.cells #[.int .i64 n.kind,.int .i64 n.num,.string n.text,.string n.ref.sh,.int .i64 n.ref.c,.int .i64 n.ref.r,.bool n.ref.ac,.bool n.ref.ar,.string n.ae.sh,.int .i64 n.ae.c,.int .i64 n.ae.r,.bool n.ae.ac,.bool n.ae.ar,.slice A m c] 48)):=(ai _ _).alloc (ag _) _;have HN:aH (w.alloc (.cells #[.int .i64 n.kind,.int .i64 n.num,.string n.text,.string n.ref.sh,.int .i64 n.ref.c,.int .i64 n.ref.r,.bool n.ref.ac,.bool n.ref.ar,.string n.ae.sh,.int .i64 n.ae.c,.int .i64 n.ae.r,.bool n.ae.ac,.bool n.ae.ar,.slice A m c] 48)) w.heap.size n (.slice A m c):=aH.new w n _;have hs:dR n=(34 :: (eu (sb n.text)++[34]),[]):=by unfold dR;rw[if_neg (by omega),if_pos hk]
 have hd:=ML (sb n.text);rw[bC]at hd;have hbw:b<w.heap.size:=by obtain⟨wv,h1, -⟩:=h;exact h1.lt
 have hby:=He (sb n.text) (uh n.text);have HS:=aa hs;have HB:=aa hB;obtain⟨wv,h1,h2⟩:=h.below hB;have K7:=aa (hmv.below hB);clear h hs hk hmv hB;go_enter Tryz.func162,Tryz.ntmps162;go_upto_region 1 with (fail)
 obtain⟨z,hzz⟩:∃z,w.heap.size=z:=⟨_,rfl⟩;obtain⟨w1,hw1⟩:∃w1,w.alloc (.cells #[.int .i64 n.kind,.int .i64 n.num,.string n.text,.string n.ref.sh,.int .i64 n.ref.c,.int .i64 n.ref.r,.bool n.ref.ac,.bool n.ref.ar,.string n.ae.sh,.int .i64 n.ae.c,.int .i64 n.ae.r,.bool n.ae.ac,.bool n.ae.ar,.slice A m c] 48)=w1:=⟨_,rfl⟩;rw[hw1]at HN HB K7 h1 h2 ⊢;rw[hzz]at HN ⊢;have hzl:=HN.lt;have hzb:z≠b:=by omega
 have ed:=aa HN;have HW:=aa (qN w1 b nv wv txt ⟨#[34]⟩ h1 (by show txt.length+1≤_;omega));have HO:=aa h2;clear hzz hw1 h1 h2 HN;go_upto_region 2 with (go_at_call 129;((with_reducible refine HW.o.mono ?_);rintro e w2 ⟨⟨x,rfl⟩,h3,h4⟩;have su:=aa h3;have HF:=aa h4;clear h3 h4))
 have aA:=aa (show aH w2 z n (.slice A m c)by
  unfold aH
  rw [HF.o.block z hzl hzb (.inr fun cur fr e=>by
   have h6:w1.heap[z]? = some (.cells (fH n (.slice A m c)) 48):=ed.o;rw[h6]at e;injection e with e;injection e with _ e2;exact absurd e2 (by decide))]
  exact ed.o)
 have SB:=aa (K7.o.wrote HF.o hgb);have x2:=aA.o.cells.2.2.1;have hz2:=aA.o.lt;have HI:=aa (fun wr (hr:Below w2.heap.size w2 wr)=>abK n.text hz wr (SB.o.below hr));have HW2:=aa (fun wr (hr:Below w2.heap.size w2 wr)=>qN wr b nv wv (txt++sb ⟨#[34]⟩) (strOfNums (eu (sb n.text))) (su.o.below hr) (by rw[strOfNums_size,aj];show txt.length+1+_≤_;omega));have H1:=aa ((ai w2.heap.size w2).drew)
 go_region_held3 (fun w'=>w'.cell? ⟨z,2,none⟩=some (.string n.text)) (go_keep) (first
  | (go_at_call 194;((with_reducible refine(HI.o _ H1.o).mono ?_);rintro e w3 ⟨rfl,h3⟩;have H3:=aa (H1.o.trans (h3.mono H1.o.size));have y2:=(H3.o.cell (p:=⟨z,2,none⟩) hz2).trans x2;clear h3))
  | (go_at_call 129;((with_reducible refine(HW2.o _ H3.o).mono ?_);rintro e w4 ⟨⟨x,rfl⟩,h3,h4⟩;have TJ:=aa h3;have dL:=aa h4;have iy:=dL.o.block z (eU hz2 H3.o.size) hzb (.inr fun cur fr e=>by
      have h5:=H3.o.block z hz2;have h6:w2.heap[z]? = some (.cells (fH n (.slice A m c)) 48):=aA.o;rw[h5,h6]at e;injection e with e;injection e with _ e2;exact absurd e2 (by decide));have z2:=(fI (a:=⟨z,2,none⟩) iy).trans y2;clear h3 h4 iy)))
 have HW3:=aa (qN w4 b nv wv _ ⟨#[34]⟩ TJ.o (by rw[aj,aj,gK _ hby];show txt.length+1+_+1≤_;omega));go_wp2_with (go_at_call 129;((with_reducible refine HW3.o.mono ?_);rintro e w5 ⟨⟨x,rfl⟩,h3,h4⟩;have TK:=aa h3;have aL:=aa h4;clear h3 h4))
 go_end0;have Sd:=aa (((HF.o).trans (gF.below H3.o)).trans (dL.o.trans aL.o));exact Wrote.of HB.o HO.o TK.o Sd.o (by rw[HS.o]) (by rw[HS.o,gK _ hby,show sb ⟨#[34]⟩=[34]by decide];simp[List.append_assoc])
theorem aap (w:World)(ps:List av)(cs:Array Value)(hcs:cs.toList=nM.all ps)(hl:ps.length≤1000000):Own nM 139 (w.alloc (.cells cs 139)) 0 (.slice (some ⟨w.heap.size,0,none⟩) ps.length ps.length) ps:=by
 have hs:cs.size=ps.length*3:=by rw[← Array.length_toList,hcs,Enc.ku]
 refine⟨by rw[Enc.ku],.inr ⟨w.heap.size,ps.length,cs,rfl,cu _,(jw w _).1,ag _,by unfold maxLen;omega,hs, ?_⟩⟩;rw[hcs,mK (by rw[Enc.ku];exact ag _)]
theorem j5.one {w:World}{b:Nat}{nv wv wv2:Value}{t1 t2:List Int}(h:j5 w b nv wv t1)(h2:j5 w b nv wv2 t2):wv2=wv:=by
 obtain⟨ad,bv,h3,_⟩:=h;obtain⟨yj,yl,h4,_⟩:=h2;have e:w.heap[b]? = some (.cells #[nv,wv,ad,bv] 136):=h3;have e2:w.heap[b]? = some (.cells #[nv,wv2,yj,yl] 136):=h4;rw[e]at e2;injection e2 with e2;injection e2 with e2;simp at e2;exact e2.1.symm
theorem y7 (w:World)(b:Nat)(nv:Value)(st ps:List av)(txt:List Int)(cs:Array Value)(k:Nat)(hk:ps.length=k)(hcs:cs.toList=nM.all ps)(h:dC w b nv st txt)(hl1:ps.length≤1000000)(hl2:st.length≤2000000000) :
 Calls Tryz.prog 88 #[.pointer (some ⟨b,0,none⟩),.slice (some ⟨w.heap.size,0,none⟩) k k] (w.alloc (.cells cs 139)) fun e w'=>e = .returned (.tuple #[])∧dC w' b nv (st++ps.reverse) txt∧aZ w w' b:=by
 subst hk;have hb:Below w.heap.size w (w.alloc (.cells cs 139)):=(ai _ _).alloc (ag _) _;obtain⟨wv,hws,ho⟩:=h;refine(aaR (w.alloc (.cells cs 139)) b nv st ps txt w.heap.size ps.length ⟨wv,hws.below hb,ho.below hb (ag _)⟩ (aap w ps cs hcs hl1) ?_ hl1 hl2).mono ?_
 · intro wv2 h2 e
   rw[(hws.below hb).one h2]at e;have:=(Own.jB ho _ e).2.1;omega
 · rintro e w' ⟨h1,h2,h3⟩
   exact⟨h1,h2,(aZ.gJ hb).trans h3⟩
theorem Cw(i m:Int)(w:World):Calls Tryz.prog 89 #[.int .i64 i,.int .i64 m] w fun e w'=>e = .returned (.agg #[.string ⟨#[]⟩,.int .i64 i,.int .i64 m])∧Below w.heap.size w w':=aaj i m w
theorem EO(t:ByteArray)(w:World):Calls Tryz.prog 131 #[.string t] w fun e w'=>e = .returned (.agg #[.string t,.int .i64 0,.int .i64 0])∧Below w.heap.size w w':=aaD t w
theorem je.nP {w w':World}{B b:Nat}{v:Value}{xs:List Int}(h:je w B v xs)(hf:aZ w w' b)(hB:B≤b)(hw:b<w.heap.size):je w' B v xs:=by
 obtain⟨A,cap,h1,h2,h3,h4⟩:=h;refine⟨A,cap,h1,h2,h3,h4.imp id ?_⟩;rintro⟨pb,po,e1,e2,e3⟩;exact⟨pb,po,e1,e2,fun j x hj=>(fI (a:=⟨pb,po+j,none⟩) (hf.block pb (by omega) (by omega) (.inl (by omega)))).trans (e3 j x hj)⟩
theorem Zz (w:World)(b:Nat)(nv:Value)(st:List av)(txt:List Int)(n:Nd)(A:Option Addr)(m c:Nat)(h:dC w b nv st txt)(hk:n.kind=8)(k0:Int)(hk0:n.kids[0]? = some k0)(hsi:je w b (.slice A m c) n.kids)(hl:txt.length≤1000000000)(hls:st.length≤2000000000) :
 Calls Tryz.prog 168 #[.pointer (some ⟨b,0,none⟩),.agg #[.int .i64 n.kind,.int .i64 n.num,.string n.text,.string n.ref.sh,.int .i64 n.ref.c,.int .i64 n.ref.r,.bool n.ref.ac,.bool n.ref.ar,.string n.ae.sh,.int .i64 n.ae.c,.int .i64 n.ae.r,.bool n.ae.ac,.bool n.ae.ar,.slice A m c]] w (Wrote w b nv st txt n):=by
 have hB:Below w.heap.size w (w.alloc (.cells #[.int .i64 n.kind,.int .i64 n.num,.string n.text,.string n.ref.sh,.int .i64 n.ref.c,.int .i64 n.ref.r,.bool n.ref.ac,.bool n.ref.ar,.string n.ae.sh,.int .i64 n.ae.c,.int .i64 n.ae.r,.bool n.ae.ac,.bool n.ae.ar,.slice A m c] 48)):=(ai _ _).alloc (ag _) _;have HN:aH (w.alloc (.cells #[.int .i64 n.kind,.int .i64 n.num,.string n.text,.string n.ref.sh,.int .i64 n.ref.c,.int .i64 n.ref.r,.bool n.ref.ac,.bool n.ref.ar,.string n.ae.sh,.int .i64 n.ae.c,.int .i64 n.ae.r,.bool n.ae.ac,.bool n.ae.ar,.slice A m c] 48)) w.heap.size n (.slice A m c):=aH.new w n _
 have hs:dR n=([45],[av.op k0 5]):=by
  unfold dR;rw[if_neg (by omega),if_neg (by omega),if_neg (by omega),if_neg (by omega),if_neg (by omega),if_neg (by omega),if_neg (by omega),if_pos hk,iC,hk0];rfl
 have hbw:b<w.heap.size:=by obtain⟨wv,h1, -⟩:=h;exact h1.lt
 have Iw:=hsi.below hB (Nat.le_of_lt hbw);obtain⟨A',cap',hsl,hcm, -,hcell⟩:=Iw;injection hsl with e1 e2 e3;have hpos:0<n.kids.length:=(dm.1 hk0).1;obtain⟨pb,po,hA,hpb,hcl⟩:=hcell.resolve_left (fun e=>by rw[e]at hpos;exact absurd hpos (by decide));have hc0:=hcl 0 k0 hk0;rw[Nat.add_zero]at hc0;have hA2:=e1.trans hA;subst hA2;subst e3;clear e1 hA;have hm0:(0:Int)<(m:Int):=by omega
 have hm1:0<m:=by omega
 have HS:=aa hs;have HB:=aa hB;obtain⟨wv,h1,h2⟩:=h.below hB;clear h hs hk hB hsi e2 hcl hpos hcell hk0;go_enter Tryz.func168,Tryz.ntmps168;go_upto_region 1 with (fail)
 obtain⟨z,hzz⟩:∃z,w.heap.size=z:=⟨_,rfl⟩;obtain⟨w1,hw1⟩:∃w1,w.alloc (.cells #[.int .i64 n.kind,.int .i64 n.num,.string n.text,.string n.ref.sh,.int .i64 n.ref.c,.int .i64 n.ref.r,.bool n.ref.ac,.bool n.ref.ar,.string n.ae.sh,.int .i64 n.ae.c,.int .i64 n.ae.r,.bool n.ae.ac,.bool n.ae.ar,.slice (some ⟨pb,po,none⟩) m c] 48)=w1:=⟨_,rfl⟩;rw[hw1]at HN HB h1 h2 hc0 ⊢;rw[hzz]at HN ⊢;have hzl:=HN.lt;have hzb:z≠b:=by omega
 have ed:=aa HN;have HW:=aa (qN w1 b nv wv txt ⟨#[45]⟩ h1 (by show txt.length+1≤_;omega));have HO:=aa h2;clear hzz hw1 h1 h2 HN;go_upto_region 2 with (go_at_call 129;((with_reducible refine HW.o.mono ?_);rintro e w2 ⟨⟨x,rfl⟩,h3,h4⟩;have su:=aa h3;have HF:=aa h4;clear h3 h4))
 have Ni:aH w2 z n (.slice (some ⟨pb,po,none⟩) m c):=by
  unfold aH
  rw [HF.o.block z hzl hzb (.inr fun cur fr e=>by
   have h6:w1.heap[z]? = some (.cells (fH n (.slice (some ⟨pb,po,none⟩) m c)) 48):=ed.o;rw[h6]at e;injection e with e;injection e with _ e2;exact absurd e2 (by decide))]
  exact ed.o
 obtain⟨-, -, -, -, -, -, -, -, -, -, -, -, -,aP⟩:=Ni.cells;have yF:b<w1.heap.size:=eU hbw HB.o.size;have hd0:w2.cell? ⟨pb,po,none⟩=some (.int .i64 k0):=(fI (a:=⟨pb,po,none⟩) (HF.o.block pb (by omega) (by omega) (.inl hpb))).trans hc0
 have GN:=aa (show dC w2 b nv st (txt++[45])from by
  have h:=dC.wrote HO.o su.o HF.o;rwa[show sb ⟨#[45]⟩=[45]by decide]at h)
 have xU:=aa (fun (w3:World)(h3:Below w2.heap.size w2 w3)=>y7 w3 b nv st [av.op k0 5] (txt++[45]) #[.string ⟨#[]⟩,.int .i64 k0,.int .i64 5] 1 rfl rfl (GN.o.below h3) (by show 1≤1000000;decide) hls);clear Ni hc0
 go_wp2_with (first
  | (go_at_call 89;((with_reducible refine(Cw _ _ _).mono ?_);rintro e w3 ⟨rfl,h3⟩;have HB3:=aa h3;clear h3))
  | (go_at_call 88;((with_reducible refine(xU.o _ HB3.o).mono ?_);rintro e w5 ⟨rfl,h3,h4⟩;have vz:=aa h3;have aL:=aa h4;clear h3 h4)))
 go_end0;refine⟨rfl, ?_,(aZ.gJ HB.o).trans ((aZ.rD HF.o).trans ((aZ.gJ HB3.o).trans aL.o))⟩;rw[HS.o];exact vz.o
end Go.Proofs.YtdnooocmlhcpkaaGreatDoor
