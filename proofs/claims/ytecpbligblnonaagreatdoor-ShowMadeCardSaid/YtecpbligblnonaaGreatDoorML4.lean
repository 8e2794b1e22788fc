/-
 Texts of layers, put together.
-/
import Derived.Test.YtecpbligblnonaaGreatDoorML3
import Derived.Maps.AppendAt
import Derived.Deep.RegionLaw
import Derived.Lib.Builder
import Derived.Laws.Externs
import Derived.Lib.UnsafeStr
import Derived.Deep.RegionHeld3
import Derived.Lib.LaidTab
namespace Go.Proofs.YtecpbligblnonaaGreatDoor
open Go.RowKit
theorem wpList_app_at {P:Program} {α : Type} {size t e bytes:Nat} {w:World} {ops:Array Oper} {rest:List Oper} {o:Oper} {a:Act} {Q:Exit→Act→World→Prop} (EL:Elem P t e size bytes) (E:Enc α size)
 (hgd:o.guard=none) (s x:Operand) (ho:o.op = .call { callee := .builtin .append,args:=#[s,x],argTypes:=#[t,t] }) (base:Nat) (v:Value) (xs:List α)
 (hs:a.eval s=v) (hown:Own E e w base v xs) (ad:Addr) (m c:Nat) (ys:List α) (hx:a.eval x = .slice (some ad) m c) (hl:ys.length=m)
 (hc:∀ (j:Nat) (u:Value),(E.all ys)[j]? = some u→w.cell? (ad.add j)=some u) (hb:(xs.length+m)*bytes≤140737488355328) (hb2:xs.length+m≤maxLen) (hbase:base≤w.heap.size)
 (h:∀ (v':Value) (w':World),Own E e w' base v' (xs++ys)→w.grownBy w' v.ownBlock→(v'.ownBlock=v.ownBlock∨v'.ownBlock=some w.heap.size)→wpList P ops Q rest (a.put o.dst v') w'):wpList P ops Q (o :: rest) a w:=by
 obtain ⟨z,hi,hz⟩:=EL.inf
 obtain ⟨i,hi1,hi2,hi3,hi4⟩:=info_parts hi
 refine wpList_append_own_at w hgd s x t ho base e i z size bytes EL.und hi1 hi2 hi3 hi4 hz EL.pos v xs.length (E.all xs) hs hown ad m c (E.all ys) hx (by rw [E.length_all,hl]) hc (E.one_all ys) hb2 hb hbase ?_
 intro v' w' h1 h2 _ h4
 refine h v' w' ?_ h2 h4
 unfold Own;rw [E.all_append,List.length_append,hl];exact h1
theorem step_app_at {P:Program} {α : Type} {size t e bytes:Nat} {w:World} {ops:Array Oper} {o:Oper} {a:Act} {K:Act→World→Prop} {Q:Exit→Act→World→Prop} {F:Prop} (EL:Elem P t e size bytes) (E:Enc α size)
 (hgd:o.guard=none) (s x:Operand) (ho:o.op = .call { callee := .builtin .append,args:=#[s,x],argTypes:=#[t,t] }) (base:Nat) (v:Value) (xs:List α)
 (hs:a.eval s=v) (hown:Own E e w base v xs) (ad:Addr) (m c:Nat) (ys:List α) (hx:a.eval x = .slice (some ad) m c) (hl:ys.length=m)
 (hc:∀ (j:Nat) (u:Value),(E.all ys)[j]? = some u→w.cell? (ad.add j)=some u) (hb:(xs.length+m)*bytes≤140737488355328) (hb2:xs.length+m≤maxLen) (hbase:base≤w.heap.size)
 (h:∀ (v':Value) (w':World),Own E e w' base v' (xs++ys)→w.grownBy w' v.ownBlock→(v'.ownBlock=v.ownBlock∨v'.ownBlock=some w.heap.size)→K (a.put o.dst v') w') :
 if Region.wanted o (yielded ops a.tmps)=true then Oper.wp P o a w K Q else F:=by
 have hw:Region.wanted o (yielded ops a.tmps)=true:=by simp [Region.wanted,hgd]
 rw [if_pos hw]
 obtain ⟨z,hi,hz⟩:=EL.inf
 obtain ⟨i,hi1,hi2,hi3,hi4⟩:=info_parts hi
 obtain ⟨v',w',hrun,r1,r2,_,r4⟩:=run_append_own_at (P:=P) w base t o.type e i z size bytes EL.und hi1 hi2 hi3 hi4 hz EL.pos v xs.length (E.all xs) hown ad m c (E.all ys) (by rw [E.length_all,hl]) hc (E.one_all ys) hb2 hb hbase
 unfold Oper.wp
 simp [execOp,ho,resolve,invoke,builtin,hs,hx,hrun,Result.andThen]
 refine h v' w' ?_ r2 r4
 unfold Own;rw [E.all_append,List.length_append,hl];exact r1
theorem Elem.nod:∃ n,n≤200∧Elem Tryz.prog 23 61 14 n:=⟨136,by omega,Tryz.underlying23,⟨.agg #[.int .i64 0,.int .i64 0,.string ⟨#[]⟩,.string ⟨#[]⟩,.int .i64 0,.int .i64 0,.bool false,.bool false,.string ⟨#[]⟩,.int .i64 0,.int .i64 0,.bool false,.bool false,.slice none 0 0],by kernel_rfl,rfl⟩,by decide⟩
theorem nod_size:(Tryz.prog.info? 61).map (·.size)=some 14:=by kernel_rfl
def NdAt (w:World) (b:Nat) (n:Nd) (k:Value):Prop:=w.heap[b]? = some (.cells (nodA n k) 61)
theorem NdAt.new (w:World) (n:Nd) (k:Value):NdAt (w.alloc (.cells (nodA n k) 61)) w.heap.size n k:=(Go.MapKept.heap_alloc w _).1
theorem NdAt.below {w w':World} {B b:Nat} {n:Nd} {k:Value} (h:NdAt w b n k) (hb:Below B w w') (hB:b<B):NdAt w' b n k:=by unfold NdAt;rw [hb.block b hB];exact h
theorem NdAt.lt {w:World} {b:Nat} {n:Nd} {k:Value} (h:NdAt w b n k):b<w.heap.size:=(Array.getElem?_eq_some_iff.1 h).1
theorem NdAt.cells {w:World} {b:Nat} {n:Nd} {k:Value} (h:NdAt w b n k):w.cell? ⟨b,0,none⟩=some (.int .i64 n.kind)∧w.cell? ⟨b,1,none⟩=some (.int .i64 n.num)∧w.cell? ⟨b,2,none⟩=some (.string n.text)∧w.cell? ⟨b,3,none⟩=some (.string n.ref.sh)∧w.cell? ⟨b,4,none⟩=some (.int .i64 n.ref.c)∧w.cell? ⟨b,5,none⟩=some (.int .i64 n.ref.r)∧w.cell? ⟨b,6,none⟩=some (.bool n.ref.ac)∧w.cell? ⟨b,7,none⟩=some (.bool n.ref.ar)∧w.cell? ⟨b,8,none⟩=some (.string n.to.sh)∧w.cell? ⟨b,9,none⟩=some (.int .i64 n.to.c)∧w.cell? ⟨b,10,none⟩=some (.int .i64 n.to.r)∧w.cell? ⟨b,11,none⟩=some (.bool n.to.ac)∧w.cell? ⟨b,12,none⟩=some (.bool n.to.ar)∧w.cell? ⟨b,13,none⟩=some k :=
 ⟨by rw [cell_of_row w b 0 _ _ _ h];rfl,by rw [cell_of_row w b 1 _ _ _ h];rfl,by rw [cell_of_row w b 2 _ _ _ h];rfl,by rw [cell_of_row w b 3 _ _ _ h];rfl,by rw [cell_of_row w b 4 _ _ _ h];rfl,by rw [cell_of_row w b 5 _ _ _ h];rfl,by rw [cell_of_row w b 6 _ _ _ h];rfl,by rw [cell_of_row w b 7 _ _ _ h];rfl,by rw [cell_of_row w b 8 _ _ _ h];rfl,by rw [cell_of_row w b 9 _ _ _ h];rfl,by rw [cell_of_row w b 10 _ _ _ h];rfl,by rw [cell_of_row w b 11 _ _ _ h];rfl,by rw [cell_of_row w b 12 _ _ _ h];rfl,by rw [cell_of_row w b 13 _ _ _ h];rfl⟩
theorem Ps.row {w:World} {b:Nat} {tv:Value} {ts:List Tk} {p deep:Nat} {nv:Value} {vs:List Nv} (h:Ps w b tv ts p deep nv vs):∀ g,nv.ownBlock=some g→b<g∧NodeRow w g:=by
 intro g e
 rcases h.nodes.1.2 with ⟨h1,_⟩ | ⟨g',cap,cur,h1,h2,h3,_⟩
 · rw [h1] at e;cases e
 · rw [h1] at e;injection e with e
   have e:g'=g:=e
   subst e
   exact ⟨by omega,cur,_,h3⟩
theorem Ps.grown3 {w w':World} {b:Nat} {tv:Value} {ts:List Tk} {p deep:Nat} {nv:Value} {vs:List Nv} (h:Ps w b tv ts p deep nv vs) (hg:w.grownBy w' nv.ownBlock):w'.cell? ⟨b,3,none⟩=some nv∧w'.frozen? ⟨b,3,none⟩=false:=by
 have hbb:w'.heap[b]? = w.heap[b]? := hg.block b h.blt (by intro e;have:=(h.row b e.symm).1;omega)
 have hc:=hbb.trans h.cell
 exact ⟨by rw [cell_of_row w' b 3 _ _ _ hc];rfl,frozen_of_row w' b 3 _ _ hc⟩
theorem Ps.grow {w w':World} {b:Nat} {tv:Value} {ts:List Tk} {p deep:Nat} {nv nv':Value} {vs:List Nv} {v:Nv} (h:Ps w b tv ts p deep nv vs) (hg:w.grownBy w' nv.ownBlock) (ho:Own encNv 61 w' (b+1) nv' (vs++[v]))
 (hk:Own (encInt .i64) 3 w (b+1) v.kv v.n.kids) (hc:vs.length+1≤p):Ps (w'.setCell ⟨b,3,none⟩ nv') b tv ts p deep nv' (vs++[v])∧Fr w (w'.setCell ⟨b,3,none⟩ nv') b:=by
 have hnv:=h.row
 have hfr:Fr w w' b:=(Fr.refl w b).row hg (fun g e=>⟨(hnv g e).1,.inr (hnv g e).2⟩)
 have hbb:w'.heap[b]? = w.heap[b]? := hg.block b h.blt (by intro e;have:=(hnv b e.symm).1;omega)
 refine ⟨⟨?_, ?_,⟨ho.keep fun j hj _ _=>Below.heap_setCell _ _ _ _ (by show j≠b;omega), ?_⟩, ?_,h.lt,h.low,h.fit,h.few,by rw [List.length_append,List.length_singleton];exact hc,h.nest⟩,hfr.setCell _ _⟩
 · rw [heap_setCell_same w' b 3 _ _ _ (hbb.trans h.cell)];rfl
 · have h1:TokV w' b tv ts:=by
    obtain ⟨g,cap,h1,h2,h3⟩:=h.toks
    exact ⟨g,cap,h1,h2,h3.keep fun j _ hj e=>hfr.block j hj (by rw [h1] at e;injection e with e;have:g=j:=e;omega) (.inl (by rw [h1] at e;injection e with e;have:g=j:=e;omega))⟩
   exact h1.set _ _
 · intro u hu
   have h1:Own (encInt .i64) 3 w (b+1) u.kv u.n.kids:=by
    rcases List.mem_append.1 hu with hu | hu
    · exact h.nodes.2 u hu
    · rw [List.mem_singleton.1 hu];exact hk
   exact (h1.fr hfr (by omega) (by decide)).keep fun j hj _ _=>Below.heap_setCell _ _ _ _ (by show j≠b;omega)
 · have h1:OpV w':=h.ops.keep (hfr.block _ h.ops.lt (by have:=h.low;omega) (.inl (by have:=h.low;omega)))
   exact h1.set h.low _ _
set_option maxRecDepth 100000 in
set_option maxHeartbeats 2000000 in
theorem add_any {w:World} {b:Nat} {tv:Value} {ts:List Tk} {p deep:Nat} {nv:Value} {vs:List Nv} (h:Ps w b tv ts p deep nv vs) (v:Nv) (hk:Own (encInt .i64) 3 w (b+1) v.kv v.n.kids) (hc:vs.length+1≤p) (k:Value) (hkv:v.kv=k) (n:Nd) (hn:v.n=n) :
 Calls Tryz.prog 121 #[.pointer (some ⟨b,0,none⟩),.agg #[.int .i64 n.kind,.int .i64 n.num,.string n.text,.string n.ref.sh,.int .i64 n.ref.c,.int .i64 n.ref.r,.bool n.ref.ac,.bool n.ref.ar,.string n.to.sh,.int .i64 n.to.c,.int .i64 n.to.r,.bool n.to.ac,.bool n.to.ar,k]] w fun e w'=>Fr w w' b∧e = .returned (.tuple #[])∧∃ nv',Ps w' b tv ts p deep nv' (vs++[v]):=by
 obtain ⟨eb,hEB,EL⟩:=Elem.nod
 have hal:Below w.heap.size w (w.alloc (.cells #[.int .i64 n.kind,.int .i64 n.num,.string n.text,.string n.ref.sh,.int .i64 n.ref.c,.int .i64 n.ref.r,.bool n.ref.ac,.bool n.ref.ar,.string n.to.sh,.int .i64 n.to.c,.int .i64 n.to.r,.bool n.to.ac,.bool n.to.ar,k] 61)):=(Below.refl _ _).alloc (Nat.le_refl _) _
 have HP1:=Lib.hid (h.below hal)
 have HK1:=Lib.hid (hk.alloc (.cells #[.int .i64 n.kind,.int .i64 n.num,.string n.text,.string n.ref.sh,.int .i64 n.ref.c,.int .i64 n.ref.r,.bool n.ref.ac,.bool n.ref.ar,.string n.to.sh,.int .i64 n.to.c,.int .i64 n.to.r,.bool n.to.ac,.bool n.to.ar,k] 61))
 have hx:NdAt (w.alloc (.cells #[.int .i64 n.kind,.int .i64 n.num,.string n.text,.string n.ref.sh,.int .i64 n.ref.c,.int .i64 n.ref.r,.bool n.ref.ac,.bool n.ref.ar,.string n.to.sh,.int .i64 n.to.c,.int .i64 n.to.r,.bool n.to.ac,.bool n.to.ar,k] 61)) w.heap.size n k:=NdAt.new w n k
 have h2:=h.few
 have h3:=h.lt
 have hbl:=h.blt
 have hsz:(w.alloc (.cells #[.int .i64 n.kind,.int .i64 n.num,.string n.text,.string n.ref.sh,.int .i64 n.ref.c,.int .i64 n.ref.r,.bool n.ref.ac,.bool n.ref.ar,.string n.to.sh,.int .i64 n.to.c,.int .i64 n.to.r,.bool n.to.ac,.bool n.to.ar,k] 61)).heap.size=w.heap.size+1:=by simp
 have HEL:=Lib.hid EL
 have HAL:=Lib.hid hal
 clear h hk EL hal
 go_enter Tryz.func121,Tryz.ntmps121
 go_wp2_with fail
 generalize w.alloc (.cells #[.int .i64 n.kind,.int .i64 n.num,.string n.text,.string n.ref.sh,.int .i64 n.ref.c,.int .i64 n.ref.r,.bool n.ref.ac,.bool n.ref.ar,.string n.to.sh,.int .i64 n.to.c,.int .i64 n.to.r,.bool n.to.ac,.bool n.to.ar,k] 61)=w1 at HP1 HK1 HAL hx hsz ⊢
 obtain ⟨x0,x1,x2,x3,x4,x5,x6,x7,x8,x9,x10,x11,x12,x13⟩:=hx.cells
 obtain ⟨c0,c1,c2,c3⟩:=HP1.out.facts
 have f3:=HP1.out.frozen 3
 clear hx c0 c1 c2
 have HPQ:=Lib.hid (HP1.out.drew.below ((Below.refl _ _).alloc (Nat.le_refl _) (.cells #[.int .i64 n.kind,.int .i64 n.num,.string n.text,.string n.ref.sh,.int .i64 n.ref.c,.int .i64 n.ref.r,.bool n.ref.ac,.bool n.ref.ar,.string n.to.sh,.int .i64 n.to.c,.int .i64 n.to.r,.bool n.to.ac,.bool n.to.ar,k] 61)))
 go_region_law (refine step_app_at HEL.out encNv rfl (.tmp 8) (.tmp 10) rfl (b+1) nv vs ?_ (HP1.out.nodes.1.drew.alloc _) ⟨w1.heap.size,0,none⟩ 1 1 [v] ?_ rfl ?_ ?_ ?_ ?_ ?_;go_simp;go_simp;(subst hkv;subst hn;exact cells_new (w:=w1.drew) _ _ _ rfl);exact Nat.le_trans (Nat.mul_le_mul_left _ hEB) (by omega);(unfold maxLen;omega);(simp <;> omega);intro v' wz h1 h2 h4;obtain ⟨g1,cap1,rfl,hg0,hg1,hg2,hg3⟩:=Own.some h1 (by simp);obtain ⟨d1,d2⟩:=HPQ.out.grown3 h2;have HO:=Lib.hid h1;have HG:=Lib.hid h2;clear h1 h2 h4)
 all_goals
  go_wp2_with fail
  obtain ⟨q1,q2⟩:=HPQ.out.grow HG.out HO.out (HK1.out.drew.alloc _) hc
  rw [List.length_append,List.length_singleton] at q1 q2
  have hF:=(((Fr.of b HAL.out).drew).below ((Below.refl _ _).alloc (Nat.le_refl _) (.cells #[.int .i64 n.kind,.int .i64 n.num,.string n.text,.string n.ref.sh,.int .i64 n.ref.c,.int .i64 n.ref.r,.bool n.ref.ac,.bool n.ref.ar,.string n.to.sh,.int .i64 n.to.c,.int .i64 n.to.r,.bool n.to.ac,.bool n.to.ar,k] 61))).trans q2
  first
   | exact bodyPost_ret (results_none rfl _ _ _) rfl ⟨hF,rfl,_,q1⟩
   | (go_end0;exact ⟨hF,rfl,_,q1⟩)
def Out (res:Res) (w:World) (b:Nat) (tv:Value) (ts:List Tk) (deep:Nat) (vs:List Nv) (e:Ending) (w':World):Prop :=
 Fr w w' b∧((∃ c,res = .error c∧(c=5∨c=6)∧e = .returned (.int .i64 c)) ∨
  (∃ ms a r,res = .ok (ms,a,r)∧e = .returned (.int .i64 0)∧∃ p' nv' us,ts.drop p'=r∧us.map Nv.n=ms∧(∀ u∈us,∀ g,u.kv.ownBlock=some g→w.heap.size≤g)∧Ps w' b tv ts p' deep nv' (vs++us)))
def Nv.leaf (n:Nd):Nv:=⟨n,none⟩
theorem leaf_own (w:World) (lo:Nat) (n:Nd) (h:n.kids=[]):Own (encInt .i64) 3 w lo (Nv.leaf n).kv (Nv.leaf n).n.kids:=by
 show Own (encInt .i64) 3 w lo (.slice none 0 0) n.kids
 rw [h];exact Own.nil _ _ _ _
set_option maxRecDepth 100000 in
set_option maxHeartbeats 1000000 in
theorem leaf_any {w:World} {b:Nat} {tv:Value} {ts:List Tk} {p deep:Nat} {nv:Value} {vs:List Nv} (h:Ps w b tv ts p deep nv vs) (hnx:p+1<ts.length) (n:Nd) (hn:n.kids=[]) :
 Calls Tryz.prog 123 #[.pointer (some ⟨b,0,none⟩),.agg #[.int .i64 n.kind,.int .i64 n.num,.string n.text,.string n.ref.sh,.int .i64 n.ref.c,.int .i64 n.ref.r,.bool n.ref.ac,.bool n.ref.ar,.string n.to.sh,.int .i64 n.to.c,.int .i64 n.to.r,.bool n.to.ac,.bool n.to.ar,.slice none 0 0]] w fun e w'=>Fr w w' b∧e = .returned (.int .i64 0)∧∃ nv',Ps w' b tv ts (p+1) deep nv' (vs++[Nv.leaf n]):=by
 have hal:Below w.heap.size w (w.alloc (.cells #[.int .i64 n.kind,.int .i64 n.num,.string n.text,.string n.ref.sh,.int .i64 n.ref.c,.int .i64 n.ref.r,.bool n.ref.ac,.bool n.ref.ar,.string n.to.sh,.int .i64 n.to.c,.int .i64 n.to.r,.bool n.to.ac,.bool n.to.ar,.slice none 0 0] 61)):=(Below.refl _ _).alloc (Nat.le_refl _) _
 have HP1:=Lib.hid (h.below hal)
 have hx:NdAt (w.alloc (.cells #[.int .i64 n.kind,.int .i64 n.num,.string n.text,.string n.ref.sh,.int .i64 n.ref.c,.int .i64 n.ref.r,.bool n.ref.ac,.bool n.ref.ar,.string n.to.sh,.int .i64 n.to.c,.int .i64 n.to.r,.bool n.to.ac,.bool n.to.ar,.slice none 0 0] 61)) w.heap.size n (.slice none 0 0):=NdAt.new w n _
 have h2:=h.few
 have h4:=h.cnt
 have hbl:=h.blt
 have hsz:(w.alloc (.cells #[.int .i64 n.kind,.int .i64 n.num,.string n.text,.string n.ref.sh,.int .i64 n.ref.c,.int .i64 n.ref.r,.bool n.ref.ac,.bool n.ref.ar,.string n.to.sh,.int .i64 n.to.c,.int .i64 n.to.r,.bool n.to.ac,.bool n.to.ar,.slice none 0 0] 61)).heap.size=w.heap.size+1:=by simp
 have HAL:=Lib.hid hal
 clear h hal
 go_enter Tryz.func123,Tryz.ntmps123
 go_upto_region 1 with (fail)
 generalize w.alloc (.cells #[.int .i64 n.kind,.int .i64 n.num,.string n.text,.string n.ref.sh,.int .i64 n.ref.c,.int .i64 n.ref.r,.bool n.ref.ac,.bool n.ref.ar,.string n.to.sh,.int .i64 n.to.c,.int .i64 n.to.r,.bool n.to.ac,.bool n.to.ar,.slice none 0 0] 61)=w1 at HP1 HAL hx hsz ⊢
 obtain ⟨c0,c1,c2,c3⟩:=HP1.out.facts
 have f1:=HP1.out.frozen 1
 clear c0 c2 c3
 go_upto_region 2 with (fail)
 have HP2:=Lib.hid (HP1.out.next hnx)
 have HX2:=Lib.hid (show NdAt (w1.setCell ⟨b,1,none⟩ (.int .i64 ((p:Int)+1))) w.heap.size n (.slice none 0 0) from by unfold NdAt;rw [Below.heap_setCell _ _ _ _ (by show w.heap.size≠b;omega)];exact hx)
 have HF2:=Lib.hid ((Fr.of b HAL.out).setCell 1 (.int .i64 ((p:Int)+1)))
 clear c1 f1 hx HP1 HAL hsz
 generalize w1.setCell ⟨b,1,none⟩ (.int .i64 ((p:Int)+1))=w2 at HP2 HX2 HF2 ⊢
 obtain ⟨x0,x1,x2,x3,x4,x5,x6,x7,x8,x9,x10,x11,x12,x13⟩:=HX2.out.cells
 have HA:=Lib.hid (add_any HP2.out (Nv.leaf n) (leaf_own _ _ n hn) (by omega) (.slice none 0 0) rfl n rfl)
 go_wp2_with (go_at_call 121;((with_reducible refine HA.out.mono ?_);rintro e w3 ⟨h1,rfl,nv',h3⟩;have HF3:=Lib.hid (HF2.out.trans h1);have HP3:=Lib.hid h3;clear h1 h3))
 go_ret
 exact ⟨HF3.out,rfl,_,HP3.out⟩
theorem empty_list:(⟨#[]⟩:ByteArray).toList=[]:=by rw [list_bytes]
set_option maxRecDepth 100000 in
set_option maxHeartbeats 800000 in
theorem isRange_any (s1 s2:ByteArray) (c1 r1 c2 r2:Int) (a1 b1 a2 b2:Bool) (w:World) :
 Calls Tryz.prog 143 #[.agg #[.string s1,.int .i64 c1,.int .i64 r1,.bool a1,.bool b1],.agg #[.string s2,.int .i64 c2,.int .i64 r2,.bool a2,.bool b2]] w fun e w'=>e = .returned (.bool (spanB ⟨s1,c1,r1,a1,b1⟩ ⟨s2,c2,r2,a2,b2⟩))∧Below w.heap.size w w':=by
 have hsz:(w.alloc (.cells #[.string s1,.int .i64 c1,.int .i64 r1,.bool a1,.bool b1] 59)).heap.size=w.heap.size+1:=by simp
 have h1:=RefAt.new w s1 c1 r1 a1 b1
 have h2:=RefAt.new (w.alloc (.cells #[.string s1,.int .i64 c1,.int .i64 r1,.bool a1,.bool b1] 59)) s2 c2 r2 a2 b2
 have h3:=h1.below ((Below.refl _ _).alloc (Nat.le_refl _) (.cells #[.string s2,.int .i64 c2,.int .i64 r2,.bool a2,.bool b2] 59)) h1.lt
 rw [hsz] at h2
 have HB:=Lib.hid (((Below.refl w.heap.size w).alloc (Nat.le_refl _) (.cells #[.string s1,.int .i64 c1,.int .i64 r1,.bool a1,.bool b1] 59)).alloc (by simp) (.cells #[.string s2,.int .i64 c2,.int .i64 r2,.bool a2,.bool b2] 59))
 have HS:=Lib.hid (show spanB ⟨s1,c1,r1,a1,b1⟩ ⟨s2,c2,r2,a2,b2⟩=(decide (s2=⟨#[]⟩)&&(decide (c1≤c2)&&decide (r1≤r2))) from rfl)
 clear h1
 go_enter Tryz.func143,Tryz.ntmps143
 go_upto_region 1 with (fail)
 generalize (w.alloc (.cells #[.string s1,.int .i64 c1,.int .i64 r1,.bool a1,.bool b1] 59)).alloc (.cells #[.string s2,.int .i64 c2,.int .i64 r2,.bool a2,.bool b2] 59)=w1 at h2 h3 HB ⊢
 obtain ⟨x0,x1,x2,x3,x4⟩:=h2.facts
 obtain ⟨y0,y1,y2,y3,y4⟩:=h3.facts
 clear h2 h3
 by_cases hs:s2=⟨#[]⟩
 · subst hs
   have e0:=empty_list
   by_cases hc:c1≤c2
   · by_cases hr:r1≤r2
     · have HT:=Lib.hid (show spanB ⟨s1,c1,r1,a1,b1⟩ ⟨⟨#[]⟩,c2,r2,a2,b2⟩=true by rw [HS.out,decide_eq_true hc,decide_eq_true hr];rfl)
       go_wp2_with fail
       go_ret
       exact ⟨by rw [HT.out];rfl,HB.out⟩
     · have HT:=Lib.hid (show spanB ⟨s1,c1,r1,a1,b1⟩ ⟨⟨#[]⟩,c2,r2,a2,b2⟩=false by rw [HS.out,decide_eq_true hc,decide_eq_false hr];rfl)
       go_wp2_with fail
       go_ret
       exact ⟨by rw [HT.out];rfl,HB.out⟩
   · have HT:=Lib.hid (show spanB ⟨s1,c1,r1,a1,b1⟩ ⟨⟨#[]⟩,c2,r2,a2,b2⟩=false by rw [HS.out,decide_eq_false hc];rfl)
     go_wp2_with fail
     go_ret
     exact ⟨by rw [HT.out];rfl,HB.out⟩
 · have HT:=Lib.hid (show spanB ⟨s1,c1,r1,a1,b1⟩ ⟨s2,c2,r2,a2,b2⟩=false by rw [HS.out,decide_eq_false hs];rfl)
   have e0:¬ s2.toList=[]:=by rw [← empty_list];exact text_ne _ _ hs
   have e1:s2.toList.isEmpty=false:=by simpa using e0
   clear hs
   go_wp2_with fail
   go_ret
   exact ⟨by rw [HT.out];rfl,HB.out⟩
theorem Out.leaf {res:Res} {w w':World} {b:Nat} {tv:Value} {ts:List Tk} {deep p':Nat} {vs:List Nv} {nv':Value} {n:Nd} {a:Nat} {r:List Tk} (hr:res = .ok ([n],a,r)) (hf:Fr w w' b) (hp:ts.drop p'=r) (h:Ps w' b tv ts p' deep nv' (vs++[Nv.leaf n])):Out res w b tv ts deep vs (.returned (.int .i64 0)) w' :=
 ⟨hf,.inr ⟨[n],a,r,hr,rfl,p',nv',[Nv.leaf n],hp,rfl,(by intro u hu g hg;rw [List.mem_singleton.1 hu] at hg;cases hg),h⟩⟩
theorem Out.err {res:Res} {w w':World} {b:Nat} {tv:Value} {ts:List Tk} {deep:Nat} {vs:List Nv} {c:Int} (hr:res = .error c) (hc:c=5∨c=6) (hf:Fr w w' b):Out res w b tv ts deep vs (.returned (.int .i64 c)) w':=⟨hf,.inl ⟨c,hr,hc,rfl⟩⟩
theorem RefAt.set {w:World} {b:Nat} {s:ByteArray} {c r:Int} {ac ar:Bool} (h:RefAt w b s c r ac ar) {g:Nat} (hg:b≠g) (o:Nat) (v:Value):RefAt (w.setCell ⟨g,o,none⟩ v) b s c r ac ar:=by
 unfold RefAt;rw [Below.heap_setCell _ _ _ _ (by exact hg)];exact h
theorem RefAt.fr {w w':World} {b g:Nat} {s:ByteArray} {c r:Int} {ac ar:Bool} (h:RefAt w g s c r ac ar) (hf:Fr w w' b) (hg:g≠b):RefAt w' g s c r ac ar:=by
 unfold RefAt;rw [hf.block g h.lt hg (.inr (by rintro ⟨cur,fr,e⟩;unfold RefAt at h;rw [h] at e;injection e with e;injection e with _ e;exact absurd e (by decide)))];exact h
set_option maxRecDepth 100000 in
set_option maxHeartbeats 2000000 in
theorem place_any {w:World} {b:Nat} {tv:Value} {ts:List Tk} {p deep:Nat} {nv:Value} {vs:List Nv} (h:Ps w b tv ts p deep nv vs) (t:Tk) (hnx:p+1<ts.length) (base:Nat) :
 Calls Tryz.prog 124 #[.pointer (some ⟨b,0,none⟩),.agg #[.string t.sh,.int .i64 t.c,.int .i64 t.r,.bool t.ac,.bool t.ar]] w (Out (refP base t (ts.drop (p+1))) w b tv ts deep vs):=by
 have hal:Below w.heap.size w (w.alloc (.cells #[.string t.sh,.int .i64 t.c,.int .i64 t.r,.bool t.ac,.bool t.ar] 59)):=(Below.refl _ _).alloc (Nat.le_refl _) _
 have HP1:=Lib.hid (h.below hal)
 have hx:=RefAt.new w t.sh t.c t.r t.ac t.ar
 have h2:=h.few
 have hct:=h.cnt
 have hbl:=h.blt
 have HAL:=Lib.hid hal
 clear h hal
 go_enter Tryz.func124,Tryz.ntmps124
 go_upto_region 1 with (fail)
 generalize w.alloc (.cells #[.string t.sh,.int .i64 t.c,.int .i64 t.r,.bool t.ac,.bool t.ar] 59)=w1 at HP1 HAL hx ⊢
 obtain ⟨c0,c1,c2,c3⟩:=HP1.out.facts
 have f1:=HP1.out.frozen 1
 clear c0 c2 c3
 go_upto_region 2 with (fail)
 have HP2:=Lib.hid (HP1.out.next hnx)
 have HX2:=Lib.hid (hx.set (show w.heap.size≠b by omega) 1 (.int .i64 ((p:Int)+1)))
 have HF2:=Lib.hid ((Fr.of b HAL.out).setCell 1 (.int .i64 ((p:Int)+1)))
 clear c1 f1 hx HP1 HAL
 generalize w1.setCell ⟨b,1,none⟩ (.int .i64 ((p:Int)+1))=w2 at HP2 HX2 HF2 ⊢
 have HT:=Lib.hid (ptake_any HP2.out ⟨#[58]⟩)
 have hw0:w.heap.size≠b:=by omega
 cases hq:signIs ⟨#[58]⟩ (ts.drop (p+1))
 · rw [hq,if_neg (by decide)] at HT
   have HR:=Lib.hid (show refP base t (ts.drop (p+1)) = .ok ([{ Nd.zero with kind:=5,ref:=t.rf }],base,ts.drop (p+1)) by unfold refP;rw [hq,if_neg (by decide)])
   clear hq
   go_upto_region 3 with (go_at_call 161;((with_reducible refine HT.out.mono ?_);rintro e w3 ⟨h1,rfl,h3⟩;have HF3:=Lib.hid (HF2.out.trans h1);have HX3:=Lib.hid (HX2.out.fr h1 hw0);have HP3:=Lib.hid h3;clear h1 h3))
   obtain ⟨x0,x1,x2,x3,x4⟩:=HX3.out.facts
   have HA:=Lib.hid (show Calls Tryz.prog 121 #[.pointer (some ⟨b,0,none⟩),.agg #[.int .i64 5,.int .i64 0,.string ⟨#[]⟩,.string t.sh,.int .i64 t.c,.int .i64 t.r,.bool t.ac,.bool t.ar,.string ⟨#[]⟩,.int .i64 0,.int .i64 0,.bool false,.bool false,.slice none 0 0]] w3 _ from add_any HP3.out (Nv.leaf { Nd.zero with kind:=5,ref:=t.rf }) (leaf_own _ _ _ rfl) (by omega) (.slice none 0 0) rfl { Nd.zero with kind:=5,ref:=t.rf } rfl)
   go_wp2_with (go_at_call 121;((with_reducible refine HA.out.mono ?_);rintro e w4 ⟨h1,rfl,nv',h3⟩;have HF4:=Lib.hid (HF3.out.trans h1);have HP4:=Lib.hid h3;clear h1 h3))
   go_ret
   exact Out.leaf HR.out HF4.out rfl HP4.out
 · have hnx2:=sign_next HP2.out hq
   rw [hq,if_pos rfl] at HT
   obtain ⟨u,hu⟩:∃ u,ts[p+2]? = some u:=⟨_,List.getElem?_eq_getElem hnx2⟩
   have hd:(ts.drop (p+1)).tail=u :: ts.drop (p+3):=by
    rw [List.tail_drop,List.drop_eq_getElem_cons hnx2]
    rw [List.getElem?_eq_getElem hnx2] at hu;rw [Option.some.inj hu]
   have hR:refP base t (ts.drop (p+1))=if u.kind=4∧spanB t.rf u.rf=true then .ok ([(⟨6,0,⟨#[]⟩,t.rf,u.rf,[]⟩:Nd)],base,ts.drop (p+3)) else .error 5:=by
    unfold refP;rw [hq,if_pos rfl,hd] <;> rfl
   clear hq hd
   go_upto_region 6 with (first
    | (go_at_call 161;((with_reducible refine HT.out.mono ?_);rintro e w3 ⟨h1,rfl,h3⟩;have HF3:=Lib.hid (HF2.out.trans h1);have HX3:=Lib.hid (HX2.out.fr h1 hw0);have HP3:=Lib.hid h3;have HTK:=Lib.hid (ptoken_any h3 u hu);clear h1 h3))
    | (go_at_call 39;((with_reducible refine HTK.out.mono ?_);rintro e w4 ⟨rfl,h1⟩;have HF4:=Lib.hid (HF3.out.below h1);have HX4:=Lib.hid (HX3.out.below h1 HX3.out.lt);have HP4:=Lib.hid (HP3.out.below h1);clear h1)))
   have hB:Below w4.heap.size w4 (w4.alloc (.cells #[.int .i64 u.kind,.string u.text,.int .i64 u.num,.string u.sh,.int .i64 u.c,.int .i64 u.r,.bool u.ac,.bool u.ar,.int .i64 u.pos] 86)):=(Below.refl _ _).alloc (Nat.le_refl _) _
   have HN5:TkAt (w4.alloc (.cells #[.int .i64 u.kind,.string u.text,.int .i64 u.num,.string u.sh,.int .i64 u.c,.int .i64 u.r,.bool u.ac,.bool u.ar,.int .i64 u.pos] 86)) w4.heap.size u:=TkAt.new w4 u
   have HF5:=Lib.hid (HF4.out.below hB)
   have HX5:=Lib.hid (HX4.out.below hB HX4.out.lt)
   have HP5:=Lib.hid (HP4.out.below hB)
   clear hB HF3 HX3 HP3 HTK HF4 HX4 HP4 HT HX2 HP2 HF2
   generalize hb4:w4.heap.size=b4 at HN5 ⊢
   generalize w4.alloc (.cells #[.int .i64 u.kind,.string u.text,.int .i64 u.num,.string u.sh,.int .i64 u.c,.int .i64 u.r,.bool u.ac,.bool u.ar,.int .i64 u.pos] 86)=w5 at HN5 HF5 HX5 HP5 ⊢
   clear hb4
   obtain ⟨x0,x1,x2,x3,x4,x5,x6,x7,x8⟩:=HN5.cells
   obtain ⟨y0,y1,y2,y3,y4⟩:=HX5.out.facts
   by_cases h4:u.kind=4
   · have e4:(u.kind != 4)=false:=by rw [h4];rfl
     have e5:(u.kind == 4)=true:=beq_iff_eq.2 h4
     have HI:=Lib.hid (isRange_any t.sh u.sh t.c t.r u.c u.r t.ac t.ar u.ac u.ar w5)
     cases hs:spanB t.rf u.rf
     · have HR:=Lib.hid (show refP base t (ts.drop (p+1)) = .error 5 by rw [hR,hs,if_neg (by simp)])
       have HS:=Lib.hid (show spanB ⟨t.sh,t.c,t.r,t.ac,t.ar⟩ ⟨u.sh,u.c,u.r,u.ac,u.ar⟩=false from hs)
       rw [HS.out] at HI
       clear hR hs h4
       go_wp2_with (go_at_call 143;((with_reducible refine HI.out.mono ?_);rintro e w6 ⟨rfl,h1⟩;have HF6:=Lib.hid (HF5.out.below h1);clear h1))
       go_ret
       exact Out.err HR.out (.inl rfl) HF6.out
     · have HR:=Lib.hid (show refP base t (ts.drop (p+1)) = .ok ([(⟨6,0,⟨#[]⟩,t.rf,u.rf,[]⟩:Nd)],base,ts.drop (p+3)) by rw [hR,hs,if_pos ⟨h4,rfl⟩])
       have HS:=Lib.hid (show spanB ⟨t.sh,t.c,t.r,t.ac,t.ar⟩ ⟨u.sh,u.c,u.r,u.ac,u.ar⟩=true from hs)
       rw [HS.out] at HI
       have HNX:=Lib.hid (HP5.out.fit.next hu (by omega))
       have HN5:=Lib.hid HN5
       clear hR hs h4 x0 x1 x2 x3 x4 x5 x6 x7 x8 y0 y1 y2 y3 y4
       obtain ⟨x0,x1,x2,x3,x4,x5,x6,x7,x8⟩:=HN5.out.cells
       obtain ⟨y0,y1,y2,y3,y4⟩:=HX5.out.facts
       go_upto_region 8 with (go_at_call 143;((with_reducible refine HI.out.mono ?_);rintro e w6 ⟨rfl,h1⟩;have HF6:=Lib.hid (HF5.out.below h1);have HP6:=Lib.hid (HP5.out.below h1);have HX6:=Lib.hid (HX5.out.below h1 HX5.out.lt);have HN6:=Lib.hid (HN5.out.below h1 HN5.out.lt);clear h1))
       clear x0 x1 x2 x3 x4 x5 x6 x7 x8 y0 y1 y2 y3 y4
       obtain ⟨x0,x1,x2,x3,x4,x5,x6,x7,x8⟩:=HN6.out.cells
       obtain ⟨y0,y1,y2,y3,y4⟩:=HX6.out.facts
       have HA:=Lib.hid (show Calls Tryz.prog 123 #[.pointer (some ⟨b,0,none⟩),.agg #[.int .i64 6,.int .i64 0,.string ⟨#[]⟩,.string t.sh,.int .i64 t.c,.int .i64 t.r,.bool t.ac,.bool t.ar,.string u.sh,.int .i64 u.c,.int .i64 u.r,.bool u.ac,.bool u.ar,.slice none 0 0]] w6 _ from leaf_any HP6.out HNX.out (⟨6,0,⟨#[]⟩,t.rf,u.rf,[]⟩:Nd) rfl)
       go_wp2_with (go_at_call 123;((with_reducible refine HA.out.mono ?_);rintro e w7 ⟨h1,rfl,nv',h3⟩;have HF7:=Lib.hid (HF6.out.trans h1);have HP7:=Lib.hid h3;clear h1 h3))
       go_ret
       exact Out.leaf HR.out HF7.out rfl HP7.out
   · have e4:(u.kind != 4)=true:=by rw [bne_iff_ne];exact h4
     have e5:(u.kind == 4)=false:=beq_eq_false_iff_ne.2 h4
     have HR:=Lib.hid (show refP base t (ts.drop (p+1)) = .error 5 by rw [hR,if_neg (fun h=>h4 h.1)])
     clear hR h4
     go_wp2_with fail
     go_ret
     exact Out.err HR.out (.inl rfl) HF5.out
theorem Out.ret {res:Res} {w w':World} {b:Nat} {tv:Value} {ts:List Tk} {deep:Nat} {vs:List Nv} {e:Ending} (h:Out res w b tv ts deep vs e w'):∃ c,e = .returned (.int .i64 c):=by
 rcases h.2 with ⟨c,_,_,h⟩ | ⟨_,_,_,_,h,_⟩
 · exact ⟨c,h⟩
 · exact ⟨0,h⟩
theorem Out.bad {res:Res} {w w':World} {b:Nat} {tv:Value} {ts:List Tk} {deep:Nat} {vs:List Nv} {e:Ending} {c:Int} (h:Out res w b tv ts deep vs e w') (hr:res = .error c):Fr w w' b∧(c=5∨c=6)∧e = .returned (.int .i64 c):=by
 rcases h.2 with ⟨c',h1,h2,h3⟩ | ⟨ms,a,r,h1,_⟩
 · rw [hr] at h1;injection h1 with h1;subst h1;exact ⟨h.1,h2,h3⟩
 · rw [hr] at h1;cases h1
theorem Out.good {res:Res} {w w':World} {b:Nat} {tv:Value} {ts:List Tk} {deep:Nat} {vs:List Nv} {e:Ending} {ms:List Nd} {a:Nat} {r:List Tk} (h:Out res w b tv ts deep vs e w') (hr:res = .ok (ms,a,r)) :
 Fr w w' b∧e = .returned (.int .i64 0)∧∃ p' nv' us,ts.drop p'=r∧us.map Nv.n=ms∧(∀ u∈us,∀ g,u.kv.ownBlock=some g→w.heap.size≤g)∧Ps w' b tv ts p' deep nv' (vs++us):=by
 rcases h.2 with ⟨c',h1,h2,h3⟩ | ⟨ms',a',r',h1,h2,h3⟩
 · rw [hr] at h1;cases h1
 · rw [hr] at h1;injection h1 with h1;injection h1 with e1 e2;injection e2 with e2 e3;subst e1;subst e3;exact ⟨h.1,h2,h3⟩
theorem root_is {w:World} {b:Nat} {tv:Value} {ts:List Tk} {p deep:Nat} {nv:Value} {vs:List Nv} (h:Ps w b tv ts p deep nv vs) (a:Nat) (ha:a+1=vs.length) :
 Calls Tryz.prog 122 #[.pointer (some ⟨b,0,none⟩)] w fun e w'=>e = .returned (.int .i64 (a:Int))∧w=w':=by
 have:=root_any h (by omega)
 rw [show (vs.length:Int) - 1=(a:Int) by omega] at this;exact this
theorem own_lit2 (w:World) (base:Nat) (x y:Int) (hb:base≤w.heap.size):Own (encInt .i64) 3 (w.alloc (.cells #[.int .i64 x,.int .i64 y] 3)) base (.slice (some ⟨w.heap.size,0,none⟩) 2 2) [x,y] :=
 ⟨rfl,.inr ⟨w.heap.size,2,_,rfl,hb,(Go.MapKept.heap_alloc w _).1,Nat.le_refl _,by decide,rfl,rfl⟩⟩
theorem own_lit1 (w:World) (base:Nat) (x:Int) (hb:base≤w.heap.size):Own (encInt .i64) 3 (w.alloc (.cells #[.int .i64 x] 3)) base (.slice (some ⟨w.heap.size,0,none⟩) 1 1) [x] :=
 ⟨rfl,.inr ⟨w.heap.size,1,_,rfl,hb,(Go.MapKept.heap_alloc w _).1,Nat.le_refl _,by decide,rfl,rfl⟩⟩
def EX (f:Nat):Prop:=∀ (n deep:Nat) (res:Res) (w:World) (b:Nat) (tv:Value) (ts:List Tk) (p:Nat) (nv:Value) (vs:List Nv),n≤4→Ps w b tv ts p deep nv vs→exprP f n deep vs.length (ts.drop p)=some res →
 Calls Tryz.prog 38 #[.pointer (some ⟨b,0,none⟩),.int .i64 (n:Int)] w (Out res w b tv ts deep vs)
theorem count_at {f n deep base:Nat} {ts:List Tk} {p p':Nat} {ns:List Nd} {a:Nat} {r:List Tk} (h:exprP f n deep base (ts.drop p)=some (.ok (ns,a,r))) (hr:ts.drop p'=r) (hl:p'<ts.length):ns.length+p≤p'∧a+1=base+ns.length∧1≤ns.length:=by
 have h1:=(count_all f).1 _ _ _ _ _ _ _ h
 have h2:=(told_all f).1 _ _ _ _ _ _ _ h
 subst hr
 rw [List.length_drop,List.length_drop] at h1
 exact ⟨by omega,h2.2.1,h2.2.2⟩
set_option maxRecDepth 100000 in
set_option maxHeartbeats 4000000 in
theorem row_any (f:Nat) (IH:∀ g,g≤f→EX g) (n:Nat) (hn:n≤3) {w:World} {b:Nat} {tv:Value} {ts:List Tk} {p deep:Nat} {nv:Value} {vs:List Nv} (h:Ps w b tv ts p deep nv vs) (res:Res)
 (hres:bindR (exprP f (n+1) deep vs.length (ts.drop p)) (fun ns a r=>rowP f n deep vs.length ns a r)=some res) :
 Calls Tryz.prog 118 #[.pointer (some ⟨b,0,none⟩),.int .i64 (n:Int)] w (Out res w b tv ts deep vs):=by
 have hw1 : -9223372036854775808≤(n:Int)+1:=by omega
 have hw2:(n:Int)+1≤9223372036854775807:=by omega
 have hn4:n+1≤4:=by omega
 rcases bindR_some hres with ⟨c,h1,rfl⟩ | ⟨ns,a,r,h1,h2⟩
 · have HL:=Lib.hid (show Calls Tryz.prog 38 #[.pointer (some ⟨b,0,none⟩),.int .i64 ((n:Int)+1)] w (Out (.error c) w b tv ts deep vs) from IH f (Nat.le_refl _) (n+1) deep _ w b tv ts p nv vs hn4 h h1)
   clear hres h1 IH h
   go_enter Tryz.func118,Tryz.ntmps118
   go_wp2_with (go_at_call 38;((with_reducible refine HL.out.mono ?_);intro e w2 ho;obtain ⟨hf,hc,rfl⟩:=ho.bad rfl;have HF:=Lib.hid hf;have HC:=Lib.hid hc;have hc0:(c != 0)=true:=(by rw [bne_iff_ne];rcases hc with h | h <;> omega);clear hf hc ho))
   go_ret
   exact Out.err rfl HC.out HF.out
 · have HL := Lib.hid (show Calls Tryz.prog 38 #[.pointer (some ⟨b,0,none⟩),.int .i64 ((n:Int)+1)] w (Out (.ok (ns,a,r)) w b tv ts deep vs) from IH f (Nat.le_refl _) (n+1) deep _ w b tv ts p nv vs hn4 h h1)
   have HIH:=Lib.hid IH
   have H1:=Lib.hid h1
   have H2:=Lib.hid h2
   have hcn:=h.cnt
   have HP:=Lib.hid h
   clear hres h1 h2 IH h
   go_enter Tryz.func118,Tryz.ntmps118
   go_upto_region 4 with (go_at_call 38;((with_reducible refine HL.out.mono ?_);intro e w2 ho;obtain ⟨hf,rfl,p1,nv1,us1,hp1,hu1,hk1,hps1⟩:=ho.good rfl;have HF1:=Lib.hid hf;have HP1:=Lib.hid hps1;have HD1:=Lib.hid hp1;have HU1:=Lib.hid hu1;have HK1:=Lib.hid hk1;clear hf ho hp1 hu1 hk1 hps1))
   go_loopw [] (fun wr=>∃ (g:Nat) (ns':List Nd) (a' p':Nat) (nv':Value) (us:List Nv),g≤f∧a'+1=vs.length+ns'.length∧us.length=ns'.length∧Hid (rowP g n deep vs.length ns' a' (ts.drop p')=some res)∧Hid (us.map Nv.n=ns')∧Hid (∀ u∈us,∀ j,u.kv.ownBlock=some j→w.heap.size≤j)∧Hid (Ps wr b tv ts p' deep nv' (vs++us))∧Hid (Fr w wr b))
    (fun wr=>psm b ts.length wr)
   case atStart =>
    have h3:=count_at H1.out HD1.out HP1.out.lt
    refine ⟨f,ns,a,p1,nv1,us1,Nat.le_refl _,h3.2.1,by rw [← HU1.out,List.length_map], ?_,HU1,HK1,HP1,HF1⟩
    rw [HD1.out];exact H2
   case round =>
    clear HL H1 H2 HF1 HP1 HD1 HU1 HK1
    obtain ⟨g,ns',a',p',nv',us,hg,ha,hul,HR,HU,HK,HPr,HF⟩:=hrel
    have hlt:=HPr.out.lt
    have hfew:=HPr.out.few
    have hcnt:=HPr.out.cnt
    rw [List.length_append] at hcnt
    have HM:=Lib.hid (HPr.out.psm ts.length)
    have HO:=Lib.hid (operator_any HPr.out n hn)
    match g,hg,HR with
    | 0,_,HR=>have:=HR.out;unfold rowP at this;cases this
    | g+1,hg,HR =>
    have hr:=HR.out
    rw [rowP_succ] at hr
    by_cases h0:opK n (ts.drop p')=0
    · rw [if_pos h0] at hr
      injection hr with hr
      have HRS:=Lib.hid hr.symm
      rw [h0] at HO
      have HO:=Lib.hid (show Calls Tryz.prog 160 #[.pointer (some ⟨b,0,none⟩),.int .i64 (n:Int)] wr fun e w'=>e = .returned (.tuple #[.int .i64 0,.bool false])∧Below wr.heap.size wr w' from HO.out)
      clear hr h0 HR
      go_wp2_with (go_at_call 160;((with_reducible refine HO.out.mono ?_);rintro e w3 ⟨rfl,h1⟩;have HF3:=Lib.hid (HF.out.below h1);have HP3:=Lib.hid (HPr.out.below h1);clear h1))
      go_ret
      exact ⟨HF3.out,.inr ⟨_,_,_,HRS.out,rfl,p',nv',us,rfl,HU.out,HK.out,HP3.out⟩⟩
    · rw [if_neg h0] at hr
      obtain ⟨kd,hkd⟩:∃ kd,opK n (ts.drop p')=kd:=⟨_,rfl⟩
      obtain ⟨q,hq1,hq2,hq3⟩:=opK_pos h0
      have hnx:=sign_next HPr.out hq2
      clear hq1 hq2 hq3 q
      rw [hkd] at HO hr h0
      have HO:=Lib.hid (show Calls Tryz.prog 160 #[.pointer (some ⟨b,0,none⟩),.int .i64 (n:Int)] wr fun e w'=>e = .returned (.tuple #[.int .i64 kd,.bool true])∧Below wr.heap.size wr w' by have:=HO.out;rw [decide_eq_true h0] at this;exact this)
      rw [List.tail_drop] at hr
      have hbase:vs.length+ns'.length=(vs++us).length:=by rw [List.length_append,hul]
      rw [hbase] at hr
      have HRR:=Lib.hid hr
      clear hr h0 HR hkd
      go_upto_region 7 with (go_at_call 160;((with_reducible refine HO.out.mono ?_);rintro e w3 ⟨rfl,h1⟩;have HF3:=Lib.hid (HF.out.below h1);have HP3:=Lib.hid (HPr.out.below h1);clear h1))
      clear HO HF HPr
      obtain ⟨c0,c1,c2,c3⟩:=HP3.out.facts
      have f1:=HP3.out.frozen 1
      clear c0 c2 c3
      go_upto_region 8 with (fail)
      have HP4:=Lib.hid (HP3.out.next hnx)
      have HF4:=Lib.hid (HF3.out.setCell 1 (.int .i64 ((p':Int)+1)))
      clear c1 f1 HP3 HF3
      generalize w3.setCell ⟨b,1,none⟩ (.int .i64 ((p':Int)+1))=w4 at HP4 HF4 ⊢
      have HRT:=Lib.hid (root_is HP4.out a' (by rw [ha,hbase]))
      rcases bindR_some HRR.out with ⟨c,h1,h2⟩ | ⟨ms,b2,r2,h1,h2⟩
      · subst h2
        have HL:=Lib.hid (show Calls Tryz.prog 38 #[.pointer (some ⟨b,0,none⟩),.int .i64 ((n:Int)+1)] w4 (Out (.error c) w4 b tv ts deep (vs++us)) from HIH.out g (by omega) (n+1) deep _ w4 b tv ts (p'+1) nv' (vs++us) hn4 HP4.out h1)
        clear h1 HRR
        go_wp2_with (first
         | (go_at_call 122;((with_reducible refine HRT.out.mono ?_);rintro e wn ⟨rfl,rfl⟩))
         | (go_at_call 38;((with_reducible refine HL.out.mono ?_);intro e w5 ho;obtain ⟨hf,hc,rfl⟩:=ho.bad rfl;have HF5:=Lib.hid (HF4.out.trans hf);have HC:=Lib.hid hc;have hc0:(c != 0)=true:=(by rw [bne_iff_ne];rcases hc with h | h <;> omega);clear hf hc ho)))
        go_ret
        exact Out.err rfl HC.out HF5.out
      · have HL := Lib.hid (show Calls Tryz.prog 38 #[.pointer (some ⟨b,0,none⟩),.int .i64 ((n:Int)+1)] w4 (Out (.ok (ms,b2,r2)) w4 b tv ts deep (vs++us)) from HIH.out g (by omega) (n+1) deep _ w4 b tv ts (p'+1) nv' (vs++us) hn4 HP4.out h1)
        have H1:=Lib.hid h1
        have H2:=Lib.hid h2
        clear h1 h2 HRR
        go_upto_region 12 with (first
         | (go_at_call 122;((with_reducible refine HRT.out.mono ?_);rintro e wn ⟨rfl,rfl⟩))
         | (go_at_call 38;((with_reducible refine HL.out.mono ?_);intro e w5 ho;obtain ⟨hf,rfl,p5,nv5,us5,hp5,hu5,hk5,hps5⟩:=ho.good rfl;have HS5:=Lib.hid hf.size;have HF5:=Lib.hid (HF4.out.trans hf);have HP5:=Lib.hid hps5;have HD5:=Lib.hid hp5;have HU5:=Lib.hid hu5;have HK5:=Lib.hid hk5;clear hf ho hp5 hu5 hk5 hps5)))
        obtain ⟨hc1,hc2,hc3⟩:=count_at H1.out HD5.out HP5.out.lt
        have hus5:us5.length=ms.length:=by rw [← HU5.out,List.length_map]
        have hlen5:((vs++us)++us5).length=vs.length+us.length+us5.length:=by rw [List.length_append,List.length_append]
        have hlen4:(vs++us).length=vs.length+us.length:=List.length_append
        have HRT5:=Lib.hid (root_is HP5.out b2 (by omega))
        have hbl:=HP5.out.blt
        have hB6:Below w5.heap.size w5 (w5.alloc (.cells #[.int .i64 (a':Int),.int .i64 (b2:Int)] 3)):=(Below.refl _ _).alloc (Nat.le_refl _) _
        have HP6:=Lib.hid (HP5.out.below hB6)
        have HF6:=Lib.hid (HF5.out.below hB6)
        have HA:=Lib.hid (show Calls Tryz.prog 121 #[.pointer (some ⟨b,0,none⟩),.agg #[.int .i64 kd,.int .i64 0,.string ⟨#[]⟩,.string ⟨#[]⟩,.int .i64 0,.int .i64 0,.bool false,.bool false,.string ⟨#[]⟩,.int .i64 0,.int .i64 0,.bool false,.bool false,.slice (some ⟨w5.heap.size,0,none⟩) 2 2]] (w5.alloc (.cells #[.int .i64 (a':Int),.int .i64 (b2:Int)] 3)) _ from add_any HP6.out ⟨{ Nd.zero with kind:=kd,kids:=[(a':Int),(b2:Int)] },some (w5.heap.size,2)⟩ (own_lit2 w5 (b+1) (a':Int) (b2:Int) (by omega)) (by omega) (.slice (some ⟨w5.heap.size,0,none⟩) 2 2) rfl { Nd.zero with kind:=kd,kids:=[(a':Int),(b2:Int)] } rfl)
        clear hB6 HL HRT
        go_wp2_with (first
         | (go_at_call 122;((with_reducible refine HRT5.out.mono ?_);rintro e wn ⟨rfl,rfl⟩))
         | (go_at_call 121;((with_reducible refine HA.out.mono ?_);rintro e w7 ⟨h1,rfl,nv7,h3⟩;have HF7:=Lib.hid (HF6.out.trans h1);have HP7:=Lib.hid h3;clear h1 h3)))
        go_roundw
        case rel =>
         refine ⟨g,ns'++(ms++[{ Nd.zero with kind:=kd,kids:=[(a':Int),(b2:Int)] }]),vs.length+(ns'.length+ms.length),p5,nv7,us++(us5++[⟨{ Nd.zero with kind:=kd,kids:=[(a':Int),(b2:Int)] },some (w5.heap.size,2)⟩]),by omega, ?_, ?_, ?_, ?_, ?_, ?_,HF7⟩
         rotate_left 2
         · rw [HD5.out];exact H2
         · refine Lib.hid ?_
           rw [List.map_append,List.map_append,HU.out,HU5.out];rfl
         · refine Lib.hid ?_
           intro u hu j hj
           rcases List.mem_append.1 hu with hu | hu
           · exact HK.out u hu j hj
           · rcases List.mem_append.1 hu with hu | hu
             · have:=HK5.out u hu j hj;have:=HF4.out.size;omega
             · rw [List.mem_singleton.1 hu] at hj
               have hj:some w5.heap.size=some j:=hj
               injection hj with hj
               have:=HF5.out.size;omega
         · rw [← List.append_assoc, ← List.append_assoc];exact HP7
         · rw [List.length_append,List.length_append,List.length_singleton];omega
         · rw [List.length_append,List.length_append,List.length_append,List.length_append,List.length_singleton,List.length_singleton];omega
        case measure =>
         have h1:=HP7.out.psm ts.length
         rw [HM.out,h1];omega
def brP (f deep base:Nat) (ts:List Tk):Option Res :=
 if signIs ⟨#[40]⟩ ts=true then
  if 12≤deep then some (.error 6)
  else bindR (exprP f 0 (deep+1) base ts.tail) fun ns a r=>if signIs ⟨#[41]⟩ r=true then some (.ok (ns,a,r.tail)) else some (.error 5)
 else some (.error 5)
set_option maxRecDepth 100000 in
set_option maxHeartbeats 2000000 in
theorem inBrackets_any (f:Nat) (IH:EX f) {w:World} {b:Nat} {tv:Value} {ts:List Tk} {p deep:Nat} {nv:Value} {vs:List Nv} (h:Ps w b tv ts p deep nv vs) (res:Res) (hres:brP f deep vs.length (ts.drop p)=some res) :
 Calls Tryz.prog 126 #[.pointer (some ⟨b,0,none⟩)] w (Out res w b tv ts deep vs):=by
 have HS:=Lib.hid (isSign_any h ⟨#[40]⟩)
 unfold brP at hres
 have HP:=Lib.hid h
 cases hq:signIs ⟨#[40]⟩ (ts.drop p)
 · rw [hq,if_neg (by decide)] at hres
   injection hres with hres
   have HR:=Lib.hid hres.symm
   rw [hq] at HS
   clear hq hres h
   go_enter Tryz.func126,Tryz.ntmps126
   go_wp2_with (go_at_call 119;((with_reducible refine HS.out.mono ?_);rintro e w1 ⟨rfl,h1⟩;have HB:=Lib.hid h1;clear h1))
   go_ret
   exact Out.err HR.out (.inl rfl) (Fr.of b HB.out)
 · have hnx:=sign_next h hq
   rw [hq,if_pos rfl] at hres
   rw [hq] at HS
   by_cases hd:12≤deep
   · rw [if_pos hd] at hres
     injection hres with hres
     have HR:=Lib.hid hres.symm
     clear hq hres h
     go_enter Tryz.func126,Tryz.ntmps126
     go_wp2_with (first
      | (go_at_call 119;((with_reducible refine HS.out.mono ?_);rintro e w1 ⟨rfl,h1⟩;have HF1:=Lib.hid (Fr.of b h1);have HO1:=Lib.hid (popen_any (HP.out.below h1) hnx);clear h1))
      | (go_at_call 120;((with_reducible refine HO1.out.mono ?_);rintro e w2 ⟨h1,⟨-,rfl⟩ | ⟨h2, -⟩⟩;rotate_left;exact absurd hd h2;have HF2:=Lib.hid (HF1.out.trans h1);clear h1)))
     go_ret
     exact Out.err HR.out (.inr rfl) HF2.out
   · rw [if_neg hd,List.tail_drop] at hres
     rcases bindR_some hres with ⟨c,h1,rfl⟩ | ⟨ns,a,r,h1,h2⟩
     · have HI:=Lib.hid (fun w2 hps=>IH 0 (deep+1) _ w2 b tv ts (p+1) nv vs (by omega) hps h1)
       clear hq hres h IH h1
       go_enter Tryz.func126,Tryz.ntmps126
       go_wp2_with (first
        | (go_at_call 119;((with_reducible refine HS.out.mono ?_);rintro e w1 ⟨rfl,h1⟩;have HF1:=Lib.hid (Fr.of b h1);have HO1:=Lib.hid (popen_any (HP.out.below h1) hnx);clear h1))
        | (go_at_call 120;((with_reducible refine HO1.out.mono ?_);rintro e w2 ⟨h1,⟨h2, -⟩ | ⟨-,rfl,h3⟩⟩;exact absurd h2 hd;have HF2:=Lib.hid (HF1.out.trans h1);have HL:=Lib.hid (show Calls Tryz.prog 38 #[.pointer (some ⟨b,0,none⟩),.int .i64 0] w2 (Out (.error c) w2 b tv ts (deep+1) vs) from HI.out w2 h3);clear h1 h3))
        | (go_at_call 38;((with_reducible refine HL.out.mono ?_);intro e w5 ho;obtain ⟨hf,hc,rfl⟩:=ho.bad rfl;have HF5:=Lib.hid (HF2.out.trans hf);have HC:=Lib.hid hc;have hc0:(c != 0)=true:=(by rw [bne_iff_ne];rcases hc with h | h <;> omega);clear hf hc ho)))
       go_ret
       exact Out.err rfl HC.out HF5.out
     · have HI:=Lib.hid (fun w2 hps=>IH 0 (deep+1) _ w2 b tv ts (p+1) nv vs (by omega) hps h1)
       have H2:=Lib.hid h2
       clear hq hres h IH h1 h2
       go_enter Tryz.func126,Tryz.ntmps126
       go_upto_region 9 with (first
        | (go_at_call 119;((with_reducible refine HS.out.mono ?_);rintro e w1 ⟨rfl,h1⟩;have HF1:=Lib.hid (Fr.of b h1);have HZ1:=Lib.hid h1.size;have HO1:=Lib.hid (popen_any (HP.out.below h1) hnx);clear h1))
        | (go_at_call 120;((with_reducible refine HO1.out.mono ?_);rintro e w2 ⟨h1,⟨h2, -⟩ | ⟨-,rfl,h3⟩⟩;exact absurd h2 hd;have HF2:=Lib.hid (HF1.out.trans h1);have HL:=Lib.hid (show Calls Tryz.prog 38 #[.pointer (some ⟨b,0,none⟩),.int .i64 0] w2 (Out (.ok (ns,a,r)) w2 b tv ts (deep+1) vs) from HI.out w2 h3);clear h1 h3))
        | (go_at_call 38;((with_reducible refine HL.out.mono ?_);intro e w5 ho;obtain ⟨hf,rfl,p5,nv5,us5,hp5,hu5,hk5,hps5⟩:=ho.good rfl;have HF5:=Lib.hid (HF2.out.trans hf);have HC5:=Lib.hid (pclose_any hps5);have HD5:=Lib.hid hp5;have HU5:=Lib.hid hu5;have HK5:=Lib.hid hk5;clear hf ho hp5 hu5 hk5 hps5)))
       have h2:=H2.out
       rw [← HD5.out] at h2
       have hz:=HF2.out.size
       cases hs:signIs ⟨#[41]⟩ (ts.drop p5)
       · rw [hs,if_neg (by decide)] at h2
         injection h2 with h2
         have HR:=Lib.hid h2.symm
         rw [hs] at HC5
         clear h2 hs
         go_wp2_with (go_at_call 163;((with_reducible refine HC5.out.mono ?_);rintro e w6 ⟨h1,⟨-,rfl⟩ | ⟨h2, -⟩⟩;rotate_left;cases h2;have HF6:=Lib.hid (HF5.out.trans h1);clear h1))
         go_ret
         exact Out.err HR.out (.inl rfl) HF6.out
       · rw [hs,if_pos rfl,List.tail_drop] at h2
         injection h2 with h2
         have HR:=Lib.hid h2.symm
         rw [hs] at HC5
         clear h2 hs
         go_wp2_with (go_at_call 163;((with_reducible refine HC5.out.mono ?_);rintro e w6 ⟨h1,⟨h2, -⟩ | ⟨-,rfl,h3⟩⟩;cases h2;have HF6:=Lib.hid (HF5.out.trans h1);have HP6:=Lib.hid h3;clear h1 h3))
         go_ret
         exact ⟨HF6.out,.inr ⟨_,_,_,HR.out,rfl,p5+1,nv5,us5,rfl,HU5.out,fun u hu j hj=>Nat.le_trans hz (HK5.out u hu j hj),HP6.out⟩⟩
theorem Elem.kid:∃ n,n≤100∧Elem Tryz.prog 57 3 1 n:=⟨8,by omega,Tryz.underlying57,⟨.int .i64 0,by kernel_rfl,rfl⟩,by decide⟩
theorem Own.blockLt {α : Type} {size:Nat} {E:Enc α size} {e:TypeId} {w:World} {base:Nat} {v:Value} {xs:List α} (h:Own E e w base v xs):∀ g,v.ownBlock=Option.some g→base≤g∧g<w.heap.size∧∃ cur,w.heap[g]? = Option.some (.cells cur e):=by
 intro g e
 rcases h.2 with ⟨h1,_⟩ | ⟨g',cap,cur,h1,h2,h3,_⟩
 · rw [h1] at e;cases e
 · rw [h1] at e;injection e with e
   have e:g'=g:=e
   subst e
   exact ⟨h2,(Array.getElem?_eq_some_iff.1 h3).1,cur,h3⟩
theorem Ps.kids {w w':World} {b:Nat} {tv:Value} {ts:List Tk} {p deep:Nat} {nv:Value} {vs:List Nv} (h:Ps w b tv ts p deep nv vs) {r:Option Nat} (hg:w.grownBy w' r) (hr:∀ g,r=some g→b<g∧¬ NodeRow w g∧∀ v∈vs,v.kv.ownBlock≠some g):Ps w' b tv ts p deep nv vs:=by
 have hlow:=h.low
 refine ⟨?_, ?_,⟨h.nodes.1.keep ?_,fun v hv=>(h.nodes.2 v hv).keep ?_⟩, ?_,h.lt,h.low,h.fit,h.few,h.cnt,h.nest⟩
 · rw [hg.block b h.blt (by intro e;have:=(hr b e.symm).1;omega)];exact h.cell
 · obtain ⟨g,cap,h1,h2,h3⟩:=h.toks
   exact ⟨g,cap,h1,h2,h3.keep fun j _ hj e=>hg.block j hj (by
    intro e2
    have:=(hr j e2.symm).1
    rw [h1] at e;injection e with e;have:g=j:=e;omega)⟩
 · intro g h1 h2 h3
   exact hg.block g h2 (fun e=>(hr g e.symm).2.1 (h.row g h3).2)
 · intro g h1 h2 h3
   exact hg.block g h2 (fun e=>(hr g e.symm).2.2 v hv h3)
 · exact h.ops.keep (hg.block _ h.ops.lt (by intro e;have:=(hr _ e.symm).1;omega))
def callK (base:Nat) (name:ByteArray) (ns:List Nd) (ks:List Int) (r:List Tk):Option Res :=
 if signIs ⟨#[41]⟩ r=true then some (.ok (ns++[{ Nd.zero with kind:=7,text:=name,kids:=ks }],base+ns.length,r.tail)) else some (.error 5)
def caP (f deep base:Nat) (name:ByteArray) (ts:List Tk):Option Res :=
 if 12≤deep then some (.error 6)
 else bindR (if signIs ⟨#[41]⟩ ts.tail=true then some (.ok ([],[],ts.tail)) else argsP f (deep+1) base [] [] ts.tail) (callK base name)
set_option maxRecDepth 100000 in
set_option maxHeartbeats 2000000 in
theorem call_deep (f:Nat) (name:ByteArray) {w:World} {b:Nat} {tv:Value} {ts:List Tk} {p deep:Nat} {nv:Value} {vs:List Nv} (h:Ps w b tv ts p deep nv vs) (hnx:p+1<ts.length) (res:Res) (hres:caP f deep vs.length name (ts.drop p)=some res) (hd:12≤deep) :
 Calls Tryz.prog 162 #[.pointer (some ⟨b,0,none⟩),.string name] w (Out res w b tv ts deep vs):=by
 have HO:=Lib.hid (popen_any h hnx)
 unfold caP at hres
 rw [if_pos hd] at hres
 injection hres with hres
 have HR:=Lib.hid hres.symm
 clear hres h
 go_enter Tryz.func162,Tryz.ntmps162
 go_wp2_with (go_at_call 120;((with_reducible refine HO.out.mono ?_);rintro e w2 ⟨h1,⟨-,rfl⟩ | ⟨h2, -⟩⟩;rotate_left;exact absurd hd h2;have HF2:=Lib.hid h1;clear h1))
 go_ret
 exact Out.err HR.out (.inr rfl) HF2.out
theorem bindR_bind {α β γ α' β' γ' δ : Type} (x:Option (Except Int (α × β × γ))) (k : α → β → γ → Option (Except Int (α' × β' × γ'))) (K : α' → β' → γ'→Option (Except Int δ)):bindR (bindR x k) K=bindR x fun a b c=>bindR (k a b c) K:=by
 match x with
 | none=>rfl
 | some (.error e)=>rfl
 | some (.ok (a,b,c))=>rfl
set_option maxRecDepth 100000 in
set_option maxHeartbeats 4000000 in
theorem call_any (f:Nat) (IH:∀ g,g≤f→EX g) (name:ByteArray) {w:World} {b:Nat} {tv:Value} {ts:List Tk} {p deep:Nat} {nv:Value} {vs:List Nv} (h:Ps w b tv ts p deep nv vs) (hnx:p+1<ts.length) (res:Res) (hres:caP f deep vs.length name (ts.drop p)=some res) :
 Calls Tryz.prog 162 #[.pointer (some ⟨b,0,none⟩),.string name] w (Out res w b tv ts deep vs):=by
 by_cases hd:12≤deep
 · exact call_deep f name h hnx res hres hd
 have HO:=Lib.hid (popen_any h hnx)
 unfold caP at hres
 rw [if_neg hd,List.tail_drop] at hres
 have HRES:=Lib.hid hres
 have HIH:=Lib.hid IH
 have hbl:=h.blt
 obtain ⟨eb,hEB,EL⟩:=Elem.kid
 have HEL:=Lib.hid EL
 clear hres h IH EL
 go_enter Tryz.func162,Tryz.ntmps162
 go_upto_region 6 with (first
  | (go_at_call 120;((with_reducible refine HO.out.mono ?_);rintro e w2 ⟨h1,⟨h2, -⟩ | ⟨-,rfl,h3⟩⟩;exact absurd h2 hd;have HF2:=Lib.hid h1;have HP2:=Lib.hid h3;have HS2:=Lib.hid (isSign_any h3 ⟨#[41]⟩);clear h1 h3))
  | (go_at_call 119;((with_reducible refine HS2.out.mono ?_);rintro e w3 ⟨rfl,h1⟩;have HF3:=Lib.hid (HF2.out.below h1);have HP3:=Lib.hid (HP2.out.below h1);clear h1)))
 go_loopw [6,7] (fun kvs mv wr=>∃ (kv:Value) (more:Bool) (g:Nat) (ns:List Nd) (ks:List Int) (p':Nat) (nv':Value) (us:List Nv),kv=kvs∧mv = .bool more∧g≤f∧ks.length≤us.length∧us.length=ns.length ∧
  Hid ((more=true∧bindR (argsP g (deep+1) vs.length ns ks (ts.drop p')) (callK vs.length name)=some res)∨(more=false∧callK vs.length name ns ks (ts.drop p')=some res)) ∧
  Hid (us.map Nv.n=ns)∧Hid (∀ u∈us,∀ j,u.kv.ownBlock=some j→w.heap.size≤j)∧Hid (∀ u∈vs++us,∀ j,u.kv.ownBlock=some j→kv.ownBlock≠some j) ∧
  Hid (Own (encInt .i64) 3 wr w.heap.size kv ks)∧Hid (Ps wr b tv ts p' (deep+1) nv' (vs++us))∧Hid (Fr w wr b))
  (fun _ _ wr=>psm b ts.length wr)
 case atStart =>
  have hr:=HRES.out
  refine ⟨.slice none 0 0,_,f,[],[],p+1,nv,[],rfl,rfl,Nat.le_refl _,Nat.le_refl _,rfl, ?_,Lib.hid rfl,Lib.hid (by simp),Lib.hid (by intro u _ j _ e;cases e),Lib.hid (Own.nil _ _ _ _),by rw [List.append_nil];exact HP3,HF3⟩
  refine Lib.hid ?_
  cases hs:signIs ⟨#[41]⟩ (ts.drop (p+1))
  · rw [hs,if_neg (by decide)] at hr
    exact .inl ⟨rfl,hr⟩
  · rw [hs,if_pos rfl] at hr
    exact .inr ⟨rfl,hr⟩
 case round =>
  clear HO HRES HF2 HP2 HS2 HF3 HP3
  obtain ⟨kv,more,g,ns,ks,p',nv',us,rfl,rfl,hg,hkl,hul,HM,HU,HK,HJ,HOK,HPr,HF⟩:=hrel
  have hfew:=HPr.out.few
  have hlt:=HPr.out.lt
  have hcnt:=HPr.out.cnt
  have hlen:(vs++us).length=vs.length+us.length:=List.length_append
  have HPM:=Lib.hid (HPr.out.psm ts.length)
  cases more
  · have hK : callK vs.length name ns ks (ts.drop p')=some res:=by
     rcases HM.out with ⟨h1,_⟩ | ⟨_,h1⟩
     · cases h1
     · exact h1
    unfold callK at hK
    have HC:=Lib.hid (pclose_any HPr.out)
    cases hs:signIs ⟨#[41]⟩ (ts.drop p')
    · rw [hs,if_neg (by decide)] at hK
      injection hK with hK
      have HR:=Lib.hid hK.symm
      rw [hs] at HC
      clear hK hs HM
      go_wp2_with (go_at_call 163;((with_reducible refine HC.out.mono ?_);rintro e w6 ⟨h1,⟨-,rfl⟩ | ⟨h2, -⟩⟩;rotate_left;cases h2;have HF6:=Lib.hid (HF.out.trans h1);clear h1))
      go_ret
      exact Out.err HR.out (.inl rfl) HF6.out
    · rw [hs,if_pos rfl,List.tail_drop] at hK
      injection hK with hK
      have HR:=Lib.hid hK.symm
      rw [hs] at HC
      clear hK hs HM
      obtain ⟨v,hvn,hvk⟩:∃ v:Nv,v.n={ Nd.zero with kind:=7,text:=name,kids:=ks }∧v.kv=kv:=by
       rcases HOK.out.shape with ⟨rfl,rfl⟩ | ⟨g1,cap,rfl,_⟩
       · exact ⟨⟨_,none⟩,rfl,rfl⟩
       · exact ⟨⟨_,some (g1,cap)⟩,rfl,rfl⟩
      have HVN:=Lib.hid hvn;have HVK:=Lib.hid hvk
      clear hvn hvk
      have hkv:(∃ g1 n1 cap,kv = .slice (some ⟨g1,0,none⟩) n1 cap)∨kv = .slice none 0 0:=by
       rcases HOK.out.shape with ⟨h1,_⟩ | ⟨g1,cap,h1,_⟩
       · exact .inr h1
       · exact .inl ⟨g1,_,cap,h1⟩
      rcases hkv with ⟨g1,n1,cap,rfl⟩ | rfl
      all_goals
       go_upto_region 15 with (go_at_call 163;((with_reducible refine HC.out.mono ?_);rintro e w6 ⟨h1,⟨h2, -⟩ | ⟨-,rfl,h3⟩⟩;cases h2;have HF6:=Lib.hid (HF.out.trans h1);have HOK6:=Lib.hid (HOK.out.fr h1 hbl (by decide));have HP6:=Lib.hid h3;clear h1 h3))
       have HA:=Lib.hid (show Calls Tryz.prog 121 #[.pointer (some ⟨b,0,none⟩),.agg #[.int .i64 7,.int .i64 0,.string name,.string ⟨#[]⟩,.int .i64 0,.int .i64 0,.bool false,.bool false,.string ⟨#[]⟩,.int .i64 0,.int .i64 0,.bool false,.bool false,_]] w6 _ from add_any HP6.out v (by rw [HVK.out,HVN.out];exact HOK6.out.mono (by omega)) (by omega) _ HVK.out { Nd.zero with kind:=7,text:=name,kids:=ks } HVN.out)
       go_wp2_with (go_at_call 121;((with_reducible refine HA.out.mono ?_);rintro e w7 ⟨h1,rfl,nv7,h3⟩;have HF7:=Lib.hid (HF6.out.trans h1);have HP7:=Lib.hid h3;clear h1 h3))
       go_ret
       refine ⟨HF7.out,.inr ⟨_,_,_,HR.out,rfl,p'+1,nv7,us++[v],rfl, ?_, ?_,by rw [← List.append_assoc];exact HP7.out⟩⟩
       · rw [List.map_append,HU.out,List.map_cons,List.map_nil,HVN.out]
       · intro u hu j hj
         rcases List.mem_append.1 hu with hu | hu
         · exact HK.out u hu j hj
         · rw [List.mem_singleton.1 hu,HVK.out] at hj
           exact (HOK.out.blockLt j hj).1
  · have hA:bindR (argsP g (deep+1) vs.length ns ks (ts.drop p')) (callK vs.length name)=some res:=by
     rcases HM.out with ⟨_,h1⟩ | ⟨h1,_⟩
     · exact h1
     · cases h1
    match g,hg,hA with
    | 0,_,hA=>unfold argsP bindR at hA;cases hA
    | g+1,hg,hA =>
    rw [argsP_succ,bindR_bind] at hA
    have hbase:vs.length+ns.length=(vs++us).length:=by rw [hlen,hul]
    rw [hbase] at hA
    rcases bindR_some hA with ⟨c,h1,rfl⟩ | ⟨ms,a,r,h1,h2⟩
    · have HL:=Lib.hid (show Calls Tryz.prog 38 #[.pointer (some ⟨b,0,none⟩),.int .i64 0] wr (Out (.error c) wr b tv ts (deep+1) (vs++us)) from HIH.out g (by omega) 0 (deep+1) _ wr b tv ts p' nv' (vs++us) (by omega) HPr.out h1)
      clear h1 hA HM
      go_wp2_with (go_at_call 38;((with_reducible refine HL.out.mono ?_);intro e w5 ho;obtain ⟨hf,hc,rfl⟩:=ho.bad rfl;have HF5:=Lib.hid (HF.out.trans hf);have HC:=Lib.hid hc;have hc0:(c != 0)=true:=(by rw [bne_iff_ne];rcases hc with h | h <;> omega);clear hf hc ho))
      go_ret
      exact Out.err rfl HC.out HF5.out
    · have HL:=Lib.hid (show Calls Tryz.prog 38 #[.pointer (some ⟨b,0,none⟩),.int .i64 0] wr (Out (.ok (ms,a,r)) wr b tv ts (deep+1) (vs++us)) from HIH.out g (by omega) 0 (deep+1) _ wr b tv ts p' nv' (vs++us) (by omega) HPr.out h1)
      have H1:=Lib.hid h1
      have H2:=Lib.hid h2
      clear h1 h2 hA HM
      go_upto_region 11 with (go_at_call 38;((with_reducible refine HL.out.mono ?_);intro e w5 ho;obtain ⟨hf,rfl,p5,nv5,us5,hp5,hu5,hk5,hps5⟩:=ho.good rfl;have HF5:=Lib.hid (HF.out.trans hf);have HOK5:=Lib.hid (HOK.out.fr hf hbl (by decide));have HP5:=Lib.hid hps5;have HD5:=Lib.hid hp5;have HU5:=Lib.hid hu5;have HK5:=Lib.hid hk5;clear hf ho hp5 hu5 hk5 hps5))
      obtain ⟨hc1,hc2,hc3⟩:=count_at H1.out HD5.out HP5.out.lt
      have hus5:us5.length=ms.length:=by rw [← HU5.out,List.length_map]
      have hlen5:((vs++us)++us5).length=vs.length+us.length+us5.length:=by rw [List.length_append,List.length_append]
      have HRT5:=Lib.hid (root_is HP5.out a (by omega))
      have hsz5:=HF5.out.size
      have HZr:=Lib.hid HF.out.size
      have HJ5:=Lib.hid (show ∀ u∈(vs++us)++us5,∀ j,u.kv.ownBlock=some j→kv.ownBlock≠some j from by
       intro u hu j hj
       rcases List.mem_append.1 hu with hu | hu
       · exact HJ.out u hu j hj
       · intro e
         have h3:=HK5.out u hu j hj
         have h4:=(HOK.out.blockLt j e).2.1
         omega)
      clear HL HOK HJ
      go_upto_region 7 with (first
       | (go_at_call 122;((with_reducible refine HRT5.out.mono ?_);rintro e wn ⟨rfl,rfl⟩))
       | (at_builtin;refine wpList_app_at HEL.out (encInt .i64) rfl (.tmp 26) (.tmp 29) rfl w.heap.size kv ks rfl (HOK5.out.alloc _) ⟨w5.heap.size,0,none⟩ 1 1 [(a:Int)] rfl rfl ?_ ?_ ?_ ?_ ?_;exact cells_new _ _ _ rfl;exact Nat.le_trans (Nat.mul_le_mul_left _ hEB) (by omega);(unfold maxLen;omega);(simp <;> omega);intro kv' w6 h1 h2 h3;have HO6:=Lib.hid h1;have HG6:=Lib.hid h2;have HAT:=Lib.hid h3;clear h1 h2 h3))
      have hB6:Below w5.heap.size w5 (w5.alloc (.cells #[.int .i64 (a:Int)] 3)):=(Below.refl _ _).alloc (Nat.le_refl _) _
      have hO5:=HOK5.out.alloc (.cells #[.int .i64 (a:Int)] 3)
      have HP6:=Lib.hid ((HP5.out.below hB6).kids HG6.out (by
       intro j e
       obtain ⟨q1,q2,cur,q3⟩:=hO5.blockLt j e
       refine ⟨by omega, ?_,fun u hu e2=>HJ5.out u hu j e2 e⟩
       rintro ⟨cur',fr,e2⟩
       rw [q3] at e2;injection e2 with e2;injection e2 with _ e2
       exact absurd e2 (by decide)))
      have HF6:=Lib.hid ((HF5.out.below hB6).row HG6.out (by
       intro j e
       obtain ⟨q1,q2,cur,q3⟩:=hO5.blockLt j e
       exact ⟨by omega,.inl q1⟩))
      have HJ6:=Lib.hid (show ∀ u∈(vs++us)++us5,∀ j,u.kv.ownBlock=some j→kv'.ownBlock≠some j from by
       intro u hu j hj
       rcases HAT.out with e | e
       · rw [e];exact HJ5.out u hu j hj
       · rw [e]
         have h4:=((HP5.out.nodes.2 u hu).blockLt j hj).2.1
         intro e2;injection e2 with e2
         simp at e2;omega)
      have HT6:=Lib.hid (ptake_any HP6.out ⟨#[44]⟩)
      have h2:=H2.out
      rw [← HD5.out] at h2
      clear hB6 hO5 HG6 HAT HJ5 HOK5 HF HPr H2 HRT5
      have hKU:∀ u∈us++us5,∀ j,u.kv.ownBlock=some j→w.heap.size≤j:=by
       intro u hu j hj
       rcases List.mem_append.1 hu with hu | hu
       · exact HK.out u hu j hj
       · exact Nat.le_trans HZr.out (HK5.out u hu j hj)
      have HKU:=Lib.hid hKU;clear hKU
      cases hs:signIs ⟨#[44]⟩ (ts.drop p5)
      · rw [hs,if_neg (by decide)] at h2
        have HN:=Lib.hid (show callK vs.length name (ns++ms) (ks++[(a:Int)]) (ts.drop p5)=some res from h2)
        rw [hs,if_neg (by decide)] at HT6
        clear h2 hs
        go_wp2_with (go_at_call 161;((with_reducible refine HT6.out.mono ?_);rintro e w7 ⟨h1,rfl,h3⟩;have HF7:=Lib.hid (HF6.out.trans h1);have HO7:=Lib.hid (HO6.out.fr h1 hbl (by decide));have HP7:=Lib.hid h3;clear h1 h3))
        go_roundw
        case rel =>
         refine ⟨kv',false,g,ns++ms,ks++[(a:Int)],p5,nv5,us++us5,rfl,rfl,by omega,by rw [List.length_append,List.length_append,List.length_singleton];omega,by rw [List.length_append,List.length_append];omega,Lib.hid (.inr ⟨rfl,HN.out⟩),Lib.hid (by rw [List.map_append,HU.out,HU5.out]),HKU, ?_,HO7, ?_,HF7⟩
         · rw [← List.append_assoc];exact HJ6
         · rw [← List.append_assoc];exact HP7
        case measure =>
         have h1:=HP7.out.psm ts.length
         rw [HPM.out,h1];omega
      · rw [hs,if_pos rfl,List.tail_drop] at h2
        have HN:=Lib.hid h2
        have hnx5:=sign_next HP6.out hs
        rw [hs,if_pos rfl] at HT6
        clear h2 hs
        go_wp2_with (go_at_call 161;((with_reducible refine HT6.out.mono ?_);rintro e w7 ⟨h1,rfl,h3⟩;have HF7:=Lib.hid (HF6.out.trans h1);have HO7:=Lib.hid (HO6.out.fr h1 hbl (by decide));have HP7:=Lib.hid h3;clear h1 h3))
        go_roundw
        case rel =>
         refine ⟨kv',true,g,ns++ms,ks++[(a:Int)],p5+1,nv5,us++us5,rfl,rfl,by omega,by rw [List.length_append,List.length_append,List.length_singleton];omega,by rw [List.length_append,List.length_append];omega,Lib.hid (.inl ⟨rfl,HN.out⟩),Lib.hid (by rw [List.map_append,HU.out,HU5.out]),HKU, ?_,HO7, ?_,HF7⟩
         · rw [← List.append_assoc];exact HJ6
         · rw [← List.append_assoc];exact HP7
        case measure =>
         have h1:=HP7.out.psm ts.length
         rw [HPM.out,h1];omega
structure MkKid (w:World) (lo:Nat) (sv k:Value) (ks:List Int):Prop where
 own:Own (encInt .i64) 3 w lo k ks
 apart:∀ g,k.ownBlock=Option.some g→sv.ownBlock≠Option.some g
theorem MkKid.nil (w:World) (lo:Nat) (sv:Value):MkKid w lo sv (.slice none 0 0) []:=⟨Own.nil _ _ _ _,fun _ h=>nomatch h⟩
theorem MkKid.next {w w':World} {lo:Nat} {sv k:Value} {ks:List Int} (h:MkKid w lo sv k ks) (hb:Below w.heap.size w w'):MkKid w' lo sv k ks:=⟨h.own.below hb (Nat.le_refl _),h.apart⟩
theorem MkKid.grow {w w':World} {lo:Nat} {sv sv' k:Value} {ks:List Int} (h:MkKid w lo sv k ks) (hg:w.grownBy w' sv.ownBlock) (hor:sv'.ownBlock=sv.ownBlock∨sv'.ownBlock=Option.some w.heap.size):MkKid w' lo sv' k ks:=by
 refine ⟨h.own.keep fun g _ hl e=>hg.block g hl (fun e2=>h.apart g e e2.symm),fun g e => ?_⟩
 rcases hor with e2 | e2
 · rw [e2];exact h.apart g e
 · rw [e2];intro e3;injection e3 with e3;have:=h.own.less e;omega
theorem MkKid.fresh {w w':World} {lo:Nat} {sv sv' k:Value} {ks st':List Int} (h:MkKid w lo sv k ks) (ho:Own (encInt .i64) 3 w' w.heap.size sv' st') (hb:Below w.heap.size w w'):MkKid w' lo sv' k ks:=by
 refine ⟨h.own.below hb (Nat.le_refl _),fun g e e2 => ?_⟩
 have h1:=h.own.less e
 have h2:=(ho.lies e2).1
 omega
theorem MkKid.row {w w':World} {lo lo2:Nat} {sv lv k:Value} {ks:List Int} {vs:List Nv} (h:MkKid w lo sv k ks) (hn:Own encNv 61 w lo2 lv vs) (hg:w.grownBy w' lv.ownBlock):MkKid w' lo sv k ks :=
 ⟨h.own.keep fun g _ hl e=>hg.block g hl (h.own.away hn (by decide) e),h.apart⟩
theorem MkKid.nv {w:World} {lo:Nat} {sv k:Value} {ks:List Int} (h:MkKid w lo sv k ks) (n:Nd) (hn:n.kids=ks):∃ v:Nv,v.n=n∧v.kv=k:=by
 subst hn
 rcases h.own.shape with ⟨h1,_⟩ | ⟨g,c,h1,_⟩
 · exact ⟨⟨n,none⟩,rfl,h1.symm⟩
 · exact ⟨⟨n,Option.some (g,c)⟩,rfl,h1.symm⟩
structure Mk (w0 w:World) (lv sv:Value) (vs:List Nv) (st:List Int):Prop where
 nodes:Own encNv 61 w w0.heap.size lv vs
 kids:∀ v∈vs,MkKid w w0.heap.size sv v.kv v.n.kids
 stk:Own (encInt .i64) 3 w w0.heap.size sv st
 aft:Below w0.heap.size w0 w
theorem Mk.nil (w:World):Mk w w (.slice none 0 0) (.slice none 0 0) [] []:=⟨Own.nil _ _ _ _,fun v hv=>absurd hv (by simp),Own.nil _ _ _ _,Below.refl _ _⟩
theorem Mk.nodV {w0 w:World} {lv sv:Value} {vs:List Nv} {st:List Int} (h:Mk w0 w lv sv vs st):NodV w w0.heap.size lv vs:=⟨h.nodes,fun v hv=>(h.kids v hv).own⟩
theorem Mk.next {w0 w w':World} {lv sv:Value} {vs:List Nv} {st:List Int} (h:Mk w0 w lv sv vs st) (hb:Below w.heap.size w w'):Mk w0 w' lv sv vs st :=
 ⟨h.nodes.below hb (Nat.le_refl _),fun v hv=>(h.kids v hv).next hb,h.stk.below hb (Nat.le_refl _),h.aft.trans (hb.mono h.aft.size)⟩
theorem Mk.drew {w0 w:World} {lv sv:Value} {vs:List Nv} {st:List Int} (h:Mk w0 w lv sv vs st):Mk w0 w.drew lv sv vs st:=h.next (Below.drew (Below.refl _ _))
theorem mk_grow {w0 w w':World} {r:Option Nat} (h:Below w0.heap.size w0 w) (hg:w.grownBy w' r) (hr:∀ g,r=Option.some g→w0.heap.size≤g):Below w0.heap.size w0 w' :=
 h.grown hg h.size hr
theorem Mk.push {w0 w w':World} {lv sv sv':Value} {vs:List Nv} {st st':List Int} (h:Mk w0 w lv sv vs st) (ho:Own (encInt .i64) 3 w' w0.heap.size sv' st') (hg:w.grownBy w' sv.ownBlock) (hor:sv'.ownBlock=sv.ownBlock∨sv'.ownBlock=Option.some w.heap.size):Mk w0 w' lv sv' vs st' :=
 ⟨h.nodes.keep fun g _ hl e=>hg.block g hl (h.nodes.away h.stk (by decide) e),fun v hv=>(h.kids v hv).grow hg hor,ho,mk_grow h.aft hg (fun g e=>(h.stk.lies e).1)⟩
theorem Mk.fresh {w0 w w':World} {lv sv sv':Value} {vs:List Nv} {st st':List Int} (h:Mk w0 w lv sv vs st) (ho:Own (encInt .i64) 3 w' w.heap.size sv' st') (hb:Below w.heap.size w w'):Mk w0 w' lv sv' vs st' :=
 ⟨h.nodes.below hb (Nat.le_refl _),fun v hv=>(h.kids v hv).fresh ho hb,ho.mono h.aft.size,h.aft.trans (hb.mono h.aft.size)⟩
theorem Mk.node {w0 w w':World} {lv lv' sv:Value} {vs:List Nv} {st:List Int} (h:Mk w0 w lv sv vs st) (v:Nv) (hk:MkKid w w0.heap.size sv v.kv v.n.kids) (ho:Own encNv 61 w' w0.heap.size lv' (vs++[v])) (hg:w.grownBy w' lv.ownBlock):Mk w0 w' lv' sv (vs++[v]) st:=by
 refine ⟨ho,fun u hu => ?_,h.stk.keep fun g _ hl e=>hg.block g hl (h.stk.away h.nodes (by decide) e),mk_grow h.aft hg (fun g e=>(h.nodes.lies e).1)⟩
 rcases List.mem_append.1 hu with hu | hu
 · exact (h.kids u hu).row h.nodes hg
 · rw [List.mem_singleton.1 hu];exact hk.row h.nodes hg
theorem NdAt.grow {w w':World} {z lo:Nat} {n:Nd} {k sv:Value} {st:List Int} (h:NdAt w z n k) (ho:Own (encInt .i64) 3 w lo sv st) (hg:w.grownBy w' sv.ownBlock):NdAt w' z n k:=by
 unfold NdAt
 rw [hg.block z h.lt (fun e=>by
  obtain ⟨_,cur,h2⟩:=ho.lies e.symm
  rw [show w.heap[z]? = _ from h] at h2
  injection h2 with h2
  injection h2 with _ h2
  exact absurd h2 (by decide))]
 exact h
theorem Own.mkFront {w:World} {t:TypeId} {base n c:Nat} {A:Option Addr} {st:List Int} (h:Own (encInt .i64) t w base (.slice A n c) st) (f:Nat):(A=none→n=0)∧∀ b,A=Option.some b→∀ (j:Nat) (u:Value),((encInt .i64).all (st.take f))[j]? = Option.some u→w.cell? (b.add j)=Option.some u:=by
 rcases h.shape with ⟨h1,_⟩ | ⟨g,cap,h1,_⟩
 · injection h1 with h1 h2
   exact ⟨fun _=>h2,fun b hb=>by rw [h1] at hb;cases hb⟩
 · injection h1 with h1 h2
   subst h1
   refine ⟨(fun e=>nomatch e),fun b hb j u hu => ?_⟩
   injection hb with hb
   subst hb
   rw [Addr.add_mid,Nat.zero_add]
   refine h.cells j u ?_
   rw [all_encInt,List.getElem?_map] at hu ⊢
   rw [List.getElem?_take] at hu
   split at hu
   · exact hu
   · cases hu
structure MkSw (w0 w:World) (lv sv:Value) (vs:List Nv) (st:List Int) (z m:Nat) (sk:Value):Prop where
 held:Mk w0 w lv sv vs st
 node:∃ kv,NdAt w z (nodeM m st.length (st.drop (st.length - takeM m st.length))) kv∧MkKid w w0.heap.size sv kv (st.drop (st.length - takeM m st.length))
 view:(sk=sv∧takeM m st.length=0)∨∃ A c,sv = .slice A st.length c∧sk = .slice A (st.length - takeM m st.length) (st.length - takeM m st.length)
theorem kids_nodeM (m k:Nat) (ks:List Int) (hm:m<256) (hk:ks.length=takeM m k):(nodeM m k ks).kids=ks:=(nodeM_ok m k ks hm hk).2
theorem wpList_store_nod {ops:Array Oper} {rest:List Oper} {op:Oper} {a:Act} {w:World} {Q:Exit→Act→World→Prop} (hgd:op.guard=none) (x y:Operand) (ho:op.op = .store 61 x y)
 (g:Nat) (n0 n:Nd) (k0 k:Value) (hx:a.eval x = .pointer (some ⟨g,0,none⟩)) (hy:a.eval y = .agg (nodA n k)) (hr:NdAt w g n0 k0) (hk:k.oneCell'=true)
 (h:∀ w',NdAt w' g n k→w.grownBy w' (some g)→wpList Tryz.prog ops Q rest (a.put op.dst undef) w'):wpList Tryz.prog ops Q (op :: rest) a w :=
 wpList_store_row hgd 61 x y ho g 61 _ _ hx hy hr rfl nod_size (nod_one n k hk) (h _ (setRow_heap w g _ _ _ _ hr) (grownBy.setRow' (grownBy.refl' w _) _))
theorem wp_store_nod {o:Oper} {a:Act} {w:World} {K:Act→World→Prop} {Q:Exit→Act→World→Prop} (x y:Operand) (ho:o.op = .store 61 x y)
 (g:Nat) (n0 n:Nd) (k0 k:Value) (hx:a.eval x = .pointer (some ⟨g,0,none⟩)) (hy:a.eval y = .agg (nodA n k)) (hr:NdAt w g n0 k0) (hk:k.oneCell'=true)
 (h:∀ w',NdAt w' g n k→w.grownBy w' (some g)→K (a.put o.dst undef) w'):Oper.wp Tryz.prog o a w K Q :=
 wp_store_row 61 x y ho g 61 _ _ hx hy hr rfl nod_size (nod_one n k hk) (h _ (setRow_heap w g _ _ _ _ hr) (grownBy.setRow' (grownBy.refl' w _) _))
theorem NdAt.drew' {w:World} {z:Nat} {n:Nd} {k:Value} (h:NdAt w z n k):NdAt w.drew z n k:=h
theorem nd_ne {w:World} {z:Nat} {n:Nd} {k:Value} (hn:NdAt w z n k) {lo:Nat} {v:Value} {xs:List Int} (h:Own (encInt .i64) 3 w lo v xs) {g:Nat} (e:v.ownBlock=Option.some g):Option.some g≠Option.some z:=by
 intro e2;injection e2 with e2;subst e2
 obtain ⟨_,cur,h3⟩:=h.lies e
 rw [show w.heap[g]? = _ from hn] at h3
 injection h3 with h3
 injection h3 with _ h3
 exact absurd h3 (by decide)
theorem MkKid.over {w w':World} {z lo:Nat} {n:Nd} {k sv kv:Value} {ks:List Int} (h:MkKid w lo sv kv ks) (hn:NdAt w z n k) (hg:w.grownBy w' (Option.some z)):MkKid w' lo sv kv ks :=
 ⟨h.own.keep fun _ _ hl e=>hg.block _ hl (nd_ne hn h.own e),h.apart⟩
theorem Mk.over {w0 w w':World} {z:Nat} {n:Nd} {k lv sv:Value} {vs:List Nv} {st:List Int} (h:Mk w0 w lv sv vs st) (hn:NdAt w z n k) (hz:lv.ownBlock≠Option.some z) (hlo:w0.heap.size≤z) (hg:w.grownBy w' (Option.some z)):Mk w0 w' lv sv vs st :=
 ⟨h.nodes.keep fun g _ hl e=>hg.block g hl (fun e2=>hz (e.trans e2)),fun v hv=>(h.kids v hv).over hn hg,h.stk.keep fun _ _ hl e=>hg.block _ hl (nd_ne hn h.stk e),mk_grow h.aft hg (fun g e=>by injection e with e;omega)⟩
theorem drop_two {st:List Int} {k:Nat} (hk:st.length=k) (h2:2≤k):st.drop (k - 2)=[st.getD (k - 2) 0,st.getD (k - 1) 0]:=by
 have e1:k - 2<st.length:=by omega
 have e2:k - 2+1<st.length:=by omega
 rw [List.drop_eq_getElem_cons e1,List.drop_eq_getElem_cons e2,List.drop_of_length_le (by omega)]
 rw [List.getD_eq_getElem?_getD,List.getD_eq_getElem?_getD,List.getElem?_eq_getElem e1,show k - 1=k - 2+1 by omega,List.getElem?_eq_getElem e2]
 rfl
theorem drop_one {st:List Int} {k:Nat} (hk:st.length=k) (h1:1≤k):st.drop (k - 1)=[st.getD (k - 1) 0]:=by
 have e1:k - 1<st.length:=by omega
 rw [List.drop_eq_getElem_cons e1,List.drop_of_length_le (by omega)]
 rw [List.getD_eq_getElem?_getD,List.getElem?_eq_getElem e1]
 rfl
theorem MkKid.row2 {w:World} {lo:Nat} {sv:Value} {st:List Int} (hlo:lo≤w.heap.size) (hs:Own (encInt .i64) 3 w lo sv st) (x y:Int):MkKid (w.alloc (.cells #[.int .i64 x,.int .i64 y] 3)) lo sv (.slice (some ⟨w.heap.size,0,none⟩) 2 2) [x,y] :=
 ⟨own_lit2 w lo x y hlo,fun g e e2=>by have h1:=hs.less e2;injection e with e;have e:w.heap.size=g:=e;omega⟩
theorem MkKid.row1 {w:World} {lo:Nat} {sv:Value} {st:List Int} (hlo:lo≤w.heap.size) (hs:Own (encInt .i64) 3 w lo sv st) (x:Int):MkKid (w.alloc (.cells #[.int .i64 x] 3)) lo sv (.slice (some ⟨w.heap.size,0,none⟩) 1 1) [x] :=
 ⟨own_lit1 w lo x hlo,fun g e e2=>by have h1:=hs.less e2;injection e with e;have e:w.heap.size=g:=e;omega⟩
theorem own_none (w:World) (B:Nat) (hB:B≤w.heap.size):Own (encInt .i64) 3 (w.alloc (.cells #[] 3)) B (.slice (some ⟨w.heap.size,0,none⟩) 0 0) ([]:List Int) :=
 Own.made (encInt .i64) 3 w B w.heap.size 0 #[] rfl hB (by unfold maxLen;omega) rfl
theorem src_tail {w:World} {base g cap k f:Nat} {st:List Int} (h:Own (encInt .i64) 3 w base (.slice (some ⟨g,0,none⟩) k cap) st) (hk:st.length=k) (hf:f≤k) (hc:k≤cap):Src Tryz.prog 1 57 (.slice (if cap=f then some ⟨g,0,none⟩ else some ⟨g,f,none⟩) (k - f) (cap - f)) (k - f) ((encInt .i64).all (st.drop f)) w:=by
 have hl:(st.drop f).length=k - f:=by rw [List.length_drop,hk]
 by_cases h0:cap=f
 · have e:k - f=0:=by omega
   have e2:st.drop f=[]:=List.eq_nil_of_length_eq_zero (by omega)
   rw [if_pos h0,e2,e]
   exact Src.ofSlice w Tryz.underlying57 _ _ _ _ rfl (fun j u hu=>by simp [Enc.all] at hu) ((encInt .i64).one_all [])
 · rw [if_neg h0]
   refine Src.ofSlice w Tryz.underlying57 _ _ _ _ (by rw [Enc.length_all,hl]) (fun j u hu => ?_) ((encInt .i64).one_all _)
   rw [Addr.add_mid]
   refine Own.cells h (f+j) u ?_
   rw [all_encInt,List.map_drop,List.getElem?_drop] at hu
   rw [all_encInt];exact hu
theorem wp_app_at {P:Program} {α : Type} {size t e bytes:Nat} {w:World} {o:Oper} {a:Act} {K:Act→World→Prop} {Q:Exit→Act→World→Prop} (EL:Elem P t e size bytes) (E:Enc α size)
 (hgd:o.guard=none) (s x:Operand) (ho:o.op = .call { callee := .builtin .append,args:=#[s,x],argTypes:=#[t,t] }) (base:Nat) (v:Value) (xs:List α)
 (hs:a.eval s=v) (hown:Own E e w base v xs) (ad:Addr) (m c:Nat) (ys:List α) (hx:a.eval x = .slice (some ad) m c) (hl:ys.length=m)
 (hc:∀ (j:Nat) (u:Value),(E.all ys)[j]? = some u→w.cell? (ad.add j)=some u) (hb:(xs.length+m)*bytes≤140737488355328) (hb2:xs.length+m≤maxLen) (hbase:base≤w.heap.size)
 (h:∀ (v':Value) (w':World),Own E e w' base v' (xs++ys)→w.grownBy w' v.ownBlock→(v'.ownBlock=v.ownBlock∨v'.ownBlock=some w.heap.size)→K (a.put o.dst v') w'):Oper.wp P o a w K Q:=by
 have h1:=step_app_at (ops:=#[]) (F:=False) (Q:=Q) EL E hgd s x ho base v xs hs hown ad m c ys hx hl hc hb hb2 hbase h
 have hw:Region.wanted o (yielded #[] a.tmps)=true:=by simp [Region.wanted,hgd]
 rw [if_pos hw] at h1;exact h1
theorem bld_info:∃ j,Tryz.prog.info? 67=some j∧j.size=2:=by
 have h:(Tryz.prog.info? 67).map (·.size)=some 2:=by kernel_rfl
 obtain ⟨j,h1,h2⟩:=Option.map_eq_some_iff.1 h
 exact ⟨j,h1,h2⟩
structure Fb (w w':World) (b:Nat):Prop where
 os:w'.os=w.os
 tape:w'.tape=w.tape
 output:w'.output=w.output
 size:w.heap.size≤w'.heap.size
 block:∀ k,k<w.heap.size→k≠b→(k<b∨∀ cur fr,w.heap[k]? ≠ some (.cells cur 5 fr))→w'.heap[k]? = w.heap[k]?
theorem Fb.refl (w:World) (b:Nat):Fb w w b:=⟨rfl,rfl,rfl,Nat.le_refl _,fun _ _ _ _=>rfl⟩
theorem Fb.trans {w w1 w2:World} {b:Nat} (h:Fb w w1 b) (k:Fb w1 w2 b):Fb w w2 b :=
 ⟨k.os.trans h.os,k.tape.trans h.tape,k.output.trans h.output,Nat.le_trans h.size k.size,fun j hj hb hr=>by
  have h1:=h.block j hj hb hr
  rw [k.block j (Nat.lt_of_lt_of_le hj h.size) hb (hr.imp id fun hn cur fr=>by rw [h1];exact hn cur fr)]
  exact h1⟩
theorem Fb.setCell {w:World} {b:Nat} (j:Nat) (v:Value):Fb w (w.setCell ⟨b,j,none⟩ v) b :=
 have h:=grownBy.setCell' (grownBy.refl' w (some b)) j v
 ⟨h.os,h.tape,h.output,h.size,fun k hk hkb _=>h.block k hk (fun e=>hkb (Option.some.inj e))⟩
theorem Fb.grown {w w':World} {b g:Nat} (h:w.grownBy w' (some g)) (hg:∃ cur fr,w.heap[g]? = some (.cells cur 5 fr)) (hb:b<g):Fb w w' b :=
 ⟨h.os,h.tape,h.output,h.size,fun k hk hkb hr=>h.block k hk (by
  intro e;injection e with e;subst e
  rcases hr with hr | hr
  · omega
  · obtain ⟨cur,fr,hx⟩:=hg;exact hr cur fr hx)⟩
theorem run_app_srcG {P:Program} {α : Type} {size t tx ty e bytes:Nat} {w:World} (EL:Elem P t e size bytes) (E:Enc α size) (base:Nat) (v:Value) (xs:List α) (hown:Own E e w base v xs)
 (x:Value) (m:Nat) (ys:List α) (hl:ys.length=m) (hs:Src P size tx x m (E.all ys) w) (hb:(xs.length+m)*bytes≤140737488355328) (hb2:xs.length+m≤maxLen) (hbase:base≤w.heap.size) :
 ∃ v' w',(Builtin.append_ #[t,tx] ty #[v,x]).run P w = .ok v' w'∧Own E e w' base v' (xs++ys)∧w.grownBy w' v.ownBlock:=by
 obtain ⟨z,hi,hz⟩:=EL.inf
 obtain ⟨i,hi1,hi2,hi3,hi4⟩:=info_parts hi
 have ht:=EL.und
 subst hi3
 subst hi4
 have hlx:=E.length_all xs
 have hly:=E.length_all ys
 rw [hl] at hly
 have hlen:(E.all (xs++ys)).length=(xs.length+m)*i.size:=by rw [E.length_all,List.length_append,hl]
 have hsmall:xs.length+m≤9223372036854775807:=by simp only [maxLen] at hb2;omega
 have grown:∀ (old:Nat),old<xs.length+m →
  Own E e (w.drew.alloc (.cells ((E.all xs++E.all ys).toArray++Builtin.zeroCells z.cells (grownCap w (xs.length+m) old e - (xs.length+m))) e)) base (.slice (some ⟨w.heap.size,0,none⟩) (xs.length+m) (grownCap w (xs.length+m) old e)) (xs++ys) ∧
  ∀ r,w.grownBy (w.drew.alloc (.cells ((E.all xs++E.all ys).toArray++Builtin.zeroCells z.cells (grownCap w (xs.length+m) old e - (xs.length+m))) e)) r:=by
  intro old ho
  have hge:=grownCap_ge w (xs.length+m) old e
  have hcm:grownCap w (xs.length+m) old e≤maxLen:=grownCap_le_maxLen w (xs.length+m) old e hb2
  refine ⟨?_,fun r=>grownBy.below' (grownBy.refl' _ _) (((Below.refl _ _).drew).alloc (Nat.le_refl _) _)⟩
  unfold Own
  rw [List.length_append,hl]
  refine ⟨hlen,.inr ⟨w.heap.size,_,_,rfl,hbase,heap_alloc_new w.drew _,hge,hcm, ?_, ?_⟩⟩
  · simp only [Array.size_append,List.size_toArray,size_zeroCells,hz,List.length_append,hlx,hly, ← Nat.add_mul]
    congr 1
    omega
  · simp only [Array.toList_append]
    rw [← E.all_append, ← hlen]
    exact List.take_left
 have h0:=hown
 rcases hown.2 with ⟨rfl,hn⟩ | ⟨g,cap,cur,rfl,hbg,hg,hnc,hcm,hcs,htake⟩
 · have hx:xs=[]:=List.eq_nil_of_length_eq_zero hn
   subst hx
   by_cases hm:m=0
   · subst hm
     have hy:ys=[]:=List.eq_nil_of_length_eq_zero hl
     subst hy
     refine ⟨.slice none 0 0,w, ?_,Own.nil E e w base,grownBy.refl' _ _⟩
     have hc:=hs.cells
     have hll:=hs.len
     have hc':(Builtin.firstCells i.size 0 x).run P w = .ok #[] w:=hc
     rcases hs.kind with ⟨e',hk⟩ | hk <;>
      simp [Builtin.append_,run_underlying ht,run_underlying hk,sizeOf,typeInfo,hi1,hll,hc']
   · have hgr:=grown 0 (by simp;omega)
     have hr:=run_append_grow_src (P:=P) w t tx ty e i z ht hi1 hi2 none 0 0 [] (by simp [Builtin.firstCells]) x m (E.all ys) hs (by omega) (by simp at hsmall;omega) (growslice_fits (by omega) (by simpa using hb))
     simp only [List.length_nil,Nat.zero_add,List.nil_append,Enc.all,List.flatMap_nil] at hgr hr ⊢
     exact ⟨_,_,hr,hgr.1,hgr.2 _⟩
 · by_cases hroom:xs.length+m≤cap
   · have hfit:xs.length*i.size+(E.all ys).length≤cur.size:=by rw [hly,hcs, ← Nat.add_mul];exact Nat.mul_le_mul_right _ hroom
     have hst:=run_storeCells_at P g (xs.length*i.size) e (E.all ys) 0 cur w hg (by omega) (E.one_all ys)
     simp only [Nat.add_zero] at hst
     refine ⟨.slice (some ⟨g,0,none⟩) (xs.length+m) cap,w.setRow g (cur.toList.take (xs.length*i.size)++E.all ys++cur.toList.drop (xs.length*i.size+(E.all ys).length)).toArray, ?_, ?_, ?_⟩
     · rcases hs.kind with ⟨e',hk⟩ | hk <;> simp [Builtin.append_,run_underlying ht,run_underlying hk,sizeOf,typeInfo,hi1,hs.len,hroom,hs.cells,Addr.add_lit,hst]
     · unfold Own
       rw [List.length_append,hl]
       refine ⟨hlen,.inr ⟨g,cap,_,rfl,hbg,setRow_heap w g cur _ e _ hg,hroom,hcm, ?_, ?_⟩⟩
       · simp only [List.size_toArray,List.length_append,List.length_take,List.length_drop,Array.length_toList]
         omega
       · rw [htake, ← hlen, ← E.all_append]
         exact List.take_left
     · exact ⟨rfl,rfl,rfl,by simp,fun k hk hne=>setRow_other w g k _ (fun e=>hne (congrArg some e))⟩
   · have hold:(Builtin.firstCells i.size xs.length (.slice (some ⟨g,0,none⟩) xs.length cap)).run P w.drew = .ok (E.all xs).toArray w.drew :=
      run_firstCells_some w.drew i.size xs.length ⟨g,0,none⟩ xs.length cap (E.all xs) hlx (World.ownsRow.cells (w:=w.drew) h0 (g:=g) rfl)
     have hgr:=grown cap (by omega)
     have hr:=run_append_grow_src (P:=P) w t tx ty e i z ht hi1 hi2 (some ⟨g,0,none⟩) xs.length cap (E.all xs) hold x m (E.all ys) hs (by omega) (by omega) (growslice_fits (by omega) hb)
     exact ⟨_,_,hr,hgr.1,hgr.2 _⟩
theorem wpList_app_srcG {P:Program} {α : Type} {size t tx e bytes:Nat} {w:World} {ops:Array Oper} {rest:List Oper} {o:Oper} {a:Act} {Q:Exit→Act→World→Prop} (EL:Elem P t e size bytes) (E:Enc α size)
 (hgd:o.guard=none) (s x:Operand) (ho:o.op = .call { callee := .builtin .append,args:=#[s,x],argTypes:=#[t,tx] }) (base:Nat) (v:Value) (xs:List α)
 (hs:a.eval s=v) (hown:Own E e w base v xs) (y:Value) (m:Nat) (ys:List α) (hx:a.eval x=y) (hl:ys.length=m) (hsrc:Src P size tx y m (E.all ys) w)
 (hb:(xs.length+m)*bytes≤140737488355328) (hb2:xs.length+m≤maxLen) (hbase:base≤w.heap.size)
 (h:∀ (v':Value) (w':World),Own E e w' base v' (xs++ys)→w.grownBy w' v.ownBlock→wpList P ops Q rest (a.put o.dst v') w'):wpList P ops Q (o :: rest) a w:=by
 obtain ⟨v',w',hrun,h2,h3⟩:=run_app_srcG (ty:=o.type) EL E base v xs hown y m ys hl hsrc hb hb2 hbase
 refine wpList_plain hgd fun _ hK => ?_
 unfold Oper.wp execOp
 simp only [ho,resolve,invoke,builtin,Sem.run_bind,Sem.run_pure,Result.andThen_ok,List.map_toArray,List.map_cons,List.map_nil,hs,hx,hrun]
 exact hK _ _ (h v' w' h2 h3)
theorem own_row8 {w:World} {b:Nat} {v:Value} {xs:List Int} (h:Own8 w b v xs) (g:Nat) (hg:v.ownBlock=some g):b≤g∧∃ cur fr,w.heap[g]? = some (.cells cur 5 fr):=by
 rcases h.2 with ⟨h1,_⟩ | ⟨g',cap',cur,h1,h2,h3,_⟩
 · rw [h1] at hg;cases hg
 · rw [h1] at hg
   have:g'=g:=Option.some.inj hg
   subst this
   exact ⟨h2,cur,_,h3⟩
theorem own_slice {α : Type} {size:Nat} {E:Enc α size} {e:TypeId} {w:World} {b:Nat} {v:Value} {xs:List α} (h:Own E e w b v xs):∃ ao n c,v = .slice ao n c:=by
 rcases h.2 with ⟨h1,_⟩ | ⟨g,cap,cur,h1,_⟩
 · exact ⟨_,_,_,h1⟩
 · exact ⟨_,_,_,h1⟩
theorem Fb.own {w w':World} {b:Nat} {v:Value} {xs:List Int} (h:Own8 w (b+1) v xs) (hg:w.grownBy w' v.ownBlock):Fb w w' b:=by
 cases hv:v.ownBlock with
 | none =>
   rw [hv] at hg
   exact ⟨hg.os,hg.tape,hg.output,hg.size,fun k hk _ _=>hg.block k hk (by simp)⟩
 | some g =>
   rw [hv] at hg
   obtain ⟨h1,h2⟩:=own_row8 h g hv
   exact Fb.grown hg h2 (by omega)
def WrAt (w:World) (b:Nat) (nv wv ad bv:Value):Prop:=w.heap[b]? = some (.cells #[nv,wv,ad,bv] 69)
section
variable {w:World} {b:Nat} {nv wv ad bv:Value}
theorem WrAt.lt (h:WrAt w b nv wv ad bv):b<w.heap.size:=(Array.getElem?_eq_some_iff.1 h).1
theorem WrAt.facts (h:WrAt w b nv wv ad bv):w.cell? ⟨b,0,none⟩=some nv∧w.cell? ⟨b,1,none⟩=some wv∧w.cell? ⟨b,2,none⟩=some ad∧w.cell? ⟨b,3,none⟩=some bv :=
 ⟨by rw [cell_of_row w b 0 _ _ _ h];rfl,by rw [cell_of_row w b 1 _ _ _ h];rfl,by rw [cell_of_row w b 2 _ _ _ h];rfl,by rw [cell_of_row w b 3 _ _ _ h];rfl⟩
theorem WrAt.frozen (h:WrAt w b nv wv ad bv) (j:Nat):w.frozen? ⟨b,j,none⟩=false:=frozen_of_row w b j _ _ h
theorem WrAt.below {w':World} {B:Nat} (h:WrAt w b nv wv ad bv) (hb:Below B w w') (hB:b<B):WrAt w' b nv wv ad bv:=by unfold WrAt;rw [hb.block b hB];exact h
theorem WrAt.put1 (h:WrAt w b nv wv ad bv) (v:Value):WrAt (w.setCell ⟨b,1,none⟩ v) b nv v ad bv:=by unfold WrAt;rw [heap_setCell_same w b 1 _ _ _ h];rfl
theorem WrAt.put2 (h:WrAt w b nv wv ad bv) (v:Value):WrAt (w.setCell ⟨b,2,none⟩ v) b nv wv v bv:=by unfold WrAt;rw [heap_setCell_same w b 2 _ _ _ h];rfl
theorem WrAt.put3 (h:WrAt w b nv wv ad bv) (v:Value):WrAt (w.setCell ⟨b,3,none⟩ v) b nv wv ad v:=by unfold WrAt;rw [heap_setCell_same w b 3 _ _ _ h];rfl
theorem WrAt.shape (h:WrAt w b nv wv ad bv):w.shape? b=some (69,4):=by
 have h':w.heap[b]? = some (.cells #[nv,wv,ad,bv] 69):=h
 simp [World.shape?,h']
end
set_option maxRecDepth 100000 in
set_option maxHeartbeats 1600000 in
theorem copy_used (w:World) (b:Nat) (h0:w.cell? ⟨b,2,none⟩=some (.pointer (some ⟨b,2,none⟩))) :
 Calls Tryz.prog 99 #[.pointer (some ⟨b,2,none⟩)] w fun e w'=>e = .returned (.tuple #[])∧w=w':=by
 obtain ⟨j,hj,_⟩:=bld_info
 go_enter Tryz.func99,Tryz.ntmps99
 go_wp2_with fail
 rw [Lib.run_neq_ptr_same w _ Tryz.underlying65 hj]
 go_wp2_with fail
 go_end0
 exact ⟨rfl,rfl⟩
set_option maxRecDepth 100000 in
set_option maxHeartbeats 1600000 in
theorem copy_fresh (w:World) (b:Nat) (nv wv bv:Value) (h:WrAt w b nv wv (.pointer none) bv) :
 Calls Tryz.prog 99 #[.pointer (some ⟨b,2,none⟩)] w fun e w'=>e = .returned (.tuple #[])∧w.setCell ⟨b,2,none⟩ (.pointer (some ⟨b,2,none⟩))=w':=by
 obtain ⟨j,hj,hjs⟩:=bld_info
 obtain ⟨-, -,h0, -⟩:=h.facts
 have hfz:=h.frozen 2
 have hsh:=h.shape
 have hlies:liesAt Tryz.prog Tryz.prog.depth 69 (4 / Tryz.prog.cellsOf 69) 2 67 1=true:=by kernel_rfl
 go_enter Tryz.func99,Tryz.ntmps99
 go_wp2_with fail
 rw [Lib.run_to_unsafe w ⟨b,2,none⟩ Tryz.underlying65 Tryz.underlying173 hj (by rw [hjs];decide) hsh (by show 2<4;omega)]
 simp only [Result.andThen]
 rw [Oper.upon_value]
 go_wp2_with fail
 rw [run_callFunc_extern Tryz.func146 (by kernel_rfl) (by kernel_rfl) (by kernel_rfl) (e:=Extern.AbiNoEscape.same) (by kernel_rfl)]
 rw [Lib.run_noEscape]
 simp only [Result.andThen]
 rw [Oper.upon_value]
 go_wp2_with fail
 rw [Lib.run_from_unsafe w ⟨b,2,none⟩ Tryz.underlying173 Tryz.underlying65 hj hsh hlies]
 simp only [Result.andThen]
 rw [Oper.upon_value]
 go_wp2_with fail
 go_end0
 exact ⟨rfl,rfl⟩
def WS (w:World) (b:Nat) (nv wv:Value) (txt:List Int):Prop:=∃ ad bv,WrAt w b nv wv ad bv∧(ad = .pointer none∨ad = .pointer (some ⟨b,2,none⟩))∧Own8 w (b+1) bv txt∧Bytes txt
theorem WS.lt {w:World} {b:Nat} {nv wv:Value} {txt:List Int} (h:WS w b nv wv txt):b<w.heap.size:=by obtain ⟨_,_,h,_⟩:=h;exact h.lt
theorem WS.below {w w':World} {b:Nat} {nv wv:Value} {txt:List Int} (h:WS w b nv wv txt) (hb:Below w.heap.size w w'):WS w' b nv wv txt:=by
 have hl:=h.lt
 obtain ⟨ad,bv,h1,h2,h3,h4⟩:=h;exact ⟨ad,bv,h1.below hb hl,h2,h3.below hb (Nat.le_refl _),h4⟩
set_option maxRecDepth 100000 in
set_option maxHeartbeats 1600000 in
theorem write_any (w:World) (b:Nat) (nv wv:Value) (txt:List Int) (s:ByteArray) (h:WS w b nv wv txt) (hlen:txt.length+s.size≤10000000000) :
 Calls Tryz.prog 60 #[.pointer (some ⟨b,2,none⟩),.string s] w fun e w'=>(∃ x,e = .returned (.tuple #[x,.nilIface]))∧WS w' b nv wv (txt++sb s)∧Fb w w' b:=by
 have step:∀ (ad bv:Value) (wc:World),WrAt wc b nv wv ad bv→Own8 wc (b+1) bv txt→∀ (v':Value) (w1:World),Own8 w1 (b+1) v' (txt++sb s)→wc.grownBy w1 bv.ownBlock→WrAt w1 b nv wv ad bv∧Fb wc w1 b:=by
  intro ad bv wc h1 h2 v' w1 _ hg
  have hf:=Fb.own h2 hg
  refine ⟨?_,hf⟩
  unfold WrAt
  rw [hg.block b h1.lt (fun e=>by have:=own_row8 h2 b e.symm;omega)];exact h1
 have HST:=Lib.hid step
 have hsm:s.size≤10000000000:=by omega
 obtain ⟨ad,bv,hw,had,ho,hby⟩:=h
 have HBY:=Lib.hid (hby.append (sb_bd s))
 clear hby
 clear step
 rcases had with rfl | rfl
 · have HCP:=Lib.hid (copy_fresh w b nv wv bv hw)
   have HW:=Lib.hid (hw.put2 (.pointer (some ⟨b,2,none⟩)))
   have HO:=Lib.hid (Own.other ho (grownBy.setCell' (grownBy.refl' w (some b)) 2 (.pointer (some ⟨b,2,none⟩))) (Nat.lt_succ_self b):Own8 (w.setCell ⟨b,2,none⟩ (.pointer (some ⟨b,2,none⟩))) (b+1) bv txt)
   have HF:=Lib.hid (Fb.setCell (w:=w) (b:=b) 2 (.pointer (some ⟨b,2,none⟩)))
   clear hw ho
   go_enter Tryz.func60,Tryz.ntmps60
   go_upto_region 2 with (go_at_call 99;((with_reducible refine HCP.out.mono ?_);rintro e w1 ⟨rfl,rfl⟩))
   generalize w.setCell ⟨b,2,none⟩ (.pointer (some ⟨b,2,none⟩))=w1 at HW HO HF ⊢
   obtain ⟨c0,c1,c2,c3⟩:=HW.out.facts
   have hbz:=HW.out.lt
   go_wp2_with (at_builtin;refine wpList_app_srcG Elem.u8 (encInt .u8) rfl (.tmp 12) (.tmp 13) rfl (b+1) _ _ rfl HO.out (.string s) s.size (sb s) rfl (length_sb s) (src_text s) ?_ ?_ ?_ ?_;omega;(unfold maxLen;omega);omega;intro v3 w3 h1 h2;obtain ⟨ao3,n3,c3',hv3⟩:=own_slice h1;subst hv3;obtain ⟨h3,h4⟩:=HST.out _ _ _ HW.out HO.out _ w3 h1 h2;have f3:=h3.frozen 3;obtain ⟨y0,y1,y2,y3⟩:=h3.facts;have HW3:=Lib.hid (h3.put3 (.slice ao3 n3 c3'));have HF3:=Lib.hid ((HF.out.trans h4).trans (Fb.setCell 3 (.slice ao3 n3 c3')));have HO3:=Lib.hid (Own.other h1 (grownBy.setCell' (grownBy.refl' w3 (some b)) 3 (.slice ao3 n3 c3')) (Nat.lt_succ_self b):Own8 (w3.setCell ⟨b,3,none⟩ (.slice ao3 n3 c3')) (b+1) (.slice ao3 n3 c3') (txt++sb s));clear h1 h2 h3 h4 c0 c1 c2 c3)
   go_ret2
   exact ⟨⟨_,rfl⟩,⟨_,_,HW3.out,.inr rfl,HO3.out,HBY.out⟩,HF3.out⟩
 · have HCP:=Lib.hid (copy_used w b hw.facts.2.2.1)
   have HW:=Lib.hid hw
   have HO:=Lib.hid ho
   have HF:=Lib.hid (Fb.refl w b)
   clear hw ho
   go_enter Tryz.func60,Tryz.ntmps60
   go_upto_region 2 with (go_at_call 99;((with_reducible refine HCP.out.mono ?_);rintro e w1 ⟨rfl,rfl⟩))
   obtain ⟨c0,c1,c2,c3⟩:=HW.out.facts
   have hbz:=HW.out.lt
   go_wp2_with (at_builtin;refine wpList_app_srcG Elem.u8 (encInt .u8) rfl (.tmp 12) (.tmp 13) rfl (b+1) _ _ rfl HO.out (.string s) s.size (sb s) rfl (length_sb s) (src_text s) ?_ ?_ ?_ ?_;omega;(unfold maxLen;omega);omega;intro v3 w3 h1 h2;obtain ⟨ao3,n3,c3',hv3⟩:=own_slice h1;subst hv3;obtain ⟨h3,h4⟩:=HST.out _ _ _ HW.out HO.out _ w3 h1 h2;have f3:=h3.frozen 3;obtain ⟨y0,y1,y2,y3⟩:=h3.facts;have HW3:=Lib.hid (h3.put3 (.slice ao3 n3 c3'));have HF3:=Lib.hid ((HF.out.trans h4).trans (Fb.setCell 3 (.slice ao3 n3 c3')));have HO3:=Lib.hid (Own.other h1 (grownBy.setCell' (grownBy.refl' w3 (some b)) 3 (.slice ao3 n3 c3')) (Nat.lt_succ_self b):Own8 (w3.setCell ⟨b,3,none⟩ (.slice ao3 n3 c3')) (b+1) (.slice ao3 n3 c3') (txt++sb s));clear h1 h2 h3 h4 c0 c1 c2 c3)
   go_ret2
   exact ⟨⟨_,rfl⟩,⟨_,_,HW3.out,.inr rfl,HO3.out,HBY.out⟩,HF3.out⟩
theorem cells_byte:Tryz.prog.cellsOf 5=1:=by kernel_rfl
theorem sb_list (s:ByteArray):sb s=s.data.toList.map fun x=>(x.toNat:Int):=rfl
set_option maxRecDepth 100000 in
set_option maxHeartbeats 2000000 in
theorem string_any (w:World) (b:Nat) (nv wv:Value) (txt:List Int) (h:WS w b nv wv txt) (hne:txt≠[]) :
 Calls Tryz.prog 34 #[.pointer (some ⟨b,2,none⟩)] w fun e w'=>e = .returned (.string (strOfNums txt))∧Below (b+1) w w':=by
 obtain ⟨ad,bv,hw, -,ho,hby⟩:=h
 obtain ⟨s,hs⟩:∃ s,strOfNums txt=s:=⟨_,rfl⟩
 have hsb:sb s=txt:=by rw [← hs];exact sb_str txt hby
 rw [hs]
 obtain ⟨l,hl⟩:∃ l,s.data.toList=l:=⟨_,rfl⟩
 have hls:(⟨l.toArray⟩:ByteArray)=s:=by rw [← hl]
 have htx:txt=l.map fun x=>(x.toNat:Int):=by rw [← hsb,sb_list,hl]
 have hl0:l≠[]:=fun e=>hne (by rw [htx,e];rfl)
 have hlen:txt.length=l.length:=by rw [htx,List.length_map]
 obtain ⟨g,cap,cur,rfl,hbg,hg,hnc,hcm,hcs,htake⟩:=ho.2.resolve_left (fun h=>hl0 (List.length_eq_zero_iff.1 (by rw [← hlen];exact h.2)))
 have hlp:0<l.length:=List.length_pos_iff.2 hl0
 have HO:=ho
 rw [hlen] at hnc hw
 have c3:w.cell? ⟨b,3,none⟩=some (.slice (some ⟨g,0,none⟩) l.length cap):=hw.facts.2.2.2
 have hSD:(Builtin.unsafeSliceData_ #[22] 116 #[.slice (some ⟨g,0,none⟩) l.length cap]).run Tryz.prog w.drew = .ok (.pointer (some ⟨g,0,none⟩)) w.drew :=
  Lib.run_unsafeSliceData_row _ _ _ _ _ _ (by omega)
 have hUS:(Builtin.unsafeString_ #[116,3] 9 #[.pointer (some ⟨g,0,none⟩),.int .i64 l.length]).run Tryz.prog w.drew = .ok (.string s) (w.drew.freeze ⟨g,0,none⟩ l.length):=by
  rw [← hls]
  refine Lib.run_unsafeString_row w.drew 116 3 9 5 Tryz.underlying116 cells_byte g cur.size (by have hg':w.drew.heap[g]? = some (.cells cur 5):=hg;simp [World.shape?,hg']) l hl0 (by omega) (by unfold maxLen at hcm;omega) ?_
  intro j x hx
  have h1:(txt.map fun y=>Value.int .u8 y)[j]? = some (.int .u8 (x.toNat:Int)):=by rw [htx,List.map_map,List.getElem?_map,hx];rfl
  have h2:((encInt .u8).all txt)[j]? = some (.int .u8 (x.toNat:Int)):=by rw [all_encInt];exact h1
  have:=Own.cells HO j _ h2
  simpa [Addr.add_mid] using this
 clear HO ho hby htake hcs htx hsb hl hls hs
 go_enter Tryz.func34,Tryz.ntmps34
 go_wp2_with fail
 go_region
 all_goals (go_wp2_with fail;go_ret;exact ⟨rfl,Lib.below_freeze (Below.drew (Below.refl (b+1) w)) (p:=⟨g,0,none⟩) hbg _⟩)
def wordP (f deep base:Nat) (name:ByteArray) (ts:List Tk):Option Res :=
 if name=⟨#[84,82,85,69]⟩ then some (.ok ([{ Nd.zero with kind:=3,num:=1 }],base,ts))
 else if name=⟨#[70,65,76,83,69]⟩ then some (.ok ([{ Nd.zero with kind:=3 }],base,ts))
 else if signIs ⟨#[40]⟩ ts=true then caP f deep base name ts else some (.error 5)
theorem word_eq (name c:ByteArray):(name.toList == c.toList)=decide (name=c):=by
 by_cases h:name=c
 · rw [h,decide_eq_true rfl];simp
 · rw [decide_eq_false h];exact beq_eq_false_iff_ne.2 (text_ne _ _ h)
theorem list_true:(⟨#[84,82,85,69]⟩:ByteArray).toList=[84,82,85,69]:=by rw [list_bytes]
theorem list_false:(⟨#[70,65,76,83,69]⟩:ByteArray).toList=[70,65,76,83,69]:=by rw [list_bytes]
set_option maxRecDepth 100000 in
set_option maxHeartbeats 2000000 in
theorem pword_any (f:Nat) (IH:∀ g,g≤f→EX g) (name:ByteArray) {w:World} {b:Nat} {tv:Value} {ts:List Tk} {p deep:Nat} {nv:Value} {vs:List Nv} (h:Ps w b tv ts p deep nv vs) (hnx:p+1<ts.length) (res:Res) (hres:wordP f deep vs.length name (ts.drop (p+1))=some res) :
 Calls Tryz.prog 125 #[.pointer (some ⟨b,0,none⟩),.string name] w (Out res w b tv ts deep vs):=by
 unfold wordP at hres
 have q1:=word_eq name ⟨#[84,82,85,69]⟩
 have q2:=word_eq name ⟨#[70,65,76,83,69]⟩
 rw [list_true] at q1
 rw [list_false] at q2
 by_cases h1:name=⟨#[84,82,85,69]⟩
 · rw [decide_eq_true h1] at q1
   rw [if_pos h1] at hres
   injection hres with hres
   have HR:=Lib.hid hres.symm
   have HA:=Lib.hid (show Calls Tryz.prog 123 #[.pointer (some ⟨b,0,none⟩),.agg #[.int .i64 3,.int .i64 1,.string ⟨#[]⟩,.string ⟨#[]⟩,.int .i64 0,.int .i64 0,.bool false,.bool false,.string ⟨#[]⟩,.int .i64 0,.int .i64 0,.bool false,.bool false,.slice none 0 0]] w _ from leaf_any h hnx { Nd.zero with kind:=3,num:=1 } rfl)
   clear hres h h1 q2
   go_enter Tryz.func125,Tryz.ntmps125
   go_wp2_with (go_at_call 123;((with_reducible refine HA.out.mono ?_);rintro e w7 ⟨h1,rfl,nv',h3⟩;have HF7:=Lib.hid h1;have HP7:=Lib.hid h3;clear h1 h3))
   go_ret
   exact Out.leaf HR.out HF7.out rfl HP7.out
 rw [decide_eq_false h1] at q1
 rw [if_neg h1] at hres
 by_cases h2:name=⟨#[70,65,76,83,69]⟩
 · rw [decide_eq_true h2] at q2
   rw [if_pos h2] at hres
   injection hres with hres
   have HR:=Lib.hid hres.symm
   have HA:=Lib.hid (show Calls Tryz.prog 123 #[.pointer (some ⟨b,0,none⟩),.agg #[.int .i64 3,.int .i64 0,.string ⟨#[]⟩,.string ⟨#[]⟩,.int .i64 0,.int .i64 0,.bool false,.bool false,.string ⟨#[]⟩,.int .i64 0,.int .i64 0,.bool false,.bool false,.slice none 0 0]] w _ from leaf_any h hnx { Nd.zero with kind:=3 } rfl)
   clear hres h h1 h2
   go_enter Tryz.func125,Tryz.ntmps125
   go_wp2_with (go_at_call 123;((with_reducible refine HA.out.mono ?_);rintro e w7 ⟨h1,rfl,nv',h3⟩;have HF7:=Lib.hid h1;have HP7:=Lib.hid h3;clear h1 h3))
   go_ret
   exact Out.leaf HR.out HF7.out rfl HP7.out
 rw [decide_eq_false h2] at q2
 rw [if_neg h2] at hres
 obtain ⟨c0,c1,c2,c3⟩:=h.facts
 have f1:=h.frozen 1
 have hfew:=h.few
 have HP:=Lib.hid h
 clear c0 c2 c3 h1 h2 h
 have HP1:=Lib.hid (HP.out.next hnx)
 have HF1:=Lib.hid ((Fr.refl w b).setCell 1 (.int .i64 ((p:Int)+1)))
 cases hs:signIs ⟨#[40]⟩ (ts.drop (p+1))
 · rw [hs,if_neg (by decide)] at hres
   injection hres with hres
   have HR:=Lib.hid hres.symm
   have HS:=isSign_any HP1.out ⟨#[40]⟩
   rw [hs] at HS
   have HS:=Lib.hid HS
   clear hres hs
   go_enter Tryz.func125,Tryz.ntmps125
   go_upto_region 7 with (fail)
   generalize w.setCell ⟨b,1,none⟩ (.int .i64 ((p:Int)+1))=w1 at HP1 HF1 HS ⊢
   go_wp2_with (go_at_call 119;((with_reducible refine HS.out.mono ?_);rintro e w2 ⟨rfl,h1⟩;have HF2:=Lib.hid (HF1.out.below h1);clear h1))
   go_ret
   exact Out.err HR.out (.inl rfl) HF2.out
 · rw [hs,if_pos rfl] at hres
   have HRES:=Lib.hid hres
   have hnx1:=sign_next HP1.out hs
   have HS:=isSign_any HP1.out ⟨#[40]⟩
   rw [hs] at HS
   have HS:=Lib.hid HS
   have HIH:=Lib.hid IH
   clear hres hs IH
   go_enter Tryz.func125,Tryz.ntmps125
   go_upto_region 7 with (fail)
   generalize w.setCell ⟨b,1,none⟩ (.int .i64 ((p:Int)+1))=w1 at HP1 HF1 HS ⊢
   go_wp2_with (first
    | (go_at_call 119;((with_reducible refine HS.out.mono ?_);rintro e w2 ⟨rfl,h1⟩;have HF2:=Lib.hid (HF1.out.below h1);have HCA:=Lib.hid (call_any f HIH.out name (HP1.out.below h1) hnx1 res HRES.out);clear h1))
    | (go_at_call 162;((with_reducible refine HCA.out.mono ?_);intro e w3 ho;have HOO:=Lib.hid ho;obtain ⟨c,rfl⟩:=ho.ret;clear ho)))
   go_ret
   obtain ⟨hf,h2⟩:=HOO.out
   refine ⟨HF2.out.trans hf,h2.imp id ?_⟩
   rintro ⟨ms,a,r,g1,g2,p',nv',us,g3,g4,g5,g6⟩
   exact ⟨ms,a,r,g1,g2,p',nv',us,g3,g4,fun u hu j hj=>Nat.le_trans HF2.out.size (g5 u hu j hj),g6⟩
theorem Out.from {res:Res} {w w2 w3:World} {b:Nat} {tv:Value} {ts:List Tk} {deep:Nat} {vs:List Nv} {e:Ending} (hf:Fr w w2 b) (h:Out res w2 b tv ts deep vs e w3):Out res w b tv ts deep vs e w3:=by
 refine ⟨hf.trans h.1,h.2.imp id ?_⟩
 rintro ⟨ms,a,r,g1,g2,p',nv',us,g3,g4,g5,g6⟩
 exact ⟨ms,a,r,g1,g2,p',nv',us,g3,g4,fun u hu j hj=>Nat.le_trans hf.size (g5 u hu j hj),g6⟩
theorem sign_kind {s:ByteArray} {t:Tk} {ts:List Tk} (h:¬ t.kind=5):signIs s (t :: ts)=false:=by
 show (decide (t.kind=5)&&decide (t.text=s))=false
 rw [decide_eq_false h];rfl
set_option maxRecDepth 100000 in
set_option maxHeartbeats 4000000 in
theorem prim_any (f:Nat) (IH:∀ g,g≤f→EX g) {w:World} {b:Nat} {tv:Value} {ts:List Tk} {p deep:Nat} {nv:Value} {vs:List Nv} (h:Ps w b tv ts p deep nv vs) (res:Res) (hres:primP (f+1) deep vs.length (ts.drop p)=some res) :
 Calls Tryz.prog 78 #[.pointer (some ⟨b,0,none⟩)] w (Out res w b tv ts deep vs):=by
 obtain ⟨g,cap,t, -,ht,hd, -⟩:=h.tok
 have HTK:=Lib.hid (ptoken_any h t ht)
 have HP:=Lib.hid h
 have hbl:=h.blt
 rw [hd,primP_cons] at hres
 go_enter Tryz.func78,Tryz.ntmps78
 go_upto_region 2 with (go_at_call 39;((with_reducible refine HTK.out.mono ?_);rintro e w1 ⟨rfl,h1⟩;have HB:=Lib.hid h1;clear h1))
 have hB3:Below w1.heap.size w1 (w1.alloc (.cells #[.int .i64 t.kind,.string t.text,.int .i64 t.num,.string t.sh,.int .i64 t.c,.int .i64 t.r,.bool t.ac,.bool t.ar,.int .i64 t.pos] 86)):=(Below.refl _ _).alloc (Nat.le_refl _) _
 have HN3:TkAt (w1.alloc (.cells #[.int .i64 t.kind,.string t.text,.int .i64 t.num,.string t.sh,.int .i64 t.c,.int .i64 t.r,.bool t.ac,.bool t.ar,.int .i64 t.pos] 86)) w1.heap.size t:=TkAt.new w1 t
 have HB3:=Lib.hid (HB.out.trans (hB3.mono HB.out.size))
 clear hB3 HB
 generalize hb4:w1.heap.size=b4 at HN3 ⊢
 generalize w1.alloc (.cells #[.int .i64 t.kind,.string t.text,.int .i64 t.num,.string t.sh,.int .i64 t.c,.int .i64 t.r,.bool t.ac,.bool t.ar,.int .i64 t.pos] 86)=w3 at HN3 HB3 ⊢
 clear hb4 HTK
 obtain ⟨x0,x1,x2,x3,x4,x5,x6,x7,x8⟩:=HN3.cells
 clear HN3
 have HP3:=Lib.hid (HP.out.below HB3.out)
 have HF3:=Lib.hid (Fr.of b HB3.out)
 obtain ⟨kd,hkd⟩:∃ kd,t.kind=kd:=⟨_,rfl⟩
 by_cases k1:t.kind=1
 · have hnx:=h.fit.next ht (by omega)
   rw [sign_kind (by omega),if_neg (by decide),if_pos k1] at hres
   injection hres with hres
   have HR:=Lib.hid hres.symm
   have HA:=Lib.hid (show Calls Tryz.prog 123 #[.pointer (some ⟨b,0,none⟩),.agg #[.int .i64 1,.int .i64 t.num,.string ⟨#[]⟩,.string ⟨#[]⟩,.int .i64 0,.int .i64 0,.bool false,.bool false,.string ⟨#[]⟩,.int .i64 0,.int .i64 0,.bool false,.bool false,.slice none 0 0]] w3 _ from leaf_any HP3.out hnx { Nd.zero with kind:=1,num:=t.num } rfl)
   have e1:(kd == 1)=true:=beq_iff_eq.2 (by omega)
   rw [hkd] at x0
   clear hres hd ht k1 hkd h
   go_wp2_with (go_at_call 123;((with_reducible refine HA.out.mono ?_);rintro e w7 ⟨h1,rfl,nv',h3⟩;have HF7:=Lib.hid (HF3.out.trans h1);have HP7:=Lib.hid h3;clear h1 h3))
   go_ret
   exact Out.leaf HR.out HF7.out rfl HP7.out
 have e1:(kd == 1)=false:=beq_eq_false_iff_ne.2 (by omega)
 by_cases k2:t.kind=2
 · have hnx:=h.fit.next ht (by omega)
   rw [sign_kind (by omega),if_neg (by decide),if_neg k1,if_pos k2] at hres
   injection hres with hres
   have HR:=Lib.hid hres.symm
   have HA:=Lib.hid (show Calls Tryz.prog 123 #[.pointer (some ⟨b,0,none⟩),.agg #[.int .i64 2,.int .i64 0,.string t.text,.string ⟨#[]⟩,.int .i64 0,.int .i64 0,.bool false,.bool false,.string ⟨#[]⟩,.int .i64 0,.int .i64 0,.bool false,.bool false,.slice none 0 0]] w3 _ from leaf_any HP3.out hnx { Nd.zero with kind:=2,text:=t.text } rfl)
   have e2:(kd == 2)=true:=beq_iff_eq.2 (by omega)
   rw [hkd] at x0
   clear hres hd ht k1 k2 hkd h
   go_wp2_with (go_at_call 123;((with_reducible refine HA.out.mono ?_);rintro e w7 ⟨h1,rfl,nv',h3⟩;have HF7:=Lib.hid (HF3.out.trans h1);have HP7:=Lib.hid h3;clear h1 h3))
   go_ret
   exact Out.leaf HR.out HF7.out rfl HP7.out
 have e2:(kd == 2)=false:=beq_eq_false_iff_ne.2 (by omega)
 by_cases k6:t.kind=6
 · have hnx:=h.fit.next ht (by omega)
   rw [sign_kind (by omega),if_neg (by decide),if_neg k1,if_neg k2,if_pos k6] at hres
   injection hres with hres
   have HR:=Lib.hid hres.symm
   have HA:=Lib.hid (show Calls Tryz.prog 123 #[.pointer (some ⟨b,0,none⟩),.agg #[.int .i64 4,.int .i64 0,.string ⟨#[]⟩,.string ⟨#[]⟩,.int .i64 0,.int .i64 0,.bool false,.bool false,.string ⟨#[]⟩,.int .i64 0,.int .i64 0,.bool false,.bool false,.slice none 0 0]] w3 _ from leaf_any HP3.out hnx { Nd.zero with kind:=4 } rfl)
   have e6:(kd == 6)=true:=beq_iff_eq.2 (by omega)
   rw [hkd] at x0
   clear hres hd ht k1 k2 k6 hkd h
   go_wp2_with (go_at_call 123;((with_reducible refine HA.out.mono ?_);rintro e w7 ⟨h1,rfl,nv',h3⟩;have HF7:=Lib.hid (HF3.out.trans h1);have HP7:=Lib.hid h3;clear h1 h3))
   go_ret
   exact Out.leaf HR.out HF7.out rfl HP7.out
 have e6:(kd == 6)=false:=beq_eq_false_iff_ne.2 (by omega)
 by_cases k4:t.kind=4
 · have hnx:=h.fit.next ht (by omega)
   rw [sign_kind (by omega),if_neg (by decide),if_neg k1,if_neg k2,if_neg k6,if_pos k4] at hres
   injection hres with hres
   have HA:=Lib.hid (place_any HP3.out t hnx vs.length)
   rw [hres] at HA
   have e4:(kd == 4)=true:=beq_iff_eq.2 (by omega)
   rw [hkd] at x0
   clear hres hd ht k1 k2 k6 k4 hkd h
   go_wp2_with (go_at_call 124;((with_reducible refine HA.out.mono ?_);intro e w7 ho;have HOO:=Lib.hid (Out.from HF3.out ho);obtain ⟨c,rfl⟩:=ho.ret;clear ho))
   go_ret
   exact HOO.out
 have e4:(kd == 4)=false:=beq_eq_false_iff_ne.2 (by omega)
 by_cases k3:t.kind=3
 · have hnx:=h.fit.next ht (by omega)
   rw [sign_kind (by omega),if_neg (by decide),if_neg k1,if_neg k2,if_neg k6,if_neg k4,if_pos k3] at hres
   have HA:=Lib.hid (pword_any f IH t.text HP3.out hnx res hres)
   have e3:(kd == 3)=true:=beq_iff_eq.2 (by omega)
   rw [hkd] at x0
   clear hres hd ht k1 k2 k6 k4 k3 hkd h IH
   go_wp2_with (go_at_call 125;((with_reducible refine HA.out.mono ?_);intro e w7 ho;have HOO:=Lib.hid (Out.from HF3.out ho);obtain ⟨c,rfl⟩:=ho.ret;clear ho))
   go_ret
   exact HOO.out
 have e3:(kd == 3)=false:=beq_eq_false_iff_ne.2 (by omega)
 have hb:brP f deep vs.length (ts.drop p)=some res:=by
  unfold brP
  rw [hd]
  by_cases c:signIs ⟨#[40]⟩ (t :: ts.drop (p+1))=true
  · rw [if_pos c] at hres ⊢;exact hres
  · rw [if_neg c,if_neg k1,if_neg k2,if_neg k6,if_neg k4,if_neg k3] at hres
    rw [if_neg c];exact hres
 have HA:=Lib.hid (inBrackets_any f (IH f (Nat.le_refl _)) HP3.out res hb)
 rw [hkd] at x0
 clear hres hd ht k1 k2 k6 k4 k3 hkd h IH hb
 go_wp2_with (go_at_call 126;((with_reducible refine HA.out.mono ?_);intro e w7 ho;have HOO:=Lib.hid (Out.from HF3.out ho);obtain ⟨c,rfl⟩:=ho.ret;clear ho))
 go_ret
 exact HOO.out
set_option maxRecDepth 100000 in
set_option maxHeartbeats 4000000 in
theorem unary_any (f:Nat) (IH:∀ g,g≤f→EX g) {w:World} {b:Nat} {tv:Value} {ts:List Tk} {p deep:Nat} {nv:Value} {vs:List Nv} (h:Ps w b tv ts p deep nv vs) (res:Res) (hres:exprP (f+1) 4 deep vs.length (ts.drop p)=some res) :
 Calls Tryz.prog 77 #[.pointer (some ⟨b,0,none⟩)] w (Out res w b tv ts deep vs):=by
 have HS:=Lib.hid (isSign_any h ⟨#[45]⟩)
 rw [exprP_succ,if_neg (by omega)] at hres
 have HP:=Lib.hid h
 cases hq:signIs ⟨#[45]⟩ (ts.drop p)
 · rw [hq,if_neg (by decide)] at hres
   rw [hq] at HS
   match f,IH,hres with
   | 0,_,hres=>unfold primP at hres;cases hres
   | f+1,IH,hres =>
   have HL:=Lib.hid (fun w1 (hb:Below w.heap.size w w1)=>level_enter b 5 (by omega) w1 (Out res w b tv ts deep vs) (fun e w' ho=>ho.ret) (fun w2 hb2=>by
    rw [lv5]
    exact (prim_any f (fun g hg=>IH g (by omega)) (HP.out.below (hb.trans (hb2.mono hb.size))) res hres).mono fun e w3 ho=>Out.from (Fr.of b (hb.trans (hb2.mono hb.size))) ho))
   clear hq hres h IH
   go_enter Tryz.func77,Tryz.ntmps77
   go_wp2_with (first
    | (go_at_call 119;((with_reducible refine HS.out.mono ?_);rintro e w1 ⟨rfl,h1⟩;have HL1:=Lib.hid (show Calls Tryz.prog 38 #[.pointer (some ⟨b,0,none⟩),.int .i64 5] w1 (Out res w b tv ts deep vs) from HL.out w1 h1);clear h1))
    | (go_at_call 38;((with_reducible refine HL1.out.mono ?_);intro e w2 ho;have HOO:=Lib.hid ho;obtain ⟨c,rfl⟩:=ho.ret;clear ho)))
   go_ret
   exact HOO.out
 · have hnx := sign_next h hq
   rw [hq,if_pos rfl] at hres
   rw [hq] at HS
   by_cases hd:12≤deep
   · rw [if_pos hd] at hres
     injection hres with hres
     have HR:=Lib.hid hres.symm
     clear hq hres h IH
     go_enter Tryz.func77,Tryz.ntmps77
     go_wp2_with (first
      | (go_at_call 119;((with_reducible refine HS.out.mono ?_);rintro e w1 ⟨rfl,h1⟩;have HF1:=Lib.hid (Fr.of b h1);have HO1:=Lib.hid (popen_any (HP.out.below h1) hnx);clear h1))
      | (go_at_call 120;((with_reducible refine HO1.out.mono ?_);rintro e w2 ⟨h1,⟨-,rfl⟩ | ⟨h2, -⟩⟩;rotate_left;exact absurd hd h2;have HF2:=Lib.hid (HF1.out.trans h1);clear h1)))
     go_ret
     exact Out.err HR.out (.inr rfl) HF2.out
   · rw [if_neg hd,List.tail_drop] at hres
     rcases bindR_some hres with ⟨c,h1,rfl⟩ | ⟨ns,a,r,h1,h2⟩
     · have HI:=Lib.hid (fun w2 hps=>IH f (Nat.le_refl _) 4 (deep+1) _ w2 b tv ts (p+1) nv vs (by omega) hps h1)
       clear hq hres h IH h1
       go_enter Tryz.func77,Tryz.ntmps77
       go_wp2_with (first
        | (go_at_call 119;((with_reducible refine HS.out.mono ?_);rintro e w1 ⟨rfl,h1⟩;have HF1:=Lib.hid (Fr.of b h1);have HO1:=Lib.hid (popen_any (HP.out.below h1) hnx);clear h1))
        | (go_at_call 120;((with_reducible refine HO1.out.mono ?_);rintro e w2 ⟨h1,⟨h2, -⟩ | ⟨-,rfl,h3⟩⟩;exact absurd h2 hd;have HF2:=Lib.hid (HF1.out.trans h1);have HL:=Lib.hid (show Calls Tryz.prog 38 #[.pointer (some ⟨b,0,none⟩),.int .i64 4] w2 (Out (.error c) w2 b tv ts (deep+1) vs) from HI.out w2 h3);clear h1 h3))
        | (go_at_call 38;((with_reducible refine HL.out.mono ?_);intro e w5 ho;obtain ⟨hf,hc,rfl⟩:=ho.bad rfl;have HF5:=Lib.hid (HF2.out.trans hf);have HC:=Lib.hid hc;have hc0:(c != 0)=true:=(by rw [bne_iff_ne];rcases hc with h | h <;> omega);clear hf hc ho)))
       go_ret
       exact Out.err rfl HC.out HF5.out
     · have HI:=Lib.hid (fun w2 hps=>IH f (Nat.le_refl _) 4 (deep+1) _ w2 b tv ts (p+1) nv vs (by omega) hps h1)
       have H1:=Lib.hid h1
       injection h2 with h2
       have HR:=Lib.hid h2.symm
       have hcn:=h.cnt
       have hnest:deep≤12:=by omega
       clear hq hres h IH h1 h2
       go_enter Tryz.func77,Tryz.ntmps77
       go_upto_region 9 with (first
        | (go_at_call 119;((with_reducible refine HS.out.mono ?_);rintro e w1 ⟨rfl,h1⟩;have HF1:=Lib.hid (Fr.of b h1);have HO1:=Lib.hid (popen_any (HP.out.below h1) hnx);clear h1))
        | (go_at_call 120;((with_reducible refine HO1.out.mono ?_);rintro e w2 ⟨h1,⟨h2, -⟩ | ⟨-,rfl,h3⟩⟩;exact absurd h2 hd;have HF2:=Lib.hid (HF1.out.trans h1);have HL:=Lib.hid (show Calls Tryz.prog 38 #[.pointer (some ⟨b,0,none⟩),.int .i64 4] w2 (Out (.ok (ns,a,r)) w2 b tv ts (deep+1) vs) from HI.out w2 h3);clear h1 h3))
        | (go_at_call 38;((with_reducible refine HL.out.mono ?_);intro e w5 ho;obtain ⟨hf,rfl,p5,nv5,us5,hp5,hu5,hk5,hps5⟩:=ho.good rfl;have HF5:=Lib.hid (HF2.out.trans hf);have HP5:=Lib.hid hps5;have HD5:=Lib.hid hp5;have HU5:=Lib.hid hu5;have HK5:=Lib.hid hk5;clear hf ho hp5 hu5 hk5 hps5)))
       have hz:=HF2.out.size
       obtain ⟨c0,c1,c2,c3⟩:=HP5.out.facts
       have f2:=HP5.out.frozen 2
       rw [show ((deep+1:Nat):Int)=(deep:Int)+1 from rfl] at c2
       clear c0 c1 c3
       go_upto_region 10 with (fail)
       have HP6:=Lib.hid (HP5.out.setD deep hnest)
       have HF6:=Lib.hid (HF5.out.setCell 2 (.int .i64 (deep:Int)))
       have HSZ:=Lib.hid (show (w5.setCell ⟨b,2,none⟩ (.int .i64 (deep:Int))).heap.size=w5.heap.size by simp)
       obtain ⟨hc1,hc2,hc3⟩:=count_at H1.out HD5.out HP5.out.lt
       have hfz5:=HF5.out.size
       clear c2 f2 HP5 HF5 HL
       generalize w5.setCell ⟨b,2,none⟩ (.int .i64 (deep:Int))=w6 at HP6 HF6 HSZ ⊢
       have hus5:us5.length=ns.length:=by rw [← HU5.out,List.length_map]
       have hlen5:(vs++us5).length=vs.length+us5.length:=List.length_append
       have HRT6:=Lib.hid (root_is HP6.out a (by omega))
       have hbl:=HP6.out.blt
       have hB7:Below w6.heap.size w6 (w6.alloc (.cells #[.int .i64 (a:Int)] 3)):=(Below.refl _ _).alloc (Nat.le_refl _) _
       have HP7:=Lib.hid (HP6.out.below hB7)
       have HF7:=Lib.hid (HF6.out.below hB7)
       have HA:=Lib.hid (show Calls Tryz.prog 121 #[.pointer (some ⟨b,0,none⟩),.agg #[.int .i64 8,.int .i64 0,.string ⟨#[]⟩,.string ⟨#[]⟩,.int .i64 0,.int .i64 0,.bool false,.bool false,.string ⟨#[]⟩,.int .i64 0,.int .i64 0,.bool false,.bool false,.slice (some ⟨w6.heap.size,0,none⟩) 1 1]] (w6.alloc (.cells #[.int .i64 (a:Int)] 3)) _ from add_any HP7.out ⟨{ Nd.zero with kind:=8,kids:=[(a:Int)] },some (w6.heap.size,1)⟩ (own_lit1 w6 (b+1) (a:Int) (by omega)) (by omega) (.slice (some ⟨w6.heap.size,0,none⟩) 1 1) rfl { Nd.zero with kind:=8,kids:=[(a:Int)] } rfl)
       clear hB7
       go_wp2_with (first
        | (go_at_call 122;((with_reducible refine HRT6.out.mono ?_);rintro e wn ⟨rfl,rfl⟩))
        | (go_at_call 121;((with_reducible refine HA.out.mono ?_);rintro e w8 ⟨h1,rfl,nv8,h3⟩;have HF8:=Lib.hid (HF7.out.trans h1);have HP8:=Lib.hid h3;clear h1 h3)))
       go_ret
       refine ⟨HF8.out,.inr ⟨_,_,_,HR.out,rfl,p5,nv8,us5++[⟨{ Nd.zero with kind:=8,kids:=[(a:Int)] },some (w6.heap.size,1)⟩],HD5.out, ?_, ?_,by rw [← List.append_assoc];exact HP8.out⟩⟩
       · rw [List.map_append,HU5.out];rfl
       · intro u hu j hj
         rcases List.mem_append.1 hu with hu | hu
         · exact Nat.le_trans hz (HK5.out u hu j hj)
         · rw [List.mem_singleton.1 hu] at hj
           have hj:some w6.heap.size=some j:=hj
           injection hj with hj
           have:=HSZ.out;omega
theorem ex_all:∀ F:Nat,EX F:=by
 intro F
 induction F using Nat.strongRecOn with
 | _ F ih =>
   intro n deep res w b tv ts p nv vs hn h hres
   match F,ih,hres with
   | 0,_,hres=>unfold exprP at hres;cases hres
   | f+1,ih,hres =>
   have IH:∀ g,g≤f→EX g:=fun g hg=>ih g (by omega)
   by_cases h3:n≤3
   · rw [exprP_succ,if_pos h3] at hres
     exact level_row b w _ (fun e w' ho=>ho.ret) n h3 fun w' hb=>(row_any f IH n h3 (h.below hb) res hres).mono fun e w'' ho=>Out.from (Fr.of b hb) ho
   · have e4:n=4:=by omega
     subst e4
     refine level_enter b 4 (by omega) w _ (fun e w' ho=>ho.ret) fun w' hb => ?_
     rw [lv4]
     exact (unary_any f IH (h.below hb) res hres).mono fun e w'' ho=>Out.from (Fr.of b hb) ho
def Ups:Nat→Nat→List Tk→Prop
 | p,q,[]=>p≤q
 | p,q,t :: ts=>∃ m:Nat,t.pos=(m:Int)∧p≤m∧m≤q∧Ups m q ts
theorem Ups.less {p p' q:Nat} (h:p'≤p):∀ {ts:List Tk},Ups p q ts→Ups p' q ts
 | [],k=>Nat.le_trans h k
 | _ :: _,⟨m,h1,h2,h3,h4⟩=>⟨m,h1,Nat.le_trans h h2,h3,h4⟩
theorem lexF_ups:∀ (f p:Nat) (l:List Int) (ts:List Tk),lexF f p l=some ts→Ups p (p+l.length) ts
 | f,p,[],ts,h=>by
   have h0:lexF f p []=some [Tk.zero.goto p]:=by unfold lexF;rfl
   rw [h0] at h;injection h with h;subst h
   exact ⟨p,rfl,Nat.le_refl _,by simp,by simp [Ups]⟩
 | 0,_,_ :: _,_,h=>by unfold lexF at h;cases h
 | f + 1,p,x :: l,ts,h=>by
   rw [lexF_cons] at h
   by_cases hx:x=32
   · rw [if_pos hx] at h
     have:=lexF_ups f (p+1) l ts h
     rw [show p+1+l.length=p+(x :: l).length by simp only [List.length_cons];omega] at this
     exact this.less (Nat.le_succ _)
   · rw [if_neg hx] at h
     cases hq:tokT (x :: l) with
     | none=>rw [hq] at h;cases h
     | some q =>
       obtain ⟨t0,n⟩:=q
       have hn:=tokT_le _ _ _ hq
       rw [hq] at h
       simp only [Option.map_eq_some_iff] at h
       obtain ⟨us,h1,rfl⟩:=h
       have:=lexF_ups f (p+n) ((x :: l).drop n) us h1
       rw [show p+n+((x :: l).drop n).length=p+(x :: l).length by rw [List.length_drop];omega] at this
       exact ⟨p,rfl,Nat.le_refl _,by omega,this.less (by omega)⟩
theorem lexL_ne (s:ByteArray) (ts:List Tk) (h:lexL (sb s)=some ts):ts≠[]:=by
 have key : ∀ (f p:Nat) (l:List Int) (ts:List Tk),lexF f p l=some ts→ts≠[]:=by
  intro f
  induction f with
  | zero =>
    intro p l ts h
    cases l with
    | nil => have h0:lexF 0 p []=some [Tk.zero.goto p]:=by unfold lexF;rfl
             rw [h0] at h;injection h with h;subst h;simp
    | cons x l=>unfold lexF at h;cases h
  | succ f ih =>
    intro p l ts h
    cases l with
    | nil => have h0:lexF (f+1) p []=some [Tk.zero.goto p]:=by unfold lexF;rfl
             rw [h0] at h;injection h with h;subst h;simp
    | cons x l =>
      rw [lexF_cons] at h
      by_cases hx:x=32
      · rw [if_pos hx] at h;exact ih _ _ _ h
      · rw [if_neg hx] at h
        split at h
        · cases h
        · simp only [Option.map_eq_some_iff] at h
          obtain ⟨us,_,rfl⟩:=h;simp
 exact key _ _ _ _ h
theorem lexL_len (s:ByteArray) (ts:List Tk) (h:lexL (sb s)=some ts):ts.length≤s.size+1:=by
 have key : ∀ (f p:Nat) (l:List Int) (ts:List Tk),lexF f p l=some ts→ts.length≤l.length+1:=by
  intro f
  induction f with
  | zero =>
    intro p l ts h
    cases l with
    | nil => have h0:lexF 0 p []=some [Tk.zero.goto p]:=by unfold lexF;rfl
             rw [h0] at h;injection h with h;subst h;simp
    | cons x l=>unfold lexF at h;cases h
  | succ f ih =>
    intro p l ts h
    cases l with
    | nil => have h0:lexF (f+1) p []=some [Tk.zero.goto p]:=by unfold lexF;rfl
             rw [h0] at h;injection h with h;subst h;simp
    | cons x l =>
      rw [lexF_cons] at h
      by_cases hx:x=32
      · rw [if_pos hx] at h;have:=ih _ _ _ h;simp only [List.length_cons];omega
      · rw [if_neg hx] at h
        cases hq:tokT (x :: l) with
        | none=>rw [hq] at h;cases h
        | some q =>
          obtain ⟨t0,n⟩:=q
          have hn:=tokT_le _ _ _ hq
          rw [hq] at h
          simp only [Option.map_eq_some_iff] at h
          obtain ⟨us,h1,rfl⟩:=h
          have:=ih _ _ _ h1
          rw [List.length_drop] at this
          simp only [List.length_cons] at this hn ⊢;omega
 have:=key _ _ _ _ h
 rw [length_sb] at this;exact this
theorem num_is (x:Int) (w:World):Calls Tryz.prog 12 #[.int .i64 x] w fun e w'=>e = .returned (.int .i64 x)∧w=w':=by
 go_enter Tryz.func12,Tryz.ntmps12
 go_wp2
 go_ret
 exact ⟨rfl,rfl⟩
theorem drew_below {w w':World} (h:Below w.heap.size w w') (n:Nat):Below w.heap.size w (w'.drewN n):=⟨h.os,h.tape,h.output,h.size,h.block⟩
theorem lex_over (s:ByteArray) (w:World) (hv:Vars w) (hs:300<s.size) :
 Calls Tryz.prog 37 #[.string s] w fun e w'=>Below w.heap.size w w'∧e = .returned (.tuple #[.slice none 0 0,.int .i64 4]):=by
 refine (lex_any s w hv).mono ?_
 rintro e w' ⟨hb,⟨_,rfl⟩ | ⟨h,_⟩ | ⟨h,_⟩⟩
 · exact ⟨hb,rfl⟩
 · omega
 · omega
theorem run_tok_kind (kd:Int) (l:Array Value) (hl:l[0]? = some (.int .i64 kd)) (w:World):Sem.run Tryz.prog (Instr.field 86 (.agg l) 0) w = .ok (.int .i64 kd) w:=by
 simp [Instr.field,run_underlying Tryz.underlying86,part,isAgg,run_underlying Tryz.underlying3,asAgg,hl,go_sem]
def PIs (s:ByteArray) (res:Except Int (List Nd)):Prop :=
 (300<s.size∧res = .error 4)∨(s.size≤300∧lexL (sb s)=none∧res = .error 5)∨(s.size≤300∧∃ ts f,lexL (sb s)=some ts∧parseP f ts=some res)
theorem PIs.all (s:ByteArray):∃ res,PIs s res:=by
 by_cases h:300<s.size
 · exact ⟨_,.inl ⟨h,rfl⟩⟩
 · cases hl:lexL (sb s) with
   | none=>exact ⟨_,.inr (.inl ⟨by omega,hl,rfl⟩)⟩
   | some ts =>
     obtain ⟨f,y,hy⟩:=parse_ends ts
     exact ⟨y,.inr (.inr ⟨by omega,ts,f,hl,hy⟩)⟩
def Parsed (res:Except Int (List Nd)) (w:World) (e:Ending) (w':World):Prop :=
 Below w.heap.size w w'∧((∃ c,res = .error c∧e = .returned (.tuple #[.slice none 0 0,.int .i64 c])) ∨
  (∃ ns nv vs,res = .ok ns∧vs.map Nv.n=ns∧e = .returned (.tuple #[nv,.int .i64 0])∧NodV w' w.heap.size nv vs∧treeB ns=true))
theorem NodV.mono {w:World} {lo lo':Nat} {nv:Value} {vs:List Nv} (h:NodV w lo nv vs) (hl:lo'≤lo):NodV w lo' nv vs:=⟨h.1.mono hl,fun v hv=>(h.2 v hv).mono hl⟩
set_option maxRecDepth 100000 in
set_option maxHeartbeats 4000000 in
theorem parse_any (s:ByteArray) (w:World) (hv:Vars w) (ho:OpV w) (res:Except Int (List Nd)) (hp:PIs s res) :
 Calls Tryz.prog 11 #[.string s] w (Parsed res w):=by
 rcases hp with ⟨h1,rfl⟩ | ⟨h1,h2,rfl⟩ | ⟨h1,ts,f,h2,h3⟩
 · have HL:=Lib.hid (lex_over s w hv h1)
   clear hv ho h1
   go_enter Tryz.func11,Tryz.ntmps11
   go_wp2_with (go_at_call 37;((with_reducible refine HL.out.mono ?_);rintro e w1 ⟨hb,rfl⟩;have HB:=Lib.hid hb;clear hb))
   go_ret2
   exact ⟨HB.out,.inl ⟨4,rfl,rfl⟩⟩
 · have HL:=Lib.hid (lex_isnt s w hv h1 h2)
   clear hv ho h1 h2
   go_enter Tryz.func11,Tryz.ntmps11
   go_wp2_with (go_at_call 37;((with_reducible refine HL.out.mono ?_);rintro e w1 ⟨hb,rfl⟩;have HB:=Lib.hid hb;clear hb))
   go_ret2
   exact ⟨HB.out,.inl ⟨5,rfl,rfl⟩⟩
 · obtain ⟨hgood,hfit⟩:=lexL_good s ts h2
   have hlen:=lexL_len s ts h2
   have hne:=List.length_pos_iff.2 (lexL_ne s ts h2)
   have HL:=Lib.hid (lex_is s w hv h1 ts h2 hne)
   have hvl:=hv.lt
   have HOV:=Lib.hid ho
   have HFIT:=Lib.hid hfit
   have HTREE:=Lib.hid (fun ns (h:res = .ok ns)=>parse_tree (by rw [← h];exact h3) hgood)
   unfold parseP at h3
   have H3:=Lib.hid h3
   obtain ⟨nt,hnt⟩:∃ nt,ts.length=nt:=⟨_,rfl⟩
   have HNT:=Lib.hid hnt
   rw [hnt] at HL hlen hne
   clear hv ho h2 h3 hgood hfit hnt
   go_enter Tryz.func11,Tryz.ntmps11
   go_upto_region 5 with (go_at_call 37;((with_reducible refine HL.out.mono ?_);rintro e w1 ⟨hb,g1,cap1,rfl,hg0,hg1,ho⟩;have HO1:=Lib.hid ho;have HB:=Lib.hid hb;clear hb ho))
   have hB2:Below w1.heap.size w1 (w1.alloc (.cells #[.slice (some ⟨g1,0,none⟩) nt cap1,.int .i64 0,.int .i64 0,.slice none 0 0] 83)):=(Below.refl _ _).alloc (Nat.le_refl _) _
   have hC2:(w1.alloc (.cells #[.slice (some ⟨g1,0,none⟩) nt cap1,.int .i64 0,.int .i64 0,.slice none 0 0] 83)).heap[w1.heap.size]? = some (.cells #[.slice (some ⟨g1,0,none⟩) nt cap1,.int .i64 0,.int .i64 0,.slice none 0 0] 83):=(Go.MapKept.heap_alloc w1 _).1
   have HO2:=Lib.hid (HO1.out.below hB2 (Nat.le_refl _))
   have HOV2:=Lib.hid (HOV.out.below (HB.out.trans (hB2.mono HB.out.size)))
   have HZ1:=Lib.hid HB.out.size
   have HB2:=Lib.hid (HB.out.trans (hB2.mono HB.out.size))
   clear hB2 HB HL HO1 HOV
   generalize w1.alloc (.cells #[.slice (some ⟨g1,0,none⟩) nt cap1,.int .i64 0,.int .i64 0,.slice none 0 0] 83)=w2 at hC2 HO2 HOV2 HB2 ⊢
   obtain ⟨b,hb⟩:∃ b,w1.heap.size=b:=⟨_,rfl⟩
   rw [hb] at hC2 hg1 HZ1 ⊢
   have hz1:=HZ1.out
   have HP:=Lib.hid (show Ps w2 b (.slice (some ⟨g1,0,none⟩) nt cap1) ts 0 0 (.slice none 0 0) [] from
    ⟨hC2,⟨g1,cap1,by rw [HNT.out],hg1,HO2.out.mono (Nat.zero_le _)⟩,NodV.nil _ _,HOV2.out,by rw [HNT.out];exact hne,by omega,HFIT.out,by rw [HNT.out];omega,Nat.zero_le _,by omega⟩)
   clear hb hC2 HO2 HOV2 HFIT w1
   rcases bindR_some H3.out with ⟨c,g2,rfl⟩ | ⟨ns,a,r,g2,g3⟩
   · have HX:=Lib.hid (show Calls Tryz.prog 38 #[.pointer (some ⟨b,0,none⟩),.int .i64 0] w2 (Out (.error c) w2 b (.slice (some ⟨g1,0,none⟩) nt cap1) ts 0 []) from ex_all f 0 0 _ w2 b _ ts 0 _ [] (by omega) HP.out g2)
     clear g2 H3
     go_wp2_with (go_at_call 38;((with_reducible refine HX.out.mono ?_);intro e w5 ho;obtain ⟨hf,hc,rfl⟩:=ho.bad rfl;have HB5:=Lib.hid (HB2.out.trans (hf.toBelow hz1 HB2.out.size));have hc0:(c != 0)=true:=(by rw [bne_iff_ne];rcases hc with h | h <;> omega);clear hf hc ho))
     go_ret2
     exact ⟨HB5.out,.inl ⟨c,rfl,rfl⟩⟩
   · have HX:=Lib.hid (show Calls Tryz.prog 38 #[.pointer (some ⟨b,0,none⟩),.int .i64 0] w2 (Out (.ok (ns,a,r)) w2 b (.slice (some ⟨g1,0,none⟩) nt cap1) ts 0 []) from ex_all f 0 0 _ w2 b _ ts 0 _ [] (by omega) HP.out g2)
     have hns:=((told_all f).1 _ _ _ _ _ _ _ g2).2.2
     have H4:=Lib.hid g3
     clear g2 g3 H3
     go_upto_region 8 with (go_at_call 38;((with_reducible refine HX.out.mono ?_);intro e w5 ho;obtain ⟨hf,rfl,p5,nv5,us5,hp5,hu5,hk5,hps5⟩:=ho.good rfl;have HB5:=Lib.hid (HB2.out.trans (hf.toBelow hz1 HB2.out.size));have HP5:=Lib.hid hps5;have HD5:=Lib.hid hp5;have HU5:=Lib.hid hu5;clear hf ho hp5 hu5 hk5 hps5))
     obtain ⟨gt,ct,t, -,ht,hd, -⟩:=HP5.out.tok
     have h4:=H4.out
     rw [← HD5.out,hd] at h4
     have HTK:=Lib.hid (ptoken_any HP5.out t ht)
     obtain ⟨g5,cap5,rfl, -⟩:=Own.some HP5.out.nodes.1 (show 0<([]++us5).length by rw [List.nil_append, ← List.length_map (f:=Nv.n),HU5.out];omega)
     obtain ⟨kd,hkd⟩:∃ kd,t.kind=kd:=⟨_,rfl⟩
     rw [hkd] at HTK
     clear HX ht hd H4
     by_cases h0:t.kind=0
     · rw [show kindAt (t :: ts.drop (p5+1))=t.kind from rfl,if_pos h0] at h4
       injection h4 with h4
       have HR:=Lib.hid h4.symm
       have e0:(kd != 0)=false:=by rw [← hkd,h0];rfl
       clear h4 h0 hkd
       go_wp2_with (go_at_call 39;((with_reducible refine HTK.out.mono ?_);rintro e w6 ⟨rfl,h1⟩;have HB6:=Lib.hid (HB5.out.trans (h1.mono HB5.out.size));have HP6:=Lib.hid (HP5.out.below h1);obtain ⟨c0,c1,c2,c3⟩:=HP6.out.facts;have hfd:=run_tok_kind kd #[.int .i64 kd,.string t.text,.int .i64 t.num,.string t.sh,.int .i64 t.c,.int .i64 t.r,.bool t.ac,.bool t.ar,.int .i64 t.pos] rfl w6;clear h1))
       go_ret2
       exact ⟨HB6.out,.inr ⟨ns,_,[]++us5,HR.out,by rw [List.nil_append];exact HU5.out,rfl,HP6.out.nodes.mono (by omega),HTREE.out ns HR.out⟩⟩
     · rw [show kindAt (t :: ts.drop (p5+1))=t.kind from rfl,if_neg h0] at h4
       injection h4 with h4
       have HR:=Lib.hid h4.symm
       have e0:(kd != 0)=true:=by rw [bne_iff_ne, ← hkd];exact h0
       clear h4 h0 hkd
       go_wp2_with (go_at_call 39;((with_reducible refine HTK.out.mono ?_);rintro e w6 ⟨rfl,h1⟩;have HB6:=Lib.hid (HB5.out.trans (h1.mono HB5.out.size));have hfd:=run_tok_kind kd #[.int .i64 kd,.string t.text,.int .i64 t.num,.string t.sh,.int .i64 t.c,.int .i64 t.r,.bool t.ac,.bool t.ar,.int .i64 t.pos] rfl w6;clear h1))
       go_ret2
       exact ⟨HB6.out,.inl ⟨5,HR.out,rfl⟩⟩
theorem parse_err (s:ByteArray) (w:World) (hv:Vars w) (ho:OpV w) (c:Int) (hp:PIs s (.error c)) :
 Calls Tryz.prog 11 #[.string s] w fun e w'=>Below w.heap.size w w'∧e = .returned (.tuple #[.slice none 0 0,.int .i64 c]):=by
 refine (parse_any s w hv ho _ hp).mono ?_
 rintro e w' ⟨hb,⟨c',h1,h2⟩ | ⟨ns,nv,vs,h1,_⟩⟩
 · injection h1 with h1;subst h1;exact ⟨hb,h2⟩
 · cases h1
theorem parse_ok (s:ByteArray) (w:World) (hv:Vars w) (ho:OpV w) (ns:List Nd) (hp:PIs s (.ok ns)) (hne:0<ns.length) :
 Calls Tryz.prog 11 #[.string s] w fun e w'=>Below w.heap.size w w'∧∃ g cap vs,e = .returned (.tuple #[.slice (some ⟨g,0,none⟩) ns.length cap,.int .i64 0])∧vs.map Nv.n=ns∧vs.length=ns.length∧NodV w' w.heap.size (.slice (some ⟨g,0,none⟩) ns.length cap) vs∧treeB ns=true:=by
 refine (parse_any s w hv ho _ hp).mono ?_
 rintro e w' ⟨hb,⟨c',h1,h2⟩ | ⟨ns',nv,vs,h1,h2,h3,h4,h5⟩⟩
 · cases h1
 · injection h1 with h1;subst h1
   have hl:vs.length=ns.length:=by rw [← h2,List.length_map]
   obtain ⟨g,cap,rfl, -⟩:=Own.some h4.1 (by omega)
   rw [hl] at h3 h4
   exact ⟨hb,g,cap,vs,h3,h2,hl,h4,h5⟩
theorem NodV.cell {w:World} {lo g n cap:Nat} {vs:List Nv} (h:NodV w lo (.slice (some ⟨g,0,none⟩) n cap) vs) (i:Nat) (v:Nv) (hi:vs[i]? = some v) (j:Nat) (hj:j<14):w.cell? ⟨g,i*14+j,none⟩=(nodA v.n v.kv).toList[j]? := by
 have hl:(nodA v.n v.kv).toList.length=14:=rfl
 have hu:(encNv.f v)[j]? = some ((nodA v.n v.kv).toList[j]'(by omega)):=List.getElem?_eq_getElem _
 have:=Own.cells h.1 (i*14+j) _ (by rw [encNv.at vs i j v hi hj];exact hu)
 rw [this];exact hu.symm
theorem sT {α : Type} (l:List α) (i:Nat) (a : α):l.toArray.setIfInBounds i a=(l.set i a).toArray:=List.setIfInBounds_toArray ..
theorem sZ {α : Type} (x : α) (l:List α) (a : α):(x :: l).set 0 a=a :: l:=rfl
theorem sS {α : Type} (x : α) (l:List α) (n:Nat) (a : α):(x :: l).set (n+1) a=x :: l.set n a:=rfl
theorem held_take {P:Program} {md:Region.Mode} {ops:Array Oper} {Q:Exit→Act→World→Prop} {S:World→Prop} {i:Nat} {oi:Oper} {d:Option Tmp} {v:Value} {fuel:Nat} {listed listed':Array Bool} {a:Act} {w:World} (hi:ops[i]? = some oi) (hd:oi.dst=d)
 (hs:Region.noSelect ops=true) (hf:Region.free md ops listed i=true) (hr:(Region.ready md ops listed).contains i=true) (hl:listed.setIfInBounds i true=listed')
 (hQ:∀ c a w,Q (.panic c) (a.put d v) w→Q (.panic c) a w) (hw:Region.wanted oi (yielded ops a.tmps)=true) (hy:∀ w,S w→(execOp a.eval oi).run P w = .ok (.value v) w) (hS:S w)
 (h:wpAnyH P md ops Q S fuel listed' (a.put d v) w):wpAnyH P md ops Q S (fuel+1) listed a w:=by
 subst hd;subst hl
 exact wpAnyH_take hi hs hf hr hQ (.inl ⟨hw,hy⟩) hS h
theorem held_skip {P:Program} {md:Region.Mode} {ops:Array Oper} {Q:Exit→Act→World→Prop} {S:World→Prop} {i:Nat} {oi:Oper} {d:Option Tmp} {fuel:Nat} {listed listed':Array Bool} {a:Act} {w:World} (hi:ops[i]? = some oi) (hd:oi.dst=d)
 (hs:Region.noSelect ops=true) (hf:Region.free md ops listed i=true) (hr:(Region.ready md ops listed).contains i=true) (hl:listed.setIfInBounds i true=listed')
 (hQ:∀ c a w,Q (.panic c) (a.put d undef) w→Q (.panic c) a w) (hw:Region.wanted oi (yielded ops a.tmps)=false) (hS:S w)
 (h:wpAnyH P md ops Q S fuel listed' (a.put d undef) w):wpAnyH P md ops Q S (fuel+1) listed a w:=by
 subst hd;subst hl
 exact wpAnyH_take hi hs hf hr hQ (.inr ⟨hw,rfl⟩) hS h
theorem held_one {P:Program} {md:Region.Mode} {ops:Array Oper} {Q:Exit→Act→World→Prop} {S:World→Prop} {i:Nat} {oi:Oper} {d:Option Tmp} {fuel:Nat} {listed listed':Array Bool} {a:Act} {w:World} (hi:ops[i]? = some oi) (hd:oi.dst=d)
 (hr:Region.ready md ops listed=[i]) (hl:listed.setIfInBounds i true=listed') (hw:Region.wanted oi (yielded ops a.tmps)=true)
 (h:∀ K:Act→World→Prop,Shut (∀ v w,S w→wpAnyH P md ops Q S fuel listed' (a.put d v) w→K (a.put d v) w)→Oper.wp P oi a w K Q):wpAnyH P md ops Q S (fuel+1) listed a w:=by
 subst hd;subst hl
 refine wpAnyH_ready hr (by simp) (AllReadyH.cons hi (fun K hK => ?_) AllReadyH.nil)
 rw [if_pos hw]
 exact h K (fun v w hS hW=>hK _ _ hS (fun _=>hW))
theorem wpOp_imp {P:Program} {ops:Array Oper} {Q:Exit→Act→World→Prop} {i:Nat} {a:Act} {w:World} {K K':Act→World→Prop} (h:∀ a w,K a w→K' a w) (hk:wpOp P ops Q i K a w):wpOp P ops Q i K' a w:=wpOp_mono h hk
theorem held_less {P:Program} {md:Region.Mode} {ops:Array Oper} {Q:Exit→Act→World→Prop} {S S':World→Prop} (hS:∀ w,S w→S' w):∀ (fuel:Nat) (listed:Array Bool) (a:Act) (w:World),wpAnyH P md ops Q S fuel listed a w→wpAnyH P md ops Q S' fuel listed a w
 | 0,_,_,_,h=>h
 | fuel+1,_,_,_,h=>⟨h.1,fun i hi=>wpOp_imp (fun a' w' h'=>⟨hS _ h'.1,held_less hS fuel _ a' w' h'.2⟩) (h.2 i hi)⟩
theorem kept_start {P:Program} {ops:Array Oper} {Q:Exit→Act→World→Prop} {id:Nat} {a:Act} {w:World} (hm:P.follows .mixedOrders=true)
 (h:wpAnyH P .any ops Q (Below w.heap.size w.drew) ops.size (Array.replicate ops.size false) a w.drew):(Code.region id ops true).wp P Q a w :=
 wp_region_held_drew (S:=Below w.heap.size w.drew) hm (Below.refl _ _) (fun _=>h)
theorem kept_take {P:Program} {md:Region.Mode} {ops:Array Oper} {Q:Exit→Act→World→Prop} {i:Nat} {oi:Oper} {d:Option Tmp} {v:Value} {fuel:Nat} {listed listed':Array Bool} {a:Act} {B:Nat} {w:World} (hi:ops[i]? = some oi) (hd:oi.dst=d)
 (hs:Region.noSelect ops=true) (hf:Region.free md ops listed i=true) (hr:(Region.ready md ops listed).contains i=true) (hl:listed.setIfInBounds i true=listed')
 (hQ:∀ c a w,Q (.panic c) (a.put d v) w→Q (.panic c) a w) (hw:Region.wanted oi (yielded ops a.tmps)=true) (hy:∀ w',Below B w w'→(execOp a.eval oi).run P w' = .ok (.value v) w')
 (h:wpAnyH P md ops Q (Below B w) fuel listed' (a.put d v) w):wpAnyH P md ops Q (Below B w) (fuel+1) listed a w :=
 held_take hi hd hs hf hr hl hQ hw hy (Below.refl _ _) h
theorem kept_call {P:Program} {md:Region.Mode} {ops:Array Oper} {Q:Exit→Act→World→Prop} {i:Nat} {oi:Oper} {d:Option Tmp} {fuel:Nat} {listed listed':Array Bool} {a:Act} {B:Nat} {w:World} (hi:ops[i]? = some oi) (hd:oi.dst=d)
 (hr:Region.ready md ops listed=[i]) (hl:listed.setIfInBounds i true=listed') (hw:Region.wanted oi (yielded ops a.tmps)=true)
 (h:∀ K:Act→World→Prop,Shut (∀ v w',Below B w w'→B≤w'.heap.size→wpAnyH P md ops Q (Below w'.heap.size w') fuel listed' (a.put d v) w'→K (a.put d v) w')→Oper.wp P oi a w K Q):wpAnyH P md ops Q (Below B w) (fuel+1) listed a w :=
 held_one hi hd hr hl hw (fun K hK=>h K (fun v w' hb hB hn=>hK v w' hb (held_less (fun _ h'=>hb.trans (h'.mono hB)) _ _ _ _ hn)))
theorem sb_dec:∀ (n u:Nat),u<n→sb ⟨(Lib.decDigits u).toArray⟩=digL u:=by
 have sbm:∀ l:List UInt8,sb ⟨l.toArray⟩=l.map (fun b=>(b.toNat:Int)):=fun l=>rfl
 intro n
 induction n with
 | zero=>intro u h;omega
 | succ n ih =>
   intro u hu
   rw [sbm,Lib.decDigits]
   by_cases h:u<10
   · rw [dif_pos h,digL_small u h]
     simp only [List.map_cons,List.map_nil]
     rw [UInt8.toNat_ofNat_of_lt' (by show 48+u<256;omega)];congr 1
   · rw [dif_neg h,digL_more u h,List.map_append, ← sbm,ih (u / 10) (by omega)]
     simp only [List.map_cons,List.map_nil]
     rw [UInt8.toNat_ofNat_of_lt' (by show 48+u % 10<256;omega)];congr 1
theorem dec_str (u:Nat):(⟨(Lib.decDigits u).toArray⟩:ByteArray)=strOfNums (digL u):=by
 rw [← str_sb ⟨(Lib.decDigits u).toArray⟩,sb_dec (u+1) u (by omega)]
def Tab (w : World) : Prop := Lib.TabIs Tryz.prog w "internal/strconv.uint64pow10" .u64 Lib.pow10Tab
theorem gTab : Tryz.prog.globalNamed "internal/strconv.uint64pow10" = some 5 := by kernel_rfl
theorem Tab.below {w w':World} (h:Tab w) (hb:Below w.heap.size w w'):Tab w':=by
 unfold Tab Lib.TabIs World.var? at h ⊢
 rw [gTab] at h ⊢
 simp only [Option.bind_some] at h ⊢
 rw [hb.block _ ?_]
 · exact h
 · rcases Nat.lt_or_ge 5 w.heap.size with h' | h'
   · exact h'
   · rw [Array.getElem?_eq_none h'] at h;cases h
theorem below_grow (w:World) (k:Nat) (os:Array Obj):Below w.heap.size w (Sort.grow (w.drewN k) os):=by
 refine ⟨rfl,rfl,rfl, ?_, ?_⟩
 · show w.heap.size≤(w.heap++os).size
   simp
 · intro j hj
   show (w.heap++os)[j]? = w.heap[j]?
   rw [Array.getElem?_append_left hj]
theorem itoa_any (n:Nat) (_h1:n≤9223372036854775807) (w:World) (ht:Tab w) :
 Calls Tryz.prog 129 #[.int .i64 (n:Int)] w fun e w'=>e = .returned (.string (strOfNums (digL n)))∧Below w.heap.size w w':=by
 refine (Tryz.strconv_Itoa (n:Int) (by omega) (by omega) w ht).mono ?_
 rintro e w' ⟨rfl,k,os,rfl⟩
 refine ⟨?_,below_grow w k os⟩
 have:Lib.itoa (n:Int)=Lib.decDigits n:=by unfold Lib.itoa;rw [if_neg (by omega)];rfl
 rw [this,dec_str]
set_option maxRecDepth 100000 in
set_option maxHeartbeats 400000 in
theorem may_any (s:ByteArray) (c r:Int) (ac ar:Bool) (w:World) (_hs:s.size≤1000000) :
 Calls Tryz.prog 142 #[.agg #[.string s,.int .i64 c,.int .i64 r,.bool ac,.bool ar]] w fun e w'=>e = .returned (.bool (mayL (sb s) c r))∧Below w.heap.size w w':=by
 by_cases h0:s.size=0
 · have:=sb_nil s h0
   subst this
   have hm:mayL (sb ⟨#[]⟩) c r=decide (0≤c∧c≤701∧0≤r∧r≤998):=by unfold mayL;rw [show decide (sb ⟨#[]⟩=[])=true from by decide,Bool.true_or,Bool.true_and]
   have HM:=Lib.hid hm;clear hm
   go_enter Tryz.func142,Tryz.ntmps142
   go_wp2
   all_goals go_ret
   all_goals exact ⟨ret_bool (by rw [HM.out];first | (symm;rw [decide_eq_true_iff];omega) | (symm;rw [decide_eq_false_iff_not];omega) | (rw [decide_eq_decide];omega)),(Below.refl _ _).alloc (Nat.le_refl _) _⟩
 · have hne:=text_ne0 s h0
   have hne2:s.toList.isEmpty=false:=by cases hq:s.toList with | nil=>exact absurd hq hne | cons a l=>rfl
   have hm:mayL (sb s) c r=(nameL (sb s)&&decide (0≤c∧c≤701∧0≤r∧r≤998)):=by
    unfold mayL;rw [decide_eq_false (by intro h;have:=length_sb s;rw [h] at this;exact h0 this.symm),Bool.false_or]
   have HM:=Lib.hid hm;clear hm h0
   by_cases hn:nameL (sb s)=true
   · go_enter Tryz.func142,Tryz.ntmps142
     go_wp2_with (first
      | (go_at_call 88;((with_reducible refine (name_any _ _ ?_).mono ?_);(first | omega | skip);rintro e w' ⟨rfl,rfl⟩)))
     all_goals go_ret
     all_goals exact ⟨ret_bool (by rw [HM.out,hn,Bool.true_and];first | (symm;rw [decide_eq_true_iff];omega) | (symm;rw [decide_eq_false_iff_not];omega) | (rw [decide_eq_decide];omega)),(Below.refl _ _).alloc (Nat.le_refl _) _⟩
   · have hn':nameL (sb s)=false:=by simpa using hn
     clear hn
     go_enter Tryz.func142,Tryz.ntmps142
     go_wp2_with (first
      | (go_at_call 88;((with_reducible refine (name_any _ _ ?_).mono ?_);(first | omega | skip);rintro e w' ⟨rfl,rfl⟩)))
     all_goals go_ret
     all_goals exact ⟨ret_bool (by rw [HM.out,hn',Bool.false_and]),(Below.refl _ _).alloc (Nat.le_refl _) _⟩
theorem name_lex (s:ByteArray) (h:calledL (sb s)=true) (hr:readS s=none):∃ t ts,lexL (sb s)=some (t :: ts)∧t.kind=3∧t.text=s:=by
 have hc:=h
 unfold calledL at hc
 rw [Bool.and_eq_true,Bool.and_eq_true,decide_eq_true_iff,decide_eq_true_iff] at hc
 obtain ⟨c1,c2,c3⟩:=hc
 have hs:=str_sb s
 cases hq:sb s with
 | nil=>rw [hq] at c2;simp at c2
 | cons x l =>
   rw [hq] at c1 c3 hs h
   have hall:∀ y∈x :: l,isWord y=true:=by
    intro y hy
    have:=c1 y hy
    rw [Bool.or_eq_true] at this
    rcases this with g | g
    · rw [isWord_beg,isBeg_cap g];rfl
    · rw [isWord_beg,g];simp
   have hx:isCap x=true:=by simpa using c3
   have hxr:65≤x∧x≤90:=by unfold isCap at hx;rw [decide_eq_true_iff] at hx;omega
   have h1:¬ isNum x=true:=by unfold isNum;rw [decide_eq_true_iff];omega
   have hl:isLet x=true:=by unfold isLet;rw [decide_eq_true_iff];omega
   have ht:(x :: l).takeWhile isWord=x :: l:=by
    have:=take_part isWord (x :: l) [] hall (fun y hy=>by simp at hy)
    rw [List.append_nil] at this;exact this
   have htok:tokT (x :: l)=some ({ Tk.zero with kind:=3,text:=s },(x :: l).length):=by
    rw [tokT_cons,if_neg h1,if_neg (by omega),if_neg (by omega),if_pos (.inl hl)]
    unfold wordT
    rw [ht,hs,hr]
    simp only
    rw [if_pos h]
   refine ⟨({ Tk.zero with kind:=3,text:=s }:Tk).goto 0,[Tk.zero.goto (0+(x :: l).length)], ?_,rfl,rfl⟩
   unfold lexL
   rw [List.length_cons,lexF_cons,if_neg (by omega),htok]
   simp only
   rw [List.drop_length]
   have:lexF l.length (0+(x :: l).length) []=some [Tk.zero.goto (0+(x :: l).length)]:=by unfold lexF;rfl
   rw [this];rfl
theorem callB_eq (s:ByteArray):callB s=((calledL (sb s)&&(readS s).isNone)&&(decide (¬ s=⟨#[84,82,85,69]⟩)&&decide (¬ s=⟨#[70,65,76,83,69]⟩))):=by unfold callB;rw [Bool.and_assoc]
theorem callB_bad (s:ByteArray) (h:∀ t ts,lexL (sb s)=some (t :: ts)→¬ (t.kind=3∧t.text=s)):callB s=false:=by
 rw [callB_eq]
 cases hc:calledL (sb s)
 · rfl
 · cases hr:readS s with
   | some d=>rfl
   | none =>
     obtain ⟨t,ts,h1,h2,h3⟩:=name_lex s hc hr
     exact absurd ⟨h2,h3⟩ (h t ts h1)
theorem callB_big (s:ByteArray) (h:12<s.size):callB s=false:=by
 rw [callB_eq]
 have:calledL (sb s)=false:=by
  unfold calledL
  rw [decide_eq_false (show ¬ (1≤(sb s).length∧(sb s).length≤12) by rw [length_sb];omega),Bool.false_and,Bool.and_false]
 rw [this];rfl
set_option maxRecDepth 100000 in
set_option maxHeartbeats 2000000 in
theorem isName5_any (s:ByteArray) (w:World) (hv:Vars w):Calls Tryz.prog 144 #[.string s] w fun e w'=>e = .returned (.bool (callB s))∧Below w.heap.size w w':=by
 have bad:∀ c:Int,(c != 0)=true→callB s=false→(Calls Tryz.prog 37 #[.string s] w fun e w'=>Below w.heap.size w w'∧e = .returned (.tuple #[.slice none 0 0,.int .i64 c])) →
  Calls Tryz.prog 144 #[.string s] w fun e w'=>e = .returned (.bool (callB s))∧Below w.heap.size w w':=by
  intro c hc hb hl
  have HL:=Lib.hid hl;have HB0:=Lib.hid hb
  have hc2:(c == 0)=false:=by rw [beq_eq_false_iff_ne];exact bne_iff_ne.1 hc
  clear hl hb
  go_enter Tryz.func144,Tryz.ntmps144
  go_wp2_with (go_at_call 37;((with_reducible refine HL.out.mono ?_);rintro e w1 ⟨hb,rfl⟩;have HB:=Lib.hid hb;clear hb))
  go_ret
  exact ⟨by rw [HB0.out] <;> rfl,HB.out⟩
 by_cases hbig:300<s.size
 · exact bad 4 rfl (callB_big s (by omega)) (lex_over s w hv hbig)
 · cases hl : lexL (sb s) with
   | none=>exact bad 5 rfl (callB_bad s (fun t ts h=>by rw [hl] at h;cases h)) (lex_isnt s w hv (by omega) hl)
   | some ts =>
     have hne:=lexL_ne s ts hl
     obtain ⟨hgood,_⟩:=lexL_good s ts hl
     match ts,hne,hl,hgood with
     | t :: tl,_,hl,hgood =>
     have HX:=Lib.hid (lex_is s w hv (by omega) (t :: tl) hl (by simp))
     have hg:=hgood t (by simp)
     obtain ⟨kd,hkd⟩:∃ kd,t.kind=kd:=⟨_,rfl⟩
     obtain ⟨tx,htx⟩:∃ tx,t.text=tx:=⟨_,rfl⟩
     have HC:=Lib.hid (fun h=>callB_bad s (fun t' ts' h'=>by rw [hl] at h';injection h' with h';injection h' with h1 h2;subst h1;exact h))
     have HG:=Lib.hid (show kd=3→tx=s→callB s=(decide (¬ s=⟨#[84,82,85,69]⟩)&&decide (¬ s=⟨#[70,65,76,83,69]⟩)) from by
      intro h1 h2
      obtain ⟨g1,g2⟩:=hg.name (by rw [hkd,h1])
      rw [htx,h2] at g1 g2
      rw [callB_eq,g1,g2];rfl)
     have HK:=Lib.hid hkd;have HT:=Lib.hid htx
     obtain ⟨n,hn⟩:∃ n,(t :: tl).length=n:=⟨_,rfl⟩
     have hn1:0<n:=by rw [← hn];simp
     rw [hn] at HX
     have q1:=word_eq s ⟨#[84,82,85,69]⟩
     have q2:=word_eq s ⟨#[70,65,76,83,69]⟩
     rw [list_true] at q1
     rw [list_false] at q2
     clear hl hgood hg hkd htx hn hne bad
     go_enter Tryz.func144,Tryz.ntmps144
     go_upto_region 2 with (go_at_call 37;((with_reducible refine HX.out.mono ?_);rintro e w1 ⟨hb,g,cap,rfl,hg0,hg1,ho⟩;have HB:=Lib.hid hb;have k0:w1.cell? ⟨g,0,none⟩=some (.int .i64 kd):=((OwnT.cell ho 0 t rfl 0 (by omega)).trans (by show some (Value.int .i64 t.kind)=_;rw [HK.out]));have k1:w1.cell? ⟨g,1,none⟩=some (.string tx):=((OwnT.cell ho 0 t rfl 1 (by omega)).trans (by show some (Value.string t.text)=_;rw [HT.out]));clear hb ho))
     have hni:(0:Int)<(n:Int):=by omega
     by_cases h3:kd=3
     · have e3:(kd == 3)=true:=beq_iff_eq.2 h3
       by_cases hs:tx=s
       · have HR:=Lib.hid (HG.out h3 hs)
         have q3:(tx.toList == s.toList)=true:=by rw [hs];simp
         clear h3 hs HC HG HK HT HX
         by_cases h1:s=⟨#[84,82,85,69]⟩
         · rw [decide_eq_true h1] at q1
           rw [decide_eq_false (show ¬ ¬ s=⟨#[84,82,85,69]⟩ from fun h=>h h1),Bool.false_and] at HR
           have q1n:(s.toList != [84,82,85,69])=false:=by rw [bne,q1];rfl
           clear h1
           go_wp2_with fail
           go_ret
           exact ⟨by rw [HR.out] <;> rfl,HB.out⟩
         · rw [decide_eq_false h1] at q1
           rw [decide_eq_true h1,Bool.true_and] at HR
           have q1n:(s.toList != [84,82,85,69])=true:=by rw [bne,q1];rfl
           clear h1
           by_cases h2:s=⟨#[70,65,76,83,69]⟩
           · rw [decide_eq_true h2] at q2
             rw [decide_eq_false (show ¬ ¬ s=⟨#[70,65,76,83,69]⟩ from fun h=>h h2)] at HR
             have q2n:(s.toList != [70,65,76,83,69])=false:=by rw [bne,q2];rfl
             clear h2
             go_wp2_with fail
             go_ret
             exact ⟨by rw [HR.out] <;> rfl,HB.out⟩
           · rw [decide_eq_false h2] at q2
             rw [decide_eq_true h2] at HR
             have q2n:(s.toList != [70,65,76,83,69])=true:=by rw [bne,q2];rfl
             clear h2
             go_wp2_with fail
             go_ret
             exact ⟨by rw [HR.out] <;> rfl,HB.out⟩
       · have HR:=Lib.hid (HC.out (fun h=>hs (by rw [← HT.out];exact h.2)))
         have q3:(tx.toList == s.toList)=false:=beq_eq_false_iff_ne.2 (text_ne _ _ hs)
         clear h3 hs HC HG HK HT HX
         go_wp2_with fail
         go_ret
         exact ⟨by rw [HR.out] <;> rfl,HB.out⟩
     · have HR:=Lib.hid (HC.out (fun h=>h3 (by rw [← HK.out];exact h.1)))
       have e3:(kd == 3)=false:=beq_eq_false_iff_ne.2 h3
       clear h3 HC HG HK HT HX
       go_wp2_with fail
       go_ret
       exact ⟨by rw [HR.out] <;> rfl,HB.out⟩
theorem printB_bad (s:ByteArray) (k:Nat) (h:k<s.size) (hx:((s[k].toNat:Nat):Int)<32):printB (sb s)=false:=by
 unfold printB;rw [decide_eq_false_iff_not];intro hall
 exact hall _ (List.mem_of_getElem? (sb_at s k h)) hx
theorem printB_all (s:ByteArray) (h:∀ (j:Nat) (hj:j<s.size),¬ ((s[j].toNat:Nat):Int)<32):printB (sb s)=true:=by
 unfold printB;rw [decide_eq_true_iff]
 intro x hx
 obtain ⟨j,hj,rfl⟩:=List.mem_iff_getElem.1 hx
 rw [length_sb] at hj
 have:=sb_at s j hj
 rw [List.getElem?_eq_getElem (by rw [length_sb];exact hj)] at this
 rw [Option.some.inj this];exact h j hj
set_option maxRecDepth 100000 in
set_option maxHeartbeats 800000 in
theorem isText_any (s:ByteArray) (w:World) (_hs:s.size≤1000000):Calls Tryz.prog 141 #[.string s] w fun e w'=>e = .returned (.bool (printB (sb s)))∧w=w':=by
 go_enter Tryz.func141,Tryz.ntmps141
 go_wp2_with fail
 go_loopw [6] (fun i wr=>∃ k:Nat,k≤s.size∧i = .int .i64 k∧Hid (∀ (j:Nat) (hj:j<s.size),j<k→¬ ((s[j].toNat:Nat):Int)<32)∧w=wr)
  (fun i _=>s.size - (intOf i).toNat)
 case atStart=>exact ⟨0,by omega,rfl,Lib.hid (by intro j _ hj;omega),rfl⟩
 case round =>
  obtain ⟨k,hk,rfl,HG,rfl⟩:=hrel
  by_cases hlt:k<s.size
  · have hki:(k:Int)<(s.size:Int):=by omega
    obtain ⟨a,ha⟩:∃ a:Int,(s[k].toNat:Int)=a:=⟨_,rfl⟩
    have ha1:0≤a∧a≤255:=by have:=s[k].toNat_lt;omega
    have HA:=Lib.hid ha
    by_cases h32:a<32
    · have HB:=Lib.hid (printB_bad s k hlt (by rw [ha];exact h32))
      go_wp2_with fail
      go_ret
      exact ⟨by rw [HB.out] <;> rfl,rfl⟩
    · go_wp2_with fail
      go_roundw
      case rel =>
       refine ⟨k+1,by omega,by go_num,Lib.hid ?_,by first | rfl | trivial⟩
       intro j hj hjk
       by_cases e:j=k
       · subst e;rw [HA.out];exact h32
       · exact HG.out j hj (by omega)
      case measure=>simp [intOf];omega
  · have hki:¬ (k:Int)<(s.size:Int):=by omega
    have HB:=Lib.hid (printB_all s (fun j hj=>HG.out j hj (by omega)))
    go_wp2_with fail
    go_ret
    exact ⟨by rw [HB.out] <;> rfl,rfl⟩
def twoB (k:Int):Bool:=decide (9≤k∧k≤19)
set_option maxHeartbeats 400000 in
theorem isOfTwo_any (k:Int) (w:World):Calls Tryz.prog 145 #[.int .i64 k] w fun e w'=>e = .returned (.bool (twoB k))∧w=w':=by
 go_enter Tryz.func145,Tryz.ntmps145
 by_cases h1:9≤k
 · by_cases h2:k≤19
   · go_wp2
     go_ret
     exact ⟨ret_bool (by unfold twoB;symm;rw [decide_eq_true_iff];exact ⟨h1,h2⟩),rfl⟩
   · go_wp2
     go_ret
     exact ⟨ret_bool (by unfold twoB;symm;rw [decide_eq_false_iff_not];omega),rfl⟩
 · go_wp2
   go_ret
   exact ⟨ret_bool (by unfold twoB;symm;rw [decide_eq_false_iff_not];omega),rfl⟩
def hkB (kind:Int) (m:Nat):Bool:=if kind=7 then true else if kind=8 then decide (m=1) else if twoB kind=true then decide (m=2) else decide (m=0)
set_option maxRecDepth 100000 in
set_option maxHeartbeats 1600000 in
theorem hasKids_any (n:Nd) (A:Option Addr) (m c:Nat) (hm:m≤maxLen) (w:World):Calls Tryz.prog 97 #[.agg #[.int .i64 n.kind,.int .i64 n.num,.string n.text,.string n.ref.sh,.int .i64 n.ref.c,.int .i64 n.ref.r,.bool n.ref.ac,.bool n.ref.ar,.string n.to.sh,.int .i64 n.to.c,.int .i64 n.to.r,.bool n.to.ac,.bool n.to.ar,.slice A m c]] w fun e w'=>e = .returned (.bool (hkB n.kind m))∧Below w.heap.size w w':=by
 have hx:NdAt (w.alloc (.cells #[.int .i64 n.kind,.int .i64 n.num,.string n.text,.string n.ref.sh,.int .i64 n.ref.c,.int .i64 n.ref.r,.bool n.ref.ac,.bool n.ref.ar,.string n.to.sh,.int .i64 n.to.c,.int .i64 n.to.r,.bool n.to.ac,.bool n.to.ar,.slice A m c] 61)) w.heap.size n (.slice A m c):=NdAt.new w n _
 have HB:=Lib.hid ((Below.refl w.heap.size w).alloc (Nat.le_refl _) (.cells #[.int .i64 n.kind,.int .i64 n.num,.string n.text,.string n.ref.sh,.int .i64 n.ref.c,.int .i64 n.ref.r,.bool n.ref.ac,.bool n.ref.ar,.string n.to.sh,.int .i64 n.to.c,.int .i64 n.to.r,.bool n.to.ac,.bool n.to.ar,.slice A m c] 61))
 go_enter Tryz.func97,Tryz.ntmps97
 go_upto_region 1 with (fail)
 generalize w.alloc (.cells #[.int .i64 n.kind,.int .i64 n.num,.string n.text,.string n.ref.sh,.int .i64 n.ref.c,.int .i64 n.ref.r,.bool n.ref.ac,.bool n.ref.ar,.string n.to.sh,.int .i64 n.to.c,.int .i64 n.to.r,.bool n.to.ac,.bool n.to.ar,.slice A m c] 61)=w1 at hx HB ⊢
 obtain ⟨x0,x1,x2,x3,x4,x5,x6,x7,x8,x9,x10,x11,x12,x13⟩:=hx.cells
 clear hx
 obtain ⟨kd,hkd⟩:∃ kd,n.kind=kd:=⟨_,rfl⟩
 rw [hkd] at x0
 have HKD:=Lib.hid hkd;clear hkd
 by_cases h7:kd=7
 · have e7:(kd == 7)=true:=beq_iff_eq.2 h7
   have HR:=Lib.hid (show hkB kd m=true by unfold hkB;rw [if_pos h7])
   clear h7
   go_wp2_with fail
   go_ret
   exact ⟨by rw [HKD.out,HR.out] <;> rfl,HB.out⟩
 have e7:(kd == 7)=false:=beq_eq_false_iff_ne.2 h7
 by_cases h8:kd=8
 · have e8:(kd == 8)=true:=beq_iff_eq.2 h8
   have HR:=Lib.hid (show hkB kd m=decide (m=1) by unfold hkB;rw [if_neg h7,if_pos h8])
   clear h7 h8
   by_cases hm1:m=1
   · subst hm1
     go_wp2_with fail
     go_ret
     exact ⟨by rw [HKD.out,HR.out] <;> rfl,HB.out⟩
   · have em:((m:Int) == 1)=false:=by rw [beq_eq_false_iff_ne];omega
     rw [decide_eq_false hm1] at HR
     go_wp2_with fail
     go_ret
     exact ⟨by rw [HKD.out,HR.out];first | rfl | (simp;omega),HB.out⟩
 have e8:(kd == 8)=false:=beq_eq_false_iff_ne.2 h8
 cases ht:twoB kd
 · have HR:=Lib.hid (show hkB kd m=decide (m=0) by unfold hkB;rw [if_neg h7,if_neg h8,ht,if_neg (by decide)])
   have HT:=isOfTwo_any kd
   rw [ht] at HT
   have HT:=Lib.hid HT
   clear h7 h8 ht
   by_cases hm1:m=0
   · subst hm1
     go_wp2_with (go_at_call 145;((with_reducible refine (HT.out _).mono ?_);rintro e w2 ⟨rfl,rfl⟩))
     go_ret
     exact ⟨by rw [HKD.out,HR.out] <;> rfl,HB.out⟩
   · have em:((m:Int) == 0)=false:=by rw [beq_eq_false_iff_ne];omega
     rw [decide_eq_false hm1] at HR
     go_wp2_with (go_at_call 145;((with_reducible refine (HT.out _).mono ?_);rintro e w2 ⟨rfl,rfl⟩))
     go_ret
     exact ⟨by rw [HKD.out,HR.out];first | rfl | (simp;omega),HB.out⟩
 · have HR:=Lib.hid (show hkB kd m=decide (m=2) by unfold hkB;rw [if_neg h7,if_neg h8,ht,if_pos rfl])
   have HT:=isOfTwo_any kd
   rw [ht] at HT
   have HT:=Lib.hid HT
   clear h7 h8 ht
   by_cases hm1:m=2
   · subst hm1
     go_wp2_with (go_at_call 145;((with_reducible refine (HT.out _).mono ?_);rintro e w2 ⟨rfl,rfl⟩))
     go_ret
     exact ⟨by rw [HKD.out,HR.out] <;> rfl,HB.out⟩
   · have em:((m:Int) == 2)=false:=by rw [beq_eq_false_iff_ne];omega
     rw [decide_eq_false hm1] at HR
     go_wp2_with (go_at_call 145;((with_reducible refine (HT.out _).mono ?_);rintro e w2 ⟨rfl,rfl⟩))
     go_ret
     exact ⟨by rw [HKD.out,HR.out];first | rfl | (simp;omega),HB.out⟩
def namedN (n:Nd):Nd :=
 if n.kind=1 then { Nd.zero with num:=n.num } else if n.kind=2 then { Nd.zero with text:=n.text } else if n.kind=3 then { Nd.zero with num:=n.num }
 else if n.kind=5 then { Nd.zero with ref:=n.ref } else if n.kind=6 then ⟨0,0,⟨#[]⟩,n.ref,n.to,[]⟩ else if n.kind=7 then { Nd.zero with text:=n.text } else Nd.zero
def okF (n:Nd):Bool :=
 if n.kind=1 then decide (0≤n.num) else if n.kind=2 then printB (sb n.text) else if n.kind=3 then decide (n.num=0∨n.num=1)
 else if n.kind=5 then mayRf n.ref else if n.kind=6 then mayRf n.ref&&(mayRf n.to&&spanB n.ref n.to) else if n.kind=7 then callB n.text else decide (n.kind=4∨n.kind=8)||twoB n.kind
theorem res_fields:Tryz.f96.results=#[.cell 2 61,.tmp 3]:=by kernel_rfl
theorem NdAt.load {w:World} {b:Nat} {n:Nd} {k:Value} (h:NdAt w b n k):(loadVar 61 ⟨b,0,none⟩).run Tryz.prog w = .ok (.agg (nodA n k)) w :=
 run_loadVar_row w b 61 61 _ _ _ h Tryz.underlying61 rfl nod_size
theorem out_nod {w:World} {b:Nat} {n:Nd} {k:Value} (h:NdAt w b n k) (fn:Func) (tmps:Array Value) (ok:Bool) (p u:Tmp) (hf:fn.results=#[.cell p 61,.tmp u]) (hp:tmps.getD p undef = .pointer (some ⟨b,0,none⟩)) (hu:tmps.getD u undef = .bool ok) :
 (results fn tmps).run Tryz.prog w = .ok (.tuple #[.agg (nodA n k),.bool ok]) w:=by
 rw [results_cell_tmp hf,hp,hu]
 simp [asAddr,h.load,Result.andThen]
abbrev zNod:Array Value:=#[.int .i64 0,.int .i64 0,.string ⟨#[]⟩,.string ⟨#[]⟩,.int .i64 0,.int .i64 0,.bool false,.bool false,.string ⟨#[]⟩,.int .i64 0,.int .i64 0,.bool false,.bool false,.slice none 0 0]
theorem NdAt.drew {w:World} {b:Nat} {n:Nd} {k:Value} (h:NdAt w b n k):NdAt w.drew b n k:=h
theorem NdAt.frozen {w:World} {b:Nat} {n:Nd} {k:Value} (h:NdAt w b n k) (j:Nat):w.frozen? ⟨b,j,none⟩=false:=frozen_of_row w b j _ _ h
theorem row14 (w:World) (b:Nat) (t:TypeId) (u0 u1 u2 u3 u4 u5 u6 u7 u8 u9 u10 u11 u12 u13 v0 v1 v2 v3 v4 v5 v6 v7 v8 v9 v10 v11 v12 v13:Value) (h:w.heap[b]? = some (.cells #[u0,u1,u2,u3,u4,u5,u6,u7,u8,u9,u10,u11,u12,u13] t)) :
 ((((((((((((((w.setCell ⟨b,0,none⟩ v0).setCell ⟨b,1,none⟩ v1).setCell ⟨b,2,none⟩ v2).setCell ⟨b,3,none⟩ v3).setCell ⟨b,4,none⟩ v4).setCell ⟨b,5,none⟩ v5).setCell ⟨b,6,none⟩ v6).setCell ⟨b,7,none⟩ v7).setCell ⟨b,8,none⟩ v8).setCell ⟨b,9,none⟩ v9).setCell ⟨b,10,none⟩ v10).setCell ⟨b,11,none⟩ v11).setCell ⟨b,12,none⟩ v12).setCell ⟨b,13,none⟩ v13).heap[b]? = some (.cells #[v0,v1,v2,v3,v4,v5,v6,v7,v8,v9,v10,v11,v12,v13] t):=by
 have h0:(w.setCell ⟨b,0,none⟩ v0).heap[b]? = some (.cells #[v0,u1,u2,u3,u4,u5,u6,u7,u8,u9,u10,u11,u12,u13] t):=by rw [heap_setCell_same _ b 0 _ _ _ h];rfl
 have h1:((w.setCell ⟨b,0,none⟩ v0).setCell ⟨b,1,none⟩ v1).heap[b]? = some (.cells #[v0,v1,u2,u3,u4,u5,u6,u7,u8,u9,u10,u11,u12,u13] t):=by rw [heap_setCell_same _ b 1 _ _ _ h0];rfl
 have h2:(((w.setCell ⟨b,0,none⟩ v0).setCell ⟨b,1,none⟩ v1).setCell ⟨b,2,none⟩ v2).heap[b]? = some (.cells #[v0,v1,v2,u3,u4,u5,u6,u7,u8,u9,u10,u11,u12,u13] t):=by rw [heap_setCell_same _ b 2 _ _ _ h1];rfl
 have h3:((((w.setCell ⟨b,0,none⟩ v0).setCell ⟨b,1,none⟩ v1).setCell ⟨b,2,none⟩ v2).setCell ⟨b,3,none⟩ v3).heap[b]? = some (.cells #[v0,v1,v2,v3,u4,u5,u6,u7,u8,u9,u10,u11,u12,u13] t):=by rw [heap_setCell_same _ b 3 _ _ _ h2];rfl
 have h4:(((((w.setCell ⟨b,0,none⟩ v0).setCell ⟨b,1,none⟩ v1).setCell ⟨b,2,none⟩ v2).setCell ⟨b,3,none⟩ v3).setCell ⟨b,4,none⟩ v4).heap[b]? = some (.cells #[v0,v1,v2,v3,v4,u5,u6,u7,u8,u9,u10,u11,u12,u13] t):=by rw [heap_setCell_same _ b 4 _ _ _ h3];rfl
 have h5:((((((w.setCell ⟨b,0,none⟩ v0).setCell ⟨b,1,none⟩ v1).setCell ⟨b,2,none⟩ v2).setCell ⟨b,3,none⟩ v3).setCell ⟨b,4,none⟩ v4).setCell ⟨b,5,none⟩ v5).heap[b]? = some (.cells #[v0,v1,v2,v3,v4,v5,u6,u7,u8,u9,u10,u11,u12,u13] t):=by rw [heap_setCell_same _ b 5 _ _ _ h4];rfl
 have h6:(((((((w.setCell ⟨b,0,none⟩ v0).setCell ⟨b,1,none⟩ v1).setCell ⟨b,2,none⟩ v2).setCell ⟨b,3,none⟩ v3).setCell ⟨b,4,none⟩ v4).setCell ⟨b,5,none⟩ v5).setCell ⟨b,6,none⟩ v6).heap[b]? = some (.cells #[v0,v1,v2,v3,v4,v5,v6,u7,u8,u9,u10,u11,u12,u13] t):=by rw [heap_setCell_same _ b 6 _ _ _ h5];rfl
 have h7:((((((((w.setCell ⟨b,0,none⟩ v0).setCell ⟨b,1,none⟩ v1).setCell ⟨b,2,none⟩ v2).setCell ⟨b,3,none⟩ v3).setCell ⟨b,4,none⟩ v4).setCell ⟨b,5,none⟩ v5).setCell ⟨b,6,none⟩ v6).setCell ⟨b,7,none⟩ v7).heap[b]? = some (.cells #[v0,v1,v2,v3,v4,v5,v6,v7,u8,u9,u10,u11,u12,u13] t):=by rw [heap_setCell_same _ b 7 _ _ _ h6];rfl
 have h8:(((((((((w.setCell ⟨b,0,none⟩ v0).setCell ⟨b,1,none⟩ v1).setCell ⟨b,2,none⟩ v2).setCell ⟨b,3,none⟩ v3).setCell ⟨b,4,none⟩ v4).setCell ⟨b,5,none⟩ v5).setCell ⟨b,6,none⟩ v6).setCell ⟨b,7,none⟩ v7).setCell ⟨b,8,none⟩ v8).heap[b]? = some (.cells #[v0,v1,v2,v3,v4,v5,v6,v7,v8,u9,u10,u11,u12,u13] t):=by rw [heap_setCell_same _ b 8 _ _ _ h7];rfl
 have h9:((((((((((w.setCell ⟨b,0,none⟩ v0).setCell ⟨b,1,none⟩ v1).setCell ⟨b,2,none⟩ v2).setCell ⟨b,3,none⟩ v3).setCell ⟨b,4,none⟩ v4).setCell ⟨b,5,none⟩ v5).setCell ⟨b,6,none⟩ v6).setCell ⟨b,7,none⟩ v7).setCell ⟨b,8,none⟩ v8).setCell ⟨b,9,none⟩ v9).heap[b]? = some (.cells #[v0,v1,v2,v3,v4,v5,v6,v7,v8,v9,u10,u11,u12,u13] t):=by rw [heap_setCell_same _ b 9 _ _ _ h8];rfl
 have h10:(((((((((((w.setCell ⟨b,0,none⟩ v0).setCell ⟨b,1,none⟩ v1).setCell ⟨b,2,none⟩ v2).setCell ⟨b,3,none⟩ v3).setCell ⟨b,4,none⟩ v4).setCell ⟨b,5,none⟩ v5).setCell ⟨b,6,none⟩ v6).setCell ⟨b,7,none⟩ v7).setCell ⟨b,8,none⟩ v8).setCell ⟨b,9,none⟩ v9).setCell ⟨b,10,none⟩ v10).heap[b]? = some (.cells #[v0,v1,v2,v3,v4,v5,v6,v7,v8,v9,v10,u11,u12,u13] t):=by rw [heap_setCell_same _ b 10 _ _ _ h9];rfl
 have h11:((((((((((((w.setCell ⟨b,0,none⟩ v0).setCell ⟨b,1,none⟩ v1).setCell ⟨b,2,none⟩ v2).setCell ⟨b,3,none⟩ v3).setCell ⟨b,4,none⟩ v4).setCell ⟨b,5,none⟩ v5).setCell ⟨b,6,none⟩ v6).setCell ⟨b,7,none⟩ v7).setCell ⟨b,8,none⟩ v8).setCell ⟨b,9,none⟩ v9).setCell ⟨b,10,none⟩ v10).setCell ⟨b,11,none⟩ v11).heap[b]? = some (.cells #[v0,v1,v2,v3,v4,v5,v6,v7,v8,v9,v10,v11,u12,u13] t):=by rw [heap_setCell_same _ b 11 _ _ _ h10];rfl
 have h12:(((((((((((((w.setCell ⟨b,0,none⟩ v0).setCell ⟨b,1,none⟩ v1).setCell ⟨b,2,none⟩ v2).setCell ⟨b,3,none⟩ v3).setCell ⟨b,4,none⟩ v4).setCell ⟨b,5,none⟩ v5).setCell ⟨b,6,none⟩ v6).setCell ⟨b,7,none⟩ v7).setCell ⟨b,8,none⟩ v8).setCell ⟨b,9,none⟩ v9).setCell ⟨b,10,none⟩ v10).setCell ⟨b,11,none⟩ v11).setCell ⟨b,12,none⟩ v12).heap[b]? = some (.cells #[v0,v1,v2,v3,v4,v5,v6,v7,v8,v9,v10,v11,v12,u13] t):=by rw [heap_setCell_same _ b 12 _ _ _ h11];rfl
 have h13:((((((((((((((w.setCell ⟨b,0,none⟩ v0).setCell ⟨b,1,none⟩ v1).setCell ⟨b,2,none⟩ v2).setCell ⟨b,3,none⟩ v3).setCell ⟨b,4,none⟩ v4).setCell ⟨b,5,none⟩ v5).setCell ⟨b,6,none⟩ v6).setCell ⟨b,7,none⟩ v7).setCell ⟨b,8,none⟩ v8).setCell ⟨b,9,none⟩ v9).setCell ⟨b,10,none⟩ v10).setCell ⟨b,11,none⟩ v11).setCell ⟨b,12,none⟩ v12).setCell ⟨b,13,none⟩ v13).heap[b]? = some (.cells #[v0,v1,v2,v3,v4,v5,v6,v7,v8,v9,v10,v11,v12,v13] t):=by rw [heap_setCell_same _ b 13 _ _ _ h12];rfl
 exact h13
theorem NdAt.put14 {w:World} {b:Nat} {n0:Nd} {k0:Value} (h:NdAt w b n0 k0) (n:Nd) (k:Value):NdAt ((((((((((((((w.setCell ⟨b,0,none⟩ (.int .i64 n.kind)).setCell ⟨b,1,none⟩ (.int .i64 n.num)).setCell ⟨b,2,none⟩ (.string n.text)).setCell ⟨b,3,none⟩ (.string n.ref.sh)).setCell ⟨b,4,none⟩ (.int .i64 n.ref.c)).setCell ⟨b,5,none⟩ (.int .i64 n.ref.r)).setCell ⟨b,6,none⟩ (.bool n.ref.ac)).setCell ⟨b,7,none⟩ (.bool n.ref.ar)).setCell ⟨b,8,none⟩ (.string n.to.sh)).setCell ⟨b,9,none⟩ (.int .i64 n.to.c)).setCell ⟨b,10,none⟩ (.int .i64 n.to.r)).setCell ⟨b,11,none⟩ (.bool n.to.ac)).setCell ⟨b,12,none⟩ (.bool n.to.ar)).setCell ⟨b,13,none⟩ (k)) b n k:=row14 w b _ _ _ _ _ _ _ _ _ _ _ _ _ _ _ _ _ _ _ _ _ _ _ _ _ _ _ _ _ h
theorem below_set14 {B:Nat} {a w:World} {b:Nat} (h:Below B a w) (hb:B≤b) (v0 v1 v2 v3 v4 v5 v6 v7 v8 v9 v10 v11 v12 v13:Value):Below B a ((((((((((((((w.setCell ⟨b,0,none⟩ v0).setCell ⟨b,1,none⟩ v1).setCell ⟨b,2,none⟩ v2).setCell ⟨b,3,none⟩ v3).setCell ⟨b,4,none⟩ v4).setCell ⟨b,5,none⟩ v5).setCell ⟨b,6,none⟩ v6).setCell ⟨b,7,none⟩ v7).setCell ⟨b,8,none⟩ v8).setCell ⟨b,9,none⟩ v9).setCell ⟨b,10,none⟩ v10).setCell ⟨b,11,none⟩ v11).setCell ⟨b,12,none⟩ v12).setCell ⟨b,13,none⟩ v13) :=
 ((((((((((((((h.setCell hb _).setCell hb _).setCell hb _).setCell hb _).setCell hb _).setCell hb _).setCell hb _).setCell hb _).setCell hb _).setCell hb _).setCell hb _).setCell hb _).setCell hb _).setCell hb _)
set_option maxRecDepth 100000 in
set_option maxHeartbeats 1600000 in
theorem fields_1 (n:Nd) (h1:n.kind=1) (A:Option Addr) (m c:Nat) (w:World):Calls Tryz.prog 96 #[.agg #[.int .i64 n.kind,.int .i64 n.num,.string n.text,.string n.ref.sh,.int .i64 n.ref.c,.int .i64 n.ref.r,.bool n.ref.ac,.bool n.ref.ar,.string n.to.sh,.int .i64 n.to.c,.int .i64 n.to.r,.bool n.to.ac,.bool n.to.ar,.slice A m c]] w fun e w'=>e = .returned (.tuple #[.agg (nodA { Nd.zero with num:=n.num } (.slice none 0 0)),.bool (decide (0≤n.num))])∧Below w.heap.size w w':=by
 have hsz:(w.alloc (.cells #[.int .i64 n.kind,.int .i64 n.num,.string n.text,.string n.ref.sh,.int .i64 n.ref.c,.int .i64 n.ref.r,.bool n.ref.ac,.bool n.ref.ar,.string n.to.sh,.int .i64 n.to.c,.int .i64 n.to.r,.bool n.to.ac,.bool n.to.ar,.slice A m c] 61)).heap.size=w.heap.size+1:=by simp
 have hx:NdAt (w.alloc (.cells #[.int .i64 n.kind,.int .i64 n.num,.string n.text,.string n.ref.sh,.int .i64 n.ref.c,.int .i64 n.ref.r,.bool n.ref.ac,.bool n.ref.ar,.string n.to.sh,.int .i64 n.to.c,.int .i64 n.to.r,.bool n.to.ac,.bool n.to.ar,.slice A m c] 61)) w.heap.size n (.slice A m c):=NdAt.new w n _
 have hy:NdAt ((w.alloc (.cells #[.int .i64 n.kind,.int .i64 n.num,.string n.text,.string n.ref.sh,.int .i64 n.ref.c,.int .i64 n.ref.r,.bool n.ref.ac,.bool n.ref.ar,.string n.to.sh,.int .i64 n.to.c,.int .i64 n.to.r,.bool n.to.ac,.bool n.to.ar,.slice A m c] 61)).alloc (.cells zNod 61)) (w.heap.size+1) Nd.zero (.slice none 0 0):=by rw [← hsz];exact NdAt.new _ Nd.zero _
 have hx2:=hx.below ((Below.refl _ _).alloc (Nat.le_refl _) (.cells zNod 61)) hx.lt
 have HB:=Lib.hid (((Below.refl w.heap.size w).alloc (Nat.le_refl _) (.cells #[.int .i64 n.kind,.int .i64 n.num,.string n.text,.string n.ref.sh,.int .i64 n.ref.c,.int .i64 n.ref.r,.bool n.ref.ac,.bool n.ref.ar,.string n.to.sh,.int .i64 n.to.c,.int .i64 n.to.r,.bool n.to.ac,.bool n.to.ar,.slice A m c] 61)).alloc (by simp) (.cells zNod 61))
 have e1:(n.kind == 1)=true:=beq_iff_eq.2 h1
 clear h1
 go_enter Tryz.func96,Tryz.ntmps96
 go_upto_region 3 with (fail)
 generalize (w.alloc (.cells #[.int .i64 n.kind,.int .i64 n.num,.string n.text,.string n.ref.sh,.int .i64 n.ref.c,.int .i64 n.ref.r,.bool n.ref.ac,.bool n.ref.ar,.string n.to.sh,.int .i64 n.to.c,.int .i64 n.to.r,.bool n.to.ac,.bool n.to.ar,.slice A m c] 61)).alloc (.cells zNod 61)=w1 at hx2 hy HB ⊢
 obtain ⟨x0,x1,x2,x3,x4,x5,x6,x7,x8,x9,x10,x11,x12,x13⟩:=hx2.cells
 obtain ⟨y0,y1,y2,y3,y4,y5,y6,y7,y8,y9,y10,y11,y12,y13⟩:=hy.cells
 have f0:=hy.frozen 0
 have f1:=hy.frozen 1
 have f2:=hy.frozen 2
 have f3:=hy.frozen 3
 have f4:=hy.frozen 4
 have f5:=hy.frozen 5
 have f6:=hy.frozen 6
 have f7:=hy.frozen 7
 have f8:=hy.frozen 8
 have f9:=hy.frozen 9
 have f10:=hy.frozen 10
 have f11:=hy.frozen 11
 have f12:=hy.frozen 12
 have f13:=hy.frozen 13
 have HY:=Lib.hid hy
 clear hx hx2 hy
 go_region
 all_goals go_wp2_with fail
 all_goals exact bodyPost_ret (out_nod (HY.out.put14 { Nd.zero with num:=n.num } (.slice none 0 0)).drew _ _ _ 2 3 res_fields rfl rfl) rfl ⟨rfl,(below_set14 HB.out (by omega) _ _ _ _ _ _ _ _ _ _ _ _ _ _).drew⟩
end Go.Proofs.YtecpbligblnonaaGreatDoor
