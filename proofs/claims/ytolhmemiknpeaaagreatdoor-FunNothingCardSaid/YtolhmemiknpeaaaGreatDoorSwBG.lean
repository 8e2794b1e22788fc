/-
  Bytes put behind others, and what stays.
-/
import Derived.Test.YtolhmemiknpeaaaGreatDoorOwnAt
import Derived.Test.YtolhmemiknpeaaaGreatDoorOwnS
import Derived.Lib.Builder
import Derived.Laws.Externs
namespace Go.Proofs.YtolhmemiknpeaaaGreatDoor
open Go.RowKit

theorem bld_info : ∃ j, Tryz.prog.info? 74 = some j ∧ j.size = 2 := by
  have h : (Tryz.prog.info? 74).map (·.size) = some 2 := by kernel_rfl
  obtain ⟨j, h1, h2⟩ := Option.map_eq_some_iff.1 h
  exact ⟨j, h1, h2⟩
/-- What may have turned by writing: the writer, rows of bytes. -/
structure Fb (w w' : World) (b : Nat) : Prop where
  os : w'.os = w.os
  tape : w'.tape = w.tape
  output : w'.output = w.output
  size : w.heap.size ≤ w'.heap.size
  block : ∀ k, k < w.heap.size → k ≠ b → (k < b ∨ ∀ cur fr, w.heap[k]? ≠ some (.cells cur 5 fr)) → w'.heap[k]? = w.heap[k]?
theorem Fb.refl (w : World) (b : Nat) : Fb w w b := ⟨rfl, rfl, rfl, Nat.le_refl _, fun _ _ _ _ => rfl⟩
theorem Fb.trans {w w1 w2 : World} {b : Nat} (h : Fb w w1 b) (k : Fb w1 w2 b) : Fb w w2 b :=
  ⟨k.os.trans h.os, k.tape.trans h.tape, k.output.trans h.output, Nat.le_trans h.size k.size, fun j hj hb hr => by
    have h1 := h.block j hj hb hr
    rw [k.block j (Nat.lt_of_lt_of_le hj h.size) hb (hr.imp id fun hn cur fr => by rw [h1]; exact hn cur fr)]
    exact h1⟩
theorem Fb.setCell {w : World} {b : Nat} (j : Nat) (v : Value) : Fb w (w.setCell ⟨b, j, none⟩ v) b :=
  have h := grownBy.setCell' (grownBy.refl' w (some b)) j v
  ⟨h.os, h.tape, h.output, h.size, fun k hk hkb _ => h.block k hk (fun e => hkb (Option.some.inj e))⟩
theorem Fb.grown {w w' : World} {b g : Nat} (h : w.grownBy w' (some g)) (hg : ∃ cur fr, w.heap[g]? = some (.cells cur 5 fr)) (hb : b < g) : Fb w w' b :=
  ⟨h.os, h.tape, h.output, h.size, fun k hk hkb hr => h.block k hk (by
    intro e; injection e with e; subst e
    rcases hr with hr | hr
    · omega
    · obtain ⟨cur, fr, hx⟩ := hg; exact hr cur fr hx)⟩
theorem run_app_srcG {P : Program} {α : Type} {size t tx ty e bytes : Nat} {w : World} (EL : Elem P t e size bytes) (E : Enc α size) (base : Nat) (v : Value) (xs : List α) (hown : Own E e w base v xs)
    (x : Value) (m : Nat) (ys : List α) (hl : ys.length = m) (hs : Src P size tx x m (E.all ys) w) (hb : (xs.length + m) * bytes ≤ 140737488355328) (hb2 : xs.length + m ≤ maxLen) (hbase : base ≤ w.heap.size) :
    ∃ v' w', (Builtin.append_ #[t, tx] ty #[v, x]).run P w = .ok v' w' ∧ Own E e w' base v' (xs ++ ys) ∧ w.grownBy w' v.ownBlock := by
  obtain ⟨z, hi, hz⟩ := EL.inf
  obtain ⟨i, hi1, hi2, hi3, hi4⟩ := info_parts hi
  have ht := EL.und
  subst hi3
  subst hi4
  have hlx := E.length_all xs
  have hly := E.length_all ys
  rw [hl] at hly
  have hlen : (E.all (xs ++ ys)).length = (xs.length + m) * i.size := by rw [E.length_all, List.length_append, hl]
  have hsmall : xs.length + m ≤ 9223372036854775807 := by simp only [maxLen] at hb2; omega
  have grown : ∀ (old : Nat), old < xs.length + m →
      Own E e (w.drew.alloc (.cells ((E.all xs ++ E.all ys).toArray ++ Builtin.zeroCells z.cells (grownCap w (xs.length + m) old e - (xs.length + m))) e)) base (.slice (some ⟨w.heap.size, 0, none⟩) (xs.length + m) (grownCap w (xs.length + m) old e)) (xs ++ ys) ∧
      ∀ r, w.grownBy (w.drew.alloc (.cells ((E.all xs ++ E.all ys).toArray ++ Builtin.zeroCells z.cells (grownCap w (xs.length + m) old e - (xs.length + m))) e)) r := by
    intro old ho
    have hge := grownCap_ge w (xs.length + m) old e
    have hcm : grownCap w (xs.length + m) old e ≤ maxLen := grownCap_le_maxLen w (xs.length + m) old e hb2
    refine ⟨?_, fun r => grownBy.below' (grownBy.refl' _ _) (((Below.refl _ _).drew).alloc (Nat.le_refl _) _)⟩
    unfold Own
    rw [List.length_append, hl]
    refine ⟨hlen, .inr ⟨w.heap.size, _, _, rfl, hbase, heap_alloc_new w.drew _, hge, hcm, ?_, ?_⟩⟩
    · simp only [Array.size_append, List.size_toArray, size_zeroCells, hz, List.length_append, hlx, hly, ← Nat.add_mul]
      congr 1
      omega
    · simp only [Array.toList_append]
      rw [← E.all_append, ← hlen]
      exact List.take_left
  have h0 := hown
  rcases hown.2 with ⟨rfl, hn⟩ | ⟨g, cap, cur, rfl, hbg, hg, hnc, hcm, hcs, htake⟩
  · have hx : xs = [] := List.eq_nil_of_length_eq_zero hn
    subst hx
    by_cases hm : m = 0
    · subst hm
      have hy : ys = [] := List.eq_nil_of_length_eq_zero hl
      subst hy
      refine ⟨.slice none 0 0, w, ?_, Own.nil E e w base, grownBy.refl' _ _⟩
      have hc := hs.cells
      have hll := hs.len
      have hc' : (Builtin.firstCells i.size 0 x).run P w = .ok #[] w := hc
      rcases hs.kind with ⟨e', hk⟩ | hk <;>
        simp [Builtin.append_, run_underlying ht, run_underlying hk, sizeOf, typeInfo, hi1, hll, hc']
    · have hgr := grown 0 (by simp; omega)
      have hr := run_append_grow_src (P := P) w t tx ty e i z ht hi1 hi2 none 0 0 [] (by simp [Builtin.firstCells]) x m (E.all ys) hs (by omega) (by simp at hsmall; omega) (growslice_fits (by omega) (by simpa using hb))
      simp only [List.length_nil, Nat.zero_add, List.nil_append, Enc.all, List.flatMap_nil] at hgr hr ⊢
      exact ⟨_, _, hr, hgr.1, hgr.2 _⟩
  · by_cases hroom : xs.length + m ≤ cap
    · have hfit : xs.length * i.size + (E.all ys).length ≤ cur.size := by rw [hly, hcs, ← Nat.add_mul]; exact Nat.mul_le_mul_right _ hroom
      have hst := run_storeCells_at P g (xs.length * i.size) e (E.all ys) 0 cur w hg (by omega) (E.one_all ys)
      simp only [Nat.add_zero] at hst
      refine ⟨.slice (some ⟨g, 0, none⟩) (xs.length + m) cap, w.setRow g (cur.toList.take (xs.length * i.size) ++ E.all ys ++ cur.toList.drop (xs.length * i.size + (E.all ys).length)).toArray, ?_, ?_, ?_⟩
      · rcases hs.kind with ⟨e', hk⟩ | hk <;> simp [Builtin.append_, run_underlying ht, run_underlying hk, sizeOf, typeInfo, hi1, hs.len, hroom, hs.cells, Addr.add_lit, hst]
      · unfold Own
        rw [List.length_append, hl]
        refine ⟨hlen, .inr ⟨g, cap, _, rfl, hbg, setRow_heap w g cur _ e _ hg, hroom, hcm, ?_, ?_⟩⟩
        · simp only [List.size_toArray, List.length_append, List.length_take, List.length_drop, Array.length_toList]
          omega
        · rw [htake, ← hlen, ← E.all_append]
          exact List.take_left
      · exact ⟨rfl, rfl, rfl, by simp, fun k hk hne => setRow_other w g k _ (fun e => hne (congrArg some e))⟩
    · have hold : (Builtin.firstCells i.size xs.length (.slice (some ⟨g, 0, none⟩) xs.length cap)).run P w.drew = .ok (E.all xs).toArray w.drew :=
        run_firstCells_some w.drew i.size xs.length ⟨g, 0, none⟩ xs.length cap (E.all xs) hlx (World.ownsRow.cells (w := w.drew) h0 (g := g) rfl)
      have hgr := grown cap (by omega)
      have hr := run_append_grow_src (P := P) w t tx ty e i z ht hi1 hi2 (some ⟨g, 0, none⟩) xs.length cap (E.all xs) hold x m (E.all ys) hs (by omega) (by omega) (growslice_fits (by omega) hb)
      exact ⟨_, _, hr, hgr.1, hgr.2 _⟩

theorem wpList_app_srcG {P : Program} {α : Type} {size t tx e bytes : Nat} {w : World} {ops : Array Oper} {rest : List Oper} {o : Oper} {a : Act} {Q : Exit → Act → World → Prop} (EL : Elem P t e size bytes) (E : Enc α size)
    (hgd : o.guard = none) (s x : Operand) (ho : o.op = .call { callee := .builtin .append, args := #[s, x], argTypes := #[t, tx] }) (base : Nat) (v : Value) (xs : List α)
    (hs : a.eval s = v) (hown : Own E e w base v xs) (y : Value) (m : Nat) (ys : List α) (hx : a.eval x = y) (hl : ys.length = m) (hsrc : Src P size tx y m (E.all ys) w)
    (hb : (xs.length + m) * bytes ≤ 140737488355328) (hb2 : xs.length + m ≤ maxLen) (hbase : base ≤ w.heap.size)
    (h : ∀ (v' : Value) (w' : World), Own E e w' base v' (xs ++ ys) → w.grownBy w' v.ownBlock → wpList P ops Q rest (a.put o.dst v') w') : wpList P ops Q (o :: rest) a w := by
  obtain ⟨v', w', hrun, h2, h3⟩ := run_app_srcG (ty := o.type) EL E base v xs hown y m ys hl hsrc hb hb2 hbase
  refine wpList_plain hgd fun _ hK => ?_
  unfold Oper.wp execOp
  simp only [ho, resolve, invoke, builtin, Sem.run_bind, Sem.run_pure, Result.andThen_ok, List.map_toArray, List.map_cons, List.map_nil, hs, hx, hrun]
  exact hK _ _ (h v' w' h2 h3)

theorem own_row8 {w : World} {b : Nat} {v : Value} {xs : List Int} (h : Own8 w b v xs) (g : Nat) (hg : v.ownBlock = some g) : b ≤ g ∧ ∃ cur fr, w.heap[g]? = some (.cells cur 5 fr) := by
  rcases h.2 with ⟨h1, _⟩ | ⟨g', cap', cur, h1, h2, h3, _⟩
  · rw [h1] at hg; cases hg
  · rw [h1] at hg
    have : g' = g := Option.some.inj hg
    subst this
    exact ⟨h2, cur, _, h3⟩
theorem own_slice {α : Type} {size : Nat} {E : Enc α size} {e : TypeId} {w : World} {b : Nat} {v : Value} {xs : List α} (h : Own E e w b v xs) : ∃ ao n c, v = .slice ao n c := by
  rcases h.2 with ⟨h1, _⟩ | ⟨g, cap, cur, h1, _⟩
  · exact ⟨_, _, _, h1⟩
  · exact ⟨_, _, _, h1⟩
theorem Fb.own {w w' : World} {b : Nat} {v : Value} {xs : List Int} (h : Own8 w (b + 1) v xs) (hg : w.grownBy w' v.ownBlock) : Fb w w' b := by
  cases hv : v.ownBlock with
  | none =>
    rw [hv] at hg
    exact ⟨hg.os, hg.tape, hg.output, hg.size, fun k hk _ _ => hg.block k hk (by simp)⟩
  | some g =>
    rw [hv] at hg
    obtain ⟨h1, h2⟩ := own_row8 h g hv
    exact Fb.grown hg h2 (by omega)
end Go.Proofs.YtolhmemiknpeaaaGreatDoor
