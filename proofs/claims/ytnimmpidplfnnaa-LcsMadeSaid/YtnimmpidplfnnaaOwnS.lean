/-
  append onto a slice of the call's own from whatever source: a slice, nil, a text's bytes.
-/
import Derived.Test.YtnimmpidplfnnaaStr
import Derived.Test.YtnimmpidplfnnaaOwn
import Derived.Deep.AppendSrc
namespace Go.Proofs.Ytnimmpidplfnnaa
open Go.RowKit

theorem run_app_src {P : Program} {α : Type} {size t tx ty e bytes : Nat} {w : World} (EL : Elem P t e size bytes) (E : Enc α size) (base : Nat) (v : Value) (xs : List α) (hown : Own E e w base v xs)
    (x : Value) (m : Nat) (ys : List α) (hl : ys.length = m) (hs : Src P size tx x m (E.all ys) w) (hb : (xs.length + m) * bytes ≤ 140737488355328) (hb2 : xs.length + m ≤ maxLen) (hbase : base ≤ w.heap.size) :
    ∃ v' w', (Builtin.append_ #[t, tx] ty #[v, x]).run P w = .ok v' w' ∧ Own E e w' base v' (xs ++ ys) ∧ Below base w w' := by
  obtain ⟨z, hi, hz⟩ := EL.inf
  obtain ⟨i, hi1, hi2, hi3, hi4⟩ := info_parts hi
  have ht := EL.und
  subst hi3
  subst hi4
  have hlx := E.length_all xs
  have hly := E.length_all ys
  rw [hl] at hly
  have hlen : (E.all (xs ++ ys)).length = (xs.length + m) * i.size := by rw [E.length_all, List.length_append, hl]
  have hsmall : xs.length + m ≤ 9223372036854775807 := by simp only [maxLen] at hb2; omega
  have grown : ∀ (old : Nat), old < xs.length + m →
      Own E e (w.drew.alloc (.cells ((E.all xs ++ E.all ys).toArray ++ Builtin.zeroCells z.cells (grownCap w (xs.length + m) old e - (xs.length + m))) e)) base (.slice (some ⟨w.heap.size, 0, none⟩) (xs.length + m) (grownCap w (xs.length + m) old e)) (xs ++ ys) ∧
      Below base w (w.drew.alloc (.cells ((E.all xs ++ E.all ys).toArray ++ Builtin.zeroCells z.cells (grownCap w (xs.length + m) old e - (xs.length + m))) e)) := by
    intro old ho
    have hge := grownCap_ge w (xs.length + m) old e
    have hcm : grownCap w (xs.length + m) old e ≤ maxLen := grownCap_le_maxLen w (xs.length + m) old e hb2
    refine ⟨?_, ((Below.refl _ _).drew).alloc hbase _⟩
    unfold Own
    rw [List.length_append, hl]
    refine ⟨hlen, .inr ⟨w.heap.size, _, _, rfl, hbase, heap_alloc_new w.drew _, hge, hcm, ?_, ?_⟩⟩
    · simp only [Array.size_append, List.size_toArray, size_zeroCells, hz, List.length_append, hlx, hly, ← Nat.add_mul]
      congr 1
      omega
    · simp only [Array.toList_append]
      rw [← E.all_append, ← hlen]
      exact List.take_left
  have h0 := hown
  rcases hown.2 with ⟨rfl, hn⟩ | ⟨g, cap, cur, rfl, hbg, hg, hnc, hcm, hcs, htake⟩
  · have hx : xs = [] := List.eq_nil_of_length_eq_zero hn
    subst hx
    by_cases hm : m = 0
    · subst hm
      have hy : ys = [] := List.eq_nil_of_length_eq_zero hl
      subst hy
      refine ⟨.slice none 0 0, w, ?_, Own.nil E e w base, Below.refl _ _⟩
      have hc := hs.cells
      have hll := hs.len
      have hc' : (Builtin.firstCells i.size 0 x).run P w = .ok #[] w := hc
      rcases hs.kind with ⟨e', hk⟩ | hk <;>
        simp [Builtin.append_, run_underlying ht, run_underlying hk, sizeOf, typeInfo, hi1, hll, hc']
    · have hgr := grown 0 (by simp; omega)
      have hr := run_append_grow_src (P := P) w t tx ty e i z ht hi1 hi2 none 0 0 [] (by simp [Builtin.firstCells]) x m (E.all ys) hs (by omega) (by simp at hsmall; omega) (growslice_fits (by omega) (by simpa using hb))
      simp only [List.length_nil, Nat.zero_add, List.nil_append, Enc.all, List.flatMap_nil] at hgr hr ⊢
      exact ⟨_, _, hr, hgr.1, hgr.2⟩
  · by_cases hroom : xs.length + m ≤ cap
    · have hfit : xs.length * i.size + (E.all ys).length ≤ cur.size := by rw [hly, hcs, ← Nat.add_mul]; exact Nat.mul_le_mul_right _ hroom
      have hst := run_storeCells_at P g (xs.length * i.size) e (E.all ys) 0 cur w hg (by omega) (E.one_all ys)
      simp only [Nat.add_zero] at hst
      refine ⟨.slice (some ⟨g, 0, none⟩) (xs.length + m) cap, w.setRow g (cur.toList.take (xs.length * i.size) ++ E.all ys ++ cur.toList.drop (xs.length * i.size + (E.all ys).length)).toArray, ?_, ?_, ?_⟩
      · rcases hs.kind with ⟨e', hk⟩ | hk <;> simp [Builtin.append_, run_underlying ht, run_underlying hk, sizeOf, typeInfo, hi1, hs.len, hroom, hs.cells, Addr.add_lit, hst]
      · unfold Own
        rw [List.length_append, hl]
        refine ⟨hlen, .inr ⟨g, cap, _, rfl, hbg, setRow_heap w g cur _ e _ hg, hroom, hcm, ?_, ?_⟩⟩
        · simp only [List.size_toArray, List.length_append, List.length_take, List.length_drop, Array.length_toList]
          omega
        · rw [htake, ← hlen, ← E.all_append]
          exact List.take_left
      · exact ⟨rfl, rfl, rfl, by simp, fun k hk => setRow_other w g k _ (by omega)⟩
    · have hold : (Builtin.firstCells i.size xs.length (.slice (some ⟨g, 0, none⟩) xs.length cap)).run P w.drew = .ok (E.all xs).toArray w.drew :=
        run_firstCells_some w.drew i.size xs.length ⟨g, 0, none⟩ xs.length cap (E.all xs) hlx (World.ownsRow.cells (w := w.drew) h0 (g := g) rfl)
      have hgr := grown cap (by omega)
      have hr := run_append_grow_src (P := P) w t tx ty e i z ht hi1 hi2 (some ⟨g, 0, none⟩) xs.length cap (E.all xs) hold x m (E.all ys) hs (by omega) (by omega) (growslice_fits (by omega) hb)
      exact ⟨_, _, hr, hgr.1, hgr.2⟩

/-- THE LAW, at a list of operations. -/
theorem wpList_app_src {P : Program} {α : Type} {size t tx e bytes : Nat} {w : World} {ops : Array Oper} {rest : List Oper} {o : Oper} {a : Act} {Q : Exit → Act → World → Prop} (EL : Elem P t e size bytes) (E : Enc α size)
    (hgd : o.guard = none) (s x : Operand) (ho : o.op = .call { callee := .builtin .append, args := #[s, x], argTypes := #[t, tx] }) (base : Nat) (v : Value) (xs : List α)
    (hs : a.eval s = v) (hown : Own E e w base v xs) (y : Value) (m : Nat) (ys : List α) (hx : a.eval x = y) (hl : ys.length = m) (hsrc : Src P size tx y m (E.all ys) w)
    (hb : (xs.length + m) * bytes ≤ 140737488355328) (hb2 : xs.length + m ≤ maxLen) (hbase : base ≤ w.heap.size)
    (h : ∀ (v' : Value) (w' : World), Own E e w' base v' (xs ++ ys) → Below base w w' → wpList P ops Q rest (a.put o.dst v') w') : wpList P ops Q (o :: rest) a w := by
  obtain ⟨v', w', hrun, h2, h3⟩ := run_app_src (ty := o.type) EL E base v xs hown y m ys hl hsrc hb hb2 hbase
  refine wpList_plain hgd fun _ hK => ?_
  unfold Oper.wp execOp
  simp only [ho, resolve, invoke, builtin, Sem.run_bind, Sem.run_pure, Result.andThen_ok, List.map_toArray, List.map_cons, List.map_nil, hs, hx, hrun]
  exact hK _ _ (h v' w' h2 h3)
/-- The same as one step of a region that draws its order. -/
theorem step_app_src {P : Program} {α : Type} {size t tx e bytes : Nat} {w : World} {ops : Array Oper} {o : Oper} {a : Act} {K : Act → World → Prop} {Q : Exit → Act → World → Prop} {F : Prop} (EL : Elem P t e size bytes) (E : Enc α size)
    (hgd : o.guard = none) (s x : Operand) (ho : o.op = .call { callee := .builtin .append, args := #[s, x], argTypes := #[t, tx] }) (base : Nat) (v : Value) (xs : List α)
    (hs : a.eval s = v) (hown : Own E e w base v xs) (y : Value) (m : Nat) (ys : List α) (hx : a.eval x = y) (hl : ys.length = m) (hsrc : Src P size tx y m (E.all ys) w)
    (hb : (xs.length + m) * bytes ≤ 140737488355328) (hb2 : xs.length + m ≤ maxLen) (hbase : base ≤ w.heap.size)
    (h : ∀ (v' : Value) (w' : World), Own E e w' base v' (xs ++ ys) → Below base w w' → K (a.put o.dst v') w') :
    if Region.wanted o (yielded ops a.tmps) = true then Oper.wp P o a w K Q else F := by
  have hw : Region.wanted o (yielded ops a.tmps) = true := by simp [Region.wanted, hgd]
  rw [if_pos hw]
  obtain ⟨v', w', hrun, h2, h3⟩ := run_app_src (ty := o.type) EL E base v xs hown y m ys hl hsrc hb hb2 hbase
  unfold Oper.wp
  simp [execOp, ho, resolve, invoke, builtin, hs, hx, hrun, Result.andThen]
  exact h v' w' h2 h3

/-- A text's bytes as a source. -/
theorem byteCells_sb (s : ByteArray) : byteCells s = (encInt .u8).all (sb s) := by
  rw [all_encInt]; unfold byteCells sb; rw [List.map_map]; rfl
theorem src_text {w : World} (s : ByteArray) : Src Try.prog 1 9 (.string s) s.size ((encInt .u8).all (sb s)) w := by
  rw [← byteCells_sb]; exact Src.ofString w Try.underlying9 s
/-- A slice of the call's own as a source. -/
theorem src_own8 {w : World} {base : Nat} {v : Value} {ys : List Int} (h : Own8 w base v ys) : Src Try.prog 1 31 v ys.length ((encInt .u8).all ys) w := by
  rcases h.shape with ⟨rfl, rfl⟩ | ⟨g, cap, rfl, h1, h2, h3, h4⟩
  · exact Src.ofNil w Try.underlying31 0
  · exact Src.ofSlice w Try.underlying31 _ _ _ _ (by rw [Enc.length_all, Nat.mul_one]) (fun j u hu => by rw [Addr.add_mid, Nat.zero_add]; exact Own.cells h j u hu) ((encInt .u8).one_all ys)

theorem Bytes.drop {l : List Int} (h : Bytes l) (k : Nat) : Bytes (l.drop k) := fun a ha => h a (List.mem_of_mem_drop ha)
theorem Bytes.take {l : List Int} (h : Bytes l) (k : Nat) : Bytes (l.take k) := fun a ha => h a (List.mem_of_mem_take ha)
theorem Bytes.get {l : List Int} (h : Bytes l) (k : Nat) : 0 ≤ l.getD k 0 ∧ l.getD k 0 ≤ 255 := by
  rw [List.getD_eq_getElem?_getD]
  cases hk : l[k]? with
  | none => simp
  | some a => exact h a (List.mem_of_getElem? hk)

/-- A SLICE OF BYTES THAT READS AS xs, whoever made it, below block B (nil let in). -/
structure S8 (w : World) (B : Nat) (A : Option Addr) (len cap : Nat) (xs : List Int) : Prop where
  hlen : xs.length = len
  le : len ≤ cap
  max : cap ≤ maxLen
  bytes : Bytes xs
  at_ : len = 0 ∨ ∃ pb po, A = some ⟨pb, po, none⟩ ∧ pb < B ∧ ∀ j, j < len → w.cell? ⟨pb, po + j, none⟩ = some (.int .u8 (xs.getD j 0))
theorem S8.below {w w' : World} {B C : Nat} {A : Option Addr} {len cap : Nat} {xs : List Int} (h : S8 w B A len cap xs) (hb : Below C w w') (hC : B ≤ C) : S8 w' B A len cap xs :=
  ⟨h.hlen, h.le, h.max, h.bytes, by
    rcases h.at_ with h1 | ⟨pb, po, h1, h2, h3⟩
    · exact .inl h1
    · exact .inr ⟨pb, po, h1, h2, fun j hj => (hb.cell (p := ⟨pb, po + j, none⟩) (by show pb < C; omega)).trans (h3 j hj)⟩⟩
theorem S8.mono {w : World} {B C : Nat} {A : Option Addr} {len cap : Nat} {xs : List Int} (h : S8 w B A len cap xs) (hC : B ≤ C) : S8 w C A len cap xs :=
  ⟨h.hlen, h.le, h.max, h.bytes, by
    rcases h.at_ with h1 | ⟨pb, po, h1, h2, h3⟩
    · exact .inl h1
    · exact .inr ⟨pb, po, h1, by omega, h3⟩⟩
theorem S8.drewN {w : World} {B : Nat} {A : Option Addr} {len cap : Nat} {xs : List Int} (h : S8 w B A len cap xs) (n : Nat) : S8 (w.drewN n) B A len cap xs := ⟨h.hlen, h.le, h.max, h.bytes, h.at_⟩
theorem S8.src {w : World} {B : Nat} {A : Option Addr} {len cap : Nat} {xs : List Int} (h : S8 w B A len cap xs) : Src Try.prog 1 31 (.slice A len cap) len ((encInt .u8).all xs) w := by
  have hl := h.hlen
  rcases h.at_ with rfl | ⟨pb, po, rfl, h2, h3⟩
  · have : xs = [] := List.eq_nil_of_length_eq_zero hl
    subst this
    cases A with
    | none => exact Src.ofNil w Try.underlying31 cap
    | some a => exact Src.ofSlice w Try.underlying31 a 0 cap _ rfl (fun j u hu => by simp [Enc.all] at hu) ((encInt .u8).one_all [])
  · refine Src.ofSlice w Try.underlying31 _ _ _ _ (by rw [Enc.length_all, hl]) (fun j u hu => ?_) ((encInt .u8).one_all xs)
    rw [Addr.add_mid]
    rw [all_encInt] at hu
    have hj : j < xs.length := by
      have := (List.getElem?_eq_some_iff.1 hu).1
      rw [List.length_map] at this; exact this
    rw [getElem?_map_int _ _ _ hj] at hu
    rw [h3 j (by omega), ← hu]
theorem Own.s8 {w : World} {base : Nat} {v : Value} {xs : List Int} (h : Own8 w base v xs) (hb : Bytes xs) : ∃ A cap, v = .slice A xs.length cap ∧ S8 w w.heap.size A xs.length cap xs ∧ (A = none ∨ ∃ g, A = Option.some ⟨g, 0, none⟩ ∧ base ≤ g) := by
  rcases h.shape with ⟨rfl, rfl⟩ | ⟨g, cap, rfl, h1, h2, h3, h4⟩
  · exact ⟨none, 0, rfl, ⟨rfl, Nat.le_refl _, by unfold maxLen; omega, hb, .inl rfl⟩, .inl rfl⟩
  · exact ⟨Option.some ⟨g, 0, none⟩, cap, rfl, ⟨rfl, h3, h4, hb, .inr ⟨g, 0, rfl, h2, fun j hj => by rw [Nat.zero_add]; exact h.intCell j hj⟩⟩, .inr ⟨g, rfl, h1⟩⟩
/-- 'string(v)' of an empty slice, wherever it lies. -/
theorem run_text0 (A : Option Addr) (cap : Nat) (w : World) : (convert 31 9 (.slice A 0 cap)).run Try.prog w = .ok (.string (strOfNums [])) w := by
  cases A with
  | none => rw [run_convert_bytes_nil w _ 5 Try.underlying31 Try.underlying5 _ _ _ Try.underlying9]; rfl
  | some a =>
    have hl : (loadCells a 0).run Try.prog w = .ok (([] : List Int).map (Value.int .u8)).toArray w := run_loadCells_list (P := Try.prog) w a [] (by simp)
    rw [run_convert_bytes_string w 31 9 5 _ 0 cap Try.underlying31 Try.underlying5 Try.underlying9, run_bytesToString w _ 0 cap [] hl]; rfl
/-- 'string(v)' of such a slice. -/
theorem S8.text {w : World} {B : Nat} {A : Option Addr} {len cap : Nat} {xs : List Int} (h : S8 w B A len cap xs) : (convert 31 9 (.slice A len cap)).run Try.prog w = .ok (.string (strOfNums xs)) w := by
  have hl := h.hlen
  rcases h.at_ with rfl | ⟨pb, po, rfl, h2, h3⟩
  · have : xs = [] := List.eq_nil_of_length_eq_zero hl
    subst this
    exact run_text0 A cap w
  · exact run_convert_bytes_arg w _ 5 Try.underlying31 Try.underlying5 pb po _ cap xs hl h3 _ Try.underlying9
/-- 's[k:p]' of a slice of bytes. -/
theorem run_cut8 (pb po len cap k p : Nat) (h1 : k ≤ p) (h2 : p ≤ cap) (h3 : ¬ cap = k) (w : World) : (Instr.slice 31 (.slice (some ⟨pb, po, none⟩) len cap) (some (.int .i64 (k : Int))) (some (.int .i64 (p : Int))) none).run Try.prog w = .ok (.slice (some ⟨pb, po + k, none⟩) (p - k) (cap - k)) w := by
  have e1 : (p : Int) ≤ (cap : Int) := by omega
  have e2 : (k : Int) ≤ (p : Int) := by omega
  have e3 : (Try.prog.info? 5).map (·.size) = some 1 := by kernel_rfl
  cases hq : Try.prog.info? 5 with
  | none => rw [hq] at e3; cases e3
  | some i =>
    have hi : i.size = 1 := by rw [hq] at e3; simpa using e3
    simp [Instr.slice, run_underlying Try.underlying31, Instr.sliceBounds, Instr.sliceBound, asIntOf, sizeOf, typeInfo, hq, hi, h1, h2, h3, go_sem, Addr.add_mid]
theorem Own.other {α : Type} {size : Nat} {E : Enc α size} {e : TypeId} {w w' : World} {base r : Nat} {v : Value} {xs : List α} (h : Own E e w base v xs) (hg : w.grownBy w' (Option.some r)) (hr : r < base) : Own E e w' base v xs := by
  refine ⟨h.1, ?_⟩
  rcases h.2 with h | ⟨g, cap, cur, h1, h2, h3, h4⟩
  · exact .inl h
  · refine .inr ⟨g, cap, cur, h1, h2, ?_, h4⟩
    rw [hg.block g (Array.getElem?_eq_some_iff.1 h3).1 (by intro h; have : g = r := Option.some.inj h; omega)]; exact h3
end Go.Proofs.Ytnimmpidplfnnaa
