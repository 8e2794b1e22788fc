/-
  A region that draws its order, settled operation by operation: what each of them leaves holds whatever the others do.
-/
import Derived.Deep.RegionHeld3
namespace Go.Proofs.YtolhmemiknpeaaaDoor
open Go

/-- What a slot holds. -/
def slotOf (a : Act) (d : Option Tmp) : Value := match d with
  | some d => a.tmps.getD d undef
  | none => undef
/-- The operations that stand ahead of one, so many steps back. -/
def ancOf (ops : Array Oper) : Nat → Nat → List Nat
  | 0, _ => []
  | f + 1, i => match ops[i]? with
    | none => []
    | some o => (o.after.toList.filter fun e => Region.binds .any e).flatMap fun e => e.on :: ancOf ops f e.on
/-- Slots of their own, and edges that go back. -/
def setB (ops : Array Oper) (n : Nat) : Bool :=
  (List.range ops.size).all fun i => match ops[i]? with
    | none => false
    | some o => (match o.dst with
        | none => true
        | some d => decide (d < n) && (List.range ops.size).all fun j => match ops[j]? with
            | none => true
            | some p => decide (j = i) || !(p.dst == some d)) &&
      o.after.toList.all fun e => !Region.binds .any e || decide (e.on < i)

/-- Those of M come first, all of them. -/
def partB (ops : Array Oper) (M : Nat → Bool) (lev : Nat) : Bool :=
  (List.range ops.size).all fun i => match ops[i]? with
    | none => false
    | some o => if M i = true then o.after.toList.all fun e => !Region.binds .any e || M e.on else (List.range ops.size).all fun j => !M j || (ancOf ops lev i).contains j
def listOf (ops : Array Oper) (M : Nat → Bool) : Array Bool := ((List.range ops.size).map M).toArray

section
variable {P : Program} {ops : Array Oper} {Q : Exit → Act → World → Prop} (M : Nat → Bool) (F : List Nat) (R : World → World → Prop) (T : Nat → Value → World → Prop) (a0 : Act) (w0 : World)

structure SetA (ops : Array Oper) (a : Act) (w : World) : Prop where
  rel : R w0 w
  size : a.tmps.size = a0.tmps.size
  rest : { a with tmps := a0.tmps } = a0
  slot : ∀ s, (∀ (j : Nat) oj, ops[j]? = some oj → oj.dst ≠ some s) → a.tmps.getD s undef = a0.tmps.getD s undef
structure SetI (ops : Array Oper) (listed : Array Bool) (a : Act) (w : World) : Prop where
  act : SetA R a0 w0 ops a w
  done : ∀ (j : Nat) oj, ops[j]? = some oj → listed.getD j true = true → T j (slotOf a oj.dst) w
  closed : ∀ (j : Nat) oj, ops[j]? = some oj → listed.getD j true = true → ∀ e ∈ oj.after, Region.binds .any e = true → listed.getD e.on false = true
  len : listed.size = ops.size
  out : ∀ j, j < ops.size → M j = false → listed.getD j true = false
  ne : ∀ i ∈ F, ∀ j ∈ F, i ≠ j → ∀ oi oj, ops[i]? = some oi → ops[j]? = some oj → listed.getD i true = true → listed.getD j true = true → slotOf a oi.dst ≠ slotOf a oj.dst
theorem getD_in {listed : Array Bool} {n i : Nat} (hl : listed.size = n) (hi : i < n) (b c : Bool) : listed.getD i b = listed.getD i c := by
  have : i < listed.size := by omega
  simp [Array.getD, this]
theorem SetI.anc {listed : Array Bool} {a : Act} {w : World} (h : SetI M F R T a0 w0 ops listed a w) : ∀ (f i : Nat) (oi : Oper), ops[i]? = some oi → (∀ e ∈ oi.after, Region.binds .any e = true → listed.getD e.on false = true) →
    ∀ j ∈ ancOf ops f i, ∀ oj, ops[j]? = some oj → T j (slotOf a oj.dst) w
  | 0, _, _, _, _, j, hj, _, _ => by cases hj
  | f + 1, i, oi, hi, hc, j, hj, oj, hoj => by
    unfold ancOf at hj
    rw [hi] at hj
    obtain ⟨e, he, hje⟩ := List.mem_flatMap.1 hj
    obtain ⟨he1, he2⟩ := List.mem_filter.1 he
    have hl := hc e (by simpa using he1) he2
    have hin : e.on < ops.size := by
      rcases Nat.lt_or_ge e.on listed.size with h' | h'
      · have := h.len; omega
      · simp [Array.getD, Nat.not_lt.2 h'] at hl
    have hl2 : listed.getD e.on true = true := (getD_in h.len hin true false).trans hl
    rcases List.mem_cons.1 hje with rfl | hje
    · exact h.done _ oj hoj hl2
    · obtain ⟨oe, hoe⟩ : ∃ oe, ops[e.on]? = some oe := ⟨_, Array.getElem?_eq_getElem hin⟩
      exact SetI.anc h f e.on oe hoe (h.closed _ oe hoe hl2) j hje oj hoj
theorem setB_at {n : Nat} (h : setB ops n = true) {i : Nat} {oi : Oper} (hi : ops[i]? = some oi) :
    (∀ d, oi.dst = some d → d < n ∧ ∀ (j : Nat) oj, ops[j]? = some oj → oj.dst = some d → j = i) ∧ ∀ e ∈ oi.after, Region.binds .any e = true → e.on < i := by
  have hlt := (Array.getElem?_eq_some_iff.1 hi).1
  have h1 := List.all_eq_true.1 h i (List.mem_range.2 hlt)
  rw [hi] at h1
  simp only [Bool.and_eq_true] at h1
  obtain ⟨h1, h2⟩ := h1
  refine ⟨fun d hd => ?_, fun e he hb => ?_⟩
  · rw [hd] at h1
    simp only [Bool.and_eq_true, decide_eq_true_iff] at h1
    refine ⟨h1.1, fun j oj hj hdj => ?_⟩
    have hjl := (Array.getElem?_eq_some_iff.1 hj).1
    have h3 := List.all_eq_true.1 h1.2 j (List.mem_range.2 hjl)
    rw [hj] at h3
    simp only [hdj, beq_self_eq_true, Bool.not_true, Bool.or_false, decide_eq_true_iff] at h3
    exact h3
  · have h3 := List.all_eq_true.1 h2 e (by simpa using he)
    rw [hb] at h3
    simpa using h3
theorem slot_put_same {a : Act} {d : Option Tmp} {v : Value} (h : ∀ s, d = some s → s < a.tmps.size) (hn : d = none → v = undef) : slotOf (a.put d v) d = v := by
  cases d with
  | none => exact (hn rfl).symm
  | some s =>
    have := h s rfl
    show (a.tmps.setIfInBounds s v).getD s undef = v
    simp [Array.getD, this]
theorem slot_put_ne {a : Act} {d e : Option Tmp} {v : Value} (h : ∀ s, d = some s → e ≠ some s) : slotOf (a.put d v) e = slotOf a e := by
  cases d with
  | none => rfl
  | some s =>
    cases e with
    | none => rfl
    | some t =>
      have hne : s ≠ t := fun e => h s rfl (by rw [e])
      show (a.tmps.setIfInBounds s v).getD t undef = a.tmps.getD t undef
      simp only [Array.getD_eq_getD_getElem?, Array.getElem?_setIfInBounds_ne hne]
def unlisted (l : Array Bool) : Nat := (l.toList.filter fun b => !b).length
theorem filter_set : ∀ (l : List Bool) (i : Nat), l[i]? = some false → ((l.set i true).filter fun b => !b).length + 1 = (l.filter fun b => !b).length
  | [], _, h => by simp at h
  | b :: l, 0, h => by
    simp at h; subst h; simp
  | b :: l, i + 1, h => by
    have ih := filter_set l i (by simpa using h)
    cases b
    · simp; omega
    · simp; omega
theorem unlisted_set {l : Array Bool} {i : Nat} (h : l[i]? = some false) : unlisted (l.setIfInBounds i true) + 1 = unlisted l := by
  unfold unlisted
  rw [Array.toList_setIfInBounds]
  exact filter_set l.toList i (by simpa using h)
theorem unlisted_none {l : Array Bool} (h : unlisted l = 0) (i : Nat) (hi : i < l.size) : l[i]? = some true := by
  unfold unlisted at h
  have h1 := List.filter_eq_nil_iff.1 (List.eq_nil_of_length_eq_zero h)
  have h2 := h1 l[i] (by simp)
  rw [Array.getElem?_eq_getElem hi]
  congr 1
  simpa using h2
theorem unlisted_some : ∀ (l : List Bool), 0 < (l.filter fun b => !b).length → ∃ i : Nat, l[i]? = some false ∧ ∀ j : Nat, j < i → l[j]? = some true
  | [], h => by simp at h
  | false :: l, _ => ⟨0, rfl, fun j hj => by omega⟩
  | true :: l, h => by
    obtain ⟨i, h1, h2⟩ := unlisted_some l (by simpa using h)
    refine ⟨i + 1, by simpa using h1, fun j hj => ?_⟩
    match j with
    | 0 => rfl
    | j + 1 => simpa using h2 j (by omega)
theorem partB_in {lev i : Nat} {oi : Oper} (h : partB ops M lev = true) (hi : ops[i]? = some oi) (hm : M i = true) : ∀ e ∈ oi.after, Region.binds .any e = true → M e.on = true := by
  have hlt := (Array.getElem?_eq_some_iff.1 hi).1
  have h1 := List.all_eq_true.1 h i (List.mem_range.2 hlt)
  rw [hi] at h1
  simp only [hm, if_true] at h1
  intro e he hb
  have h3 := List.all_eq_true.1 h1 e (by simpa using he)
  rw [hb] at h3
  simpa using h3
theorem partB_out {lev i : Nat} {oi : Oper} (h : partB ops M lev = true) (hi : ops[i]? = some oi) (hm : M i = false) : ∀ j, j < ops.size → M j = true → j ∈ ancOf ops lev i := by
  have hlt := (Array.getElem?_eq_some_iff.1 hi).1
  have h1 := List.all_eq_true.1 h i (List.mem_range.2 hlt)
  rw [hi] at h1
  simp only [hm, Bool.false_eq_true, if_false] at h1
  intro j hj hmj
  have h3 := List.all_eq_true.1 h1 j (List.mem_range.2 hj)
  rw [hmj] at h3
  simpa using h3
theorem SetI.ancL {listed : Array Bool} {a : Act} {w : World} (h : SetI M F R T a0 w0 ops listed a w) : ∀ (f i : Nat) (oi : Oper), ops[i]? = some oi → (∀ e ∈ oi.after, Region.binds .any e = true → listed.getD e.on false = true) →
    ∀ j ∈ ancOf ops f i, j < ops.size → listed.getD j true = true
  | 0, _, _, _, _, j, hj, _ => by cases hj
  | f + 1, i, oi, hi, hc, j, hj, hlt => by
    unfold ancOf at hj
    rw [hi] at hj
    obtain ⟨e, he, hje⟩ := List.mem_flatMap.1 hj
    obtain ⟨he1, he2⟩ := List.mem_filter.1 he
    have hl := hc e (by simpa using he1) he2
    have hin : e.on < ops.size := by
      rcases Nat.lt_or_ge e.on listed.size with h' | h'
      · have := h.len; omega
      · simp [Array.getD, Nat.not_lt.2 h'] at hl
    have hl2 : listed.getD e.on true = true := (getD_in h.len hin true false).trans hl
    rcases List.mem_cons.1 hje with rfl | hje
    · exact hl2
    · obtain ⟨oe, hoe⟩ : ∃ oe, ops[e.on]? = some oe := ⟨_, Array.getElem?_eq_getElem hin⟩
      exact SetI.ancL h f e.on oe hoe (h.closed _ oe hoe hl2) j hje hlt
theorem least_of (p : Nat → Bool) : ∀ n : Nat, (∃ i, i < n ∧ p i = true) → ∃ i, i < n ∧ p i = true ∧ ∀ j, j < i → p j = false
  | 0, h => by obtain ⟨i, h, _⟩ := h; omega
  | n + 1, h => by
    by_cases c : ∃ i, i < n ∧ p i = true
    · obtain ⟨i, h1, h2, h3⟩ := least_of p n c
      exact ⟨i, by omega, h2, h3⟩
    · obtain ⟨i, h1, h2⟩ := h
      have : i = n := by
        rcases Nat.lt_or_ge i n with h' | h'
        · exact absurd ⟨i, h', h2⟩ c
        · omega
      subst this
      refine ⟨i, h1, h2, fun j hj => ?_⟩
      cases hp : p j with
      | false => rfl
      | true => exact absurd ⟨j, hj, hp⟩ c
theorem listOf_is {listed : Array Bool} {a : Act} {w : World} (h : SetI M F R T a0 w0 ops listed a w) (hall : ∀ j, j < ops.size → M j = true → listed.getD j true = true) : listed = listOf ops M := by
  apply Array.ext_getElem?
  intro i
  unfold listOf
  by_cases hi : i < ops.size
  · have hl : i < listed.size := by have := h.len; omega
    have e1 : listed[i]? = some (listed.getD i true) := by rw [Array.getElem?_eq_getElem hl]; simp [Array.getD, hl]
    rw [e1]
    simp only [List.getElem?_toArray, List.getElem?_map, List.getElem?_range hi, Option.map_some]
    congr 1
    cases hm : M i with
    | true => exact hall i hi hm
    | false => exact h.out i hi hm
  · rw [Array.getElem?_eq_none (by have := h.len; omega)]
    simp only [List.getElem?_toArray, List.getElem?_map]
    rw [List.getElem?_eq_none (by simp; omega)]; rfl
/-- SETTLED: each operation of M is shown once. -/
theorem settle_go {lev : Nat} (hb : setB ops a0.tmps.size = true) (hp : partB ops M lev = true) (htr : ∀ u v w, R u v → R v w → R u w) (hT : ∀ i v w w', T i v w → R w w' → T i v w') (hF : ∀ i ∈ F, ∀ v w, T i v w → ∃ b, v = .pointer (some ⟨b, 0, none⟩) ∧ b < w.heap.size)
    (hstep : ∀ (i : Nat) oi, ops[i]? = some oi → M i = true → ∀ a w, SetA R a0 w0 ops a w → (∀ j ∈ ancOf ops lev i, ∀ oj, ops[j]? = some oj → T j (slotOf a oj.dst) w) →
      if Region.wanted oi (yielded ops a.tmps) = true then Oper.wp P oi a w (fun a' w' => ∃ v, a' = a.put oi.dst v ∧ (oi.dst = none → v = undef) ∧ R w w' ∧ T i v w' ∧ (i ∈ F → ∃ b, v = .pointer (some ⟨b, 0, none⟩) ∧ w.heap.size ≤ b)) Q else T i undef w ∧ i ∉ F)
    (hrefl : ∀ u, R u u)
    (hend : ∀ a w, SetA R a0 w0 ops a w → (∀ (j : Nat) oj, ops[j]? = some oj → M j = true → T j (slotOf a oj.dst) w) → (∀ i ∈ F, ∀ j ∈ F, i ≠ j → M i = true → M j = true → ∀ oi oj, ops[i]? = some oi → ops[j]? = some oj → slotOf a oi.dst ≠ slotOf a oj.dst) → wpAny P .any ops Q (unlisted (listOf ops M)) (listOf ops M) a w) :
    ∀ (fuel : Nat) (listed : Array Bool) (a : Act) (w : World), SetI M F R T a0 w0 ops listed a w → unlisted listed = fuel → wpAny P .any ops Q fuel listed a w := by
  intro fuel
  induction fuel with
  | zero =>
    intro listed a w h hu
    have hall : ∀ j, j < ops.size → M j = true → listed.getD j true = true := fun j hj _ => by
      have := unlisted_none hu j (by have := h.len; omega)
      simp [Array.getD_eq_getD_getElem?, this]
    have e := listOf_is M F R T a0 w0 h hall
    have := hend a w h.act (fun j oj hj hm => h.done j oj hj (hall j (Array.getElem?_eq_some_iff.1 hj).1 hm)) (fun i hi j hj hij hmi hmj oi oj hoi hoj => h.ne i hi j hj hij oi oj hoi hoj (hall i (Array.getElem?_eq_some_iff.1 hoi).1 hmi) (hall j (Array.getElem?_eq_some_iff.1 hoj).1 hmj))
    rw [← e, hu] at this
    exact this
  | succ fuel ih =>
    intro listed a w h hu
    by_cases hall : ∀ j, j < ops.size → M j = true → listed.getD j true = true
    · have e := listOf_is M F R T a0 w0 h hall
      have := hend a w h.act (fun j oj hj hm => h.done j oj hj (hall j (Array.getElem?_eq_some_iff.1 hj).1 hm)) (fun i hi j hj hij hmi hmj oi oj hoi hoj => h.ne i hi j hj hij oi oj hoi hoj (hall i (Array.getElem?_eq_some_iff.1 hoi).1 hmi) (hall j (Array.getElem?_eq_some_iff.1 hoj).1 hmj))
      rw [← e, hu] at this
      exact this
    have hsome : ∃ i, i < ops.size ∧ (M i && !listed.getD i true) = true := by
      apply Decidable.byContradiction
      intro hn
      refine hall fun j hj hm => ?_
      cases hl : listed.getD j true with
      | true => rfl
      | false => exact absurd ⟨j, hj, by rw [hm, hl]; rfl⟩ hn
    refine ⟨fun hr => ?_, fun i hi => ?_⟩
    · exfalso
      obtain ⟨i, hil, h1, h2⟩ := least_of _ _ hsome
      rw [Bool.and_eq_true, Bool.not_eq_true'] at h1
      obtain ⟨oi, hoi⟩ : ∃ oi, ops[i]? = some oi := ⟨_, Array.getElem?_eq_getElem hil⟩
      have : i ∈ Region.ready .any ops listed := mem_ready.2 ⟨h1.2, oi, hoi, fun e he hbn => by
        have hlt := (setB_at hb hoi).2 e he hbn
        have hme := partB_in M hp hoi h1.1 e he hbn
        have h4 := h2 e.on hlt
        rw [hme, Bool.true_and, Bool.not_eq_false'] at h4
        exact (getD_in h.len (by omega) false true).trans h4⟩
      rw [hr] at this; cases this
    · obtain ⟨h1, oi, hoi, hc⟩ := mem_ready.1 hi
      have hil := (Array.getElem?_eq_some_iff.1 hoi).1
      have hmi : M i = true := by
        cases hmi : M i with
        | true => rfl
        | false =>
          exfalso
          obtain ⟨j, hjl, hj⟩ := hsome
          rw [Bool.and_eq_true, Bool.not_eq_true'] at hj
          have := h.ancL M F R T a0 w0 lev i oi hoi hc j (partB_out M hp hoi hmi j hjl hj.1) hjl
          rw [hj.2] at this; cases this
      have hlf : listed[i]? = some false := by
        have hl := h.len
        rw [Array.getElem?_eq_getElem (by omega)]
        have h1' := h1
        rw [Array.getD_eq_getD_getElem?, Array.getElem?_eq_getElem (by omega)] at h1'
        simpa using h1'
      have hs := hstep i oi hoi hmi a w h.act (h.anc M F R T a0 w0 lev i oi hoi hc)
      have next : ∀ v w', (oi.dst = none → v = undef) → R w w' → T i v w' → (i ∈ F → ∃ b, v = .pointer (some ⟨b, 0, none⟩) ∧ w.heap.size ≤ b) → wpAny P .any ops Q fuel (listed.setIfInBounds i true) (a.put oi.dst v) w' := by
        intro v w' hv hR hTi hFi
        obtain ⟨hd, _⟩ := setB_at hb hoi
        have hsz : (a.put oi.dst v).tmps.size = a.tmps.size := by
          cases hdd : oi.dst with
          | none => rfl
          | some d => show (a.tmps.setIfInBounds d v).size = _; simp
        refine ih _ _ _ ⟨⟨htr _ _ _ h.act.rel hR, hsz.trans h.act.size, ?_, fun s hs => ?_⟩, fun j oj hj hl => ?_, fun j oj hj hl e he hbn => ?_, by rw [Array.size_setIfInBounds]; exact h.len, fun j hj hm => ?_, fun p hpF q hqF hpq op oq hop hoq hlp hlq => ?_⟩ (by have := unlisted_set hlf; omega)
        · rw [← h.act.rest]
          cases hdd : oi.dst <;> rfl
        · rw [← h.act.slot s hs]
          exact slot_put_ne (e := some s) (d := oi.dst) (a := a) (v := v) fun t ht he => hs i oi hoi (by rw [ht, he])
        · by_cases hji : j = i
          · subst hji
            obtain rfl : oi = oj := Option.some.inj (hoi.symm.trans hj)
            rw [slot_put_same (fun s hs => by rw [h.act.size]; exact (hd s hs).1) hv]
            exact hTi
          · rw [slot_put_ne fun s hs he => hji ((hd s hs).2 j oj hj he)]
            have hl' : listed.getD j true = true := by
              rw [Array.getD_eq_getD_getElem?, Array.getElem?_setIfInBounds_ne (Ne.symm hji), ← Array.getD_eq_getD_getElem?] at hl
              exact hl
            exact hT _ _ _ _ (h.done j oj hj hl') hR
        · have keep : ∀ k, listed.getD k false = true → (listed.setIfInBounds i true).getD k false = true := by
            intro k hk
            by_cases hki : k = i
            · subst hki
              have : k < listed.size := by have := h.len; omega
              simp [Array.getD, this]
            · rw [Array.getD_eq_getD_getElem?, Array.getElem?_setIfInBounds_ne (Ne.symm hki), ← Array.getD_eq_getD_getElem?]
              exact hk
          by_cases hji : j = i
          · subst hji
            obtain rfl : oi = oj := Option.some.inj (hoi.symm.trans hj)
            exact keep _ (hc e he hbn)
          · have hl' : listed.getD j true = true := by
              rw [Array.getD_eq_getD_getElem?, Array.getElem?_setIfInBounds_ne (Ne.symm hji), ← Array.getD_eq_getD_getElem?] at hl
              exact hl
            exact keep _ (h.closed j oj hj hl' e he hbn)
        · have hne : j ≠ i := fun e => by subst e; rw [hmi] at hm; cases hm
          rw [Array.getD_eq_getD_getElem?, Array.getElem?_setIfInBounds_ne (Ne.symm hne), ← Array.getD_eq_getD_getElem?]
          exact h.out j hj hm
        · have other : ∀ k ok, ops[k]? = some ok → k ≠ i → (listed.setIfInBounds i true).getD k true = true → listed.getD k true = true ∧ slotOf (a.put oi.dst v) ok.dst = slotOf a ok.dst := by
            intro k ok hok hki hl
            rw [Array.getD_eq_getD_getElem?, Array.getElem?_setIfInBounds_ne (Ne.symm hki), ← Array.getD_eq_getD_getElem?] at hl
            exact ⟨hl, slot_put_ne fun s hs he => hki ((hd s hs).2 k ok hok he)⟩
          have fresh : i ∈ F → ∀ k ok, ops[k]? = some ok → k ∈ F → k ≠ i → (listed.setIfInBounds i true).getD k true = true → slotOf (a.put oi.dst v) oi.dst ≠ slotOf (a.put oi.dst v) ok.dst := by
            intro hiF k ok hok hkF hki hl e
            obtain ⟨k1, k2⟩ := other k ok hok hki hl
            rw [k2, slot_put_same (fun s hs => by rw [h.act.size]; exact (hd s hs).1) hv] at e
            obtain ⟨b, hb1, hb2⟩ := hFi hiF
            obtain ⟨c, hc1, hc2⟩ := hF k hkF _ _ (h.done k ok hok k1)
            rw [hb1, hc1] at e
            injection e with e; injection e with e; injection e with e
            omega
          by_cases hpi : p = i
          · subst hpi
            obtain rfl : oi = op := Option.some.inj (hoi.symm.trans hop)
            exact fresh hpF q oq hoq hqF (Ne.symm hpq) hlq
          · by_cases hqi : q = i
            · subst hqi
              obtain rfl : oi = oq := Option.some.inj (hoi.symm.trans hoq)
              exact (fresh hqF p op hop hpF hpi hlp).symm
            · obtain ⟨k1, k2⟩ := other p op hop hpi hlp
              obtain ⟨k3, k4⟩ := other q oq hoq hqi hlq
              rw [k2, k4]
              exact h.ne p hpF q hqF hpq op oq hop hoq k1 k3
      unfold wpOp
      rw [hoi]
      simp only
      by_cases hw : Region.wanted oi (yielded ops a.tmps) = true
      · rw [if_pos hw] at hs
        rw [if_pos hw]
        left
        refine Oper.wp_mono ?_ hs
        rintro a' w' ⟨v, rfl, hv, hR, hTi, hFi⟩
        exact next v w' hv hR hTi hFi
      · rw [if_neg hw] at hs
        rw [if_neg hw]
        exact next undef w (fun _ => rfl) (hrefl w) hs.1 (fun h => absurd h hs.2)
/-- A region that draws its order: those of M, operation by operation; then the rest. -/
theorem wp_region_settle {id : Nat} {w1 : World} (lev : Nat) (hm : P.follows .mixedOrders = true) (hw : w1.drew = w0) (hb : setB ops a0.tmps.size = true) (hp : partB ops M lev = true) (htr : ∀ u v w, R u v → R v w → R u w) (hrefl : ∀ u, R u u) (hT : ∀ i v w w', T i v w → R w w' → T i v w') (hF : ∀ i ∈ F, ∀ v w, T i v w → ∃ b, v = .pointer (some ⟨b, 0, none⟩) ∧ b < w.heap.size)
    (hstep : ∀ (i : Nat) oi, ops[i]? = some oi → M i = true → ∀ a w, SetA R a0 w0 ops a w → (∀ j ∈ ancOf ops lev i, ∀ oj, ops[j]? = some oj → T j (slotOf a oj.dst) w) →
      if Region.wanted oi (yielded ops a.tmps) = true then Oper.wp P oi a w (fun a' w' => ∃ v, a' = a.put oi.dst v ∧ (oi.dst = none → v = undef) ∧ R w w' ∧ T i v w' ∧ (i ∈ F → ∃ b, v = .pointer (some ⟨b, 0, none⟩) ∧ w.heap.size ≤ b)) Q else T i undef w ∧ i ∉ F)
    (hend : ∀ a w, SetA R a0 w0 ops a w → (∀ (j : Nat) oj, ops[j]? = some oj → M j = true → T j (slotOf a oj.dst) w) → (∀ i ∈ F, ∀ j ∈ F, i ≠ j → M i = true → M j = true → ∀ oi oj, ops[i]? = some oi → ops[j]? = some oj → slotOf a oi.dst ≠ slotOf a oj.dst) → wpAny P .any ops Q (unlisted (listOf ops M)) (listOf ops M) a w) : (Code.region id ops true).wp P Q a0 w1 := by
  subst hw
  have hlf : ∀ j, j < ops.size → (Array.replicate ops.size false).getD j true = false := fun j hj => by simp [Array.getD, hj]
  have hno : ∀ (j : Nat) oj, ops[j]? = some oj → (Array.replicate ops.size false).getD j true = true → False := fun j oj hj h => by
    rw [hlf j (Array.getElem?_eq_some_iff.1 hj).1] at h; cases h
  refine wp_region_any hm (settle_go M F R T a0 w1.drew hb hp htr hT hF hstep hrefl hend _ _ _ _ ⟨⟨hrefl _, rfl, rfl, fun _ _ => rfl⟩, fun j oj hj h => (hno j oj hj h).elim, fun j oj hj h => (hno j oj hj h).elim, by simp, fun j hj _ => hlf j hj, fun i _ _ _ _ oi _ hoi _ hl _ => (hno i oi hoi hl).elim⟩ ?_)
  unfold unlisted
  simp
/-- The state, slot by slot. -/
theorem SetA.is {a : Act} {w : World} (h : SetA R a0 w0 ops a w) : a = (List.range ops.size).foldl (fun b j => b.put ((ops[j]?).bind (·.dst)) (slotOf a ((ops[j]?).bind (·.dst)))) a0 := by
  have key : ∀ (l : List Nat) (b : Act), (l.foldl (fun b j => b.put ((ops[j]?).bind (·.dst)) (slotOf a ((ops[j]?).bind (·.dst)))) b).tmps.size = b.tmps.size ∧
      { (l.foldl (fun b j => b.put ((ops[j]?).bind (·.dst)) (slotOf a ((ops[j]?).bind (·.dst)))) b) with tmps := a0.tmps } = { b with tmps := a0.tmps } ∧
      ∀ s, s < b.tmps.size → (l.foldl (fun b j => b.put ((ops[j]?).bind (·.dst)) (slotOf a ((ops[j]?).bind (·.dst)))) b).tmps.getD s undef = if (l.any fun j => (ops[j]?).bind (·.dst) == some s) = true then a.tmps.getD s undef else b.tmps.getD s undef := by
    intro l
    induction l with
    | nil => intro b; exact ⟨rfl, rfl, fun s _ => rfl⟩
    | cons j l ih =>
      intro b
      rw [List.foldl_cons]
      obtain ⟨h1, h2, h3⟩ := ih (b.put ((ops[j]?).bind (·.dst)) (slotOf a ((ops[j]?).bind (·.dst))))
      generalize hd : (ops[j]?).bind (·.dst) = d at h1 h2 h3 ⊢
      have hsz : (b.put d (slotOf a d)).tmps.size = b.tmps.size := by
        cases d with
        | none => rfl
        | some d => show (b.tmps.setIfInBounds d _).size = _; simp
      refine ⟨h1.trans hsz, h2.trans (by cases d <;> rfl), fun s hs => ?_⟩
      rw [h3 s (by omega), List.any_cons, hd]
      by_cases hds : d = some s
      · subst hds
        have e : (b.put (some s) (slotOf a (some s))).tmps.getD s undef = a.tmps.getD s undef := by
          show (b.tmps.setIfInBounds s (a.tmps.getD s undef)).getD s undef = _
          simp [Array.getD, hs]
        rw [e]
        simp
      · have e : (b.put d (slotOf a d)).tmps.getD s undef = b.tmps.getD s undef := slot_put_ne (e := some s) (d := d) (a := b) (v := slotOf a d) fun t ht he => hds (by rw [ht, he])
        have e2 : (d == some s) = false := by simpa using hds
        rw [e, e2, Bool.false_or]
  obtain ⟨k1, k2, k3⟩ := key (List.range ops.size) a0
  generalize hf : (List.range ops.size).foldl (fun b j => b.put ((ops[j]?).bind (·.dst)) (slotOf a ((ops[j]?).bind (·.dst)))) a0 = f at k1 k2 k3
  have ht : a.tmps = f.tmps := by
    apply Array.ext
    · rw [h.size, k1]
    · intro s hs1 hs2
      have e1 := k3 s (by omega)
      have e2 : f.tmps.getD s undef = f.tmps[s] := by simp [Array.getD, hs2]
      have e3 : a.tmps.getD s undef = a.tmps[s] := by simp [Array.getD, hs1]
      have e4 : a.tmps.getD s undef = f.tmps.getD s undef := by
        rw [e1]
        by_cases hn : ((List.range ops.size).any fun j => (ops[j]?).bind (·.dst) == some s) = true
        · rw [if_pos hn]
        · rw [if_neg hn]
          refine h.slot s fun j oj hj hdj => hn ?_
          rw [List.any_eq_true]
          exact ⟨j, List.mem_range.2 (Array.getElem?_eq_some_iff.1 hj).1, by rw [hj]; simp [hdj]⟩
      exact e3.symm.trans (e4.trans e2)
  have e1 : a = { ({ a with tmps := a0.tmps } : Act) with tmps := a.tmps } := rfl
  have e2 : f = { ({ f with tmps := a0.tmps } : Act) with tmps := f.tmps } := rfl
  rw [e1, e2, h.rest, k2, ht]
/-- The slots written, one behind the other. -/
def putsAt : List (Option Tmp) → Nat → (Nat → Value) → Act → Act
  | [], _, _, a => a
  | d :: ds, i, x, a => putsAt ds (i + 1) x (a.put d (x i))
theorem puts_fold (ops : Array Oper) (x : Nat → Value) : ∀ (l : List Oper) (k : Nat) (a : Act), (∀ i, l[i]? = ops[k + i]?) →
    putsAt (l.map (·.dst)) k x a = (List.range' k l.length).foldl (fun b j => b.put ((ops[j]?).bind (·.dst)) (x j)) a
  | [], _, _, _ => rfl
  | o :: l, k, a, h => by
    have h0 := h 0
    simp only [List.getElem?_cons_zero, Nat.add_zero] at h0
    rw [List.map_cons, putsAt, puts_fold ops x l (k + 1) _ (fun i => by
      have := h (i + 1)
      rw [List.getElem?_cons_succ] at this
      rw [this]; congr 1; omega), List.length_cons, List.range'_succ, List.foldl_cons, ← h0]
    rfl
theorem SetA.puts {a : Act} {w : World} (h : SetA R a0 w0 ops a w) (ds : List (Option Tmp)) (hds : ops.toList.map (·.dst) = ds) : a = putsAt ds 0 (fun j => slotOf a ((ops[j]?).bind (·.dst))) a0 := by
  have h1 := h.is
  rw [← hds, puts_fold ops _ ops.toList 0 a0 (fun i => by simp)]
  rw [List.range_eq_range'] at h1
  simpa using h1
/-- The same, over letters for what the slots hold. -/
theorem wp_region_steps {id : Nat} {w1 : World} (ds : List (Option Tmp)) (lev : Nat) (hds : ops.toList.map (·.dst) = ds) (hm : P.follows .mixedOrders = true) (hw : w1.drew = w0) (hb : setB ops a0.tmps.size = true) (hp : partB ops M lev = true) (htr : ∀ u v w, R u v → R v w → R u w) (hrefl : ∀ u, R u u) (hT : ∀ i v w w', T i v w → R w w' → T i v w') (hF : ∀ i ∈ F, ∀ v w, T i v w → ∃ b, v = .pointer (some ⟨b, 0, none⟩) ∧ b < w.heap.size)
    (hstep : ∀ (i : Nat) oi, ops[i]? = some oi → M i = true → ∀ (x : Nat → Value) w, R w0 w → (∀ j ∈ ancOf ops lev i, j < ops.size → T j (x j) w) →
      if Region.wanted oi (yielded ops (putsAt ds 0 x a0).tmps) = true then ∀ K : Act → World → Prop, Shut (∀ v w', (oi.dst = none → v = undef) → R w w' → T i v w' → (i ∈ F → ∃ b, v = .pointer (some ⟨b, 0, none⟩) ∧ w.heap.size ≤ b) → K ((putsAt ds 0 x a0).put oi.dst v) w') → Oper.wp P oi (putsAt ds 0 x a0) w K Q else T i undef w ∧ i ∉ F)
    (hend : ∀ (x : Nat → Value) w, R w0 w → (∀ j, j < ops.size → M j = true → T j (x j) w) → (∀ i ∈ F, ∀ j ∈ F, i ≠ j → M i = true → M j = true → i < ops.size → j < ops.size → x i ≠ x j) → wpAny P .any ops Q (unlisted (listOf ops M)) (listOf ops M) (putsAt ds 0 x a0) w) : (Code.region id ops true).wp P Q a0 w1 := by
  refine wp_region_settle M F R T a0 w0 lev hm hw hb hp htr hrefl hT hF ?_ ?_
  · intro i oi hi hmi a w hs hd
    have ha := hs.puts R a0 w0 ds hds
    have h1 := hstep i oi hi hmi (fun j => slotOf a ((ops[j]?).bind (·.dst))) w hs.rel (fun j hj hlt => by
      have h2 := hd j hj _ (Array.getElem?_eq_getElem hlt)
      rw [Array.getElem?_eq_getElem hlt]
      exact h2)
    rw [← ha] at h1
    by_cases hw : Region.wanted oi (yielded ops a.tmps) = true
    · rw [if_pos hw] at h1 ⊢
      exact h1 _ (fun v w' h2 h3 h4 h5 => ⟨v, rfl, h2, h3, h4, h5⟩)
    · rw [if_neg hw] at h1 ⊢
      exact h1
  · intro a w hs hd hne
    have ha := hs.puts R a0 w0 ds hds
    have h1 := hend (fun j => slotOf a ((ops[j]?).bind (·.dst))) w hs.rel (fun j hlt hmj => by
      have h2 := hd j _ (Array.getElem?_eq_getElem hlt) hmj
      rw [Array.getElem?_eq_getElem hlt]
      exact h2) (fun i hi j hj hij hmi hmj hil hjl => by
      have h2 := hne i hi j hj hij hmi hmj _ _ (Array.getElem?_eq_getElem hil) (Array.getElem?_eq_getElem hjl)
      rw [Array.getElem?_eq_getElem hil, Array.getElem?_eq_getElem hjl]
      exact h2)
    rw [← ha] at h1
    exact h1
end
end Go.Proofs.YtolhmemiknpeaaaDoor
