/-
  Layer 8, the law: AND, OR: what they are of.
-/
import Derived.Test.YtolhmemiknpeaaaGreatDoorFuL
import Derived.Test.YtolhmemiknpeaaaGreatDoorFuV
namespace Go.Proofs.YtolhmemiknpeaaaGreatDoor
open Go.RowKit

theorem call_AND (w : World) (v : Value) (ags : List Ag) (h : SA w w.heap.size v ags) (hz : AZ ags) : Calls Tryz.prog 6 #[.string ⟨#[65, 78, 68]⟩, v] w fun e w' => e = .returned (.agg #[.int .i64 (callV 1 9223372036854775807 1 false ags (allA ags)).k, .int .i64 (callV 1 9223372036854775807 1 false ags (allA ags)).n, .string (callV 1 9223372036854775807 1 false ags (allA ags)).s]) ∧ Below w.heap.size w w' :=
  call_any w v ags ⟨#[65, 78, 68]⟩ 1 9223372036854775807 1 false 18 (allA ags) (by decide) h hz (fun c => tab_row (i := 4) rfl) (Go.Proofs.enters_of Tryz.func18 (by kernel_rfl) rfl)
    (fun _ _ W hW => fall_any W v ags ((h.below hW (Nat.le_refl _)).mono hW.size) hz)
theorem call_OR (w : World) (v : Value) (ags : List Ag) (h : SA w w.heap.size v ags) (hz : AZ ags) : Calls Tryz.prog 6 #[.string ⟨#[79, 82]⟩, v] w fun e w' => e = .returned (.agg #[.int .i64 (callV 1 9223372036854775807 1 false ags (anyA ags)).k, .int .i64 (callV 1 9223372036854775807 1 false ags (anyA ags)).n, .string (callV 1 9223372036854775807 1 false ags (anyA ags)).s]) ∧ Below w.heap.size w w' :=
  call_any w v ags ⟨#[79, 82]⟩ 1 9223372036854775807 1 false 19 (anyA ags) (by decide) h hz (fun c => tab_row (i := 5) rfl) (Go.Proofs.enters_of Tryz.func19 (by kernel_rfl) rfl)
    (fun _ _ W hW => fany_any W v ags ((h.below hW (Nat.le_refl _)).mono hW.size) hz)
/-- The values that the law makes of these truths, the first one's number k. -/
def logF (m : Int) : Nat → List Bool → List Vl
  | _, [] => []
  | k, x :: t => (Vl.truth x :: if m % 4 = (k : Int) % 4 then [Vl.none, (Vl.text ⟨#[120]⟩)] else []) ++ logF m (k + 1) t
theorem logF_snoc (m : Int) (x : Bool) : ∀ (l : List Bool) (k : Nat), logF m k (l ++ [x]) = logF m k l ++ (Vl.truth x :: if m % 4 = ((k + l.length : Nat) : Int) % 4 then [Vl.none, (Vl.text ⟨#[120]⟩)] else [])
  | [], k => by simp [logF]
  | y :: t, k => by
    show (Vl.truth y :: _) ++ logF m (k + 1) (t ++ [x]) = ((Vl.truth y :: _) ++ logF m (k + 1) t) ++ _
    rw [logF_snoc m x t (k + 1), List.append_assoc, show k + 1 + t.length = k + (y :: t).length by simp; omega]
theorem logF_len (m : Int) : ∀ (l : List Bool) (k : Nat), (logF m k l).length ≤ 3 * l.length
  | [], _ => by simp [logF]
  | y :: t, k => by
    have := logF_len m t (k + 1)
    show ((Vl.truth y :: (if m % 4 = (k : Int) % 4 then [Vl.none, (Vl.text ⟨#[120]⟩)] else [])) ++ logF m (k + 1) t).length ≤ _
    split <;> simp <;> omega
theorem logF_kind (m : Int) : ∀ (l : List Bool) (k : Nat) (v : Vl), v ∈ logF m k l → (∃ x, v = Vl.truth x) ∨ v = Vl.none ∨ v = (Vl.text ⟨#[120]⟩)
  | [], _, v, h => by simp [logF] at h
  | y :: t, k, v, h => by
    have h1 : v ∈ (Vl.truth y :: (if m % 4 = (k : Int) % 4 then [Vl.none, (Vl.text ⟨#[120]⟩)] else [])) ++ logF m (k + 1) t := h
    rcases List.mem_append.1 h1 with h2 | h2
    · rcases List.mem_cons.1 h2 with rfl | h3
      · exact .inl ⟨_, rfl⟩
      · split at h3
        · simp only [List.mem_cons, List.not_mem_nil, or_false] at h3
          exact .inr h3
        · simp at h3
    · exact logF_kind m t (k + 1) v h2
theorem logF_truth (m : Int) : ∀ (l : List Bool) (k : Nat), (logF m k l).filter (fun v => [1, 3].contains v.k) = l.map Vl.truth
  | [], _ => rfl
  | y :: t, k => by
    show ((Vl.truth y :: (if m % 4 = (k : Int) % 4 then [Vl.none, (Vl.text ⟨#[120]⟩)] else [])) ++ logF m (k + 1) t).filter _ = Vl.truth y :: t.map Vl.truth
    rw [List.filter_append, logF_truth m t (k + 1)]
    split <;> rfl
theorem truthV_truth (x : Bool) : truthV (Vl.truth x) = x := by cases x <;> rfl
theorem map_truth (l : List Bool) : (l.map Vl.truth).map truthV = l := by
  rw [List.map_map]
  conv => rhs; rw [← List.map_id l]
  exact List.map_congr_left (fun x _ => truthV_truth x)
theorem contains_all (l : List Bool) : (!l.contains false) = l.all id := by
  induction l with
  | nil => rfl
  | cons x t ih => rw [List.contains_cons, List.all_cons, ← ih]; cases x <;> rfl
theorem contains_any (l : List Bool) : l.contains true = l.any id := by
  induction l with
  | nil => rfl
  | cons x t ih => rw [List.contains_cons, List.any_cons, ← ih]; cases x <;> rfl
def agRange (vs : List Vl) (v : Value) : Ag := ⟨true, 1, vs, v⟩
theorem log_pas (m : Int) (l : List Bool) (v : Value) : pas2 [1, 3] [] [agRange (logF m 0 l) v] = some (l.map Vl.truth) := by
  show (match pas1 [1, 3] true [] (logF m 0 l) with | none => none | some l => some l) = _
  rw [pas1_range]
  show some ([] ++ _) = _
  rw [logF_truth]; rfl
theorem log_faults (m : Int) (l : List Bool) (v : Value) : faultA [agRange (logF m 0 l) v] = none := faultA_none _ (fun a ha x hx => by
  simp only [List.mem_cons, List.not_mem_nil, or_false] at ha
  subst ha
  rcases logF_kind m l 0 x hx with ⟨y, rfl⟩ | rfl | rfl
  · show ¬ (3 : Int) = 4; decide
  · show ¬ (0 : Int) = 4; decide
  · show ¬ (2 : Int) = 4; decide)
theorem log_and (m : Int) (l : List Bool) (v : Value) : callV 1 9223372036854775807 1 false [agRange (logF m 0 l) v] (allA [agRange (logF m 0 l) v]) = if l = [] then Vl.err 1 else Vl.truth (l.all id) := by
  rw [callV_ok (suit_many _ (by show (1 : Nat) ≤ 1; decide) (by show (1 : Nat) ≤ _; decide)) (log_faults m l v), allA_is _ _ (log_pas m l v)]
  cases l with
  | nil => rfl
  | cons x t =>
    rw [if_pos (show okT (some ((x :: t).map Vl.truth)) = true from rfl), if_neg (show ¬ x :: t = [] by simp)]
    show Vl.truth (!(((x :: t).map Vl.truth).map truthV).contains false) = _
    rw [map_truth, contains_all]
theorem log_or (m : Int) (l : List Bool) (v : Value) : callV 1 9223372036854775807 1 false [agRange (logF m 0 l) v] (anyA [agRange (logF m 0 l) v]) = if l = [] then Vl.err 1 else Vl.truth (l.any id) := by
  rw [callV_ok (suit_many _ (by show (1 : Nat) ≤ 1; decide) (by show (1 : Nat) ≤ _; decide)) (log_faults m l v), anyA_is _ _ (log_pas m l v)]
  cases l with
  | nil => rfl
  | cons x t =>
    rw [if_pos (show okT (some ((x :: t).map Vl.truth)) = true from rfl), if_neg (show ¬ x :: t = [] by simp)]
    show Vl.truth ((((x :: t).map Vl.truth).map truthV).contains true) = _
    rw [map_truth, contains_any]
theorem sa_range (w : World) (vs : List Vl) (v : Value) (z : Nat) (t : TypeId) (hz : w.heap.size = z) (hx : SV w w.heap.size v vs) :
    SA (w.alloc (.cells #[.bool true, .int .i64 1, v] t)) (w.alloc (.cells #[.bool true, .int .i64 1, v] t)).heap.size (.slice (some ⟨z, 0, none⟩) 1 1) [agRange vs v] :=
  sa_new w _ t [agRange vs v] 1 z hz rfl rfl (fun a ha => by
    simp only [List.mem_cons, List.not_mem_nil, or_false] at ha
    subst ha; exact hx)
theorem az_range (vs : List Vl) (v : Value) (hl : vs.length ≤ 1000000) (h : ∀ x ∈ vs, VOk x) : AZ [agRange vs v] := by
  refine ⟨by show (1 : Nat) ≤ _; decide, ?_, fun a ha => ?_⟩
  · show ([agRange vs v].flatMap (·.vs)).length ≤ _
    rw [List.flatMap_singleton]; exact hl
  · simp only [List.mem_cons, List.not_mem_nil, or_false] at ha
    subst ha; exact ⟨hl, h⟩
theorem logF_ok (m : Int) (l : List Bool) (k : Nat) : ∀ x ∈ logF m k l, VOk x := fun x hx => by
  rcases logF_kind m l k x hx with ⟨y, rfl⟩ | rfl | rfl
  · exact ok_truth y
  · exact ok_none
  · exact ok_text _ (by decide)
end Go.Proofs.YtolhmemiknpeaaaGreatDoor
