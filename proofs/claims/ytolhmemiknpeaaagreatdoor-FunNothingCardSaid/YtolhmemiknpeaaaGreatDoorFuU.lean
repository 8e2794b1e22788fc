/-
  Layer 8: arguments, functions of them, with no program in it.
-/
import Derived.Test.YtolhmemiknpeaaaGreatDoorVaU
namespace Go.Proofs.YtolhmemiknpeaaaGreatDoor

/-- An argument: a range or not, its columns, its values, and the slice that holds them. -/
structure Ag where
  r : Bool
  c : Int
  vs : List Vl
  v : Value
/-- All values, in order. -/
def valsA (ags : List Ag) : List Vl := ags.flatMap (·.vs)
/-- The first error among values. -/
def faultL : List Vl → Option Vl
  | [] => none
  | v :: t => if v.k = 4 then some v else faultL t
def faultA : List Ag → Option Vl
  | [] => none
  | a :: t => match faultL a.vs with | some v => some v | none => faultA t
/-- What passes of one argument's values behind what passed before; none: one that stands alone does not pass. -/
def pas1 (ks : List Int) (r : Bool) (acc : List Vl) : List Vl → Option (List Vl)
  | [] => some acc
  | v :: t => if ks.contains v.k = true then pas1 ks r (acc ++ [v]) t else if ¬ v.k = 0 ∧ r = false then none else pas1 ks r acc t
def pas2 (ks : List Int) (acc : List Vl) : List Ag → Option (List Vl)
  | [] => some acc
  | a :: t => match pas1 ks a.r acc a.vs with | none => none | some l => pas2 ks l t
theorem pas1_len (ks : List Int) (r : Bool) : ∀ (l acc out : List Vl), pas1 ks r acc l = some out → out.length ≤ acc.length + l.length
  | [], acc, out, h => by cases h; simp
  | v :: t, acc, out, h => by
    unfold pas1 at h
    split at h
    · have := pas1_len ks r t _ _ h; simp at this ⊢; omega
    · split at h
      · cases h
      · have := pas1_len ks r t _ _ h; simp at this ⊢; omega
def cntA (ags : List Ag) : Nat := (valsA ags).length
theorem cntA_cons (a : Ag) (t : List Ag) : cntA (a :: t) = a.vs.length + cntA t := by simp [cntA, valsA]
theorem pas2_len (ks : List Int) : ∀ (ags : List Ag) (acc out : List Vl), pas2 ks acc ags = some out → out.length ≤ acc.length + cntA ags
  | [], acc, out, h => by cases h; simp [cntA, valsA]
  | a :: t, acc, out, h => by
    unfold pas2 at h
    split at h
    · cases h
    · rename_i l hl
      have h1 := pas1_len ks a.r _ _ _ hl
      have h2 := pas2_len ks t _ _ h
      rw [cntA_cons]; omega
/-- All that pass were there. -/
theorem pas1_mem (ks : List Int) (r : Bool) : ∀ (l acc out : List Vl), pas1 ks r acc l = some out → ∀ v ∈ out, v ∈ acc ∨ v ∈ l
  | [], acc, out, h => by cases h; intro v hv; exact .inl hv
  | u :: t, acc, out, h => by
    unfold pas1 at h
    intro v hv
    split at h
    · rcases pas1_mem ks r t _ _ h v hv with h1 | h1
      · rcases List.mem_append.1 h1 with h2 | h2
        · exact .inl h2
        · simp at h2; subst h2; exact .inr (List.mem_cons_self ..)
      · exact .inr (List.mem_cons_of_mem _ h1)
    · split at h
      · cases h
      · rcases pas1_mem ks r t _ _ h v hv with h1 | h1
        · exact .inl h1
        · exact .inr (List.mem_cons_of_mem _ h1)
theorem pas2_mem (ks : List Int) : ∀ (ags : List Ag) (acc out : List Vl), pas2 ks acc ags = some out → ∀ v ∈ out, v ∈ acc ∨ ∃ a ∈ ags, v ∈ a.vs
  | [], acc, out, h => by cases h; intro v hv; exact .inl hv
  | a :: t, acc, out, h => by
    unfold pas2 at h
    intro v hv
    split at h
    · cases h
    · rename_i l hl
      rcases pas2_mem ks t _ _ h v hv with h1 | ⟨b, hb, h1⟩
      · rcases pas1_mem ks a.r _ _ _ hl v h1 with h2 | h2
        · exact .inl h2
        · exact .inr ⟨a, List.mem_cons_self .., h2⟩
      · exact .inr ⟨b, List.mem_cons_of_mem _ hb, h1⟩
/-- In a range all is passed over that is of other kinds. -/
theorem pas1_range (ks : List Int) : ∀ (l acc : List Vl), pas1 ks true acc l = some (acc ++ l.filter (fun v => ks.contains v.k))
  | [], acc => by simp [pas1]
  | v :: t, acc => by
    unfold pas1
    by_cases h : ks.contains v.k = true
    · rw [if_pos h, pas1_range ks t, List.append_assoc]; simp only [List.filter_cons, h, if_true]; rfl
    · rw [if_neg h, if_neg (fun h2 => Bool.noConfusion h2.2), pas1_range ks t]; simp only [List.filter_cons, h, Bool.false_eq_true, if_false]
/-- Where all are of the kinds, all pass. -/
theorem pas1_all (ks : List Int) (r : Bool) : ∀ (l acc : List Vl), (∀ v ∈ l, ks.contains v.k = true) → pas1 ks r acc l = some (acc ++ l)
  | [], acc, _ => by simp [pas1]
  | v :: t, acc, h => by
    unfold pas1
    rw [if_pos (h v (List.mem_cons_self ..)), pas1_all ks r t _ (fun u hu => h u (List.mem_cons_of_mem _ hu)), List.append_assoc]; rfl
theorem pas2_all (ks : List Int) : ∀ (ags : List Ag) (acc : List Vl), (∀ a ∈ ags, ∀ v ∈ a.vs, ks.contains v.k = true) → pas2 ks acc ags = some (acc ++ valsA ags)
  | [], acc, _ => by simp [pas2, valsA]
  | a :: t, acc, h => by
    unfold pas2
    rw [pas1_all ks a.r _ _ (h a (List.mem_cons_self ..))]
    show pas2 ks (acc ++ a.vs) t = _
    rw [pas2_all ks t _ (fun b hb => h b (List.mem_cons_of_mem _ hb))]
    simp [valsA]
theorem faultL_none : ∀ (l : List Vl), (∀ v ∈ l, ¬ v.k = 4) → faultL l = none
  | [], _ => rfl
  | v :: t, h => by unfold faultL; rw [if_neg (h v (List.mem_cons_self ..))]; exact faultL_none t (fun u hu => h u (List.mem_cons_of_mem _ hu))
theorem faultA_none : ∀ (ags : List Ag), (∀ a ∈ ags, ∀ v ∈ a.vs, ¬ v.k = 4) → faultA ags = none
  | [], _ => rfl
  | a :: t, h => by
    unfold faultA; rw [faultL_none _ (h a (List.mem_cons_self ..))]
    exact faultA_none t (fun b hb => h b (List.mem_cons_of_mem _ hb))
theorem faultL_mem : ∀ (l : List Vl) (v : Vl), faultL l = some v → v ∈ l
  | [], v, h => by cases h
  | u :: t, v, h => by
    unfold faultL at h
    split at h
    · cases h; exact List.mem_cons_self ..
    · exact List.mem_cons_of_mem _ (faultL_mem t v h)
/-- As many ags a function takes, of its form. -/
def suitA (least most takes : Int) (ags : List Ag) : Bool := decide (least ≤ ags.length ∧ (ags.length : Int) ≤ most) && ags.all (fun a => decide (takes = 1) || decide (a.r = decide (takes = 2)))
/-- The value of one that is no range. -/
def sglA (ags : List Ag) (i : Nat) : Vl := ((ags.getD i ⟨false, 0, [], .nilFunc⟩).vs).headD Vl.none
def sumF (s : Vl) : List Int → Vl
  | [] => s
  | n :: t => sumF (twoV 16 s (.num n)) t
def numsA (ags : List Ag) : Option (List Int) := (pas2 [1] [] ags).map (·.map (·.n))
def sumA (ags : List Ag) : Vl := match numsA ags with | none => .err 1 | some l => sumF (.num 0) l
def minA (ags : List Ag) : Vl := match numsA ags with | none => .err 1 | some [] => .num 0 | some (n :: l) => .num (l.foldl min n)
def maxA (ags : List Ag) : Vl := match numsA ags with | none => .err 1 | some [] => .num 0 | some (n :: l) => .num (l.foldl max n)
def cntF (n : Int) : List Vl → Int
  | [] => n
  | v :: t => cntF (if v.k = 1 then n + 1 else n) t
def trusA (ags : List Ag) : Option (List Bool) := match pas2 [1, 3] [] ags with | none => none | some [] => none | some (v :: l) => some ((v :: l).map truthV)
def allA (ags : List Ag) : Vl := match trusA ags with | none => .err 1 | some l => .truth (!l.contains false)
def anyA (ags : List Ag) : Vl := match trusA ags with | none => .err 1 | some l => .truth (l.contains true)
def joinF (s : ByteArray) : List Vl → Option ByteArray
  | [] => some s
  | v :: t => if 200 < s.size + (textV v).size then none else joinF (s ++ textV v) t
def joinA (ags : List Ag) : Vl := match joinF ⟨#[]⟩ (valsA ags) with | none => .err 1 | some s => .text s
/-- What is left, with the divisor's sign. -/
def modI (a b : Int) : Int := let r := a.tmod b; if r ≠ 0 ∧ (decide (r < 0) != decide (b < 0)) = true then r + b else r
def restA (ags : List Ag) : Vl :=
  if isInt (sglA ags 0) = true ∧ isInt (sglA ags 1) = true then (if intV (sglA ags 1) = 0 then .err 3 else .num (modI (intV (sglA ags 0)) (intV (sglA ags 1)))) else .err 1
def ifA (ags : List Ag) : Vl :=
  if (sglA ags 0).k = 4 then sglA ags 0 else if isTruth (sglA ags 0) = true then (if truthV (sglA ags 0) = true then sglA ags 1 else if ags.length = 3 then sglA ags 2 else .truth false) else .err 1
def takeB (s : ByteArray) (n : Int) : ByteArray := ⟨(s.data.toList.take n.toNat).toArray⟩
def dropB (s : ByteArray) (n : Int) : ByteArray := ⟨(s.data.toList.drop n.toNat).toArray⟩
end Go.Proofs.YtolhmemiknpeaaaGreatDoor
