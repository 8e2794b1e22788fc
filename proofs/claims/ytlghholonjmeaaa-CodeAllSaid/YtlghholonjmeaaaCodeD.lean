/-
  GetText: the program's and the reference's.
-/
import Derived.Test.YtlghholonjmeaaaCodeC
namespace Go.Proofs.Ytlghholonjmeaaa
open Go.RowKit

/-- A number of things that have a byte each at least. -/
def sizeL (b : List Int) (k : Nat) : Option (Nat × Nat) := (getL b k).bind fun p => if b.length - p.2 < p.1 then none else some p
theorem getTextL_size (b : List Int) (k : Nat) : getTextL b k = (sizeL b k).map fun p => ((b.drop p.2).take p.1, p.2 + p.1) := by
  unfold getTextL sizeL
  cases getL b k with
  | none => rfl
  | some p =>
    simp only [Option.bind_some]
    split <;> rfl
theorem sizeL_some (b : List Int) (hb : Bytes b) (k v p : Nat) (h : sizeL b k = some (v, p)) : k < p ∧ p ≤ b.length ∧ v ≤ b.length - p := by
  unfold sizeL at h
  cases hg : getL b k with
  | none => rw [hg] at h; cases h
  | some r =>
    obtain ⟨n, q⟩ := r
    have := getL_some b hb k n q hg
    rw [hg] at h
    simp only [Option.bind_some] at h
    by_cases hn : b.length - q < n
    · rw [if_pos hn] at h; cases h
    · rw [if_neg hn] at h
      simp only [Option.some.injEq, Prod.mk.injEq] at h
      obtain ⟨rfl, rfl⟩ := h
      omega

set_option maxRecDepth 100000 in
set_option maxHeartbeats 400000 in
theorem size_any (r B : Nat) (A : Option Addr) (len cap k : Nat) (xs : List Int) (w : World) (hS : S8 w B A len cap xs) (_hB : B ≤ r) (hr : RdAt w r A len cap k) (_hk : k ≤ 9223372036854775807) :
    Calls Try.prog 29 #[.pointer (some ⟨r, 0, none⟩)] w (NumPost (sizeL xs k) r A len cap w) := by
  have hmax := hS.max
  have hle := hS.le
  unfold maxLen at hmax
  have hN := number_any r B A len cap k xs w hS _hB hr _hk
  have HN := Lib.hid hN; clear hN
  have HS := Lib.hid hS; clear hS
  clear hr
  go_enter Try.func29, Try.ntmps29
  go_wp2_with fail
  refine HN.out.mono ?_
  rintro e w1 ⟨v, ok, j, rfl, h1, h2, h3⟩
  have c0 := h1.c0
  have c1 := h1.c1
  have H1 := Lib.hid h1; clear h1
  have H2 := Lib.hid h2; clear h2
  rcases h3 with ⟨ho, rfl, rfl⟩ | ⟨p, ho, rfl, rfl⟩
  · have HO := Lib.hid ho; clear ho
    have ht : (!false) = true := rfl
    go_wp2_with fail
    go_quiet (fail)
    go_wp2_with fail
    go_ret2
    exact ⟨0, false, _, rfl, RdAt.drewN H1.out _, grownBy.drewN' H2.out _, .inl ⟨by unfold sizeL; rw [HO.out]; rfl, rfl, rfl⟩⟩
  · have hp := getL_some xs HS.out.bytes k v p ho
    rw [HS.out.hlen] at hp
    have hp1 := hp.2.2.1
    have hp2 := hp.2.2.2.2
    clear hp
    have HO := Lib.hid ho; clear ho
    by_cases hv : len - p < v
    · have hvi : (len : Int) - (p : Int) < (v : Int) := by omega
      go_wp2_with fail
      go_quiet (fail)
      go_wp2_with fail
      go_ret2
      exact ⟨0, false, _, rfl, RdAt.drewN H1.out _, grownBy.drewN' H2.out _, .inl ⟨by unfold sizeL; rw [HO.out]; simp only [Option.bind_some]; rw [if_pos (by rw [HS.out.hlen]; exact hv)], rfl, rfl⟩⟩
    · have hvi : ¬ (len : Int) - (p : Int) < (v : Int) := by omega
      go_wp2_with fail
      go_quiet (fail)
      go_wp2_with fail
      go_ret2
      exact ⟨v, true, _, rfl, RdAt.drewN H1.out _, grownBy.drewN' H2.out _, .inr ⟨p, by unfold sizeL; rw [HO.out]; simp only [Option.bind_some]; rw [if_neg (by rw [HS.out.hlen]; exact hv)], rfl, rfl⟩⟩

/-- What a reader of a text leaves. -/
def TxtPost (o : Option (List Int × Nat)) (r : Nat) (A : Option Addr) (len cap : Nat) (w : World) (e : Ending) (w' : World) : Prop :=
  ∃ (s : List Int) (ok : Bool) (k : Int), e = .returned (.tuple #[.string (strOfNums s), .bool ok]) ∧ RdAt w' r A len cap k ∧ w.grownBy w' (some r) ∧ (o = none ∧ s = [] ∧ ok = false ∨ ∃ p : Nat, o = some (s, p) ∧ ok = true ∧ k = (p : Int))

/-- A part of a slice of bytes, as text. -/
theorem S8.part {w : World} {B : Nat} {A : Option Addr} {len cap : Nat} {xs : List Int} (h : S8 w B A len cap xs) (pb po p v : Nat) (hA : A = Option.some ⟨pb, po, none⟩) (hp : p + v ≤ len) (c : Nat) :
    (convert 23 9 (.slice (Option.some ⟨pb, po + p, none⟩) v c)).run Try.prog w = .ok (.string (strOfNums ((xs.drop p).take v))) w := by
  refine run_convert_bytes_arg w _ 5 Try.underlying23 Try.underlying5 pb (po + p) v c ((xs.drop p).take v) (by rw [List.length_take, List.length_drop, h.hlen]; omega) (fun i hi => ?_) _ Try.underlying9
  rcases h.at_ with h1 | ⟨pb', po', h1, h2, h3⟩
  · omega
  · rw [hA] at h1
    cases h1
    rw [Nat.add_assoc, h3 (p + i) (by omega)]
    congr 2
    rw [List.getD_eq_getElem?_getD, List.getD_eq_getElem?_getD, List.getElem?_take_of_lt hi, List.getElem?_drop]
set_option maxRecDepth 100000 in
set_option maxHeartbeats 400000 in
theorem text_any (r B : Nat) (A : Option Addr) (len cap k : Nat) (xs : List Int) (w : World) (hS : S8 w B A len cap xs) (_hB : B ≤ r) (hr : RdAt w r A len cap k) (_hk : k ≤ 9223372036854775807) :
    Calls Try.prog 24 #[.pointer (some ⟨r, 0, none⟩)] w (TxtPost (getTextL xs k) r A len cap w) := by
  have hmax := hS.max
  have hle := hS.le
  unfold maxLen at hmax
  have hrl := hr.lt
  have hN := size_any r B A len cap k xs w hS _hB hr _hk
  have HN := Lib.hid hN; clear hN
  have HS := Lib.hid hS; clear hS
  clear hr
  go_enter Try.func24, Try.ntmps24
  go_wp2_with fail
  refine HN.out.mono ?_
  rintro e w1 ⟨v, ok, j, rfl, h1, h2, h3⟩
  have c0 := h1.c0
  have c1 := h1.c1
  have f1 := h1.frozen 1
  have H1 := Lib.hid h1; clear h1
  have H2 := Lib.hid h2; clear h2
  rcases h3 with ⟨ho, rfl, rfl⟩ | ⟨p, ho, rfl, rfl⟩
  · have HO := Lib.hid ho; clear ho
    go_wp2_with fail
    go_ret2
    exact ⟨[], false, _, rfl, H1.out, H2.out, .inl ⟨by rw [getTextL_size, HO.out]; rfl, rfl, rfl⟩⟩
  · have hp := sizeL_some xs HS.out.bytes k v p ho
    rw [HS.out.hlen] at hp
    obtain ⟨hp1, hp2, hp3⟩ := hp
    obtain ⟨pb, po, hA, hpb, hcell⟩ : ∃ pb po, A = some ⟨pb, po, none⟩ ∧ pb < B ∧ ∀ j, j < len → w.cell? ⟨pb, po + j, none⟩ = some (.int .u8 (xs.getD j 0)) := by
      rcases HS.out.at_ with h | h
      · omega
      · exact h
    subst hA
    have hS1 : S8 w1 B (some ⟨pb, po, none⟩) len cap xs := ⟨HS.out.hlen, HS.out.le, HS.out.max, HS.out.bytes, .inr ⟨pb, po, rfl, hpb, fun j hj => by
      rw [cell_other H2.out (by show pb < w.heap.size; omega) (by intro h; have : pb = r := Option.some.inj h; omega)]; exact hcell j hj⟩⟩
    clear hcell
    have HO := Lib.hid ho; clear ho
    have i1 : (p : Int) ≤ (p : Int) + (v : Int) := by omega
    have i2 : (p : Int) + (v : Int) ≤ (cap : Int) := by omega
    have i0 : (0 : Int) ≤ (p : Int) := by omega
    by_cases hpc : cap = p
    · have hv0 : v = 0 := by omega
      subst hv0
      have hcv : ∀ n c, (convert 23 9 (.slice (some ⟨pb, po, none⟩) 0 c)).run Try.prog (w1.drewN n) = .ok (.string (strOfNums ((xs.drop p).take 0))) (w1.drewN n) := fun n c => by
        have := (hS1.drewN n).part pb po 0 0 rfl (by omega) c
        rw [Nat.add_zero] at this; exact this
      have hcv0 := hcv 0
      have HS1 := Lib.hid hS1; clear hS1
      subst hpc
      clear i1 i2
      have i2 : (cap : Int) ≤ (cap : Int) := by omega
      go_wp2_with fail
      go_quiet (fail)
      go_wp2_with fail
      go_ret2
      refine ⟨(xs.drop cap).take 0, true, _, rfl, RdAt.set (RdAt.drewN H1.out _) _, grownBy.setCell' (grownBy.drewN' H2.out _) _ _, .inr ⟨cap, ?_, rfl, rfl⟩⟩
      rw [getTextL_size, HO.out]; rfl
    · have hcv : ∀ n, (convert 23 9 (.slice (some ⟨pb, po + p, none⟩) v (cap - p))).run Try.prog (w1.drewN n) = .ok (.string (strOfNums ((xs.drop p).take v))) (w1.drewN n) := fun n => (hS1.drewN n).part pb po p v rfl (by omega) _
      have hcv0 := hcv 0
      have HS1 := Lib.hid hS1; clear hS1
      go_wp2_with fail
      go_quiet (fail)
      go_wp2_with fail
      go_ret2
      refine ⟨(xs.drop p).take v, true, _, rfl, RdAt.set (RdAt.drewN H1.out _) _, grownBy.setCell' (grownBy.drewN' H2.out _) _ _, .inr ⟨p + v, ?_, rfl, by omega⟩⟩
      rw [getTextL_size, HO.out]; rfl
end Go.Proofs.Ytlghholonjmeaaa
