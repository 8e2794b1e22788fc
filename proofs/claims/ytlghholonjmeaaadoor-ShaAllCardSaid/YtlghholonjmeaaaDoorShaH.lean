/-
  Write and Sum of whatever slice of bytes.
-/
import Derived.Test.YtlghholonjmeaaaDoorShaG
import Derived.Test.YtlghholonjmeaaaDoorOwnS
namespace Go.Proofs.YtlghholonjmeaaaDoor
open Go.RowKit

theorem length_shaL (m : List Int) : (shaL m).length = 32 := by
  unfold shaL; rw [length_stText, length_comps _ _ (length_comps _ _ rfl _)]
theorem Own.other {α : Type} {size : Nat} {E : Enc α size} {e : TypeId} {w w' : World} {base r : Nat} {v : Value} {xs : List α} (h : Own E e w base v xs) (hg : w.grownBy w' (Option.some r)) (hr : r < base) : Own E e w' base v xs := by
  refine ⟨h.1, ?_⟩
  rcases h.2 with h | ⟨g, cap, cur, h1, h2, h3, h4⟩
  · exact .inl h
  · refine .inr ⟨g, cap, cur, h1, h2, ?_, h4⟩
    rw [hg.block g (Array.getElem?_eq_some_iff.1 h3).1 (by intro h; have : g = r := Option.some.inj h; omega)]; exact h3
theorem Holds.below {w w' : World} {B b : Nat} {m : List Int} (h : Holds w b m) (hb : Below B w w') (hlt : b < B) : Holds w' b m := by
  obtain ⟨st, rest, h1, h2⟩ := h.ex
  exact ⟨st, rest, h1.below hb hlt, h2⟩
theorem Holds.drewN {w : World} {b : Nat} {m : List Int} (h : Holds w b m) (n : Nat) : Holds (w.drewN n) b m := by
  obtain ⟨st, rest, h1, h2⟩ := h.ex
  exact ⟨st, rest, h1.drewN n, h2⟩
theorem Holds.lt {w : World} {b : Nat} {m : List Int} (h : Holds w b m) : b < w.heap.size := by
  obtain ⟨st, rest, h1, _⟩ := h.ex
  exact h1.lt
theorem S8.fn {w : World} {B : Nat} {A : Option Addr} {len cap : Nat} {xs : List Int} (h : S8 w B A len cap xs) : ∀ j, 0 ≤ Go.Proofs.YtlghholonjmeaaaDoor.fn xs j ∧ Go.Proofs.YtlghholonjmeaaaDoor.fn xs j ≤ 255 := fn_bd _ h.bytes
/-- h.Write(p). -/
theorem write_s8 (b B : Nat) (A : Option Addr) (len cap : Nat) (m ys : List Int) (w : World) (hh : Holds w b m) (ht : Tables w) (hS : S8 w B A len cap ys) (hB : B ≤ b) (hb0 : 0 ≠ b) (hb1 : 1 ≠ b)
    (hmm : m.length + len ≤ 1000000000000) (hmb : Bytes m) :
    Calls Tryd.prog 12 #[.pointer (some ⟨b, 0, none⟩), .slice A len cap] w fun e w' => e = .returned (.tuple #[]) ∧ Holds w' b (m ++ ys) ∧ w.grownBy w' (some b) := by
  rcases hS.at_ with h0 | ⟨pb, po, rfl, hpb, hc⟩
  · have : ys = [] := List.eq_nil_of_length_eq_zero (by rw [hS.hlen, h0])
    subst this; subst h0
    refine (write_empty b A cap w).mono ?_
    rintro e w' ⟨h1, rfl⟩
    exact ⟨h1, by rw [List.append_nil]; exact hh, grownBy.refl' _ _⟩
  · by_cases h0 : 0 < len
    · have hmax := hS.max
      have hbl := hh.lt
      unfold maxLen at hmax
      exact write_any b pb po len cap m ys w hh ht (by omega) (by omega) hb0 hb1 hS.hlen h0 hS.le (by omega) hmm hc hS.fn (fn_bd _ hmb)
    · have hl : len = 0 := by omega
      have : ys = [] := List.eq_nil_of_length_eq_zero (by rw [hS.hlen, hl])
      subst this; subst hl
      refine (write_empty b _ cap w).mono ?_
      rintro e w' ⟨h1, rfl⟩
      exact ⟨h1, by rw [List.append_nil]; exact hh, grownBy.refl' _ _⟩
/-- Sum(p). -/
theorem sum_s8 (A : Option Addr) (len cap : Nat) (ys : List Int) (w : World) (ht : Tables w) (hS : S8 w w.heap.size A len cap ys) (hl : len ≤ 1000000000000) :
    Calls Tryd.prog 8 #[.slice A len cap] w fun e w' => e = .returned (.string (strOfNums (shaL ys))) ∧ Below w.heap.size w w' := by
  rcases hS.at_ with h0 | ⟨pb, po, rfl, hpb, hc⟩
  · have : ys = [] := List.eq_nil_of_length_eq_zero (by rw [hS.hlen, h0])
    subst this; subst h0
    exact sum_empty A cap w ht
  · by_cases h0 : 0 < len
    · have hmax := hS.max
      unfold maxLen at hmax
      exact sum_any pb po len cap ys w ht hpb hS.hlen h0 hS.le (by omega) hl hc hS.bytes
    · have hl0 : len = 0 := by omega
      have : ys = [] := List.eq_nil_of_length_eq_zero (by rw [hS.hlen, hl0])
      subst this; subst hl0
      exact sum_empty _ cap w ht
theorem sum_own (base : Nat) (v : Value) (ys : List Int) (w : World) (ht : Tables w) (ho : Own8 w base v ys) (hb : Bytes ys) (hl : ys.length ≤ 1000000000000) :
    Calls Tryd.prog 8 #[v] w fun e w' => e = .returned (.string (strOfNums (shaL ys))) ∧ Below w.heap.size w w' := by
  obtain ⟨A, cap, rfl, hS, _⟩ := ho.s8 hb
  exact sum_s8 A _ cap ys w ht hS hl
end Go.Proofs.YtlghholonjmeaaaDoor
