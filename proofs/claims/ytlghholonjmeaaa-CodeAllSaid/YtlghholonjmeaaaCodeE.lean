/-
  GetText: behind the reader; the reference's.
-/
import Derived.Test.YtlghholonjmeaaaCodeD
namespace Go.Proofs.Ytlghholonjmeaaa
open Go.RowKit

set_option maxRecDepth 100000 in
set_option maxHeartbeats 400000 in
theorem size_none (r : Nat) (A : Option Addr) (len cap : Nat) (w : World) (hN : Calls Try.prog 22 #[.pointer (some ⟨r, 0, none⟩)] w (NumPost none r A len cap w)) :
    Calls Try.prog 29 #[.pointer (some ⟨r, 0, none⟩)] w (NumPost none r A len cap w) := by
  have HN := Lib.hid hN; clear hN
  go_enter Try.func29, Try.ntmps29
  go_wp2_with fail
  refine HN.out.mono ?_
  rintro e w1 ⟨v, ok, j, rfl, h1, h2, h3⟩
  have c0 := h1.c0
  have c1 := h1.c1
  have H1 := Lib.hid h1; clear h1
  have H2 := Lib.hid h2; clear h2
  rcases h3 with ⟨-, rfl, rfl⟩ | ⟨p, ho, -, -⟩
  · have ht : (!false) = true := rfl
    go_wp2_with fail
    go_quiet (fail)
    go_wp2_with fail
    go_ret2
    exact ⟨0, false, _, rfl, RdAt.drewN H1.out _, grownBy.drewN' H2.out _, .inl ⟨rfl, rfl, rfl⟩⟩
  · cases ho
set_option maxRecDepth 100000 in
set_option maxHeartbeats 400000 in
theorem text_none (r : Nat) (A : Option Addr) (len cap : Nat) (w : World) (hN : Calls Try.prog 22 #[.pointer (some ⟨r, 0, none⟩)] w (NumPost none r A len cap w)) :
    Calls Try.prog 24 #[.pointer (some ⟨r, 0, none⟩)] w (TxtPost none r A len cap w) := by
  have HN := Lib.hid (size_none r A len cap w hN); clear hN
  go_enter Try.func24, Try.ntmps24
  go_wp2_with fail
  refine HN.out.mono ?_
  rintro e w1 ⟨v, ok, j, rfl, h1, h2, h3⟩
  have H1 := Lib.hid h1; clear h1
  have H2 := Lib.hid h2; clear h2
  rcases h3 with ⟨-, rfl, rfl⟩ | ⟨p, ho, -, -⟩
  · go_wp2_with fail
    go_ret2
    exact ⟨[], false, _, rfl, H1.out, H2.out, .inl ⟨rfl, rfl, rfl⟩⟩
  · cases ho

/-- What a GetText answers. -/
def GetTxt (o : Option (List Int × Nat)) (w : World) (e : Ending) (w' : World) : Prop :=
  ∃ (s : List Int) (p : Nat) (ok : Bool), e = .returned (.tuple #[.string (strOfNums s), .int .i64 (p : Int), .bool ok]) ∧ Below w.heap.size w w' ∧ (o = none ∧ s = [] ∧ p = 0 ∧ ok = false ∨ o = some (s, p) ∧ ok = true)

set_option maxRecDepth 100000 in
set_option maxHeartbeats 400000 in
theorem readText_any (o : Option (List Int × Nat)) (r : Nat) (A : Option Addr) (len cap : Nat) (w0 w : World) (_hw : Below w0.heap.size w0 w) (_hr0 : w0.heap.size ≤ r) (hN : Calls Try.prog 24 #[.pointer (some ⟨r, 0, none⟩)] w (TxtPost o r A len cap w)) :
    Calls Try.prog 23 #[.pointer (some ⟨r, 0, none⟩), .func (.func 24) #[.pointer (some ⟨r, 0, none⟩)] #[]] w (GetTxt o w0) := by
  have HN := Lib.hid hN; clear hN
  go_enter Try.func23, Try.ntmps23
  go_wp2_with fail
  refine HN.out.mono ?_
  rintro e w1 ⟨v, ok, k, rfl, h1, h2, h3⟩
  have hb := below_of_grownBy _hw h2 _hw.size _hr0
  have HB := Lib.hid hb; clear hb h2
  have c1 := h1.c1
  have H1 := Lib.hid h1; clear h1
  rcases h3 with ⟨ho, rfl, rfl⟩ | ⟨p, ho, rfl, rfl⟩
  · have HO := Lib.hid ho; clear ho
    go_wp2_with fail
    go_ret3
    exact ⟨[], 0, false, rfl, HB.out, .inl ⟨HO.out, rfl, rfl, rfl⟩⟩
  · have HO := Lib.hid ho; clear ho
    go_wp2_with fail
    go_quiet (fail)
    go_wp2_with fail
    go_ret3
    exact ⟨v, p, true, rfl, below_drewN HB.out _, .inr ⟨HO.out, rfl⟩⟩

set_option maxRecDepth 100000 in
set_option maxHeartbeats 400000 in
theorem getText_any (A : Option Addr) (len cap k : Nat) (xs : List Int) (w : World) (hS : S8 w w.heap.size A len cap xs) (_hk : k ≤ 9223372036854775807) :
    Calls Try.prog 10 #[.slice A len cap, .int .i64 (k : Int)] w (GetTxt (getTextL xs k) w) := by
  have HS := Lib.hid hS; clear hS
  have hmf : ∀ (fn : Fn) (first cap : Array Value) (w : World), (Instr.makeFunc fn first cap).run Try.prog w = .ok (.func fn first cap) w := fun _ _ _ _ => rfl
  go_enter Try.func10, Try.ntmps10
  go_wp2_with fail
  have hb : Below w.heap.size w (w.alloc (.cells #[.slice A len cap, .int .i64 (k : Int)] 43)) := (Below.refl _ _).alloc (Nat.le_refl _) _
  refine (readText_any (getTextL xs k) w.heap.size A len cap w _ hb (Nat.le_refl _) (text_any w.heap.size w.heap.size A len cap k xs _ (HS.out.below hb (Nat.le_refl _)) (Nat.le_refl _) (heap_alloc_last _ _) _hk)).mono ?_
  rintro e w1 ⟨v, p, ok, rfl, h1, h2⟩
  have H1 := Lib.hid h1; clear h1
  have H2 := Lib.hid h2; clear h2
  go_wp2_with fail
  go_ret3
  exact ⟨v, p, ok, rfl, H1.out, H2.out⟩
set_option maxRecDepth 100000 in
set_option maxHeartbeats 400000 in
theorem getText_neg (A : Option Addr) (len cap : Nat) (k : Int) (w : World) (_hk : k < 0) :
    Calls Try.prog 10 #[.slice A len cap, .int .i64 k] w (GetTxt none w) := by
  have hmf : ∀ (fn : Fn) (first cap : Array Value) (w : World), (Instr.makeFunc fn first cap).run Try.prog w = .ok (.func fn first cap) w := fun _ _ _ _ => rfl
  go_enter Try.func10, Try.ntmps10
  go_wp2_with fail
  have hb : Below w.heap.size w (w.alloc (.cells #[.slice A len cap, .int .i64 k] 43)) := (Below.refl _ _).alloc (Nat.le_refl _) _
  refine (readText_any none w.heap.size A len cap w _ hb (Nat.le_refl _) (text_none w.heap.size A len cap _ (number_neg w.heap.size A len cap k _ (heap_alloc_last _ _) _hk))).mono ?_
  rintro e w1 ⟨v, p, ok, rfl, h1, h2⟩
  have H1 := Lib.hid h1; clear h1
  have H2 := Lib.hid h2; clear h2
  go_wp2_with fail
  go_ret3
  exact ⟨v, p, ok, rfl, H1.out, by have := H2.out; simpa using this⟩

/-- A part of a slice of bytes, as text, whatever its bounds. -/
theorem S8.part' {w : World} {B : Nat} {A : Option Addr} {len cap : Nat} {xs : List Int} (h : S8 w B A len cap xs) (p v : Nat) (hp : p + v ≤ len) (c : Nat) (A' : Option Addr) (hA' : cap = p ∧ A' = A ∨ ¬ cap = p ∧ A' = A.map (·.add p)) :
    (convert 23 9 (.slice A' v c)).run Try.prog w = .ok (.string (strOfNums ((xs.drop p).take v))) w := by
  have hle := h.le
  rcases h.at_ with h1 | ⟨pb, po, h1, h2, h3⟩
  · have hv : v = 0 := by omega
    subst hv
    exact run_text0 A' c w
  · rcases hA' with ⟨h4, h5⟩ | ⟨h4, h5⟩
    · have hv : v = 0 := by omega
      subst hv
      have := h.part pb po 0 0 h1 (by omega) c
      rw [Nat.add_zero] at this
      rw [h5, h1]; exact this
    · rw [h5, h1]
      have := h.part pb po p v h1 hp c
      rw [← Addr.add_mid pb po p] at this
      exact this

set_option maxRecDepth 100000 in
set_option maxHeartbeats 400000 in
theorem refGetText_any (A : Option Addr) (len cap k : Nat) (xs : List Int) (w : World) (hS : S8 w w.heap.size A len cap xs) (_hk : k ≤ 9223372036854775807) :
    Calls Try.prog 11 #[.slice A len cap, .int .i64 (k : Int)] w (GetTxt (getTextL xs k) w) := by
  have hmax := hS.max
  have hle := hS.le
  unfold maxLen at hmax
  have HG := Lib.hid (refGet_any A len cap k xs w hS _hk)
  have HS := Lib.hid hS; clear hS
  go_enter Try.func11, Try.ntmps11
  go_wp2_with fail
  refine HG.out.mono ?_
  rintro e w1 ⟨v, p, ok, rfl, h1, h2⟩
  have H1 := Lib.hid h1; clear h1
  rcases h2 with ⟨ho, rfl, rfl, rfl⟩ | ⟨ho, rfl⟩
  · have HO := Lib.hid ho; clear ho
    go_wp2_with fail
    go_ret3
    exact ⟨[], 0, false, rfl, H1.out, .inl ⟨by unfold getTextL; rw [HO.out]; rfl, rfl, rfl, rfl⟩⟩
  · have hp := getL_some xs HS.out.bytes k v p ho
    rw [HS.out.hlen] at hp
    have hp1 := hp.2.2.1
    have hp2 := hp.2.2.2.2
    clear hp
    have HO := Lib.hid ho; clear ho
    by_cases hv : len - p < v
    · have hvi : (len : Int) - (p : Int) < (v : Int) := by omega
      go_wp2_with fail
      go_ret3
      exact ⟨[], 0, false, rfl, H1.out, .inl ⟨by unfold getTextL; rw [HO.out]; simp only [Option.bind_some]; rw [if_pos (by rw [HS.out.hlen]; exact hv)], rfl, rfl, rfl⟩⟩
    · have hvi : ¬ (len : Int) - (p : Int) < (v : Int) := by omega
      have i1 : (p : Int) ≤ (p : Int) + (v : Int) := by omega
      have i2 : (p : Int) + (v : Int) ≤ (cap : Int) := by omega
      have hS1 : S8 w1 w.heap.size A len cap xs := HS.out.below H1.out (Nat.le_refl _)
      have hcv : (convert 23 9 (.slice (if cap = p then A else A.map (·.add p)) v (cap - p))).run Try.prog w1 = .ok (.string (strOfNums ((xs.drop p).take v))) w1 :=
        hS1.part' p v (by omega) _ _ (by by_cases h : cap = p; exact .inl ⟨h, if_pos h⟩; exact .inr ⟨h, if_neg h⟩)
      clear hS1
      go_wp2_with fail
      all_goals go_ret3
      all_goals exact ⟨(xs.drop p).take v, p + v, true, rfl, H1.out, .inr ⟨by unfold getTextL; rw [HO.out]; simp only [Option.bind_some]; rw [if_neg (by rw [HS.out.hlen]; exact hv)], rfl⟩⟩
set_option maxRecDepth 100000 in
set_option maxHeartbeats 400000 in
theorem refGetText_neg (A : Option Addr) (len cap : Nat) (k : Int) (w : World) (_hk : k < 0) :
    Calls Try.prog 11 #[.slice A len cap, .int .i64 k] w (GetTxt none w) := by
  have HG := Lib.hid (refGet_neg A len cap k w _hk)
  go_enter Try.func11, Try.ntmps11
  go_wp2_with fail
  refine HG.out.mono ?_
  rintro e w1 ⟨v, p, ok, rfl, h1, h2⟩
  have H1 := Lib.hid h1; clear h1
  rcases h2 with ⟨-, rfl, rfl, rfl⟩ | ⟨ho, rfl⟩
  · go_wp2_with fail
    go_ret3
    exact ⟨[], 0, false, rfl, H1.out, .inl ⟨rfl, rfl, rfl, rfl⟩⟩
  · cases ho
end Go.Proofs.Ytlghholonjmeaaa
