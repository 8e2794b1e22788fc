/-
  sha.appendWord, stateText: words as bytes.
-/
import Derived.Test.YtlghholonjmeaaaDoorOwn
import Derived.Test.YtlghholonjmeaaaDoorShaC
namespace Go.Proofs.YtlghholonjmeaaaDoor
open Go.RowKit

/-- A word's bytes, the highest first. -/
def be4 (x : Int) : List Int := [x / 16777216, x / 65536 % 256, x / 256 % 256, x % 256]

set_option maxHeartbeats 400000 in
theorem appendWord_any (base : Nat) (v : Value) (xs : List Int) (x : Int) (_h0 : 0 ≤ x) (_h1 : x ≤ 4294967295) (w : World) (hown : Own8 w base v xs) (_hb : base ≤ w.heap.size) (_hl : xs.length ≤ 1000000000) :
    Calls Tryd.prog 27 #[v, .int .u32 x] w fun e w' => ∃ v', e = .returned v' ∧ Own8 w' base v' (xs ++ be4 x) ∧ Below base w w' := by
  have HO := Lib.hid hown; clear hown
  go_enter Tryd.func27, Tryd.ntmps27
  go_wp2_with (at_builtin; refine wpList_app Elem.u8 (encInt .u8) rfl (.tmp 5) (.tmp 17) rfl base v xs rfl (HO.out.alloc _) ⟨w.heap.size, 0, none⟩ 4 4 (be4 x) rfl rfl ?_ ?_ ?_ ?_ ?_; exact cells_new _ _ _ rfl; omega; (unfold maxLen; omega); (simp; omega); intro v1 w1 h1 h2; have H1 := Lib.hid h1; clear h1; have H2 := Lib.hid h2; clear h2)
  go_ret
  exact ⟨v1, rfl, H1.out, ((Below.refl _ _).alloc _hb _).trans H2.out⟩

def stText (s : List Int) : List Int := s.flatMap be4
theorem length_stText (s : List Int) : (stText s).length = 4 * s.length := by
  unfold stText
  induction s with
  | nil => rfl
  | cons a l ih => rw [List.flatMap_cons, List.length_append, ih, List.length_cons]; show 4 + _ = _; omega
set_option maxRecDepth 100000 in
set_option maxHeartbeats 400000 in
theorem stateText_any (s : List Int) (w : World) (hs : s.length = 8) (hsb : ∀ a ∈ s, W32 a) :
    Calls Tryd.prog 21 #[.agg (U s).toArray] w fun e w' => e = .returned (.string (strOfNums (stText s))) ∧ Below w.heap.size w w' := by
  obtain ⟨s0, s1, s2, s3, s4, s5, s6, s7, rfl⟩ := eight hs
  show Calls Tryd.prog 21 #[.agg #[.int .u32 s0, .int .u32 s1, .int .u32 s2, .int .u32 s3, .int .u32 s4, .int .u32 s5, .int .u32 s6, .int .u32 s7]] w _
  have hix : ∀ k, k < 8 → ∃ y, W32 y ∧ stText ([s0, s1, s2, s3, s4, s5, s6, s7].take (k + 1)) = stText ([s0, s1, s2, s3, s4, s5, s6, s7].take k) ++ be4 y ∧
      ∀ w, (Instr.index 39 (.agg #[.int .u32 s0, .int .u32 s1, .int .u32 s2, .int .u32 s3, .int .u32 s4, .int .u32 s5, .int .u32 s6, .int .u32 s7]) (.int .i64 (k : Int))).run Tryd.prog w = .ok (.int .u32 y) w := by
    intro k hk
    match k, hk with
    | 0, _ => exact ⟨s0, hsb _ (by simp), by simp [stText], fun _ => by kernel_rfl⟩
    | 1, _ => exact ⟨s1, hsb _ (by simp), by simp [stText], fun _ => by kernel_rfl⟩
    | 2, _ => exact ⟨s2, hsb _ (by simp), by simp [stText], fun _ => by kernel_rfl⟩
    | 3, _ => exact ⟨s3, hsb _ (by simp), by simp [stText], fun _ => by kernel_rfl⟩
    | 4, _ => exact ⟨s4, hsb _ (by simp), by simp [stText], fun _ => by kernel_rfl⟩
    | 5, _ => exact ⟨s5, hsb _ (by simp), by simp [stText], fun _ => by kernel_rfl⟩
    | 6, _ => exact ⟨s6, hsb _ (by simp), by simp [stText], fun _ => by kernel_rfl⟩
    | 7, _ => exact ⟨s7, hsb _ (by simp), by simp [stText], fun _ => by kernel_rfl⟩
  have HIX := Lib.hid hix; clear hix hsb hs
  have hmk : ∀ w, (Instr.makeSlice 22 (.int .i64 0) (.int .i64 32)).run Tryd.prog w = .ok (.slice (some ⟨w.heap.size, 0, none⟩) 0 32) (w.alloc (.cells (zrow 32) 5)) := fun _ => by kernel_rfl
  go_enter Tryd.func21, Tryd.ntmps21
  go_wp2
  go_loopw [3, 5, 8] (fun v _ i wr => ∃ k : Nat, k ≤ 8 ∧ i = .int .i64 k ∧ Own8 wr w.heap.size v (stText ([s0, s1, s2, s3, s4, s5, s6, s7].take k)) ∧ Below w.heap.size w wr)
    (fun _ _ i _ => 8 - (intOf i).toNat)
  case atStart => exact ⟨0, by omega, rfl, by refine Own.made (encInt .u8) 5 (w.alloc _) w.heap.size (w.heap.size + 1) 32 (zrow 32) ?_ ?_ ?_ rfl; (simp); (simp); (unfold maxLen; omega), ((Below.refl _ _).alloc (Nat.le_refl _) _).alloc (by simp) _⟩
  case round =>
    obtain ⟨k, hk, rfl, hown, hbl⟩ := hrel
    have hle : (stText ([s0, s1, s2, s3, s4, s5, s6, s7].take k)).length ≤ 1000000000 := by
      rw [length_stText, List.length_take]; omega
    have HO := Lib.hid hown; clear hown
    have HB := Lib.hid hbl; clear hbl
    have HL := Lib.hid hle; clear hle
    by_cases hlt : k < 8
    · obtain ⟨y, hy, hst, hrun⟩ := HIX.out k hlt
      have HST := Lib.hid hst; clear hst
      unfold W32 at hy
      go_wp2_with fail
      refine (appendWord_any w.heap.size _ _ y (by omega) (by omega) _ HO.out HB.out.size HL.out).mono ?_
      rintro e w1 ⟨v1, rfl, h1, h2⟩
      have H1 := Lib.hid h1; clear h1
      have H2 := Lib.hid h2; clear h2
      go_wp2
      go_roundw
      case rel => exact ⟨k + 1, by omega, by go_num, by rw [HST.out]; exact H1.out, HB.out.trans H2.out⟩
      case measure => simp [intOf]; omega
    · have hk8 : k = 8 := by omega
      have hcv := run_str8 HO.out
      have HK8 := Lib.hid hk8; clear hk8
      go_wp2
      go_ret
      exact ⟨by rw [HK8.out]; rfl, HB.out⟩
end Go.Proofs.YtlghholonjmeaaaDoor
