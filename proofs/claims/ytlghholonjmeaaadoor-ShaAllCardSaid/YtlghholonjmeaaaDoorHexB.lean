/-
  Hex, Unhex: the project's and the reference's.
-/
import Derived.Test.YtlghholonjmeaaaDoorStr
import Derived.Test.YtlghholonjmeaaaDoorHexA
namespace Go.Proofs.YtlghholonjmeaaaDoor
open Go.RowKit

/-- A digit's letter. -/
def hd (n : Int) : Int := if n < 10 then n + 48 else n + 87
def hexL (l : List Int) : List Int := l.flatMap fun c => [hd (c / 16), hd (c % 16)]
theorem hexL_append (a b : List Int) : hexL (a ++ b) = hexL a ++ hexL b := by unfold hexL; exact List.flatMap_append ..
theorem length_hexL (l : List Int) : (hexL l).length = 2 * l.length := by
  unfold hexL
  induction l with
  | nil => rfl
  | cons a l ih => rw [List.flatMap_cons, List.length_append, ih]; simp only [List.length_cons, List.length_nil]; omega
def hexText : ByteArray := ⟨#[48, 49, 50, 51, 52, 53, 54, 55, 56, 57, 97, 98, 99, 100, 101, 102]⟩
theorem hexIndex (n : Int) (h0 : 0 ≤ n) (h1 : n ≤ 15) (w : World) : (Instr.index 9 (.string ⟨#[48, 49, 50, 51, 52, 53, 54, 55, 56, 57, 97, 98, 99, 100, 101, 102]⟩) (.int .u8 n)).run Tryd.prog w = .ok (.int .u8 (hd n)) w := by
  obtain ⟨k, hk⟩ := Int.eq_ofNat_of_zero_le h0
  have hk15 : k ≤ 15 := by omega
  rw [hk]
  clear h0 h1 hk
  match k, hk15 with
  | 0, _ => show _ = _; kernel_rfl
  | 1, _ => show _ = _; kernel_rfl
  | 2, _ => show _ = _; kernel_rfl
  | 3, _ => show _ = _; kernel_rfl
  | 4, _ => show _ = _; kernel_rfl
  | 5, _ => show _ = _; kernel_rfl
  | 6, _ => show _ = _; kernel_rfl
  | 7, _ => show _ = _; kernel_rfl
  | 8, _ => show _ = _; kernel_rfl
  | 9, _ => show _ = _; kernel_rfl
  | 10, _ => show _ = _; kernel_rfl
  | 11, _ => show _ = _; kernel_rfl
  | 12, _ => show _ = _; kernel_rfl
  | 13, _ => show _ = _; kernel_rfl
  | 14, _ => show _ = _; kernel_rfl
  | 15, _ => show _ = _; kernel_rfl
theorem and15 (c : Nat) (h : c < 256) : bits .and .u8 (c : Int) 15 = (c : Int) % 16 := by
  have := u8_and_nat c 15 h (by decide)
  rw [nat_mask4] at this
  have e : ((15 : Nat) : Int) = 15 := rfl
  rw [e] at this
  rw [this]; omega

set_option maxRecDepth 100000 in
set_option maxHeartbeats 400000 in
theorem hex_any (s : ByteArray) (w : World) (_hs : s.size ≤ 1000000) :
    Calls Tryd.prog 14 #[.string s] w fun e w' => e = .returned (.string (strOfNums (hexL (sb s)))) ∧ Below w.heap.size w w' := by
  obtain ⟨i0, hi, hz0, hz1, hz2⟩ := info_parts (show (Tryd.prog.info? 5).map (fun i => (i.zero, i.size, i.bytes)) = some (some (.int .u8 0), 1, 1) from by kernel_rfl)
  have hsl := length_sb s
  have HSL := Lib.hid hsl; clear hsl
  go_enter Tryd.func14, Tryd.ntmps14
  go_wp2_with (at_make; refine wpList_make_own _ rfl (.const (.int .i64 0)) (.tmp 7) 22 rfl w.heap.size 5 i0 (.int .u8 0) 1 Tryd.underlying22 hi hz0 hz1 .i64 .i64 _ (2 * s.size) rfl rfl (by omega) (by rw [hz2]; omega) (by unfold maxLen; omega) (Nat.le_refl _) ?_; intro w1 h1 h2; have H1 := Lib.hid h1; clear h1; have H2 := Lib.hid h2; clear h2)
  go_loopw [3, 4] (fun v i wr => ∃ k : Nat, k ≤ s.size ∧ i = .int .i64 k ∧ Own8 wr w.heap.size v (hexL ((sb s).take k)) ∧ Below w.heap.size w wr)
    (fun _ i _ => s.size - (intOf i).toNat)
  case atStart => exact ⟨0, by omega, rfl, H1.out, Below.grown (Below.refl _ _) H2.out (Nat.le_refl _) (fun k hk => by cases hk)⟩
  case round =>
    obtain ⟨k, hk, rfl, hown, hbl⟩ := hrel
    have HO := Lib.hid hown; clear hown
    have HB := Lib.hid hbl; clear hbl
    have hlen : (hexL ((sb s).take k)).length = 2 * k := by rw [length_hexL, List.length_take, HSL.out]; omega
    have HLEN := Lib.hid hlen; clear hlen
    by_cases hlt : k < s.size
    · have hst := sb_take s k hlt
      have hb256 : s[k].toNat < 256 := s[k].toNat_lt
      have HST := Lib.hid hst; clear hst
      have ha := and15 s[k].toNat hb256
      have hki : (k : Int) < (s.size : Int) := by omega
      have hi1 := hexIndex ((s[k].toNat : Int) / 16) (by omega) (by omega)
      have hi2 := hexIndex ((s[k].toNat : Int) % 16) (by omega) (by omega)
      go_wp2_with fail
      go_region_law (refine step_app (w := _) Elem.u8 (encInt .u8) rfl (.tmp 15) (.tmp 26) rfl w.heap.size _ (hexL ((sb s).take k)) ?_ (HO.out.drew.alloc _) ⟨wr.heap.size, 0, none⟩ 2 2 [hd ((s[k].toNat : Int) / 16), hd ((s[k].toNat : Int) % 16)] ?_ rfl ?_ ?_ ?_ ?_ ?_; go_simp; go_simp; exact cells_new (w := wr.drew) _ _ _ rfl; (rw [HLEN.out]; omega); (rw [HLEN.out]; unfold maxLen; omega); (have := HB.out.size; simp; omega); intro v3 w3 h1 h2; have H3 := Lib.hid h1; clear h1; have H4 := Lib.hid h2; clear h2)
      all_goals go_wp2
      all_goals go_roundw
      all_goals first
        | exact ⟨k + 1, by omega, by go_num, by rw [HST.out, hexL_append]; exact H3.out, (HB.out.drew.alloc HB.out.size _).trans H4.out⟩
        | (simp [intOf]; omega)
    · have hki : ¬ (k : Int) < (s.size : Int) := by omega
      have hks : k = s.size := by omega
      have hcv := run_str8 HO.out
      have HKS := Lib.hid hks; clear hks
      go_wp2
      go_ret
      exact ⟨by rw [List.take_of_length_le (by rw [HSL.out]; omega)]; rfl, HB.out⟩

set_option maxRecDepth 100000 in
set_option maxHeartbeats 400000 in
theorem refHex_any (s : ByteArray) (w : World) (_hs : s.size ≤ 1000000) :
    Calls Tryd.prog 17 #[.string s] w fun e w' => e = .returned (.string (strOfNums (hexL (sb s)))) ∧ Below w.heap.size w w' := by
  have hsl := length_sb s
  have HSL := Lib.hid hsl; clear hsl
  go_enter Tryd.func17, Tryd.ntmps17
  go_wp2
  go_loopw [3, 5] (fun v i wr => ∃ k : Nat, k ≤ s.size ∧ i = .int .i64 k ∧ Own8 wr w.heap.size v (hexL ((sb s).take k)) ∧ Below w.heap.size w wr)
    (fun _ i _ => s.size - (intOf i).toNat)
  case atStart => exact ⟨0, by omega, rfl, Own.nil _ _ _ _, Below.refl _ _⟩
  case round =>
    obtain ⟨k, hk, rfl, hown, hbl⟩ := hrel
    have HO := Lib.hid hown; clear hown
    have HB := Lib.hid hbl; clear hbl
    have hlen : (hexL ((sb s).take k)).length = 2 * k := by rw [length_hexL, List.length_take, HSL.out]; omega
    have HLEN := Lib.hid hlen; clear hlen
    by_cases hlt : k < s.size
    · have hst := sb_take s k hlt
      have hb256 : s[k].toNat < 256 := s[k].toNat_lt
      have HST := Lib.hid hst; clear hst
      have ha := and15 s[k].toNat hb256
      have hki : (k : Int) < (s.size : Int) := by omega
      have hi1 := hexIndex ((s[k].toNat : Int) / 16) (by omega) (by omega)
      have hi2 := hexIndex ((s[k].toNat : Int) % 16) (by omega) (by omega)
      go_wp2_with fail
      go_region_law (refine step_app (w := _) Elem.u8 (encInt .u8) rfl (.tmp 12) (.tmp 25) rfl w.heap.size _ (hexL ((sb s).take k)) ?_ (HO.out.drew.alloc _) ⟨wr.heap.size, 0, none⟩ 2 2 [hd ((s[k].toNat : Int) / 16), hd ((s[k].toNat : Int) % 16)] ?_ rfl ?_ ?_ ?_ ?_ ?_; go_simp; go_simp; exact cells_new (w := wr.drew) _ _ _ rfl; (rw [HLEN.out]; omega); (rw [HLEN.out]; unfold maxLen; omega); (have := HB.out.size; simp; omega); intro v3 w3 h1 h2; have H3 := Lib.hid h1; clear h1; have H4 := Lib.hid h2; clear h2)
      all_goals go_wp2
      all_goals go_roundw
      all_goals first
        | exact ⟨k + 1, by omega, by go_num, by rw [HST.out, hexL_append]; exact H3.out, (HB.out.drew.alloc HB.out.size _).trans H4.out⟩
        | (simp [intOf]; omega)
    · have hki : ¬ (k : Int) < (s.size : Int) := by omega
      have hks : k = s.size := by omega
      have hcv := run_str8 HO.out
      have HKS := Lib.hid hks; clear hks
      go_wp2
      go_ret
      exact ⟨by rw [List.take_of_length_le (by rw [HSL.out]; omega)]; rfl, HB.out⟩
end Go.Proofs.YtlghholonjmeaaaDoor
