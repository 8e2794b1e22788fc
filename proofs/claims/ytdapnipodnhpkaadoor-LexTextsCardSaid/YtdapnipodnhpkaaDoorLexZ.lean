/-
  'chequerlaw4.LexTexts', walked.
-/
import Derived.Test.YtdapnipodnhpkaaDoorLexRG
import Derived.Test.YtdapnipodnhpkaaDoorLexX
namespace Go.Proofs.YtdapnipodnhpkaaDoor
open Go.RowKit

/-- Where there are no tokens: both answer the same error. -/
theorem lex_same (s : ByteArray) (w : World) (hv : Vars w) (c : Int) (h : (300 < s.size ∧ c = 4) ∨ (s.size ≤ 300 ∧ lexL (sb s) = none ∧ c = 5)) :
    (Calls Tryd.prog 8 #[.string s] w fun e w' => Below w.heap.size w w' ∧ e = .returned (.tuple #[.slice none 0 0, .int .i64 c])) ∧
    (∀ w, Calls Tryd.prog 9 #[.string s] w fun e w' => Below w.heap.size w w' ∧ e = .returned (.agg #[.slice none 0 0, .int .i64 c])) := by
  constructor
  · rcases h with ⟨h, rfl⟩ | ⟨h, h1, rfl⟩
    · exact lex_over s w hv h
    · exact lex_isnt s w hv h h1
  · intro w
    refine (refLex_any s w).mono ?_
    rintro e w' ⟨hb, ⟨k, rfl⟩ | ⟨k1, k2, rfl⟩ | ⟨k1, ts, v, k2, _⟩⟩
    · rcases h with ⟨h, rfl⟩ | ⟨h, h1, rfl⟩
      · exact ⟨hb, rfl⟩
      · omega
    · rcases h with ⟨h, rfl⟩ | ⟨h, h1, rfl⟩
      · omega
      · exact ⟨hb, rfl⟩
    · rcases h with ⟨h, rfl⟩ | ⟨h, h1, rfl⟩
      · omega
      · rw [h1] at k2; cases k2
theorem refLex_is (s : ByteArray) (w : World) (hs : s.size ≤ 300) (ts : List Tk) (hl : lexL (sb s) = some ts) (hne : 0 < ts.length) :
    Calls Tryd.prog 9 #[.string s] w fun e w' => Below w.heap.size w w' ∧ ∃ g cap, e = .returned (.agg #[.slice (some ⟨g, 0, none⟩) ts.length cap, .int .i64 0]) ∧ w.heap.size ≤ g ∧ g < w'.heap.size ∧ OwnT w' w.heap.size (.slice (some ⟨g, 0, none⟩) ts.length cap) ts := by
  refine (refLex_any s w).mono ?_
  rintro e w' ⟨hb, ⟨h, _⟩ | ⟨_, h, _⟩ | ⟨_, ts', v, h1, rfl, h2⟩⟩
  · omega
  · rw [hl] at h; cases h
  · rw [hl] at h1; injection h1 with h1; subst h1
    obtain ⟨g, cap, rfl, h3, h4, _, _⟩ := Own.some h2 hne
    exact ⟨hb, g, cap, rfl, h3, h4, h2⟩

set_option maxRecDepth 100000 in
set_option maxHeartbeats 2000000 in
theorem texts_err (s : ByteArray) (w : World) (hv : Vars w) (h1 : s.size ≤ 1000) (c : Int) (h : (300 < s.size ∧ c = 4) ∨ (s.size ≤ 300 ∧ lexL (sb s) = none ∧ c = 5)) :
    Calls Tryd.prog 3 #[.string s] w fun e w' => e = .returned (.bool true) ∧ Below w.heap.size w w' := by
  obtain ⟨ha, hb⟩ := lex_same s w hv c h
  have HA := Lib.hid ha; have HR := Lib.hid hb; have HV := Lib.hid hv
  have hi : ¬ (1000 : Int) < (s.size : Int) := by omega
  clear ha hb hv h
  go_enter Tryd.func3, Tryd.ntmps3
  go_upto_region 5 with (first
    | (go_at_call 8; ((with_reducible refine HA.out.mono ?_); rintro e w1 ⟨hb, rfl⟩; have HB := Lib.hid hb; clear hb))
    | (go_at_call 9; ((with_reducible refine (HR.out _).mono ?_); rintro e w2 ⟨hb, rfl⟩; have HB := Lib.hid (HB.out.trans (hb.mono HB.out.size)); clear hb)))
  have hB3 : Below w2.heap.size w2 (w2.alloc (.cells #[.slice none 0 0, .int .i64 c] 28)) := (Below.refl _ _).alloc (Nat.le_refl _) _
  have hK3 := LkAt.new w2 (.slice none 0 0) c
  have HB3 := Lib.hid (HB.out.trans (hB3.mono HB.out.size))
  clear hB3 HB
  generalize w2.alloc (.cells #[.slice none 0 0, .int .i64 c] 28) = w3 at hK3 HB3 ⊢
  obtain ⟨c0, c1⟩ := hK3.facts
  have HK3 := Lib.hid hK3; clear hK3
  go_quiet ((go_at_call 10; exact quiet_call (num_is _ _)))
  go_wp2_with fail
  go_loopw [6] (fun i wr => i = .int .i64 0 ∧ w3.drewN nq = wr)
    (fun _ _ => 0)
  case atStart => exact ⟨rfl, rfl⟩
  case round =>
    obtain ⟨rfl, rfl⟩ := hrel
    have HBn := Lib.hid (drew_below HB3.out nq)
    go_wp2_with (first
      | (go_at_call 7; ((with_reducible refine (lexAwake_any _ (HV.out.below HBn.out)).mono ?_); rintro e w4 ⟨rfl, h1⟩; have HB := Lib.hid (HBn.out.trans (h1.mono HBn.out.size)); clear h1)))
    go_ret
    exact ⟨rfl, HB.out⟩

set_option maxRecDepth 100000 in
set_option maxHeartbeats 4000000 in
theorem texts_some (s : ByteArray) (w : World) (hv : Vars w) (h1 : s.size ≤ 300) (ts : List Tk) (hl : lexL (sb s) = some ts) :
    Calls Tryd.prog 3 #[.string s] w fun e w' => e = .returned (.bool true) ∧ Below w.heap.size w w' := by
  have hnl := List.length_pos_iff.2 (lexL_ne s ts hl)
  have hlen := lexL_len s ts hl
  have HA := Lib.hid (lex_is s w hv h1 ts hl hnl)
  have HR := Lib.hid (fun w => refLex_is s w h1 ts hl hnl)
  have HV := Lib.hid hv
  have hi : ¬ (1000 : Int) < (s.size : Int) := by omega
  obtain ⟨nt, hnt⟩ : ∃ nt, ts.length = nt := ⟨_, rfl⟩
  rw [hnt] at HA HR
  have HNT := Lib.hid hnt
  clear hv hl hnl
  go_enter Tryd.func3, Tryd.ntmps3
  go_upto_region 5 with (first
    | (go_at_call 8; ((with_reducible refine HA.out.mono ?_); rintro e w1 ⟨hb, g1, cap1, rfl, hg0, hg1, ho⟩; have HO1 := Lib.hid ho; have HB := Lib.hid hb; clear hb ho))
    | (go_at_call 9; ((with_reducible refine (HR.out _).mono ?_); rintro e w2 ⟨hb, g2, cap2, rfl, hg2, hg3, ho⟩; have HO2 := Lib.hid ho; have HO1 := Lib.hid (Own.below HO1.out hb (Nat.le_refl _)); have HB := Lib.hid (HB.out.trans (hb.mono HB.out.size)); clear hb ho)))
  have hB3 : Below w2.heap.size w2 (w2.alloc (.cells #[.slice (some ⟨g2, 0, none⟩) nt cap2, .int .i64 0] 28)) := (Below.refl _ _).alloc (Nat.le_refl _) _
  have hK3 := LkAt.new w2 (.slice (some ⟨g2, 0, none⟩) nt cap2) 0
  have HB3 := Lib.hid (HB.out.trans (hB3.mono HB.out.size))
  have HP1 := Lib.hid (Own.below HO1.out hB3 (Nat.le_refl _))
  have HP2 := Lib.hid (Own.below HO2.out hB3 (Nat.le_refl _))
  clear hB3 HB HO1 HO2
  generalize w2.alloc (.cells #[.slice (some ⟨g2, 0, none⟩) nt cap2, .int .i64 0] 28) = w3 at hK3 HB3 HP1 HP2 ⊢
  obtain ⟨c0, c1⟩ := hK3.facts
  have HK3 := Lib.hid hK3; clear hK3
  go_quiet ((go_at_call 10; exact quiet_call (num_is _ _)))
  go_wp2_with fail
  go_loopw [6] (fun i wr => ∃ (a n : Nat), a ≤ nt ∧ i = .int .i64 (a : Int) ∧ w3.drewN n = wr)
    (fun i _ => nt - (intOf i).toNat)
  case atStart => exact ⟨0, nq, by omega, rfl, rfl⟩
  case round =>
    obtain ⟨a, n, ha, rfl, rfl⟩ := hrel
    by_cases hlt : a < nt
    · have hai : (a : Int) < (nt : Int) := by omega
      obtain ⟨t, ht⟩ : ∃ t, ts[a]? = some t := ⟨_, List.getElem?_eq_getElem (by have := HNT.out; omega)⟩
      have k0 := OwnT.cell HP1.out a t ht 0 (by omega)
      have k1 := OwnT.cell HP1.out a t ht 1 (by omega)
      have k2 := OwnT.cell HP1.out a t ht 2 (by omega)
      have k3 := OwnT.cell HP1.out a t ht 3 (by omega)
      have k4 := OwnT.cell HP1.out a t ht 4 (by omega)
      have k5 := OwnT.cell HP1.out a t ht 5 (by omega)
      have k6 := OwnT.cell HP1.out a t ht 6 (by omega)
      have k7 := OwnT.cell HP1.out a t ht 7 (by omega)
      have k8 := OwnT.cell HP1.out a t ht 8 (by omega)
      have v0 := OwnT.cell HP2.out a t ht 0 (by omega)
      have v1 := OwnT.cell HP2.out a t ht 1 (by omega)
      have v2 := OwnT.cell HP2.out a t ht 2 (by omega)
      have v3 := OwnT.cell HP2.out a t ht 3 (by omega)
      have v4 := OwnT.cell HP2.out a t ht 4 (by omega)
      have v5 := OwnT.cell HP2.out a t ht 5 (by omega)
      have v6 := OwnT.cell HP2.out a t ht 6 (by omega)
      have v7 := OwnT.cell HP2.out a t ht 7 (by omega)
      have v8 := OwnT.cell HP2.out a t ht 8 (by omega)
      simp [tokA] at k0 k1 k2 k3 k4 k5 k6 k7 k8 v0 v1 v2 v3 v4 v5 v6 v7 v8
      go_wp2_with fail
      go_quiet (fail)
      go_wp2_with fail
      go_roundw
      case rel => exact ⟨a + 1, _, by omega, by go_num, rfl⟩
      case measure => simp [intOf]; omega
    · have hai : ¬ (a : Int) < (nt : Int) := by omega
      have HBn := Lib.hid (drew_below HB3.out n)
      go_wp2_with (first
        | (go_at_call 7; ((with_reducible refine (lexAwake_any _ (HV.out.below HBn.out)).mono ?_); rintro e w4 ⟨rfl, h1⟩; have HB := Lib.hid (HBn.out.trans (h1.mono HBn.out.size)); clear h1)))
      go_ret
      exact ⟨rfl, HB.out⟩

set_option maxRecDepth 100000 in
set_option maxHeartbeats 1000000 in
theorem lexTexts_any (s : ByteArray) (w : World) (hv : Vars w) (_hz : s.size ≤ 9223372036854775807) :
    Calls Tryd.prog 3 #[.string s] w fun e w' => e = .returned (.bool true) ∧ Below w.heap.size w w' := by
  by_cases hbig : 1000 < s.size
  · have HV := Lib.hid hv; clear hv
    have hi : (1000 : Int) < (s.size : Int) := by omega
    go_enter Tryd.func3, Tryd.ntmps3
    go_wp2_with (first
      | (go_at_call 7; ((with_reducible refine (lexAwake_any _ HV.out).mono ?_); rintro e w3 ⟨rfl, h1⟩; have HB := Lib.hid h1; clear h1)))
    go_ret
    exact ⟨rfl, HB.out⟩
  · by_cases h3 : 300 < s.size
    · exact texts_err s w hv (by omega) 4 (.inl ⟨h3, rfl⟩)
    · cases hl : lexL (sb s) with
      | none => exact texts_err s w hv (by omega) 5 (.inr ⟨by omega, hl, rfl⟩)
      | some ts => exact texts_some s w hv (by omega) ts hl
end Go.Proofs.YtdapnipodnhpkaaDoor
