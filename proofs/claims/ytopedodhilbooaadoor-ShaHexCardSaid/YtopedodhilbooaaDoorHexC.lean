/-
  Unhex: the project's and the reference's.
-/
import Derived.Test.YtopedodhilbooaaDoorHexB
namespace Go.Proofs.YtopedodhilbooaaDoor
open Go.RowKit

/-- Is a text the digits of bytes? -/
def okHex (l : List Int) : Bool := decide (l.length % 2 = 0) && l.all isDig
/-- The bytes of its first pairs. -/
def decTo (l : List Int) : Nat → List Int
  | 0 => []
  | k + 1 => decTo l k ++ [16 * digVal (l.getD (2 * k) 0) + digVal (l.getD (2 * k + 1) 0)]
theorem length_decTo (l : List Int) (k : Nat) : (decTo l k).length = k := by
  induction k with
  | zero => rfl
  | succ k ih => simp [decTo, ih]
def unhexL (l : List Int) : List Int := if okHex l then decTo l (l.length / 2) else []

theorem digVal_bd (c : Int) : 0 ≤ digVal c ∧ digVal c ≤ 15 := by unfold digVal; split <;> (try split) <;> omega
theorem nib_of_dig (c : Int) (h : isDig c = true) : nibVal c = digVal c := by
  unfold isDig at h; rw [decide_eq_true_eq] at h; unfold nibVal digVal; split <;> (try split) <;> omega
theorem nib_of_no (c : Int) (h : isDig c = false) : nibVal c = -1 := by
  unfold isDig at h; rw [decide_eq_false_iff_not] at h; unfold nibVal; split <;> (try split) <;> omega
theorem sb_getD (s : ByteArray) (k : Nat) (h : k < s.size) : (sb s).getD k 0 = ((s[k].toNat : Nat) : Int) := by
  rw [List.getD_eq_getElem?_getD, sb_at s k h]; rfl
theorem okHex_bad (l : List Int) (k : Nat) (hk : k < l.length) (h : isDig (l.getD k 0) = false) : okHex l = false := by
  unfold okHex
  have : l.all isDig = false := by
    rw [List.all_eq_false]
    refine ⟨l.getD k 0, ?_, by rw [h]; decide⟩
    rw [List.getD_eq_getElem?_getD, List.getElem?_eq_getElem hk]; exact List.getElem_mem hk
  rw [this, Bool.and_false]
theorem okHex_odd (l : List Int) (h : l.length % 2 = 1) : okHex l = false := by
  unfold okHex; rw [decide_eq_false (by omega), Bool.false_and]
theorem okHex_good (l : List Int) (k : Nat) (hl : l.length = 2 * k) (h : ∀ j, j < 2 * k → isDig (l.getD j 0) = true) : okHex l = true := by
  unfold okHex
  rw [decide_eq_true (by omega), Bool.true_and, List.all_eq_true]
  intro a ha
  obtain ⟨j, hj, rfl⟩ := List.mem_iff_getElem.1 ha
  have := h j (by omega)
  rw [List.getD_eq_getElem?_getD, List.getElem?_eq_getElem hj] at this; exact this
theorem or_join (a b : Int) (h0 : 0 ≤ a) (h1 : a ≤ 15) (h2 : 0 ≤ b) (h3 : b ≤ 15) : bits .or .u8 (a * 16) b = 16 * a + b := by
  obtain ⟨x, rfl⟩ := Int.eq_ofNat_of_zero_le h0
  obtain ⟨y, rfl⟩ := Int.eq_ofNat_of_zero_le h2
  have := u8_or_nat (x * 16) y (by omega) (by omega)
  rw [nat_join 4 (x * 16) y (by omega) (by omega)] at this
  have e : ((x * 16 : Nat) : Int) = (x : Int) * 16 := by omega
  rw [e] at this
  rw [this]; omega
theorem ret_pair {a b : ByteArray} {p q : Bool} (h : a = b) (h2 : p = q) : Ending.returned (.tuple #[.string a, .bool p]) = .returned (.tuple #[.string b, .bool q]) := by rw [h, h2]

set_option maxRecDepth 100000 in
set_option maxHeartbeats 400000 in
theorem unhex_any (s : ByteArray) (w : World) (_hs : s.size ≤ 1000000) :
    Calls Tryd.prog 15 #[.string s] w fun e w' => e = .returned (.tuple #[.string (strOfNums (unhexL (sb s))), .bool (okHex (sb s))]) ∧ Below w.heap.size w w' := by
  obtain ⟨i0, hi, hz0, hz1, hz2⟩ := info_parts (show (Tryd.prog.info? 5).map (fun i => (i.zero, i.size, i.bytes)) = some (some (.int .u8 0), 1, 1) from by kernel_rfl)
  have hsl := length_sb s
  have HSL := Lib.hid hsl; clear hsl
  by_cases hodd : s.size % 2 = 1
  · have hob : ((s.size : Int) % 2 != 0) = true := by rw [bne_iff_ne]; omega
    have HO := Lib.hid hodd; clear hodd
    go_enter Tryd.func15, Tryd.ntmps15
    go_wp2_with fail
    go_ret2
    have hno := okHex_odd (sb s) (by rw [HSL.out]; exact HO.out)
    exact ⟨ret_pair (by unfold unhexL; rw [hno]; rfl) (by rw [hno]), Below.refl _ _⟩
  · have hob : ((s.size : Int) % 2 != 0) = false := by rw [bne_eq_false_iff_eq]; omega
    obtain ⟨n, hn⟩ : ∃ n, s.size = 2 * n := ⟨s.size / 2, by omega⟩
    have hn2 : (s.size : Int) / 2 = (n : Int) := by omega
    have HN := Lib.hid hn; clear hn hodd
    go_enter Tryd.func15, Tryd.ntmps15
    go_wp2_with (at_make; refine wpList_make_own _ rfl (.const (.int .i64 0)) (.tmp 16) 22 rfl w.heap.size 5 i0 (.int .u8 0) 1 Tryd.underlying22 hi hz0 hz1 .i64 .i64 _ n rfl rfl (by omega) (by rw [hz2]; have := HN.out; omega) (by have := HN.out; unfold maxLen; omega) (Nat.le_refl _) ?_; intro w1 h1 h2; have H1 := Lib.hid h1; clear h1; have H2 := Lib.hid h2; clear h2)
    clear hn2 hob
    go_loopw [4, 5, 6, 7, 8, 9] (fun v i _ _ _ _ wr => ∃ k m : Nat, Hid (m = 2 * k ∧ ∀ j, j < 2 * k → isDig ((sb s).getD j 0) = true) ∧ m ≤ s.size ∧ i = .int .i64 m ∧ Own8 wr w.heap.size v (decTo (sb s) k) ∧ Below w.heap.size w wr)
      (fun _ i _ _ _ _ _ => s.size - (intOf i).toNat)
    case atStart => exact ⟨0, 0, Lib.hid ⟨rfl, fun j hj => absurd hj (by omega)⟩, by omega, rfl, H1.out, Below.grown (Below.refl _ _) H2.out (Nat.le_refl _) (fun k hk => by cases hk)⟩
    case round =>
      obtain ⟨k, m, HM, hm, rfl, hown, hbl⟩ := hrel
      have HO := Lib.hid hown; clear hown
      have HB := Lib.hid hbl; clear hbl
      by_cases hlt : m < s.size
      · have hlt2 : m + 1 < s.size := by have := HM.out.1; have := HN.out; omega
        have hki : (m : Int) < (s.size : Int) := by omega
        obtain ⟨a, ha⟩ : ∃ a : Int, (s[m].toNat : Int) = a := ⟨_, rfl⟩
        obtain ⟨b, hb⟩ : ∃ b : Int, (s[m + 1].toNat : Int) = b := ⟨_, rfl⟩
        have ha1 : 0 ≤ a ∧ a ≤ 255 := by have := s[m].toNat_lt; omega
        have hb1 : 0 ≤ b ∧ b ≤ 255 := by have := s[m + 1].toNat_lt; omega
        have hga : (sb s).getD (2 * k) 0 = a := by rw [← HM.out.1, sb_getD s m hlt, ha]
        have hgb : (sb s).getD (2 * k + 1) 0 = b := by rw [← HM.out.1, sb_getD s (m + 1) hlt2, hb]
        have HGA := Lib.hid hga; clear hga
        have HGB := Lib.hid hgb; clear hgb
        by_cases hda : isDig a = true
        · by_cases hdb : isDig b = true
          · have hva := digVal_bd a
            have hvb := digVal_bd b
            have hor := or_join (digVal a) (digVal b) hva.1 hva.2 hvb.1 hvb.2
            have HDA := Lib.hid hda
            have HDB := Lib.hid hdb
            go_wp2_with (first
              | (go_at_call 23; ((with_reducible refine (digitValue_any _ ?_ ?_ _).mono ?_); (first | omega | skip); (first | omega | skip); rintro e w' ⟨rfl, rfl⟩))
              | (at_builtin; refine wpList_app Elem.u8 (encInt .u8) rfl (.tmp 45) (.tmp 50) rfl w.heap.size _ (decTo (sb s) k) rfl (HO.out.alloc _) ⟨wr.heap.size, 0, none⟩ 1 1 [16 * digVal a + digVal b] rfl rfl ?_ ?_ ?_ ?_ ?_; exact cells_new _ _ _ rfl; (rw [length_decTo]; have := HM.out; omega); (rw [length_decTo]; have := HM.out; unfold maxLen; omega); (have := HB.out.size; simp; omega); intro v3 w3 h1 h2; have H3 := Lib.hid h1; clear h1; have H4 := Lib.hid h2; clear h2))
            go_roundw
            case rel =>
              refine ⟨k + 1, m + 2, Lib.hid ⟨by rw [HM.out.1]; omega, ?_⟩, by omega, by go_num, by rw [decTo, HGA.out, HGB.out]; exact H3.out, (HB.out.alloc HB.out.size _).trans H4.out⟩
              intro j hj
              by_cases h1 : j < 2 * k
              · exact HM.out.2 j h1
              · by_cases h2 : j = 2 * k
                · rw [h2, HGA.out]; exact HDA.out
                · rw [show j = 2 * k + 1 from by omega, HGB.out]; exact HDB.out
            case measure => simp [intOf]; omega
          · have hdb' : isDig b = false := by simpa using hdb
            clear hdb
            have hno := okHex_bad (sb s) (2 * k + 1) (by rw [HSL.out]; have := HM.out.1; omega) (by rw [HGB.out]; exact hdb')
            have HNO := Lib.hid hno; clear hno
            go_wp2_with (go_at_call 23; ((with_reducible refine (digitValue_any _ ?_ ?_ _).mono ?_); (first | omega | skip); (first | omega | skip); rintro e w' ⟨rfl, rfl⟩))
            go_ret2
            have hno := HNO.out
            exact ⟨ret_pair (by unfold unhexL; rw [hno]; rfl) (by rw [hno]), HB.out⟩
        · have hda' : isDig a = false := by simpa using hda
          clear hda
          have hno := okHex_bad (sb s) (2 * k) (by rw [HSL.out]; have := HM.out.1; omega) (by rw [HGA.out]; exact hda')
          have HNO := Lib.hid hno; clear hno
          go_wp2_with (go_at_call 23; ((with_reducible refine (digitValue_any _ ?_ ?_ _).mono ?_); (first | omega | skip); (first | omega | skip); rintro e w' ⟨rfl, rfl⟩))
          all_goals go_ret2
          all_goals have hno := HNO.out
          all_goals exact ⟨ret_pair (by unfold unhexL; rw [hno]; rfl) (by rw [hno]), HB.out⟩
      · have hki : ¬ (m : Int) < (s.size : Int) := by omega
        have hyes := okHex_good (sb s) k (by rw [HSL.out]; have := HM.out.1; omega) HM.out.2
        have hk : (sb s).length / 2 = k := by rw [HSL.out]; have := HM.out.1; omega
        have hcv := run_str8 HO.out
        have HYES := Lib.hid hyes; clear hyes
        have HK := Lib.hid hk; clear hk
        go_wp2_with fail
        go_ret2
        exact ⟨ret_pair (by unfold unhexL; rw [HYES.out, HK.out]; rfl) (by rw [HYES.out]), HB.out⟩

set_option maxRecDepth 100000 in
set_option maxHeartbeats 400000 in
theorem refUnhex_any (s : ByteArray) (w : World) (_hs : s.size ≤ 1000000) :
    Calls Tryd.prog 16 #[.string s] w fun e w' => e = .returned (.tuple #[.string (strOfNums (unhexL (sb s))), .bool (okHex (sb s))]) ∧ Below w.heap.size w w' := by
  have hsl := length_sb s
  have HSL := Lib.hid hsl; clear hsl
  go_enter Tryd.func16, Tryd.ntmps16
  go_wp2
  go_loopw [4, 5, 6, 7] (fun v i _ _ wr => ∃ k m : Nat, Hid (m = 2 * k ∧ ∀ j, j < 2 * k → isDig ((sb s).getD j 0) = true) ∧ m ≤ s.size ∧ i = .int .i64 m ∧ Own8 wr w.heap.size v (decTo (sb s) k) ∧ Below w.heap.size w wr)
    (fun _ i _ _ _ => s.size - (intOf i).toNat)
  case atStart => exact ⟨0, 0, Lib.hid ⟨rfl, fun j hj => absurd hj (by omega)⟩, by omega, rfl, Own.nil _ _ _ _, Below.refl _ _⟩
  case round =>
    obtain ⟨k, m, HM, hm, rfl, hown, hbl⟩ := hrel
    have HO := Lib.hid hown; clear hown
    have HB := Lib.hid hbl; clear hbl
    by_cases hlt : m + 1 < s.size
    · have hlt1 : m < s.size := by omega
      have hki : (m : Int) + 1 < (s.size : Int) := by omega
      have hkj : (m : Int) < (s.size : Int) := by omega
      obtain ⟨a, ha⟩ : ∃ a : Int, (s[m].toNat : Int) = a := ⟨_, rfl⟩
      obtain ⟨b, hb⟩ : ∃ b : Int, (s[m + 1].toNat : Int) = b := ⟨_, rfl⟩
      have ha1 : 0 ≤ a ∧ a ≤ 255 := by have := s[m].toNat_lt; omega
      have hb1 : 0 ≤ b ∧ b ≤ 255 := by have := s[m + 1].toNat_lt; omega
      have hga : (sb s).getD (2 * k) 0 = a := by rw [← HM.out.1, sb_getD s m hlt1, ha]
      have hgb : (sb s).getD (2 * k + 1) 0 = b := by rw [← HM.out.1, sb_getD s (m + 1) hlt, hb]
      have HGA := Lib.hid hga; clear hga
      have HGB := Lib.hid hgb; clear hgb
      by_cases hda : isDig a = true
      · by_cases hdb : isDig b = true
        · have hva := digVal_bd a
          have hvb := digVal_bd b
          have hna := nib_of_dig a hda
          have hnb := nib_of_dig b hdb
          have HDA := Lib.hid hda; clear hda
          have HDB := Lib.hid hdb; clear hdb
          have HNA := Lib.hid hna; clear hna
          have HNB := Lib.hid hnb; clear hnb
          go_wp2_with fail
          go_quiet ((go_at_call 24; exact Calls.quiet_of_same ((nibble_any _ (by omega) (by omega) _).mono fun _ _ h => ⟨h.1, h.2.symm⟩)))
          rw [HNA.out, HNB.out]
          go_wp2_with (at_builtin; refine wpList_app Elem.u8 (encInt .u8) rfl (.tmp 30) (.tmp 36) rfl w.heap.size _ (decTo (sb s) k) rfl ((HO.out.drewN _).alloc _) ⟨wr.heap.size, 0, none⟩ 1 1 [16 * digVal a + digVal b] rfl rfl ?_ ?_ ?_ ?_ ?_; exact cells_new (w := wr.drewN _) _ _ _ rfl; (rw [length_decTo]; have := HM.out; omega); (rw [length_decTo]; have := HM.out; unfold maxLen; omega); (have := HB.out.size; simp; omega); intro v3 w3 h1 h2; have H3 := Lib.hid h1; clear h1; have H4 := Lib.hid h2; clear h2)
          go_roundw
          case rel =>
            refine ⟨k + 1, m + 2, Lib.hid ⟨by rw [HM.out.1]; omega, ?_⟩, by omega, by go_num, by rw [decTo, HGA.out, HGB.out]; exact H3.out, ((below_drewN HB.out _).alloc HB.out.size _).trans H4.out⟩
            intro j hj
            by_cases h1 : j < 2 * k
            · exact HM.out.2 j h1
            · by_cases h2 : j = 2 * k
              · rw [h2, HGA.out]; exact HDA.out
              · rw [show j = 2 * k + 1 from by omega, HGB.out]; exact HDB.out
          case measure => simp [intOf]; omega
        · have hdb' : isDig b = false := by simpa using hdb
          have hnb := nib_of_no b hdb'
          have hna := nib_of_dig a hda
          have hva := digVal_bd a
          have hno := okHex_bad (sb s) (2 * k + 1) (by rw [HSL.out]; have := HM.out.1; omega) (by rw [HGB.out]; exact hdb')
          have HNO := Lib.hid hno; clear hno hda hdb hdb'
          have HNA := Lib.hid hna; clear hna
          have HNB := Lib.hid hnb; clear hnb
          go_wp2_with fail
          go_quiet ((go_at_call 24; exact Calls.quiet_of_same ((nibble_any _ (by omega) (by omega) _).mono fun _ _ h => ⟨h.1, h.2.symm⟩)))
          rw [HNA.out, HNB.out]
          go_wp2_with fail
          all_goals go_ret2
          all_goals have hno := HNO.out
          all_goals exact ⟨ret_pair (by unfold unhexL; rw [hno]; rfl) (by rw [hno]), below_drewN HB.out _⟩
      · have hda' : isDig a = false := by simpa using hda
        have hna := nib_of_no a hda'
        have hno := okHex_bad (sb s) (2 * k) (by rw [HSL.out]; have := HM.out.1; omega) (by rw [HGA.out]; exact hda')
        have HNO := Lib.hid hno; clear hno hda hda'
        have HNA := Lib.hid hna; clear hna
        go_wp2_with fail
        go_quiet ((go_at_call 24; exact Calls.quiet_of_same ((nibble_any _ (by omega) (by omega) _).mono fun _ _ h => ⟨h.1, h.2.symm⟩)))
        rw [HNA.out]
        go_wp2_with fail
        all_goals go_ret2
        all_goals have hno := HNO.out
        all_goals exact ⟨ret_pair (by unfold unhexL; rw [hno]; rfl) (by rw [hno]), below_drewN HB.out _⟩
    · have hki : ¬ (m : Int) + 1 < (s.size : Int) := by omega
      have hcv := run_str8 HO.out
      by_cases hodd : s.size % 2 = 1
      · have hob : ((s.size : Int) % 2 == 1) = true := beq_iff_eq.2 (by omega)
        have hno := okHex_odd (sb s) (by rw [HSL.out]; exact hodd)
        have HNO := Lib.hid hno; clear hno hodd
        go_wp2_with fail
        go_ret2
        have hno := HNO.out
        exact ⟨ret_pair (by unfold unhexL; rw [hno]; rfl) (by rw [hno]), HB.out⟩
      · have hob : ((s.size : Int) % 2 == 1) = false := beq_eq_false_iff_ne.2 (by omega)
        have hyes := okHex_good (sb s) k (by rw [HSL.out]; have := HM.out.1; omega) HM.out.2
        have hk : (sb s).length / 2 = k := by rw [HSL.out]; have := HM.out.1; omega
        have HYES := Lib.hid hyes; clear hyes
        have HK := Lib.hid hk; clear hk hodd
        go_wp2_with fail
        go_ret2
        exact ⟨ret_pair (by unfold unhexL; rw [HYES.out, HK.out]; rfl) (by rw [HYES.out]), HB.out⟩
end Go.Proofs.YtopedodhilbooaaDoor
