/-
  The law on digits: plain lemmas, then its walk.
-/
import Derived.Test.YtopedodhilbooaaDoorHexC
import Derived.Test.YtopedodhilbooaaDoorLawNil
namespace Go.Proofs.YtopedodhilbooaaDoor
open Go.RowKit

def Bytes (l : List Int) : Prop := ∀ a ∈ l, 0 ≤ a ∧ a ≤ 255
theorem sb_str (l : List Int) (h : Bytes l) : sb (strOfNums l) = l := by
  unfold sb
  rw [strOfNums_data, List.map_map]
  conv => rhs; rw [← List.map_id l]
  apply List.map_congr_left
  intro a ha
  have := h a ha
  simp only [Function.comp, id]
  rw [UInt8.toNat_ofNat_of_lt' (by show a.toNat < 256; omega)]; omega
theorem str_sb (s : ByteArray) : strOfNums (sb s) = s := by
  have : (strOfNums (sb s)).data = s.data := by
    apply Array.toList_inj.1
    rw [strOfNums_data]
    unfold sb
    rw [List.map_map]
    conv => rhs; rw [← List.map_id s.data.toList]
    apply List.map_congr_left
    intro a _
    simp only [Function.comp, id, Int.toNat_natCast]
    exact UInt8.ofNat_toNat
  cases s with
  | mk d => 
    cases hq : strOfNums (sb ⟨d⟩) with
    | mk e => rw [hq] at this; simp only at this; rw [this]
theorem hd_dig (n : Int) (h0 : 0 ≤ n) (h1 : n ≤ 15) : isDig (hd n) = true ∧ digVal (hd n) = n ∧ 0 ≤ hd n ∧ hd n ≤ 255 := by
  unfold isDig digVal hd
  refine ⟨?_, ?_, ?_, ?_⟩
  · rw [decide_eq_true_eq]; split <;> omega
  · split <;> (split <;> (try split) <;> omega)
  · split <;> omega
  · split <;> omega
theorem hd_digVal (c : Int) (h : isDig c = true) : hd (digVal c) = c := by
  unfold isDig at h; rw [decide_eq_true_eq] at h
  unfold hd digVal
  split <;> (try split) <;> (try split) <;> omega
theorem hexL_bytes (l : List Int) (h : Bytes l) : Bytes (hexL l) := by
  intro a ha
  unfold hexL at ha
  rw [List.mem_flatMap] at ha
  obtain ⟨c, hc, hm⟩ := ha
  have := h c hc
  simp only [List.mem_cons, List.not_mem_nil, or_false] at hm
  rcases hm with rfl | rfl
  · exact (hd_dig _ (by omega) (by omega)).2.2
  · exact (hd_dig _ (by omega) (by omega)).2.2
theorem hexL_at (l : List Int) (k : Nat) (hk : k < l.length) : (hexL l).getD (2 * k) 0 = hd (l.getD k 0 / 16) ∧ (hexL l).getD (2 * k + 1) 0 = hd (l.getD k 0 % 16) := by
  induction l generalizing k with
  | nil => simp at hk
  | cons c l ih =>
    have e : hexL (c :: l) = hd (c / 16) :: hd (c % 16) :: hexL l := rfl
    rw [e]
    cases k with
    | zero => exact ⟨rfl, rfl⟩
    | succ k =>
      have := ih k (by simpa using hk)
      have e1 : 2 * (k + 1) = (2 * k + 1) + 1 := by omega
      rw [e1]
      simpa using this
theorem dec_hex (l : List Int) (h : Bytes l) (k : Nat) (hk : k ≤ l.length) : decTo (hexL l) k = l.take k := by
  induction k with
  | zero => rfl
  | succ k ih =>
    have hb : 0 ≤ l.getD k 0 ∧ l.getD k 0 ≤ 255 := by
      rw [List.getD_eq_getElem?_getD, List.getElem?_eq_getElem (by omega)]; exact h _ (List.getElem_mem _)
    rw [decTo, ih (by omega), (hexL_at l k (by omega)).1, (hexL_at l k (by omega)).2, (hd_dig _ (by omega) (by omega)).2.1, (hd_dig _ (by omega) (by omega)).2.1]
    rw [List.take_add_one, List.getElem?_eq_getElem (by omega : k < l.length)]
    congr 1
    have e : l.getD k 0 = l[k] := by rw [List.getD_eq_getElem?_getD, List.getElem?_eq_getElem (by omega)]; rfl
    rw [e]
    simp only [Option.toList_some, List.cons.injEq, and_true]
    omega
theorem ok_hex (l : List Int) (h : Bytes l) : okHex (hexL l) = true := by
  refine okHex_good _ l.length (length_hexL l) ?_
  intro j hj
  have hb : ∀ k, k < l.length → 0 ≤ l.getD k 0 ∧ l.getD k 0 ≤ 255 := by
    intro k hk
    rw [List.getD_eq_getElem?_getD, List.getElem?_eq_getElem hk]; exact h _ (List.getElem_mem _)
  by_cases he : j % 2 = 0
  · obtain ⟨k, rfl⟩ : ∃ k, j = 2 * k := ⟨j / 2, by omega⟩
    have := hb k (by omega)
    rw [(hexL_at l k (by omega)).1]; exact (hd_dig _ (by omega) (by omega)).1
  · obtain ⟨k, rfl⟩ : ∃ k, j = 2 * k + 1 := ⟨j / 2, by omega⟩
    have := hb k (by omega)
    rw [(hexL_at l k (by omega)).2]; exact (hd_dig _ (by omega) (by omega)).1
theorem unhex_hex (l : List Int) (h : Bytes l) : unhexL (hexL l) = l := by
  unfold unhexL
  rw [if_pos (ok_hex l h), length_hexL, Nat.mul_div_cancel_left _ (by decide : 0 < 2), dec_hex l h _ (Nat.le_refl _), List.take_length]
theorem hex_dec (l : List Int) (h : ∀ a ∈ l, isDig a = true) (k : Nat) (hk : 2 * k ≤ l.length) : hexL (decTo l k) = l.take (2 * k) := by
  induction k with
  | zero => rfl
  | succ k ih =>
    have hd1 : ∀ j, j < l.length → isDig (l.getD j 0) = true := by
      intro j hj
      rw [List.getD_eq_getElem?_getD, List.getElem?_eq_getElem hj]; exact h _ (List.getElem_mem _)
    have b1 := digVal_bd (l.getD (2 * k) 0)
    have b2 := digVal_bd (l.getD (2 * k + 1) 0)
    rw [decTo, hexL_append, ih (by omega)]
    have e : hexL [16 * digVal (l.getD (2 * k) 0) + digVal (l.getD (2 * k + 1) 0)] = [l.getD (2 * k) 0, l.getD (2 * k + 1) 0] := by
      show [hd ((16 * digVal (l.getD (2 * k) 0) + digVal (l.getD (2 * k + 1) 0)) / 16), hd ((16 * digVal (l.getD (2 * k) 0) + digVal (l.getD (2 * k + 1) 0)) % 16)] = _
      rw [show (16 * digVal (l.getD (2 * k) 0) + digVal (l.getD (2 * k + 1) 0)) / 16 = digVal (l.getD (2 * k) 0) from by omega, show (16 * digVal (l.getD (2 * k) 0) + digVal (l.getD (2 * k + 1) 0)) % 16 = digVal (l.getD (2 * k + 1) 0) from by omega, hd_digVal _ (hd1 _ (by omega)), hd_digVal _ (hd1 _ (by omega))]
    rw [e, show 2 * (k + 1) = (2 * k + 1) + 1 from by omega, List.take_add_one, List.take_add_one, List.getElem?_eq_getElem (by omega : 2 * k < l.length), List.getElem?_eq_getElem (by omega : 2 * k + 1 < l.length)]
    have e1 : l.getD (2 * k) 0 = l[2 * k] := by rw [List.getD_eq_getElem?_getD, List.getElem?_eq_getElem (by omega)]; rfl
    have e2 : l.getD (2 * k + 1) 0 = l[2 * k + 1] := by rw [List.getD_eq_getElem?_getD, List.getElem?_eq_getElem (by omega)]; rfl
    rw [e1, e2, List.append_assoc]; rfl
theorem hex_unhex (l : List Int) (h : okHex l = true) : hexL (unhexL l) = l ∧ Bytes (unhexL l) := by
  have h' := h
  unfold okHex at h
  rw [Bool.and_eq_true, decide_eq_true_eq, List.all_eq_true] at h
  unfold unhexL
  rw [if_pos h']
  refine ⟨?_, ?_⟩
  · rw [hex_dec l h.2 _ (by omega), List.take_of_length_le (by omega)]
  · intro a ha
    generalize l.length / 2 = k at ha
    induction k with
    | zero => simp [decTo] at ha
    | succ k ih =>
      rw [decTo, List.mem_append] at ha
      rcases ha with ha | ha
      · exact ih ha
      · have b1 := digVal_bd (l.getD (2 * k) 0)
        have b2 := digVal_bd (l.getD (2 * k + 1) 0)
        rw [List.mem_singleton] at ha; subst ha; omega
theorem length_unhexL (l : List Int) : (unhexL l).length ≤ l.length := by
  unfold unhexL; split
  · rw [length_decTo]; omega
  · simp

set_option maxRecDepth 100000 in
set_option maxHeartbeats 1000000 in
theorem shaHex_any (s t : ByteArray) (w : World) (ht : Tables w) : Calls Tryd.prog 6 #[.string s, .string t] w fun e w' => e = .returned (.bool true) ∧ Below w.heap.size w w' := by
  have HT := Lib.hid ht; clear ht
  by_cases hbig : 300 < s.size ∨ 300 < t.size
  · by_cases h1 : 300 < s.size
    · have hi : (300 : Int) < (s.size : Int) := by omega
      clear hbig h1
      go_enter Tryd.func6, Tryd.ntmps6
      go_wp2_with (go_at_call 10; refine (awake_any _ HT.out).mono ?_; rintro e w1 ⟨rfl, h1⟩; have H1 := Lib.hid h1; clear h1)
      go_ret
      exact ⟨rfl, H1.out⟩
    · have hi : ¬ (300 : Int) < (s.size : Int) := by omega
      have hj : (300 : Int) < (t.size : Int) := by omega
      clear hbig h1
      go_enter Tryd.func6, Tryd.ntmps6
      go_wp2_with (go_at_call 10; refine (awake_any _ HT.out).mono ?_; rintro e w1 ⟨rfl, h1⟩; have H1 := Lib.hid h1; clear h1)
      go_ret
      exact ⟨rfl, H1.out⟩
  · have hi : ¬ (300 : Int) < (s.size : Int) := by omega
    have hj : ¬ (300 : Int) < (t.size : Int) := by omega
    have hs : s.size ≤ 300 := by omega
    have htt : t.size ≤ 300 := by omega
    clear hbig
    obtain ⟨H, hH⟩ : ∃ H, H = strOfNums (hexL (sb s)) := ⟨_, rfl⟩
    obtain ⟨B, hB⟩ : ∃ B, B = strOfNums (unhexL (sb t)) := ⟨_, rfl⟩
    obtain ⟨ok, hok⟩ : ∃ ok, ok = okHex (sb t) := ⟨_, rfl⟩
    have hHsz : H.size ≤ 1000000 := by rw [hH, strOfNums_size, length_hexL, length_sb]; omega
    have hBsz : B.size ≤ 1000000 := by rw [hB, strOfNums_size]; have := length_unhexL (sb t); rw [length_sb] at this; omega
    have hsbH : sb H = hexL (sb s) := by rw [hH]; exact sb_str _ (hexL_bytes _ (sb_bd s))
    have c1 : ∀ w, Calls Tryd.prog 14 #[.string s] w fun e w' => e = .returned (.string H) ∧ Below w.heap.size w w' := by
      intro w; rw [hH]; exact hex_any s w (by omega)
    have c2 : ∀ w, Calls Tryd.prog 17 #[.string s] w fun e w' => e = .returned (.string H) ∧ Below w.heap.size w w' := by
      intro w; rw [hH]; exact refHex_any s w (by omega)
    have c3 : ∀ w, Calls Tryd.prog 15 #[.string H] w fun e w' => e = .returned (.tuple #[.string s, .bool true]) ∧ Below w.heap.size w w' := by
      intro w
      have := unhex_any H w hHsz
      rw [hsbH, unhex_hex _ (sb_bd s), str_sb, ok_hex _ (sb_bd s)] at this; exact this
    have c4 : ∀ w, Calls Tryd.prog 15 #[.string t] w fun e w' => e = .returned (.tuple #[.string B, .bool ok]) ∧ Below w.heap.size w w' := by
      intro w; rw [hB, hok]; exact unhex_any t w (by omega)
    have c5 : ∀ w, Calls Tryd.prog 16 #[.string t] w fun e w' => e = .returned (.tuple #[.string B, .bool ok]) ∧ Below w.heap.size w w' := by
      intro w; rw [hB, hok]; exact refUnhex_any t w (by omega)
    have c6 : ok = true → ∀ w, Calls Tryd.prog 14 #[.string B] w fun e w' => e = .returned (.string t) ∧ Below w.heap.size w w' := by
      intro h w
      have := hex_any B w hBsz
      have h2 := hex_unhex (sb t) (by rw [← hok]; exact h)
      rw [hB, sb_str _ h2.2, h2.1, str_sb] at this
      rw [hB]; exact this
    have C1 := Lib.hid c1; clear c1
    have C2 := Lib.hid c2; clear c2
    have C3 := Lib.hid c3; clear c3
    have C4 := Lib.hid c4; clear c4
    have C5 := Lib.hid c5; clear c5
    have C6 := Lib.hid c6; clear c6
    clear hH hB hok hsbH hHsz hBsz
    cases ok
    all_goals
      go_enter Tryd.func6, Tryd.ntmps6
      go_wp2_with fail
      refine (C1.out _).mono ?_
      rintro e w1 ⟨rfl, h1⟩
      have H1 := Lib.hid h1; clear h1
      go_wp2_with fail
      refine (C3.out _).mono ?_
      rintro e w2 ⟨rfl, h1⟩
      have H2 := Lib.hid h1; clear h1
      go_wp2_with fail
      refine (C4.out _).mono ?_
      rintro e w3 ⟨rfl, h1⟩
      have H3 := Lib.hid h1; clear h1
      go_wp2_with fail
      refine (C5.out _).mono ?_
      rintro e w4 ⟨rfl, h1⟩
      have H4 := Lib.hid h1; clear h1
      go_wp2_with fail
      refine (C1.out _).mono ?_
      rintro e w5 ⟨rfl, h1⟩
      have H5 := Lib.hid h1; clear h1
      go_wp2_with fail
      refine (C2.out _).mono ?_
      rintro e w6 ⟨rfl, h1⟩
      have H6 := Lib.hid h1; clear h1
      have hbl : Below w.heap.size w w6 := by
        have s1 := H1.out.size
        have s2 := H2.out.size
        have s3 := H3.out.size
        have s4 := H4.out.size
        have s5 := H5.out.size
        exact ((((H1.out.trans (H2.out.mono s1)).trans (H3.out.mono (by omega))).trans (H4.out.mono (by omega))).trans (H5.out.mono (by omega))).trans (H6.out.mono (by omega))
      have HBL := Lib.hid hbl; clear hbl
      go_wp2_with fail
    · refine (awake_any _ (HT.out.below HBL.out HT.out.g0 HT.out.g1)).mono ?_
      rintro e w7 ⟨rfl, h1⟩
      have H7 := Lib.hid h1; clear h1
      go_wp2_with fail
      go_ret
      exact ⟨rfl, HBL.out.trans (H7.out.mono HBL.out.size)⟩
    · refine (C6.out (by first | trivial | rfl) _).mono ?_
      rintro e w7 ⟨rfl, h1⟩
      have hbl7 : Below w.heap.size w w7 := HBL.out.trans (h1.mono HBL.out.size)
      have HBL7 := Lib.hid hbl7; clear hbl7 h1
      go_wp2_with fail
      refine (awake_any _ (HT.out.below HBL7.out HT.out.g0 HT.out.g1)).mono ?_
      rintro e w8 ⟨rfl, h1⟩
      have H8 := Lib.hid h1; clear h1
      go_wp2_with fail
      go_ret
      exact ⟨rfl, HBL7.out.trans (H8.out.mono HBL7.out.size)⟩
end Go.Proofs.YtopedodhilbooaaDoor
