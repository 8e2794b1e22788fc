/-
  Layer 15, the laws' helpers: a list with others between.
-/
import Derived.Test.YtnimmpidplfnnaaLcI
namespace Go.Proofs.Ytnimmpidplfnnaa
open Go.RowKit

def dlA (ns : List Int) (i : Nat) : List ByteArray := match ns[i]? with | some x => if 0 < x % 2 then [ltr (x / 2 % 7)] else [] | none => []
def dlB (l : List ByteArray) (i : Nat) : List ByteArray := l[i]?.toList
def dlL (l : List ByteArray) (ns : List Int) (k : Nat) : List ByteArray := (List.range k).flatMap fun i => dlA ns i ++ dlB l i
theorem dlL_succ (l : List ByteArray) (ns : List Int) (k : Nat) : dlL l ns (k + 1) = dlL l ns k ++ dlA ns k ++ dlB l k := by
  unfold dlL; rw [List.range_succ, List.flatMap_append]; simp
theorem dlA_len (ns : List Int) (i : Nat) : (dlA ns i).length ≤ 1 := by
  unfold dlA; split
  · split <;> simp
  · simp
theorem dlB_len (l : List ByteArray) (i : Nat) : (dlB l i).length ≤ 1 := by unfold dlB; cases l[i]? <;> simp
theorem dlL_len (l : List ByteArray) (ns : List Int) (k : Nat) : (dlL l ns k).length ≤ 2 * k := by
  induction k with
  | zero => exact Nat.le_refl _
  | succ k ih => rw [dlL_succ, List.length_append, List.length_append]; have := dlA_len ns k; have := dlB_len l k; omega
theorem dlL_sub (l : List ByteArray) (ns : List Int) (k : Nat) : (l.take k).Sublist (dlL l ns k) := by
  induction k with
  | zero => rw [List.take_zero]; exact List.nil_sublist _
  | succ k ih =>
    rw [dlL_succ, List.take_add_one, List.append_assoc]
    exact ih.append (List.sublist_append_right _ _)
theorem dlL_one {l : List ByteArray} (h : ∀ t ∈ l, t.size = 1) (ns : List Int) (k : Nat) : ∀ t ∈ dlL l ns k, t.size = 1 := by
  intro t ht
  unfold dlL at ht
  obtain ⟨i, _, hi⟩ := List.mem_flatMap.1 ht
  rcases List.mem_append.1 hi with hi | hi
  · unfold dlA at hi
    split at hi
    · split at hi
      · rw [List.mem_singleton.1 hi]; exact ltr_size _
      · simp at hi
    · simp at hi
  · unfold dlB at hi
    exact h t (List.mem_of_getElem? (Option.mem_toList.1 hi))
set_option maxRecDepth 100000 in
set_option maxHeartbeats 8000000 in
theorem dealt_any (w : World) (A B : Option Addr) (n cap m capb : Nat) (l : List ByteArray) (ns : List Int) (hl : SE encStr w w.heap.size (.slice A n cap) l) (h : S8 w w.heap.size B m capb ns) (hn : n ≤ 1000) (hm : m ≤ 1000) :
    Calls Try.prog 15 #[.slice A n cap, .slice B m capb] w fun e w' => ∃ v, e = .returned v ∧ OwnT w' w.heap.size v (dlL l ns (max n m)) ∧ Below w.heap.size w w' := by
  have HLL := Lib.hid hl.len.1
  have HLS := Lib.hid hl
  have HL := Lib.hid h.hlen
  have HS := Lib.hid h
  have HBY := Lib.hid h.bytes
  obtain ⟨M, hM⟩ : ∃ M, max n m = M := ⟨_, rfl⟩
  have hMi : (if n < m then (m : Int) else (n : Int)) = (M : Int) := by split <;> omega
  have hM1 : n ≤ M ∧ m ≤ M ∧ M ≤ 1000 := by omega
  have HM2 := Lib.hid (show M ≤ n ∨ M ≤ m from by omega)
  rw [hM]
  clear h hl hM
  go_enter Try.func15, Try.ntmps15
  go_upto_region 3 with (fail)
  go_loopw [5, 6] (fun lv iv wr => ∃ (i : Nat) (v : Value), i ≤ M ∧ v = lv ∧ iv = .int .i64 (i : Int) ∧ Hid (OwnT wr w.heap.size v (dlL l ns i)) ∧ Hid (Below w.heap.size w wr))
    (fun _ iv _ => M - (intOf iv).toNat)
  case atStart => exact ⟨0, _, Nat.zero_le _, rfl, rfl, Lib.hid (Own.nil _ _ _ _), Lib.hid (Below.refl _ _)⟩
  case round =>
    obtain ⟨i, v, hi, rfl, rfl, HO, HB⟩ := hrel
    have HLEN := Lib.hid (dlL_len l ns i)
    have HSUC := Lib.hid (dlL_succ l ns i)
    by_cases hltM : i < M
    · have hiM : (i : Int) < (M : Int) := by omega
      have hi0 : (0 : Int) ≤ (i : Int) := by omega
      by_cases hm1 : i < m
      · have him : (i : Int) < (m : Int) := by omega
        have d1 : decide ((i : Int) < (m : Int)) = true := decide_eq_true him
        obtain ⟨x, hx⟩ : ∃ x, ns[i]? = some x := ⟨_, List.getElem?_eq_getElem (by rw [HL.out]; exact hm1)⟩
        obtain ⟨pb, po, rfl, hpb, hat⟩ := HS.out.at_.resolve_left (by omega)
        have hxd : ns.getD i 0 = x := by rw [List.getD_eq_getElem?_getD, hx]; rfl
        have x0 : wr.cell? ⟨pb, po + i, none⟩ = some (.int .u8 x) := (HB.out.cell (p := ⟨pb, po + i, none⟩) hpb).trans (by rw [hat i hm1, hxd])
        have hbd := HBY.out x (List.mem_of_getElem? hx)
        obtain ⟨p, hp⟩ : ∃ p, Int.tmod x 2 = p := ⟨_, rfl⟩
        have hpe : x % 2 = p := by rw [← hp, Int.tmod_eq_emod_of_nonneg hbd.1]
        have hp1 : 0 ≤ p ∧ p < 2 := by omega
        have wp1 : IntKind.u8.wrap p = p := by rw [IntKind.wrap_u8]; omega
        by_cases hodd : 0 < p
        · obtain ⟨q, hq⟩ : ∃ q, Int.tdiv x 2 = q := ⟨_, rfl⟩
          have hqe : x / 2 = q := by rw [← hq, Int.tdiv_eq_ediv_of_nonneg hbd.1]
          have hq1 : 0 ≤ q ∧ q ≤ 127 := by omega
          have wq1 : IntKind.u8.wrap q = q := by rw [IntKind.wrap_u8]; omega
          obtain ⟨r, hr⟩ : ∃ r, Int.tmod q 7 = r := ⟨_, rfl⟩
          have hre : q % 7 = r := by rw [← hr, Int.tmod_eq_emod_of_nonneg hq1.1]
          have hr1 : 0 ≤ r ∧ r < 7 := by omega
          have wr1 : IntKind.u8.wrap r = r := by rw [IntKind.wrap_u8]; omega
          have wr2 : IntKind.u8.wrap (97 + r) = 97 + r := by rw [IntKind.wrap_u8]; omega
          have hcv := conv1 wr (97 + r)
          have HDA := Lib.hid (show dlA ns i = [ltr r] from by unfold dlA; rw [hx]; show (if 0 < x % 2 then [ltr (x / 2 % 7)] else []) = _; rw [hpe, if_pos hodd, hqe, hre])
          clear hx hxd hat hpb hpe hqe hre
          by_cases hn1 : i < n
          · have hin : (i : Int) < (n : Int) := by omega
            obtain ⟨t, ht⟩ : ∃ t, l[i]? = some t := ⟨_, List.getElem?_eq_getElem (by rw [HLL.out]; exact hn1)⟩
            obtain ⟨pa, pq, rfl, hpa, hatl⟩ := HLS.out.at ht
            have t0 : ∀ wz, Below w.heap.size w wz → wz.cell? ⟨pa, pq + i, none⟩ = some (.string t) := fun wz hz => by
              have h := hatl 0 _ rfl
              rw [Nat.mul_one, Nat.add_zero] at h
              exact (hz.cell (p := ⟨pa, pq + i, none⟩) hpa).trans h
            have HT0 := Lib.hid t0
            have HDB := Lib.hid (show dlB l i = [t] from by unfold dlB; rw [ht]; rfl)
            clear ht hatl hpa t0
            go_wp2_with (first
              | (at_builtin; refine wpList_app Elem.str encStr rfl (.tmp 28) (.tmp 38) rfl w.heap.size v (dlL l ns i) rfl ((HO.out.alloc (.cells #[.int .u8 (97 + r)] 5)).alloc (.cells #[.string (strOfNums [97 + r])] 9)) ⟨wr.heap.size + 1, 0, none⟩ 1 1 [ltr r] rfl rfl ?_ ?_ ?_ ?_ ?_; (have hc := cells_new (w := wr.alloc (.cells #[.int .u8 (97 + r)] 5)) #[.string (strOfNums [97 + r])] 9 (encStr.all [ltr r]) rfl; rw [World.size_alloc] at hc; exact hc); (have := HLEN.out; omega); (have := HLEN.out; unfold maxLen; omega); (have := HB.out.size; simp; omega); intro v3 w3 h1 h2; have HO3 := Lib.hid h1; have HB3 := Lib.hid (((HB.out.alloc HB.out.size (.cells #[.int .u8 (97 + r)] 5)).alloc (by have := HB.out.size; simp; omega) (.cells #[.string (strOfNums [97 + r])] 9)).trans h2); clear h1 h2; have t1 := HT0.out _ HB3.out)
              | (at_builtin; refine wpList_app Elem.str encStr rfl (.tmp 44) (.tmp 49) rfl w.heap.size v3 (dlL l ns i ++ [ltr r]) rfl (HO3.out.alloc (.cells #[.string t] 9)) ⟨w3.heap.size, 0, none⟩ 1 1 [t] rfl rfl ?_ ?_ ?_ ?_ ?_; exact cells_new _ _ _ rfl; (have := HLEN.out; (try simp only [List.length_append, List.length_singleton]); omega); (have := HLEN.out; (try simp only [List.length_append, List.length_singleton]); unfold maxLen; omega); (have := HB3.out.size; simp; omega); intro v4 w4 h1 h2; have HO4 := Lib.hid h1; have HB4 := Lib.hid ((HB3.out.alloc HB3.out.size (.cells #[.string t] 9)).trans h2); clear h1 h2))
            go_roundw
            case rel => exact ⟨i + 1, v4, by omega, rfl, by go_num, Lib.hid (by rw [HSUC.out, HDA.out, HDB.out]; exact HO4.out), HB4⟩
            case measure => simp [intOf]; omega
          · have hin : ¬ (i : Int) < (n : Int) := by omega
            have HDB := Lib.hid (show dlB l i = [] from by unfold dlB; rw [List.getElem?_eq_none (by rw [HLL.out]; omega)]; rfl)
            go_wp2_with (at_builtin; refine wpList_app Elem.str encStr rfl (.tmp 28) (.tmp 38) rfl w.heap.size v (dlL l ns i) rfl ((HO.out.alloc (.cells #[.int .u8 (97 + r)] 5)).alloc (.cells #[.string (strOfNums [97 + r])] 9)) ⟨wr.heap.size + 1, 0, none⟩ 1 1 [ltr r] rfl rfl ?_ ?_ ?_ ?_ ?_; (have hc := cells_new (w := wr.alloc (.cells #[.int .u8 (97 + r)] 5)) #[.string (strOfNums [97 + r])] 9 (encStr.all [ltr r]) rfl; rw [World.size_alloc] at hc; exact hc); (have := HLEN.out; omega); (have := HLEN.out; unfold maxLen; omega); (have := HB.out.size; simp; omega); intro v3 w3 h1 h2; have HO3 := Lib.hid h1; have HB3 := Lib.hid (((HB.out.alloc HB.out.size (.cells #[.int .u8 (97 + r)] 5)).alloc (by have := HB.out.size; simp; omega) (.cells #[.string (strOfNums [97 + r])] 9)).trans h2); clear h1 h2)
            go_roundw
            case rel => exact ⟨i + 1, v3, by omega, rfl, by go_num, Lib.hid (by rw [HSUC.out, HDA.out, HDB.out, List.append_nil]; exact HO3.out), HB3⟩
            case measure => simp [intOf]; omega
        · have HDA := Lib.hid (show dlA ns i = [] from by unfold dlA; rw [hx]; show (if 0 < x % 2 then [ltr (x / 2 % 7)] else []) = _; rw [hpe, if_neg hodd])
          have hp0 : ¬ (0 : Int) < p := hodd
          clear hx hxd hat hpb hpe
          by_cases hn1 : i < n
          · have hin : (i : Int) < (n : Int) := by omega
            obtain ⟨t, ht⟩ : ∃ t, l[i]? = some t := ⟨_, List.getElem?_eq_getElem (by rw [HLL.out]; exact hn1)⟩
            obtain ⟨pa, pq, rfl, hpa, hatl⟩ := HLS.out.at ht
            have t0 : ∀ wz, Below w.heap.size w wz → wz.cell? ⟨pa, pq + i, none⟩ = some (.string t) := fun wz hz => by
              have h := hatl 0 _ rfl
              rw [Nat.mul_one, Nat.add_zero] at h
              exact (hz.cell (p := ⟨pa, pq + i, none⟩) hpa).trans h
            have HT0 := Lib.hid t0
            have HDB := Lib.hid (show dlB l i = [t] from by unfold dlB; rw [ht]; rfl)
            clear ht hatl hpa t0
            have t1 := HT0.out _ HB.out
            go_wp2_with (at_builtin; refine wpList_app Elem.str encStr rfl (.tmp 44) (.tmp 49) rfl w.heap.size v (dlL l ns i) rfl (HO.out.alloc (.cells #[.string t] 9)) ⟨wr.heap.size, 0, none⟩ 1 1 [t] rfl rfl ?_ ?_ ?_ ?_ ?_; exact cells_new _ _ _ rfl; (have := HLEN.out; (try simp only [List.length_append, List.length_singleton]); omega); (have := HLEN.out; (try simp only [List.length_append, List.length_singleton]); unfold maxLen; omega); (have := HB.out.size; simp; omega); intro v4 w4 h1 h2; have HO4 := Lib.hid h1; have HB4 := Lib.hid ((HB.out.alloc HB.out.size (.cells #[.string t] 9)).trans h2); clear h1 h2)
            go_roundw
            case rel => exact ⟨i + 1, v4, by omega, rfl, by go_num, Lib.hid (by rw [HSUC.out, HDA.out, HDB.out, List.append_nil]; exact HO4.out), HB4⟩
            case measure => simp [intOf]; omega
          · have hin : ¬ (i : Int) < (n : Int) := by omega
            have HDB := Lib.hid (show dlB l i = [] from by unfold dlB; rw [List.getElem?_eq_none (by rw [HLL.out]; omega)]; rfl)
            go_wp2_with fail
            go_roundw
            case rel => exact ⟨i + 1, v, by omega, rfl, by go_num, Lib.hid (by rw [HSUC.out, HDA.out, HDB.out, List.append_nil, List.append_nil]; exact HO.out), HB⟩
            case measure => simp [intOf]; omega
      · have him : ¬ (i : Int) < (m : Int) := by omega
        have d1 : decide ((i : Int) < (m : Int)) = false := decide_eq_false him
        have HDA := Lib.hid (show dlA ns i = [] from by unfold dlA; rw [List.getElem?_eq_none (by rw [HL.out]; omega)])
        by_cases hn1 : i < n
        · have hin : (i : Int) < (n : Int) := by omega
          obtain ⟨t, ht⟩ : ∃ t, l[i]? = some t := ⟨_, List.getElem?_eq_getElem (by rw [HLL.out]; exact hn1)⟩
          obtain ⟨pa, pq, rfl, hpa, hatl⟩ := HLS.out.at ht
          have t0 : ∀ wz, Below w.heap.size w wz → wz.cell? ⟨pa, pq + i, none⟩ = some (.string t) := fun wz hz => by
            have h := hatl 0 _ rfl
            rw [Nat.mul_one, Nat.add_zero] at h
            exact (hz.cell (p := ⟨pa, pq + i, none⟩) hpa).trans h
          have HT0 := Lib.hid t0
          have HDB := Lib.hid (show dlB l i = [t] from by unfold dlB; rw [ht]; rfl)
          clear ht hatl hpa t0
          have t1 := HT0.out _ HB.out
          go_wp2_with (at_builtin; refine wpList_app Elem.str encStr rfl (.tmp 44) (.tmp 49) rfl w.heap.size v (dlL l ns i) rfl (HO.out.alloc (.cells #[.string t] 9)) ⟨wr.heap.size, 0, none⟩ 1 1 [t] rfl rfl ?_ ?_ ?_ ?_ ?_; exact cells_new _ _ _ rfl; (have := HLEN.out; (try simp only [List.length_append, List.length_singleton]); omega); (have := HLEN.out; (try simp only [List.length_append, List.length_singleton]); unfold maxLen; omega); (have := HB.out.size; simp; omega); intro v4 w4 h1 h2; have HO4 := Lib.hid h1; have HB4 := Lib.hid ((HB.out.alloc HB.out.size (.cells #[.string t] 9)).trans h2); clear h1 h2)
          go_roundw
          case rel => exact ⟨i + 1, v4, by omega, rfl, by go_num, Lib.hid (by rw [HSUC.out, HDA.out, HDB.out, List.append_nil]; exact HO4.out), HB4⟩
          case measure => simp [intOf]; omega
        · exfalso; have := HM2.out; omega
    · have hiM : ¬ (i : Int) < (M : Int) := by omega
      obtain rfl : i = M := by omega
      go_wp2_with fail
      go_ret
      exact ⟨_, rfl, HO.out, HB.out⟩
end Go.Proofs.Ytnimmpidplfnnaa
