/-
  The reference's GetList, Texts, heavy.
-/
import Derived.Test.YtlghholonjmeaaaCodeG
namespace Go.Proofs.Ytlghholonjmeaaa
open Go.RowKit

/-- What heavy answers: false of what is small alone. -/
def HeavyPost (len : Nat) (ss : List ByteArray) (w : World) (e : Ending) (w' : World) : Prop := w = w' ∧ ∃ b : Bool, e = .returned (.bool b) ∧ (b = false → len ≤ 50 ∧ ∀ s ∈ ss, s.size ≤ 300)

set_option maxRecDepth 100000 in
set_option maxHeartbeats 400000 in
theorem heavy_any (A : Option Addr) (len cap : Nat) (ss : List ByteArray) (w : World) (hS : ST w w.heap.size A len cap ss) :
    Calls Try.prog 6 #[.slice A len cap] w (HeavyPost len ss w) := by
  have hmax := hS.max
  have hle := hS.le
  unfold maxLen at hmax
  have HS := Lib.hid hS; clear hS
  go_enter Try.func6, Try.ntmps6
  go_wp2_with fail
  go_loop [3] (fun ti => ∃ i : Nat, i ≤ len ∧ i ≤ 60 ∧ ti = .int .i64 (i : Int) ∧ Hid (∀ j, j < i → (ss.getD j ⟨#[]⟩).size ≤ 300))
    (fun ti => len - (intOf ti).toNat)
  case atStart => exact ⟨0, by omega, by omega, rfl, Lib.hid (fun j hj => by omega)⟩
  case round =>
    obtain ⟨i, hi, hi60, rfl, HI⟩ := hrel
    by_cases hlt : i < len
    · have hii : (i : Int) < (len : Int) := by omega
      by_cases h60 : i < 60
      · have hi60' : (i : Int) < 60 := by omega
        obtain ⟨pb, po, hA, hpb, hc⟩ := HS.out.cell i hlt
        subst hA
        obtain ⟨s, hs⟩ : ∃ s, s = ss.getD i ⟨#[]⟩ := ⟨_, rfl⟩
        rw [← hs] at hc
        have HSS := Lib.hid hs; clear hs
        by_cases h300 : 300 < s.size
        · have h300' : (300 : Int) < (s.size : Int) := by omega
          go_wp2_with fail
          go_ret
          exact ⟨rfl, true, rfl, fun h => by cases h⟩
        · have h300' : ¬ (300 : Int) < (s.size : Int) := by omega
          go_wp2_with fail
          go_round
          case rel =>
            refine ⟨i + 1, by omega, by omega, by go_num, Lib.hid (fun j hj => ?_)⟩
            by_cases hj' : j < i
            · exact HI.out j hj'
            · have : j = i := by omega
              subst this; rw [← HSS.out]; omega
          case measure => simp [intOf]; omega
      · have hi60' : decide ((i : Int) < 60) = false := by simp; omega
        go_wp2_with fail
        go_ret
        refine ⟨rfl, _, rfl, fun h => ?_⟩
        rw [decide_eq_false_iff_not] at h
        omega
    · have hii : ¬ (i : Int) < (len : Int) := by omega
      go_wp2_with fail
      go_ret
      refine ⟨rfl, _, rfl, fun h => ?_⟩
      rw [decide_eq_false_iff_not] at h
      refine ⟨by omega, fun s hs => ?_⟩
      obtain ⟨j, hj, rfl⟩ := List.mem_iff_getElem.1 hs
      have := HI.out j (by have := HS.out.hlen; omega)
      rw [List.getD_eq_getElem?_getD, List.getElem?_eq_getElem hj] at this; exact this

set_option maxRecDepth 100000 in
set_option maxHeartbeats 400000 in
theorem texts_same (A A' : Option Addr) (len cap cap' : Nat) (ss : List ByteArray) (w : World) (hS : ST w w.heap.size A len cap ss) (hS' : ST w w.heap.size A' len cap' ss) :
    Calls Try.prog 20 #[.slice A len cap, .slice A' len cap'] w fun e w' => e = .returned (.bool true) ∧ ∃ n, w' = w.drewN n := by
  have hmax := hS.max
  have hle := hS.le
  unfold maxLen at hmax
  have HS := Lib.hid hS; clear hS
  have HS' := Lib.hid hS'; clear hS'
  go_enter Try.func20, Try.ntmps20
  go_wp2_with fail
  go_loopw [5] (fun ti wr => ∃ i n : Nat, i ≤ len ∧ ti = .int .i64 (i : Int) ∧ wr = w.drewN n)
    (fun ti _ => len - (intOf ti).toNat)
  case atStart => exact ⟨0, 0, by omega, rfl, rfl⟩
  case round =>
    obtain ⟨i, n, hi, rfl, rfl⟩ := hrel
    by_cases hlt : i < len
    · have hii : (i : Int) < (len : Int) := by omega
      obtain ⟨pb, po, hA, hpb, hc⟩ := HS.out.cell i hlt
      subst hA
      obtain ⟨pb', po', hA', hpb', hc'⟩ := HS'.out.cell i hlt
      subst hA'
      obtain ⟨s, hs⟩ : ∃ s, s = ss.getD i ⟨#[]⟩ := ⟨_, rfl⟩
      rw [← hs] at hc hc'
      clear hs
      go_wp2_with fail
      go_quiet (fail)
      go_wp2_with fail
      go_roundw
      case rel => exact ⟨i + 1, _, by omega, by go_num, rfl⟩
      case measure => simp [intOf]; omega
    · have hii : ¬ (i : Int) < (len : Int) := by omega
      go_wp2_with fail
      go_ret
      exact ⟨rfl, n, rfl⟩

set_option maxRecDepth 100000 in
set_option maxHeartbeats 400000 in
theorem refGetList_none (A : Option Addr) (len cap : Nat) (k : Int) (w : World) (hG : Calls Try.prog 9 #[.slice A len cap, .int .i64 k] w (GetPost none w)) :
    Calls Try.prog 13 #[.slice A len cap, .int .i64 k] w (GetLst none w) := by
  have HG := Lib.hid hG; clear hG
  go_enter Try.func13, Try.ntmps13
  go_wp2_with fail
  refine HG.out.mono ?_
  rintro e w1 ⟨v, p, ok, rfl, h1, h2⟩
  have H1 := Lib.hid h1; clear h1
  rcases h2 with ⟨-, rfl, rfl, rfl⟩ | ⟨ho, rfl⟩
  · go_wp2_with fail
    go_loopw [8, 9, 10, 11, 12, 13, 14] (fun t8 t9 _ t11 _ _ _ wr => t9 = .bool false ∧ t11 = .int .i64 0 ∧ wr = w1)
      (fun _ _ _ _ _ _ _ _ => 0)
    case atStart => exact ⟨rfl, rfl, rfl⟩
    case round =>
      obtain ⟨rfl, rfl, rfl⟩ := hrel
      go_wp2_with fail
      go_ret3
      exact ⟨_, 0, false, rfl, H1.out, .inl ⟨rfl, rfl, rfl, rfl⟩⟩
  · cases ho

set_option maxRecDepth 100000 in
set_option maxHeartbeats 800000 in
theorem refGetList_any (A : Option Addr) (len cap k : Nat) (xs : List Int) (w : World) (hS : S8 w w.heap.size A len cap xs) (_hk : k ≤ 9223372036854775807) (_hl : len ≤ 1000000000) :
    Calls Try.prog 13 #[.slice A len cap, .int .i64 (k : Int)] w (GetLst (getListL xs k) w) := by
  have hG := refGet_any A len cap k xs w hS _hk
  cases hg : getL xs k with
  | none =>
    have e : getListL xs k = none := by unfold getListL; rw [hg]; rfl
    rw [e]
    rw [hg] at hG
    exact refGetList_none A len cap k w hG
  | some r =>
    obtain ⟨n, p⟩ := r
    have e : getListL xs k = getTexts n xs p := by unfold getListL; rw [hg]; rfl
    rw [e]
    rw [hg] at hG
    have hp := getL_some xs hS.bytes k n p hg
    rw [hS.hlen] at hp
    have hp1 := hp.2.2.1
    have hp2 := hp.2.2.2.2
    clear e hg hp
    have HG := Lib.hid hG; clear hG
    have HS := Lib.hid hS; clear hS
    go_enter Try.func13, Try.ntmps13
    go_wp2_with fail
    refine HG.out.mono ?_
    rintro e w1 ⟨v', p', ok, rfl, h1, h2⟩
    have H1 := Lib.hid h1; clear h1
    rcases h2 with ⟨ho, -, -, -⟩ | ⟨ho, rfl⟩
    · cases ho
    obtain ⟨rfl, rfl⟩ : n = v' ∧ p = p' := by cases ho; exact ⟨rfl, rfl⟩
    clear ho
    go_wp2_with fail
    go_loopw [8, 9, 10, 11, 12, 13, 14] (fun t8 t9 t10 t11 _ _ _ wr => ∃ (ok : Bool) (i q : Nat) (l : List (List Int)), i ≤ n ∧ q ≤ len ∧ t8 = .int .i64 (q : Int) ∧ t9 = .bool ok ∧ t11 = .int .i64 (i : Int) ∧
        Hid (OwnT wr w.heap.size t10 (l.map strOfNums) ∧ Below w.heap.size w wr ∧ (ok = false → getTexts n xs p = none) ∧ (ok = true → l.length = i ∧ p + i ≤ q ∧ getTexts n xs p = (getTexts (n - i) xs q).map (fun y => (l ++ y.1, y.2)))))
      (fun _ _ _ t11 _ _ _ _ => n - (intOf t11).toNat)
    case atStart => exact ⟨true, 0, p, [], by omega, by omega, rfl, rfl, rfl, Lib.hid ⟨Own.nil _ _ _ _, H1.out, (fun h => by cases h), fun _ => ⟨rfl, by omega, by simp⟩⟩⟩
    case round =>
      obtain ⟨ok, i, q, l, hi, hq, rfl, rfl, rfl, HM⟩ := hrel
      cases ok with
      | false =>
        go_wp2_with fail
        all_goals go_ret3
        all_goals exact ⟨_, 0, false, rfl, HM.out.2.1, .inl ⟨HM.out.2.2.1 (by simp), rfl, rfl, rfl⟩⟩
      | true =>
        by_cases hlt : i < n
        · have hii : (i : Int) < (n : Int) := by omega
          have hll : l.length ≤ 1000000000 := by have := HM.out.2.2.2 (by simp); omega
          have hsz1 := HM.out.2.1.size
          have HT := Lib.hid (refGetText_any A len cap q xs wr ((HS.out.below HM.out.2.1 (Nat.le_refl _)).mono hsz1) (by omega))
          go_wp2_with fail
          refine HT.out.mono ?_
          rintro e w2 ⟨s, q2, ok2, rfl, h1, h2⟩
          have HO2 := Lib.hid (HM.out.1.below h1 (Nat.le_refl _))
          have hbl := HM.out.2.1.trans (h1.mono hsz1)
          have HB2 := Lib.hid hbl; clear hbl h1
          rcases h2 with ⟨ho, rfl, rfl, rfl⟩ | ⟨ho, rfl⟩
          · have HOO := Lib.hid ho; clear ho
            go_wp2_with (at_builtin; refine wpList_app Elem.str encStr rfl (.tmp 39) (.tmp 41) rfl w.heap.size _ (l.map strOfNums) rfl (HO2.out.alloc _) ⟨w2.heap.size, 0, none⟩ 1 1 [strOfNums []] rfl rfl ?_ ?_ ?_ ?_ ?_; exact cells_new _ _ _ rfl; (rw [List.length_map]; omega); (rw [List.length_map]; unfold maxLen; omega); (have := HB2.out.size; simp; omega); intro v3 w3 h1 h2; have H3 := Lib.hid h1; clear h1; have H4 := Lib.hid h2; clear h2)
            go_roundw
            case rel =>
              refine ⟨false, i + 1, 0, l ++ [[]], by omega, by omega, rfl, rfl, by go_num, Lib.hid ⟨by rw [List.map_append]; exact H3.out, (HB2.out.alloc HB2.out.size _).trans H4.out, fun _ => ?_, fun h => by cases h⟩⟩
              rw [(HM.out.2.2.2 (by simp)).2.2, getTexts_step n i hlt, HOO.out]; rfl
            case measure => simp [intOf]; omega
          · have hq2 := (getTextL_some xs HS.out.bytes q q2 s ho).2
            rw [HS.out.hlen] at hq2
            obtain ⟨hq3, hq4⟩ := hq2
            have HOO := Lib.hid ho; clear ho
            go_wp2_with (at_builtin; refine wpList_app Elem.str encStr rfl (.tmp 39) (.tmp 41) rfl w.heap.size _ (l.map strOfNums) rfl (HO2.out.alloc _) ⟨w2.heap.size, 0, none⟩ 1 1 [strOfNums s] rfl rfl ?_ ?_ ?_ ?_ ?_; exact cells_new _ _ _ rfl; (rw [List.length_map]; omega); (rw [List.length_map]; unfold maxLen; omega); (have := HB2.out.size; simp; omega); intro v3 w3 h1 h2; have H3 := Lib.hid h1; clear h1; have H4 := Lib.hid h2; clear h2)
            go_roundw
            case rel =>
              refine ⟨true, i + 1, q2, l ++ [s], by omega, by omega, rfl, rfl, by go_num, Lib.hid ⟨by rw [List.map_append]; exact H3.out, (HB2.out.alloc HB2.out.size _).trans H4.out, (fun h => by cases h), fun _ => ⟨?_, ?_, ?_⟩⟩⟩
              · rw [List.length_append, (HM.out.2.2.2 (by simp)).1]; rfl
              · have := (HM.out.2.2.2 (by simp)).2.1; omega
              · rw [(HM.out.2.2.2 (by simp)).2.2, getTexts_step n i hlt, HOO.out]
                simp only [Option.bind_some]
                cases getTexts (n - (i + 1)) xs q2 with
                | none => rfl
                | some y => simp
            case measure => simp [intOf]; omega
        · have hii : ¬ (i : Int) < (n : Int) := by omega
          have hin : n - i = 0 := by omega
          have HIN := Lib.hid hin; clear hin
          go_wp2_with fail
          go_ret3
          refine ⟨_, q, true, rfl, HM.out.2.1, .inr ⟨l, ?_, rfl, HM.out.1⟩⟩
          rw [(HM.out.2.2.2 (by simp)).2.2, HIN.out]; simp [getTexts]
end Go.Proofs.Ytlghholonjmeaaa
