/-
  PutList, the reference's GetList, Texts, heavy, awake.
-/
import Derived.Test.YtlghholonjmeaaaCodeA
import Derived.Test.YtlghholonjmeaaaCodeF
namespace Go.Proofs.Ytlghholonjmeaaa
open Go.RowKit

/-- A SLICE OF TEXTS THAT READS AS ss, whoever made it, below block B (nil let in). -/
structure ST (w : World) (B : Nat) (A : Option Addr) (len cap : Nat) (ss : List ByteArray) : Prop where
  hlen : ss.length = len
  le : len ≤ cap
  max : cap ≤ maxLen
  at_ : len = 0 ∨ ∃ pb po, A = some ⟨pb, po, none⟩ ∧ pb < B ∧ ∀ j, j < len → w.cell? ⟨pb, po + j, none⟩ = some (.string (ss.getD j ⟨#[]⟩))
theorem ST.below {w w' : World} {B C : Nat} {A : Option Addr} {len cap : Nat} {ss : List ByteArray} (h : ST w B A len cap ss) (hb : Below C w w') (hC : B ≤ C) : ST w' B A len cap ss :=
  ⟨h.hlen, h.le, h.max, by
    rcases h.at_ with h1 | ⟨pb, po, h1, h2, h3⟩
    · exact .inl h1
    · exact .inr ⟨pb, po, h1, h2, fun j hj => (hb.cell (p := ⟨pb, po + j, none⟩) (by show pb < C; omega)).trans (h3 j hj)⟩⟩
theorem ST.mono {w : World} {B C : Nat} {A : Option Addr} {len cap : Nat} {ss : List ByteArray} (h : ST w B A len cap ss) (hC : B ≤ C) : ST w C A len cap ss :=
  ⟨h.hlen, h.le, h.max, by
    rcases h.at_ with h1 | ⟨pb, po, h1, h2, h3⟩
    · exact .inl h1
    · exact .inr ⟨pb, po, h1, by omega, h3⟩⟩
theorem ST.drewN {w : World} {B : Nat} {A : Option Addr} {len cap : Nat} {ss : List ByteArray} (h : ST w B A len cap ss) (n : Nat) : ST (w.drewN n) B A len cap ss := ⟨h.hlen, h.le, h.max, h.at_⟩
theorem ST.cell {w : World} {B : Nat} {A : Option Addr} {len cap : Nat} {ss : List ByteArray} (h : ST w B A len cap ss) (j : Nat) (hj : j < len) : ∃ pb po, A = some ⟨pb, po, none⟩ ∧ pb < B ∧ w.cell? ⟨pb, po + j, none⟩ = some (.string (ss.getD j ⟨#[]⟩)) := by
  rcases h.at_ with h | ⟨pb, po, h1, h2, h3⟩
  · omega
  · exact ⟨pb, po, h1, h2, h3 j hj⟩
theorem Own.st {w : World} {base : Nat} {v : Value} {ss : List ByteArray} (h : OwnT w base v ss) : ∃ A cap, v = .slice A ss.length cap ∧ ST w w.heap.size A ss.length cap ss := by
  rcases h.shape with ⟨rfl, rfl⟩ | ⟨g, cap, rfl, h1, h2, h3, h4⟩
  · exact ⟨none, 0, rfl, ⟨rfl, Nat.le_refl _, by unfold maxLen; omega, .inl rfl⟩⟩
  · exact ⟨Option.some ⟨g, 0, none⟩, cap, rfl, ⟨rfl, h3, h4, .inr ⟨g, 0, rfl, h2, fun j hj => by
      rw [Nat.zero_add]; apply Own.cells h; rw [all_encStr]
      simp [List.getElem?_eq_getElem hj, List.getD_eq_getElem?_getD]⟩⟩⟩

/-- Lists of texts as lists of lists. -/
def sbs (ss : List ByteArray) : List (List Int) := ss.map sb
theorem length_sbs (ss : List ByteArray) : (sbs ss).length = ss.length := by unfold sbs; simp
theorem flat_take (ss : List ByteArray) (k : Nat) (h : k < ss.length) : (sbs (ss.take (k + 1))).flatMap putTextL = (sbs (ss.take k)).flatMap putTextL ++ putTextL (sb (ss.getD k ⟨#[]⟩)) := by
  unfold sbs
  rw [List.take_add_one, List.getElem?_eq_getElem h, List.map_append, List.flatMap_append]
  simp [List.getD_eq_getElem?_getD, List.getElem?_eq_getElem h]
theorem length_flat (ss : List ByteArray) (m : Nat) (h : ∀ s ∈ ss, s.size ≤ m) : ((sbs ss).flatMap putTextL).length ≤ ss.length * (m + 9) := by
  induction ss with
  | nil => simp [sbs]
  | cons s ss ih =>
    have h1 := ih (fun s hs => h s (by simp [hs]))
    have h2 := h s (by simp)
    have h3 := length_putL (sb s).length
    have h4 : (putTextL (sb s)).length = (putL (sb s).length).length + s.size := by unfold putTextL; rw [List.length_append, length_sb]
    rw [show sbs (s :: ss) = sb s :: sbs ss from rfl, List.flatMap_cons, List.length_append, List.length_cons, Nat.add_mul]
    omega
theorem mem_getD (ss : List ByteArray) (k : Nat) (h : k < ss.length) : ss.getD k ⟨#[]⟩ ∈ ss := by
  rw [List.getD_eq_getElem?_getD, List.getElem?_eq_getElem h]; exact List.getElem_mem h

set_option maxRecDepth 100000 in
set_option maxHeartbeats 400000 in
theorem putList_any (A : Option Addr) (len cap : Nat) (ss : List ByteArray) (w : World) (hS : ST w w.heap.size A len cap ss) (_hl : len ≤ 1000000) (hm : ∀ s ∈ ss, s.size ≤ 900) :
    Calls Try.prog 18 #[.slice A len cap] w fun e w' => ∃ v', e = .returned v' ∧ Own8 w' w.heap.size v' (putListL (sbs ss)) ∧ Below w.heap.size w w' := by
  have HS := Lib.hid hS; clear hS
  have hf : ∀ k, ((sbs (ss.take k)).flatMap putTextL).length ≤ 1000000 * 909 := by
    intro k
    have h1 := length_flat (ss.take k) 900 (fun s hs => hm s (List.mem_of_mem_take hs))
    have h2 : (ss.take k).length ≤ 1000000 := by rw [List.length_take, HS.out.hlen]; omega
    have h3 : (ss.take k).length * (900 + 9) ≤ 1000000 * 909 := Nat.mul_le_mul_right _ h2
    omega
  have HF := Lib.hid hf; clear hf
  have HM := Lib.hid hm; clear hm
  have hp := length_putL len
  have HP := Lib.hid hp; clear hp
  go_enter Try.func18, Try.ntmps18
  go_wp2_with fail
  refine (appendNumber_any w.heap.size _ [] len w (by omega) (Own.nil _ _ _ _) (Nat.le_refl _) (by simp)).mono ?_
  rintro e w1 ⟨v1, rfl, h1, h2⟩
  have H1 := Lib.hid h1; clear h1
  have H2 := Lib.hid h2; clear h2
  go_wp2_with fail
  go_loopw [3, 5, 11] (fun tv _ ti wr => ∃ i : Nat, i ≤ len ∧ ti = .int .i64 (i : Int) ∧ Own8 wr w.heap.size tv (putL len ++ (sbs (ss.take i)).flatMap putTextL) ∧ Below w.heap.size w wr)
    (fun _ _ ti _ => len - (intOf ti).toNat)
  case atStart => exact ⟨0, by omega, rfl, by simpa [sbs] using H1.out, H2.out⟩
  case round =>
    obtain ⟨i, hi, rfl, hown, hbl⟩ := hrel
    have HO := Lib.hid hown; clear hown
    have HB := Lib.hid hbl; clear hbl
    by_cases hlt : i < len
    · have hii : (i : Int) < (len : Int) := by omega
      obtain ⟨pb, po, hA, hpb, hc⟩ := (HS.out.below HB.out (Nat.le_refl _)).cell i hlt
      subst hA
      obtain ⟨s, hs⟩ : ∃ s, s = ss.getD i ⟨#[]⟩ := ⟨_, rfl⟩
      rw [← hs] at hc
      have hsz : s.size ≤ 900 := by rw [hs]; exact HM.out _ (mem_getD ss i (by rw [HS.out.hlen]; exact hlt))
      have HSS := Lib.hid hs; clear hs
      go_wp2_with fail
      refine (appendText_any w.heap.size _ _ s _ (by omega) HO.out HB.out.size (by rw [List.length_append]; have := HF.out i; have := HP.out; omega)).mono ?_
      rintro e w2 ⟨v2, rfl, h1, h2⟩
      have H3 := Lib.hid h1; clear h1
      have H4 := Lib.hid h2; clear h2
      go_wp2_with fail
      go_roundw
      case rel =>
        refine ⟨i + 1, by omega, by go_num, ?_, HB.out.trans H4.out⟩
        rw [flat_take ss i (by rw [HS.out.hlen]; exact hlt), ← HSS.out, ← List.append_assoc]; exact H3.out
      case measure => simp [intOf]; omega
    · have hii : ¬ (i : Int) < (len : Int) := by omega
      have hil : i = len := by omega
      have HIL := Lib.hid hil; clear hil
      go_wp2_with fail
      go_ret
      refine ⟨_, rfl, ?_, HB.out⟩
      have := HO.out
      rw [HIL.out, List.take_of_length_le (by rw [HS.out.hlen]; exact Nat.le_refl _)] at this
      unfold putListL
      rw [length_sbs, HS.out.hlen]; exact this

set_option maxRecDepth 100000 in
set_option maxHeartbeats 400000 in
theorem refPutList_any (A : Option Addr) (len cap : Nat) (ss : List ByteArray) (w : World) (hS : ST w w.heap.size A len cap ss) (_hl : len ≤ 1000000) (hm : ∀ s ∈ ss, s.size ≤ 900) :
    Calls Try.prog 19 #[.slice A len cap] w fun e w' => ∃ v', e = .returned v' ∧ Own8 w' w.heap.size v' (putListL (sbs ss)) ∧ Below w.heap.size w w' := by
  have HS := Lib.hid hS; clear hS
  have hf : ∀ k, ((sbs (ss.take k)).flatMap putTextL).length ≤ 1000000 * 909 := by
    intro k
    have h1 := length_flat (ss.take k) 900 (fun s hs => hm s (List.mem_of_mem_take hs))
    have h2 : (ss.take k).length ≤ 1000000 := by rw [List.length_take, HS.out.hlen]; omega
    have h3 : (ss.take k).length * (900 + 9) ≤ 1000000 * 909 := Nat.mul_le_mul_right _ h2
    omega
  have HF := Lib.hid hf; clear hf
  have HM := Lib.hid hm; clear hm
  have hp := length_putL len
  have HP := Lib.hid hp; clear hp
  go_enter Try.func19, Try.ntmps19
  go_wp2_with fail
  refine (refPut_any len w (by omega)).mono ?_
  rintro e w1 ⟨v1, rfl, h1, h2⟩
  have H1 := Lib.hid h1; clear h1
  have H2 := Lib.hid h2; clear h2
  go_wp2_with fail
  go_loopw [3, 4] (fun tv ti wr => ∃ i : Nat, i ≤ len ∧ ti = .int .i64 (i : Int) ∧ Own8 wr w.heap.size tv (putL len ++ (sbs (ss.take i)).flatMap putTextL) ∧ Below w.heap.size w wr)
    (fun _ ti _ => len - (intOf ti).toNat)
  case atStart => exact ⟨0, by omega, rfl, by simpa [sbs] using H1.out, H2.out⟩
  case round =>
    obtain ⟨i, hi, rfl, hown, hbl⟩ := hrel
    have HO := Lib.hid hown; clear hown
    have HB := Lib.hid hbl; clear hbl
    by_cases hlt : i < len
    · have hii : (i : Int) < (len : Int) := by omega
      obtain ⟨pb, po, hA, hpb, hc⟩ := (HS.out.below HB.out (Nat.le_refl _)).cell i hlt
      subst hA
      obtain ⟨s, hs⟩ : ∃ s, s = ss.getD i ⟨#[]⟩ := ⟨_, rfl⟩
      rw [← hs] at hc
      have hsz : s.size ≤ 900 := by rw [hs]; exact HM.out _ (mem_getD ss i (by rw [HS.out.hlen]; exact hlt))
      have HSS := Lib.hid hs; clear hs
      have hpt : (putTextL (sb s)).length ≤ 909 := by unfold putTextL; rw [List.length_append, length_sb]; have := length_putL s.size; omega
      have HPT := Lib.hid hpt; clear hpt
      go_wp2_with fail
      refine (refPutText_any s _ (by omega)).mono ?_
      rintro e w2 ⟨v2, rfl, h1, h2⟩
      have H3 := Lib.hid h1; clear h1
      have H4 := Lib.hid h2; clear h2
      have hsz2 := HB.out.size
      have HO2 := Lib.hid (HO.out.below H4.out (Nat.le_refl _))
      go_wp2_with (at_builtin; refine wpList_app_src Elem.u8 (encInt .u8) rfl (.tmp 14) (.tmp 19) rfl w.heap.size _ (putL len ++ (sbs (ss.take i)).flatMap putTextL) rfl HO2.out _ _ (putTextL (sb s)) rfl rfl (src_own8 H3.out) ?_ ?_ ?_ ?_; (rw [List.length_append]; have := HF.out i; have := HP.out; have := HPT.out; omega); (rw [List.length_append]; have := HF.out i; have := HP.out; have := HPT.out; unfold maxLen; omega); (have := H4.out.size; omega); intro v3 w3 h1 h2; have H5 := Lib.hid h1; clear h1; have H6 := Lib.hid h2; clear h2)
      go_roundw
      case rel =>
        refine ⟨i + 1, by omega, by go_num, ?_, (HB.out.trans (H4.out.mono hsz2)).trans H6.out⟩
        rw [flat_take ss i (by rw [HS.out.hlen]; exact hlt), ← HSS.out, ← List.append_assoc]; exact H5.out
      case measure => simp [intOf]; omega
    · have hii : ¬ (i : Int) < (len : Int) := by omega
      have hil : i = len := by omega
      have HIL := Lib.hid hil; clear hil
      go_wp2_with fail
      go_ret
      refine ⟨_, rfl, ?_, HB.out⟩
      have := HO.out
      rw [HIL.out, List.take_of_length_le (by rw [HS.out.hlen]; exact Nat.le_refl _)] at this
      unfold putListL
      rw [length_sbs, HS.out.hlen]; exact this

theorem put300 : putL 300 = [172, 2] := by decide +kernel
set_option maxRecDepth 100000 in
set_option maxHeartbeats 400000 in
theorem awake_any (w : World) : Calls Try.prog 7 #[] w fun e w' => e = .returned (.bool true) ∧ Below w.heap.size w w' := by
  go_enter Try.func7, Try.ntmps7
  go_wp2_with fail
  refine (put_any 300 w (by omega)).mono ?_
  rintro e w1 ⟨v1, rfl, h1, h2⟩
  rw [put300] at h1
  obtain ⟨g, cap, rfl, _, hg, hl, hm⟩ := h1.some (by decide)
  have c0 := h1.intCell 0 (by decide)
  have c1 := h1.intCell 1 (by decide)
  simp only [List.getD_cons_zero, List.getD_cons_succ] at c0 c1
  have H2 := Lib.hid h2; clear h2 h1
  go_wp2_with fail
  go_ret
  exact ⟨rfl, H2.out⟩
end Go.Proofs.Ytlghholonjmeaaa
