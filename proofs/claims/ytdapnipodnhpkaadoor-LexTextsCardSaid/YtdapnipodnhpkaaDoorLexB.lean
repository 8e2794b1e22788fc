/-
  Layer 4, the program: bytes of a kind, taken as far as they go; blanks; a text that stands there; names.
-/
import Derived.Test.YtdapnipodnhpkaaDoorLexA
import Derived.Test.YtdapnipodnhpkaaDoorShelf
namespace Go.Proofs.YtdapnipodnhpkaaDoor
open Go.RowKit

theorem ext_sbL (s : ByteArray) (a m : Nat) : sb (s.extract a (a + m)) = ((sb s).drop a).take m := by
  unfold sb; rw [← List.map_drop, ← List.map_take]; congr 1
  rw [ByteArray.data_extract, Array.toList_extract]
  rw [List.extract_eq_take_drop]
  congr 1; omega
/-- What stands at the reader's place and behind. -/
def restL (s : ByteArray) (k : Nat) : List Int := (sb s).drop k
theorem length_restL (s : ByteArray) (k : Nat) : (restL s k).length = s.size - k := by unfold restL; rw [List.length_drop, length_sb]
theorem restL_at (s : ByteArray) (k m : Nat) (h : k + m < s.size) : (restL s k)[m]? = some ((s[k + m].toNat : Nat) : Int) := by unfold restL; rw [List.getElem?_drop, sb_at s _ h]
theorem restL_take (s : ByteArray) (k m : Nat) (h : k + m < s.size) : (restL s k).take (m + 1) = (restL s k).take m ++ [((s[k + m].toNat : Nat) : Int)] := by
  rw [List.take_add_one, restL_at s k m h]; rfl
theorem restL_cut (s : ByteArray) (k m : Nat) : s.extract k (k + m) = strOfNums ((restL s k).take m) := by
  rw [← str_sb (s.extract k (k + m)), ext_sbL]; rfl
theorem restL_drop (s : ByteArray) (k m : Nat) : (restL s k).drop m = restL s (k + m) := by unfold restL; rw [List.drop_drop]
theorem restL_bd (s : ByteArray) (k : Nat) : Bytes (restL s k) := fun a ha => sb_bd s a (List.mem_of_mem_drop ha)
/-- How far it is to the end: for a loop's measure. -/
def lxm (b n : Nat) (w : World) : Nat := n - (match w.cell? ⟨b, 1, none⟩ with | some (.int _ m) => m.toNat | _ => 0)
theorem LxAt.lxm {w : World} {b : Nat} {s : ByteArray} {k : Nat} (h : LxAt w b s k) (n : Nat) : lxm b n w = n - k := by
  unfold Go.Proofs.YtdapnipodnhpkaaDoor.lxm; rw [h.facts.2]; rfl
/-- What such a span leaves. -/
def Took (p : Int → Bool) (s : ByteArray) (b k : Nat) (w : World) (e : Ending) (w' : World) : Prop :=
  w.grownBy w' (some b) ∧ e = .returned (.string (strOfNums ((restL s k).takeWhile p))) ∧ LxAt w' b s (k + ((restL s k).takeWhile p).length)
theorem took_end {p : Int → Bool} {s : ByteArray} {b k m : Nat} {w wr : World} (hg : w.grownBy wr (some b)) (hall : ∀ x ∈ (restL s k).take m, p x = true) (hstop : ∀ x, (restL s k)[m]? = some x → p x = false) (hm : k + m ≤ s.size)
    (hr : LxAt wr b s (k + m)) (e : Ending) (he : e = .returned (.string (s.extract k (k + m)))) : Took p s b k w e wr := by
  have hsp := span_stop p (restL s k) m hall hstop
  have hlen : ((restL s k).take m).length = m := by rw [List.length_take, length_restL]; omega
  refine ⟨hg, ?_, ?_⟩
  · rw [hsp, he, restL_cut]
  · rw [hsp, hlen]; exact hr

set_option maxRecDepth 100000 in
set_option maxHeartbeats 800000 in
theorem whileBlank_any (b : Nat) (s : ByteArray) (k : Nat) (w : World) (h : LxAt w b s k) (_hs : s.size ≤ 1000000) (_hk : k ≤ s.size) :
    Calls Tryd.prog 18 #[.pointer (some ⟨b, 0, none⟩), .func (.func 19) #[] #[]] w (Took isBl s b k w) := by
  have HR := Lib.hid h
  obtain ⟨c0, c1⟩ := h.facts
  clear h
  go_enter Tryd.func18, Tryd.ntmps18
  go_wp2_with fail
  clear c0 c1
  go_loopw [] (fun wr => ∃ m : Nat, k + m ≤ s.size ∧ Hid (∀ x ∈ (restL s k).take m, isBl x = true) ∧ Hid (LxAt wr b s (k + m)) ∧ Hid (w.grownBy wr (some b)))
    (fun wr => lxm b s.size wr)
  case atStart => exact ⟨0, by omega, Lib.hid (by simp), HR, Lib.hid (grownBy.refl' _ _)⟩
  case round =>
    obtain ⟨m, hkm, HM, HRD, HG⟩ := hrel
    obtain ⟨c0, c1⟩ := HRD.out.facts
    have f1 := HRD.out.frozen 1
    obtain ⟨p, hp⟩ : ∃ p : Nat, k + m = p := ⟨_, rfl⟩
    rw [hp] at c1
    have hz1 : (0 : Int) ≤ (k : Int) := by omega
    have hz2 : (k : Int) ≤ (p : Int) := by omega
    have hz3 : (p : Int) ≤ (s.size : Int) := by omega
    have hz4 : (0 : Int) ≤ (p : Int) := by omega
    by_cases hlt : p < s.size
    · have hlt2 : (p : Int) < (s.size : Int) := by omega
      obtain ⟨a, ha⟩ : ∃ a : Int, (s[p].toNat : Int) = a := ⟨_, rfl⟩
      have ha1 : 0 ≤ a ∧ a ≤ 255 := by have := s[p].toNat_lt; omega
      have hnx : (restL s k).take (m + 1) = (restL s k).take m ++ [a] := by subst hp; rw [restL_take s k m hlt, ha]
      have hat : (restL s k)[m]? = some a := by subst hp; rw [restL_at s k m hlt, ha]
      have HNX := Lib.hid hnx; clear hnx
      have HAT := Lib.hid hat; clear hat
      have HP := Lib.hid hp; clear hp
      by_cases hc : isBl a = true
      · have hall := all_snoc HM.out hc
        rw [← HNX.out] at hall
        have HALL := Lib.hid hall; clear hall
        go_wp2_with fail
        go_quiet ((go_at_call 19; exact quiet_call (lexBlank_any _ (by omega) (by omega) _)))
        go_wp2_with fail
        go_roundw
        case rel =>
          refine ⟨m + 1, by have := HP.out; omega, HALL, Lib.hid ?_, Lib.hid (grownBy.setCell' (grownBy.drewN' HG.out _) _ _)⟩
          rw [show k + (m + 1) = p + 1 from by have := HP.out; omega]
          exact (HRD.out.drewN _).setK (p + 1)
        case measure =>
          have h1 := ((HRD.out.drewN nq).setK (p + 1)).lxm s.size
          have h2 := HRD.out.lxm s.size
          have h3 := HP.out
          rw [h2]
          refine Nat.lt_of_le_of_lt (Nat.le_of_eq h1) (by omega)
      · have hc' : isBl a = false := by simpa using hc
        clear hc
        go_wp2_with fail
        go_quiet ((go_at_call 19; exact quiet_call (lexBlank_any _ (by omega) (by omega) _)))
        go_wp2_with fail
        go_quiet (fail)
        go_wp2_with fail
        go_ret
        have h3 := HP.out
        exact took_end (grownBy.drewN' (grownBy.drewN' HG.out _) _) HM.out (fun x hx => by rw [HAT.out] at hx; injection hx with hx; rw [← hx]; exact hc') (by omega) ((HRD.out.drewN _).drewN _) _ (by rw [h3]; rfl)
    · have hlt2 : ¬ (p : Int) < (s.size : Int) := by omega
      have HP := Lib.hid hp; clear hp
      go_wp2_with fail
      go_quiet (fail)
      go_wp2_with fail
      go_quiet (fail)
      go_wp2_with fail
      go_ret
      have h3 := HP.out
      exact took_end (grownBy.drewN' (grownBy.drewN' HG.out _) _) HM.out (fun x hx => by have h1 := (List.getElem?_eq_some_iff.1 hx).1; rw [length_restL] at h1; omega) (by omega) ((HRD.out.drewN _).drewN _) _ (by rw [h3]; rfl)

set_option maxRecDepth 100000 in
set_option maxHeartbeats 800000 in
theorem whileDigit_any (b : Nat) (s : ByteArray) (k : Nat) (w : World) (h : LxAt w b s k) (_hs : s.size ≤ 1000000) (_hk : k ≤ s.size) :
    Calls Tryd.prog 18 #[.pointer (some ⟨b, 0, none⟩), .func (.func 28) #[] #[]] w (Took isNum s b k w) := by
  have HR := Lib.hid h
  obtain ⟨c0, c1⟩ := h.facts
  clear h
  go_enter Tryd.func18, Tryd.ntmps18
  go_wp2_with fail
  clear c0 c1
  go_loopw [] (fun wr => ∃ m : Nat, k + m ≤ s.size ∧ Hid (∀ x ∈ (restL s k).take m, isNum x = true) ∧ Hid (LxAt wr b s (k + m)) ∧ Hid (w.grownBy wr (some b)))
    (fun wr => lxm b s.size wr)
  case atStart => exact ⟨0, by omega, Lib.hid (by simp), HR, Lib.hid (grownBy.refl' _ _)⟩
  case round =>
    obtain ⟨m, hkm, HM, HRD, HG⟩ := hrel
    obtain ⟨c0, c1⟩ := HRD.out.facts
    have f1 := HRD.out.frozen 1
    obtain ⟨p, hp⟩ : ∃ p : Nat, k + m = p := ⟨_, rfl⟩
    rw [hp] at c1
    have hz1 : (0 : Int) ≤ (k : Int) := by omega
    have hz2 : (k : Int) ≤ (p : Int) := by omega
    have hz3 : (p : Int) ≤ (s.size : Int) := by omega
    have hz4 : (0 : Int) ≤ (p : Int) := by omega
    by_cases hlt : p < s.size
    · have hlt2 : (p : Int) < (s.size : Int) := by omega
      obtain ⟨a, ha⟩ : ∃ a : Int, (s[p].toNat : Int) = a := ⟨_, rfl⟩
      have ha1 : 0 ≤ a ∧ a ≤ 255 := by have := s[p].toNat_lt; omega
      have hnx : (restL s k).take (m + 1) = (restL s k).take m ++ [a] := by subst hp; rw [restL_take s k m hlt, ha]
      have hat : (restL s k)[m]? = some a := by subst hp; rw [restL_at s k m hlt, ha]
      have HNX := Lib.hid hnx; clear hnx
      have HAT := Lib.hid hat; clear hat
      have HP := Lib.hid hp; clear hp
      by_cases hc : isNum a = true
      · have hall := all_snoc HM.out hc
        rw [← HNX.out] at hall
        have HALL := Lib.hid hall; clear hall
        go_wp2_with fail
        go_quiet ((go_at_call 28; exact quiet_call (lexDigit_any _ (by omega) (by omega) _)))
        go_wp2_with fail
        go_roundw
        case rel =>
          refine ⟨m + 1, by have := HP.out; omega, HALL, Lib.hid ?_, Lib.hid (grownBy.setCell' (grownBy.drewN' HG.out _) _ _)⟩
          rw [show k + (m + 1) = p + 1 from by have := HP.out; omega]
          exact (HRD.out.drewN _).setK (p + 1)
        case measure =>
          have h1 := ((HRD.out.drewN nq).setK (p + 1)).lxm s.size
          have h2 := HRD.out.lxm s.size
          have h3 := HP.out
          rw [h2]
          refine Nat.lt_of_le_of_lt (Nat.le_of_eq h1) (by omega)
      · have hc' : isNum a = false := by simpa using hc
        clear hc
        go_wp2_with fail
        go_quiet ((go_at_call 28; exact quiet_call (lexDigit_any _ (by omega) (by omega) _)))
        go_wp2_with fail
        go_quiet (fail)
        go_wp2_with fail
        go_ret
        have h3 := HP.out
        exact took_end (grownBy.drewN' (grownBy.drewN' HG.out _) _) HM.out (fun x hx => by rw [HAT.out] at hx; injection hx with hx; rw [← hx]; exact hc') (by omega) ((HRD.out.drewN _).drewN _) _ (by rw [h3]; rfl)
    · have hlt2 : ¬ (p : Int) < (s.size : Int) := by omega
      have HP := Lib.hid hp; clear hp
      go_wp2_with fail
      go_quiet (fail)
      go_wp2_with fail
      go_quiet (fail)
      go_wp2_with fail
      go_ret
      have h3 := HP.out
      exact took_end (grownBy.drewN' (grownBy.drewN' HG.out _) _) HM.out (fun x hx => by have h1 := (List.getElem?_eq_some_iff.1 hx).1; rw [length_restL] at h1; omega) (by omega) ((HRD.out.drewN _).drewN _) _ (by rw [h3]; rfl)

set_option maxRecDepth 100000 in
set_option maxHeartbeats 800000 in
theorem whileWord_any (b : Nat) (s : ByteArray) (k : Nat) (w : World) (h : LxAt w b s k) (_hs : s.size ≤ 1000000) (_hk : k ≤ s.size) :
    Calls Tryd.prog 18 #[.pointer (some ⟨b, 0, none⟩), .func (.func 40) #[] #[]] w (Took isWord s b k w) := by
  have HR := Lib.hid h
  obtain ⟨c0, c1⟩ := h.facts
  clear h
  go_enter Tryd.func18, Tryd.ntmps18
  go_wp2_with fail
  clear c0 c1
  go_loopw [] (fun wr => ∃ m : Nat, k + m ≤ s.size ∧ Hid (∀ x ∈ (restL s k).take m, isWord x = true) ∧ Hid (LxAt wr b s (k + m)) ∧ Hid (w.grownBy wr (some b)))
    (fun wr => lxm b s.size wr)
  case atStart => exact ⟨0, by omega, Lib.hid (by simp), HR, Lib.hid (grownBy.refl' _ _)⟩
  case round =>
    obtain ⟨m, hkm, HM, HRD, HG⟩ := hrel
    obtain ⟨c0, c1⟩ := HRD.out.facts
    have f1 := HRD.out.frozen 1
    obtain ⟨p, hp⟩ : ∃ p : Nat, k + m = p := ⟨_, rfl⟩
    rw [hp] at c1
    have hz1 : (0 : Int) ≤ (k : Int) := by omega
    have hz2 : (k : Int) ≤ (p : Int) := by omega
    have hz3 : (p : Int) ≤ (s.size : Int) := by omega
    have hz4 : (0 : Int) ≤ (p : Int) := by omega
    by_cases hlt : p < s.size
    · have hlt2 : (p : Int) < (s.size : Int) := by omega
      obtain ⟨a, ha⟩ : ∃ a : Int, (s[p].toNat : Int) = a := ⟨_, rfl⟩
      have ha1 : 0 ≤ a ∧ a ≤ 255 := by have := s[p].toNat_lt; omega
      have hnx : (restL s k).take (m + 1) = (restL s k).take m ++ [a] := by subst hp; rw [restL_take s k m hlt, ha]
      have hat : (restL s k)[m]? = some a := by subst hp; rw [restL_at s k m hlt, ha]
      have HNX := Lib.hid hnx; clear hnx
      have HAT := Lib.hid hat; clear hat
      have HP := Lib.hid hp; clear hp
      by_cases hc : isWord a = true
      · have hall := all_snoc HM.out hc
        rw [← HNX.out] at hall
        have HALL := Lib.hid hall; clear hall
        go_wp2_with fail
        go_quiet ((go_at_call 40; exact quiet_call (isOfWord_any _ (by omega) (by omega) _)))
        go_wp2_with fail
        go_roundw
        case rel =>
          refine ⟨m + 1, by have := HP.out; omega, HALL, Lib.hid ?_, Lib.hid (grownBy.setCell' (grownBy.drewN' HG.out _) _ _)⟩
          rw [show k + (m + 1) = p + 1 from by have := HP.out; omega]
          exact (HRD.out.drewN _).setK (p + 1)
        case measure =>
          have h1 := ((HRD.out.drewN nq).setK (p + 1)).lxm s.size
          have h2 := HRD.out.lxm s.size
          have h3 := HP.out
          rw [h2]
          refine Nat.lt_of_le_of_lt (Nat.le_of_eq h1) (by omega)
      · have hc' : isWord a = false := by simpa using hc
        clear hc
        go_wp2_with fail
        go_quiet ((go_at_call 40; exact quiet_call (isOfWord_any _ (by omega) (by omega) _)))
        go_wp2_with fail
        go_quiet (fail)
        go_wp2_with fail
        go_ret
        have h3 := HP.out
        exact took_end (grownBy.drewN' (grownBy.drewN' HG.out _) _) HM.out (fun x hx => by rw [HAT.out] at hx; injection hx with hx; rw [← hx]; exact hc') (by omega) ((HRD.out.drewN _).drewN _) _ (by rw [h3]; rfl)
    · have hlt2 : ¬ (p : Int) < (s.size : Int) := by omega
      have HP := Lib.hid hp; clear hp
      go_wp2_with fail
      go_quiet (fail)
      go_wp2_with fail
      go_quiet (fail)
      go_wp2_with fail
      go_ret
      have h3 := HP.out
      exact took_end (grownBy.drewN' (grownBy.drewN' HG.out _) _) HM.out (fun x hx => by have h1 := (List.getElem?_eq_some_iff.1 hx).1; rw [length_restL] at h1; omega) (by omega) ((HRD.out.drewN _).drewN _) _ (by rw [h3]; rfl)
end Go.Proofs.YtdapnipodnhpkaaDoor
