/-
  'chequerlaw3.AddrBack', given what Text, May and Read answer.
-/
import Derived.Test.YtocoldcgnppfhaaDoorAddrX
namespace Go.Proofs.YtocoldcgnppfhaaDoor
open Go.RowKit

theorem RefAt.alloc {w : World} {b : Nat} {s : ByteArray} {c r : Int} {ac ar : Bool} (h : RefAt w b s c r ac ar) (o : Obj) : RefAt (w.alloc o) b s c r ac ar := h.below ((Below.refl _ _).alloc (Nat.le_refl _) o) h.lt
theorem RefAt.drew {w : World} {b : Nat} {s : ByteArray} {c r : Int} {ac ar : Bool} (h : RefAt w b s c r ac ar) : RefAt w.drew b s c r ac ar := h
theorem RefAt.new' (w : World) (s : ByteArray) (c r : Int) (ac ar : Bool) (b : Nat) (hb : b = w.heap.size) : RefAt (w.alloc (.cells #[.string s, .int .i64 c, .int .i64 r, .bool ac, .bool ar] 23)) b s c r ac ar := by rw [hb]; exact RefAt.new w s c r ac ar
theorem size_textL (s : ByteArray) (c r : Int) (ac ar : Bool) (hs : s.size ≤ 300) : (strOfNums (textL (sb s) c r ac ar)).size ≤ 2000 := by
  rw [strOfNums_size]
  by_cases h : mayL (sb s) c r = true
  · rw [textL_eq _ _ _ _ _ h]
    have hn := mayL_nums h
    have h1 := length_colL c
    have h2 := length_digL (r + 1).toNat
    have h3 : ∀ b, (dol b).length ≤ 1 := by intro b; cases b <;> simp [dol]
    have h4 := h3 ac
    have h5 := h3 ar
    have h6 := length_sb s
    unfold tailL
    split <;> simp only [List.length_append, List.length_cons, List.length_nil] <;> omega
  · unfold textL; rw [if_neg h]; simp
theorem text_same {a b : ByteArray} (h : a.toList = b.toList) : a = b := Decidable.byContradiction fun hn => text_ne a b hn h
theorem back_eq (sx sy : ByteArray) (a b c d : Int) (p1 p2 q1 q2 : Prop) [Decidable p1] [Decidable p2] [Decidable q1] [Decidable q2] (mx : mayL (sb sx) a c = true) (my : mayL (sb sy) b d = true) (W : World) :
    (if sx.toList = sy.toList then if a = b then if c = d then if p1 ↔ q1 then if p2 ↔ q2 then Result.ok (Next.value (Value.bool true)) W else Result.ok (Next.value (Value.bool false)) W else Result.ok (Next.value (Value.bool false)) W else Result.ok (Next.value (Value.bool false)) W else Result.ok (Next.value (Value.bool false)) W else Result.ok (Next.value (Value.bool false)) W) =
      Result.ok (Next.value (Value.bool ((strOfNums (textL (sb sx) a c (decide p1) (decide p2))).toList == (strOfNums (textL (sb sy) b d (decide q1) (decide q2))).toList))) W := by
  have back : (strOfNums (textL (sb sx) a c (decide p1) (decide p2))).toList = (strOfNums (textL (sb sy) b d (decide q1) (decide q2))).toList → sx = sy ∧ a = b ∧ c = d ∧ (p1 ↔ q1) ∧ (p2 ↔ q2) := by
    intro h
    have h1 := text_same h
    have h2 : textL (sb sx) a c (decide p1) (decide p2) = textL (sb sy) b d (decide q1) (decide q2) := by
      rw [← sb_str _ (bytes_textL sx a c (decide p1) (decide p2)), h1, sb_str _ (bytes_textL sy b d (decide q1) (decide q2))]
    obtain ⟨e1, e2, e3, e4, e5⟩ := textL_inj mx my h2
    exact ⟨sb_inj e1, e2, e3, decide_eq_decide.1 e4, decide_eq_decide.1 e5⟩
  have no : ∀ {P : Prop}, ¬ P → ((strOfNums (textL (sb sx) a c (decide p1) (decide p2))).toList = (strOfNums (textL (sb sy) b d (decide q1) (decide q2))).toList → P) → ((strOfNums (textL (sb sx) a c (decide p1) (decide p2))).toList == (strOfNums (textL (sb sy) b d (decide q1) (decide q2))).toList) = false := by
    intro P hP h; rw [beq_eq_false_iff_ne]; exact fun e => hP (h e)
  by_cases h1 : sx.toList = sy.toList
  · rw [if_pos h1]
    by_cases h2 : a = b
    · rw [if_pos h2]
      by_cases h3 : c = d
      · rw [if_pos h3]
        by_cases h4 : p1 ↔ q1
        · rw [if_pos h4]
          by_cases h5 : p2 ↔ q2
          · rw [if_pos h5, text_same h1, h2, h3, decide_eq_decide.2 h4, decide_eq_decide.2 h5, beq_self_eq_true]
          · rw [if_neg h5, no h5 (fun e => (back e).2.2.2.2)]
        · rw [if_neg h4, no h4 (fun e => (back e).2.2.2.1)]
      · rw [if_neg h3, no h3 (fun e => (back e).2.2.1)]
    · rw [if_neg h2, no h2 (fun e => (back e).2.1)]
  · rw [if_neg h1, no h1 (fun e => by rw [(back e).1])]
/-- The law's sheets. -/
def nmL : List ByteArray := [⟨#[]⟩, ⟨#[83]⟩, ⟨#[100, 97, 116, 97, 49]⟩, ⟨#[90, 122, 57]⟩]
theorem nm_may (j : Nat) (hj : j < 4) (c r : Int) (h : 0 ≤ c ∧ c ≤ 701 ∧ 0 ≤ r ∧ r ≤ 998) : mayL (sb (nmL.getD j ⟨#[]⟩)) c r = true := by
  have hd : ∀ j : Nat, j < 4 → (decide (sb (nmL.getD j ⟨#[]⟩) = []) || nameL (sb (nmL.getD j ⟨#[]⟩))) = true := by decide +kernel
  unfold mayL; rw [hd j hj, decide_eq_true h]; rfl
theorem nm_cell (w : World) (t : TypeId) (j : Nat) (hj : j < 4) : (w.alloc (.cells #[.string ⟨#[]⟩, .string ⟨#[83]⟩, .string ⟨#[100, 97, 116, 97, 49]⟩, .string ⟨#[90, 122, 57]⟩] t)).cell? ⟨w.heap.size, j, none⟩ = some (.string (nmL.getD j ⟨#[]⟩)) := by
  have h := cells_new (w := w) #[.string ⟨#[]⟩, .string ⟨#[83]⟩, .string ⟨#[100, 97, 116, 97, 49]⟩, .string ⟨#[90, 122, 57]⟩] t _ rfl j (.string (nmL.getD j ⟨#[]⟩)) (by
    match j, hj with
    | 0, _ => rfl
    | 1, _ => rfl
    | 2, _ => rfl
    | 3, _ => rfl)
  rw [Addr.add_mid, Nat.zero_add] at h
  exact h

end Go.Proofs.YtocoldcgnppfhaaDoor
