/-
  Layer 7: values, and what operators make of them, without the program.
-/
import Derived.Test.YtolhmemiknpeaaaGreatDoorAddrU
import Derived.Lib.Bytealg
import Derived.Lib.Small
namespace Go.Proofs.YtolhmemiknpeaaaGreatDoor
open Go.RowKit

/-! Texts beside each other. -/
theorem u8_lt (x y : UInt8) : x < y ↔ x.toNat < y.toNat := UInt8.lt_iff_toNat_lt
theorem cmpB_self : ∀ a : List UInt8, Lib.compareBytes a a = 0
  | [] => rfl
  | x :: a => by unfold Lib.compareBytes; rw [if_neg (UInt8.lt_irrefl x), if_neg (UInt8.lt_irrefl x)]; exact cmpB_self a
theorem cmpB_three : ∀ a b : List UInt8, Lib.compareBytes a b = -1 ∨ Lib.compareBytes a b = 0 ∨ Lib.compareBytes a b = 1
  | [], [] => .inr (.inl rfl)
  | [], _ :: _ => .inl rfl
  | _ :: _, [] => .inr (.inr rfl)
  | x :: a, y :: b => by
    unfold Lib.compareBytes
    by_cases h : x < y
    · rw [if_pos h]; exact .inl rfl
    · by_cases h2 : y < x
      · rw [if_neg h, if_pos h2]; exact .inr (.inr rfl)
      · rw [if_neg h, if_neg h2]; exact cmpB_three a b
theorem u8_asymm {x y : UInt8} (h : x < y) : ¬ y < x := by rw [u8_lt] at h ⊢; omega
theorem u8_same {x y : UInt8} (h : ¬ x < y) (h2 : ¬ y < x) : x = y := UInt8.toNat_inj.1 (by rw [u8_lt] at h h2; omega)
theorem u8_tr {x y z : UInt8} (h : x < y) (h2 : ¬ z < y) : x < z := by rw [u8_lt] at h h2 ⊢; omega
theorem u8_tr2 {x y z : UInt8} (h : ¬ y < x) (h2 : y < z) : x < z := by rw [u8_lt] at h h2 ⊢; omega
theorem cmpB_flip : ∀ a b : List UInt8, Lib.compareBytes b a = - Lib.compareBytes a b
  | [], [] => rfl
  | [], _ :: _ => rfl
  | _ :: _, [] => rfl
  | x :: a, y :: b => by
    unfold Lib.compareBytes
    have ih := cmpB_flip a b
    by_cases h : x < y
    · rw [if_pos h, if_neg (u8_asymm h), if_pos h]; rfl
    · by_cases h2 : y < x
      · rw [if_pos h2, if_neg h, if_pos h2]
      · rw [if_neg h2, if_neg h, if_neg h, if_neg h2]; exact ih
theorem cmpB_eq : ∀ a b : List UInt8, Lib.compareBytes a b = 0 → a = b
  | [], [], _ => rfl
  | [], _ :: _, h => by cases h
  | _ :: _, [], h => by cases h
  | x :: a, y :: b, h => by
    unfold Lib.compareBytes at h
    by_cases h1 : x < y
    · rw [if_pos h1] at h; cases h
    · by_cases h2 : y < x
      · rw [if_neg h1, if_pos h2] at h; cases h
      · rw [if_neg h1, if_neg h2] at h
        rw [u8_same h1 h2, cmpB_eq a b h]
theorem cmpB_trans : ∀ a b c : List UInt8, Lib.compareBytes a b ≤ 0 → Lib.compareBytes b c ≤ 0 → Lib.compareBytes a c ≤ 0
  | [], _, [], _, _ => by decide
  | [], _, _ :: _, _, _ => by show (-1 : Int) ≤ 0; decide
  | _ :: _, [], _, h, _ => by exact absurd h (by show ¬ (1 : Int) ≤ 0; decide)
  | _ :: _, _ :: _, [], _, h => by exact absurd h (by show ¬ (1 : Int) ≤ 0; decide)
  | x :: a, y :: b, z :: c, h1, h2 => by
    have ih := cmpB_trans a b c
    unfold Lib.compareBytes at h1 h2 ⊢
    by_cases p1 : x < y
    · by_cases p3 : z < y
      · rw [if_neg (u8_asymm p3), if_pos p3] at h2; exact absurd h2 (by decide)
      · rw [if_pos (u8_tr p1 p3)]; decide
    · by_cases p3 : y < x
      · rw [if_neg p1, if_pos p3] at h1; exact absurd h1 (by decide)
      · rw [if_neg p1, if_neg p3] at h1
        by_cases p2 : y < z
        · rw [if_pos (u8_tr2 p3 p2)]; decide
        · by_cases p4 : z < y
          · rw [if_neg p2, if_pos p4] at h2; exact absurd h2 (by decide)
          · rw [if_neg p2, if_neg p4] at h2
            have e := u8_same p1 p3
            subst e
            rw [if_neg p2, if_neg p4]
            exact ih h1 h2
theorem less_cmpB : ∀ a b : List UInt8, Op.bytesLess a b = decide (Lib.compareBytes a b < 0)
  | [], [] => rfl
  | [], _ :: _ => rfl
  | _ :: _, [] => rfl
  | x :: a, y :: b => by
    have ih := less_cmpB a b
    unfold Lib.compareBytes
    rw [Op.bytesLess, ih]
    by_cases h : x < y
    · rw [if_pos h]; simp [h]
    · by_cases h2 : y < x
      · rw [if_neg h, if_pos h2]
        have : ¬ x = y := fun e => by subst e; exact UInt8.lt_irrefl _ h2
        simp [h, this]
      · rw [if_neg h, if_neg h2]
        have e := u8_same h h2
        subst e
        simp [h]
theorem cmpI_three (x y : Int) : Lib.compareInt x y = -1 ∧ x < y ∨ Lib.compareInt x y = 0 ∧ x = y ∨ Lib.compareInt x y = 1 ∧ y < x := by
  unfold Lib.compareInt
  by_cases h : x < y
  · rw [if_pos h]; exact .inl ⟨rfl, h⟩
  · by_cases h2 : x > y
    · rw [if_neg h, if_pos h2]; exact .inr (.inr ⟨rfl, h2⟩)
    · rw [if_neg h, if_neg h2]; exact .inr (.inl ⟨rfl, by omega⟩)

/-! Values. -/
structure Vl where
  k : Int
  n : Int
  s : ByteArray
/-- A value as cells. -/
def vlA (v : Vl) : Array Value := #[.int .i64 v.k, .int .i64 v.n, .string v.s]
def Vl.none : Vl := ⟨0, 0, ⟨#[]⟩⟩
def Vl.num (n : Int) : Vl := ⟨1, n, ⟨#[]⟩⟩
def Vl.text (s : ByteArray) : Vl := ⟨2, 0, s⟩
def Vl.truth (b : Bool) : Vl := ⟨3, if b = true then 1 else 0, ⟨#[]⟩⟩
def Vl.err (e : Int) : Vl := ⟨4, e, ⟨#[]⟩⟩
theorem Vl.ext {v u : Vl} (h1 : v.k = u.k) (h2 : v.n = u.n) (h3 : v.s = u.s) : v = u := by
  obtain ⟨_, _, _⟩ := v; obtain ⟨_, _, _⟩ := u; subst h1; subst h2; subst h3; rfl
/-- The errors' texts, by their numbers. -/
def errTs : List ByteArray := [⟨#[]⟩, ⟨#[35, 86, 65, 76, 85, 69, 33]⟩, ⟨#[35, 78, 85, 77, 33]⟩, ⟨#[35, 68, 73, 86, 48, 33]⟩, ⟨#[35, 82, 69, 70, 33]⟩, ⟨#[35, 78, 65, 77, 69, 33]⟩, ⟨#[35, 67, 89, 67, 76, 69, 33]⟩]
def errT (n : Int) : ByteArray := if n < 0 ∨ 7 ≤ n then ⟨#[]⟩ else errTs.getD n.toNat ⟨#[]⟩
def textV (v : Vl) : ByteArray :=
  if v.k = 1 then strOfNums (decL v.n) else if v.k = 2 then v.s else if v.k = 3 then (if v.n = 1 then ⟨#[84, 82, 85, 69]⟩ else ⟨#[70, 65, 76, 83, 69]⟩) else if v.k = 4 then errT v.n else ⟨#[]⟩
def intV (v : Vl) : Int := if v.k = 1 then v.n else 0
def isInt (v : Vl) : Bool := decide (v.k = 0 ∨ v.k = 1)
def truthV (v : Vl) : Bool := if v.k = 1 then decide (¬ v.n = 0) else if v.k = 3 then decide (v.n = 1) else false
def isTruth (v : Vl) : Bool := decide (v.k = 0 ∨ v.k = 1 ∨ v.k = 3)
/-- A number, if it goes into 64 bits. -/
def fitV (n : Int) : Vl := if -9223372036854775808 ≤ n ∧ n ≤ 9223372036854775807 then .num n else .err 2
def negV (v : Vl) : Vl := if v.k = 4 then v else if isInt v = true then fitV (-intV v) else .err 1
def asV (v o : Vl) : Vl := if v.k = 0 then ⟨o.k, 0, ⟨#[]⟩⟩ else v
/-- Below 0, 0, above 0. -/
def cmpV (a b : Vl) : Int :=
  if ¬ (asV a b).k = (asV b a).k then Lib.compareInt (asV a b).k (asV b a).k
  else if (asV a b).k = 2 then Lib.compareBytes (asV a b).s.data.toList (asV b a).s.data.toList
  else Lib.compareInt (asV a b).n (asV b a).n
def sumV (x y : Int) : Vl := fitV (x + y)
def subV (x y : Int) : Vl := fitV (x - y)
def mulV (x y : Int) : Vl := fitV (x * y)
def divV (x y : Int) : Vl := if y = 0 then .err 3 else fitV (x.tdiv y)
def reckV (f : Int → Int → Vl) (a b : Vl) : Vl := if isInt a = true then (if isInt b = true then f (intV a) (intV b) else .err 1) else .err 1
def joinV (a b : Vl) : Vl := if 200 < (textV a).size + (textV b).size then .err 1 else .text (textV a ++ textV b)
/-- What an operator makes of two values that are no errors. -/
def opV (kind : Int) (a b : Vl) : Vl :=
  if kind = 9 then .truth (decide (cmpV a b = 0)) else if kind = 10 then .truth (decide (¬ cmpV a b = 0)) else if kind = 11 then .truth (decide (cmpV a b < 0)) else if kind = 12 then .truth (decide (cmpV a b ≤ 0))
  else if kind = 13 then .truth (decide (0 < cmpV a b)) else if kind = 14 then .truth (decide (0 ≤ cmpV a b)) else if kind = 15 then joinV a b
  else if kind = 16 then reckV sumV a b else if kind = 17 then reckV subV a b else if kind = 18 then reckV mulV a b else if kind = 19 then reckV divV a b else .err 1
def twoV (kind : Int) (a b : Vl) : Vl := if a.k = 4 then a else if b.k = 4 then b else opV kind a b
/-- It is one that others make. -/
def mayV (v : Vl) : Bool :=
  if v.k = 0 then decide (v.n = 0 ∧ v.s = ⟨#[]⟩) else if v.k = 1 then decide (v.s = ⟨#[]⟩) else if v.k = 2 then decide (v.n = 0 ∧ v.s.size ≤ 200) else if v.k = 3 then decide (v.s = ⟨#[]⟩ ∧ (v.n = 0 ∨ v.n = 1))
  else if v.k = 4 then decide (v.s = ⟨#[]⟩ ∧ 1 ≤ v.n ∧ v.n ≤ 6) else false

/-! What goes round. -/
def wr64 (n : Int) : Int := IntKind.i64.wrap n
theorem wr64_is (n : Int) : wr64 n = wrap64 n := IntWalk.i64_left n
theorem wr64_in (n : Int) (h : -9223372036854775808 ≤ n) (h2 : n ≤ 9223372036854775807) : wr64 n = n := by rw [wr64_is]; unfold wrap64; omega
theorem fit_in {n : Int} (h : -9223372036854775808 ≤ n) (h2 : n ≤ 9223372036854775807) : fitV n = .num n := if_pos ⟨h, h2⟩
theorem fit_out {n : Int} (h : ¬ (-9223372036854775808 ≤ n ∧ n ≤ 9223372036854775807)) : fitV n = .err 2 := if_neg h
/-- The program's look at a sum. -/
theorem sum_fit (a b : Int) (ha : -9223372036854775808 ≤ a) (ha2 : a ≤ 9223372036854775807) (hb : -9223372036854775808 ≤ b) (hb2 : b ≤ 9223372036854775807) :
    (decide (wr64 (a + b) < a) == decide (b < 0)) = decide (-9223372036854775808 ≤ a + b ∧ a + b ≤ 9223372036854775807) := by
  rw [wr64_is, Bool.beq_eq_decide_eq, decide_eq_decide, decide_eq_decide]
  unfold wrap64; omega
theorem sub_fit (a b : Int) (ha : -9223372036854775808 ≤ a) (ha2 : a ≤ 9223372036854775807) (hb : -9223372036854775808 ≤ b) (hb2 : b ≤ 9223372036854775807) :
    (decide (a < wr64 (a - b)) == decide (b < 0)) = decide (-9223372036854775808 ≤ a - b ∧ a - b ≤ 9223372036854775807) := by
  rw [wr64_is, Bool.beq_eq_decide_eq, decide_eq_decide, decide_eq_decide]
  unfold wrap64; omega
/-- A product that went round is told by a division. -/
theorem mul_back (a b : Int) (hb : -9223372036854775808 ≤ b) (hb2 : b ≤ 9223372036854775807) (h0 : ¬ b = 0) :
    ((wr64 (a * b)).tdiv b = a) ↔ (-9223372036854775808 ≤ a * b ∧ a * b ≤ 9223372036854775807) := by
  constructor
  · intro h
    obtain ⟨k, hk⟩ : ∃ k : Int, wr64 (a * b) = a * b - k * 18446744073709551616 := ⟨(a * b + 9223372036854775808) / 18446744073709551616, by rw [wr64_is]; unfold wrap64; omega⟩
    have hr := Int.mul_tdiv_add_tmod (wr64 (a * b)) b
    rw [h, Int.mul_comm b a] at hr
    have h1 : ((wr64 (a * b)).tmod b).natAbs < b.natAbs := by rw [Int.natAbs_tmod]; exact Nat.mod_lt _ (by omega)
    have hk2 : k = 0 := by omega
    rw [hk2] at hk
    have hb3 : -9223372036854775808 ≤ wr64 (a * b) ∧ wr64 (a * b) ≤ 9223372036854775807 := by rw [wr64_is]; unfold wrap64; omega
    omega
  · rintro ⟨h1, h2⟩
    rw [wr64_in _ h1 h2, Int.mul_tdiv_cancel a h0]
theorem tdiv_in (a b : Int) (ha : -9223372036854775808 ≤ a) (ha2 : a ≤ 9223372036854775807) (h0 : ¬ b = 0) (h1 : ¬ b = -1) : -9223372036854775808 ≤ a.tdiv b ∧ a.tdiv b ≤ 9223372036854775807 := by
  have h : (a.tdiv b).natAbs = a.natAbs / b.natAbs := Int.natAbs_tdiv a b
  have h2 : a.natAbs / b.natAbs ≤ a.natAbs := Nat.div_le_self _ _
  by_cases hm : a = -9223372036854775808
  · subst hm
    by_cases hb : b = 1
    · subst hb; decide
    · have h3 : 2 ≤ b.natAbs := by omega
      have h4 : (-9223372036854775808 : Int).natAbs / b.natAbs ≤ (-9223372036854775808 : Int).natAbs / 2 := Nat.div_le_div_left h3 (by decide)
      have h5 : (-9223372036854775808 : Int).natAbs / 2 = 4611686018427387904 := by decide
      omega
  · omega
end Go.Proofs.YtolhmemiknpeaaaGreatDoor
