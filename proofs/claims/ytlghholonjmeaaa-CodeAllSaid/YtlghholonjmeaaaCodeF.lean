/-
  GetList: the program's and the reference's.
-/
import Derived.Test.YtlghholonjmeaaaCodeE
namespace Go.Proofs.Ytlghholonjmeaaa
open Go.RowKit

/-! Texts. -/
def encStr : Enc ByteArray 1 := { f := fun s => [.string s], len := fun _ => rfl, one := fun _ u hu => by simp at hu; subst hu; rfl }
theorem all_encStr (l : List ByteArray) : encStr.all l = l.map Value.string := by
  unfold Enc.all encStr
  induction l with
  | nil => rfl
  | cons a l ih => rw [List.flatMap_cons, List.map_cons, ih]; rfl
theorem Elem.str : Elem Try.prog 22 9 1 16 := ⟨Try.underlying22, ⟨.string ⟨#[]⟩, by kernel_rfl, rfl⟩, by decide⟩
abbrev OwnT (w : World) (base : Nat) (v : Value) (xs : List ByteArray) : Prop := Own encStr 9 w base v xs
theorem Own.other {α : Type} {size : Nat} {E : Enc α size} {e : TypeId} {w w' : World} {base r : Nat} {v : Value} {xs : List α} (h : Own E e w base v xs) (hg : w.grownBy w' (Option.some r)) (hr : r < base) : Own E e w' base v xs := by
  refine ⟨h.1, ?_⟩
  rcases h.2 with h | ⟨g, cap, cur, h1, h2, h3, h4⟩
  · exact .inl h
  · refine .inr ⟨g, cap, cur, h1, h2, ?_, h4⟩
    rw [hg.block g (Array.getElem?_eq_some_iff.1 h3).1 (by intro h; have : g = r := Option.some.inj h; omega)]; exact h3

theorem grownBy.kept {a w w' : World} {r : Option Nat} (h : a.grownBy w r) (k : Below a.heap.size w w') : a.grownBy w' r :=
  ⟨k.os.trans h.os, k.tape.trans h.tape, k.output.trans h.output, Nat.le_trans h.size k.size, fun j hj hr => (k.block j hj).trans (h.block j hj hr)⟩

/-- What a reader of a list leaves. -/
def LstPost (o : Option (List (List Int) × Nat)) (r : Nat) (A : Option Addr) (len cap : Nat) (w : World) (e : Ending) (w' : World) : Prop :=
  ∃ (v : Value) (ok : Bool) (k : Int), e = .returned (.tuple #[v, .bool ok]) ∧ RdAt w' r A len cap k ∧ w.grownBy w' (some r) ∧ (o = none ∧ v = .slice none 0 0 ∧ ok = false ∨ ∃ (l : List (List Int)) (p : Nat), o = some (l, p) ∧ ok = true ∧ k = (p : Int) ∧ OwnT w' w.heap.size v (l.map strOfNums))

theorem getTexts_step (n i : Nat) (h : i < n) (xs : List Int) (p : Nat) : getTexts (n - i) xs p = (getTextL xs p).bind fun x => (getTexts (n - (i + 1)) xs x.2).map fun y => (x.1 :: y.1, y.2) := by
  rw [show n - i = (n - (i + 1)) + 1 from by omega, getTexts]

theorem S8.grown {w w' : World} {B r : Nat} {A : Option Addr} {len cap : Nat} {xs : List Int} (h : S8 w B A len cap xs) (hg : w.grownBy w' (some r)) (hB : B ≤ r) (hBw : B ≤ w.heap.size) : S8 w' B A len cap xs :=
  ⟨h.hlen, h.le, h.max, h.bytes, by
    rcases h.at_ with h1 | ⟨pb, po, h1, h2, h3⟩
    · exact .inl h1
    · exact .inr ⟨pb, po, h1, h2, fun j hj => by
        rw [cell_other hg (by show pb < w.heap.size; omega) (by intro h; have : pb = r := Option.some.inj h; omega)]; exact h3 j hj⟩⟩

set_option maxRecDepth 100000 in
set_option maxHeartbeats 400000 in
theorem times_any (r B : Nat) (A : Option Addr) (len cap k n : Nat) (xs : List Int) (w : World) (hS : S8 w B A len cap xs) (_hB : B ≤ r) (hr : RdAt w r A len cap k) (_hk : k ≤ len) (_hn : n ≤ len) (_hl : len ≤ 1000000000) :
    Calls Try.prog 30 #[.int .i64 (n : Int), .func (.func 24) #[.pointer (some ⟨r, 0, none⟩)] #[]] w (LstPost (getTexts n xs k) r A len cap w) := by
  have hrl := hr.lt
  have HS := Lib.hid hS; clear hS
  have HR := Lib.hid hr; clear hr
  go_enter Try.func30, Try.ntmps30
  go_wp2_with fail
  go_loopw [6, 7, 8, 9] (fun tl ti _ _ wr => ∃ (i p : Nat) (l : List (List Int)), i ≤ n ∧ p ≤ len ∧ ti = .int .i64 (i : Int) ∧ Hid (getTexts n xs k = (getTexts (n - i) xs p).map (fun y => (l ++ y.1, y.2)) ∧ l.length = i ∧ RdAt wr r A len cap p ∧ w.grownBy wr (some r) ∧ OwnT wr w.heap.size tl (l.map strOfNums)))
    (fun _ ti _ _ _ => n - (intOf ti).toNat)
  case atStart => exact ⟨0, k, [], by omega, by omega, rfl, Lib.hid ⟨by simp, rfl, HR.out, grownBy.refl' _ _, Own.nil _ _ _ _⟩⟩
  case round =>
    obtain ⟨i, p, l, hi, hp, rfl, HM⟩ := hrel
    have hws := HM.out.2.2.2.1.size
    by_cases hlt : i < n
    · have hii : (i : Int) < (n : Int) := by omega
      have hT := text_any r B A len cap p xs wr (HS.out.grown HM.out.2.2.2.1 _hB (by omega)) _hB HM.out.2.2.1 (by omega)
      have HT := Lib.hid hT; clear hT
      go_wp2_with fail
      refine HT.out.mono ?_
      rintro e w1 ⟨s, ok, j, rfl, h1, h2, h3⟩
      have H1 := Lib.hid h1; clear h1
      have hg := grownBy.trans' HM.out.2.2.2.1 h2
      have ho := HM.out.2.2.2.2.other h2 hrl
      have H2 := Lib.hid (And.intro hg ho); clear hg ho h2
      rcases h3 with ⟨ho, rfl, rfl⟩ | ⟨q, ho, rfl, rfl⟩
      · have HO := Lib.hid ho; clear ho
        go_wp2_with fail
        go_ret2
        exact ⟨_, false, _, rfl, H1.out, H2.out.1, .inl ⟨by rw [HM.out.1, getTexts_step n i hlt, HO.out]; rfl, rfl, rfl⟩⟩
      · have hq := (getTextL_some xs HS.out.bytes p q s ho).2
        rw [HS.out.hlen] at hq
        have hq2 := hq.2
        clear hq
        have HO := Lib.hid ho; clear ho
        go_wp2_with (at_builtin; refine wpList_app Elem.str encStr rfl (.tmp 22) (.tmp 24) rfl w.heap.size _ (l.map strOfNums) rfl (H2.out.2.alloc _) ⟨w1.heap.size, 0, none⟩ 1 1 [strOfNums s] rfl rfl ?_ ?_ ?_ ?_ ?_; exact cells_new _ _ _ rfl; (rw [List.length_map, HM.out.2.1]; omega); (rw [List.length_map, HM.out.2.1]; unfold maxLen; omega); (have := H2.out.1.size; simp; omega); intro v3 w3 h1 h2; have H3 := Lib.hid h1; clear h1; have H4 := Lib.hid h2; clear h2)
        go_roundw
        case rel =>
          refine ⟨i + 1, q, l ++ [s], by omega, by omega, by go_num, Lib.hid ⟨?_, by rw [List.length_append, HM.out.2.1]; rfl, ?_, ?_, by rw [List.map_append]; exact H3.out⟩⟩
          · rw [HM.out.1, getTexts_step n i hlt, HO.out]
            simp only [Option.bind_some]
            cases getTexts (n - (i + 1)) xs q with
            | none => rfl
            | some y => simp
          · exact (H1.out.below ((Below.refl w1.heap.size w1).alloc (Nat.le_refl _) _) H1.out.lt).below (B := w.heap.size) H4.out hrl
          · exact grownBy.kept H2.out.1 (((Below.refl w.heap.size w1).alloc H2.out.1.size _).trans H4.out)
        case measure => simp [intOf]; omega
    · have hii : ¬ (i : Int) < (n : Int) := by omega
      have hin : n - i = 0 := by omega
      have HIN := Lib.hid hin; clear hin
      go_wp2_with fail
      go_ret2
      refine ⟨_, true, _, rfl, HM.out.2.2.1, HM.out.2.2.2.1, .inr ⟨l, p, ?_, rfl, rfl, HM.out.2.2.2.2⟩⟩
      rw [HM.out.1, HIN.out]; simp [getTexts]

theorem getListL_size (b : List Int) (hb : Bytes b) (k : Nat) : getListL b k = (sizeL b k).bind fun p => getTexts p.1 b p.2 := by
  unfold getListL sizeL
  cases hg : getL b k with
  | none => rfl
  | some p =>
    simp only [Option.bind_some]
    by_cases h : b.length - p.2 < p.1
    · rw [if_pos h, getTexts_many _ _ hb _ h]; rfl
    · rw [if_neg h]; rfl

set_option maxRecDepth 100000 in
set_option maxHeartbeats 400000 in
theorem list_any (r B : Nat) (A : Option Addr) (len cap k : Nat) (xs : List Int) (w : World) (hS : S8 w B A len cap xs) (_hB : B ≤ r) (hr : RdAt w r A len cap k) (_hk : k ≤ 9223372036854775807) (_hl : len ≤ 1000000000) :
    Calls Try.prog 26 #[.pointer (some ⟨r, 0, none⟩)] w (LstPost (getListL xs k) r A len cap w) := by
  have hmf : ∀ (fn : Fn) (first cap : Array Value) (w : World), (Instr.makeFunc fn first cap).run Try.prog w = .ok (.func fn first cap) w := fun _ _ _ _ => rfl
  have hrl := hr.lt
  have hN := size_any r B A len cap k xs w hS _hB hr _hk
  have HN := Lib.hid hN; clear hN
  have HS := Lib.hid hS; clear hS
  clear hr
  go_enter Try.func26, Try.ntmps26
  go_wp2_with fail
  refine HN.out.mono ?_
  rintro e w1 ⟨v, ok, j, rfl, h1, h2, h3⟩
  have H1 := Lib.hid h1; clear h1
  have H2 := Lib.hid h2; clear h2
  rcases h3 with ⟨ho, rfl, rfl⟩ | ⟨p, ho, rfl, rfl⟩
  · have HO := Lib.hid ho; clear ho
    go_wp2_with fail
    go_ret2
    exact ⟨_, false, _, rfl, H1.out, H2.out, .inl ⟨by rw [getListL_size xs HS.out.bytes, HO.out]; rfl, rfl, rfl⟩⟩
  · have hp := sizeL_some xs HS.out.bytes k v p ho
    rw [HS.out.hlen] at hp
    obtain ⟨hp1, hp2, hp3⟩ := hp
    have HO := Lib.hid ho; clear ho
    have hT := times_any r B A len cap p v xs w1 (HS.out.grown H2.out _hB (by omega)) _hB H1.out (by omega) (by omega) _hl
    have HT := Lib.hid hT; clear hT
    go_wp2_with fail
    refine HT.out.mono ?_
    rintro e w2 ⟨v2, ok2, j2, rfl, h1, h2, h3⟩
    have H3 := Lib.hid h1; clear h1
    have hg := grownBy.trans' H2.out h2
    have H4 := Lib.hid hg; clear hg h2
    have hh3 := Lib.hid h3; clear h3
    go_wp2_with fail
    go_ret2
    refine ⟨_, ok2, _, rfl, H3.out, H4.out, ?_⟩
    rw [getListL_size xs HS.out.bytes, HO.out]
    rcases hh3.out with ⟨h, h5, h6⟩ | ⟨l, q, h, h5, h6, h7⟩
    · exact .inl ⟨h, h5, h6⟩
    · exact .inr ⟨l, q, h, h5, h6, h7.mono H2.out.size⟩
set_option maxRecDepth 100000 in
set_option maxHeartbeats 400000 in
theorem list_none (r : Nat) (A : Option Addr) (len cap : Nat) (w : World) (hN : Calls Try.prog 22 #[.pointer (some ⟨r, 0, none⟩)] w (NumPost none r A len cap w)) :
    Calls Try.prog 26 #[.pointer (some ⟨r, 0, none⟩)] w (LstPost none r A len cap w) := by
  have HN := Lib.hid (size_none r A len cap w hN); clear hN
  go_enter Try.func26, Try.ntmps26
  go_wp2_with fail
  refine HN.out.mono ?_
  rintro e w1 ⟨v, ok, j, rfl, h1, h2, h3⟩
  have H1 := Lib.hid h1; clear h1
  have H2 := Lib.hid h2; clear h2
  rcases h3 with ⟨-, rfl, rfl⟩ | ⟨p, ho, -, -⟩
  · go_wp2_with fail
    go_ret2
    exact ⟨_, false, _, rfl, H1.out, H2.out, .inl ⟨rfl, rfl, rfl⟩⟩
  · cases ho

/-- What a GetList answers. -/
def GetLst (o : Option (List (List Int) × Nat)) (w : World) (e : Ending) (w' : World) : Prop :=
  ∃ (v : Value) (p : Nat) (ok : Bool), e = .returned (.tuple #[v, .int .i64 (p : Int), .bool ok]) ∧ Below w.heap.size w w' ∧ (o = none ∧ v = .slice none 0 0 ∧ p = 0 ∧ ok = false ∨ ∃ l, o = some (l, p) ∧ ok = true ∧ OwnT w' w.heap.size v (l.map strOfNums))

set_option maxRecDepth 100000 in
set_option maxHeartbeats 400000 in
theorem readList_any (o : Option (List (List Int) × Nat)) (r : Nat) (A : Option Addr) (len cap : Nat) (w0 w : World) (_hw : Below w0.heap.size w0 w) (_hr0 : w0.heap.size ≤ r) (hN : Calls Try.prog 26 #[.pointer (some ⟨r, 0, none⟩)] w (LstPost o r A len cap w)) :
    Calls Try.prog 25 #[.pointer (some ⟨r, 0, none⟩), .func (.func 26) #[.pointer (some ⟨r, 0, none⟩)] #[]] w (GetLst o w0) := by
  have HN := Lib.hid hN; clear hN
  go_enter Try.func25, Try.ntmps25
  go_wp2_with fail
  refine HN.out.mono ?_
  rintro e w1 ⟨v, ok, k, rfl, h1, h2, h3⟩
  have hb := below_of_grownBy _hw h2 _hw.size _hr0
  have HB := Lib.hid hb; clear hb h2
  have c1 := h1.c1
  have H1 := Lib.hid h1; clear h1
  rcases h3 with ⟨ho, rfl, rfl⟩ | ⟨l, p, ho, rfl, rfl, hl⟩
  · have HO := Lib.hid ho; clear ho
    go_wp2_with fail
    go_ret3
    exact ⟨_, 0, false, rfl, HB.out, .inl ⟨HO.out, rfl, rfl, rfl⟩⟩
  · have HO := Lib.hid ho; clear ho
    have HL := Lib.hid hl; clear hl
    go_wp2_with fail
    go_quiet (fail)
    go_wp2_with fail
    go_ret3
    exact ⟨v, p, true, rfl, below_drewN HB.out _, .inr ⟨l, HO.out, rfl, (HL.out.drewN _).mono _hw.size⟩⟩

set_option maxRecDepth 100000 in
set_option maxHeartbeats 400000 in
theorem getList_any (A : Option Addr) (len cap k : Nat) (xs : List Int) (w : World) (hS : S8 w w.heap.size A len cap xs) (_hk : k ≤ 9223372036854775807) (_hl : len ≤ 1000000000) :
    Calls Try.prog 12 #[.slice A len cap, .int .i64 (k : Int)] w (GetLst (getListL xs k) w) := by
  have HS := Lib.hid hS; clear hS
  have hmf : ∀ (fn : Fn) (first cap : Array Value) (w : World), (Instr.makeFunc fn first cap).run Try.prog w = .ok (.func fn first cap) w := fun _ _ _ _ => rfl
  go_enter Try.func12, Try.ntmps12
  go_wp2_with fail
  have hb : Below w.heap.size w (w.alloc (.cells #[.slice A len cap, .int .i64 (k : Int)] 43)) := (Below.refl _ _).alloc (Nat.le_refl _) _
  refine (readList_any (getListL xs k) w.heap.size A len cap w _ hb (Nat.le_refl _) (list_any w.heap.size w.heap.size A len cap k xs _ (HS.out.below hb (Nat.le_refl _)) (Nat.le_refl _) (heap_alloc_last _ _) _hk _hl)).mono ?_
  rintro e w1 ⟨v, p, ok, rfl, h1, h2⟩
  have H1 := Lib.hid h1; clear h1
  have H2 := Lib.hid h2; clear h2
  go_wp2_with fail
  go_ret3
  exact ⟨v, p, ok, rfl, H1.out, H2.out⟩
set_option maxRecDepth 100000 in
set_option maxHeartbeats 400000 in
theorem getList_neg (A : Option Addr) (len cap : Nat) (k : Int) (w : World) (_hk : k < 0) :
    Calls Try.prog 12 #[.slice A len cap, .int .i64 k] w (GetLst none w) := by
  have hmf : ∀ (fn : Fn) (first cap : Array Value) (w : World), (Instr.makeFunc fn first cap).run Try.prog w = .ok (.func fn first cap) w := fun _ _ _ _ => rfl
  go_enter Try.func12, Try.ntmps12
  go_wp2_with fail
  have hb : Below w.heap.size w (w.alloc (.cells #[.slice A len cap, .int .i64 k] 43)) := (Below.refl _ _).alloc (Nat.le_refl _) _
  refine (readList_any none w.heap.size A len cap w _ hb (Nat.le_refl _) (list_none w.heap.size A len cap _ (number_neg w.heap.size A len cap k _ (heap_alloc_last _ _) _hk))).mono ?_
  rintro e w1 ⟨v, p, ok, rfl, h1, h2⟩
  have H1 := Lib.hid h1; clear h1
  have H2 := Lib.hid h2; clear h2
  go_wp2_with fail
  go_ret3
  exact ⟨v, p, ok, rfl, H1.out, by have := H2.out; simpa using this⟩
end Go.Proofs.Ytlghholonjmeaaa
