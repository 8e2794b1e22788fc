/-
  Layer 3, the program: ReadCol, Read.
-/
import Derived.Test.YtdapnipodnhpkaaDoorAddrT
namespace Go.Proofs.YtdapnipodnhpkaaDoor
open Go.RowKit

/-- Parts taken one behind the other. -/
def chain (run : Nat → Rd → Option Rd) (d : Rd) : Nat → Option Rd
  | 0 => some d
  | j + 1 => (chain run d j).bind (run j)
theorem chain_none (run : Nat → Rd → Option Rd) (d : Rd) (j : Nat) (h : chain run d j = none) : ∀ m, chain run d (j + m) = none
  | 0 => h
  | m + 1 => by show (chain run d (j + m)).bind (run (j + m)) = none; rw [chain_none run d j h m]; rfl
def Keeps (f : Rd → Option Rd) : Prop := ∀ d d', d.k ≤ d.s.size → f d = some d' → d'.s = d.s ∧ d'.k ≤ d.s.size
theorem keeps_sheet : Keeps Rd.sheet := by
  intro d d' hk h
  unfold Rd.sheet at h
  by_cases h1 : d.sheetP.length = d.s.size
  · rw [if_pos h1] at h; injection h with h; subst h; exact ⟨rfl, hk⟩
  · rw [if_neg h1] at h
    have := sheetP_lt d h1
    by_cases h2 : nameL d.sheetP = true
    · rw [if_pos h2] at h; injection h with h; subst h; exact ⟨rfl, this⟩
    · rw [if_neg h2] at h; cases h
theorem mark_le (d : Rd) (hk : d.k ≤ d.s.size) : d.k + (dol d.mark).length ≤ d.s.size := by
  have h1 := congrArg List.length (mark_rest d)
  rw [List.length_append, length_rest] at h1; omega
theorem keeps_absCol : Keeps Rd.absCol := by
  intro d d' hk h
  unfold Rd.absCol at h; injection h with h; subst h; exact ⟨rfl, mark_le d hk⟩
theorem keeps_absRow : Keeps Rd.absRow := by
  intro d d' hk h
  unfold Rd.absRow at h; injection h with h; subst h; exact ⟨rfl, mark_le d hk⟩
theorem span_le (p : Int → Bool) (d : Rd) (hk : d.k ≤ d.s.size) : d.k + (d.rest.takeWhile p).length ≤ d.s.size := by
  have h1 := congrArg List.length (take_split p d.rest)
  rw [List.length_append, length_rest] at h1; omega
theorem keeps_col : Keeps Rd.col := by
  intro d d' hk h
  unfold Rd.col at h
  by_cases h2 : isCol (d.rest.takeWhile isCap) = true
  · rw [if_pos h2] at h; injection h with h; subst h; exact ⟨rfl, span_le isCap d hk⟩
  · rw [if_neg h2] at h; cases h
theorem keeps_row : Keeps Rd.row := by
  intro d d' hk h
  unfold Rd.row at h
  by_cases h2 : isRow (d.rest.takeWhile isNum) = true
  · rw [if_pos h2] at h; injection h with h; subst h; exact ⟨rfl, span_le isNum d hk⟩
  · rw [if_neg h2] at h; cases h
theorem keeps_fin : Keeps Rd.fin := by
  intro d d' hk h
  unfold Rd.fin at h
  by_cases h2 : d.k = d.s.size
  · rw [if_pos h2] at h; injection h with h; subst h; exact ⟨rfl, hk⟩
  · rw [if_neg h2] at h; cases h

theorem all_chain (b g n : Nat) (f : Nat → FuncId) (run : Nat → Rd → Option Rd) (w : World) (hn : n ≤ 100) (hgb : g ≠ b) (hg : g < w.heap.size)
    (hcall : ∀ j, j < n → ∀ args (v : World), (callFunc (f j) args).run Tryd.prog v = .ok (.enter (f j) args) v)
    (hcell : ∀ j, j < n → w.cell? ⟨g, j, none⟩ = some (.func (.func (f j)) #[.pointer (some ⟨b, 0, none⟩)] #[]))
    (d : Rd) (hr : RdAt w b d) (hs : d.s.size ≤ 1000000) (hk : d.k ≤ d.s.size)
    (hkeep : ∀ j, j < n → Keeps (run j))
    (hpart : ∀ j, j < n → ∀ d (w : World), RdAt w b d → d.s.size ≤ 1000000 → d.k ≤ d.s.size → Calls Tryd.prog (f j) #[.pointer (some ⟨b, 0, none⟩)] w (Part (run j d) b w)) :
    Calls Tryd.prog 48 #[.slice (some ⟨g, 0, none⟩) n n] w (Part (chain run d n) b w) := by
  refine all_any b g n f run w hn hgb hg hcall hcell (fun j e => chain run d j = some e ∧ e.s = d.s ∧ e.k ≤ d.s.size) d ⟨rfl, rfl, hk⟩ hr ?_ _ ?_ ?_
  · rintro j hj e v ⟨h1, h2, h3⟩ hrv
    refine ⟨?_, hpart j hj e v hrv (by rw [h2]; exact hs) (by rw [h2]; exact h3)⟩
    intro e' he'
    obtain ⟨k1, k2⟩ := hkeep j hj e e' (by rw [h2]; exact h3) he'
    refine ⟨?_, by rw [k1, h2], by rw [← h2]; exact k2⟩
    show (chain run d j).bind (run j) = some e'
    rw [h1]; exact he'
  · rintro e ⟨h1, _, _⟩; exact h1
  · rintro j e hj ⟨h1, _, _⟩ h2
    have h3 : chain run d (j + 1) = none := by show (chain run d j).bind (run j) = none; rw [h1]; exact h2
    have := chain_none run d (j + 1) h3 (n - (j + 1))
    rw [show j + 1 + (n - (j + 1)) = n from by omega] at this; exact this

theorem below_of_grownBy {w w1 w2 : World} {r B : Nat} (hb : Below B w w1) (h : w1.grownBy w2 (some r)) (hB : B ≤ w1.heap.size) (hr : B ≤ r) : Below B w w2 :=
  hb.grown h hB (fun k hk => by cases hk; exact hr)

/-- ReadCol's parts. -/
def colRun : Nat → Rd → Option Rd
  | 0 => Rd.col
  | _ => Rd.fin
def colFn : Nat → FuncId
  | 0 => 51
  | _ => 54
theorem isCol_caps (l : List Int) (h : isCol l = true) : ∀ x ∈ l, isCap x = true := by
  have := isCap_colL (readColL l)
  rw [(colL_readCol l h).1] at this; exact this
theorem colRun_eq (s : ByteArray) : chain colRun (Rd.start s) 2 = if isCol (sb s) = true then some { Rd.start s with c := readColL (sb s), k := s.size } else none := by
  show ((some (Rd.start s)).bind Rd.col).bind Rd.fin = _
  rw [Option.bind_some]
  have hrest : (Rd.start s).rest = sb s := rfl
  by_cases h : isCol (sb s) = true
  · have hsp : (sb s).takeWhile isCap = sb s := by
      have := take_part isCap (sb s) [] (isCol_caps _ h) (fun x hx => by simp at hx)
      rw [List.append_nil] at this; exact this
    rw [if_pos h]
    unfold Rd.col; rw [hrest, hsp, if_pos h, Option.bind_some]
    unfold Rd.fin
    have hl := length_sb s
    rw [if_pos (show (Rd.start s).k + (sb s).length = (Rd.start s).s.size by rw [hl]; exact Nat.zero_add _)]
    rw [hl, show (Rd.start s).k + s.size = s.size from Nat.zero_add _]
  · rw [if_neg h]
    unfold Rd.col; rw [hrest]
    by_cases h2 : isCol ((sb s).takeWhile isCap) = true
    · rw [if_pos h2, Option.bind_some]
      unfold Rd.fin
      rw [if_neg]
      intro h3
      have h3' : 0 + ((sb s).takeWhile isCap).length = s.size := h3
      have h4 : ((sb s).takeWhile isCap).length = (sb s).length := by rw [length_sb]; omega
      have h5 := take_split isCap (sb s)
      rw [h4, List.drop_length, List.append_nil] at h5
      rw [h5] at h2; exact h h2
    · rw [if_neg h2]; rfl

theorem hmf (fn : Fn) (first cap : Array Value) (w : World) : (Instr.makeFunc fn first cap).run Tryd.prog w = .ok (.func fn first cap) w := rfl

/-- The world in which the parts are taken: a new reader, and a row of method values behind it. -/
def wR (s : ByteArray) (w : World) : World := w.alloc (.cells #[.string s, .int .i64 0, .string ⟨#[]⟩, .int .i64 0, .int .i64 0, .bool false, .bool false] 71)
def mv (f : FuncId) (b : Nat) : Value := .func (.func f) #[.pointer (some ⟨b, 0, none⟩)] #[]
def wF (s : ByteArray) (l : Array Value) (w : World) : World := (wR s w).alloc (.cells l 22)
theorem size_wR (s : ByteArray) (w : World) : (wR s w).heap.size = w.heap.size + 1 := by unfold wR; simp
theorem size_wF (s : ByteArray) (l : Array Value) (w : World) : (wF s l w).heap.size = w.heap.size + 1 + 1 := by unfold wF; rw [← size_wR s w]; simp
theorem rd_wF (s : ByteArray) (l : Array Value) (w : World) : RdAt (wF s l w) w.heap.size (Rd.start s) := by
  have h : RdAt (wR s w) w.heap.size (Rd.start s) := (Go.MapKept.heap_alloc w _).1
  exact h.below ((Below.refl _ _).alloc (Nat.le_refl _) _) h.lt
theorem below_wF (s : ByteArray) (l : Array Value) (w : World) : Below w.heap.size w (wF s l w) := ((Below.refl _ _).alloc (Nat.le_refl _) _).alloc (by have := size_wR s w; unfold wR at this; omega) _
theorem cell_wF (s : ByteArray) (l : Array Value) (w : World) (L : List Value) (hl : l.toList = L) (j : Nat) (u : Value) (hj : L[j]? = some u) : (wF s l w).cell? ⟨w.heap.size + 1, j, none⟩ = some u := by
  have h := cells_new (w := wR s w) l 22 L hl j u hj
  rw [Addr.add_mid, Nat.zero_add, size_wR] at h
  exact h
theorem all_new (n : Nat) (f : Nat → FuncId) (run : Nat → Rd → Option Rd) (s : ByteArray) (w : World) (l : Array Value) (L : List Value) (hl : l.toList = L) (hn : n ≤ 100) (hs : s.size ≤ 1000000)
    (hcall : ∀ j, j < n → ∀ args (v : World), (callFunc (f j) args).run Tryd.prog v = .ok (.enter (f j) args) v)
    (hL : ∀ j, j < n → L[j]? = some (mv (f j) w.heap.size))
    (hkeep : ∀ j, j < n → Keeps (run j))
    (hpart : ∀ j, j < n → ∀ b d (w : World), RdAt w b d → d.s.size ≤ 1000000 → d.k ≤ d.s.size → Calls Tryd.prog (f j) #[.pointer (some ⟨b, 0, none⟩)] w (Part (run j d) b w)) :
    Calls Tryd.prog 48 #[.slice (some ⟨w.heap.size + 1, 0, none⟩) n n] (wF s l w) fun e w' => Below w.heap.size w w' ∧ ((∃ d', chain run (Rd.start s) n = some d' ∧ e = .returned (.bool true) ∧ RdAt w' w.heap.size d') ∨ (chain run (Rd.start s) n = none ∧ e = .returned (.bool false))) := by
  refine (all_chain w.heap.size (w.heap.size + 1) n f run (wF s l w) hn (by omega) (by rw [size_wF]; omega) hcall (fun j hj => cell_wF s l w L hl j _ (hL j hj)) (Rd.start s) (rd_wF s l w) hs (Nat.zero_le _) hkeep (fun j hj d v => hpart j hj w.heap.size d v)).mono ?_
  rintro e w' ⟨h1, h2⟩
  exact ⟨below_of_grownBy (below_wF s l w) h1 (by rw [size_wF]; omega) (Nat.le_refl _), h2⟩
theorem e_col : ∀ args (v : World), (callFunc 51 args).run Tryd.prog v = .ok (.enter 51 args) v := Go.Proofs.enters_of Tryd.func51 (by kernel_rfl) rfl
theorem e_end : ∀ args (v : World), (callFunc 54 args).run Tryd.prog v = .ok (.enter 54 args) v := Go.Proofs.enters_of Tryd.func54 (by kernel_rfl) rfl
theorem e_sheet : ∀ args (v : World), (callFunc 49 args).run Tryd.prog v = .ok (.enter 49 args) v := Go.Proofs.enters_of Tryd.func49 (by kernel_rfl) rfl
theorem e_absCol : ∀ args (v : World), (callFunc 50 args).run Tryd.prog v = .ok (.enter 50 args) v := Go.Proofs.enters_of Tryd.func50 (by kernel_rfl) rfl
theorem e_absRow : ∀ args (v : World), (callFunc 52 args).run Tryd.prog v = .ok (.enter 52 args) v := Go.Proofs.enters_of Tryd.func52 (by kernel_rfl) rfl
theorem e_row : ∀ args (v : World), (callFunc 53 args).run Tryd.prog v = .ok (.enter 53 args) v := Go.Proofs.enters_of Tryd.func53 (by kernel_rfl) rfl

theorem col_parts (s : ByteArray) (w : World) (hs : s.size ≤ 1000000) :
    Calls Tryd.prog 48 #[.slice (some ⟨w.heap.size + 1, 0, none⟩) 2 2] (wF s #[mv 51 w.heap.size, mv 54 w.heap.size] w) fun e w' => Below w.heap.size w w' ∧ ((∃ d', chain colRun (Rd.start s) 2 = some d' ∧ e = .returned (.bool true) ∧ RdAt w' w.heap.size d') ∨ (chain colRun (Rd.start s) 2 = none ∧ e = .returned (.bool false))) := by
  refine all_new 2 colFn colRun s w _ _ rfl (by omega) hs ?_ ?_ ?_ ?_
  · intro j hj
    match j, hj with
    | 0, _ => exact e_col
    | 1, _ => exact e_end
  · intro j hj
    match j, hj with
    | 0, _ => rfl
    | 1, _ => rfl
  · intro j hj
    match j, hj with
    | 0, _ => exact keeps_col
    | 1, _ => exact keeps_fin
  · intro j hj b d v h1 h2 h3
    match j, hj with
    | 0, _ => exact colPart_any b d v h1 h2 h3
    | 1, _ => exact fin_any b d v h1 h2 h3

/-- Read's parts. -/
def refRun : Nat → Rd → Option Rd
  | 0 => Rd.sheet
  | 1 => Rd.absCol
  | 2 => Rd.col
  | 3 => Rd.absRow
  | 4 => Rd.row
  | _ => Rd.fin
def refFn : Nat → FuncId
  | 0 => 49
  | 1 => 50
  | 2 => 51
  | 3 => 52
  | 4 => 53
  | _ => 54
theorem ref_parts (s : ByteArray) (w : World) (hs : s.size ≤ 1000000) :
    Calls Tryd.prog 48 #[.slice (some ⟨w.heap.size + 1, 0, none⟩) 6 6] (wF s #[mv 49 w.heap.size, mv 50 w.heap.size, mv 51 w.heap.size, mv 52 w.heap.size, mv 53 w.heap.size, mv 54 w.heap.size] w) fun e w' => Below w.heap.size w w' ∧ ((∃ d', readS s = some d' ∧ e = .returned (.bool true) ∧ RdAt w' w.heap.size d') ∨ (readS s = none ∧ e = .returned (.bool false))) := by
  refine all_new 6 refFn refRun s w _ _ rfl (by omega) hs ?_ ?_ ?_ ?_
  · intro j hj
    match j, hj with
    | 0, _ => exact e_sheet
    | 1, _ => exact e_absCol
    | 2, _ => exact e_col
    | 3, _ => exact e_absRow
    | 4, _ => exact e_row
    | 5, _ => exact e_end
  · intro j hj
    match j, hj with
    | 0, _ => rfl
    | 1, _ => rfl
    | 2, _ => rfl
    | 3, _ => rfl
    | 4, _ => rfl
    | 5, _ => rfl
  · intro j hj
    match j, hj with
    | 0, _ => exact keeps_sheet
    | 1, _ => exact keeps_absCol
    | 2, _ => exact keeps_col
    | 3, _ => exact keeps_absRow
    | 4, _ => exact keeps_row
    | 5, _ => exact keeps_fin
  · intro j hj b d v h1 h2 h3
    match j, hj with
    | 0, _ => exact sheet_any b d v h1 h2
    | 1, _ => exact absCol_any b d v h1 h2 h3
    | 2, _ => exact colPart_any b d v h1 h2 h3
    | 3, _ => exact absRow_any b d v h1 h2 h3
    | 4, _ => exact rowPart_any b d v h1 h2 h3
    | 5, _ => exact fin_any b d v h1 h2 h3

end Go.Proofs.YtdapnipodnhpkaaDoor
