/-
  Layer 3, the reference: ReadRef, whatever the text.
-/
import Derived.Test.YtdapnipodnhpkaaDoorRefRdW
namespace Go.Proofs.YtdapnipodnhpkaaDoor
open Go.RowKit

theorem sheetP_bytes (s : ByteArray) (k : Nat) (h : k < s.size) (hk : k < (Rd.start s).sheetP.length) : ¬ ((s[k].toNat : Nat) : Int) = 33 := by
  intro h33
  have h1 := take_all ne33 (sb s) 33 (by
    have h2 := take_split ne33 (sb s)
    have h3 : ((sb s).takeWhile ne33)[k]? = (sb s)[k]? := by
      conv => rhs; rw [← h2]
      rw [List.getElem?_append_left (show k < ((sb s).takeWhile ne33).length from hk)]
    rw [sb_at s k h, h33] at h3
    exact List.mem_of_getElem? h3)
  exact absurd h1 (by decide)
theorem sheetP_mark (s : ByteArray) (m : Nat) (hm : (Rd.start s).sheetP.length = m) (h : m < s.size) : ((s[m].toNat : Nat) : Int) = 33 := by
  have h1 := take_head ne33 (sb s) ((s[m].toNat : Nat) : Int) (by
    have h2 : ((sb s).takeWhile ne33).length = m := hm
    rw [h2, List.head?_drop, sb_at s m h])
  unfold ne33 at h1
  simpa using h1
theorem sheetP_cut (s : ByteArray) : s.extract 0 (Rd.start s).sheetP.length = strOfNums (Rd.start s).sheetP := by
  have h := sheetP_take (Rd.start s)
  have h2 : (sb s).take (Rd.start s).sheetP.length = (Rd.start s).sheetP := h
  rw [← str_sb (s.extract 0 (Rd.start s).sheetP.length)]
  congr 1
  have e := ext_sb s 0 (Rd.start s).sheetP.length
  rw [Nat.zero_add, List.drop_zero, h2] at e
  exact e

set_option maxRecDepth 100000 in
set_option maxHeartbeats 400000 in
theorem refRead_zero (s : ByteArray) (w : World) (_hs : s.size ≤ 1000000) (hp : 0 < s.size) (h0 : (Rd.start s).sheetP.length = 0) :
    Calls Tryd.prog 35 #[.string s] w fun e w' => Says (sb s) e ∧ Below w.heap.size w w' := by
  have hst : RSt w ((w.alloc (.cells #[.string ⟨#[]⟩, .int .i64 0, .int .i64 0, .bool false, .bool false] 32)).alloc (.cells #[.string ⟨#[]⟩, .int .i64 0, .int .i64 0, .bool false, .bool false] 32)) ⟨#[]⟩ 0 0 false false := by
    have h0 := RefAt.new w ⟨#[]⟩ 0 0 false false
    have hsz : (w.alloc (.cells #[.string ⟨#[]⟩, .int .i64 0, .int .i64 0, .bool false, .bool false] 32)).heap.size = w.heap.size + 1 := by simp
    have h1 := RefAt.new (w.alloc (.cells #[.string ⟨#[]⟩, .int .i64 0, .int .i64 0, .bool false, .bool false] 32)) ⟨#[]⟩ 0 0 false false
    rw [hsz] at h1
    exact ⟨h0.below ((Below.refl _ _).alloc (Nat.le_refl _) _) h0.lt, h1, ((Below.refl _ _).alloc (Nat.le_refl _) _).alloc (by rw [hsz]; omega) _⟩
  have hnr : NoRef (sb s) := by
    apply read_none
    have hsh : (Rd.start s).sheet = none := by
      unfold Rd.sheet
      rw [if_neg (show ¬ (Rd.start s).sheetP.length = (Rd.start s).s.size by rw [h0]; show ¬ 0 = s.size; omega)]
      rw [List.eq_nil_of_length_eq_zero h0]; rfl
    unfold readS; rw [hsh]; rfl
  have hb := sheetP_mark s 0 h0 hp
  obtain ⟨a, ha⟩ : ∃ a : Int, (s[0].toNat : Int) = a := ⟨_, rfl⟩
  have hb2 : (a == 33) = true := beq_iff_eq.2 (by rw [← ha]; exact hb)
  have hpi : (0 : Int) < (s.size : Int) := by omega
  have HST := Lib.hid hst; clear hst
  have HNR := Lib.hid hnr; clear hnr hb h0
  go_enter Tryd.func35, Tryd.ntmps35
  go_wp2_with fail
  go_loopw [3, 5, 6] (fun rk at_ i wr => rk = .bool false ∧ at_ = .int .i64 0 ∧ i = .int .i64 0 ∧ Hid (RSt w wr ⟨#[]⟩ 0 0 false false))
    (fun _ _ i _ => s.size - (intOf i).toNat)
  case atStart => exact ⟨rfl, rfl, rfl, HST⟩
  case round =>
    clear HST
    obtain ⟨rfl, rfl, rfl, HST⟩ := hrel
    obtain ⟨x0, x1, x2, x3, x4⟩ := HST.out.ref.facts
    clear x1 x2 x3 x4
    have z0 := (HST.out.ref.frozen 0)
    have hst2 := RSt.set 0 HST.out (.string ByteArray.empty) ByteArray.empty 0 0 false false rfl
    have HST2 := Lib.hid hst2; clear hst2
    go_wp2_with ((with_reducible refine wpList_store_ref (op := ⟨none, .store 32 (.tmp 2) (.tmp 30), _, _, _, _⟩) rfl (.tmp 2) (.tmp 30) rfl w.heap.size _ _ _ _ _ ⟨#[]⟩ 0 0 false false ?_ ?_ HST2.out.res ?_); rfl; rfl; intro w9 h9 g9; have HR9 := Lib.hid h9; clear h9; have HG9 := Lib.hid g9; clear g9)
    (try simp only [Exit.inBlock, Exit.then])
    exact bodyPost_ret (out_ref HR9.out _ _ false 2 3 res_ReadRef rfl rfl) rfl ⟨.inr ⟨HNR.out, rfl⟩, below_of_grownBy HST2.out.below HG9.out HST2.out.below.size (Nat.le_refl _)⟩

theorem refRead_any (s : ByteArray) (w : World) (hs : s.size ≤ 1000000) :
    Calls Tryd.prog 35 #[.string s] w fun e w' => Says (sb s) e ∧ Below w.heap.size w w' := by
  by_cases hno : (Rd.start s).sheetP.length = s.size
  · refine refRead_main s w hs (Rd.start s) rfl (Nat.zero_le _) ?_ s.size (.inl ⟨rfl, rfl, rfl⟩) ?_
    · intro e he
      unfold Rd.sheet at he; rw [if_pos (show (Rd.start s).sheetP.length = (Rd.start s).s.size from hno)] at he; injection he with he; exact he.symm
    · intro k h hk; exact sheetP_bytes s k h (by rw [hno]; exact hk)
  · have hlt : (Rd.start s).sheetP.length < s.size := sheetP_lt (Rd.start s) hno
    by_cases h0 : (Rd.start s).sheetP.length = 0
    · exact refRead_zero s w hs (by omega) h0
    · refine refRead_main s w hs { Rd.start s with sh := s.extract 0 (Rd.start s).sheetP.length, k := (Rd.start s).sheetP.length + 1 } rfl hlt ?_ (Rd.start s).sheetP.length (.inr ⟨hlt, by omega, rfl, rfl, fun h => sheetP_mark s _ rfl h⟩) (fun k h hk => sheetP_bytes s k h hk)
      intro e he
      unfold Rd.sheet at he; rw [if_neg (show ¬ (Rd.start s).sheetP.length = (Rd.start s).s.size from hno)] at he
      by_cases hn : nameL (Rd.start s).sheetP = true
      · rw [if_pos hn] at he; injection he with he; rw [← he, sheetP_cut]
      · rw [if_neg hn] at he; cases he
end Go.Proofs.YtdapnipodnhpkaaDoor
