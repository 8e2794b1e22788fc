/-
 'chequerlaw6.ShowTexts': for any text: what Print tells of its formula is what the reference says, is told back as the same nodes, is no longer, and stays; the document's example holds. Condition: none (the operators, the lists of signs, the library's errors and its tables start as the program's text lays them: the card ties them).
-/
import Derived.Test.YtkdamdmnchcceaaGreatDoorMT9
import Derived.ProofKit
import Derived.OpenShut
import Derived.Deep.DeepHandedRow
import Derived.Lib.LaidTab
import Derived.Test.YtkdamdmnchcceaaGreatDoorCards
import Derived.Test.YtkdamdmnchcceaaGreatDoorTie
import Derived.Shelf.Vars
import Derived.Deep.Strs
import Derived.Stop.LaidErr
import Derived.Lay
namespace Go.Proofs.YtkdamdmnchcceaaGreatDoor
open Go.RowKit
structure ShC (w : World) (v : Value) (l : List (Nd × Value)) (ns : List Nd) : Prop where
 sn : SN w w.heap.size v l
 map : l.map (·.1) = ns
 tree : treeB ns = true
 few : l.length ≤ 1000
 sizes : ∀ q ∈ l, q.1.text.size ≤ 1000000 ∧ q.1.ref.sh.size ≤ 1000000 ∧ q.1.to.sh.size ≤ 1000000
 nums : ∀ q ∈ l, q.1.num ≤ 9223372036854775807
theorem ShC.node {w : World} {v : Value} {l : List (Nd × Value)} {ns : List Nd} (h : ShC w v l ns) {i : Nat} {n : Nd} {k : Value} (hi : l[i]? = some (n, k)) : nodeAt ns (i : Int) = n ∧ i < ns.length := by
 rw [← h.map]
 have hl := (List.getElem?_eq_some_iff.1 hi).1
 refine ⟨?_, by rw [List.length_map]; exact hl⟩
 unfold nodeAt
 rw [show ((i : Int)).toNat = i by omega, List.getD_eq_getElem?_getD, List.getElem?_map, hi]; rfl
theorem ShC.leaf {w : World} {v : Value} {l : List (Nd × Value)} {ns : List Nd} (h : ShC w v l ns) {i : Nat} {n : Nd} {k : Value} (hi : l[i]? = some (n, k)) : nodeB n = true := by
 obtain ⟨h1, h2⟩ := h.node hi
 have := (tree_at h.tree (i := (i : Int)) (by omega) (by omega)).1
 rw [h1] at this; exact this
def ShR (ns : List Nd) (i : Nat) (w1 : World) (e : Ending) (w' : World) : Prop := e = .returned (.string (strOfNums (shN ns (i : Int)))) ∧ Below w1.heap.size w1 w'
set_option maxRecDepth 100000 in
set_option maxHeartbeats 4000000 in
theorem shown_1 {w : World} {v : Value} {l : List (Nd × Value)} {ns : List Nd} (C : ShC w v l ns) (i : Nat) (n : Nd) (k : Value) (hi : l[i]? = some (n, k)) (hk : n.kind = 1) (w1 : World) (hb : Below w.heap.size w w1) :
 Calls Tryz.prog 21 #[v, .int .i64 (i : Int)] w1 (ShR ns i w1) := by
 obtain ⟨hnode, hil⟩ := C.node hi
 have hlf := C.leaf hi
 have hmem := List.mem_of_getElem? hi
 have hll : i < l.length := (List.getElem?_eq_some_iff.1 hi).1
 obtain ⟨hz1, hz2, hz3⟩ := (show n.text.size ≤ 1000000 ∧ n.ref.sh.size ≤ 1000000 ∧ n.to.sh.size ≤ 1000000 from C.sizes _ hmem)
 have hnum : n.num ≤ 9223372036854775807 := C.nums _ hmem
 have hfew := C.few
 have HC := Lib.hid C
 obtain ⟨A, cap, rfl⟩ := C.sn.lenle
 obtain ⟨hsk, pb, po, rfl, hpb, hcell⟩ := C.sn.cellAt hi
 obtain ⟨Ak, ck, hkk, hkc, hkm, hkat⟩ := id hsk
 obtain ⟨m, hm⟩ : ∃ m, n.kids.length = m := ⟨_, rfl⟩
 rw [hm] at hkk hkc
 subst hkk
 obtain ⟨nl, hnl⟩ : ∃ nl, l.length = nl := ⟨_, rfl⟩
 rw [hnl] at hll hfew ⊢
 have hii : (i : Int) < (nl : Int) := by omega
 have hi0 : (0 : Int) ≤ (i : Int) := by omega
 have hmx : m ≤ 9223372036854775807 := by unfold maxLen at hkm; omega
 have HM := Lib.hid hm; have HNL := Lib.hid hnl; have HKAT := Lib.hid hkat; have HND := Lib.hid hnode; have HLF := Lib.hid hlf; have HKC := Lib.hid hkc; have HB := Lib.hid hb
 have HSH := Lib.hid (shN_eq C.tree (i := (i : Int)) (by omega) (by omega) n hnode)
 have k0 : w1.cell? ⟨pb, po + i * 14, none⟩ = some (.int .i64 n.kind) := (hb.cell (p := ⟨pb, po + i * 14, none⟩) hpb).trans (hcell 0 (by omega))
 have k1 : w1.cell? ⟨pb, po + i * 14 + 1, none⟩ = some (.int .i64 n.num) := (hb.cell (p := ⟨pb, po + i * 14 + 1, none⟩) hpb).trans (hcell 1 (by omega))
 have k2 : w1.cell? ⟨pb, po + i * 14 + 2, none⟩ = some (.string n.text) := (hb.cell (p := ⟨pb, po + i * 14 + 2, none⟩) hpb).trans (hcell 2 (by omega))
 have k3 : w1.cell? ⟨pb, po + i * 14 + 3, none⟩ = some (.string n.ref.sh) := (hb.cell (p := ⟨pb, po + i * 14 + 3, none⟩) hpb).trans (hcell 3 (by omega))
 have k4 : w1.cell? ⟨pb, po + i * 14 + 4, none⟩ = some (.int .i64 n.ref.c) := (hb.cell (p := ⟨pb, po + i * 14 + 4, none⟩) hpb).trans (hcell 4 (by omega))
 have k5 : w1.cell? ⟨pb, po + i * 14 + 5, none⟩ = some (.int .i64 n.ref.r) := (hb.cell (p := ⟨pb, po + i * 14 + 5, none⟩) hpb).trans (hcell 5 (by omega))
 have k6 : w1.cell? ⟨pb, po + i * 14 + 6, none⟩ = some (.bool n.ref.ac) := (hb.cell (p := ⟨pb, po + i * 14 + 6, none⟩) hpb).trans (hcell 6 (by omega))
 have k7 : w1.cell? ⟨pb, po + i * 14 + 7, none⟩ = some (.bool n.ref.ar) := (hb.cell (p := ⟨pb, po + i * 14 + 7, none⟩) hpb).trans (hcell 7 (by omega))
 have k8 : w1.cell? ⟨pb, po + i * 14 + 8, none⟩ = some (.string n.to.sh) := (hb.cell (p := ⟨pb, po + i * 14 + 8, none⟩) hpb).trans (hcell 8 (by omega))
 have k9 : w1.cell? ⟨pb, po + i * 14 + 9, none⟩ = some (.int .i64 n.to.c) := (hb.cell (p := ⟨pb, po + i * 14 + 9, none⟩) hpb).trans (hcell 9 (by omega))
 have k10 : w1.cell? ⟨pb, po + i * 14 + 10, none⟩ = some (.int .i64 n.to.r) := (hb.cell (p := ⟨pb, po + i * 14 + 10, none⟩) hpb).trans (hcell 10 (by omega))
 have k11 : w1.cell? ⟨pb, po + i * 14 + 11, none⟩ = some (.bool n.to.ac) := (hb.cell (p := ⟨pb, po + i * 14 + 11, none⟩) hpb).trans (hcell 11 (by omega))
 have k12 : w1.cell? ⟨pb, po + i * 14 + 12, none⟩ = some (.bool n.to.ar) := (hb.cell (p := ⟨pb, po + i * 14 + 12, none⟩) hpb).trans (hcell 12 (by omega))
 have k13 : w1.cell? ⟨pb, po + i * 14 + 13, none⟩ = some (.slice Ak m ck) := (hb.cell (p := ⟨pb, po + i * 14 + 13, none⟩) hpb).trans (hcell 13 (by omega))
 have HK := Lib.hid hk
 obtain ⟨u, hu⟩ : ∃ u : Nat, n.num = (u : Int) := ⟨n.num.toNat, by have := leaf_num (arms_kids hlf).2.2.2.2.2 hk; omega⟩
 have HT := Lib.hid (show shN ns (i : Int) = digL u by rw [HSH.out, if_pos hk, hu]; rfl)
 have HU := Lib.hid hu
 have hu9 : u ≤ 9223372036854775807 := by omega
 clear hu
 clear hk
 have hB3 : Below w1.heap.size w1 (w1.alloc (.cells #[.int .i64 n.kind, .int .i64 n.num, .string n.text, .string n.ref.sh, .int .i64 n.ref.c, .int .i64 n.ref.r, .bool n.ref.ac, .bool n.ref.ar, .string n.to.sh, .int .i64 n.to.c, .int .i64 n.to.r, .bool n.to.ac, .bool n.to.ar, .slice Ak m ck] 27)) := (Below.refl _ _).alloc (Nat.le_refl _) _
 have HN3 : NdAt (w1.alloc (.cells #[.int .i64 n.kind, .int .i64 n.num, .string n.text, .string n.ref.sh, .int .i64 n.ref.c, .int .i64 n.ref.r, .bool n.ref.ac, .bool n.ref.ar, .string n.to.sh, .int .i64 n.to.c, .int .i64 n.to.r, .bool n.to.ac, .bool n.to.ar, .slice Ak m ck] 27)) w1.heap.size n (.slice Ak m ck) := NdAt.new w1 n _
 have HB3 := Lib.hid hB3
 clear hB3 C hi hmem hcell hkat hkc hkm hm hnl hnode hlf hsk hb
 go_enter Tryz.func21, Tryz.ntmps21
 go_upto_region 2 with (fail)
 generalize hb3 : w1.heap.size = b3 at HN3 ⊢
 generalize w1.alloc (.cells #[.int .i64 n.kind, .int .i64 n.num, .string n.text, .string n.ref.sh, .int .i64 n.ref.c, .int .i64 n.ref.r, .bool n.ref.ac, .bool n.ref.ar, .string n.to.sh, .int .i64 n.to.c, .int .i64 n.to.r, .bool n.to.ac, .bool n.to.ar, .slice Ak m ck] 27) = w3 at HN3 HB3 ⊢
 clear hb3 k0 k1 k2 k3 k4 k5 k6 k7 k8 k9 k10 k11 k12 k13
 obtain ⟨x0, x1, x2, x3, x4, x5, x6, x7, x8, x9, x10, x11, x12, x13⟩ := HN3.cells
 have hb3 := HN3.lt
 have HN3 := Lib.hid HN3
 have hk := HK.out
 have e1 : (n.kind == 1) = true := by rw [hk]; rfl
 clear hk
 rw [HU.out] at x1
 have HD := Lib.hid (fun w => refDigits_nat u hu9 w)
 go_wp2_with (go_at_call 26; ((with_reducible refine (HD.out _).mono ?_); rintro e w4 ⟨rfl, h1⟩; have HB4 := Lib.hid (HB3.out.trans (h1.mono HB3.out.size)); clear h1))
 go_ret
 exact ⟨by rw [HT.out] <;> rfl, HB4.out⟩
set_option maxRecDepth 100000 in
set_option maxHeartbeats 4000000 in
theorem shown_2 {w : World} {v : Value} {l : List (Nd × Value)} {ns : List Nd} (C : ShC w v l ns) (i : Nat) (n : Nd) (k : Value) (hi : l[i]? = some (n, k)) (hk : n.kind = 2) (w1 : World) (hb : Below w.heap.size w w1) :
 Calls Tryz.prog 21 #[v, .int .i64 (i : Int)] w1 (ShR ns i w1) := by
 obtain ⟨hnode, hil⟩ := C.node hi
 have hlf := C.leaf hi
 have hmem := List.mem_of_getElem? hi
 have hll : i < l.length := (List.getElem?_eq_some_iff.1 hi).1
 obtain ⟨hz1, hz2, hz3⟩ := (show n.text.size ≤ 1000000 ∧ n.ref.sh.size ≤ 1000000 ∧ n.to.sh.size ≤ 1000000 from C.sizes _ hmem)
 have hnum : n.num ≤ 9223372036854775807 := C.nums _ hmem
 have hfew := C.few
 have HC := Lib.hid C
 obtain ⟨A, cap, rfl⟩ := C.sn.lenle
 obtain ⟨hsk, pb, po, rfl, hpb, hcell⟩ := C.sn.cellAt hi
 obtain ⟨Ak, ck, hkk, hkc, hkm, hkat⟩ := id hsk
 obtain ⟨m, hm⟩ : ∃ m, n.kids.length = m := ⟨_, rfl⟩
 rw [hm] at hkk hkc
 subst hkk
 obtain ⟨nl, hnl⟩ : ∃ nl, l.length = nl := ⟨_, rfl⟩
 rw [hnl] at hll hfew ⊢
 have hii : (i : Int) < (nl : Int) := by omega
 have hi0 : (0 : Int) ≤ (i : Int) := by omega
 have hmx : m ≤ 9223372036854775807 := by unfold maxLen at hkm; omega
 have HM := Lib.hid hm; have HNL := Lib.hid hnl; have HKAT := Lib.hid hkat; have HND := Lib.hid hnode; have HLF := Lib.hid hlf; have HKC := Lib.hid hkc; have HB := Lib.hid hb
 have HSH := Lib.hid (shN_eq C.tree (i := (i : Int)) (by omega) (by omega) n hnode)
 have k0 : w1.cell? ⟨pb, po + i * 14, none⟩ = some (.int .i64 n.kind) := (hb.cell (p := ⟨pb, po + i * 14, none⟩) hpb).trans (hcell 0 (by omega))
 have k1 : w1.cell? ⟨pb, po + i * 14 + 1, none⟩ = some (.int .i64 n.num) := (hb.cell (p := ⟨pb, po + i * 14 + 1, none⟩) hpb).trans (hcell 1 (by omega))
 have k2 : w1.cell? ⟨pb, po + i * 14 + 2, none⟩ = some (.string n.text) := (hb.cell (p := ⟨pb, po + i * 14 + 2, none⟩) hpb).trans (hcell 2 (by omega))
 have k3 : w1.cell? ⟨pb, po + i * 14 + 3, none⟩ = some (.string n.ref.sh) := (hb.cell (p := ⟨pb, po + i * 14 + 3, none⟩) hpb).trans (hcell 3 (by omega))
 have k4 : w1.cell? ⟨pb, po + i * 14 + 4, none⟩ = some (.int .i64 n.ref.c) := (hb.cell (p := ⟨pb, po + i * 14 + 4, none⟩) hpb).trans (hcell 4 (by omega))
 have k5 : w1.cell? ⟨pb, po + i * 14 + 5, none⟩ = some (.int .i64 n.ref.r) := (hb.cell (p := ⟨pb, po + i * 14 + 5, none⟩) hpb).trans (hcell 5 (by omega))
 have k6 : w1.cell? ⟨pb, po + i * 14 + 6, none⟩ = some (.bool n.ref.ac) := (hb.cell (p := ⟨pb, po + i * 14 + 6, none⟩) hpb).trans (hcell 6 (by omega))
 have k7 : w1.cell? ⟨pb, po + i * 14 + 7, none⟩ = some (.bool n.ref.ar) := (hb.cell (p := ⟨pb, po + i * 14 + 7, none⟩) hpb).trans (hcell 7 (by omega))
 have k8 : w1.cell? ⟨pb, po + i * 14 + 8, none⟩ = some (.string n.to.sh) := (hb.cell (p := ⟨pb, po + i * 14 + 8, none⟩) hpb).trans (hcell 8 (by omega))
 have k9 : w1.cell? ⟨pb, po + i * 14 + 9, none⟩ = some (.int .i64 n.to.c) := (hb.cell (p := ⟨pb, po + i * 14 + 9, none⟩) hpb).trans (hcell 9 (by omega))
 have k10 : w1.cell? ⟨pb, po + i * 14 + 10, none⟩ = some (.int .i64 n.to.r) := (hb.cell (p := ⟨pb, po + i * 14 + 10, none⟩) hpb).trans (hcell 10 (by omega))
 have k11 : w1.cell? ⟨pb, po + i * 14 + 11, none⟩ = some (.bool n.to.ac) := (hb.cell (p := ⟨pb, po + i * 14 + 11, none⟩) hpb).trans (hcell 11 (by omega))
 have k12 : w1.cell? ⟨pb, po + i * 14 + 12, none⟩ = some (.bool n.to.ar) := (hb.cell (p := ⟨pb, po + i * 14 + 12, none⟩) hpb).trans (hcell 12 (by omega))
 have k13 : w1.cell? ⟨pb, po + i * 14 + 13, none⟩ = some (.slice Ak m ck) := (hb.cell (p := ⟨pb, po + i * 14 + 13, none⟩) hpb).trans (hcell 13 (by omega))
 have HK := Lib.hid hk
 have HT := Lib.hid (show shN ns (i : Int) = 34 :: (dblL (sb n.text) ++ [34]) by rw [HSH.out, if_neg (by omega), if_pos hk])
 clear hk
 have hB3 : Below w1.heap.size w1 (w1.alloc (.cells #[.int .i64 n.kind, .int .i64 n.num, .string n.text, .string n.ref.sh, .int .i64 n.ref.c, .int .i64 n.ref.r, .bool n.ref.ac, .bool n.ref.ar, .string n.to.sh, .int .i64 n.to.c, .int .i64 n.to.r, .bool n.to.ac, .bool n.to.ar, .slice Ak m ck] 27)) := (Below.refl _ _).alloc (Nat.le_refl _) _
 have HN3 : NdAt (w1.alloc (.cells #[.int .i64 n.kind, .int .i64 n.num, .string n.text, .string n.ref.sh, .int .i64 n.ref.c, .int .i64 n.ref.r, .bool n.ref.ac, .bool n.ref.ar, .string n.to.sh, .int .i64 n.to.c, .int .i64 n.to.r, .bool n.to.ac, .bool n.to.ar, .slice Ak m ck] 27)) w1.heap.size n (.slice Ak m ck) := NdAt.new w1 n _
 have HB3 := Lib.hid hB3
 clear hB3 C hi hmem hcell hkat hkc hkm hm hnl hnode hlf hsk hb
 go_enter Tryz.func21, Tryz.ntmps21
 go_upto_region 2 with (fail)
 generalize hb3 : w1.heap.size = b3 at HN3 ⊢
 generalize w1.alloc (.cells #[.int .i64 n.kind, .int .i64 n.num, .string n.text, .string n.ref.sh, .int .i64 n.ref.c, .int .i64 n.ref.r, .bool n.ref.ac, .bool n.ref.ar, .string n.to.sh, .int .i64 n.to.c, .int .i64 n.to.r, .bool n.to.ac, .bool n.to.ar, .slice Ak m ck] 27) = w3 at HN3 HB3 ⊢
 clear hb3 k0 k1 k2 k3 k4 k5 k6 k7 k8 k9 k10 k11 k12 k13
 obtain ⟨x0, x1, x2, x3, x4, x5, x6, x7, x8, x9, x10, x11, x12, x13⟩ := HN3.cells
 have hb3 := HN3.lt
 have HN3 := Lib.hid HN3
 have hk := HK.out
 have e1 : (n.kind == 1) = false := by rw [hk]; rfl
 have e2 : (n.kind == 2) = true := by rw [hk]; rfl
 clear hk
 have HD := Lib.hid (fun w => refQuote_any n.text w (by omega))
 go_wp2_with (go_at_call 36; ((with_reducible refine (HD.out _).mono ?_); rintro e w4 ⟨rfl, h1⟩; have HB4 := Lib.hid (HB3.out.trans (h1.mono HB3.out.size)); clear h1))
 go_ret
 exact ⟨by rw [HT.out] <;> rfl, HB4.out⟩
set_option maxRecDepth 100000 in
set_option maxHeartbeats 4000000 in
theorem shown_3 {w : World} {v : Value} {l : List (Nd × Value)} {ns : List Nd} (C : ShC w v l ns) (i : Nat) (n : Nd) (k : Value) (hi : l[i]? = some (n, k)) (hk : n.kind = 3) (w1 : World) (hb : Below w.heap.size w w1) :
 Calls Tryz.prog 21 #[v, .int .i64 (i : Int)] w1 (ShR ns i w1) := by
 obtain ⟨hnode, hil⟩ := C.node hi
 have hlf := C.leaf hi
 have hmem := List.mem_of_getElem? hi
 have hll : i < l.length := (List.getElem?_eq_some_iff.1 hi).1
 obtain ⟨hz1, hz2, hz3⟩ := (show n.text.size ≤ 1000000 ∧ n.ref.sh.size ≤ 1000000 ∧ n.to.sh.size ≤ 1000000 from C.sizes _ hmem)
 have hnum : n.num ≤ 9223372036854775807 := C.nums _ hmem
 have hfew := C.few
 have HC := Lib.hid C
 obtain ⟨A, cap, rfl⟩ := C.sn.lenle
 obtain ⟨hsk, pb, po, rfl, hpb, hcell⟩ := C.sn.cellAt hi
 obtain ⟨Ak, ck, hkk, hkc, hkm, hkat⟩ := id hsk
 obtain ⟨m, hm⟩ : ∃ m, n.kids.length = m := ⟨_, rfl⟩
 rw [hm] at hkk hkc
 subst hkk
 obtain ⟨nl, hnl⟩ : ∃ nl, l.length = nl := ⟨_, rfl⟩
 rw [hnl] at hll hfew ⊢
 have hii : (i : Int) < (nl : Int) := by omega
 have hi0 : (0 : Int) ≤ (i : Int) := by omega
 have hmx : m ≤ 9223372036854775807 := by unfold maxLen at hkm; omega
 have HM := Lib.hid hm; have HNL := Lib.hid hnl; have HKAT := Lib.hid hkat; have HND := Lib.hid hnode; have HLF := Lib.hid hlf; have HKC := Lib.hid hkc; have HB := Lib.hid hb
 have HSH := Lib.hid (shN_eq C.tree (i := (i : Int)) (by omega) (by omega) n hnode)
 have k0 : w1.cell? ⟨pb, po + i * 14, none⟩ = some (.int .i64 n.kind) := (hb.cell (p := ⟨pb, po + i * 14, none⟩) hpb).trans (hcell 0 (by omega))
 have k1 : w1.cell? ⟨pb, po + i * 14 + 1, none⟩ = some (.int .i64 n.num) := (hb.cell (p := ⟨pb, po + i * 14 + 1, none⟩) hpb).trans (hcell 1 (by omega))
 have k2 : w1.cell? ⟨pb, po + i * 14 + 2, none⟩ = some (.string n.text) := (hb.cell (p := ⟨pb, po + i * 14 + 2, none⟩) hpb).trans (hcell 2 (by omega))
 have k3 : w1.cell? ⟨pb, po + i * 14 + 3, none⟩ = some (.string n.ref.sh) := (hb.cell (p := ⟨pb, po + i * 14 + 3, none⟩) hpb).trans (hcell 3 (by omega))
 have k4 : w1.cell? ⟨pb, po + i * 14 + 4, none⟩ = some (.int .i64 n.ref.c) := (hb.cell (p := ⟨pb, po + i * 14 + 4, none⟩) hpb).trans (hcell 4 (by omega))
 have k5 : w1.cell? ⟨pb, po + i * 14 + 5, none⟩ = some (.int .i64 n.ref.r) := (hb.cell (p := ⟨pb, po + i * 14 + 5, none⟩) hpb).trans (hcell 5 (by omega))
 have k6 : w1.cell? ⟨pb, po + i * 14 + 6, none⟩ = some (.bool n.ref.ac) := (hb.cell (p := ⟨pb, po + i * 14 + 6, none⟩) hpb).trans (hcell 6 (by omega))
 have k7 : w1.cell? ⟨pb, po + i * 14 + 7, none⟩ = some (.bool n.ref.ar) := (hb.cell (p := ⟨pb, po + i * 14 + 7, none⟩) hpb).trans (hcell 7 (by omega))
 have k8 : w1.cell? ⟨pb, po + i * 14 + 8, none⟩ = some (.string n.to.sh) := (hb.cell (p := ⟨pb, po + i * 14 + 8, none⟩) hpb).trans (hcell 8 (by omega))
 have k9 : w1.cell? ⟨pb, po + i * 14 + 9, none⟩ = some (.int .i64 n.to.c) := (hb.cell (p := ⟨pb, po + i * 14 + 9, none⟩) hpb).trans (hcell 9 (by omega))
 have k10 : w1.cell? ⟨pb, po + i * 14 + 10, none⟩ = some (.int .i64 n.to.r) := (hb.cell (p := ⟨pb, po + i * 14 + 10, none⟩) hpb).trans (hcell 10 (by omega))
 have k11 : w1.cell? ⟨pb, po + i * 14 + 11, none⟩ = some (.bool n.to.ac) := (hb.cell (p := ⟨pb, po + i * 14 + 11, none⟩) hpb).trans (hcell 11 (by omega))
 have k12 : w1.cell? ⟨pb, po + i * 14 + 12, none⟩ = some (.bool n.to.ar) := (hb.cell (p := ⟨pb, po + i * 14 + 12, none⟩) hpb).trans (hcell 12 (by omega))
 have k13 : w1.cell? ⟨pb, po + i * 14 + 13, none⟩ = some (.slice Ak m ck) := (hb.cell (p := ⟨pb, po + i * 14 + 13, none⟩) hpb).trans (hcell 13 (by omega))
 have HK := Lib.hid hk
 have HT := Lib.hid (show shN ns (i : Int) = (if n.num = 1 then [84, 82, 85, 69] else [70, 65, 76, 83, 69]) by rw [HSH.out, if_neg (by omega), if_neg (by omega), if_pos hk])
 clear hk
 have hB3 : Below w1.heap.size w1 (w1.alloc (.cells #[.int .i64 n.kind, .int .i64 n.num, .string n.text, .string n.ref.sh, .int .i64 n.ref.c, .int .i64 n.ref.r, .bool n.ref.ac, .bool n.ref.ar, .string n.to.sh, .int .i64 n.to.c, .int .i64 n.to.r, .bool n.to.ac, .bool n.to.ar, .slice Ak m ck] 27)) := (Below.refl _ _).alloc (Nat.le_refl _) _
 have HN3 : NdAt (w1.alloc (.cells #[.int .i64 n.kind, .int .i64 n.num, .string n.text, .string n.ref.sh, .int .i64 n.ref.c, .int .i64 n.ref.r, .bool n.ref.ac, .bool n.ref.ar, .string n.to.sh, .int .i64 n.to.c, .int .i64 n.to.r, .bool n.to.ac, .bool n.to.ar, .slice Ak m ck] 27)) w1.heap.size n (.slice Ak m ck) := NdAt.new w1 n _
 have HB3 := Lib.hid hB3
 clear hB3 C hi hmem hcell hkat hkc hkm hm hnl hnode hlf hsk hb
 go_enter Tryz.func21, Tryz.ntmps21
 go_upto_region 2 with (fail)
 generalize hb3 : w1.heap.size = b3 at HN3 ⊢
 generalize w1.alloc (.cells #[.int .i64 n.kind, .int .i64 n.num, .string n.text, .string n.ref.sh, .int .i64 n.ref.c, .int .i64 n.ref.r, .bool n.ref.ac, .bool n.ref.ar, .string n.to.sh, .int .i64 n.to.c, .int .i64 n.to.r, .bool n.to.ac, .bool n.to.ar, .slice Ak m ck] 27) = w3 at HN3 HB3 ⊢
 clear hb3 k0 k1 k2 k3 k4 k5 k6 k7 k8 k9 k10 k11 k12 k13
 obtain ⟨x0, x1, x2, x3, x4, x5, x6, x7, x8, x9, x10, x11, x12, x13⟩ := HN3.cells
 have hb3 := HN3.lt
 have HN3 := Lib.hid HN3
 have hk := HK.out
 have e1 : (n.kind == 1) = false := by rw [hk]; rfl
 have e2 : (n.kind == 2) = false := by rw [hk]; rfl
 have e3 : (n.kind == 3) = true := by rw [hk]; rfl
 clear hk
 by_cases h1 : n.num = 1
 · have g1 : (n.num == 1) = true := beq_iff_eq.2 h1
   have HT2 := Lib.hid (show (⟨#[84, 82, 85, 69]⟩ : ByteArray) = strOfNums (shN ns (i : Int)) by rw [HT.out, if_pos h1]; decide)
   clear h1
   go_wp2_with fail
   go_ret
   exact ⟨ret_str HT2.out, HB3.out⟩
 · have g1 : (n.num == 1) = false := beq_eq_false_iff_ne.2 h1
   have HT2 := Lib.hid (show (⟨#[70, 65, 76, 83, 69]⟩ : ByteArray) = strOfNums (shN ns (i : Int)) by rw [HT.out, if_neg h1]; decide)
   clear h1
   go_wp2_with fail
   go_ret
   exact ⟨ret_str HT2.out, HB3.out⟩
set_option maxRecDepth 100000 in
set_option maxHeartbeats 4000000 in
theorem shown_4 {w : World} {v : Value} {l : List (Nd × Value)} {ns : List Nd} (C : ShC w v l ns) (i : Nat) (n : Nd) (k : Value) (hi : l[i]? = some (n, k)) (hk : n.kind = 4) (w1 : World) (hb : Below w.heap.size w w1) :
 Calls Tryz.prog 21 #[v, .int .i64 (i : Int)] w1 (ShR ns i w1) := by
 obtain ⟨hnode, hil⟩ := C.node hi
 have hlf := C.leaf hi
 have hmem := List.mem_of_getElem? hi
 have hll : i < l.length := (List.getElem?_eq_some_iff.1 hi).1
 obtain ⟨hz1, hz2, hz3⟩ := (show n.text.size ≤ 1000000 ∧ n.ref.sh.size ≤ 1000000 ∧ n.to.sh.size ≤ 1000000 from C.sizes _ hmem)
 have hnum : n.num ≤ 9223372036854775807 := C.nums _ hmem
 have hfew := C.few
 have HC := Lib.hid C
 obtain ⟨A, cap, rfl⟩ := C.sn.lenle
 obtain ⟨hsk, pb, po, rfl, hpb, hcell⟩ := C.sn.cellAt hi
 obtain ⟨Ak, ck, hkk, hkc, hkm, hkat⟩ := id hsk
 obtain ⟨m, hm⟩ : ∃ m, n.kids.length = m := ⟨_, rfl⟩
 rw [hm] at hkk hkc
 subst hkk
 obtain ⟨nl, hnl⟩ : ∃ nl, l.length = nl := ⟨_, rfl⟩
 rw [hnl] at hll hfew ⊢
 have hii : (i : Int) < (nl : Int) := by omega
 have hi0 : (0 : Int) ≤ (i : Int) := by omega
 have hmx : m ≤ 9223372036854775807 := by unfold maxLen at hkm; omega
 have HM := Lib.hid hm; have HNL := Lib.hid hnl; have HKAT := Lib.hid hkat; have HND := Lib.hid hnode; have HLF := Lib.hid hlf; have HKC := Lib.hid hkc; have HB := Lib.hid hb
 have HSH := Lib.hid (shN_eq C.tree (i := (i : Int)) (by omega) (by omega) n hnode)
 have k0 : w1.cell? ⟨pb, po + i * 14, none⟩ = some (.int .i64 n.kind) := (hb.cell (p := ⟨pb, po + i * 14, none⟩) hpb).trans (hcell 0 (by omega))
 have k1 : w1.cell? ⟨pb, po + i * 14 + 1, none⟩ = some (.int .i64 n.num) := (hb.cell (p := ⟨pb, po + i * 14 + 1, none⟩) hpb).trans (hcell 1 (by omega))
 have k2 : w1.cell? ⟨pb, po + i * 14 + 2, none⟩ = some (.string n.text) := (hb.cell (p := ⟨pb, po + i * 14 + 2, none⟩) hpb).trans (hcell 2 (by omega))
 have k3 : w1.cell? ⟨pb, po + i * 14 + 3, none⟩ = some (.string n.ref.sh) := (hb.cell (p := ⟨pb, po + i * 14 + 3, none⟩) hpb).trans (hcell 3 (by omega))
 have k4 : w1.cell? ⟨pb, po + i * 14 + 4, none⟩ = some (.int .i64 n.ref.c) := (hb.cell (p := ⟨pb, po + i * 14 + 4, none⟩) hpb).trans (hcell 4 (by omega))
 have k5 : w1.cell? ⟨pb, po + i * 14 + 5, none⟩ = some (.int .i64 n.ref.r) := (hb.cell (p := ⟨pb, po + i * 14 + 5, none⟩) hpb).trans (hcell 5 (by omega))
 have k6 : w1.cell? ⟨pb, po + i * 14 + 6, none⟩ = some (.bool n.ref.ac) := (hb.cell (p := ⟨pb, po + i * 14 + 6, none⟩) hpb).trans (hcell 6 (by omega))
 have k7 : w1.cell? ⟨pb, po + i * 14 + 7, none⟩ = some (.bool n.ref.ar) := (hb.cell (p := ⟨pb, po + i * 14 + 7, none⟩) hpb).trans (hcell 7 (by omega))
 have k8 : w1.cell? ⟨pb, po + i * 14 + 8, none⟩ = some (.string n.to.sh) := (hb.cell (p := ⟨pb, po + i * 14 + 8, none⟩) hpb).trans (hcell 8 (by omega))
 have k9 : w1.cell? ⟨pb, po + i * 14 + 9, none⟩ = some (.int .i64 n.to.c) := (hb.cell (p := ⟨pb, po + i * 14 + 9, none⟩) hpb).trans (hcell 9 (by omega))
 have k10 : w1.cell? ⟨pb, po + i * 14 + 10, none⟩ = some (.int .i64 n.to.r) := (hb.cell (p := ⟨pb, po + i * 14 + 10, none⟩) hpb).trans (hcell 10 (by omega))
 have k11 : w1.cell? ⟨pb, po + i * 14 + 11, none⟩ = some (.bool n.to.ac) := (hb.cell (p := ⟨pb, po + i * 14 + 11, none⟩) hpb).trans (hcell 11 (by omega))
 have k12 : w1.cell? ⟨pb, po + i * 14 + 12, none⟩ = some (.bool n.to.ar) := (hb.cell (p := ⟨pb, po + i * 14 + 12, none⟩) hpb).trans (hcell 12 (by omega))
 have k13 : w1.cell? ⟨pb, po + i * 14 + 13, none⟩ = some (.slice Ak m ck) := (hb.cell (p := ⟨pb, po + i * 14 + 13, none⟩) hpb).trans (hcell 13 (by omega))
 have HK := Lib.hid hk
 have HT := Lib.hid (show (⟨#[35, 82, 69, 70, 33]⟩ : ByteArray) = strOfNums (shN ns (i : Int)) by rw [HSH.out, if_neg (by omega), if_neg (by omega), if_neg (by omega), if_pos hk]; decide)
 clear hk
 have hB3 : Below w1.heap.size w1 (w1.alloc (.cells #[.int .i64 n.kind, .int .i64 n.num, .string n.text, .string n.ref.sh, .int .i64 n.ref.c, .int .i64 n.ref.r, .bool n.ref.ac, .bool n.ref.ar, .string n.to.sh, .int .i64 n.to.c, .int .i64 n.to.r, .bool n.to.ac, .bool n.to.ar, .slice Ak m ck] 27)) := (Below.refl _ _).alloc (Nat.le_refl _) _
 have HN3 : NdAt (w1.alloc (.cells #[.int .i64 n.kind, .int .i64 n.num, .string n.text, .string n.ref.sh, .int .i64 n.ref.c, .int .i64 n.ref.r, .bool n.ref.ac, .bool n.ref.ar, .string n.to.sh, .int .i64 n.to.c, .int .i64 n.to.r, .bool n.to.ac, .bool n.to.ar, .slice Ak m ck] 27)) w1.heap.size n (.slice Ak m ck) := NdAt.new w1 n _
 have HB3 := Lib.hid hB3
 clear hB3 C hi hmem hcell hkat hkc hkm hm hnl hnode hlf hsk hb
 go_enter Tryz.func21, Tryz.ntmps21
 go_upto_region 2 with (fail)
 generalize hb3 : w1.heap.size = b3 at HN3 ⊢
 generalize w1.alloc (.cells #[.int .i64 n.kind, .int .i64 n.num, .string n.text, .string n.ref.sh, .int .i64 n.ref.c, .int .i64 n.ref.r, .bool n.ref.ac, .bool n.ref.ar, .string n.to.sh, .int .i64 n.to.c, .int .i64 n.to.r, .bool n.to.ac, .bool n.to.ar, .slice Ak m ck] 27) = w3 at HN3 HB3 ⊢
 clear hb3 k0 k1 k2 k3 k4 k5 k6 k7 k8 k9 k10 k11 k12 k13
 obtain ⟨x0, x1, x2, x3, x4, x5, x6, x7, x8, x9, x10, x11, x12, x13⟩ := HN3.cells
 have hb3 := HN3.lt
 have HN3 := Lib.hid HN3
 have hk := HK.out
 have e1 : (n.kind == 1) = false := by rw [hk]; rfl
 have e2 : (n.kind == 2) = false := by rw [hk]; rfl
 have e3 : (n.kind == 3) = false := by rw [hk]; rfl
 have e4 : (n.kind == 4) = true := by rw [hk]; rfl
 clear hk
 go_wp2_with fail
 go_ret
 exact ⟨ret_str HT.out, HB3.out⟩
set_option maxRecDepth 100000 in
set_option maxHeartbeats 4000000 in
theorem shown_5 {w : World} {v : Value} {l : List (Nd × Value)} {ns : List Nd} (C : ShC w v l ns) (i : Nat) (n : Nd) (k : Value) (hi : l[i]? = some (n, k)) (hk : n.kind = 5) (w1 : World) (hb : Below w.heap.size w w1) :
 Calls Tryz.prog 21 #[v, .int .i64 (i : Int)] w1 (ShR ns i w1) := by
 obtain ⟨hnode, hil⟩ := C.node hi
 have hlf := C.leaf hi
 have hmem := List.mem_of_getElem? hi
 have hll : i < l.length := (List.getElem?_eq_some_iff.1 hi).1
 obtain ⟨hz1, hz2, hz3⟩ := (show n.text.size ≤ 1000000 ∧ n.ref.sh.size ≤ 1000000 ∧ n.to.sh.size ≤ 1000000 from C.sizes _ hmem)
 have hnum : n.num ≤ 9223372036854775807 := C.nums _ hmem
 have hfew := C.few
 have HC := Lib.hid C
 obtain ⟨A, cap, rfl⟩ := C.sn.lenle
 obtain ⟨hsk, pb, po, rfl, hpb, hcell⟩ := C.sn.cellAt hi
 obtain ⟨Ak, ck, hkk, hkc, hkm, hkat⟩ := id hsk
 obtain ⟨m, hm⟩ : ∃ m, n.kids.length = m := ⟨_, rfl⟩
 rw [hm] at hkk hkc
 subst hkk
 obtain ⟨nl, hnl⟩ : ∃ nl, l.length = nl := ⟨_, rfl⟩
 rw [hnl] at hll hfew ⊢
 have hii : (i : Int) < (nl : Int) := by omega
 have hi0 : (0 : Int) ≤ (i : Int) := by omega
 have hmx : m ≤ 9223372036854775807 := by unfold maxLen at hkm; omega
 have HM := Lib.hid hm; have HNL := Lib.hid hnl; have HKAT := Lib.hid hkat; have HND := Lib.hid hnode; have HLF := Lib.hid hlf; have HKC := Lib.hid hkc; have HB := Lib.hid hb
 have HSH := Lib.hid (shN_eq C.tree (i := (i : Int)) (by omega) (by omega) n hnode)
 have k0 : w1.cell? ⟨pb, po + i * 14, none⟩ = some (.int .i64 n.kind) := (hb.cell (p := ⟨pb, po + i * 14, none⟩) hpb).trans (hcell 0 (by omega))
 have k1 : w1.cell? ⟨pb, po + i * 14 + 1, none⟩ = some (.int .i64 n.num) := (hb.cell (p := ⟨pb, po + i * 14 + 1, none⟩) hpb).trans (hcell 1 (by omega))
 have k2 : w1.cell? ⟨pb, po + i * 14 + 2, none⟩ = some (.string n.text) := (hb.cell (p := ⟨pb, po + i * 14 + 2, none⟩) hpb).trans (hcell 2 (by omega))
 have k3 : w1.cell? ⟨pb, po + i * 14 + 3, none⟩ = some (.string n.ref.sh) := (hb.cell (p := ⟨pb, po + i * 14 + 3, none⟩) hpb).trans (hcell 3 (by omega))
 have k4 : w1.cell? ⟨pb, po + i * 14 + 4, none⟩ = some (.int .i64 n.ref.c) := (hb.cell (p := ⟨pb, po + i * 14 + 4, none⟩) hpb).trans (hcell 4 (by omega))
 have k5 : w1.cell? ⟨pb, po + i * 14 + 5, none⟩ = some (.int .i64 n.ref.r) := (hb.cell (p := ⟨pb, po + i * 14 + 5, none⟩) hpb).trans (hcell 5 (by omega))
 have k6 : w1.cell? ⟨pb, po + i * 14 + 6, none⟩ = some (.bool n.ref.ac) := (hb.cell (p := ⟨pb, po + i * 14 + 6, none⟩) hpb).trans (hcell 6 (by omega))
 have k7 : w1.cell? ⟨pb, po + i * 14 + 7, none⟩ = some (.bool n.ref.ar) := (hb.cell (p := ⟨pb, po + i * 14 + 7, none⟩) hpb).trans (hcell 7 (by omega))
 have k8 : w1.cell? ⟨pb, po + i * 14 + 8, none⟩ = some (.string n.to.sh) := (hb.cell (p := ⟨pb, po + i * 14 + 8, none⟩) hpb).trans (hcell 8 (by omega))
 have k9 : w1.cell? ⟨pb, po + i * 14 + 9, none⟩ = some (.int .i64 n.to.c) := (hb.cell (p := ⟨pb, po + i * 14 + 9, none⟩) hpb).trans (hcell 9 (by omega))
 have k10 : w1.cell? ⟨pb, po + i * 14 + 10, none⟩ = some (.int .i64 n.to.r) := (hb.cell (p := ⟨pb, po + i * 14 + 10, none⟩) hpb).trans (hcell 10 (by omega))
 have k11 : w1.cell? ⟨pb, po + i * 14 + 11, none⟩ = some (.bool n.to.ac) := (hb.cell (p := ⟨pb, po + i * 14 + 11, none⟩) hpb).trans (hcell 11 (by omega))
 have k12 : w1.cell? ⟨pb, po + i * 14 + 12, none⟩ = some (.bool n.to.ar) := (hb.cell (p := ⟨pb, po + i * 14 + 12, none⟩) hpb).trans (hcell 12 (by omega))
 have k13 : w1.cell? ⟨pb, po + i * 14 + 13, none⟩ = some (.slice Ak m ck) := (hb.cell (p := ⟨pb, po + i * 14 + 13, none⟩) hpb).trans (hcell 13 (by omega))
 have HK := Lib.hid hk
 have HT := Lib.hid (show shN ns (i : Int) = textL (sb n.ref.sh) n.ref.c n.ref.r n.ref.ac n.ref.ar by rw [HSH.out, if_neg (by omega), if_neg (by omega), if_neg (by omega), if_neg (by omega), if_pos hk])
 clear hk
 have hB3 : Below w1.heap.size w1 (w1.alloc (.cells #[.int .i64 n.kind, .int .i64 n.num, .string n.text, .string n.ref.sh, .int .i64 n.ref.c, .int .i64 n.ref.r, .bool n.ref.ac, .bool n.ref.ar, .string n.to.sh, .int .i64 n.to.c, .int .i64 n.to.r, .bool n.to.ac, .bool n.to.ar, .slice Ak m ck] 27)) := (Below.refl _ _).alloc (Nat.le_refl _) _
 have HN3 : NdAt (w1.alloc (.cells #[.int .i64 n.kind, .int .i64 n.num, .string n.text, .string n.ref.sh, .int .i64 n.ref.c, .int .i64 n.ref.r, .bool n.ref.ac, .bool n.ref.ar, .string n.to.sh, .int .i64 n.to.c, .int .i64 n.to.r, .bool n.to.ac, .bool n.to.ar, .slice Ak m ck] 27)) w1.heap.size n (.slice Ak m ck) := NdAt.new w1 n _
 have HB3 := Lib.hid hB3
 clear hB3 C hi hmem hcell hkat hkc hkm hm hnl hnode hlf hsk hb
 go_enter Tryz.func21, Tryz.ntmps21
 go_upto_region 2 with (fail)
 generalize hb3 : w1.heap.size = b3 at HN3 ⊢
 generalize w1.alloc (.cells #[.int .i64 n.kind, .int .i64 n.num, .string n.text, .string n.ref.sh, .int .i64 n.ref.c, .int .i64 n.ref.r, .bool n.ref.ac, .bool n.ref.ar, .string n.to.sh, .int .i64 n.to.c, .int .i64 n.to.r, .bool n.to.ac, .bool n.to.ar, .slice Ak m ck] 27) = w3 at HN3 HB3 ⊢
 clear hb3 k0 k1 k2 k3 k4 k5 k6 k7 k8 k9 k10 k11 k12 k13
 obtain ⟨x0, x1, x2, x3, x4, x5, x6, x7, x8, x9, x10, x11, x12, x13⟩ := HN3.cells
 have hb3 := HN3.lt
 have HN3 := Lib.hid HN3
 have hk := HK.out
 have e1 : (n.kind == 1) = false := by rw [hk]; rfl
 have e2 : (n.kind == 2) = false := by rw [hk]; rfl
 have e3 : (n.kind == 3) = false := by rw [hk]; rfl
 have e4 : (n.kind == 4) = false := by rw [hk]; rfl
 have e5 : (n.kind == 5) = true := by rw [hk]; rfl
 clear hk
 have HD := Lib.hid (fun w => refText_any n.ref.sh n.ref.c n.ref.r n.ref.ac n.ref.ar w hz2)
 go_wp2_with (go_at_call 37; ((with_reducible refine (HD.out _).mono ?_); rintro e w4 ⟨rfl, h1⟩; have HB4 := Lib.hid (HB3.out.trans (h1.mono HB3.out.size)); clear h1))
 go_ret
 exact ⟨by rw [HT.out] <;> rfl, HB4.out⟩
theorem inL_len (b : Bool) (t : List Int) : t.length ≤ (inL b t).length ∧ (inL b t).length ≤ t.length + 2 := by
 unfold inL; cases b <;> simp <;> omega
theorem strOf_forty : (⟨#[40]⟩ : ByteArray) = strOfNums [40] := by decide
theorem strOf_fortyone : (⟨#[41]⟩ : ByteArray) = strOfNums [41] := by decide
theorem refInL_any (t : List Int) (b : Bool) (w : World) (hs : t.length ≤ 10000000000) : Calls Tryz.prog 38 #[.string (strOfNums t), .bool b] w fun e w' => e = .returned (.string (strOfNums (inL b t))) ∧ w = w' := by
 have hz : (strOfNums t).size = t.length := strOfNums_size t
 cases b
 · go_enter Tryz.func38, Tryz.ntmps38
   go_wp2_with fail
   go_ret
   exact ⟨rfl, rfl⟩
 · have HS := Lib.hid (show ((⟨#[40]⟩ : ByteArray) ++ strOfNums t) ++ ⟨#[41]⟩ = strOfNums (inL true t) by rw [strOf_forty, strOf_fortyone, str_append, str_append]; rfl)
   obtain ⟨s, hs2⟩ : ∃ s, strOfNums t = s := ⟨_, rfl⟩
   rw [hs2] at HS hz ⊢
   have hz2 : s.size ≤ 10000000000 := by omega
   have h1 : ¬ 9223372036854775807 < (⟨#[40]⟩ : ByteArray).size + s.size := by show ¬ _ < 1 + s.size; omega
   have h2 : ((⟨#[40]⟩ : ByteArray) ++ s).size = 1 + s.size := by rw [ByteArray.size_append]; rfl
   clear hs2 hz
   go_enter Tryz.func38, Tryz.ntmps38
   go_wp2_with fail
   go_ret
   exact ⟨ret_str HS.out, rfl⟩
theorem ShC.kid {w : World} {v : Value} {l : List (Nd × Value)} {ns : List Nd} (h : ShC w v l ns) {i : Nat} {n : Nd} {k : Value} (hi : l[i]? = some (n, k)) {x : Int} (hx : x ∈ n.kids) : ∃ j : Nat, x = (j : Int) ∧ j < i ∧ j < l.length ∧ ∃ q kq, l[j]? = some (q, kq) ∧ nodeAt ns (j : Int) = q := by
 obtain ⟨h1, h2⟩ := h.node hi
 have hk := (tree_at h.tree (i := (i : Int)) (by omega) (by omega)).2
 rw [h1] at hk
 obtain ⟨h3, h4⟩ := hk x hx
 have hl := (List.getElem?_eq_some_iff.1 hi).1
 have hjl : x.toNat < l.length := by omega
 have he : l[x.toNat]? = some (l[x.toNat].1, l[x.toNat].2) := List.getElem?_eq_getElem hjl
 exact ⟨x.toNat, by omega, by omega, hjl, _, _, he, (h.node he).1⟩
def ShIH (w : World) (v : Value) (ns : List Nd) (i : Nat) : Prop := ∀ j : Nat, j < i → (shN ns (j : Int)).length ≤ 1000000000 → ∀ w1, Below w.heap.size w w1 → Calls Tryz.prog 21 #[v, .int .i64 (j : Int)] w1 (ShR ns j w1)
set_option maxRecDepth 100000 in
set_option maxHeartbeats 4000000 in
theorem shown_6 {w : World} {v : Value} {l : List (Nd × Value)} {ns : List Nd} (C : ShC w v l ns) (i : Nat) (n : Nd) (k : Value) (hi : l[i]? = some (n, k)) (hk : n.kind = 6) (w1 : World) (hb : Below w.heap.size w w1) :
 Calls Tryz.prog 21 #[v, .int .i64 (i : Int)] w1 (ShR ns i w1) := by
 obtain ⟨hnode, hil⟩ := C.node hi
 have hlf := C.leaf hi
 have hmem := List.mem_of_getElem? hi
 have hll : i < l.length := (List.getElem?_eq_some_iff.1 hi).1
 obtain ⟨hz1, hz2, hz3⟩ := (show n.text.size ≤ 1000000 ∧ n.ref.sh.size ≤ 1000000 ∧ n.to.sh.size ≤ 1000000 from C.sizes _ hmem)
 have hnum : n.num ≤ 9223372036854775807 := C.nums _ hmem
 have hfew := C.few
 have HC := Lib.hid C
 obtain ⟨A, cap, rfl⟩ := C.sn.lenle
 obtain ⟨hsk, pb, po, rfl, hpb, hcell⟩ := C.sn.cellAt hi
 obtain ⟨Ak, ck, hkk, hkc, hkm, hkat⟩ := id hsk
 obtain ⟨m, hm⟩ : ∃ m, n.kids.length = m := ⟨_, rfl⟩
 rw [hm] at hkk hkc
 subst hkk
 obtain ⟨nl, hnl⟩ : ∃ nl, l.length = nl := ⟨_, rfl⟩
 rw [hnl] at hll hfew ⊢
 have hii : (i : Int) < (nl : Int) := by omega
 have hi0 : (0 : Int) ≤ (i : Int) := by omega
 have hmx : m ≤ 9223372036854775807 := by unfold maxLen at hkm; omega
 have HM := Lib.hid hm; have HNL := Lib.hid hnl; have HKAT := Lib.hid hkat; have HND := Lib.hid hnode; have HLF := Lib.hid hlf; have HKC := Lib.hid hkc; have HB := Lib.hid hb
 have HSH := Lib.hid (shN_eq C.tree (i := (i : Int)) (by omega) (by omega) n hnode)
 have k0 : w1.cell? ⟨pb, po + i * 14, none⟩ = some (.int .i64 n.kind) := (hb.cell (p := ⟨pb, po + i * 14, none⟩) hpb).trans (hcell 0 (by omega))
 have k1 : w1.cell? ⟨pb, po + i * 14 + 1, none⟩ = some (.int .i64 n.num) := (hb.cell (p := ⟨pb, po + i * 14 + 1, none⟩) hpb).trans (hcell 1 (by omega))
 have k2 : w1.cell? ⟨pb, po + i * 14 + 2, none⟩ = some (.string n.text) := (hb.cell (p := ⟨pb, po + i * 14 + 2, none⟩) hpb).trans (hcell 2 (by omega))
 have k3 : w1.cell? ⟨pb, po + i * 14 + 3, none⟩ = some (.string n.ref.sh) := (hb.cell (p := ⟨pb, po + i * 14 + 3, none⟩) hpb).trans (hcell 3 (by omega))
 have k4 : w1.cell? ⟨pb, po + i * 14 + 4, none⟩ = some (.int .i64 n.ref.c) := (hb.cell (p := ⟨pb, po + i * 14 + 4, none⟩) hpb).trans (hcell 4 (by omega))
 have k5 : w1.cell? ⟨pb, po + i * 14 + 5, none⟩ = some (.int .i64 n.ref.r) := (hb.cell (p := ⟨pb, po + i * 14 + 5, none⟩) hpb).trans (hcell 5 (by omega))
 have k6 : w1.cell? ⟨pb, po + i * 14 + 6, none⟩ = some (.bool n.ref.ac) := (hb.cell (p := ⟨pb, po + i * 14 + 6, none⟩) hpb).trans (hcell 6 (by omega))
 have k7 : w1.cell? ⟨pb, po + i * 14 + 7, none⟩ = some (.bool n.ref.ar) := (hb.cell (p := ⟨pb, po + i * 14 + 7, none⟩) hpb).trans (hcell 7 (by omega))
 have k8 : w1.cell? ⟨pb, po + i * 14 + 8, none⟩ = some (.string n.to.sh) := (hb.cell (p := ⟨pb, po + i * 14 + 8, none⟩) hpb).trans (hcell 8 (by omega))
 have k9 : w1.cell? ⟨pb, po + i * 14 + 9, none⟩ = some (.int .i64 n.to.c) := (hb.cell (p := ⟨pb, po + i * 14 + 9, none⟩) hpb).trans (hcell 9 (by omega))
 have k10 : w1.cell? ⟨pb, po + i * 14 + 10, none⟩ = some (.int .i64 n.to.r) := (hb.cell (p := ⟨pb, po + i * 14 + 10, none⟩) hpb).trans (hcell 10 (by omega))
 have k11 : w1.cell? ⟨pb, po + i * 14 + 11, none⟩ = some (.bool n.to.ac) := (hb.cell (p := ⟨pb, po + i * 14 + 11, none⟩) hpb).trans (hcell 11 (by omega))
 have k12 : w1.cell? ⟨pb, po + i * 14 + 12, none⟩ = some (.bool n.to.ar) := (hb.cell (p := ⟨pb, po + i * 14 + 12, none⟩) hpb).trans (hcell 12 (by omega))
 have k13 : w1.cell? ⟨pb, po + i * 14 + 13, none⟩ = some (.slice Ak m ck) := (hb.cell (p := ⟨pb, po + i * 14 + 13, none⟩) hpb).trans (hcell 13 (by omega))
 have HK := Lib.hid hk
 have HT := Lib.hid (show shN ns (i : Int) = textL (sb n.ref.sh) n.ref.c n.ref.r n.ref.ac n.ref.ar ++ 58 :: textL (sb n.to.sh) n.to.c n.to.r n.to.ac n.to.ar by rw [HSH.out, if_neg (by omega), if_neg (by omega), if_neg (by omega), if_neg (by omega), if_neg (by omega), if_pos hk])
 clear hk
 have hB3 : Below w1.heap.size w1 (w1.alloc (.cells #[.int .i64 n.kind, .int .i64 n.num, .string n.text, .string n.ref.sh, .int .i64 n.ref.c, .int .i64 n.ref.r, .bool n.ref.ac, .bool n.ref.ar, .string n.to.sh, .int .i64 n.to.c, .int .i64 n.to.r, .bool n.to.ac, .bool n.to.ar, .slice Ak m ck] 27)) := (Below.refl _ _).alloc (Nat.le_refl _) _
 have HN3 : NdAt (w1.alloc (.cells #[.int .i64 n.kind, .int .i64 n.num, .string n.text, .string n.ref.sh, .int .i64 n.ref.c, .int .i64 n.ref.r, .bool n.ref.ac, .bool n.ref.ar, .string n.to.sh, .int .i64 n.to.c, .int .i64 n.to.r, .bool n.to.ac, .bool n.to.ar, .slice Ak m ck] 27)) w1.heap.size n (.slice Ak m ck) := NdAt.new w1 n _
 have HB3 := Lib.hid hB3
 clear hB3 C hi hmem hcell hkat hkc hkm hm hnl hnode hlf hsk hb
 go_enter Tryz.func21, Tryz.ntmps21
 go_upto_region 2 with (fail)
 generalize hb3 : w1.heap.size = b3 at HN3 ⊢
 generalize w1.alloc (.cells #[.int .i64 n.kind, .int .i64 n.num, .string n.text, .string n.ref.sh, .int .i64 n.ref.c, .int .i64 n.ref.r, .bool n.ref.ac, .bool n.ref.ar, .string n.to.sh, .int .i64 n.to.c, .int .i64 n.to.r, .bool n.to.ac, .bool n.to.ar, .slice Ak m ck] 27) = w3 at HN3 HB3 ⊢
 clear hb3 k0 k1 k2 k3 k4 k5 k6 k7 k8 k9 k10 k11 k12 k13
 obtain ⟨x0, x1, x2, x3, x4, x5, x6, x7, x8, x9, x10, x11, x12, x13⟩ := HN3.cells
 have hb3 := HN3.lt
 have HN3 := Lib.hid HN3
 have hk := HK.out
 have e1 : (n.kind == 1) = false := by rw [hk]; rfl
 have e2 : (n.kind == 2) = false := by rw [hk]; rfl
 have e3 : (n.kind == 3) = false := by rw [hk]; rfl
 have e4 : (n.kind == 4) = false := by rw [hk]; rfl
 have e5 : (n.kind == 5) = false := by rw [hk]; rfl
 have e6 : (n.kind == 6) = true := by rw [hk]; rfl
 clear hk
 have HD := Lib.hid (fun w => refText_any n.ref.sh n.ref.c n.ref.r n.ref.ac n.ref.ar w hz2)
 have HE := Lib.hid (fun w => refText_any n.to.sh n.to.c n.to.r n.to.ac n.to.ar w hz3)
 have l1 := textL_len (sb n.ref.sh) n.ref.c n.ref.r n.ref.ac n.ref.ar
 have l2 := textL_len (sb n.to.sh) n.to.c n.to.r n.to.ac n.to.ar
 rw [length_sb] at l1 l2
 obtain ⟨T1, hT1⟩ : ∃ T, textL (sb n.ref.sh) n.ref.c n.ref.r n.ref.ac n.ref.ar = T := ⟨_, rfl⟩
 obtain ⟨T2, hT2⟩ : ∃ T, textL (sb n.to.sh) n.to.c n.to.r n.to.ac n.to.ar = T := ⟨_, rfl⟩
 rw [hT1] at HD HT l1
 rw [hT2] at HE HT l2
 clear hT1 hT2
 have HR := Lib.hid (show (strOfNums T1 ++ ⟨#[58]⟩) ++ strOfNums T2 = strOfNums (shN ns (i : Int)) by rw [HT.out, show (⟨#[58]⟩ : ByteArray) = strOfNums [58] by decide, str_append, str_append]; simp)
 have hs1 : (strOfNums T1).size = T1.length := strOfNums_size T1
 have hs2 : (strOfNums T2).size = T2.length := strOfNums_size T2
 obtain ⟨t1, ht1⟩ : ∃ t, strOfNums T1 = t := ⟨_, rfl⟩
 obtain ⟨t2, ht2⟩ : ∃ t, strOfNums T2 = t := ⟨_, rfl⟩
 rw [ht1] at HD HR hs1
 rw [ht2] at HE HR hs2
 clear ht1 ht2
 have q1 : ¬ 9223372036854775807 < t1.size + (⟨#[58]⟩ : ByteArray).size := by show ¬ _ < t1.size + 1; omega
 have q2 : (t1 ++ (⟨#[58]⟩ : ByteArray)).size = t1.size + 1 := by rw [ByteArray.size_append]; rfl
 have q3 : ¬ 9223372036854775807 < t1.size + 1 + t2.size := by omega
 have q4 : ¬ 9223372036854775807 < t1.size + 1 := by omega
 have b1 : t1.size ≤ 1000008 := by omega
 have b2 : t2.size ≤ 1000008 := by omega
 have H3 := Lib.hid ((Below.refl w3.heap.size w3).drew)
 clear hs1 hs2 l1 l2
 go_upto_region 16 with (fail)
 go_region_held3 (fun w' => w'.cell? ⟨b3, 3, none⟩ = some (.string n.ref.sh) ∧ w'.cell? ⟨b3, 4, none⟩ = some (.int .i64 n.ref.c) ∧ w'.cell? ⟨b3, 5, none⟩ = some (.int .i64 n.ref.r) ∧ w'.cell? ⟨b3, 6, none⟩ = some (.bool n.ref.ac) ∧ w'.cell? ⟨b3, 7, none⟩ = some (.bool n.ref.ar) ∧ w'.cell? ⟨b3, 8, none⟩ = some (.string n.to.sh) ∧ w'.cell? ⟨b3, 9, none⟩ = some (.int .i64 n.to.c) ∧ w'.cell? ⟨b3, 10, none⟩ = some (.int .i64 n.to.r) ∧ w'.cell? ⟨b3, 11, none⟩ = some (.bool n.to.ac) ∧ w'.cell? ⟨b3, 12, none⟩ = some (.bool n.to.ar)) (go_keep) (first
  | (go_at_call 37; ((with_reducible refine (HD.out _).mono ?_); rintro e w4 ⟨rfl, h1⟩; have H4 := Lib.hid (H3.out.trans (h1.mono H3.out.size)); clear h1; have y3 := (H4.out.cell (p := ⟨b3, 3, none⟩) hb3).trans x3; have y4 := (H4.out.cell (p := ⟨b3, 4, none⟩) hb3).trans x4; have y5 := (H4.out.cell (p := ⟨b3, 5, none⟩) hb3).trans x5; have y6 := (H4.out.cell (p := ⟨b3, 6, none⟩) hb3).trans x6; have y7 := (H4.out.cell (p := ⟨b3, 7, none⟩) hb3).trans x7; have y8 := (H4.out.cell (p := ⟨b3, 8, none⟩) hb3).trans x8; have y9 := (H4.out.cell (p := ⟨b3, 9, none⟩) hb3).trans x9; have y10 := (H4.out.cell (p := ⟨b3, 10, none⟩) hb3).trans x10; have y11 := (H4.out.cell (p := ⟨b3, 11, none⟩) hb3).trans x11; have y12 := (H4.out.cell (p := ⟨b3, 12, none⟩) hb3).trans x12))
  | (go_at_call 37; ((with_reducible refine (HE.out _).mono ?_); rintro e w5 ⟨rfl, h1⟩; have H5 := Lib.hid (H4.out.trans (h1.mono H4.out.size)); clear h1; have z3 := (H5.out.cell (p := ⟨b3, 3, none⟩) hb3).trans x3; have z4 := (H5.out.cell (p := ⟨b3, 4, none⟩) hb3).trans x4; have z5 := (H5.out.cell (p := ⟨b3, 5, none⟩) hb3).trans x5; have z6 := (H5.out.cell (p := ⟨b3, 6, none⟩) hb3).trans x6; have z7 := (H5.out.cell (p := ⟨b3, 7, none⟩) hb3).trans x7; have z8 := (H5.out.cell (p := ⟨b3, 8, none⟩) hb3).trans x8; have z9 := (H5.out.cell (p := ⟨b3, 9, none⟩) hb3).trans x9; have z10 := (H5.out.cell (p := ⟨b3, 10, none⟩) hb3).trans x10; have z11 := (H5.out.cell (p := ⟨b3, 11, none⟩) hb3).trans x11; have z12 := (H5.out.cell (p := ⟨b3, 12, none⟩) hb3).trans x12)))
 all_goals go_wp2_with fail
 all_goals go_ret
 all_goals exact ⟨ret_str HR.out, HB3.out.trans (H5.out.mono HB3.out.size)⟩
set_option maxRecDepth 100000 in
set_option maxHeartbeats 4000000 in
theorem shown_8 {w : World} {v : Value} {l : List (Nd × Value)} {ns : List Nd} (C : ShC w v l ns) (i : Nat) (n : Nd) (k : Value) (hi : l[i]? = some (n, k)) (hk : n.kind = 8) (hlen : (shN ns (i : Int)).length ≤ 1000000000) (IH : ShIH w v ns i) (w1 : World) (hb : Below w.heap.size w w1) :
 Calls Tryz.prog 21 #[v, .int .i64 (i : Int)] w1 (ShR ns i w1) := by
 obtain ⟨hnode, hil⟩ := C.node hi
 have hlf := C.leaf hi
 have hmem := List.mem_of_getElem? hi
 have hll : i < l.length := (List.getElem?_eq_some_iff.1 hi).1
 obtain ⟨hz1, hz2, hz3⟩ := (show n.text.size ≤ 1000000 ∧ n.ref.sh.size ≤ 1000000 ∧ n.to.sh.size ≤ 1000000 from C.sizes _ hmem)
 have hnum : n.num ≤ 9223372036854775807 := C.nums _ hmem
 have hfew := C.few
 have HC := Lib.hid C
 obtain ⟨A, cap, rfl⟩ := C.sn.lenle
 obtain ⟨hsk, pb, po, rfl, hpb, hcell⟩ := C.sn.cellAt hi
 obtain ⟨Ak, ck, hkk, hkc, hkm, hkat⟩ := id hsk
 obtain ⟨m, hm⟩ : ∃ m, n.kids.length = m := ⟨_, rfl⟩
 rw [hm] at hkk hkc
 subst hkk
 obtain ⟨nl, hnl⟩ : ∃ nl, l.length = nl := ⟨_, rfl⟩
 rw [hnl] at hll hfew ⊢
 have hii : (i : Int) < (nl : Int) := by omega
 have hi0 : (0 : Int) ≤ (i : Int) := by omega
 have hmx : m ≤ 9223372036854775807 := by unfold maxLen at hkm; omega
 have HM := Lib.hid hm; have HNL := Lib.hid hnl; have HKAT := Lib.hid hkat; have HND := Lib.hid hnode; have HLF := Lib.hid hlf; have HKC := Lib.hid hkc; have HB := Lib.hid hb
 have HSH := Lib.hid (shN_eq C.tree (i := (i : Int)) (by omega) (by omega) n hnode)
 have hk1 : n.kids.length = 1 := (arms_kids hlf).1 hk
 have hm1 : m = 1 := by rw [← hm]; exact hk1
 subst hm1
 have hkne : n.kids ≠ [] := by intro e; rw [e] at hm; simp at hm
 obtain ⟨kb, ko, rfl, hkb, hkc2⟩ := hkat.resolve_left hkne
 obtain ⟨a, hka⟩ : ∃ x, n.kids[0]? = some x := ⟨_, List.getElem?_eq_getElem (by omega)⟩
 have hga : n.kids.getD 0 0 = a := by rw [List.getD_eq_getElem?_getD, hka]; rfl
 obtain ⟨ja, rfl, hja, hjla, q, kva, hla, hna⟩ := C.kid hi (List.mem_of_getElem? hka)
 obtain ⟨-, pba, poa, hpa, -, hca⟩ := C.sn.cellAt hla
 injection hpa with hpa; injection hpa with hp1 hp2; subst hp1; subst hp2
 have ca : w1.cell? ⟨pb, po + ja * 14, none⟩ = some (.int .i64 q.kind) := (hb.cell (p := ⟨pb, po + ja * 14, none⟩) hpb).trans (hca 0 (by omega))
 have da : w1.cell? ⟨kb, ko, none⟩ = some (.int .i64 (ja : Int)) := (hb.cell (p := ⟨kb, ko, none⟩) hkb).trans (hkc2 0 _ hka)
 obtain ⟨Ra, hRa⟩ : ∃ R : Int, ((rankL q.kind : Nat) : Int) + 1 = R := ⟨_, rfl⟩
 have HRa := Lib.hid (show ∀ w, Calls Tryz.prog 39 #[.int .i64 q.kind] w (fun e w' => e = .returned (.int .i64 Ra) ∧ w = w') from fun w => by rw [← hRa]; exact refRank_any q.kind w)
 have hia : (ja : Int) < (l.length : Int) := by omega
 have HT := Lib.hid (show shN ns (i : Int) = 45 :: inL (decide (rankL q.kind < 4)) (shN ns (ja : Int)) by rw [HSH.out, if_neg (by omega), if_neg (by omega), if_neg (by omega), if_neg (by omega), if_neg (by omega), if_neg (by omega), if_neg (by omega), if_pos hk, hga, hna])
 have hba : (shN ns (ja : Int)).length ≤ 1000000000 := by rw [HT.out] at hlen; have := (inL_len (decide (rankL q.kind < 4)) (shN ns (ja : Int))).1; simp only [List.length_cons] at hlen; omega
 have hIA := IH ja hja hba
 rw [hnl] at hIA
 have HIA := Lib.hid hIA
 have hRd : decide (rankL q.kind < 4) = decide (Ra < 5) := by rw [decide_eq_decide]; omega
 rw [hRd] at HT
 have HCA := Lib.hid (show Below w1.heap.size w1 w1 → True from fun _ => trivial)
 clear hIA HCA hRd hRa hga hka hla hna hca hkne hkc2 IH
 rw [hnl] at hia
 have k0 : w1.cell? ⟨pb, po + i * 14, none⟩ = some (.int .i64 n.kind) := (hb.cell (p := ⟨pb, po + i * 14, none⟩) hpb).trans (hcell 0 (by omega))
 have k1 : w1.cell? ⟨pb, po + i * 14 + 1, none⟩ = some (.int .i64 n.num) := (hb.cell (p := ⟨pb, po + i * 14 + 1, none⟩) hpb).trans (hcell 1 (by omega))
 have k2 : w1.cell? ⟨pb, po + i * 14 + 2, none⟩ = some (.string n.text) := (hb.cell (p := ⟨pb, po + i * 14 + 2, none⟩) hpb).trans (hcell 2 (by omega))
 have k3 : w1.cell? ⟨pb, po + i * 14 + 3, none⟩ = some (.string n.ref.sh) := (hb.cell (p := ⟨pb, po + i * 14 + 3, none⟩) hpb).trans (hcell 3 (by omega))
 have k4 : w1.cell? ⟨pb, po + i * 14 + 4, none⟩ = some (.int .i64 n.ref.c) := (hb.cell (p := ⟨pb, po + i * 14 + 4, none⟩) hpb).trans (hcell 4 (by omega))
 have k5 : w1.cell? ⟨pb, po + i * 14 + 5, none⟩ = some (.int .i64 n.ref.r) := (hb.cell (p := ⟨pb, po + i * 14 + 5, none⟩) hpb).trans (hcell 5 (by omega))
 have k6 : w1.cell? ⟨pb, po + i * 14 + 6, none⟩ = some (.bool n.ref.ac) := (hb.cell (p := ⟨pb, po + i * 14 + 6, none⟩) hpb).trans (hcell 6 (by omega))
 have k7 : w1.cell? ⟨pb, po + i * 14 + 7, none⟩ = some (.bool n.ref.ar) := (hb.cell (p := ⟨pb, po + i * 14 + 7, none⟩) hpb).trans (hcell 7 (by omega))
 have k8 : w1.cell? ⟨pb, po + i * 14 + 8, none⟩ = some (.string n.to.sh) := (hb.cell (p := ⟨pb, po + i * 14 + 8, none⟩) hpb).trans (hcell 8 (by omega))
 have k9 : w1.cell? ⟨pb, po + i * 14 + 9, none⟩ = some (.int .i64 n.to.c) := (hb.cell (p := ⟨pb, po + i * 14 + 9, none⟩) hpb).trans (hcell 9 (by omega))
 have k10 : w1.cell? ⟨pb, po + i * 14 + 10, none⟩ = some (.int .i64 n.to.r) := (hb.cell (p := ⟨pb, po + i * 14 + 10, none⟩) hpb).trans (hcell 10 (by omega))
 have k11 : w1.cell? ⟨pb, po + i * 14 + 11, none⟩ = some (.bool n.to.ac) := (hb.cell (p := ⟨pb, po + i * 14 + 11, none⟩) hpb).trans (hcell 11 (by omega))
 have k12 : w1.cell? ⟨pb, po + i * 14 + 12, none⟩ = some (.bool n.to.ar) := (hb.cell (p := ⟨pb, po + i * 14 + 12, none⟩) hpb).trans (hcell 12 (by omega))
 have k13 : w1.cell? ⟨pb, po + i * 14 + 13, none⟩ = some (.slice (some ⟨kb, ko, none⟩) 1 ck) := (hb.cell (p := ⟨pb, po + i * 14 + 13, none⟩) hpb).trans (hcell 13 (by omega))
 have HK := Lib.hid hk
 clear hk hlen
 have hB3 : Below w1.heap.size w1 (w1.alloc (.cells #[.int .i64 n.kind, .int .i64 n.num, .string n.text, .string n.ref.sh, .int .i64 n.ref.c, .int .i64 n.ref.r, .bool n.ref.ac, .bool n.ref.ar, .string n.to.sh, .int .i64 n.to.c, .int .i64 n.to.r, .bool n.to.ac, .bool n.to.ar, .slice (some ⟨kb, ko, none⟩) 1 ck] 27)) := (Below.refl _ _).alloc (Nat.le_refl _) _
 have HN3 : NdAt (w1.alloc (.cells #[.int .i64 n.kind, .int .i64 n.num, .string n.text, .string n.ref.sh, .int .i64 n.ref.c, .int .i64 n.ref.r, .bool n.ref.ac, .bool n.ref.ar, .string n.to.sh, .int .i64 n.to.c, .int .i64 n.to.r, .bool n.to.ac, .bool n.to.ar, .slice (some ⟨kb, ko, none⟩) 1 ck] 27)) w1.heap.size n (.slice (some ⟨kb, ko, none⟩) 1 ck) := NdAt.new w1 n _
 have HB3 := Lib.hid hB3
 clear hB3 C hi hmem hcell hkat hkc hkm hm hnl hnode hlf hsk hb
 go_enter Tryz.func21, Tryz.ntmps21
 go_upto_region 2 with (fail)
 generalize hb3 : w1.heap.size = b3 at HN3 ⊢
 generalize w1.alloc (.cells #[.int .i64 n.kind, .int .i64 n.num, .string n.text, .string n.ref.sh, .int .i64 n.ref.c, .int .i64 n.ref.r, .bool n.ref.ac, .bool n.ref.ar, .string n.to.sh, .int .i64 n.to.c, .int .i64 n.to.r, .bool n.to.ac, .bool n.to.ar, .slice (some ⟨kb, ko, none⟩) 1 ck] 27) = w3 at HN3 HB3 ⊢
 have s0 := (HB3.out.cell (p := ⟨kb, ko, none⟩) (Nat.lt_of_lt_of_le hkb HB.out.size)).trans da
 have s1 := (HB3.out.cell (p := ⟨pb, po + ja * 14, none⟩) (Nat.lt_of_lt_of_le hpb HB.out.size)).trans ca
 clear da ca hb3 k0 k1 k2 k3 k4 k5 k6 k7 k8 k9 k10 k11 k12 k13
 obtain ⟨x0, x1, x2, x3, x4, x5, x6, x7, x8, x9, x10, x11, x12, x13⟩ := HN3.cells
 have hb3 := HN3.lt
 have HN3 := Lib.hid HN3
 have hk := HK.out
 have e1 : (n.kind == 1) = false := by rw [hk]; rfl
 have e2 : (n.kind == 2) = false := by rw [hk]; rfl
 have e3 : (n.kind == 3) = false := by rw [hk]; rfl
 have e4 : (n.kind == 4) = false := by rw [hk]; rfl
 have e5 : (n.kind == 5) = false := by rw [hk]; rfl
 have e6 : (n.kind == 6) = false := by rw [hk]; rfl
 have e7 : (n.kind == 7) = false := by rw [hk]; rfl
 have e8 : (n.kind == 8) = true := by rw [hk]; rfl
 clear hk
 have hkb1 : kb < w1.heap.size := Nat.lt_of_lt_of_le hkb HB.out.size
 have hpb1 : pb < w1.heap.size := Nat.lt_of_lt_of_le hpb HB.out.size
 have hkb3 : kb < w3.heap.size := Nat.lt_of_lt_of_le hkb1 HB3.out.size
 have hpb3 : pb < w3.heap.size := Nat.lt_of_lt_of_le hpb1 HB3.out.size
 have HBW := Lib.hid (HB.out.trans (HB3.out.mono HB.out.size))
 have H3 := Lib.hid ((Below.refl w3.heap.size w3).drew)
 have hzi := (inL_len (decide (Ra < 5)) (shN ns (ja : Int))).2
 have HIN := Lib.hid (fun w => refInL_any (shN ns (ja : Int)) (decide (Ra < 5)) w (by omega))
 obtain ⟨T, hT⟩ : ∃ T, inL (decide (Ra < 5)) (shN ns (ja : Int)) = T := ⟨_, rfl⟩
 rw [hT] at HT HIN hzi
 have HRR := Lib.hid (show (⟨#[45]⟩ : ByteArray) ++ strOfNums T = strOfNums (shN ns (i : Int)) by rw [HT.out, show (⟨#[45]⟩ : ByteArray) = strOfNums [45] by decide, str_append]; rfl)
 have hs1 : (strOfNums T).size = T.length := strOfNums_size T
 obtain ⟨t, ht⟩ : ∃ t, strOfNums T = t := ⟨_, rfl⟩
 rw [ht] at HIN HRR hs1
 have q1 : ¬ 9223372036854775807 < (⟨#[45]⟩ : ByteArray).size + t.size := by show ¬ _ < 1 + t.size; omega
 have q2 : ¬ 9223372036854775807 < 1 + t.size := by omega
 clear ht hT hs1 hzi
 go_upto_region 27 with (fail)
 go_region_held3 (fun w' => w'.cell? ⟨b3, 13, none⟩ = some (.slice (some ⟨kb, ko, none⟩) 1 ck) ∧ w'.cell? ⟨kb, ko, none⟩ = some (.int .i64 (ja : Int)) ∧ w'.cell? ⟨pb, po + ja * 14, none⟩ = some (.int .i64 q.kind)) (go_keep) (first
  | (go_at_call 21; ((with_reducible refine (HIA.out _ (HBW.out.trans (H3.out.mono HBW.out.size))).mono ?_); rintro e w4 ⟨rfl, h1⟩; have H4 := Lib.hid (H3.out.trans (h1.mono H3.out.size)); clear h1; have y0 := (H4.out.cell (p := ⟨b3, 13, none⟩) hb3).trans x13; have y1 := (H4.out.cell (p := ⟨kb, ko, none⟩) hkb3).trans s0; have y2 := (H4.out.cell (p := ⟨pb, po + ja * 14, none⟩) hpb3).trans s1))
  | (go_at_call 39; ((with_reducible refine (HRa.out _).mono ?_); rintro e wn ⟨rfl, rfl⟩))
  | (go_at_call 38; ((with_reducible refine (HIN.out _).mono ?_); rintro e wn ⟨rfl, rfl⟩)))
 all_goals go_wp2_with fail
 all_goals go_ret
 all_goals exact ⟨ret_str HRR.out, HB3.out.trans (H4.out.mono HB3.out.size)⟩
set_option maxRecDepth 100000 in
set_option maxHeartbeats 4000000 in
theorem shown_9 {w : World} {v : Value} {l : List (Nd × Value)} {ns : List Nd} (C : ShC w v l ns) (i : Nat) (n : Nd) (k : Value) (hi : l[i]? = some (n, k)) (hk : 9 ≤ n.kind) (hlen : (shN ns (i : Int)).length ≤ 1000000000) (IH : ShIH w v ns i) (w1 : World) (hb : Below w.heap.size w w1) :
 Calls Tryz.prog 21 #[v, .int .i64 (i : Int)] w1 (ShR ns i w1) := by
 obtain ⟨hnode, hil⟩ := C.node hi
 have hlf := C.leaf hi
 have hmem := List.mem_of_getElem? hi
 have hll : i < l.length := (List.getElem?_eq_some_iff.1 hi).1
 obtain ⟨hz1, hz2, hz3⟩ := (show n.text.size ≤ 1000000 ∧ n.ref.sh.size ≤ 1000000 ∧ n.to.sh.size ≤ 1000000 from C.sizes _ hmem)
 have hnum : n.num ≤ 9223372036854775807 := C.nums _ hmem
 have hfew := C.few
 have HC := Lib.hid C
 obtain ⟨A, cap, rfl⟩ := C.sn.lenle
 obtain ⟨hsk, pb, po, rfl, hpb, hcell⟩ := C.sn.cellAt hi
 obtain ⟨Ak, ck, hkk, hkc, hkm, hkat⟩ := id hsk
 obtain ⟨m, hm⟩ : ∃ m, n.kids.length = m := ⟨_, rfl⟩
 rw [hm] at hkk hkc
 subst hkk
 obtain ⟨nl, hnl⟩ : ∃ nl, l.length = nl := ⟨_, rfl⟩
 rw [hnl] at hll hfew ⊢
 have hii : (i : Int) < (nl : Int) := by omega
 have hi0 : (0 : Int) ≤ (i : Int) := by omega
 have hmx : m ≤ 9223372036854775807 := by unfold maxLen at hkm; omega
 have HM := Lib.hid hm; have HNL := Lib.hid hnl; have HKAT := Lib.hid hkat; have HND := Lib.hid hnode; have HLF := Lib.hid hlf; have HKC := Lib.hid hkc; have HB := Lib.hid hb
 have HSH := Lib.hid (shN_eq C.tree (i := (i : Int)) (by omega) (by omega) n hnode)
 have hk1 : n.kids.length = 2 := (arms_kids hlf).2.1 hk
 have hk19 : n.kind ≤ 19 := (arms_kids hlf).2.2.2.2.1
 have hm1 : m = 2 := by rw [← hm]; exact hk1
 subst hm1
 have hkne : n.kids ≠ [] := by intro e; rw [e] at hm; simp at hm
 obtain ⟨gb, ko, rfl, hgk, hkc2⟩ := hkat.resolve_left hkne
 obtain ⟨a, hka⟩ : ∃ x, n.kids[0]? = some x := ⟨_, List.getElem?_eq_getElem (by omega)⟩
 have hga : n.kids.getD 0 0 = a := by rw [List.getD_eq_getElem?_getD, hka]; rfl
 obtain ⟨ja, rfl, hja, hjla, q, kva, hla, hna⟩ := C.kid hi (List.mem_of_getElem? hka)
 obtain ⟨-, pba, poa, hpa, -, hca⟩ := C.sn.cellAt hla
 injection hpa with hpa; injection hpa with hp1 hp2; subst hp1; subst hp2
 have ca : w1.cell? ⟨pb, po + ja * 14, none⟩ = some (.int .i64 q.kind) := (hb.cell (p := ⟨pb, po + ja * 14, none⟩) hpb).trans (hca 0 (by omega))
 have da : w1.cell? ⟨gb, ko, none⟩ = some (.int .i64 (ja : Int)) := (hb.cell (p := ⟨gb, ko, none⟩) hgk).trans (hkc2 0 _ hka)
 obtain ⟨Ra, hRa⟩ : ∃ R : Int, ((rankL q.kind : Nat) : Int) + 1 = R := ⟨_, rfl⟩
 have HRa := Lib.hid (show ∀ w, Calls Tryz.prog 39 #[.int .i64 q.kind] w (fun e w' => e = .returned (.int .i64 Ra) ∧ w = w') from fun w => by rw [← hRa]; exact refRank_any q.kind w)
 have hia : (ja : Int) < (l.length : Int) := by omega
 obtain ⟨b, hkb⟩ : ∃ x, n.kids[1]? = some x := ⟨_, List.getElem?_eq_getElem (by omega)⟩
 have hgb : n.kids.getD 1 0 = b := by rw [List.getD_eq_getElem?_getD, hkb]; rfl
 obtain ⟨jb, rfl, hjb, hjlb, r, kvb, hlb, hnb⟩ := C.kid hi (List.mem_of_getElem? hkb)
 obtain ⟨-, pbb, pob, hpb, -, hcb⟩ := C.sn.cellAt hlb
 injection hpb with hpb; injection hpb with hp1 hp2; subst hp1; subst hp2
 have cb : w1.cell? ⟨pb, po + jb * 14, none⟩ = some (.int .i64 r.kind) := (hb.cell (p := ⟨pb, po + jb * 14, none⟩) hpb).trans (hcb 0 (by omega))
 have db : w1.cell? ⟨gb, ko + 1, none⟩ = some (.int .i64 (jb : Int)) := (hb.cell (p := ⟨gb, ko + 1, none⟩) hgk).trans (hkc2 1 _ hkb)
 obtain ⟨Rb, hRb⟩ : ∃ R : Int, ((rankL r.kind : Nat) : Int) + 1 = R := ⟨_, rfl⟩
 have HRb := Lib.hid (show ∀ w, Calls Tryz.prog 39 #[.int .i64 r.kind] w (fun e w' => e = .returned (.int .i64 Rb) ∧ w = w') from fun w => by rw [← hRb]; exact refRank_any r.kind w)
 have hib : (jb : Int) < (l.length : Int) := by omega
 obtain ⟨o, ho, ho11⟩ : ∃ o : Nat, n.kind = 9 + (o : Int) ∧ o < 11 := ⟨(n.kind - 9).toNat, by omega, by omega⟩
 have hoo : (n.kind - 9).toNat = o := by omega
 obtain ⟨N, hN⟩ : ∃ R : Int, ((rankL n.kind : Nat) : Int) + 1 = R := ⟨_, rfl⟩
 have HRN := Lib.hid (show ∀ w, Calls Tryz.prog 39 #[.int .i64 n.kind] w (fun e w' => e = .returned (.int .i64 N) ∧ w = w') from fun w => by rw [← hN]; exact refRank_any n.kind w)
 have HOP := Lib.hid (show ∀ w, Calls Tryz.prog 40 #[.int .i64 n.kind] w (fun e w' => e = .returned (.string (strOfNums (opL o))) ∧ Below w.heap.size w w') from fun w => by
  rw [ho, ← (op_rank o ho11).2, str_sb]; exact refOp_any o ho11 w)
 have hol : (opL o).length ≤ 2 := (show ∀ o : Nat, o < 11 → (opL o).length ≤ 2 by decide) o ho11
 have HT := Lib.hid (show shN ns (i : Int) = inL (decide (rankL q.kind < rankL n.kind)) (shN ns (ja : Int)) ++ (opL o ++ inL (decide (rankL r.kind ≤ rankL n.kind)) (shN ns (jb : Int))) by rw [HSH.out, if_neg (by omega), if_neg (by omega), if_neg (by omega), if_neg (by omega), if_neg (by omega), if_neg (by omega), if_neg (by omega), if_neg (by omega), hga, hgb, hna, hnb, hoo])
 have hba : (shN ns (ja : Int)).length ≤ 1000000000 := by rw [HT.out] at hlen; have := (inL_len (decide (rankL q.kind < rankL n.kind)) (shN ns (ja : Int))).1; simp only [List.length_append] at hlen; omega
 have hbb : (shN ns (jb : Int)).length ≤ 1000000000 := by rw [HT.out] at hlen; have := (inL_len (decide (rankL r.kind ≤ rankL n.kind)) (shN ns (jb : Int))).1; simp only [List.length_append] at hlen; omega
 have hIA := IH ja hja hba
 have hIB := IH jb hjb hbb
 rw [hnl] at hIA hIB
 have HIA := Lib.hid hIA
 have HIB := Lib.hid hIB
 have hRd : decide (rankL q.kind < rankL n.kind) = decide (Ra < N) := by rw [decide_eq_decide]; omega
 have hRe : decide (rankL r.kind ≤ rankL n.kind) = decide (Rb ≤ N) := by rw [decide_eq_decide]; omega
 rw [hRd, hRe] at HT
 clear hIA hIB hRd hRe hRa hRb hga hgb hka hkb hla hlb hna hnb hca hcb hkne hkc2 IH hN hoo ho
 rw [hnl] at hia hib
 have k0 : w1.cell? ⟨pb, po + i * 14, none⟩ = some (.int .i64 n.kind) := (hb.cell (p := ⟨pb, po + i * 14, none⟩) hpb).trans (hcell 0 (by omega))
 have k1 : w1.cell? ⟨pb, po + i * 14 + 1, none⟩ = some (.int .i64 n.num) := (hb.cell (p := ⟨pb, po + i * 14 + 1, none⟩) hpb).trans (hcell 1 (by omega))
 have k2 : w1.cell? ⟨pb, po + i * 14 + 2, none⟩ = some (.string n.text) := (hb.cell (p := ⟨pb, po + i * 14 + 2, none⟩) hpb).trans (hcell 2 (by omega))
 have k3 : w1.cell? ⟨pb, po + i * 14 + 3, none⟩ = some (.string n.ref.sh) := (hb.cell (p := ⟨pb, po + i * 14 + 3, none⟩) hpb).trans (hcell 3 (by omega))
 have k4 : w1.cell? ⟨pb, po + i * 14 + 4, none⟩ = some (.int .i64 n.ref.c) := (hb.cell (p := ⟨pb, po + i * 14 + 4, none⟩) hpb).trans (hcell 4 (by omega))
 have k5 : w1.cell? ⟨pb, po + i * 14 + 5, none⟩ = some (.int .i64 n.ref.r) := (hb.cell (p := ⟨pb, po + i * 14 + 5, none⟩) hpb).trans (hcell 5 (by omega))
 have k6 : w1.cell? ⟨pb, po + i * 14 + 6, none⟩ = some (.bool n.ref.ac) := (hb.cell (p := ⟨pb, po + i * 14 + 6, none⟩) hpb).trans (hcell 6 (by omega))
 have k7 : w1.cell? ⟨pb, po + i * 14 + 7, none⟩ = some (.bool n.ref.ar) := (hb.cell (p := ⟨pb, po + i * 14 + 7, none⟩) hpb).trans (hcell 7 (by omega))
 have k8 : w1.cell? ⟨pb, po + i * 14 + 8, none⟩ = some (.string n.to.sh) := (hb.cell (p := ⟨pb, po + i * 14 + 8, none⟩) hpb).trans (hcell 8 (by omega))
 have k9 : w1.cell? ⟨pb, po + i * 14 + 9, none⟩ = some (.int .i64 n.to.c) := (hb.cell (p := ⟨pb, po + i * 14 + 9, none⟩) hpb).trans (hcell 9 (by omega))
 have k10 : w1.cell? ⟨pb, po + i * 14 + 10, none⟩ = some (.int .i64 n.to.r) := (hb.cell (p := ⟨pb, po + i * 14 + 10, none⟩) hpb).trans (hcell 10 (by omega))
 have k11 : w1.cell? ⟨pb, po + i * 14 + 11, none⟩ = some (.bool n.to.ac) := (hb.cell (p := ⟨pb, po + i * 14 + 11, none⟩) hpb).trans (hcell 11 (by omega))
 have k12 : w1.cell? ⟨pb, po + i * 14 + 12, none⟩ = some (.bool n.to.ar) := (hb.cell (p := ⟨pb, po + i * 14 + 12, none⟩) hpb).trans (hcell 12 (by omega))
 have k13 : w1.cell? ⟨pb, po + i * 14 + 13, none⟩ = some (.slice (some ⟨gb, ko, none⟩) 2 ck) := (hb.cell (p := ⟨pb, po + i * 14 + 13, none⟩) hpb).trans (hcell 13 (by omega))
 have HK := Lib.hid (show 9 ≤ n.kind from hk)
 clear hk hlen
 have hB3 : Below w1.heap.size w1 (w1.alloc (.cells #[.int .i64 n.kind, .int .i64 n.num, .string n.text, .string n.ref.sh, .int .i64 n.ref.c, .int .i64 n.ref.r, .bool n.ref.ac, .bool n.ref.ar, .string n.to.sh, .int .i64 n.to.c, .int .i64 n.to.r, .bool n.to.ac, .bool n.to.ar, .slice (some ⟨gb, ko, none⟩) 2 ck] 27)) := (Below.refl _ _).alloc (Nat.le_refl _) _
 have HN3 : NdAt (w1.alloc (.cells #[.int .i64 n.kind, .int .i64 n.num, .string n.text, .string n.ref.sh, .int .i64 n.ref.c, .int .i64 n.ref.r, .bool n.ref.ac, .bool n.ref.ar, .string n.to.sh, .int .i64 n.to.c, .int .i64 n.to.r, .bool n.to.ac, .bool n.to.ar, .slice (some ⟨gb, ko, none⟩) 2 ck] 27)) w1.heap.size n (.slice (some ⟨gb, ko, none⟩) 2 ck) := NdAt.new w1 n _
 have HB3 := Lib.hid hB3
 clear hB3 C hi hmem hcell hkat hkc hkm hm hnl hnode hlf hsk hb
 go_enter Tryz.func21, Tryz.ntmps21
 go_upto_region 2 with (fail)
 generalize hb3 : w1.heap.size = b3 at HN3 ⊢
 generalize w1.alloc (.cells #[.int .i64 n.kind, .int .i64 n.num, .string n.text, .string n.ref.sh, .int .i64 n.ref.c, .int .i64 n.ref.r, .bool n.ref.ac, .bool n.ref.ar, .string n.to.sh, .int .i64 n.to.c, .int .i64 n.to.r, .bool n.to.ac, .bool n.to.ar, .slice (some ⟨gb, ko, none⟩) 2 ck] 27) = w3 at HN3 HB3 ⊢
 have hgb1 : gb < w1.heap.size := Nat.lt_of_lt_of_le hgk HB.out.size
 have hpb1 : pb < w1.heap.size := Nat.lt_of_lt_of_le hpb HB.out.size
 have s0 := (HB3.out.cell (p := ⟨gb, ko, none⟩) hgb1).trans da
 have s1 := (HB3.out.cell (p := ⟨pb, po + ja * 14, none⟩) hpb1).trans ca
 have s2 := (HB3.out.cell (p := ⟨gb, ko + 1, none⟩) hgb1).trans db
 have s3 := (HB3.out.cell (p := ⟨pb, po + jb * 14, none⟩) hpb1).trans cb
 clear da ca db cb hb3 k0 k1 k2 k3 k4 k5 k6 k7 k8 k9 k10 k11 k12 k13
 obtain ⟨x0, x1, x2, x3, x4, x5, x6, x7, x8, x9, x10, x11, x12, x13⟩ := HN3.cells
 have hb3 := HN3.lt
 have HN3 := Lib.hid HN3
 have hk9 := HK.out
 have e1 : (n.kind == 1) = false := beq_eq_false_iff_ne.2 (by omega)
 have e2 : (n.kind == 2) = false := beq_eq_false_iff_ne.2 (by omega)
 have e3 : (n.kind == 3) = false := beq_eq_false_iff_ne.2 (by omega)
 have e4 : (n.kind == 4) = false := beq_eq_false_iff_ne.2 (by omega)
 have e5 : (n.kind == 5) = false := beq_eq_false_iff_ne.2 (by omega)
 have e6 : (n.kind == 6) = false := beq_eq_false_iff_ne.2 (by omega)
 have e7 : (n.kind == 7) = false := beq_eq_false_iff_ne.2 (by omega)
 have e8 : (n.kind == 8) = false := beq_eq_false_iff_ne.2 (by omega)
 clear hk9
 have hpb3 : pb < w3.heap.size := Nat.lt_of_lt_of_le hpb1 HB3.out.size
 have HBW := Lib.hid (HB.out.trans (HB3.out.mono HB.out.size))
 have hzi := (inL_len (decide (Ra < N)) (shN ns (ja : Int))).2
 have hzj := (inL_len (decide (Rb ≤ N)) (shN ns (jb : Int))).2
 have HINA := Lib.hid (fun w => refInL_any (shN ns (ja : Int)) (decide (Ra < N)) w (by omega))
 have HINB := Lib.hid (fun w => refInL_any (shN ns (jb : Int)) (decide (Rb ≤ N)) w (by omega))
 obtain ⟨T, hT⟩ : ∃ T, inL (decide (Ra < N)) (shN ns (ja : Int)) = T := ⟨_, rfl⟩
 obtain ⟨U, hU⟩ : ∃ T, inL (decide (Rb ≤ N)) (shN ns (jb : Int)) = T := ⟨_, rfl⟩
 rw [hT] at HINA hzi
 rw [hU] at HINB hzj
 rw [hT, hU] at HT
 have HRR := Lib.hid (show (strOfNums T ++ strOfNums (opL o)) ++ strOfNums U = strOfNums (shN ns (i : Int)) by rw [HT.out, str_append, str_append, List.append_assoc])
 have hs1 : (strOfNums T).size = T.length := strOfNums_size T
 have hs2 : (strOfNums U).size = U.length := strOfNums_size U
 have hs3 : (strOfNums (opL o)).size = (opL o).length := strOfNums_size _
 obtain ⟨t, ht⟩ : ∃ t, strOfNums T = t := ⟨_, rfl⟩
 obtain ⟨u, hu⟩ : ∃ t, strOfNums U = t := ⟨_, rfl⟩
 obtain ⟨s, hs⟩ : ∃ t, strOfNums (opL o) = t := ⟨_, rfl⟩
 rw [ht] at HINA HRR hs1
 rw [hu] at HINB HRR hs2
 rw [hs] at HOP HRR hs3
 have q1 : ¬ 9223372036854775807 < t.size + s.size := by omega
 have q2 : (t ++ s).size = t.size + s.size := ByteArray.size_append
 have q3 : ¬ 9223372036854775807 < t.size + s.size + u.size := by omega
 have q4 : t.size ≤ 1000000002 := by omega
 have q5 : u.size ≤ 1000000002 := by omega
 have q6 : s.size ≤ 2 := by omega
 clear ht hu hs hT hU hs1 hs2 hs3 hzi hzj hol hba hbb
 go_upto_region 28 with (fail)
 go_quiet (fail)
 go_upto_region 29 with (fail)
 have hb4 : b3 < (w3.drewN nq).heap.size := hb3
 have hpb4 : pb < (w3.drewN nq).heap.size := hpb3
 have HB4 := Lib.hid (drew_below HB3.out nq)
 have HBW4 := Lib.hid (drew_below HBW.out nq)
 have t0 : (w3.drewN nq).cell? ⟨b3, 0, none⟩ = some (.int .i64 n.kind) := x0
 have t1 : (w3.drewN nq).cell? ⟨pb, po + ja * 14, none⟩ = some (.int .i64 q.kind) := s1
 have t2 : (w3.drewN nq).cell? ⟨pb, po + jb * 14, none⟩ = some (.int .i64 r.kind) := s3
 clear x0 x1 x2 x3 x4 x5 x6 x7 x8 x9 x10 x11 x12 x13 s0 s1 s2 s3 HB3 HBW HN3 hb3 hpb3
 generalize w3.drewN nq = w4 at hb4 hpb4 HB4 HBW4 t0 t1 t2 ⊢
 have H4 := Lib.hid ((Below.refl w4.heap.size w4).drew)
 go_region_held3 (fun w' => w'.cell? ⟨b3, 0, none⟩ = some (.int .i64 n.kind) ∧ w'.cell? ⟨pb, po + ja * 14, none⟩ = some (.int .i64 q.kind) ∧ w'.cell? ⟨pb, po + jb * 14, none⟩ = some (.int .i64 r.kind)) (go_keep) (first
  | (go_at_call 21; ((with_reducible refine (HIA.out _ (HBW4.out.trans (H4.out.mono HBW4.out.size))).mono ?_); rintro e w5 ⟨rfl, h1⟩; have H5 := Lib.hid (H4.out.trans (h1.mono H4.out.size)); clear h1; have y0 := (H5.out.cell (p := ⟨b3, 0, none⟩) hb4).trans t0; have y1 := (H5.out.cell (p := ⟨pb, po + ja * 14, none⟩) hpb4).trans t1; have y2 := (H5.out.cell (p := ⟨pb, po + jb * 14, none⟩) hpb4).trans t2))
  | (go_at_call 39; ((with_reducible refine (HRa.out _).mono ?_); rintro e wn ⟨rfl, rfl⟩))
  | (go_at_call 39; ((with_reducible refine (HRN.out _).mono ?_); rintro e wn ⟨rfl, rfl⟩))
  | (go_at_call 39; ((with_reducible refine (HRb.out _).mono ?_); rintro e wn ⟨rfl, rfl⟩))
  | (go_at_call 38; ((with_reducible refine (HINA.out _).mono ?_); rintro e wn ⟨rfl, rfl⟩))
  | (go_at_call 40; ((with_reducible refine (HOP.out _).mono ?_); rintro e w6 ⟨rfl, h1⟩; have H6 := Lib.hid (H5.out.trans (h1.mono H5.out.size)); clear h1; have z0 := (H6.out.cell (p := ⟨b3, 0, none⟩) hb4).trans t0; have z1 := (H6.out.cell (p := ⟨pb, po + ja * 14, none⟩) hpb4).trans t1; have z2 := (H6.out.cell (p := ⟨pb, po + jb * 14, none⟩) hpb4).trans t2))
  | (go_at_call 21; ((with_reducible refine (HIB.out _ (HBW4.out.trans (H6.out.mono HBW4.out.size))).mono ?_); rintro e w7 ⟨rfl, h1⟩; have H7 := Lib.hid (H6.out.trans (h1.mono H6.out.size)); clear h1; have v0 := (H7.out.cell (p := ⟨b3, 0, none⟩) hb4).trans t0; have v1 := (H7.out.cell (p := ⟨pb, po + ja * 14, none⟩) hpb4).trans t1; have v2 := (H7.out.cell (p := ⟨pb, po + jb * 14, none⟩) hpb4).trans t2))
  | (go_at_call 38; ((with_reducible refine (HINB.out _).mono ?_); rintro e wn ⟨rfl, rfl⟩)))
 all_goals go_wp2_with fail
 all_goals go_ret
 all_goals exact ⟨ret_str HRR.out, HB4.out.trans (H7.out.mono HB4.out.size)⟩
theorem join_cut : ∀ (xs : List (List Int)) (j : Nat), ∃ r, joinA xs = joinA (xs.take j) ++ r
 | [], j => ⟨[], by simp [joinA]⟩
 | a :: l, 0 => ⟨joinA (a :: l), rfl⟩
 | [a], j + 1 => ⟨[], by simp [joinA]⟩
 | a :: b :: l, 1 => ⟨44 :: joinA (b :: l), rfl⟩
 | a :: b :: l, j + 2 => by
   obtain ⟨r, h⟩ := join_cut (b :: l) (j + 1)
   refine ⟨r, ?_⟩
   show a ++ 44 :: joinA (b :: l) = (a ++ 44 :: joinA (b :: l.take j)) ++ r
   rw [h, List.take_succ_cons]; simp
theorem join_more (xs : List (List Int)) (j : Nat) (y : List Int) (h : xs[j]? = some y) : joinA (xs.take (j + 1)) = if j = 0 then y else joinA (xs.take j) ++ 44 :: y := by
 rw [List.take_add_one, h]
 show joinA (xs.take j ++ [y]) = _
 have hl := (List.getElem?_eq_some_iff.1 h).1
 by_cases hj : j = 0
 · subst hj; rfl
 · rw [if_neg hj, joinA_snoc y _ (fun e => by have h2 : (xs.take j).length = 0 := (by rw [e]; rfl); rw [List.length_take] at h2; omega)]
theorem join_mem (xs : List (List Int)) (j : Nat) (y : List Int) (h : xs[j]? = some y) : y.length ≤ (joinA xs).length := by
 obtain ⟨r, hr⟩ := join_cut xs (j + 1)
 rw [join_more xs j y h] at hr
 rw [hr, List.length_append]
 split
 · omega
 · simp; omega
theorem join_len (xs : List (List Int)) (j : Nat) : (joinA (xs.take j)).length ≤ (joinA xs).length := by
 obtain ⟨r, hr⟩ := join_cut xs j
 rw [hr, List.length_append]; omega
def callX (n : Nd) (ns : List Nd) (j : Nat) : List Int := sb n.text ++ 40 :: joinA ((n.kids.map (shN ns)).take j)
theorem callX_zero (n : Nd) (ns : List Nd) : n.text ++ ⟨#[40]⟩ = strOfNums (callX n ns 0) := by
 have h : callX n ns 0 = sb n.text ++ [40] := by unfold callX; rw [List.take_zero]; rfl
 rw [h, ← str_append, str_sb]; rfl
theorem callX_len (n : Nd) (ns : List Nd) (j : Nat) : (callX n ns j).length ≤ (joinA (n.kids.map (shN ns))).length + n.text.size + 1 := by
 have := join_len (n.kids.map (shN ns)) j
 unfold callX; simp only [List.length_append, List.length_cons, length_sb]; omega
theorem callX_more (n : Nd) (ns : List Nd) (j : Nat) (x : Int) (h : n.kids[j]? = some x) : callX n ns (j + 1) = if j = 0 then callX n ns j ++ shN ns x else (callX n ns j ++ [44]) ++ shN ns x := by
 unfold callX
 rw [join_more _ j (shN ns x) (by rw [List.getElem?_map, h]; rfl)]
 by_cases hj : j = 0
 · subst hj; rw [if_pos rfl, if_pos rfl]; simp [joinA]
 · rw [if_neg hj, if_neg hj]; simp
theorem callX_end (n : Nd) (ns : List Nd) (j : Nat) (h : n.kids.length ≤ j) : callX n ns j = sb n.text ++ 40 :: joinA (n.kids.map (shN ns)) := by
 unfold callX; rw [List.take_of_length_le (by rw [List.length_map]; exact h)]
set_option maxRecDepth 100000 in
set_option maxHeartbeats 4000000 in
theorem shown_7 {w : World} {v : Value} {l : List (Nd × Value)} {ns : List Nd} (C : ShC w v l ns) (i : Nat) (n : Nd) (k : Value) (hi : l[i]? = some (n, k)) (hk : n.kind = 7) (hlen : (shN ns (i : Int)).length ≤ 1000000000) (IH : ShIH w v ns i) (w1 : World) (hb : Below w.heap.size w w1) :
 Calls Tryz.prog 21 #[v, .int .i64 (i : Int)] w1 (ShR ns i w1) := by
 obtain ⟨hnode, hil⟩ := C.node hi
 have hlf := C.leaf hi
 have hmem := List.mem_of_getElem? hi
 have hll : i < l.length := (List.getElem?_eq_some_iff.1 hi).1
 obtain ⟨hz1, hz2, hz3⟩ := (show n.text.size ≤ 1000000 ∧ n.ref.sh.size ≤ 1000000 ∧ n.to.sh.size ≤ 1000000 from C.sizes _ hmem)
 have hnum : n.num ≤ 9223372036854775807 := C.nums _ hmem
 have hfew := C.few
 have HC := Lib.hid C
 obtain ⟨A, cap, rfl⟩ := C.sn.lenle
 obtain ⟨hsk, pb, po, rfl, hpb, hcell⟩ := C.sn.cellAt hi
 obtain ⟨Ak, ck, hkk, hkc, hkm, hkat⟩ := id hsk
 obtain ⟨m, hm⟩ : ∃ m, n.kids.length = m := ⟨_, rfl⟩
 rw [hm] at hkk hkc
 subst hkk
 obtain ⟨nl, hnl⟩ : ∃ nl, l.length = nl := ⟨_, rfl⟩
 rw [hnl] at hll hfew ⊢
 have hii : (i : Int) < (nl : Int) := by omega
 have hi0 : (0 : Int) ≤ (i : Int) := by omega
 have hmx : m ≤ 9223372036854775807 := by unfold maxLen at hkm; omega
 have HM := Lib.hid hm; have HNL := Lib.hid hnl; have HKAT := Lib.hid hkat; have HND := Lib.hid hnode; have HLF := Lib.hid hlf; have HKC := Lib.hid hkc; have HB := Lib.hid hb
 have HSH := Lib.hid (shN_eq C.tree (i := (i : Int)) (by omega) (by omega) n hnode)
 have k0 : w1.cell? ⟨pb, po + i * 14, none⟩ = some (.int .i64 n.kind) := (hb.cell (p := ⟨pb, po + i * 14, none⟩) hpb).trans (hcell 0 (by omega))
 have k1 : w1.cell? ⟨pb, po + i * 14 + 1, none⟩ = some (.int .i64 n.num) := (hb.cell (p := ⟨pb, po + i * 14 + 1, none⟩) hpb).trans (hcell 1 (by omega))
 have k2 : w1.cell? ⟨pb, po + i * 14 + 2, none⟩ = some (.string n.text) := (hb.cell (p := ⟨pb, po + i * 14 + 2, none⟩) hpb).trans (hcell 2 (by omega))
 have k3 : w1.cell? ⟨pb, po + i * 14 + 3, none⟩ = some (.string n.ref.sh) := (hb.cell (p := ⟨pb, po + i * 14 + 3, none⟩) hpb).trans (hcell 3 (by omega))
 have k4 : w1.cell? ⟨pb, po + i * 14 + 4, none⟩ = some (.int .i64 n.ref.c) := (hb.cell (p := ⟨pb, po + i * 14 + 4, none⟩) hpb).trans (hcell 4 (by omega))
 have k5 : w1.cell? ⟨pb, po + i * 14 + 5, none⟩ = some (.int .i64 n.ref.r) := (hb.cell (p := ⟨pb, po + i * 14 + 5, none⟩) hpb).trans (hcell 5 (by omega))
 have k6 : w1.cell? ⟨pb, po + i * 14 + 6, none⟩ = some (.bool n.ref.ac) := (hb.cell (p := ⟨pb, po + i * 14 + 6, none⟩) hpb).trans (hcell 6 (by omega))
 have k7 : w1.cell? ⟨pb, po + i * 14 + 7, none⟩ = some (.bool n.ref.ar) := (hb.cell (p := ⟨pb, po + i * 14 + 7, none⟩) hpb).trans (hcell 7 (by omega))
 have k8 : w1.cell? ⟨pb, po + i * 14 + 8, none⟩ = some (.string n.to.sh) := (hb.cell (p := ⟨pb, po + i * 14 + 8, none⟩) hpb).trans (hcell 8 (by omega))
 have k9 : w1.cell? ⟨pb, po + i * 14 + 9, none⟩ = some (.int .i64 n.to.c) := (hb.cell (p := ⟨pb, po + i * 14 + 9, none⟩) hpb).trans (hcell 9 (by omega))
 have k10 : w1.cell? ⟨pb, po + i * 14 + 10, none⟩ = some (.int .i64 n.to.r) := (hb.cell (p := ⟨pb, po + i * 14 + 10, none⟩) hpb).trans (hcell 10 (by omega))
 have k11 : w1.cell? ⟨pb, po + i * 14 + 11, none⟩ = some (.bool n.to.ac) := (hb.cell (p := ⟨pb, po + i * 14 + 11, none⟩) hpb).trans (hcell 11 (by omega))
 have k12 : w1.cell? ⟨pb, po + i * 14 + 12, none⟩ = some (.bool n.to.ar) := (hb.cell (p := ⟨pb, po + i * 14 + 12, none⟩) hpb).trans (hcell 12 (by omega))
 have k13 : w1.cell? ⟨pb, po + i * 14 + 13, none⟩ = some (.slice Ak m ck) := (hb.cell (p := ⟨pb, po + i * 14 + 13, none⟩) hpb).trans (hcell 13 (by omega))
 have HK := Lib.hid hk
 have HT := Lib.hid (show shN ns (i : Int) = sb n.text ++ 40 :: (joinA (n.kids.map (shN ns)) ++ [41]) by rw [HSH.out, if_neg (by omega), if_neg (by omega), if_neg (by omega), if_neg (by omega), if_neg (by omega), if_neg (by omega), if_pos hk])
 have hjl : (joinA (n.kids.map (shN ns))).length + n.text.size + 2 ≤ 1000000000 := by rw [HT.out] at hlen; simp only [List.length_append, List.length_cons, List.length_nil, length_sb] at hlen; omega
 have HKID := Lib.hid (show ∀ (j : Nat) (x : Int), n.kids[j]? = some x → ∃ y : Nat, x = (y : Int) ∧ ∀ w2, Below w.heap.size w w2 → Calls Tryz.prog 21 #[.slice (some ⟨pb, po, none⟩) nl cap, .int .i64 (y : Int)] w2 (ShR ns y w2) from fun j x hx => by
  obtain ⟨y, e, hy, -⟩ := C.kid hi (List.mem_of_getElem? hx)
  refine ⟨y, e, ?_⟩
  have hl := join_mem (n.kids.map (shN ns)) j (shN ns (y : Int)) (by rw [List.getElem?_map, hx, e]; rfl)
  have := IH y hy (by omega)
  rw [hnl] at this
  exact this)
 clear IH
 clear hk hlen
 have hB3 : Below w1.heap.size w1 (w1.alloc (.cells #[.int .i64 n.kind, .int .i64 n.num, .string n.text, .string n.ref.sh, .int .i64 n.ref.c, .int .i64 n.ref.r, .bool n.ref.ac, .bool n.ref.ar, .string n.to.sh, .int .i64 n.to.c, .int .i64 n.to.r, .bool n.to.ac, .bool n.to.ar, .slice Ak m ck] 27)) := (Below.refl _ _).alloc (Nat.le_refl _) _
 have HN3 : NdAt (w1.alloc (.cells #[.int .i64 n.kind, .int .i64 n.num, .string n.text, .string n.ref.sh, .int .i64 n.ref.c, .int .i64 n.ref.r, .bool n.ref.ac, .bool n.ref.ar, .string n.to.sh, .int .i64 n.to.c, .int .i64 n.to.r, .bool n.to.ac, .bool n.to.ar, .slice Ak m ck] 27)) w1.heap.size n (.slice Ak m ck) := NdAt.new w1 n _
 have HB3 := Lib.hid hB3
 clear hB3 C hi hmem hcell hkat hkc hkm hm hnl hnode hlf hsk hb
 go_enter Tryz.func21, Tryz.ntmps21
 go_upto_region 2 with (fail)
 generalize hb3 : w1.heap.size = b3 at HN3 ⊢
 generalize w1.alloc (.cells #[.int .i64 n.kind, .int .i64 n.num, .string n.text, .string n.ref.sh, .int .i64 n.ref.c, .int .i64 n.ref.r, .bool n.ref.ac, .bool n.ref.ar, .string n.to.sh, .int .i64 n.to.c, .int .i64 n.to.r, .bool n.to.ac, .bool n.to.ar, .slice Ak m ck] 27) = w3 at HN3 HB3 ⊢
 clear hb3 k0 k1 k2 k3 k4 k5 k6 k7 k8 k9 k10 k11 k12 k13
 obtain ⟨x0, x1, x2, x3, x4, x5, x6, x7, x8, x9, x10, x11, x12, x13⟩ := HN3.cells
 have hb3 := HN3.lt
 have HN3 := Lib.hid HN3
 have hk := HK.out
 have e1 : (n.kind == 1) = false := by rw [hk]; rfl
 have e2 : (n.kind == 2) = false := by rw [hk]; rfl
 have e3 : (n.kind == 3) = false := by rw [hk]; rfl
 have e4 : (n.kind == 4) = false := by rw [hk]; rfl
 have e5 : (n.kind == 5) = false := by rw [hk]; rfl
 have e6 : (n.kind == 6) = false := by rw [hk]; rfl
 have e7 : (n.kind == 7) = true := by rw [hk]; rfl
 clear hk
 have HBW := Lib.hid (HB.out.trans (HB3.out.mono HB.out.size))
 have hzt := hz1
 have q0 : ¬ 9223372036854775807 < n.text.size + (⟨#[40]⟩ : ByteArray).size := by show ¬ _ < n.text.size + 1; omega
 have q00 : ¬ 9223372036854775807 < n.text.size + 1 := by omega
 go_upto_region 20 with (fail)
 go_loopw [6, 7] (fun tv iv wr => ∃ (j : Nat), j ≤ m ∧ iv = .int .i64 (j : Int) ∧ tv = .string (strOfNums (callX n ns j)) ∧ Hid (Below w3.heap.size w3 wr))
  (fun _ iv _ => m - (intOf iv).toNat)
 case atStart => exact ⟨0, Nat.zero_le _, rfl, congrArg Value.string (callX_zero n ns), Lib.hid (Below.refl _ _)⟩
 case round =>
  obtain ⟨j, hj, rfl, rfl, HW⟩ := hrel
  have hcl := callX_len n ns j
  have y13 := (HW.out.cell (p := ⟨b3, 13, none⟩) hb3).trans x13
  by_cases hlt : j < m
  · have hji : (j : Int) < (m : Int) := by omega
    have hj0 : (0 : Int) ≤ (j : Int) := by omega
    obtain ⟨x, hx⟩ : ∃ x, n.kids[j]? = some x := ⟨_, List.getElem?_eq_getElem (by rw [HM.out]; exact hlt)⟩
    have hmore := callX_more n ns j x hx
    obtain ⟨y, rfl, hcall⟩ := HKID.out j x hx
    have hsl := join_mem (n.kids.map (shN ns)) j (shN ns (y : Int)) (by rw [List.getElem?_map, hx]; rfl)
    rcases HKAT.out with e | ⟨kb, ko, rfl, hkb, hkc2⟩
    · exfalso; rw [e] at hx; simp at hx
    have hkbw : kb < w1.heap.size := Nat.lt_of_lt_of_le hkb HB.out.size
    have d0 : wr.cell? ⟨kb, ko + j, none⟩ = some (.int .i64 (y : Int)) := (HW.out.cell (p := ⟨kb, ko + j, none⟩) (Nat.lt_of_lt_of_le hkbw HB3.out.size)).trans ((HB3.out.cell (p := ⟨kb, ko + j, none⟩) hkbw).trans ((HB.out.cell (p := ⟨kb, ko + j, none⟩) hkb).trans (hkc2 j _ hx)))
    have HCALL := Lib.hid (hcall wr (HBW.out.trans (HW.out.mono HBW.out.size)))
    have hs1 : (strOfNums (callX n ns j)).size = (callX n ns j).length := strOfNums_size _
    have hs2 : (strOfNums (shN ns (y : Int))).size = (shN ns (y : Int)).length := strOfNums_size _
    by_cases h0 : j = 0
    · have hg : ¬ (0 : Int) < (j : Int) := by omega
      rw [if_pos h0] at hmore
      have HNX := Lib.hid (show strOfNums (callX n ns j) ++ strOfNums (shN ns (y : Int)) = strOfNums (callX n ns (j + 1)) by rw [hmore, str_append])
      obtain ⟨t, ht⟩ : ∃ t, strOfNums (callX n ns j) = t := ⟨_, rfl⟩
      rw [ht] at HNX hs1 ⊢
      have q1 : ¬ 9223372036854775807 < t.size + (strOfNums (shN ns (y : Int))).size := by omega
      clear h0 hmore hcall hx hkc2 hs1 hs2 hsl hcl ht
      go_wp2_with (go_at_call 21; ((with_reducible refine HCALL.out.mono ?_); rintro e w4 ⟨rfl, h1⟩; have HW4 := Lib.hid (HW.out.trans (h1.mono HW.out.size)); clear h1))
      go_roundw
      case rel => exact ⟨j + 1, by omega, by go_num, congrArg Value.string HNX.out, HW4⟩
      case measure => simp [intOf]; omega
    · have hg : (0 : Int) < (j : Int) := by omega
      rw [if_neg h0] at hmore
      have HNX := Lib.hid (show (strOfNums (callX n ns j) ++ ⟨#[44]⟩) ++ strOfNums (shN ns (y : Int)) = strOfNums (callX n ns (j + 1)) by rw [hmore, show (⟨#[44]⟩ : ByteArray) = strOfNums [44] by decide, str_append, str_append])
      obtain ⟨t, ht⟩ : ∃ t, strOfNums (callX n ns j) = t := ⟨_, rfl⟩
      rw [ht] at HNX hs1 ⊢
      have q1 : ¬ 9223372036854775807 < t.size + (⟨#[44]⟩ : ByteArray).size := by show ¬ _ < t.size + 1; omega
      have q2 : (t ++ (⟨#[44]⟩ : ByteArray)).size = t.size + 1 := by rw [ByteArray.size_append]; rfl
      have q3 : ¬ 9223372036854775807 < t.size + 1 + (strOfNums (shN ns (y : Int))).size := by omega
      have q4 : ¬ 9223372036854775807 < t.size + 1 := by omega
      clear h0 hmore hcall hx hkc2 hs1 hs2 hsl hcl ht
      go_wp2_with (go_at_call 21; ((with_reducible refine HCALL.out.mono ?_); rintro e w4 ⟨rfl, h1⟩; have HW4 := Lib.hid (HW.out.trans (h1.mono HW.out.size)); clear h1))
      go_roundw
      case rel => exact ⟨j + 1, by omega, by go_num, congrArg Value.string HNX.out, HW4⟩
      case measure => simp [intOf]; omega
  · have hji : ¬ (j : Int) < (m : Int) := by omega
    have HE := Lib.hid (show strOfNums (callX n ns j) ++ ⟨#[41]⟩ = strOfNums (shN ns (i : Int)) by
     rw [strOf_fortyone, str_append, HT.out, callX_end n ns j (by rw [HM.out]; omega)]; simp)
    have hs1 : (strOfNums (callX n ns j)).size = (callX n ns j).length := strOfNums_size _
    obtain ⟨t, ht⟩ : ∃ t, strOfNums (callX n ns j) = t := ⟨_, rfl⟩
    rw [ht] at HE hs1 ⊢
    have q1 : ¬ 9223372036854775807 < t.size + (⟨#[41]⟩ : ByteArray).size := by show ¬ _ < t.size + 1; omega
    have q4 : ¬ 9223372036854775807 < t.size + 1 := by omega
    clear hs1 hcl ht
    go_wp2_with fail
    go_ret
    exact ⟨ret_str HE.out, HB3.out.trans (HW.out.mono HB3.out.size)⟩
theorem shown_any {w : World} {v : Value} {l : List (Nd × Value)} {ns : List Nd} (C : ShC w v l ns) : ∀ (m i : Nat), i < m → i < l.length → (shN ns (i : Int)).length ≤ 1000000000 → ∀ w1, Below w.heap.size w w1 → Calls Tryz.prog 21 #[v, .int .i64 (i : Int)] w1 (ShR ns i w1)
 | 0, _, h, _, _, _, _ => absurd h (by omega)
 | m + 1, i, him, hil, hlen, w1, hb => by
   have IH : ShIH w v ns i := fun j hj hl w2 hb2 => shown_any C m j (by omega) (by omega) hl w2 hb2
   obtain ⟨⟨n, k⟩, hi⟩ : ∃ q, l[i]? = some q := ⟨_, List.getElem?_eq_getElem hil⟩
   obtain ⟨-, -, -, k1, k19, -⟩ := arms_kids (C.leaf hi)
   have hk : n.kind = 1 ∨ n.kind = 2 ∨ n.kind = 3 ∨ n.kind = 4 ∨ n.kind = 5 ∨ n.kind = 6 ∨ n.kind = 7 ∨ n.kind = 8 ∨ 9 ≤ n.kind := by omega
   rcases hk with h | h | h | h | h | h | h | h | h
   · exact shown_1 C i n k hi h w1 hb
   · exact shown_2 C i n k hi h w1 hb
   · exact shown_3 C i n k hi h w1 hb
   · exact shown_4 C i n k hi h w1 hb
   · exact shown_5 C i n k hi h w1 hb
   · exact shown_6 C i n k hi h w1 hb
   · exact shown_7 C i n k hi h hlen IH w1 hb
   · exact shown_8 C i n k hi h hlen IH w1 hb
   · exact shown_9 C i n k hi h hlen IH w1 hb
theorem tree_pos {ns : List Nd} (h : treeB ns = true) : 0 < ns.length := by
 cases ns with
 | nil => exact absurd h (by decide)
 | cons a l => simp
set_option maxRecDepth 100000 in
set_option maxHeartbeats 2000000 in
theorem refPrint_any (w : World) (v : Value) (l : List (Nd × Value)) (h : SN w w.heap.size v l) (hz : SZ l) (hn : ∀ q ∈ l, q.1.num ≤ 9223372036854775807) (hlen : (printL (l.map (·.1))).length ≤ 1000000000) :
 Calls Tryz.prog 9 #[v] w fun e w' => e = .returned (.string (strOfNums (printL (l.map (·.1))))) ∧ Below w.heap.size w w' := by
 have HT := Lib.hid (refTree_any w v l h hz)
 obtain ⟨ns, hns⟩ : ∃ ns, l.map (·.1) = ns := ⟨_, rfl⟩
 rw [hns] at HT hlen ⊢
 by_cases ht : treeB ns = true
 · rw [ht] at HT
   have C : ShC w v l ns := ⟨h, hns, ht, hz.1, hz.2, hn⟩
   have hpos := tree_pos ht
   have hll : l.length = ns.length := by rw [← hns, List.length_map]
   obtain ⟨L, hL⟩ : ∃ L, l.length = L := ⟨_, rfl⟩
   have hp : printL ns = shN ns ((L - 1 : Nat) : Int) := by
    unfold printL shN; rw [if_pos ht]; congr 1; omega
   rw [hp] at hlen ⊢
   have HS := Lib.hid (shown_any C L (L - 1) (by omega) (by omega) hlen)
   obtain ⟨A, cap, rfl⟩ := h.lenle
   have hL1 : (L : Int) - 1 = ((L - 1 : Nat) : Int) := by omega
   have hlm : L ≤ 1000 := by have := hz.1; omega
   have hwr : IntKind.i64.wrap ((L : Int) - 1) = (L : Int) - 1 := by rw [IntKind.wrap_i64]; omega
   rw [hL] at HT HS ⊢
   rw [← hL1] at HS
   clear C h hz hn hlen hns ht hll hp hpos hL hL1
   go_enter Tryz.func9, Tryz.ntmps9
   go_wp2_with (first
    | (go_at_call 20; ((with_reducible refine HT.out.mono ?_); rintro e w2 ⟨rfl, h1⟩; have HB2 := Lib.hid h1; clear h1))
    | (go_at_call 21; ((with_reducible refine (HS.out _ HB2.out).mono ?_); rintro e w3 ⟨rfl, h1⟩; have HB3 := Lib.hid (HB2.out.trans (h1.mono HB2.out.size)); clear h1)))
   go_ret
   exact ⟨by rfl, HB3.out⟩
 · have ht2 : treeB ns = false := by simpa using ht
   rw [ht2] at HT
   have HP := Lib.hid (show printL ns = [] by unfold printL; rw [if_neg ht])
   obtain ⟨A, cap, rfl⟩ := h.lenle
   clear h hz hn hlen hns ht ht2
   go_enter Tryz.func9, Tryz.ntmps9
   go_wp2_with (first
    | (go_at_call 20; ((with_reducible refine HT.out.mono ?_); rintro e w2 ⟨rfl, h1⟩; have HB2 := Lib.hid h1; clear h1)))
   go_ret
   exact ⟨by rw [HP.out]; rfl, HB2.out⟩
theorem SN.fq {w w' : World} {b : Nat} {v : Value} {vs : List (Nd × Value)} (h : SN w b v vs) (hf : Fq w w' b) (hw : b < w.heap.size) : SN w' b v vs := by
 obtain ⟨⟨A, cap, h1, h2⟩, h3⟩ := h
 refine ⟨⟨A, cap, h1, h2.imp id ?_⟩, fun p hp => (h3 p hp).fq hf (Nat.le_refl _) hw⟩
 rintro ⟨pb, po, e1, e2, e3⟩
 exact ⟨pb, po, e1, e2, fun i n k hi j hj => (World.cell?_of_block (a := ⟨pb, po + i * 14 + j, none⟩) (hf.block pb (by omega) (by omega) (.inl e2))).trans (e3 i n k hi j hj)⟩
theorem SN.lift {w w' : World} {B C : Nat} {v : Value} {vs : List (Nd × Value)} (h : SN w B v vs) (hb : Below B w w') (hC : B ≤ C) : SN w' C v vs := by
 obtain ⟨⟨A, cap, h1, h2⟩, h3⟩ := h
 refine ⟨⟨A, cap, h1, h2.imp id ?_⟩, fun p hp => ?_⟩
 · rintro ⟨pb, po, e1, e2, e3⟩
   exact ⟨pb, po, e1, by omega, fun i n k hi j hj => (hb.cell (p := ⟨pb, po + i * 14 + j, none⟩) e2).trans (e3 i n k hi j hj)⟩
 · obtain ⟨A2, c2, g1, g2, g3, g4⟩ := h3 p hp
   refine ⟨A2, c2, g1, g2, g3, g4.imp id ?_⟩
   rintro ⟨pb, po, e1, e2, e3⟩
   exact ⟨pb, po, e1, by omega, fun j x hj => (hb.cell (p := ⟨pb, po + j, none⟩) e2).trans (e3 j x hj)⟩
def slen (o : Option Value) : Nat := match o with | some (.slice _ n _) => n | _ => 0
theorem slen_own {α : Type} {size : Nat} {E : Enc α size} {e : TypeId} {w : World} {base : Nat} {v : Value} {xs : List α} (h : Own E e w base v xs) : slen (some v) = xs.length := by
 rcases h.shape with ⟨rfl, rfl⟩ | ⟨g, cap, rfl, -⟩
 · rfl
 · rfl
def wm (b L : Nat) (w : World) : Nat := 2 * (L - slen (w.cell? ⟨b, 3, none⟩)) - slen (w.cell? ⟨b, 1, none⟩)
theorem WQ.wm {w : World} {b : Nat} {nv : Value} {st : List Pt} {txt : List Int} (h : WQ w b nv st txt) (L : Nat) : wm b L w = 2 * (L - txt.length) - st.length := by
 obtain ⟨wv, ⟨ad, bv, h1, _, h3, _⟩, h4⟩ := h
 obtain ⟨-, c1, -, c3⟩ := h1.facts
 unfold Go.Proofs.YtkdamdmnchcceaaGreatDoor.wm
 rw [c1, c3, slen_own h4, slen_own h3]
theorem WQ.wait {w : World} {b : Nat} {nv : Value} {st : List Pt} {txt : List Int} (h : WQ w b nv st txt) : ∃ A c, w.cell? ⟨b, 1, none⟩ = some (.slice A st.length c) := by
 obtain ⟨wv, ⟨ad, bv, h1, -⟩, h4⟩ := h
 have c1 := h1.facts.2.1
 rcases h4.shape with ⟨rfl, rfl⟩ | ⟨g, cap, rfl, -⟩
 · exact ⟨_, _, c1⟩
 · exact ⟨_, _, c1⟩
set_option maxRecDepth 100000 in
set_option maxHeartbeats 4000000 in
theorem print_not (w : World) (v : Value) (vs : List (Nd × Value)) (hv : Vars w) (h : SN w w.heap.size v vs) (hz : SZ vs) (ht : ¬ treeB (vs.map (·.1)) = true) :
 Calls Tryz.prog 8 #[v] w fun e w' => e = .returned (.string (strOfNums (printL (vs.map (·.1))))) ∧ Below w.heap.size w w' := by
 have hT := ptree_any w v vs hv h hz
 rw [show treeB (vs.map (·.1)) = false from by cases hq : treeB (vs.map (·.1)) with | false => rfl | true => exact absurd hq ht] at hT
 have HT := Lib.hid hT
 have HP := Lib.hid (show printL (vs.map (·.1)) = [] from by unfold printL; rw [if_neg ht])
 clear hT hv h hz ht
 go_enter Tryz.func8, Tryz.ntmps8
 go_wp2_with (go_at_call 14; ((with_reducible refine HT.out.mono ?_); rintro e w1 ⟨rfl, h1⟩; have H1 := Lib.hid h1; clear h1))
 go_ret
 exact ⟨by rw [HP.out] <;> rfl, H1.out⟩
set_option maxRecDepth 100000 in
set_option maxHeartbeats 8000000 in
theorem print_tree (w : World) (v : Value) (vs : List (Nd × Value)) (hv : Vars w) (htab : Tab w) (hmax : MaxV w) (hsh : ShV w) (h : SN w w.heap.size v vs) (hz : SZ vs) (hnum : ∀ q ∈ vs, q.1.num ≤ 9223372036854775807) (hlen : (printL (vs.map (·.1))).length ≤ 1000000000) (ht : treeB (vs.map (·.1)) = true) :
 Calls Tryz.prog 8 #[v] w fun e w' => e = .returned (.string (strOfNums (printL (vs.map (·.1))))) ∧ Below w.heap.size w w' := by
 have hT := ptree_any w v vs hv h hz
 rw [ht] at hT
 have HT := Lib.hid hT
 obtain ⟨l, hl⟩ : ∃ l, vs.map (·.1) = l := ⟨_, rfl⟩
 have hpos : 0 < vs.length := by
  rcases Nat.eq_zero_or_pos vs.length with e | e
  · rw [List.length_eq_zero_iff.1 e] at ht; exact absurd ht (by decide)
  · exact e
 have hlv : l.length = vs.length := by rw [← hl, List.length_map]
 obtain ⟨L, hL⟩ : ∃ L, (printL l).length = L := ⟨_, rfl⟩
 rw [hl, hL] at hlen
 have hpl : printL l = shN l ((l.length : Int) - 1) := by unfold printL shN; rw [if_pos (hl ▸ ht)]
 have hp0 : ptL l (Pt.op ((l.length : Int) - 1) 1) = printL l := by rw [ptL_op, inL_any, hpl]
 have hok0 : PtOk l (Pt.op ((l.length : Int) - 1) 1) := PtOk.op (by omega) (by omega) 1
 rw [hlv] at hp0 hok0
 obtain ⟨N, hN⟩ : ∃ N, vs.length = N := ⟨_, rfl⟩
 have hN9 : N ≤ 1000 := by rw [← hN]; exact hz.1
 rw [hN] at hp0 hok0 hpos
 have hw1 : wrap64 ((N : Int) - 1) = (N : Int) - 1 := by unfold wrap64; omega
 obtain ⟨A, cap, hva⟩ := h.lenle
 rw [hN] at hva
 subst hva
 have HSN := Lib.hid h; have HZ := Lib.hid hz; have HNUM := Lib.hid hnum; have HTR := Lib.hid ht
 have HL := Lib.hid hl; have HLL := Lib.hid hL; have HP0 := Lib.hid hp0; have HOK0 := Lib.hid hok0
 have HG0 := Lib.hid (show Tab w ∧ MaxV w ∧ ShV w from ⟨htab, hmax, hsh⟩)
 rw [hl]
 clear hT hv htab hmax hsh h hz hnum ht hl hL hpl hp0 hok0 hlv hN
 go_enter Tryz.func8, Tryz.ntmps8
 go_upto_region 3 with (go_at_call 14; ((with_reducible refine HT.out.mono ?_); rintro e w1 ⟨rfl, h1⟩; have H1 := Lib.hid h1; clear h1))
 go_upto_region 4 with (fail)
 have hwr : WrAt (w1.alloc (.cells #[.slice A N cap, .slice none 0 0, .pointer none, .slice none 0 0] 47)) w1.heap.size (.slice A N cap) (.slice none 0 0) (.pointer none) (.slice none 0 0) := (Go.MapKept.heap_alloc w1 _).1
 have hB2 : Below w1.heap.size w1 (w1.alloc (.cells #[.slice A N cap, .slice none 0 0, .pointer none, .slice none 0 0] 47)) := (Below.refl _ _).alloc (Nat.le_refl _) _
 obtain ⟨b, hb⟩ : ∃ b, w1.heap.size = b := ⟨_, rfl⟩
 obtain ⟨w2, hw2⟩ : ∃ w2, w1.alloc (.cells #[.slice A N cap, .slice none 0 0, .pointer none, .slice none 0 0] 47) = w2 := ⟨_, rfl⟩
 have hwb : w.heap.size ≤ b := by rw [← hb]; exact H1.out.size
 have HB02 := Lib.hid (H1.out.trans (hB2.mono H1.out.size))
 rw [hw2] at hwr HB02 ⊢
 rw [hb] at hwr ⊢
 have hbl : b < w2.heap.size := hwr.lt
 have HQ2 := Lib.hid (show WQ w2 b (.slice A N cap) [] [] from ⟨_, ⟨_, _, hwr, .inl rfl, Own.nil _ _ _ _, fun x hx => absurd hx (by simp)⟩, Own.nil _ _ _ _⟩)
 have HG2 := Lib.hid (show Gl w w2 b from ⟨hwb, HB02.out, HG0.out⟩)
 have HSN2 := Lib.hid (HSN.out.lift HB02.out hwb)
 have HPU := Lib.hid (fun (wr : World) (hr : Below w2.heap.size w2 wr) => push_lit wr b (.slice A N cap) [] [Pt.op ((N : Int) - 1) 1] [] #[.string ⟨#[]⟩, .int .i64 ((N : Int) - 1), .int .i64 1] 1 rfl rfl (HQ2.out.below hr) (by show 1 ≤ 1000000; decide) (Nat.zero_le _))
 clear hw2 hb hwr hB2 HT
 go_upto_region 5 with (first
  | (go_at_call 16; ((with_reducible refine (op_lit _ _ _).mono ?_); rintro e w3 ⟨rfl, h3⟩; have HB3 := Lib.hid h3; clear h3))
  | (go_at_call 15; ((with_reducible refine (HPU.out _ HB3.out).mono ?_); rintro e w4 ⟨rfl, h3, h4⟩; have HQ4 := Lib.hid h3; have HF4 := Lib.hid ((Fq.ofBelow HB3.out).trans h4); clear h3 h4)))
 go_loopw [] (fun wr => ∃ (st : List Pt) (txt : List Int), Hid (WQ wr b (.slice A N cap) st txt) ∧ Hid (Fq w2 wr b) ∧ Hid (∀ p ∈ st, PtOk l p) ∧ Hid (txt ++ st.reverse.flatMap (ptL l) = printL l))
  (fun wr => wm b L wr)
 case atStart => exact ⟨[Pt.op ((N : Int) - 1) 1], [], HQ4, HF4, Lib.hid (fun p hp => by rw [List.mem_singleton.1 hp]; exact HOK0.out), Lib.hid (by show ptL l (Pt.op ((N : Int) - 1) 1) ++ [] = _; rw [List.append_nil]; exact HP0.out)⟩
 case round =>
  obtain ⟨st, txt, HQ, HF, HOK, HE⟩ := hrel
  rcases List.eq_nil_or_concat st with rfl | ⟨st', p, rfl⟩
  · obtain ⟨Aw, cw, c1⟩ := HQ.out.wait
    rw [List.length_nil] at c1
    have HTX := Lib.hid (show txt = printL l from by have h := HE.out; rw [List.reverse_nil, List.flatMap_nil, List.append_nil] at h; exact h)
    obtain ⟨wv, hws, -⟩ := HQ.out
    have HSTR := Lib.hid (string_any wr b (.slice A N cap) wv txt hws (by rw [HTX.out]; exact HL.out ▸ tree_ne HTR.out (fun n hn => by obtain ⟨q, hq, rfl⟩ := List.mem_map.1 hn; exact HNUM.out q hq)))
    clear hws
    go_wp2_with (go_at_call 19; ((with_reducible refine HSTR.out.mono ?_); rintro e w5 ⟨rfl, h3⟩; have H5 := Lib.hid h3; clear h3))
    go_ret
    refine ⟨by rw [HTX.out] <;> rfl, ?_⟩
    have hg := ((HG2.out.fq HF.out)).2.1
    exact hg.trans ((H5.out.mono (by omega)))
  · rw [List.concat_eq_append] at HQ HOK HE
    obtain ⟨Aw, cw, c1⟩ := HQ.out.wait
    rw [List.length_append, List.length_singleton] at c1
    obtain ⟨M, hM⟩ : ∃ M : Nat, st'.length + 1 = M := ⟨_, rfl⟩
    have hM0 : (0 : Int) < (M : Int) := by omega
    rw [hM] at c1
    have htr : treeB l = true := by rw [← HL.out]; exact HTR.out
    have hpk : PtOk l p := HOK.out p (by simp)
    have hE := HE.out
    rw [List.reverse_append, List.reverse_singleton, List.singleton_append, List.flatMap_cons] at hE
    have hE2 := congrArg List.length hE
    rw [List.length_append, List.length_append, HLL.out] at hE2
    have hfl := flat_len htr st'.reverse (fun q hq => HOK.out q (List.mem_append_left _ (List.mem_reverse.1 hq)))
    rw [List.length_reverse] at hfl
    have hSL := stepP_L htr p hpk
    have hSL2 := congrArg List.length hSL
    rw [List.length_append] at hSL2
    have hSF := flat_len htr _ (stepP_ok htr p hpk)
    have hSM := stepP_less htr p hpk
    have HPOP := Lib.hid (pop_any wr b (.slice A N cap) st' p txt HQ.out (by omega))
    have HWR := Lib.hid (fun (w5 : World) (h5 : WQ w5 b (.slice A N cap) st' txt) (hf : Fb wr w5 b) => writeP_any w w5 b (.slice A N cap) vs st' txt p (HG2.out.fq (HF.out.trans (Fq.ofB hf))) h5 (HSN2.out.fq (HF.out.trans (Fq.ofB hf)) hbl) HZ.out (by rw [HL.out]; exact htr) HNUM.out (by rw [HL.out]; exact hpk) (by rw [HL.out]; omega) (by rw [HL.out]; omega))
    rw [HL.out] at HWR
    have HQN := Lib.hid (fun (w6 : World) (hq : WQ w6 b (.slice A N cap) (st' ++ (stepP l p).2.reverse) (txt ++ (stepP l p).1)) => show wm b L w6 < wm b L wr from by
     rw [hq.wm, HQ.out.wm, List.length_append, List.length_append, List.length_append, List.length_reverse, List.length_singleton]; omega)
    have HEN := Lib.hid (show (txt ++ (stepP l p).1) ++ (st' ++ (stepP l p).2.reverse).reverse.flatMap (ptL l) = printL l from by
     rw [List.reverse_append, List.reverse_reverse, List.flatMap_append, List.append_assoc txt, ← List.append_assoc (stepP l p).1, ← hSL]; exact hE)
    have HON := Lib.hid (show ∀ q ∈ st' ++ (stepP l p).2.reverse, PtOk l q from fun q hq => by
     rcases List.mem_append.1 hq with hq | hq
     · exact HOK.out q (List.mem_append_left _ hq)
     · exact stepP_ok htr p hpk q (List.mem_reverse.1 hq))
    clear hE hE2 hfl hSL hSL2 hSF hSM hM
    go_wp2_with (first
     | (go_at_call 18; ((with_reducible refine HPOP.out.mono ?_); rintro e w5 ⟨rfl, h3, h4⟩; have HQ5 := Lib.hid h3; have HF5 := Lib.hid h4; clear h3 h4))
     | (go_at_call 17; ((with_reducible refine (HWR.out _ HQ5.out HF5.out).mono ?_); rintro e w6 ⟨rfl, h3, h4⟩; have HQ6 := Lib.hid h3; have HF6 := Lib.hid h4; clear h3 h4)))
    go_roundw
    case rel => exact ⟨_, _, HQ6, Lib.hid (HF.out.trans ((Fq.ofB HF5.out).trans HF6.out)), HON, HEN⟩
    case measure => exact HQN.out _ HQ6.out
theorem print_any (w : World) (v : Value) (vs : List (Nd × Value)) (hv : Vars w) (htab : Tab w) (hmax : MaxV w) (hsh : ShV w) (h : SN w w.heap.size v vs) (hz : SZ vs) (hnum : ∀ q ∈ vs, q.1.num ≤ 9223372036854775807) (hlen : (printL (vs.map (·.1))).length ≤ 1000000000) :
 Calls Tryz.prog 8 #[v] w fun e w' => e = .returned (.string (strOfNums (printL (vs.map (·.1))))) ∧ Below w.heap.size w w' := by
 by_cases ht : treeB (vs.map (·.1)) = true
 · exact print_tree w v vs hv htab hmax hsh h hz hnum hlen ht
 · exact print_not w v vs hv h hz ht
structure Sx (w : World) : Prop where
 vars : Vars w
 ops : OpV w
 tab : Tab w
 max : MaxV w
 sh : ShV w
theorem Sx.below {w w' : World} (h : Sx w) (hb : Below w.heap.size w w') : Sx w' := ⟨h.vars.below hb, h.ops.below hb, h.tab.below hb, h.max.below hb, h.sh.below hb⟩
theorem Sx.print {w : World} (h : Sx w) (v : Value) (vs : List (Nd × Value)) (hs : SN w w.heap.size v vs) (hz : SZ vs) (hnum : ∀ q ∈ vs, q.1.num ≤ 9223372036854775807) (hlen : (printL (vs.map (·.1))).length ≤ 1000000000) :
 Calls Tryz.prog 8 #[v] w fun e w' => e = .returned (.string (strOfNums (printL (vs.map (·.1))))) ∧ Below w.heap.size w w' := print_any w v vs h.vars h.tab h.max h.sh hs hz hnum hlen
def okN (n : Nd) : Bool := decide (n.text.size ≤ 1000000) && (decide (n.ref.sh.size ≤ 1000000) && (decide (n.to.sh.size ≤ 1000000) && decide (n.num ≤ 9223372036854775807)))
def showB (l out : List Int) (k : Nat) : Bool := match lexL l with
 | none => false
 | some ts => match parseP 200 ts with
   | some (.ok ns) => decide (printL ns = out) && (decide (ns.length = k) && ns.all okN)
   | _ => false
theorem show_ex : showB [40, 32, 49, 43, 32, 50, 41, 32, 42, 51] [40, 49, 43, 50, 41, 42, 51] 5 = true := by decide +kernel
theorem show_PIs (s : ByteArray) (h : s.size ≤ 300) {out : List Int} {k : Nat} (hs : showB (sb s) out k = true) : ∃ ns, PIs s (.ok ns) ∧ printL ns = out ∧ ns.length = k ∧ ∀ n ∈ ns, okN n = true := by
 unfold showB at hs
 split at hs
 · cases hs
 · rename_i ts hl
   split at hs
   · rename_i ns hp
     rw [Bool.and_eq_true, Bool.and_eq_true, decide_eq_true_iff, decide_eq_true_iff, List.all_eq_true] at hs
     exact ⟨ns, .inr (.inr ⟨h, ts, 200, hl, hp⟩), hs.1, hs.2.1, hs.2.2⟩
   · cases hs
theorem okN_spec {n : Nd} (h : okN n = true) : (n.text.size ≤ 1000000 ∧ n.ref.sh.size ≤ 1000000 ∧ n.to.sh.size ≤ 1000000) ∧ n.num ≤ 9223372036854775807 := by
 unfold okN at h
 rw [Bool.and_eq_true, Bool.and_eq_true, Bool.and_eq_true, decide_eq_true_iff, decide_eq_true_iff, decide_eq_true_iff, decide_eq_true_iff] at h
 exact ⟨⟨h.1, h.2.1, h.2.2.1⟩, h.2.2.2⟩
theorem Sx.printV {w : World} (h : Sx w) {lo g n cap : Nat} {vs : List Nv} (hn : NodV w lo (.slice (some ⟨g, 0, none⟩) n cap) vs) (hl : vs.length = n) (hn1 : n ≤ 1000) (hok : ∀ v ∈ vs, (v.n.text.size ≤ 1000000 ∧ v.n.ref.sh.size ≤ 1000000 ∧ v.n.to.sh.size ≤ 1000000) ∧ v.n.num ≤ 9223372036854775807) (hlen : (printL (vs.map Nv.n)).length ≤ 1000000000) :
 Calls Tryz.prog 8 #[.slice (some ⟨g, 0, none⟩) n cap] w fun e w' => e = .returned (.string (strOfNums (printL (vs.map Nv.n)))) ∧ Below w.heap.size w w' := by
 have := h.print _ _ (hn.sn hl) ⟨by rw [List.length_map]; omega, fun p hp => by obtain ⟨v, hv, rfl⟩ := List.mem_map.1 hp; exact (hok v hv).1⟩ (fun p hp => by obtain ⟨v, hv, rfl⟩ := List.mem_map.1 hp; exact (hok v hv).2) (by rw [sn_fst]; exact hlen)
 rwa [sn_fst] at this
set_option maxRecDepth 100000 in
set_option maxHeartbeats 400000 in
theorem awake6_any (w : World) (h : Sx w) : Calls Tryz.prog 7 #[] w fun e w' => e = .returned (.bool true) ∧ Below w.heap.size w w' := by
 obtain ⟨ns, hp, h1, h2, h3⟩ := show_PIs ⟨#[40, 32, 49, 43, 32, 50, 41, 32, 42, 51]⟩ (by decide) (by rw [show sb ⟨#[40, 32, 49, 43, 32, 50, 41, 32, 42, 51]⟩ = [40, 32, 49, 43, 32, 50, 41, 32, 42, 51] by decide]; exact show_ex)
 have HX := Lib.hid (parse_ok _ w h.vars h.ops ns hp (by omega))
 have HP := Lib.hid (fun (w1 : World) (hb : Below w.heap.size w w1) (g cap : Nat) (vs : List Nv) (hvn : vs.map Nv.n = ns) (hvl : vs.length = ns.length) (hnv : NodV w1 w.heap.size (.slice (some ⟨g, 0, none⟩) ns.length cap) vs) => (show Calls Tryz.prog 8 #[.slice (some ⟨g, 0, none⟩) ns.length cap] w1 fun e w' => e = .returned (.string ⟨#[40, 49, 43, 50, 41, 42, 51]⟩) ∧ Below w1.heap.size w1 w' from by
  have := (h.below hb).printV hnv hvl (by omega) (fun v hv => okN_spec (h3 _ (hvn ▸ List.mem_map.2 ⟨v, hv, rfl⟩))) (by rw [hvn, h1]; decide)
  rw [hvn, h1] at this
  rwa [show strOfNums [40, 49, 43, 50, 41, 42, 51] = ⟨#[40, 49, 43, 50, 41, 42, 51]⟩ by decide] at this))
 clear hp h1 h2 h3 h
 go_enter Tryz.func7, Tryz.ntmps7
 go_wp2_with (first
  | (go_at_call 10; ((with_reducible refine HX.out.mono ?_); rintro e w1 ⟨hb, g, cap, vs, rfl, hvn, hvl, hnv, ht⟩; have HB := Lib.hid hb; have HC := Lib.hid (HP.out w1 hb g cap vs hvn hvl hnv); clear hb hvn hvl hnv ht))
  | (go_at_call 8; ((with_reducible refine HC.out.mono ?_); rintro e w2 ⟨rfl, h3⟩; have HB2 := Lib.hid (HB.out.trans (h3.mono HB.out.size)); clear h3)))
 go_ret
 exact ⟨rfl, HB2.out⟩
def TS (M : Nat) (t : Tk) : Prop := t.text.size ≤ M ∧ t.sh.size ≤ M
def NS (M : Nat) (n : Nd) : Prop := n.text.size ≤ M ∧ n.ref.sh.size ≤ M ∧ n.to.sh.size ≤ M
def TSs (M : Nat) (ts : List Tk) : Prop := ∀ t ∈ ts, TS M t
def NSs (M : Nat) (ns : List Nd) : Prop := ∀ n ∈ ns, NS M n
theorem TSs.tail {M : Nat} {ts : List Tk} (h : TSs M ts) : TSs M ts.tail := fun t ht => h t (List.mem_of_mem_tail ht)
theorem NSs.app {M : Nat} {a b : List Nd} (h : NSs M a) (k : NSs M b) : NSs M (a ++ b) := fun n hn => (List.mem_append.1 hn).elim (h n) (k n)
theorem NSs.one {M : Nat} {n : Nd} (h : NS M n) : NSs M [n] := fun m hm => by rw [List.mem_singleton] at hm; subst hm; exact h
theorem NS.plain (M : Nat) (k n : Int) (ks : List Int) : NS M { Nd.zero with kind := k, num := n, kids := ks } := ⟨Nat.zero_le _, Nat.zero_le _, Nat.zero_le _⟩
theorem refP_sizes {M base : Nat} {t : Tk} {ts : List Tk} {ns : List Nd} {a : Nat} {r : List Tk} (ht : TS M t) (hs : TSs M ts) (h : refP base t ts = .ok (ns, a, r)) : NSs M ns ∧ TSs M r := by
 unfold refP at h
 split at h
 · split at h
   · rename_i u us hu
     split at h
     · injection h with h; injection h with h1 h2; injection h2 with h2 h3
       subst h1; subst h3
       have hus : TSs M (u :: us) := by rw [← hu]; exact hs.tail
       exact ⟨NSs.one ⟨Nat.zero_le _, ht.2, (hus u (by simp)).2⟩, fun x hx => hus x (by simp [hx])⟩
     · cases h
   · cases h
 · injection h with h; injection h with h1 h2; injection h2 with h2 h3
   subst h1; subst h3
   exact ⟨NSs.one ⟨Nat.zero_le _, ht.2, Nat.zero_le _⟩, hs⟩
theorem sizes_all (M : Nat) : ∀ f : Nat, (∀ n deep base ts ns a r, exprP f n deep base ts = some (.ok (ns, a, r)) → TSs M ts → NSs M ns ∧ TSs M r) ∧
 (∀ n deep base ns a ts ns' a' r, rowP f n deep base ns a ts = some (.ok (ns', a', r)) → TSs M ts → NSs M ns → NSs M ns' ∧ TSs M r) ∧
 (∀ deep base ts ns a r, primP f deep base ts = some (.ok (ns, a, r)) → TSs M ts → NSs M ns ∧ TSs M r) ∧
 (∀ deep base ns ks ts ns' ks' r, argsP f deep base ns ks ts = some (.ok (ns', ks', r)) → TSs M ts → NSs M ns → NSs M ns' ∧ TSs M r)
 | 0 => by
   refine ⟨?_, ?_, ?_, ?_⟩
   · intro n deep base ts ns a r h; unfold exprP at h; cases h
   · intro n deep base ns a ts ns' a' r h; unfold rowP at h; cases h
   · intro deep base ts ns a r h; unfold primP at h; cases h
   · intro deep base ns ks ts ns' ks' r h; unfold argsP at h; cases h
 | f + 1 => by
   obtain ⟨i1, i2, i3, i4⟩ := sizes_all M f
   refine ⟨?_, ?_, ?_, ?_⟩
   · intro n deep base ts ns a r h ht
     rw [exprP_succ] at h
     by_cases c : n ≤ 3
     · rw [if_pos c] at h
       rcases bindR_some h with ⟨e, _, h2⟩ | ⟨ms, b, s, h1, h2⟩
       · cases h2
       · obtain ⟨k1, k2⟩ := i1 _ _ _ _ _ _ _ h1 ht
         exact i2 _ _ _ _ _ _ _ _ _ h2 k2 k1
     · rw [if_neg c] at h
       by_cases d : signIs ⟨#[45]⟩ ts = true
       · rw [if_pos d] at h
         by_cases d2 : 12 ≤ deep
         · rw [if_pos d2] at h; cases h
         · rw [if_neg d2] at h
           rcases bindR_some h with ⟨e, _, h2⟩ | ⟨ms, b, s, h1, h2⟩
           · cases h2
           · obtain ⟨k1, k2⟩ := i1 _ _ _ _ _ _ _ h1 ht.tail
             injection h2 with h2; injection h2 with h2; injection h2 with h3 h4; injection h4 with h4 h5
             subst h3; subst h4; subst h5
             exact ⟨k1.app (NSs.one (NS.plain _ _ _ _)), k2⟩
       · rw [if_neg d] at h; exact i3 _ _ _ _ _ _ h ht
   · intro n deep base ns a ts ns' a' r h ht hn
     rw [rowP_succ] at h
     by_cases c : opK n ts = 0
     · rw [if_pos c] at h
       injection h with h; injection h with h; injection h with h1 h2; injection h2 with h2 h3
       subst h1; subst h2; subst h3
       exact ⟨hn, ht⟩
     · rw [if_neg c] at h
       rcases bindR_some h with ⟨e, _, h2⟩ | ⟨ms, b, s, h1, h2⟩
       · cases h2
       · obtain ⟨k1, k2⟩ := i1 _ _ _ _ _ _ _ h1 ht.tail
         exact i2 _ _ _ _ _ _ _ _ _ h2 k2 (hn.app (k1.app (NSs.one (NS.plain _ _ _ _))))
   · intro deep base ts ns a r h ht
     cases ts with
     | nil => rw [primP_nil] at h; cases h
     | cons t ts =>
       have h0 : TS M t := ht t (by simp)
       have hts : TSs M ts := fun x hx => ht x (by simp [hx])
       have leaf : ∀ (x : Nd), NS M x → (some (.ok ([x], base, ts)) : Option Res) = some (.ok (ns, a, r)) → NSs M ns ∧ TSs M r := by
        intro x hk h
        injection h with h; injection h with h; injection h with h1 h2; injection h2 with h2 h3
        subst h1; subst h2; subst h3
        exact ⟨NSs.one hk, hts⟩
       rw [primP_cons] at h
       by_cases c1 : signIs ⟨#[40]⟩ (t :: ts) = true
       · rw [if_pos c1] at h
         by_cases d2 : 12 ≤ deep
         · rw [if_pos d2] at h; cases h
         · rw [if_neg d2] at h
           rcases bindR_some h with ⟨e, _, h2⟩ | ⟨ms, b, s, h1, h2⟩
           · cases h2
           · obtain ⟨k1, k2⟩ := i1 _ _ _ _ _ _ _ h1 hts
             split at h2
             · injection h2 with h2; injection h2 with h2; injection h2 with h3 h4; injection h4 with h4 h5
               subst h3; subst h4; subst h5
               exact ⟨k1, k2.tail⟩
             · cases h2
       rw [if_neg c1] at h
       by_cases c2 : t.kind = 1
       · rw [if_pos c2] at h; exact leaf _ (NS.plain _ _ _ _) h
       rw [if_neg c2] at h
       by_cases c3 : t.kind = 2
       · rw [if_pos c3] at h; exact leaf _ ⟨h0.1, Nat.zero_le _, Nat.zero_le _⟩ h
       rw [if_neg c3] at h
       by_cases c4 : t.kind = 6
       · rw [if_pos c4] at h; exact leaf _ (NS.plain _ _ _ _) h
       rw [if_neg c4] at h
       by_cases c5 : t.kind = 4
       · rw [if_pos c5] at h; injection h with h; exact refP_sizes h0 hts h
       rw [if_neg c5] at h
       by_cases c6 : t.kind = 3
       · rw [if_pos c6] at h
         by_cases e1 : t.text = ⟨#[84, 82, 85, 69]⟩
         · rw [if_pos e1] at h; exact leaf _ (NS.plain _ _ _ _) h
         rw [if_neg e1] at h
         by_cases e2 : t.text = ⟨#[70, 65, 76, 83, 69]⟩
         · rw [if_pos e2] at h; exact leaf _ (NS.plain _ _ _ _) h
         rw [if_neg e2] at h
         by_cases e3 : signIs ⟨#[40]⟩ ts = true
         · rw [if_pos e3] at h
           by_cases d2 : 12 ≤ deep
           · rw [if_pos d2] at h; cases h
           · rw [if_neg d2] at h
             rcases bindR_some h with ⟨e, _, h2⟩ | ⟨ms, ks, s, h1, h2⟩
             · cases h2
             · have hk : NSs M ms ∧ TSs M s := by
                split at h1
                · injection h1 with h1; injection h1 with h1; injection h1 with h3 h4; injection h4 with h4 h5
                  subst h3; subst h5
                  exact ⟨fun _ h => absurd h (by simp), hts.tail⟩
                · exact i4 _ _ _ _ _ _ _ _ h1 hts.tail (fun _ h => absurd h (by simp))
               split at h2
               · injection h2 with h2; injection h2 with h2; injection h2 with h3 h4; injection h4 with h4 h5
                 subst h3; subst h4; subst h5
                 exact ⟨hk.1.app (NSs.one ⟨h0.1, Nat.zero_le _, Nat.zero_le _⟩), hk.2.tail⟩
               · cases h2
         · rw [if_neg e3] at h; cases h
       · rw [if_neg c6] at h; cases h
   · intro deep base ns ks ts ns' ks' r h ht hn
     rw [argsP_succ] at h
     rcases bindR_some h with ⟨e, _, h2⟩ | ⟨ms, b, s, h1, h2⟩
     · cases h2
     · obtain ⟨k1, k2⟩ := i1 _ _ _ _ _ _ _ h1 ht
       split at h2
       · exact i4 _ _ _ _ _ _ _ _ h2 k2.tail (hn.app k1)
       · injection h2 with h2; injection h2 with h2; injection h2 with h3 h4; injection h4 with h4 h5
         subst h3; subst h4; subst h5
         exact ⟨hn.app k1, k2⟩
theorem parseP_sizes {M f : Nat} {ts : List Tk} {ns : List Nd} (h : parseP f ts = some (.ok ns)) (ht : TSs M ts) : NSs M ns := by
 unfold parseP at h
 rcases bindR_some h with ⟨e, _, h2⟩ | ⟨ms, b, s, h1, h2⟩
 · cases h2
 · split at h2
   · injection h2 with h2; injection h2 with h2; subst h2
     exact ((sizes_all M f).1 _ _ _ _ _ _ _ h1 ht).1
   · cases h2
theorem strN_size {l : List Int} (h : Bytes l) : (strOfNums l).size = l.length := by rw [← length_sb, sb_str _ h]
theorem quoF_size : ∀ (n : Nat) (l : List Int) (t : List Int) (k : Nat), l.length ≤ n → quoF l = some (t, k) → t.length ≤ l.length
 | _, [], _, _, _, h => by simp [quoF] at h
 | 0, _ :: _, _, _, hn, _ => by simp at hn
 | n + 1, x :: l, t, k, hn, h => by
   rw [quoF_cons] at h
   by_cases h1 : x < 32
   · rw [if_pos h1] at h; cases h
   · rw [if_neg h1] at h
     by_cases h2 : x ≠ 34
     · rw [if_pos h2] at h
       cases hq : quoF l with
       | none => rw [hq] at h; cases h
       | some q =>
         rw [hq] at h
         simp only [Option.map_some, Option.some.injEq, Prod.mk.injEq] at h
         have := quoF_size n l q.1 q.2 (by simp at hn; omega) hq
         rw [← h.1]; simp only [List.length_cons]; omega
     · rw [if_neg h2] at h
       cases l with
       | nil => simp only [Option.some.injEq, Prod.mk.injEq] at h; rw [← h.1]; simp
       | cons y m =>
         simp only at h
         by_cases h3 : y = 34
         · rw [if_pos h3] at h
           cases hq : quoF m with
           | none => rw [hq] at h; cases h
           | some q =>
             rw [hq] at h
             simp only [Option.map_some, Option.some.injEq, Prod.mk.injEq] at h
             have := quoF_size n m q.1 q.2 (by simp at hn; omega) hq
             rw [← h.1]; simp only [List.length_cons]; omega
         · rw [if_neg h3] at h
           simp only [Option.some.injEq, Prod.mk.injEq] at h; rw [← h.1]; simp
theorem textL_size (sh : List Int) (c r : Int) (ac ar : Bool) (hm : mayL sh c r = true) : sh.length ≤ (textL sh c r ac ar).length := by
 unfold textL
 rw [if_pos hm]
 by_cases h : sh = []
 · rw [h]; exact Nat.zero_le _
 · rw [if_neg h]; simp only [List.length_append]; omega
theorem tokT_size (l : List Int) (t : Tk) (n p M : Nat) (hb : Bytes l) (hM : l.length ≤ M) (h : tokT l = some (t, n)) : TS M (t.goto p) := by
 have z : (⟨#[]⟩ : ByteArray).size ≤ M := Nat.zero_le _
 cases l with
 | nil => simp [tokT] at h
 | cons x l =>
   have hspan : ∀ q : Int → Bool, ((x :: l).takeWhile q).length ≤ M := fun q => Nat.le_trans (take_le q _) hM
   rw [tokT_cons] at h
   by_cases h1 : isNum x = true
   · rw [if_pos h1] at h
     unfold numT at h
     split at h
     · cases h
     · simp only [Option.some.injEq, Prod.mk.injEq] at h
       rw [← h.1]; exact ⟨z, z⟩
   · rw [if_neg h1] at h
     by_cases h2 : x = 34
     · rw [if_pos h2] at h
       unfold quoT at h
       cases hq : quoF l with
       | none => rw [hq] at h; cases h
       | some q =>
         rw [hq] at h
         simp only [Option.map_some, Option.some.injEq, Prod.mk.injEq] at h
         obtain ⟨g1, g2⟩ := quoF_good _ l q.1 q.2 (Nat.le_refl _) (fun y hy => hb y (by simp [hy])) hq
         rw [← h.1]
         refine ⟨?_, z⟩
         show (strOfNums q.1).size ≤ M
         rw [strN_size g1]
         have := quoF_size _ l q.1 q.2 (Nat.le_refl _) hq
         simp only [List.length_cons] at hM; omega
     · rw [if_neg h2] at h
       by_cases h3 : x = 35
       · rw [if_pos h3] at h
         unfold deadT at h
         split at h
         · simp only [Option.some.injEq, Prod.mk.injEq] at h
           rw [← h.1]; exact ⟨z, z⟩
         · cases h
       · rw [if_neg h3] at h
         by_cases h4 : isLet x = true ∨ x = 36
         · rw [if_pos h4] at h
           unfold wordT at h
           cases hq : readS (strOfNums ((x :: l).takeWhile isWord)) with
           | some d =>
             rw [hq] at h
             simp only [Option.some.injEq, Prod.mk.injEq] at h
             rw [← h.1]
             refine ⟨z, ?_⟩
             show d.sh.size ≤ M
             have e := (read_some _ d hq).2.2
             rw [sb_str _ (hb.span isWord)] at e
             have k1 := textL_size (sb d.sh) d.c d.r d.ac d.ar (read_some _ d hq).2.1
             rw [e, length_sb] at k1
             exact Nat.le_trans k1 (hspan isWord)
           | none =>
             rw [hq] at h
             simp only at h
             by_cases hc : calledL ((x :: l).takeWhile isWord) = true
             · rw [if_pos hc] at h
               simp only [Option.some.injEq, Prod.mk.injEq] at h
               rw [← h.1]
               refine ⟨?_, z⟩
               show (strOfNums ((x :: l).takeWhile isWord)).size ≤ M
               rw [strN_size (hb.span isWord)]; exact hspan isWord
             · rw [if_neg hc] at h; cases h
         · rw [if_neg h4] at h
           unfold signT at h
           split at h
           · cases h
           · simp only [Option.some.injEq, Prod.mk.injEq] at h
             rw [← h.1]
             refine ⟨?_, z⟩
             show (strOfNums ((x :: l).take (signN (x :: l)))).size ≤ M
             rw [strN_size (fun y hy => hb y (List.mem_of_mem_take hy)), List.length_take]; omega
theorem lexF_sizes (M : Nat) : ∀ (f p : Nat) (l : List Int) (ts : List Tk), Bytes l → l.length ≤ M → lexF f p l = some ts → TSs M ts
 | f, p, [], ts, _, _, h => by
   have h0 : lexF f p [] = some [Tk.zero.goto p] := by unfold lexF; rfl
   rw [h0] at h; injection h with h; subst h
   intro t ht; rw [List.mem_singleton] at ht; subst ht
   exact ⟨Nat.zero_le _, Nat.zero_le _⟩
 | 0, _, _ :: _, _, _, _, h => by unfold lexF at h; cases h
 | f + 1, p, x :: l, ts, hb, hM, h => by
   have hbl : Bytes l := fun y hy => hb y (by simp [hy])
   rw [lexF_cons] at h
   by_cases hx : x = 32
   · rw [if_pos hx] at h
     exact lexF_sizes M f (p + 1) l ts hbl (by simp only [List.length_cons] at hM; omega) h
   · rw [if_neg hx] at h
     cases hq : tokT (x :: l) with
     | none => rw [hq] at h; cases h
     | some q =>
       obtain ⟨t0, n⟩ := q
       rw [hq] at h
       simp only [Option.map_eq_some_iff] at h
       obtain ⟨us, h1, rfl⟩ := h
       have k1 := lexF_sizes M f (p + n) _ us (fun y hy => hb y (List.mem_of_mem_drop hy)) (by rw [List.length_drop]; omega) h1
       intro t ht
       rcases List.mem_cons.1 ht with rfl | ht
       · exact tokT_size (x :: l) t0 n p M hb hM hq
       · exact k1 t ht
theorem tokT_num (l : List Int) (t : Tk) (n : Nat) (h : tokT l = some (t, n)) : t.num ≤ 9223372036854775807 := by
 cases l with
 | nil => simp [tokT] at h
 | cons x l =>
   rw [tokT_cons] at h
   split at h
   · unfold numT at h
     split at h
     · cases h
     · simp only [Option.some.injEq, Prod.mk.injEq] at h
       rw [← h.1]
       show valL _ ≤ _
       omega
   split at h
   · unfold quoT at h
     cases hq : quoF l with
     | none => rw [hq] at h; cases h
     | some q =>
       rw [hq] at h
       simp only [Option.map_some, Option.some.injEq, Prod.mk.injEq] at h
       rw [← h.1]; show (0 : Int) ≤ _; omega
   split at h
   · unfold deadT at h
     split at h
     · simp only [Option.some.injEq, Prod.mk.injEq] at h
       rw [← h.1]; show (0 : Int) ≤ _; omega
     · cases h
   split at h
   · unfold wordT at h
     split at h
     · simp only [Option.some.injEq, Prod.mk.injEq] at h
       rw [← h.1]; show (0 : Int) ≤ _; omega
     · split at h
       · simp only [Option.some.injEq, Prod.mk.injEq] at h
         rw [← h.1]; show (0 : Int) ≤ _; omega
       · cases h
   · unfold signT at h
     split at h
     · cases h
     · simp only [Option.some.injEq, Prod.mk.injEq] at h
       rw [← h.1]; show (0 : Int) ≤ _; omega
theorem Tok.num {t : Tk} (h : Tok t) : t.num ≤ 9223372036854775807 := by
 have := tokT_num _ _ _ h.2.1
 exact this
theorem Tok.pos {t : Tk} (h : Tok t) : 1 ≤ (txK t).length := (tokT_le _ _ _ h.2.1).1
theorem wr_mem {n rk d : Nat} {ts : List Tk} {d' : Nat} {ts' : List Tk} (h : Wr n rk d ts d' ts') : ts.length ≤ ts'.length ∧ ∀ t ∈ ts, t ∈ ts' := by
 rcases h with ⟨_, rfl, _⟩ | ⟨_, _, l, r, _, _, rfl⟩
 · exact ⟨Nat.le_refl _, fun _ h => h⟩
 · exact ⟨by simp; omega, fun t ht => by simp [ht]⟩
theorem sh_few {m : Bool} {base : Nat} {ns : List Nd} {ks : List Int} {ts : List Tk} {rk d : Nat} (h : Sh m base ns ks ts rk d) : (∀ t ∈ ts, t.num ≤ 9223372036854775807) → ns.length ≤ ts.length ∧ ∀ n ∈ ns, n.num ≤ 9223372036854775807 := by
 induction h with
 | leaf base ts nd h =>
   intro ht
   refine ⟨by cases h <;> simp, fun n hn => ?_⟩
   rw [List.mem_singleton.1 hn]
   cases h with
   | num t h => exact ht t (by simp)
   | yes t h g => show (1 : Int) ≤ _; omega
   | _ => show (0 : Int) ≤ _; omega
 | neg base ns a ts rk d h m hm d' ts' hw ih =>
   intro ht
   obtain ⟨w1, w2⟩ := wr_mem hw
   obtain ⟨g1, g2⟩ := ih fun t h => ht t (List.mem_cons_of_mem _ (w2 t h))
   refine ⟨by simp only [List.length_append, List.length_cons, List.length_nil]; omega, fun n hn => ?_⟩
   rcases List.mem_append.1 hn with hn | hn
   · exact g2 n hn
   · rw [List.mem_singleton.1 hn]; show (0 : Int) ≤ _; omega
 | op base o ho ns ms a b ts us rk1 rk2 d1 d2 h g s hs e1 e2 ts' us' hw gw ih ig =>
   intro ht
   obtain ⟨w1, w2⟩ := wr_mem hw
   obtain ⟨x1, x2⟩ := wr_mem gw
   obtain ⟨g1, g2⟩ := ih fun t h => ht t (List.mem_append_left _ (w2 t h))
   obtain ⟨y1, y2⟩ := ig fun t h => ht t (List.mem_append_right _ (List.mem_cons_of_mem _ (x2 t h)))
   refine ⟨by simp only [List.length_append, List.length_cons, List.length_nil]; omega, fun n hn => ?_⟩
   rcases List.mem_append.1 hn with hn | hn
   · exact g2 n hn
   rcases List.mem_append.1 hn with hn | hn
   · exact y2 n hn
   · rw [List.mem_singleton.1 hn]; show (0 : Int) ≤ _; omega
 | call base ns ks ts d h t l r =>
   rename_i ih
   intro ht
   obtain ⟨g1, g2⟩ := ih fun t h => ht t (by simp [h])
   refine ⟨by simp only [List.length_append, List.length_cons, List.length_nil]; omega, fun n hn => ?_⟩
   rcases List.mem_append.1 hn with hn | hn
   · exact g2 n hn
   · rw [List.mem_singleton.1 hn]; show (0 : Int) ≤ _; omega
 | none base => intro _; exact ⟨Nat.le_refl _, fun n hn => by cases hn⟩
 | one base ns a ts rk d h ih => exact ih
 | and base ns ms ks b ts us rk d1 d2 h hk c hc g ih ig =>
   intro ht
   obtain ⟨g1, g2⟩ := ih fun t h => ht t (List.mem_append_left _ h)
   obtain ⟨y1, y2⟩ := ig fun t h => ht t (List.mem_append_right _ (List.mem_cons_of_mem _ h))
   refine ⟨by simp only [List.length_append, List.length_cons]; omega, fun n hn => ?_⟩
   rcases List.mem_append.1 hn with hn | hn
   · exact g2 n hn
   · exact y2 n hn
theorem txL_few : ∀ ts : List Tk, (∀ t ∈ ts, Tok t) → ts.length ≤ (txL ts).length
 | [], _ => Nat.zero_le _
 | t :: ts, h => by
   have ih := txL_few ts fun u hu => h u (List.mem_cons_of_mem _ hu)
   have h1 := (h t (by simp)).pos
   rw [txL_cons, List.length_append, List.length_cons]; omega
theorem txL_bytes : ∀ ts : List Tk, (∀ t ∈ ts, Tok t) → Bytes (txL ts)
 | [], _ => fun x hx => by cases hx
 | t :: ts, h => fun x hx => by
   rw [txL_cons] at hx
   rcases List.mem_append.1 hx with hx | hx
   · exact (h t (by simp)).2.2 x hx
   · exact txL_bytes ts (fun u hu => h u (List.mem_cons_of_mem _ hu)) x hx
theorem PIs_told (s : ByteArray) (ns : List Nd) (h : PIs s (.ok ns)) : (ns.length ≤ 300 ∧ 0 < ns.length ∧ treeB ns = true) ∧ (∀ n ∈ ns, n.num ≤ 9223372036854775807) ∧ (printL ns).length ≤ s.size ∧ s.size ≤ 300 ∧ PIs (strOfNums (printL ns)) (.ok ns) := by
 rcases h with ⟨_, h⟩ | ⟨_, _, h⟩ | ⟨h0, ts, f, h1, h2⟩
 · cases h
 · cases h
 · have hb : Bytes (sb s) := fun x hx => sb_bd s x hx
   have ht := parse_tree h2 (lexL_good s ts h1).1
   obtain ⟨us, rq, d, a, g1, g2, g3, g4, g5⟩ := told_text hb h1 h2
   rw [length_sb] at g4
   obtain ⟨k1, k2⟩ := sh_few g1 fun t h => (g3 t h).num
   have k3 := txL_few us g3
   obtain ⟨p1, vs, g, p2, p3⟩ := print_told hb h1 h2 ht
   rw [length_sb] at p1
   have hpos : 0 < ns.length := by
    cases ns with
    | nil => exact absurd ht (by decide)
    | cons n ns => simp
   have hby : Bytes (printL ns) := by
    rw [sh_print g1 ht]
    exact txL_bytes us g3
   refine ⟨⟨by omega, hpos, ht⟩, k2, p1, h0, .inr (.inr ⟨by rw [strOfNums_size]; omega, vs, g, by rw [sb_str _ hby]; exact p2, p3⟩)⟩
theorem PIs_sizes6 (s : ByteArray) (ns : List Nd) (h : PIs s (.ok ns)) : ∀ n ∈ ns, n.text.size ≤ 1000000 ∧ n.ref.sh.size ≤ 1000000 ∧ n.to.sh.size ≤ 1000000 := by
 rcases h with ⟨_, h⟩ | ⟨_, _, h⟩ | ⟨h0, ts, f, h1, h2⟩
 · cases h
 · cases h
 · exact parseP_sizes h2 (lexF_sizes 1000000 _ _ _ _ (fun x hx => sb_bd s x hx) (by rw [length_sb]; omega) h1)
theorem parse_sn (s : ByteArray) (w : World) (hx : Sx w) (ns : List Nd) (hp : PIs s (.ok ns)) :
 Calls Tryz.prog 10 #[.string s] w fun e w' => Below w.heap.size w w' ∧ ∃ g cap vs, e = .returned (.tuple #[.slice (some ⟨g, 0, none⟩) ns.length cap, .int .i64 0]) ∧ vs.map Prod.fst = ns ∧ SN w' w'.heap.size (.slice (some ⟨g, 0, none⟩) ns.length cap) vs := by
 refine (parse_ok s w hx.vars hx.ops ns hp (PIs_told s ns hp).1.2.1).mono ?_
 rintro e w' ⟨hb, g, cap, vs, he, h1, h2, h3, -⟩
 exact ⟨hb, g, cap, _, he, (sn_fst vs).trans h1, h3.sn h2⟩
set_option maxRecDepth 100000 in
set_option maxHeartbeats 4000000 in
theorem stexts_ok (s : ByteArray) (w : World) (hx : Sx w) (ns : List Nd) (hp : PIs s (.ok ns)) :
 Calls Tryz.prog 4 #[.string s] w fun e w' => e = .returned (.bool true) ∧ Below w.heap.size w w' := by
 obtain ⟨⟨hl300, hpos, htree⟩, hnum, hpl, hs300, hp2⟩ := PIs_told s ns hp
 have hsz := PIs_sizes6 s ns hp
 have HA := Lib.hid (parse_sn s w hx ns hp)
 obtain ⟨t, ht⟩ : ∃ t, strOfNums (printL ns) = t := ⟨_, rfl⟩
 have hts : (t.size : Int) ≤ (s.size : Int) := by rw [← ht, strOfNums_size]; omega
 rw [ht] at hp2
 have hi : ¬ (600 : Int) < (s.size : Int) := by omega
 have HPR := Lib.hid (fun (w1 wr : World) (h1 : Below w.heap.size w w1) (v : Value) (l : List (Nd × Value)) (hm : l.map Prod.fst = ns) (hs : SN w1 w1.heap.size v l) (hr : Below w1.heap.size w1 wr) => (show Calls Tryz.prog 8 #[v] wr fun e w' => e = .returned (.string t) ∧ Below wr.heap.size wr w' from by
  have hl : l.length = ns.length := by rw [← hm, List.length_map]
  have := (hx.below (h1.trans (hr.mono h1.size))).print v l (hs.lift hr hr.size) ⟨by omega, fun p hp => hsz p.1 (by rw [← hm]; exact List.mem_map_of_mem hp)⟩ (fun p hp => hnum p.1 (by rw [← hm]; exact List.mem_map_of_mem hp)) (by rw [show l.map (·.1) = ns from hm]; omega)
  rw [show l.map (·.1) = ns from hm, ht] at this
  exact this))
 have HRP := Lib.hid (fun (w1 wr : World) (h1 : Below w.heap.size w w1) (v : Value) (l : List (Nd × Value)) (hm : l.map Prod.fst = ns) (hs : SN w1 w1.heap.size v l) (hr : Below w1.heap.size w1 wr) => (show Calls Tryz.prog 9 #[v] wr fun e w' => e = .returned (.string t) ∧ Below wr.heap.size wr w' from by
  have hl : l.length = ns.length := by rw [← hm, List.length_map]
  have := refPrint_any wr v l (hs.lift hr hr.size) ⟨by omega, fun p hp => hsz p.1 (by rw [← hm]; exact List.mem_map_of_mem hp)⟩ (fun p hp => hnum p.1 (by rw [← hm]; exact List.mem_map_of_mem hp)) (by rw [show l.map (·.1) = ns from hm]; omega)
  rw [show l.map (·.1) = ns from hm, ht] at this
  exact this))
 have HSM := Lib.hid (fun (w1 w4 : World) (v1 v2 : Value) (l1 l2 : List (Nd × Value)) (hm1 : l1.map Prod.fst = ns) (hm2 : l2.map Prod.fst = ns) (hs1 : SN w1 w1.heap.size v1 l1) (hs2 : SN w4 w4.heap.size v2 l2) (hr : Below w1.heap.size w1 w4) => (show Calls Tryz.prog 12 #[v1, v2] w4 fun e w' => e = .returned (.bool true) ∧ Below w4.heap.size w4 w' from by
  have hl1 : l1.length = ns.length := by rw [← hm1, List.length_map]
  have hl2 : l2.length = ns.length := by rw [← hm2, List.length_map]
  refine (refSame_any w4 v1 v2 l1 l2 (hs1.lift hr hr.size) hs2 (by omega) (by omega)).mono fun e w' h => ⟨?_, h.2⟩
  rcases h.1.is with ⟨_, h⟩ | ⟨h, _⟩
  · exact h
  · exact absurd (hm1.trans hm2.symm) h))
 have HPT := Lib.hid (fun (wr : World) (hr : Below w.heap.size w wr) => parse_sn t wr (hx.below hr) ns hp2)
 have HAW := Lib.hid (fun (wr : World) (hr : Below w.heap.size w wr) => awake6_any wr (hx.below hr))
 obtain ⟨L, hL⟩ : ∃ L, ns.length = L := ⟨_, rfl⟩
 rw [hL] at HA HPT
 clear hp hp2 ht hpl hs300 hnum hsz hl300 hpos htree hL hx
 go_enter Tryz.func4, Tryz.ntmps4
 go_wp2_with (first
  | (go_at_call 10; ((with_reducible refine HA.out.mono ?_); rintro e w1 ⟨hb, g1, cap1, l1, rfl, hm1, hs1⟩; have HB1 := Lib.hid hb; have HM1 := Lib.hid hm1; have HS1 := Lib.hid hs1; clear hb hm1 hs1))
  | (go_at_call 8; ((with_reducible refine (HPR.out w1 w1 HB1.out _ l1 HM1.out HS1.out (Below.refl _ _)).mono ?_); rintro e w2 ⟨rfl, h1⟩; have H2 := Lib.hid h1; clear h1))
  | (go_at_call 9; ((with_reducible refine (HRP.out w1 w2 HB1.out _ l1 HM1.out HS1.out H2.out).mono ?_); rintro e w3 ⟨rfl, h1⟩; have H3 := Lib.hid (H2.out.trans (h1.mono H2.out.size)); clear h1))
  | (go_at_call 10; ((with_reducible refine (HPT.out w3 (HB1.out.trans (H3.out.mono HB1.out.size))).mono ?_); rintro e w4 ⟨hb, g2, cap2, l2, rfl, hm2, hs2⟩; have H4 := Lib.hid (H3.out.trans (hb.mono H3.out.size)); have HM2 := Lib.hid hm2; have HS2 := Lib.hid hs2; clear hb hm2 hs2))
  | (go_at_call 12; ((with_reducible refine (HSM.out w1 w4 _ _ l1 l2 HM1.out HM2.out HS1.out HS2.out H4.out).mono ?_); rintro e w5 ⟨rfl, h1⟩; have H5 := Lib.hid h1; clear h1))
  | (go_at_call 8; ((with_reducible refine (HPR.out w4 w5 (HB1.out.trans (H4.out.mono HB1.out.size)) _ l2 HM2.out HS2.out H5.out).mono ?_); rintro e w6 ⟨rfl, h1⟩; have H6 := Lib.hid ((HB1.out.trans (H4.out.mono HB1.out.size)).trans ((H5.out.trans (h1.mono H5.out.size)).mono (HB1.out.trans (H4.out.mono HB1.out.size)).size)); clear h1))
  | (go_at_call 7; ((with_reducible refine (HAW.out w6 H6.out).mono ?_); rintro e w7 ⟨rfl, h1⟩; have H7 := Lib.hid (H6.out.trans (h1.mono H6.out.size)); clear h1))
  | (go_at_call 11; ((with_reducible refine (num_is _ _).mono ?_); rintro e wn ⟨rfl, rfl⟩)))
 go_ret
 exact ⟨rfl, H7.out⟩
def OkE {α : Type} (x : Option (Except Int α)) : Prop := ∀ c, x = some (.error c) → c = 5 ∨ c = 6
theorem OkE.non {α : Type} : OkE (none : Option (Except Int α)) := fun c h => by cases h
theorem OkE.ok {α : Type} (v : α) : OkE (some (.ok v) : Option (Except Int α)) := fun c h => by injection h with h; cases h
theorem OkE.e5 {α : Type} : OkE (some (.error 5) : Option (Except Int α)) := fun c h => by injection h with h; injection h with h; exact .inl h.symm
theorem OkE.e6 {α : Type} : OkE (some (.error 6) : Option (Except Int α)) := fun c h => by injection h with h; injection h with h; exact .inr h.symm
theorem OkE.ite {α : Type} {p : Prop} [Decidable p] {x y : Option (Except Int α)} (h : OkE x) (g : OkE y) : OkE (if p then x else y) := by split; exact h; exact g
theorem OkE.bind {α β γ δ : Type} {x : Option (Except Int (α × β × γ))} {k : α → β → γ → Option (Except Int δ)} (h : OkE x) (g : ∀ a b c, OkE (k a b c)) : OkE (bindR x k) := fun c hc => by
 rcases bindR_some hc with ⟨e, h1, h2⟩ | ⟨a, b, d, _, h2⟩
 · injection h2 with h2; subst h2; exact h c h1
 · exact g a b d c h2
theorem refP_e (base : Nat) (t : Tk) (ts : List Tk) : OkE (some (refP base t ts)) := by
 unfold refP
 split
 · split
   · split
     · exact OkE.ok _
     · exact OkE.e5
   · exact OkE.e5
 · exact OkE.ok _
theorem err_all : ∀ f : Nat, (∀ n deep base ts, OkE (exprP f n deep base ts)) ∧ (∀ n deep base ns a ts, OkE (rowP f n deep base ns a ts)) ∧ (∀ deep base ts, OkE (primP f deep base ts)) ∧ (∀ deep base ns ks ts, OkE (argsP f deep base ns ks ts))
 | 0 => ⟨fun _ _ _ _ => by unfold exprP; exact OkE.non, fun _ _ _ _ _ _ => by unfold rowP; exact OkE.non, fun _ _ _ => by unfold primP; exact OkE.non, fun _ _ _ _ _ => by unfold argsP; exact OkE.non⟩
 | f + 1 => by
   obtain ⟨i1, i2, i3, i4⟩ := err_all f
   refine ⟨fun n deep base ts => ?_, fun n deep base ns a ts => ?_, fun deep base ts => ?_, fun deep base ns ks ts => ?_⟩
   · rw [exprP_succ]
     exact OkE.ite (OkE.bind (i1 _ _ _ _) fun _ _ _ => i2 _ _ _ _ _ _) (OkE.ite (OkE.ite OkE.e6 (OkE.bind (i1 _ _ _ _) fun _ _ _ => OkE.ok _)) (i3 _ _ _))
   · rw [rowP_succ]
     exact OkE.ite (OkE.ok _) (OkE.bind (i1 _ _ _ _) fun _ _ _ => i2 _ _ _ _ _ _)
   · cases ts with
     | nil => rw [primP_nil]; exact OkE.e5
     | cons t ts =>
       rw [primP_cons]
       repeat' first
        | exact OkE.ok _
        | exact OkE.e5
        | exact OkE.e6
        | exact refP_e _ _ _
        | exact i1 _ _ _ _
        | exact i4 _ _ _ _ _
        | (apply OkE.bind)
        | (apply OkE.ite)
        | intro
   · rw [argsP_succ]
     exact OkE.bind (i1 _ _ _ _) fun _ _ _ => OkE.ite (i4 _ _ _ _ _) (OkE.ok _)
theorem PIs_err (s : ByteArray) (c : Int) (h : PIs s (.error c)) : c ≠ 0 := by
 rcases h with ⟨_, h⟩ | ⟨_, _, h⟩ | ⟨_, ts, f, _, h⟩
 · injection h with h; omega
 · injection h with h; omega
 · unfold parseP at h
   have := OkE.bind ((err_all f).1 0 0 0 ts) (k := fun ns _ r => if kindAt r = 0 then some (.ok ns) else some (.error 5)) (fun _ _ _ => OkE.ite (OkE.ok _) OkE.e5) c h
   omega
theorem sn_nil (w : World) : SN w w.heap.size (.slice none 0 0) [] := ⟨⟨none, 0, rfl, .inl rfl⟩, fun p hp => absurd hp (by simp)⟩
theorem print_nil (w : World) (hx : Sx w) : Calls Tryz.prog 8 #[.slice none 0 0] w fun e w' => e = .returned (.string ⟨#[]⟩) ∧ Below w.heap.size w w' :=
 hx.print _ [] (sn_nil w) ⟨Nat.zero_le _, fun p hp => absurd hp (by simp)⟩ (fun p hp => absurd hp (by simp)) (by decide)
theorem rprint_nil (w : World) : Calls Tryz.prog 9 #[.slice none 0 0] w fun e w' => e = .returned (.string ⟨#[]⟩) ∧ Below w.heap.size w w' :=
 refPrint_any w _ [] (sn_nil w) ⟨Nat.zero_le _, fun p hp => absurd hp (by simp)⟩ (fun p hp => absurd hp (by simp)) (by decide)
set_option maxRecDepth 100000 in
set_option maxHeartbeats 4000000 in
theorem stexts_bad (s : ByteArray) (w : World) (hx : Sx w) (h1 : s.size ≤ 600) (c : Int) (hp : PIs s (.error c)) :
 Calls Tryz.prog 4 #[.string s] w fun e w' => e = .returned (.bool true) ∧ Below w.heap.size w w' := by
 have hc0 : (c == 0) = false := beq_eq_false_iff_ne.2 (PIs_err s c hp)
 have HA := Lib.hid (parse_err s w hx.vars hx.ops c hp)
 have HP := Lib.hid (fun (wr : World) (hr : Below w.heap.size w wr) => print_nil wr (hx.below hr))
 have HAW := Lib.hid (fun (wr : World) (hr : Below w.heap.size w wr) => awake6_any wr (hx.below hr))
 have hi : ¬ (600 : Int) < (s.size : Int) := by omega
 clear hx hp
 go_enter Tryz.func4, Tryz.ntmps4
 go_wp2_with (first
  | (go_at_call 10; ((with_reducible refine HA.out.mono ?_); rintro e w1 ⟨hb, rfl⟩; have HB1 := Lib.hid hb; clear hb))
  | (go_at_call 8; ((with_reducible refine (HP.out _ HB1.out).mono ?_); rintro e w2 ⟨rfl, h1⟩; have H2 := Lib.hid (HB1.out.trans (h1.mono HB1.out.size)); clear h1))
  | (go_at_call 9; ((with_reducible refine (rprint_nil _).mono ?_); rintro e w3 ⟨rfl, h1⟩; have H3 := Lib.hid (H2.out.trans (h1.mono H2.out.size)); clear h1))
  | (go_at_call 7; ((with_reducible refine (HAW.out _ H3.out).mono ?_); rintro e w7 ⟨rfl, h1⟩; have H7 := Lib.hid (H3.out.trans (h1.mono H3.out.size)); clear h1))
  | (go_at_call 11; ((with_reducible refine (num_is _ _).mono ?_); rintro e wn ⟨rfl, rfl⟩)))
 go_ret
 exact ⟨rfl, H7.out⟩
set_option maxRecDepth 100000 in
set_option maxHeartbeats 2000000 in
theorem showTexts_any (s : ByteArray) (w : World) (hx : Sx w) : Calls Tryz.prog 4 #[.string s] w fun e w' => e = .returned (.bool true) ∧ Below w.heap.size w w' := by
 by_cases h1 : s.size ≤ 600
 · obtain ⟨res, hp⟩ := PIs.all s
   cases res with
   | error c => exact stexts_bad s w hx h1 c hp
   | ok ns => exact stexts_ok s w hx ns hp
 · have hi : (600 : Int) < (s.size : Int) := by omega
   have HAW := Lib.hid (awake6_any w hx)
   clear hx
   go_enter Tryz.func4, Tryz.ntmps4
   go_wp2_with (go_at_call 7; ((with_reducible refine HAW.out.mono ?_); rintro e w2 ⟨rfl, h1⟩; have HB2 := Lib.hid h1; clear h1))
   go_ret
   exact ⟨rfl, HB2.out⟩
end Go.Proofs.YtkdamdmnchcceaaGreatDoor
namespace Go.Proofs.YtkdamdmnchcceaaGreatDoor
open Go.ChangeShapes Go.WideShapes Go.ChangeAt Go.RowKit
theorem trodAll_below {H : Type} {enc : TypeId × Value → H} {P : Program} (hl : laidOutB P = true) {W W' : World} (hb : Below W.heap.size W W') :
 ∀ (ts : List TypeId) (vs : List Value) (ds : List (DataW H)) (p : List MemPlace), (ts.all fun t => P.readableRec t && decide (t < P.types.size)) = true → (∀ x ∈ p, x.block < W.heap.size) →
   DataW.TrodAll enc P W 0 (fun _ => true) true ts vs ds p → DataW.TrodAll enc P W' 0 (fun b => decide (b < W.heap.size)) true ts vs ds p := by
 intro ts
 induction ts with
 | nil =>
   intro vs ds p _ _ h
   obtain ⟨rfl, rfl, rfl⟩ := trodAll_nil h
   exact trodAll_mk0
 | cons t ts ih =>
   intro vs ds p ht hlt h
   obtain ⟨v, vs', d, ds', p1, q1, rfl, rfl, rfl, h0, hr⟩ := trodAll_cons h
   rw [List.all_cons, Bool.and_eq_true, Bool.and_eq_true, decide_eq_true_eq] at ht
   exact trodAll_cons_mk (Below.trod hl ht.1.1 ht.1.2 h0 hb (fun x hx => hlt x (List.mem_append_left _ hx))) (ih vs' ds' q1 ht.2 (fun x hx => hlt x (List.mem_append_right _ hx)) hr)
theorem own : ownKnob Tryz.prog.godebug = none := by kernel_rfl
theorem laidOut : laidOutB Tryz.prog = true := by kernel_rfl
theorem law_post {H : Type} {enc : TypeId × Value → H} {f : Func} {s : ChangeSpec} {W W' : World} {args : Array Value} {ds gs : List (DataW H)} {before : List MemPlace} (hl : laidOutB Tryz.prog = true)
 (hparams : (f.params.toList.all fun t => Tryz.prog.readableRec t && decide (t < Tryz.prog.types.size)) = true) (hres : f.resultTypes = #[4])
 (hvars : s.vars = []) (hfn : s.fn H (ds ++ gs) = { results := [.lit (.bool true)], args := ds })
 (hW : DataW.Whole enc Tryz.prog f.params.toList s.vars false W args.toList ds gs before) (hlt : ∀ x ∈ before, x.block < W.heap.size) (hb : Below W.heap.size W W') :
 s.post enc Tryz.prog f false true false false W args (.bool true) W' := by
 have hW0 := hW
 obtain ⟨p, q, hA, hV, rfl, _, _⟩ := hW
 refine ⟨ds, gs, p ++ q, [], p, [], hW0, ?_, ?_, ?_, hb.frame _, fun h => by cases h⟩
 · rw [hfn, hres]
   exact trodAll_cons_mk (shut_bool Tryz.underlying4 true) trodAll_mk0
 · rw [hfn]
   exact trodAll_below hl hb _ _ _ _ hparams (fun x hx => hlt x (List.mem_append_left _ hx)) hA
 · rw [hvars, hfn]; rfl
end Go.Proofs.YtkdamdmnchcceaaGreatDoor
namespace Go.Proofs.YtkdamdmnchcceaaGreatDoor
open Go.ChangeShapes Go.WideShapes Go.ChangeAt Go.RowKit
def textData {H : Type} (bs : List (List UInt8)) : DataW H := .agg (bs.map fun b => .lit (.string b))
theorem cells_of_texts {H : Type} {enc : TypeId × Value → H} {P : Program} {w : World} {base : Nat} {sp : Nat → Bool} {held : Bool} {fuel : Nat} {t e : TypeId} {n : Nat} {cs : List Value} {bs : List (List UInt8)} {p : List MemPlace}
 (ht : P.underlying t = some (.array n e)) (he : P.underlying e = some .string) (hce : P.cellsOf e = 1) (hct : P.cellsOf t = n)
 (h : DataW.trod enc P w base sp held fuel t cs = some (textData bs, p)) : cs = bs.map fun b => Value.string ⟨b.toArray⟩ := by
 cases fuel with
 | zero => simp [DataW.trod] at h
 | succ fuel =>
   simp only [DataW.trod, ht, hce, hct, Nat.mul_one] at h
   split at h
   · rename_i hl
     obtain ⟨xs, hm, hx⟩ := Option.map_eq_some_iff.1 h
     have hxs : xs.map (·.1) = bs.map fun b => (DataW.lit (.string b) : DataW H) := by
      have := congrArg Prod.fst hx
      simpa [textData] using this
     have hxl : xs.length = n := by simpa using Lib.mapM_length hm
     have hzl : bs.length = n := by
      have := congrArg List.length hxs
      simp at this
      omega
     apply List.ext_getElem?
     intro i
     by_cases hi : i < n
     · obtain ⟨b, hb, hf⟩ := Lib.mapM_at hm i i (by simp [hi])
       obtain ⟨z, hc, rfl, _⟩ := DataW.trod_string he hf
       have h1 : cs[i]? = some (.string z) := by
        have := congrArg (·[0]?) hc
        simpa [List.getElem?_take, List.getElem?_drop] using this
       have h2 : (xs.map (·.1))[i]? = some (DataW.lit (.string z.data.toList) : DataW H) := by simp [hb]
       rw [hxs] at h2
       simp only [List.getElem?_map, Option.map_eq_some_iff, DataW.lit.injEq, Lit.string.injEq] at h2
       obtain ⟨z', hz', e⟩ := h2
       simp only [h1, List.getElem?_map, hz', Option.map_some, e]
     · rw [List.getElem?_eq_none (by omega), List.getElem?_eq_none (by simp; omega)]
   · cases h
def laidList : List (String × DataW Unit) := [("math/bits.deBruijn32tab", Rows.laid_math_bits_deBruijn32tab), ("math/bits.deBruijn64tab", Rows.laid_math_bits_deBruijn64tab), ("internal/strconv.uint64pow10", Rows.laid_internal_strconv_uint64pow10), ("unicode/utf8.acceptRanges", Rows.laid_unicode_utf8_acceptRanges), ("strconv.ErrRange", Rows.laid_strconv_ErrRange), ("strconv.ErrSyntax", Rows.laid_strconv_ErrSyntax), ("chequer/lex.signs", Rows.laid_chequer_lex_signs), ("chequer/parse.operators", Rows.laid_chequer_parse_operators), ("chequer/show.signs", Rows.laid_chequer_show_signs), ("unicode/utf8.first", Rows.laid_unicode_utf8_first)]
theorem gErr : Tryz.prog.globalNamed "strconv.ErrRange" = some 8 := by kernel_rfl
theorem gErr_t : (Tryz.prog.globals[(8 : Nat)]?).map (·.type) = some 74 := by kernel_rfl
theorem gSig : Tryz.prog.globalNamed "chequer/lex.signs" = some 1 := by kernel_rfl
theorem gSig_t : (Tryz.prog.globals[(1 : Nat)]?).map (·.type) = some 122 := by kernel_rfl
theorem cellsErr : Tryz.prog.cellsOf 173 = 1 := by kernel_rfl
theorem cellsStr : Tryz.prog.cellsOf 9 = 1 := by kernel_rfl
theorem cellsSig : Tryz.prog.cellsOf 122 = 15 := by kernel_rfl
theorem star : "*" ++ "errors.errorString" = "*errors.errorString" := by decide
theorem rowErr (u : TypeId) (h : Tryz.prog.typeName? 3 u = some "*errors.errorString") : u = 171 :=
 typeName_ptr_named (nm := "errors.errorString") (by rw [star]; kernel_rfl) (by kernel_rfl) (by decide) u (by rw [star]; exact h)
def sigBytes : List (List UInt8) := [[60, 62], [60, 61], [62, 61], [43], [45], [42], [47], [38], [61], [60], [62], [40], [41], [44], [58]]
theorem sigData : (Rows.laid_chequer_lex_signs : DataW Unit) = textData sigBytes := rfl
theorem sigCells : (sigBytes.map fun b => Value.string ⟨b.toArray⟩) = sigA.toList := rfl
theorem laidMet_tail6 {P : Program} {x : String × DataW Unit} {l : List (String × DataW Unit)} {w : World} (h : laidMet P (x :: l) w) : laidMet P l w := by
 obtain ⟨ps, h1, h2, h3⟩ := h
 obtain ⟨n, d⟩ := x
 obtain ⟨g, t, cs, fuel, p, q, _, _, _, _, hq, rfl⟩ := h1
 exact ⟨q, hq, (List.nodup_append.1 h2).2.1, fun b off hm => h3 b off (List.mem_append_right _ hm)⟩
theorem gTab_t : (Tryz.prog.globals[3]?).map (·.type) = some 152 := by kernel_rfl
theorem cTab20 : Tryz.prog.cellsOf 152 = 20 := by kernel_rfl
theorem cTab1 : Tryz.prog.cellsOf 92 = 1 := by kernel_rfl
theorem tablesTab {W : World} (h : laidMetH Tryz.prog laidList W) : Tab W := by
 have h1 : laidMet Tryz.prog laidList W := h
 exact Lib.tabIs_of_head gTab gTab_t Tryz.underlying152 Tryz.underlying92 cTab1 cTab20 (laidMet_tail6 (laidMet_tail6 h1))
theorem gSho : Tryz.prog.globalNamed "chequer/show.signs" = some 0 := by kernel_rfl
theorem gSho_t : (Tryz.prog.globals[(0 : Nat)]?).map (·.type) = some 116 := by kernel_rfl
theorem cellsSho : Tryz.prog.cellsOf 116 = 20 := by kernel_rfl
def shoBytes : List (List UInt8) := [[], [], [], [], [], [], [], [], [], [61], [60, 62], [60], [60, 61], [62], [62, 61], [38], [43], [45], [42], [47]]
theorem shoData : (Rows.laid_chequer_show_signs : DataW Unit) = textData shoBytes := rfl
theorem shoCells : (shoBytes.map fun b => Value.string ⟨b.toArray⟩) = shA.toList := rfl
theorem tablesSho {W : World} (h : laidMetH Tryz.prog laidList W) : ShV W := by
 have h1 : laidMet Tryz.prog laidList W := h
 have h6 := laidMet_tail6 (laidMet_tail6 (laidMet_tail6 (laidMet_tail6 (laidMet_tail6 (laidMet_tail6 (laidMet_tail6 (laidMet_tail6 (h1))))))))
 obtain ⟨ps, ⟨g', t', cs, fuel, p, q, hg', ht', hvar, hd, _, _⟩, _⟩ := h6
 obtain rfl := Option.some.inj (gSho.symm.trans hg')
 obtain rfl := Option.some.inj (gSho_t.symm.trans ht')
 rw [shoData] at hd
 have hc := cells_of_texts Tryz.underlying116 Tryz.underlying9 cellsStr cellsSho hd
 rw [shoCells] at hc
 unfold World.var? at hvar
 rw [gSho] at hvar
 simp only [Option.bind_some] at hvar
 split at hvar
 · rename_i cs' ty fr hh
   injection hvar with hvar
   subst hvar
   have : cs' = shA := Array.toList_inj.1 hc
   exact ⟨ty, fr, by rw [← this]; exact hh⟩
 · cases hvar
theorem tables {W : World} (h : laidMetH Tryz.prog laidList W) : Vars W := by
 have h1 : laidMet Tryz.prog laidList W := h
 have h4 := laidMet_tail6 (laidMet_tail6 (laidMet_tail6 (laidMet_tail6 (h1))))
 constructor
 · obtain ⟨a0, s0, hv0, -, -, -⟩ := laid_sentinel h4 gErr gErr_t Tryz.underlying74 rowErr Tryz.underlying171 Tryz.underlying173 rfl rfl Tryz.underlying9 cellsErr cellsStr
   exact ⟨_, by have h0 := World.var?_cell gErr hv0 0; simpa using h0, Or.inr ⟨_, _, rfl⟩⟩
 · have h6 := laidMet_tail6 (laidMet_tail6 h4)
   obtain ⟨ps, ⟨g', t', cs, fuel, p, q, hg', ht', hvar, hd, _, _⟩, _⟩ := h6
   obtain rfl := Option.some.inj (gSig.symm.trans hg')
   obtain rfl := Option.some.inj (gSig_t.symm.trans ht')
   rw [sigData] at hd
   have hc := cells_of_texts Tryz.underlying122 Tryz.underlying9 cellsStr cellsSig hd
   rw [sigCells] at hc
   unfold World.var? at hvar
   rw [gSig] at hvar
   simp only [Option.bind_some] at hvar
   split at hvar
   · rename_i cs' ty fr hh
     injection hvar with hvar
     subst hvar
     have : cs' = sigA := Array.toList_inj.1 hc
     exact ⟨ty, fr, by rw [← this]; exact hh⟩
   · cases hvar
def opC (q : ByteArray × Nat × Int) : List Value := [.string q.1, .int .i64 (q.2.1 : Int), .int .i64 q.2.2]
theorem cells3 : ∀ (L : List (ByteArray × Nat × Int)) (cs : List Value), cs.length = L.length * 3 → (∀ (i : Nat) q, L[i]? = some q → (cs.drop (i * 3)).take 3 = opC q) → cs = L.flatMap opC
 | [], cs, h, _ => by simpa using h
 | q :: L, cs, h, hi => by
   have h0 := hi 0 q rfl
   rw [Nat.zero_mul, List.drop_zero] at h0
   have h1 := cells3 L (cs.drop 3) (by rw [List.length_drop, h, List.length_cons]; omega) (fun i q' hq => by
    have := hi (i + 1) q' (by simpa using hq)
    rw [Nat.succ_mul] at this
    rw [List.drop_drop, Nat.add_comm 3]; exact this)
   rw [List.flatMap_cons, ← h0, ← h1, List.take_append_drop]
def opData {H : Type} (q : ByteArray × Nat × Int) : DataW H := .agg [.lit (.string q.1.data.toList), .lit (.int .i64 (q.2.1 : Int)), .lit (.int .i64 q.2.2)]
theorem opsData : (Rows.laid_chequer_parse_operators : DataW Unit) = .agg (opL3.map opData) := rfl
theorem gOps : Tryz.prog.globalNamed "chequer/parse.operators" = some 2 := by kernel_rfl
theorem gOps_t : (Tryz.prog.globals[(2 : Nat)]?).map (·.type) = some 125 := by kernel_rfl
theorem cellsOps : Tryz.prog.cellsOf 125 = 33 := by kernel_rfl
theorem cellsOp : Tryz.prog.cellsOf 124 = 3 := by kernel_rfl
set_option maxRecDepth 100000 in
theorem op_of_trod {enc : TypeId × Value → Unit} {w : World} {base : Nat} {sp : Nat → Bool} {held : Bool} {fuel : Nat} {cs : List Value} {q : ByteArray × Nat × Int} {p : List MemPlace}
 (h : DataW.trod enc Tryz.prog w base sp held fuel 124 cs = some (opData q, p)) : cs = opC q := by
 obtain ⟨y0, y1, y2, n, hx, hl, h0, h1, h2⟩ := Go.Deep.trod_struct3 Tryz.underlying124 h
 injection hx with hx _
 unfold opData at hx
 injection hx with hx
 injection hx with e0 hx; injection hx with e1 hx; injection hx with e2 _
 rw [cellsOp] at hl
 match cs, hl with
 | [c0, c1, c2], _ =>
   obtain ⟨s, g0, g0', _⟩ := DataW.trod_string Tryz.underlying9 h0
   obtain ⟨n1, g1, g1', _⟩ := DataW.trod_int Tryz.underlying3 h1
   obtain ⟨n2, g2, g2', _⟩ := DataW.trod_int Tryz.underlying3 h2
   have k0 : [c0] = [Value.string s] := g0
   have k1 : [c1] = [Value.int .i64 n1] := g1
   have k2 : [c2] = [Value.int .i64 n2] := g2
   injection k0 with k0 _; injection k1 with k1 _; injection k2 with k2 _
   rw [g0'] at e0; rw [g1'] at e1; rw [g2'] at e2
   injection e0 with e0; injection e0 with e0
   injection e1 with e1; injection e1 with _ e1
   injection e2 with e2; injection e2 with _ e2
   have es : s = q.1 := by
    cases s; cases hq : q.1
    rw [hq] at e0
    simp only at e0
    rw [Array.toList_inj.1 e0.symm]
   rw [k0, k1, k2, es, ← e1, ← e2]; rfl
set_option maxRecDepth 100000 in
theorem cells_of_ops {enc : TypeId × Value → Unit} {w : World} {base : Nat} {sp : Nat → Bool} {held : Bool} {fuel : Nat} {cs : List Value} {p : List MemPlace}
 (h : DataW.trod enc Tryz.prog w base sp held fuel 125 cs = some (.agg (opL3.map opData), p)) : cs = opL3.flatMap opC := by
 obtain ⟨xs, m, _, hx, hl, hxl, hi⟩ := DataW.trod_array Tryz.underlying125 h
 injection hx with hx _
 injection hx with hx
 rw [cellsOps] at hl
 refine cells3 opL3 cs (by rw [hl]; rfl) fun i q hq => ?_
 have hlt := (List.getElem?_eq_some_iff.1 hq).1
 have hlt : i < 11 := hlt
 have h1 := hi i hlt
 rw [cellsOp] at h1
 obtain ⟨y, hy⟩ : ∃ y, xs[i]? = some y := ⟨_, List.getElem?_eq_getElem (by omega)⟩
 rw [hy] at h1
 have h2 : (xs.map (·.1))[i]? = some y.1 := by rw [List.getElem?_map, hy]; rfl
 rw [← hx, List.getElem?_map, hq] at h2
 have h2 : opData q = y.1 := Option.some.inj h2
 obtain ⟨y1, y2⟩ := y
 have h2 : opData q = y1 := h2
 subst h2
 exact op_of_trod h1
theorem opA_list : opA.toList = opL3.flatMap opC := rfl
theorem tablesOp {W : World} (h : laidMetH Tryz.prog laidList W) : OpV W := by
 have h1 : laidMet Tryz.prog laidList W := h
 have h4 := laidMet_tail6 (laidMet_tail6 (laidMet_tail6 (laidMet_tail6 (laidMet_tail6 (laidMet_tail6 (laidMet_tail6 (h1)))))))
 obtain ⟨ps, ⟨g', t', cs, fuel, p, q, hg', ht', hvar, hd, _, _⟩, _⟩ := h4
 obtain rfl := Option.some.inj (gOps.symm.trans hg')
 obtain rfl := Option.some.inj (gOps_t.symm.trans ht')
 rw [opsData] at hd
 have hc := cells_of_ops hd
 rw [← opA_list] at hc
 unfold World.var? at hvar
 rw [gOps] at hvar
 simp only [Option.bind_some] at hvar
 split at hvar
 · rename_i cs' ty fr hh
   injection hvar with hvar
   subst hvar
   have : cs' = opA := Array.toList_inj.1 hc
   exact ⟨ty, fr, by rw [← this]; exact hh⟩
 · cases hvar
theorem maxOf {W : World} (h : W.ShapedOpen Tryz.prog) : MaxV W :=
 cell_of_shapedOpen_int (g := 4) (t := 3) (zero := #[.int .i64 0]) h (of_decide_eq_true (by kernel_rfl)) (by kernel_rfl) rfl (by kernel_rfl) (by kernel_rfl) Tryz.underlying3
theorem tablesSx {W : World} (h : laidMetH Tryz.prog laidList W) (hs : W.ShapedOpen Tryz.prog) : Sx W := ⟨tables h, tablesOp h, tablesTab h, maxOf hs, tablesSho h⟩
noncomputable def laidWorld (os : Os) : World := World.laidAll Tryz.prog os laidList
theorem laid_met0 (os : Os) (args : Array Value) : laidMet Tryz.prog laidList ((laidWorld os).forCall (fun _ _ => 0) ⟨#[], args, []⟩).memory := laidMet_laidAll args (by kernel_rfl) (by kernel_rfl)
end Go.Proofs.YtkdamdmnchcceaaGreatDoor
namespace Go.Proofs.YtkdamdmnchcceaaGreatDoor.lawSTexts
open Go.ChangeShapes Go.WideShapes Go.ChangeAt Go.RowKit
open Go.WideMaps Go.WideElems
open Go.ChangeMaps (open_string shut_string)
set_option maxRecDepth 100000 in
theorem contract (H : Type) (enc : TypeId × Value → H) (W : World) (base : Nat) (args : Array Value) (ds gs : List (DataW H)) (before : List MemPlace)
 (hval : ∀ (j : Nat) t v, Tryz.f4.params[j]? = some t → args[j]? = some v → Value.okWide Tryz.prog W .any base t v)
 (hW : DataW.Whole enc Tryz.prog Tryz.f4.params.toList Rows.showTextsSpec.vars false W args.toList ds gs before) (hL : laidMetH Tryz.prog Rows.showTextsRow.laid W) (hsh : W.ShapedOpen Tryz.prog) :
 Calls Tryz.prog 4 args W fun e W' => ∃ v, e = .returned v ∧ Rows.showTextsSpec.post enc Tryz.prog Tryz.f4 false true false false W args v W' := by
 have hW' := hW
 have hlt := hW.lt
 obtain ⟨p, q, hA, hV, rfl, hfz, hnd⟩ := hW
 rw [Tryz.params4] at hA hval
 obtain ⟨v0, vs0, d0, ds0, p0, q0, hargs, rfl, rfl, h0, r0⟩ := trodAll_cons hA
 obtain ⟨rfl, rfl, rfl⟩ := trodAll_nil r0
 obtain rfl : args = #[v0] := by cases args; simp_all
 obtain ⟨rfl, rfl⟩ := trodVars_none hV
 obtain ⟨s0, rfl, rfl, rfl, hs0⟩ := open_string Tryz.underlying9 (hval 0 9 v0 rfl rfl) h0
 have hL2 : laidMetH Tryz.prog laidList W := by rw [show laidList = Rows.showTextsRow.laid from rfl]; exact hL
 refine (showTexts_any s0 W (tablesSx hL2 hsh)).mono fun e W' ⟨he, hb⟩ => ?_
 subst he
 exact ⟨_, rfl, law_post laidOut (by kernel_rfl) (by kernel_rfl) rfl rfl hW' hlt hb⟩
set_option maxRecDepth 100000 in
theorem laid_met (os : Os) : laidMet Tryz.prog Rows.showTextsRow.laid ((laidWorld os).forCall (fun _ _ => 0) ⟨#[], #[.string ⟨#[]⟩], []⟩).memory :=
 laid_met0 os _
theorem reads (os : Os) {H : Type} (enc : TypeId × Value → H) : ∃ places, DataW.whole enc Tryz.prog ((laidWorld os).forCall (fun _ _ => 0) ⟨#[], #[.string ⟨#[]⟩], []⟩).memory Tryz.f4.params.toList Rows.showTextsSpec.vars false (#[.string ⟨#[]⟩] : Array Value).toList 8 = some ([.lit (.string [])], [], places) :=
 ⟨[], by kernel_rfl⟩
set_option maxRecDepth 100000 in
theorem lifted (os : Os) (started : os.Started) (H : Type) (enc : TypeId × Value → H) (F : Stop.Interp) :
 ReturnsInHanded {} Tryz.checked os 4 .any ((OpenSpec.ofChange Rows.showTextsSpec).preRow enc Tryz.prog Tryz.f4 Rows.showTextsRow.domain false Rows.showTextsRow.laid) (((OpenSpec.ofChange Rows.showTextsSpec).at F).post enc Tryz.prog Tryz.f4 false true false false) := by
 obtain ⟨places, hx⟩ := reads os enc
 refine returnsInHanded_of_row (C := Tryz.checked) (s := OpenSpec.ofChange Rows.showTextsSpec) own started (by kernel_rfl) Tryz.func4
  (witness_row_at (enc := enc) (C := Tryz.checked) false (laidWorld os) #[.string ⟨#[]⟩] (World.laidAll_os _ _ _) (by kernel_rfl) (by kernel_rfl) (by kernel_rfl)
    (OpenSpec.preRow_of_cond 8 hx (by kernel_rfl) (fun k hk => by cases hk) (by kernel_rfl) (laid_met os))) ?_
 intro W base args ds gs before hval hW _ _ _ hL hsh _
 exact contract H enc W base args ds gs before hval hW hL hsh
theorem said : Rows.ShowTextsSaid :=
 OpenClaim.holds_of_cond 4 Tryz.f4 rfl rfl rfl rfl rfl rfl rfl ⟨rfl, rfl, rfl, rfl, rfl⟩ rfl rfl rfl rfl rfl (by kernel_rfl) Tryz.func4 (by kernel_rfl)
  (of_decide_eq_true (by kernel_rfl)) (by unfold Func.isWrapper; first | (rw [if_pos (by decide +kernel)]; kernel_rfl) | (rw [if_neg (by decide +kernel)]; exact ⟨rfl, rfl⟩))
  (fun os started H enc _ F => by rw [OpenClaim.pre_eq_preRow]; exact lifted os started H enc F)
theorem plain (f : FuncId) (fn : Func) (hf : Tryz.pinned.checked.prog.funcNamed "chequer/chequerlaw6.ShowTexts" = some f) (hfn : Tryz.pinned.checked.prog.funcs[f]? = some fn) :
 true = Tryz.pinned.checked.prog.looks [] ∧ ∀ (j : Nat) t, fn.params[j]? = some t → Tryz.pinned.checked.prog.wantsStandIn t = false := by
 obtain rfl : f = 4 := Option.some.inj ((show Tryz.prog.funcNamed "chequer/chequerlaw6.ShowTexts" = some 4 by kernel_rfl).symm.trans hf) |>.symm
 obtain rfl : fn = Tryz.f4 := (Option.some.inj (Tryz.func4.symm.trans hfn)).symm
 refine ⟨by kernel_rfl, fun j t ht => ?_⟩
 rw [Tryz.params4] at ht
 have hall : (#[9].all fun t => !Tryz.prog.wantsStandIn t) = true := by kernel_rfl
 have := (Array.all_eq_true_iff_forall_mem.1 hall) t (Array.mem_of_getElem? ht)
 exact (show Tryz.prog.wantsStandIn t = false from by simpa using this)
theorem card : Rows.ShowTextsCardSaid :=
 Claim7.holds_tied_plain_at .later [] _ _ _ _ said (fun _ h => by cases h) (by kernel_rfl) (fun _ h => by cases h) showTexts_row_tie rfl ⟨rfl, rfl⟩ (by kernel_rfl) rfl plain (by kernel_rfl)
end Go.Proofs.YtkdamdmnchcceaaGreatDoor.lawSTexts
