/-
  Values compared.
-/
import Derived.Test.YtolhmemiknpeaaaGreatDoorVaAG
import Derived.IntWalk
import Derived.SliceStrings
import Derived.Deep.DeepCutAuto
namespace Go.Proofs.YtolhmemiknpeaaaGreatDoor
open Go.RowKit
theorem list3 {α : Type} (l : List α) (h : l.length = 3) : ∃ a b c, l = [a, b, c] := match l, h with | [a, b, c], _ => ⟨a, b, c, rfl⟩
theorem st_val : Tryz.prog.underlying 28 = some (.struct (Tryz.prog.fieldsOf 28)) := by kernel_rfl
theorem st_held : Tryz.prog.stoodInHeld 28 = false := by kernel_rfl
theorem st_fields : (Tryz.prog.fieldsOf 28).toList.map (fun f => (f.name == "_", f.type, f.offset)) = [(false, 3, 0), (false, 3, 1), (false, 9, 2)] := by kernel_rfl
theorem part_int (xs : Array Value) (o : Nat) (v : Value) (hv : xs[o]? = some v) (w : World) : (part 3 xs o).run Tryz.prog w = .ok v w := by
  simp [part, isAgg, hv, run_underlying Tryz.underlying3]
theorem part_str (xs : Array Value) (o : Nat) (v : Value) (hv : xs[o]? = some v) (w : World) : (part 9 xs o).run Tryz.prog w = .ok v w := by
  simp [part, isAgg, hv, run_underlying Tryz.underlying9]
theorem eqf_val (d : Nat) (f0 f1 f2 : Field) (h0 : (f0.name == "_") = false) (h1 : f0.type = 3) (h2 : f0.offset = 0) (h3 : (f1.name == "_") = false) (h4 : f1.type = 3) (h5 : f1.offset = 1) (h6 : (f2.name == "_") = false) (h7 : f2.type = 9) (h8 : f2.offset = 2) (a b : Vl) (w : World) :
    (Op.eqFields (d + 1) #[.int .i64 a.k, .int .i64 a.n, .string a.s] #[.int .i64 b.k, .int .i64 b.n, .string b.s] [f0, f1, f2]).run Tryz.prog w = .ok (a.k == b.k && a.n == b.n && a.s.toList == b.s.toList) w := by
  have n0 : f0.name ≠ "_" := by simpa using h0
  have n1 : f1.name ≠ "_" := by simpa using h3
  have n2 : f2.name ≠ "_" := by simpa using h6
  have p0 := fun w => part_int #[.int .i64 a.k, .int .i64 a.n, .string a.s] 0 _ rfl w
  have p1 := fun w => part_int #[.int .i64 a.k, .int .i64 a.n, .string a.s] 1 _ rfl w
  have p2 := fun w => part_str #[.int .i64 a.k, .int .i64 a.n, .string a.s] 2 _ rfl w
  have q0 := fun w => part_int #[.int .i64 b.k, .int .i64 b.n, .string b.s] 0 _ rfl w
  have q1 := fun w => part_int #[.int .i64 b.k, .int .i64 b.n, .string b.s] 1 _ rfl w
  have q2 := fun w => part_str #[.int .i64 b.k, .int .i64 b.n, .string b.s] 2 _ rfl w
  have e0 := fun w => run_equalIn_int w d 3 .i64 .i64 a.k b.k Tryz.underlying3
  have e1 := fun w => run_equalIn_int w d 3 .i64 .i64 a.n b.n Tryz.underlying3
  have e2 := fun w => run_equalIn_string w d 9 a.s b.s Tryz.underlying9
  simp [Op.eqFields, n0, n1, n2, h1, h2, h4, h5, h7, h8, p0, p1, p2, q0, q1, q2, e0, e1, e2]
  by_cases k1 : a.k = b.k
  · by_cases k2 : a.n = b.n
    · by_cases k3 : a.s.toList = b.s.toList <;> simp [k1, k2, k3]
    · simp [k1, k2]
  · simp [k1]
set_option maxRecDepth 100000 in
theorem eq_val (a b : Vl) (w : World) : (binOp .eql 28 (.agg #[.int .i64 a.k, .int .i64 a.n, .string a.s]) (.agg #[.int .i64 b.k, .int .i64 b.n, .string b.s])).run Tryz.prog w = .ok (.bool (a.k == b.k && a.n == b.n && a.s.toList == b.s.toList)) w := by
  rw [run_eql_struct, run_equalIn_agg w 9999 _ _ _ st_val st_held]
  have h := st_fields
  generalize (Tryz.prog.fieldsOf 28).toList = fs at h
  have hl := congrArg List.length h
  rw [List.length_map] at hl
  obtain ⟨f0, f1, f2, rfl⟩ := list3 _ hl
  clear hl
  simp only [List.map_cons, List.map_nil, List.cons.injEq, Prod.mk.injEq, and_true] at h
  obtain ⟨⟨h0, h1, h2⟩, ⟨h3, h4, h5⟩, h6, h7, h8⟩ := h
  rw [show (9999 : Nat) = 9998 + 1 from rfl, eqf_val 9998 f0 f1 f2 h0 h1 h2 h3 h4 h5 h6 h7 h8 a b w]
  rfl
theorem eq_val_self (a : Vl) (w : World) : (binOp .eql 28 (.agg #[.int .i64 a.k, .int .i64 a.n, .string a.s]) (.agg #[.int .i64 a.k, .int .i64 a.n, .string a.s])).run Tryz.prog w = .ok (.bool true) w := by
  rw [eq_val a a w]; simp
/-- A value's number. -/
theorem run_val_n (k N : Int) (t : ByteArray) (w : World) : Sem.run Tryz.prog (Instr.field 28 (.agg #[.int .i64 k, .int .i64 N, .string t]) 1) w = .ok (.int .i64 N) w := by
  simp [Instr.field, run_underlying Tryz.underlying28, part, isAgg, run_underlying Tryz.underlying3, asAgg, go_sem]
/-- A value that is compared, behind a letter. -/
def Cmp (X : Value) (a : Vl) : Prop := X = .agg #[.int .i64 a.k, .int .i64 a.n, .string a.s]
theorem Cmp.mk (a : Vl) : ∃ X, Cmp X a := ⟨_, rfl⟩
theorem Cmp.eql {X : Value} {a : Vl} (h : Cmp X a) (b : Vl) (w : World) : (binOp .eql 28 X (.agg #[.int .i64 b.k, .int .i64 b.n, .string b.s])).run Tryz.prog w = .ok (.bool (a.k == b.k && a.n == b.n && a.s.toList == b.s.toList)) w := by
  rw [h]; exact eq_val a b w
theorem Cmp.self {X : Value} {a : Vl} (h : Cmp X a) (w : World) : (binOp .eql 28 X (.agg #[.int .i64 a.k, .int .i64 a.n, .string a.s])).run Tryz.prog w = .ok (.bool true) w := by
  rw [h]; exact eq_val_self a w
theorem st_guard : Tryz.prog.eqGuardType Tryz.prog.depth 28 = false := by kernel_rfl
theorem Cmp.guard {X : Value} {a : Vl} (h : Cmp X a) (x y : Operand) (ys : Array Value) (w : World) : (eqGuard .eql 28 x y X (.agg ys)).run Tryz.prog w = .ok () w := by
  rw [h]; exact run_eqGuard_agg w .eql _ x y _ ys st_guard
theorem Cmp.calls {f : FuncId} {args : Array Value} {w : World} {X : Value} {a : Vl} (h : Cmp X a) (hc : Calls Tryz.prog f args w fun e w' => e = .returned (.agg #[.int .i64 a.k, .int .i64 a.n, .string a.s]) ∧ Below w.heap.size w w') : Calls Tryz.prog f args w fun e w' => e = .returned X ∧ Below w.heap.size w w' :=
  hc.mono fun e w' ⟨h1, h2⟩ => ⟨h1.trans (by rw [h]), h2⟩
end Go.Proofs.YtolhmemiknpeaaaGreatDoor
