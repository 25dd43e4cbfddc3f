/-
  Comparing arrays of numbers, and points, by value.
-/
import Derived.Test.YtnbhiamnoapmlaaMsgP
import Derived.Laws.StructEq
import Derived.ChangeKeysEq
namespace Go.Proofs.Ytnbhiamnoapmlaa
open Go.RowKit
set_option maxRecDepth 100000

theorem run_item (d : Nat) (xs ys : Array Value) (x y : Int) (i : Nat) (is : List Nat) (W : World) (hx : xs[i]? = some (.int .i64 x)) (hy : ys[i]? = some (.int .i64 y)) :
    (Op.eqItems (d + 1) 3 (Try.prog.cellsOf 3) xs ys (i :: is)).run Try.prog W = if x = y then (Op.eqItems (d + 1) 3 (Try.prog.cellsOf 3) xs ys is).run Try.prog W else .ok false W := by
  have hc : Try.prog.cellsOf 3 = 1 := by kernel_rfl
  rw [Op.eqItems, hc]
  have h1 : (part 3 xs (i * 1)).run Try.prog W = .ok (.int .i64 x) W := by simp [part, go_sem, hx, Try.sizeOf3]
  have h2 : (part 3 ys (i * 1)).run Try.prog W = .ok (.int .i64 y) W := by simp [part, go_sem, hy, Try.sizeOf3]
  simp only [Sem.run_bind, h1, h2, Result.andThen_ok, run_equalIn_int W d 3 .i64 .i64 x y Try.underlying3]
  by_cases h : x = y
  · subst h; simp
  · simp [h]
theorem run_items (d : Nat) (W : World) : ∀ (is : List Nat) (xs ys : Array Value) (us vs : List Int), (∀ i ∈ is, xs[i]? = (us[i]?).map (Value.int .i64) ∧ i < us.length) → (∀ i ∈ is, ys[i]? = (vs[i]?).map (Value.int .i64) ∧ i < vs.length) →
    (Op.eqItems (d + 1) 3 (Try.prog.cellsOf 3) xs ys is).run Try.prog W = .ok (decide (∀ i ∈ is, us[i]? = vs[i]?)) W
  | [], xs, ys, us, vs, _, _ => by simp [Op.eqItems]
  | i :: is, xs, ys, us, vs, hx, hy => by
    have h1 := hx i (List.mem_cons_self ..)
    have h2 := hy i (List.mem_cons_self ..)
    have e1 : us[i]? = some us[i] := List.getElem?_eq_getElem h1.2
    have e2 : vs[i]? = some vs[i] := List.getElem?_eq_getElem h2.2
    rw [run_item d xs ys us[i] vs[i] i is W (by rw [h1.1, e1]; rfl) (by rw [h2.1, e2]; rfl), run_items d W is xs ys us vs (fun j hj => hx j (List.mem_cons_of_mem _ hj)) (fun j hj => hy j (List.mem_cons_of_mem _ hj))]
    by_cases h : us[i] = vs[i]
    · rw [if_pos h]
      congr 1
      have : us[i]? = vs[i]? := by rw [e1, e2, h]
      simp [this]
    · rw [if_neg h]
      congr 1
      have : us[i]? ≠ vs[i]? := by rw [e1, e2]; exact fun e => h (Option.some.inj e)
      simp [this]
theorem run_arr (t : TypeId) (n : Nat) (hu : Try.prog.underlying t = some (.array n 3)) (us vs : List Int) (h1 : us.length = n) (h2 : vs.length = n) (W : World) :
    (Op.equalIn 10000 t (.agg (us.map (Value.int .i64)).toArray) (.agg (vs.map (Value.int .i64)).toArray)).run Try.prog W = .ok (decide (us = vs)) W := by
  obtain ⟨i, hi⟩ : ∃ i, Try.prog.info? 3 = some i := Option.isSome_iff_exists.1 (by kernel_rfl)
  rw [show (10000 : Nat) = 9999 + 1 from rfl, run_equalIn_array W 9999 _ _ hu hi, show (9999 : Nat) = 9998 + 1 from rfl, run_items 9998 W (List.range n) _ _ us vs (fun j hj => ⟨by simp, by rw [List.mem_range] at hj; omega⟩) (fun j hj => ⟨by simp, by rw [List.mem_range] at hj; omega⟩)]
  congr 1
  refine decide_eq_decide.2 ⟨fun h => List.ext_getElem? fun j => ?_, fun h => by subst h; simp⟩
  rcases Nat.lt_or_ge j n with hj | hj
  · exact h j (List.mem_range.2 hj)
  · rw [List.getElem?_eq_none (by omega), List.getElem?_eq_none (by omega)]
/-- arrays of six -/
theorem eql_six (a0 a1 a2 a3 a4 a5 b0 b1 b2 b3 b4 b5 : Int) (W : World) : (binOp .eql 22 (.agg #[.int .i64 a0, .int .i64 a1, .int .i64 a2, .int .i64 a3, .int .i64 a4, .int .i64 a5]) (.agg #[.int .i64 b0, .int .i64 b1, .int .i64 b2, .int .i64 b3, .int .i64 b4, .int .i64 b5])).run Try.prog W =
    .ok (.bool (decide ([a0, a1, a2, a3, a4, a5] = [b0, b1, b2, b3, b4, b5]))) W := by
  have := run_arr 22 6 Try.underlying22 [a0, a1, a2, a3, a4, a5] [b0, b1, b2, b3, b4, b5] rfl rfl W
  rw [run_eql_struct]
  simp only [List.map_cons, List.map_nil] at this
  rw [this]
  rfl
theorem neq_six (a0 a1 a2 a3 a4 a5 b0 b1 b2 b3 b4 b5 : Int) (W : World) : (binOp .neq 22 (.agg #[.int .i64 a0, .int .i64 a1, .int .i64 a2, .int .i64 a3, .int .i64 a4, .int .i64 a5]) (.agg #[.int .i64 b0, .int .i64 b1, .int .i64 b2, .int .i64 b3, .int .i64 b4, .int .i64 b5])).run Try.prog W =
    .ok (.bool (!decide ([a0, a1, a2, a3, a4, a5] = [b0, b1, b2, b3, b4, b5]))) W := by
  have := run_arr 22 6 Try.underlying22 [a0, a1, a2, a3, a4, a5] [b0, b1, b2, b3, b4, b5] rfl rfl W
  rw [run_neq_struct]
  simp only [List.map_cons, List.map_nil] at this
  rw [this]
  rfl
/-- arrays of two -/
theorem neq_two (a0 a1 b0 b1 : Int) (W : World) : (binOp .neq 75 (.agg #[.int .i64 a0, .int .i64 a1]) (.agg #[.int .i64 b0, .int .i64 b1])).run Try.prog W = .ok (.bool (!decide ([a0, a1] = [b0, b1]))) W := by
  have := run_arr 75 2 Try.underlying75 [a0, a1] [b0, b1] rfl rfl W
  rw [run_neq_struct]
  simp only [List.map_cons, List.map_nil] at this
  rw [this]
  rfl
/-- points -/
theorem neq_pt (a0 a1 b0 b1 : Int) (W : World) : (binOp .neq 57 (.agg #[.int .i64 a0, .int .i64 a1]) (.agg #[.int .i64 b0, .int .i64 b1])).run Try.prog W = .ok (.bool (!decide ([a0, a1] = [b0, b1]))) W := by
  rw [run_neq_struct, show (10000 : Nat) = 9999 + 1 from rfl, run_equalIn_agg W 9999 57 _ _ (by kernel_rfl) (by kernel_rfl)]
  by_cases h1 : a0 = b0
  · by_cases h2 : a1 = b1
    · simp [Program.fieldsOf, Try.underlying57, Op.eqFields, part, go_sem, Try.sizeOf3, h1, h2]
    · simp [Program.fieldsOf, Try.underlying57, Op.eqFields, part, go_sem, Try.sizeOf3, h1, h2]
  · simp [Program.fieldsOf, Try.underlying57, Op.eqFields, part, go_sem, Try.sizeOf3, h1]
end Go.Proofs.Ytnbhiamnoapmlaa
