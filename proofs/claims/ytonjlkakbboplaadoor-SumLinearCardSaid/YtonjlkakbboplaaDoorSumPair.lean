/-
  Two numbers as one argument (layer 9).
-/
import Derived.Test.YtonjlkakbboplaaDoorSLaid
import Derived.WideKeyArr2
namespace Go.Proofs.YtonjlkakbboplaaDoor
open Go Go.RowKit Go.ChangeShapes Go.WideShapes Go.ChangeAt Go.WideMaps
set_option maxRecDepth 100000

theorem pairKey : ArrKey Tryd.prog 36 3 2 := ⟨Tryd.underlying36, by kernel_rfl, by kernel_rfl, by kernel_rfl⟩
section
variable {H : Type} {enc : TypeId × Value → H} {w : World} {base : Nat} {spare : Nat → Bool} {held : Bool}
theorem open_pair {r : Reach} {b0 : Nat} {v : Value} {d : DataW H} {p : List MemPlace} (hv : Value.okWide Tryd.prog w r b0 36 v) (h : DataW.Trod enc Tryd.prog w base spare held 36 v d p) :
    ∃ x y : Int, v = .agg #[.int .i64 x, .int .i64 y] ∧ p = [] := by
  obtain ⟨xs, rfl, hn⟩ := okWide_arr pairKey hv
  obtain ⟨a, b, rfl⟩ : ∃ a b, xs = #[a, b] := by
    obtain ⟨l⟩ := xs
    match l, hn with
    | [a, b], _ => exact ⟨a, b, rfl⟩
  obtain ⟨fuel, hf⟩ := h
  cases fuel with
  | zero => simp [DataW.trod] at hf
  | succ m =>
    rw [DataW.trod_step] at hf
    unfold DataW.trodStep at hf
    simp only [pairKey.hu, Value.cells] at hf
    rw [if_pos (by rw [pairKey.size]; rfl)] at hf
    simp only [Option.map_eq_some_iff] at hf
    obtain ⟨ys, hy, e1⟩ := hf
    obtain ⟨ls, rfl, hl⟩ := mapM_both (D := 0) Tryd.underlying3 _ ys hy
    simp only [Prod.mk.injEq] at e1
    rw [pairKey.one] at hy
    simp only [List.range_succ, List.range_zero, List.nil_append, List.mapM_cons, List.mapM_nil, List.cons_append, bind, Option.bind_eq_some_iff, pure, Option.some.injEq] at hy
    obtain ⟨y1, h1, _, ⟨y2, h2, _⟩, _⟩ := hy
    obtain ⟨x, ex, _, wx⟩ := DataW.trod_int Tryd.underlying3 h1
    obtain ⟨y, ey, _, wy⟩ := DataW.trod_int Tryd.underlying3 h2
    simp only [Nat.zero_mul, List.drop_zero, List.take_succ_cons, List.take_zero, List.cons.injEq, and_true] at ex
    simp only [Nat.one_mul, List.drop_succ_cons, List.drop_zero, List.take_succ_cons, List.take_zero, List.cons.injEq, and_true] at ey
    subst ex; subst ey
    exact ⟨x, y, rfl, by rw [← e1.2]; simp [List.flatMap_eq_nil_iff]⟩
end
end Go.Proofs.YtonjlkakbboplaaDoor
