/-
  Layer 7 and what it stands on, part 8 (BufArg).
-/
import Derived.Test.YtlmbafnoopfilaaGreatDoorPg7
import Derived.Lib.SmallJoins
import Derived.SizedLaws
import Derived.Deep.Slices
namespace Go.Proofs.YtlmbafnoopfilaaGreatDoor
section
open Go Go.RowKit Go.ChangeShapes Go.WideShapes Go.ChangeAt Go.ChangeMaps Go.Joins Go.Deep
set_option maxRecDepth 100000
theorem oneBuf : ∃ f0 f1, Tryz.prog.underlying 24 = some (.struct #[f0, f1]) ∧ oneCellFields Tryz.prog #[f0, f1] = true ∧ f0.type = 9 ∧ f1.type = 3 := ⟨_, _, Tryz.underlying24, by kernel_rfl, rfl, rfl⟩
theorem cellsBuf : Tryz.prog.cellsOf 24 = 2 := by kernel_rfl
section
variable {H : Type} {enc : TypeId × Value → H} {w : World} {base : Nat} {spare : Nat → Bool} {held : Bool}
theorem open_buf {r : Reach} {b0 : Nat} {v : Value} {d : DataW H} {p : List MemPlace} (hv : Value.okWide Tryz.prog w r b0 24 v) (h : DataW.Trod enc Tryz.prog w base spare held 24 v d p) :
    ∃ (s : ByteArray) (n : Int), v = .agg #[.string s, .int .i64 n] ∧ d = .agg [.lit (.string s.data.toList), .lit (.int .i64 n)] ∧ p = [] ∧ (Lit.int .i64 n).wf = true ∧ s.size ≤ maxLen := by
  obtain ⟨f0, f1, hu, hone, e0, e1⟩ := oneBuf
  obtain ⟨v0, v1, y0, y1, n, rfl, rfl, rfl, h0, h1⟩ := open_agg2 hu hone cellsBuf hv h
  rw [e0] at h0
  rw [e1] at h1
  obtain ⟨z, hz, hx, hw⟩ := DataW.trod_int Tryz.underlying3 h1
  obtain ⟨s, hs, hy, hl⟩ := DataW.trod_string Tryz.underlying9 h0
  simp only [List.cons.injEq, and_true] at hz hs
  subst hz; subst hs; subst hx; subst hy
  exact ⟨s, z, rfl, rfl, rfl, hw, hl⟩
theorem shut_buf {s : ByteArray} {n : Int} (hs : s.size ≤ maxLen) (hw : (Lit.int .i64 n).wf = true) : DataW.Trod enc Tryz.prog w base spare held 24 (.agg #[.string s, .int .i64 n]) (.agg [.lit (.string s.data.toList), .lit (.int .i64 n)]) [] := by
  obtain ⟨f0, f1, hu, hone, e0, e1⟩ := oneBuf
  have t0 := Go.Deep.shut_string_cell (enc := enc) (w := w) (base := base) (spare := spare) (held := held) Tryz.underlying9 hs
  have t1 : ∃ k, DataW.trod enc Tryz.prog w base spare held k 3 [.int .i64 n] = some (.lit (.int .i64 n), []) := ⟨1, by simp [DataW.trod, Tryz.underlying3, hw]⟩
  rw [← e0] at t0
  rw [← e1] at t1
  exact shut_agg2 hu hone cellsBuf t0 t1
theorem sized_buf {ts : List TypeId} {ds : List (DataW H)} (h : (DataW.weightsEach Tryz.prog ts ds).all (· ≤ reachBytes) = true) {j : Nat} {s : ByteArray} {n : Int} (ht : ts[j]? = some 24) (hd : ds[j]? = some (.agg [.lit (.string s.data.toList), .lit (.int .i64 n)])) : s.size ≤ reachBytes := by
  obtain ⟨f0, f1, hu, _, _, _⟩ := oneBuf
  have := List.all_eq_true.1 h _ (DataW.weights_mem_each ht hd s.data.toList.length (by simp [DataW.weights, hu, DataW.weightsEach]))
  rw [Lib.size_eq]
  simpa using this
end
end
end Go.Proofs.YtlmbafnoopfilaaGreatDoor
