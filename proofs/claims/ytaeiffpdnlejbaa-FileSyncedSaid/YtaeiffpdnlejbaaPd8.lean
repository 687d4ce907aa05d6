/-
  Layer 7 and what it stands on, part 8 (RowB BEq).
-/
import Derived.Test.YtaeiffpdnlejbaaPd6
import Derived.Lib.ConvBytes
import Derived.ArgAppend
import Derived.Laws.AppendOwnNone
import Derived.Maps.AppendAt
namespace Go.Proofs.Ytaeiffpdnlejbaa
section
open Go Go.RowKit
theorem info8 : (Try.prog.info? 5).map (fun i => (i.zero, i.size, i.bytes)) = some (some (.int .u8 0), 1, 1) := by kernel_rfl
theorem byt_cells {w : World} {b o : Nat} {l : List UInt8} (h : Byt w (some ⟨b, o, none⟩) l) : ∀ j u, (Lib.byteCells l)[j]? = some u → w.cell? ⟨b, o + j, none⟩ = some u := by
  intro j u hu
  have hj : j < l.length := by
    have := (List.getElem?_eq_some_iff.1 hu).1
    simpa [Lib.byteCells_length] using this
  obtain ⟨b', o', e, _, hc⟩ := h.at_ (by omega)
  injection e with e
  injection e with e1 e2
  subst e1; subst e2
  rw [hc j hj]
  simp [Lib.byteCells, hj] at hu
  rw [← hu]
  simp [List.getD, hj]
theorem byt_of_own {w : World} {base : Nat} {A : Option Addr} {n c : Nat} {l : List UInt8} (h : w.ownsRow base 5 1 (.slice A n c) l.length (Lib.byteCells l)) : Byt w A l ∧ n = l.length ∧ l.length ≤ c ∧ c ≤ maxLen := by
  rcases h.2 with ⟨hv, h0⟩ | ⟨g, cap, cur, hv, _, hh, hnc, hcm, hcs, htk⟩
  · injection hv with h1 h2 h3
    subst h1; subst h2; subst h3
    obtain rfl : l = [] := List.eq_nil_of_length_eq_zero h0
    exact ⟨Byt.nil_ _ _, rfl, by simp, by unfold maxLen; omega⟩
  · injection hv with h1 h2 h3
    subst h1; subst h2; subst h3
    refine ⟨Byt.mk_ fun i hi => ?_, rfl, hnc, hcm⟩
    have := h.cells (g := g) rfl i (.int .u8 ((l.getD i 0).toNat : Int)) (by simp [Lib.byteCells, hi, List.getD])
    rw [Addr.add_lit] at this
    exact this
section
variable {P : Program} (w : World)
end
section
variable {P : Program} (w : World)
end
section
variable {P : Program} (w : World)
end
theorem own_empty (w : World) (base : Nat) (hb : base ≤ w.heap.size) : (w.alloc (.cells #[] 5)).ownsRow base 5 1 (.slice (some ⟨w.heap.size, 0, none⟩) 0 0) ([] : List UInt8).length (Lib.byteCells []) :=
  ⟨rfl, .inr ⟨w.heap.size, 0, #[], rfl, hb, heap_alloc_new w _, by simp, by unfold maxLen; omega, by simp, by simp [Lib.byteCells]⟩⟩
end
section
open Go Go.RowKit
set_option maxRecDepth 100000
theorem conv_strE {w : World} {A : Option Addr} {l : List UInt8} (h : Byt w A l) (c : Nat) : (convert 31 9 (.slice A l.length c)).run Try.prog w = .ok (.string (bs l)) w :=
  h.convert (P := Try.prog) c 31 5 9 Try.underlying31 Try.underlying5 Try.underlying9 l.length rfl
set_option maxHeartbeats 1000000 in
theorem beq_calls (A B : Option Addr) (c d : Nat) (l m : List UInt8) (w : World) (h1 : Byt w A l) (h2 : Byt w B m) :
    Calls Try.prog 22 #[.slice A l.length c, .slice B m.length d] w fun e w' => e = .returned (.bool (decide (l = m))) ∧ Below w.heap.size w w' := by
  have e1 := conv_strE h1 c
  have e2 := conv_strE h2 d
  have hq : Hid ((l == m) = decide (l = m)) := Lib.hid (by rw [Bool.eq_iff_iff]; simp)
  go_enter Try.func22, Try.ntmps22
  go_wp2_with fail
  go_ret
  exact ⟨by rw [← hq.out]; rfl, Below.refl _ _⟩
end
end Go.Proofs.Ytaeiffpdnlejbaa
