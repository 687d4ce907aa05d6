/-
  'append(append([]string{}, row...), x)': its two runs, in whatever order memory is made.
-/
import Derived.Test.YtgcafmofpflidaaRingAt
namespace Go.Proofs.Ytgcafmofpflidaa
open Go Go.RowKit
set_option maxRecDepth 100000

theorem infoS6 : (Try.prog.info? 9).map (fun i => (i.zero, i.size, i.bytes)) = some (some (.string ⟨#[]⟩), 1, 16) := by kernel_rfl
/-- What is behind both. -/
def SnocFin (w : World) (ls : List ByteArray) (x : ByteArray) (A' : Option Addr) (c' : Nat) (w4 : World) : Prop :=
  Below w.heap.size w w4 ∧ RdV Value.string w4 A' (ls ++ [x]) ∧ ls.length + 1 ≤ c' ∧ c' ≤ maxLen ∧ (A' = none → c' = 0) ∧ ∀ a, A' = some a → w.heap.size ≤ a.block ∧ a.block < w4.heap.size
theorem SnocFin.undrew {w : World} {ls : List ByteArray} {x : ByteArray} {A' : Option Addr} {c' : Nat} {w4 : World} (h : SnocFin w.drew ls x A' c' w4) : SnocFin w ls x A' c' w4 := ⟨⟨h.1.os, h.1.tape, h.1.output, h.1.size, h.1.block⟩, h.2⟩
theorem own_zero6 {w : World} {base g e : Nat} (hb : base ≤ g) (h : w.heap[g]? = some (.cells #[] e (0, 0))) : w.ownsRow base e 1 (.slice (some ⟨g, 0, none⟩) 0 0) 0 [] :=
  ⟨rfl, .inr ⟨g, 0, #[], rfl, hb, h, by simp, by unfold maxLen; omega, by simp, by simp⟩⟩
theorem snoc1 (w W1 : World) (ge : Nat) (A : Option Addr) (c : Nat) (ls : List ByteArray) (hge : w.heap.size ≤ ge) (he : W1.heap[ge]? = some (.cells #[] 9 (0, 0))) (hB : Below w.heap.size w W1) (hR : RdV Value.string w A ls) (hA : A = none → c = 0) (hl : ls.length ≤ 100000) :
    ∃ v2 w2, (Builtin.append_ #[27, 27] 27 #[.slice (some ⟨ge, 0, none⟩) 0 0, .slice A ls.length c]).run Try.prog W1 = .ok v2 w2 ∧ w2.ownsRow w.heap.size 9 1 v2 ls.length (ls.map Value.string) ∧ Below w.heap.size w w2 ∧ Only (fun k => k = ge) W1 w2 ∧ ∀ g, v2.ownBlock = some g → g = ge ∨ g = W1.heap.size := by
  obtain ⟨i0, hi, hz0, hz1, hz2⟩ := info_parts infoS6
  obtain ⟨v2, w2, hr, ho, hg, hat⟩ := run_append_V (P := Try.prog) (V := Value.string) (fun _ => rfl) W1 w.heap.size 27 27 9 i0 (.string ⟨#[]⟩) 16 Try.underlying27 hi hz0 hz1 hz2 rfl (by decide)
    (.slice (some ⟨ge, 0, none⟩) 0 0) 0 [] rfl (own_zero6 hge he) A ls.length c ls rfl hA (hR.below hB) (by simp; omega) hB.size
  rw [Nat.zero_add, List.nil_append] at ho
  have hO : Only (fun k => k = ge) W1 w2 := Only.of_grown hg (fun k e => by injection e with e; exact e.symm)
  refine ⟨v2, w2, hr, ho, hB.trans (hO.below hB.size (fun i hi => by omega)), hO, fun g e => ?_⟩
  rcases hat with h | h
  · rw [h] at e; injection e with e; exact .inl e.symm
  · rw [h] at e; injection e with e; exact .inr e.symm
theorem snoc2 (w W2 W3 : World) (v2 : Value) (gx : Nat) (ls : List ByteArray) (x : ByteArray) (hown : W2.ownsRow w.heap.size 9 1 v2 ls.length (ls.map Value.string)) (h23 : Below W2.heap.size W2 W3) (hB : Below w.heap.size w W3) (hx : W3.cell? ⟨gx, 0, none⟩ = some (.string x)) (hl : ls.length ≤ 100000) :
    ∃ A' c' w4, (Builtin.append_ #[27, 27] 27 #[v2, .slice (some ⟨gx, 0, none⟩) 1 1]).run Try.prog W3 = .ok (.slice A' (ls.length + 1) c') w4 ∧ SnocFin w ls x A' c' w4 := by
  obtain ⟨i0, hi, hz0, hz1, hz2⟩ := info_parts infoS6
  have ho3 : W3.ownsRow w.heap.size 9 1 v2 ls.length (ls.map Value.string) := own_only hown (Only.of_below (R := fun _ => False) h23) (fun _ _ h => h)
  have hgx : gx < W3.heap.size := World.block_lt_of_cell? _ _ hx
  obtain ⟨v4, w4, hr, ho, hg, _⟩ := run_append_V (P := Try.prog) (V := Value.string) (fun _ => rfl) W3 w.heap.size 27 27 9 i0 (.string ⟨#[]⟩) 16 Try.underlying27 hi hz0 hz1 hz2 rfl (by decide)
    v2 ls.length ls rfl ho3 (some ⟨gx, 0, none⟩) 1 1 [x] rfl (fun e => by cases e) (fun _ => ⟨gx, 0, rfl, hgx, fun i y hi => by
      cases i with
      | zero =>
        simp at hi
        subst hi
        exact hx
      | succ i => simp at hi⟩) (by simp; omega) hB.size
  obtain ⟨A', c', rfl⟩ := own_form ho
  have hlen : (ls ++ [x]).length = ls.length + 1 := by simp
  rw [← hlen] at ho
  obtain ⟨h4, _, h5, h6, h7⟩ := rdV_of_own ho
  have hv2 : ∀ g, v2.ownBlock = some g → w.heap.size ≤ g := fun g e => (ho3.lt g e).1
  refine ⟨A', c', w4, hr, hB.grown hg hB.size (fun k e => hv2 k e), h4, by rw [← hlen]; exact h5, h6, h7, fun a e => ?_⟩
  subst e
  have := ho.lt a.block rfl
  exact ⟨this.1, this.2⟩
/-- The three orders: the empty row, its append, the thing · the empty row, the thing · the thing, the empty row. -/
theorem snocA (w : World) (A : Option Addr) (c : Nat) (ls : List ByteArray) (x : ByteArray) (hR : RdV Value.string w A ls) (hA : A = none → c = 0) (hl : ls.length ≤ 100000) :
    ∃ v2 w2, (Builtin.append_ #[27, 27] 27 #[.slice (some ⟨w.heap.size, 0, none⟩) 0 0, .slice A ls.length c]).run Try.prog (w.alloc (.cells #[] 9)) = .ok v2 w2 ∧ Below w.heap.size w w2 ∧
      ∃ A' c' w4, (Builtin.append_ #[27, 27] 27 #[v2, .slice (some ⟨w2.heap.size, 0, none⟩) 1 1]).run Try.prog (w2.alloc (.cells #[.string x] 9)) = .ok (.slice A' (ls.length + 1) c') w4 ∧ SnocFin w ls x A' c' w4 := by
  obtain ⟨v2, w2, h1, h2, h3, _⟩ := snoc1 w (w.alloc (.cells #[] 9)) w.heap.size A c ls (Nat.le_refl _) (World.alloc_heap_new w _) ((Below.refl _ w).alloc (Nat.le_refl _) _) hR hA hl
  exact ⟨v2, w2, h1, h3, snoc2 w w2 (w2.alloc (.cells #[.string x] 9)) v2 w2.heap.size ls x h2 ((Below.refl _ w2).alloc (Nat.le_refl _) _) (h3.alloc h3.size _) (Boxed.new w2 9 (.string x)).cell hl⟩
theorem snocB (w : World) (A : Option Addr) (c : Nat) (ls : List ByteArray) (x : ByteArray) (hR : RdV Value.string w A ls) (hA : A = none → c = 0) (hl : ls.length ≤ 100000) :
    ∃ v2 w2, (Builtin.append_ #[27, 27] 27 #[.slice (some ⟨w.heap.size, 0, none⟩) 0 0, .slice A ls.length c]).run Try.prog ((w.alloc (.cells #[] 9)).alloc (.cells #[.string x] 9)) = .ok v2 w2 ∧ Below w.heap.size w w2 ∧
      ∃ A' c' w4, (Builtin.append_ #[27, 27] 27 #[v2, .slice (some ⟨w.heap.size + 1, 0, none⟩) 1 1]).run Try.prog w2 = .ok (.slice A' (ls.length + 1) c') w4 ∧ SnocFin w ls x A' c' w4 := by
  have hB : Below w.heap.size w ((w.alloc (.cells #[] 9)).alloc (.cells #[.string x] 9)) := ((Below.refl _ w).alloc (Nat.le_refl _) _).alloc (by simp) _
  have hx : ((w.alloc (.cells #[] 9)).alloc (.cells #[.string x] 9)).cell? ⟨w.heap.size + 1, 0, none⟩ = some (.string x) := by
    have := (Boxed.new (w.alloc (.cells #[] 9)) 9 (.string x)).cell
    rwa [World.size_alloc] at this
  obtain ⟨v2, w2, h1, h2, h3, h4, _⟩ := snoc1 w _ w.heap.size A c ls (Nat.le_refl _) (by
    have := World.alloc_heap_new w (.cells #[] 9)
    exact (((Below.refl (w.alloc (.cells #[] 9)).heap.size _).alloc (Nat.le_refl _) (.cells #[.string x] 9)).block _ (by simp)).trans this) hB hR hA hl
  exact ⟨v2, w2, h1, h3, snoc2 w w2 w2 v2 (w.heap.size + 1) ls x h2 (Below.refl _ _) h3 (h4.cell hx (by show ¬ w.heap.size + 1 = w.heap.size; omega)) hl⟩
theorem snocC (w : World) (A : Option Addr) (c : Nat) (ls : List ByteArray) (x : ByteArray) (hR : RdV Value.string w A ls) (hA : A = none → c = 0) (hl : ls.length ≤ 100000) :
    ∃ v2 w2, (Builtin.append_ #[27, 27] 27 #[.slice (some ⟨w.heap.size + 1, 0, none⟩) 0 0, .slice A ls.length c]).run Try.prog ((w.alloc (.cells #[.string x] 9)).alloc (.cells #[] 9)) = .ok v2 w2 ∧ Below w.heap.size w w2 ∧
      ∃ A' c' w4, (Builtin.append_ #[27, 27] 27 #[v2, .slice (some ⟨w.heap.size, 0, none⟩) 1 1]).run Try.prog w2 = .ok (.slice A' (ls.length + 1) c') w4 ∧ SnocFin w ls x A' c' w4 := by
  have hB : Below w.heap.size w ((w.alloc (.cells #[.string x] 9)).alloc (.cells #[] 9)) := ((Below.refl _ w).alloc (Nat.le_refl _) _).alloc (by simp) _
  have hx : ((w.alloc (.cells #[.string x] 9)).alloc (.cells #[] 9)).cell? ⟨w.heap.size, 0, none⟩ = some (.string x) := by
    exact ((Boxed.new w 9 (.string x)).alloc (.cells #[] 9)).cell
  obtain ⟨v2, w2, h1, h2, h3, h4, _⟩ := snoc1 w _ (w.heap.size + 1) A c ls (Nat.le_succ _) (by
    have := World.alloc_heap_new (w.alloc (.cells #[.string x] 9)) (.cells #[] 9)
    rwa [World.size_alloc] at this) hB hR hA hl
  exact ⟨v2, w2, h1, h3, snoc2 w w2 w2 v2 w.heap.size ls x h2 (Below.refl _ _) h3 (h4.cell hx (by show ¬ w.heap.size = w.heap.size + 1; omega)) hl⟩
end Go.Proofs.Ytgcafmofpflidaa
