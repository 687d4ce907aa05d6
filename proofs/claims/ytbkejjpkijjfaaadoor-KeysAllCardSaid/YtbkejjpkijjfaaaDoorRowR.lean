/-
  Rows of runes.
-/
import Derived.Test.YtbkejjpkijjfaaaDoorRow
import Derived.Laws.AppendOwnNone
import Derived.Maps.AppendAt
namespace Go.Proofs.YtbkejjpkijjfaaaDoor
open Go Go.RowKit

theorem info32 : (Tryd.prog.info? 21).map (fun i => (i.zero, i.size, i.bytes)) = some (some (.int .i32 0), 1, 4) := by kernel_rfl
/-- Signs as cells of runes. -/
def cells32 (rs : List Nat) : List Value := rs.map fun (r : Nat) => Value.int .i32 (r : Int)
theorem cells32_length (rs : List Nat) : (cells32 rs).length = rs.length := by simp [cells32]
theorem cells32_snoc (rs : List Nat) (r : Nat) : cells32 (rs ++ [r]) = cells32 rs ++ [.int .i32 (r : Int)] := by simp [cells32]
theorem own_cells32 {w : World} {base : Nat} {A : Option Addr} {c n : Nat} {rs : List Nat} (h : w.ownsRow base 21 1 (.slice A n c) n (cells32 rs)) (hn : 0 < n) :
    ∃ g, A = some ⟨g, 0, none⟩ ∧ base ≤ g ∧ g < w.heap.size ∧ ∀ i, i < n → w.cell? ⟨g, i, none⟩ = some (.int .i32 ((rs.getD i 0 : Nat) : Int)) := by
  have hl : rs.length = n := by have := h.1; rw [cells32_length] at this; omega
  rcases h.2 with ⟨_, h0⟩ | ⟨g, cap, cur, hv, hg, hh, _⟩
  · omega
  · injection hv with h1 h2 h3
    subst h1
    refine ⟨g, rfl, hg, ?_, fun i hi => ?_⟩
    · exact (Array.getElem?_eq_some_iff.1 hh).1
    · have := h.cells (g := g) rfl i (.int .i32 ((rs.getD i 0 : Nat) : Int)) (by simp [cells32, hl, hi, List.getD])
      rw [Addr.add_lit] at this
      simpa using this
/-- A slice of runes, and one of ints, that read as signs. -/
def Rd32 (w : World) (A : Option Addr) (rs : List Nat) : Prop := 0 < rs.length → ∃ g o, A = some ⟨g, o, none⟩ ∧ g < w.heap.size ∧ ∀ i, i < rs.length → w.cell? ⟨g, o + i, none⟩ = some (.int .i32 ((rs.getD i 0 : Nat) : Int))
theorem Rd32.below {w w' : World} {A : Option Addr} {rs : List Nat} (h : Rd32 w A rs) (hb : Below w.heap.size w w') : Rd32 w' A rs := fun hn => by
  obtain ⟨g, o, e, hg, hc⟩ := h hn
  exact ⟨g, o, e, Nat.lt_of_lt_of_le hg hb.size, fun i hi => by rw [hb.cell (p := ⟨g, o + i, none⟩) hg]; exact hc i hi⟩
theorem rd32_of_own {w : World} {base : Nat} {A : Option Addr} {c n : Nat} {rs : List Nat} (h : w.ownsRow base 21 1 (.slice A n c) rs.length (cells32 rs)) : Rd32 w A rs ∧ n = rs.length ∧ rs.length ≤ c ∧ c ≤ maxLen := by
  rcases h.2 with ⟨hv, h0⟩ | ⟨g, cap, cur, hv, _, hh, hnc, hcm, _⟩
  · injection hv with h1 h2 h3
    subst h1; subst h2; subst h3
    exact ⟨fun hn => by omega, h0.symm, by omega, by unfold maxLen; omega⟩
  · injection hv with h1 h2 h3
    subst h1; subst h2; subst h3
    refine ⟨fun hn => ⟨g, 0, rfl, (Array.getElem?_eq_some_iff.1 hh).1, fun i hi => ?_⟩, rfl, hnc, hcm⟩
    have := h.cells (g := g) rfl i (.int .i32 ((rs.getD i 0 : Nat) : Int)) (by simp [cells32, hi, List.getD])
    rw [Addr.add_lit] at this
    exact this
section
variable {P : Program} (w : World)
theorem run_append_32 (base base2 : Nat) (t ty : TypeId) (i : TypeInfo) (ht : P.underlying t = some (.slice 21)) (hi : P.info? 21 = some i) (hz : i.zero = some (.int .i32 0)) (hsize : i.size = 1) (hby : i.bytes = 4)
    (v v2 : Value) (rs ms : List Nat) (hown : w.ownsRow base 21 1 v rs.length (cells32 rs)) (hown2 : w.ownsRow base2 21 1 v2 ms.length (cells32 ms)) (hb : rs.length + ms.length ≤ 1099511627776) (hbase : base ≤ w.heap.size) :
    ∃ v' w', (Builtin.append_ #[t, t] ty #[v, v2]).run P w = .ok v' w' ∧ w'.ownsRow base 21 1 v' (rs ++ ms).length (cells32 (rs ++ ms)) ∧ w.grownBy w' v.ownBlock := by
  have e1 : cells32 (rs ++ ms) = cells32 rs ++ cells32 ms := by simp [cells32]
  rw [e1, List.length_append]
  rcases hown2.2 with ⟨rfl, h0⟩ | ⟨g, cap, cur, rfl, _⟩
  · obtain rfl : ms = [] := List.eq_nil_of_length_eq_zero h0
    exact ⟨v, w, run_append_owned_none (P := P) (w := w) base t ty 21 i 1 ht hi v rs.length (cells32 rs) hown, by simpa [cells32] using hown, World.grownBy.refl w _⟩
  · obtain ⟨v', w', hr, h2, h3, _⟩ := run_append_own_at (P := P) w base t ty 21 i (.int .i32 0) 1 4 ht hi hz hsize hby rfl (by decide) v rs.length (cells32 rs) hown ⟨g, 0, none⟩ ms.length cap (cells32 ms) (by rw [cells32_length]; omega) (fun j u hu => hown2.cells (g := g) rfl j u hu) (by
      intro u hu
      simp only [cells32, List.mem_map] at hu
      obtain ⟨_, _, rfl⟩ := hu
      rfl) (by unfold maxLen; omega) (by omega) hbase
    exact ⟨v', w', hr, h2, h3⟩
end
end Go.Proofs.YtbkejjpkijjfaaaDoor
