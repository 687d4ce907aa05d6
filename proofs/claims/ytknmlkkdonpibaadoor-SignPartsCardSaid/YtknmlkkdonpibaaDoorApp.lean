/-
  append, as one equation on the run: for operations that stand under a guard.
-/
import Derived.Test.YtknmlkkdonpibaaDoorRefClean
namespace Go.Proofs.YtknmlkkdonpibaaDoor
open Go Go.RowKit

section
variable {P : Program} (w : World)
theorem run_append_byt (base : Nat) (t ty : TypeId) (i : TypeInfo) (ht : P.underlying t = some (.slice 5)) (hi : P.info? 5 = some i) (hz : i.zero = some (.int .u8 0)) (hsize : i.size = 1) (hby : i.bytes = 1)
    (v : Value) (xs : List UInt8) (hown : w.ownsRow base 5 1 v xs.length (Lib.byteCells xs))
    (A : Option Addr) (c : Nat) (l : List UInt8) (hA : A = none → c = 0) (hl : Byt w A l) (hb : xs.length + l.length ≤ 140737488355328) (hbase : base ≤ w.heap.size) :
    ∃ v' w', (Builtin.append_ #[t, t] ty #[v, .slice A l.length c]).run P w = .ok v' w' ∧ w'.ownsRow base 5 1 v' (xs ++ l).length (Lib.byteCells (xs ++ l)) ∧ w.grownBy w' v.ownBlock := by
  have e1 : Lib.byteCells (xs ++ l) = Lib.byteCells xs ++ Lib.byteCells l := by simp [Lib.byteCells]
  rw [e1, List.length_append]
  rcases A with _ | ad
  · obtain rfl := hA rfl
    have h0 : l = [] := by
      by_cases hn : 0 < l.length
      · obtain ⟨_, _, e, _⟩ := hl.at_ hn; cases e
      · exact List.eq_nil_of_length_eq_zero (by omega)
    subst h0
    exact ⟨v, w, run_append_owned_none (P := P) (w := w) base t ty 5 i 1 ht hi v xs.length (Lib.byteCells xs) hown, by simpa [Lib.byteCells] using hown, World.grownBy.refl w _⟩
  · obtain ⟨v', w', hr, h2, h3, _⟩ := run_append_own_at (P := P) w base t ty 5 i (.int .u8 0) 1 1 ht hi hz hsize hby rfl (by decide) v xs.length (Lib.byteCells xs) hown ad l.length c (Lib.byteCells l) (by rw [Lib.byteCells_length]; omega) (by
      intro j u hu
      have hj : j < l.length := by
        have := (List.getElem?_eq_some_iff.1 hu).1
        simpa [Lib.byteCells_length] using this
      obtain ⟨b, o', e, _, _⟩ := hl.at_ (by omega)
      injection e with e
      subst e
      rw [Addr.add_lit]
      exact byt_cells hl j u hu) (by
      intro u hu
      simp only [Lib.byteCells, List.mem_map] at hu
      obtain ⟨_, _, rfl⟩ := hu
      rfl) (by unfold maxLen; omega) (by omega) hbase
    exact ⟨v', w', hr, h2, h3⟩

theorem run_append_32 (base base2 : Nat) (t ty : TypeId) (i : TypeInfo) (ht : P.underlying t = some (.slice 21)) (hi : P.info? 21 = some i) (hz : i.zero = some (.int .i32 0)) (hsize : i.size = 1) (hby : i.bytes = 4)
    (v v2 : Value) (rs ms : List Nat) (hown : w.ownsRow base 21 1 v rs.length (cells32 rs)) (hown2 : w.ownsRow base2 21 1 v2 ms.length (cells32 ms)) (hb : rs.length + ms.length ≤ 1099511627776) (hbase : base ≤ w.heap.size) :
    ∃ v' w', (Builtin.append_ #[t, t] ty #[v, v2]).run P w = .ok v' w' ∧ w'.ownsRow base 21 1 v' (rs ++ ms).length (cells32 (rs ++ ms)) ∧ w.grownBy w' v.ownBlock := by
  have e1 : cells32 (rs ++ ms) = cells32 rs ++ cells32 ms := by simp [cells32]
  rw [e1, List.length_append]
  rcases hown2.2 with ⟨rfl, h0⟩ | ⟨g, cap, cur, rfl, _⟩
  · obtain rfl : ms = [] := List.eq_nil_of_length_eq_zero h0
    exact ⟨v, w, run_append_owned_none (P := P) (w := w) base t ty 21 i 1 ht hi v rs.length (cells32 rs) hown, by simpa [cells32] using hown, World.grownBy.refl w _⟩
  · obtain ⟨v', w', hr, h2, h3, _⟩ := run_append_own_at (P := P) w base t ty 21 i (.int .i32 0) 1 4 ht hi hz hsize hby rfl (by decide) v rs.length (cells32 rs) hown ⟨g, 0, none⟩ ms.length cap (cells32 ms) (by rw [cells32_length]; omega) (fun j u hu => hown2.cells (g := g) rfl j u hu) (by
      intro u hu
      simp only [cells32, List.mem_map] at hu
      obtain ⟨_, _, rfl⟩ := hu
      rfl) (by unfold maxLen; omega) (by omega) hbase
    exact ⟨v', w', hr, h2, h3⟩
end
/-- An append that stands under a guard that holds: by its run. -/
theorem wpList_append_g {P : Program} {w : World} {ops : Array Oper} {rest : List Oper} {o : Oper} {a : Act} {Q : Exit → Act → World → Prop} (hw : Region.wanted o (yielded ops a.tmps) = true) (s x : Operand) (t : TypeId)
    (ho : o.op = .call { callee := .builtin .append, args := #[s, x], argTypes := #[t, t] }) (v v2 : Value) (hs : a.eval s = v) (hx : a.eval x = v2) {v' : Value} {w' : World}
    (hr : (Builtin.append_ #[t, t] o.type #[v, v2]).run P w = .ok v' w') (h : wpList P ops Q rest (a.put o.dst v') w') : wpList P ops Q (o :: rest) a w := by
  refine wpList_step fun K hK => ?_
  rw [if_pos hw]
  unfold Oper.wp execOp
  simp only [ho, resolve, invoke, builtin, Sem.run_bind, Sem.run_pure, Result.andThen_ok, List.map_toArray, List.map_cons, List.map_nil, hs, hx, hr]
  exact hK _ _ h
theorem below_own {B : Nat} {a w w' : World} {base : Nat} {e : TypeId} {size : Nat} {v : Value} {n : Nat} {xs : List Value} (h : Below B a w) (hg : w.grownBy w' v.ownBlock) (hown : w.ownsRow base e size v n xs) (hb : B ≤ base) (hB : B ≤ w.heap.size) : Below B a w' :=
  h.grown hg hB (fun k hk => Nat.le_trans hb (hown.lt k hk).1)
end Go.Proofs.YtknmlkkdonpibaaDoor
