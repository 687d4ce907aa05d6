/-
  Logs in memory, if they are kept as ONE row (the states ahead, the state, the states behind, in their order) and a place in it: a box of four cells (the limit, the row, the place, the open group).
-/
import Derived.Test.YtgcafmofpflidaaBxA
import Derived.Test.YtgcafmofpflidaaRowW
import Derived.Test.YtgcafmofpflidaaLogMath
import Derived.Test.YtgcafmofpflidaaObj
namespace Go.Proofs.Ytgcafmofpflidaa
open Go Go.RowKit

section
variable {α : Type}
def rowL (s : LS α) : List α := s.back ++ s.now :: s.forth.reverse
theorem rowL_length (s : LS α) : (rowL s).length = s.back.length + 1 + s.forth.length := by simp [rowL]; omega
theorem rowL_now (s : LS α) : (rowL s)[s.back.length]? = some s.now := by simp [rowL]
theorem rowL_undo {s : LS α} (h : s.back ≠ []) : rowL s.undo = rowL s ∧ s.undo.back.length = s.back.length - 1 ∧ s.undo.lim = s.lim ∧ s.undo.opn = 0 := by
  obtain ⟨r, y, hr⟩ : ∃ r y, s.back = r ++ [y] := ⟨_, _, (List.dropLast_concat_getLast h).symm⟩
  rw [LS.undo_some hr]
  simp [rowL, hr]
theorem rowL_redo {s : LS α} (h : s.forth ≠ []) : rowL s.redo = rowL s ∧ s.redo.back.length = s.back.length + 1 ∧ s.redo.lim = s.lim ∧ s.redo.opn = 0 := by
  obtain ⟨r, y, hr⟩ : ∃ r y, s.forth = r ++ [y] := ⟨_, _, (List.dropLast_concat_getLast h).symm⟩
  rw [LS.redo_some hr]
  simp [rowL, hr]
theorem rowL_move (s : LS α) (x : α) : rowL (s.move x) = (rowL s).set s.back.length x := by simp [rowL, LS.move]
theorem rowL_cut (s : LS α) : (rowL s).take (s.back.length + 1) = s.back ++ [s.now] := by
  unfold rowL
  rw [List.take_append, List.take_of_length_le (by omega), show s.back.length + 1 - s.back.length = 1 by omega]
  rfl
variable {V : α → Value} {e tS : TypeId} {w w' : World} {R : Nat → Prop} {b : Nat} {s : LS α}
structure LogAt (V : α → Value) (e tS : TypeId) (w : World) (R : Nat → Prop) (b : Nat) (s : LS α) : Prop where
  ok : s.Ok
  ins : R b
  lt : ∀ k, R k → k < w.heap.size
  mem : ∃ A c, BxA w b tS [.int .i64 (s.lim : Int), .slice A (rowL s).length c, .int .i64 (s.back.length : Int), .int .i64 s.opn] ∧ RowW V w (fun k => R k ∧ k ≠ b) A (rowL s) ∧ (rowL s).length ≤ c ∧ c ≤ maxLen
theorem objRow (V : α → Value) (e tS : TypeId) : ObjL (LogAt V e tS) where
  keep := fun h ho hd => by
    obtain ⟨A, c, h1, h2, h3, h4⟩ := h.mem
    exact ⟨h.ok, h.ins, fun k hk => Nat.lt_of_lt_of_le (h.lt k hk) ho.size, A, c, h1.keep ho (hd _ h.ins), h2.keep ho (fun k hk => hd k hk.1), h3, h4⟩
  lt := fun h => h.lt
  ins := fun h => h.ins
/-- The place, and the group, turn; the row stays. -/
theorem log_place (h : LogAt V e tS w R b s) {s' : LS α} (hok : s'.Ok) (hr : rowL s' = rowL s) (hl : s'.lim = s.lim) : LogAt V e tS ((w.setCell ⟨b, 2, none⟩ (.int .i64 (s'.back.length : Int))).setCell ⟨b, 3, none⟩ (.int .i64 s'.opn)) R b s' ∧ Only (fun k => k = b) w ((w.setCell ⟨b, 2, none⟩ (.int .i64 (s'.back.length : Int))).setCell ⟨b, 3, none⟩ (.int .i64 s'.opn)) := by
  obtain ⟨A, c, h1, h2, h3, h4⟩ := h.mem
  have ho : Only (fun k => k = b) w ((w.setCell ⟨b, 2, none⟩ (.int .i64 (s'.back.length : Int))).setCell ⟨b, 3, none⟩ (.int .i64 s'.opn)) := ((Only.refl (fun k => k = b) w).set (p := ⟨b, 2, none⟩) (.inl rfl) _).set (p := ⟨b, 3, none⟩) (.inl rfl) _
  refine ⟨⟨hok, h.ins, fun k hk => Nat.lt_of_lt_of_le (h.lt k hk) ho.size, A, c, ?_, ?_, by rw [hr]; exact h3, h4⟩, ho⟩
  · rw [hr, hl]
    exact (h1.set 2 _).set 3 _
  · rw [hr]
    exact h2.keep ho (fun k hk e => hk.2 e)
/-- The group alone turns. -/
theorem log_group (h : LogAt V e tS w R b s) {s' : LS α} (hok : s'.Ok) (hr : rowL s' = rowL s) (hl : s'.lim = s.lim) (hb : s'.back.length = s.back.length) : LogAt V e tS (w.setCell ⟨b, 3, none⟩ (.int .i64 s'.opn)) R b s' ∧ Only (fun k => k = b) w (w.setCell ⟨b, 3, none⟩ (.int .i64 s'.opn)) := by
  obtain ⟨A, c, h1, h2, h3, h4⟩ := h.mem
  have ho : Only (fun k => k = b) w (w.setCell ⟨b, 3, none⟩ (.int .i64 s'.opn)) := (Only.refl (fun k => k = b) w).set (p := ⟨b, 3, none⟩) (.inl rfl) _
  refine ⟨⟨hok, h.ins, fun k hk => Nat.lt_of_lt_of_le (h.lt k hk) ho.size, A, c, ?_, ?_, by rw [hr]; exact h3, h4⟩, ho⟩
  · rw [hr, hl, hb]
    exact h1.set 3 _
  · rw [hr]
    exact h2.keep ho (fun k hk e => hk.2 e)
/-- The state on which it stands turns. -/
theorem log_state (h : LogAt V e tS w R b s) (x : α) {g o : Nat} {c : Nat} (hx : w.cell? ⟨b, 1, none⟩ = some (.slice (some ⟨g, o, none⟩) (rowL s).length c)) : LogAt V e tS (w.setCell ⟨g, o + s.back.length, none⟩ (V x)) R b (s.move x) ∧ Only R w (w.setCell ⟨g, o + s.back.length, none⟩ (V x)) := by
  obtain ⟨A, c', h1, h2, h3, h4⟩ := h.mem
  rw [h1.c 1 rfl] at hx
  injection hx with hx
  injection hx with e1 _ e3
  subst e1; subst e3
  have hn : 0 < (rowL s).length := by rw [rowL_length]; omega
  obtain ⟨g', o', e, hr, _, _⟩ := id h2 hn
  injection e with e
  injection e with e1 e2
  subst e1; subst e2
  have ho : Only R w (w.setCell ⟨g, o + s.back.length, none⟩ (V x)) := (Only.refl R w).set (p := ⟨g, o + s.back.length, none⟩) (.inl hr.1) _
  have hrow := h2.set s.back.length (by rw [rowL_length]; omega) x
  rw [← rowL_move] at hrow
  have hlen : (rowL (s.move x)).length = (rowL s).length := by rw [rowL_move, List.length_set]
  refine ⟨⟨h.ok.move x, h.ins, fun k hk => Nat.lt_of_lt_of_le (h.lt k hk) ho.size, some ⟨g, o, none⟩, _, ?_, hrow, by rw [hlen]; exact h3, h4⟩, ho⟩
  rw [hlen]
  exact h1.other (fun e => hr.2 e.symm) _
/-- What a call built: a new row, in the log's box. -/
theorem log_built (h : LogAt V e tS w R b s) {s' : LS α} (hok : s'.Ok) {w2 Wf : World} (hb : Below w.heap.size w w2) (ho : Only (fun k => k = b) w2 Wf) {A : Option Addr} {c N : Nat} {ty : TypeId} (hN : w.heap.size ≤ N)
    (hbx : BxA Wf b tS [.int .i64 (s'.lim : Int), .slice A (rowL s').length c, .int .i64 (s'.back.length : Int), .int .i64 s'.opn]) (hown : w2.ownsRow N ty 1 (.slice A (rowL s').length c) (rowL s').length ((rowL s').map V)) : ToB (LogAt V e tS) w R Wf b s' := by
  have hbl := h.lt b h.ins
  have hR : ∀ g, (Value.slice A (rowL s').length c).ownBlock = some g → w.heap.size ≤ g ∧ g < w2.heap.size := fun g hg => ⟨Nat.le_trans hN (hown.lt g hg).1, (hown.lt g hg).2⟩
  have hrow : RowW V w2 (fun k => (k = b ∨ (w.heap.size ≤ k ∧ k < w2.heap.size)) ∧ k ≠ b) A (rowL s') := rowW_of_own hown (fun g hg => ⟨.inr (hR g hg), fun e => by have := (hR g hg).1; omega⟩)
  have hcap : (rowL s').length ≤ c ∧ c ≤ maxLen := by
    rcases hown.2 with ⟨_, h0⟩ | ⟨g, cap, cur, hv, _, _, hnc, hcm, _⟩
    · rw [rowL_length] at h0; omega
    · injection hv with _ _ h3
      subst h3
      exact ⟨hnc, hcm⟩
  refine ⟨fun k => k = b ∨ (w.heap.size ≤ k ∧ k < w2.heap.size), ⟨hok, .inl rfl, fun k hk => ?_, A, c, hbx, hrow.keep ho (fun k hk e => hk.2 e), hcap.1, hcap.2⟩, (Only.of_below hb).trans ho (fun i e => .inl e), fun k hk => ?_⟩
  · have h1 := hb.size
    have h2 := ho.size
    rcases hk with h | h <;> omega
  · rcases hk with hk | hk
    · exact .inl (by rw [hk]; exact h.ins)
    · exact .inr hk.1
/-- A copy stands on the same row. -/
theorem log_copied (h : LogAt V e tS w R b s) {Wf : World} {b' : Nat} (hb : Below w.heap.size w Wf) (hb' : w.heap.size ≤ b') (hc : ∀ A c, BxA w b tS [.int .i64 (s.lim : Int), .slice A (rowL s).length c, .int .i64 (s.back.length : Int), .int .i64 s.opn] → BxA Wf b' tS [.int .i64 (s.lim : Int), .slice A (rowL s).length c, .int .i64 (s.back.length : Int), .int .i64 s.opn]) : CopL (LogAt V e tS) w R b Wf b' s := by
  obtain ⟨A, c, h1, h2, h3, h4⟩ := id h.mem
  have hn := hc A c h1
  refine ⟨fun k => (R k ∧ k ≠ b) ∨ k = b', ⟨h.ok, .inr rfl, fun k hk => ?_, A, c, hn, (h2.below hb).mono (fun k hk => ⟨.inl hk, fun e => ?_⟩), h3, h4⟩, hb', fun k hk => ?_, hb⟩
  · rcases hk with hk | hk
    · exact Nat.lt_of_lt_of_le (h.lt k hk.1) hb.size
    · rw [hk]; exact hn.lt
  · have := h.lt k hk.1
    omega
  · rcases hk with hk | hk
    · exact .inl hk
    · exact .inr (by omega)
/-- What a walk takes of a log. -/
theorem LogAt.open_ (h : LogAt V e tS w R b s) : ∃ g o c, BxA w b tS [.int .i64 (s.lim : Int), .slice (some ⟨g, o, none⟩) (s.back.length + 1 + s.forth.length) c, .int .i64 (s.back.length : Int), .int .i64 s.opn] ∧ (R g ∧ g ≠ b) ∧ g < w.heap.size ∧ (∀ i x, (rowL s)[i]? = some x → w.cell? ⟨g, o + i, none⟩ = some (V x) ∧ w.frozen? ⟨g, o + i, none⟩ = false) ∧ s.back.length + 1 + s.forth.length ≤ c ∧ c ≤ maxLen := by
  obtain ⟨A, c, h1, h2, h3, h4⟩ := h.mem
  obtain ⟨g, o, rfl, hr, hg, hc⟩ := h2 (by rw [rowL_length]; omega)
  rw [rowL_length] at h1 h3
  exact ⟨g, o, c, h1, hr, hg, hc, h3, h4⟩
end
end Go.Proofs.Ytgcafmofpflidaa
