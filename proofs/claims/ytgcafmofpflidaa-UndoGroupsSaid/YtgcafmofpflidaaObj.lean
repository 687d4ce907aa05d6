/-
  Things in memory by a set of their blocks, whatever they are: what turns one of them leaves all other blocks as they were.
-/
import Derived.Test.YtgcafmofpflidaaRingAt
namespace Go.Proofs.Ytgcafmofpflidaa
open Go Go.RowKit

section
variable {T : Type} {L : World → (Nat → Prop) → Nat → T → Prop} {w w' : World} {R : Nat → Prop} {b : Nat} {s : T}
/-- A thing lies in its blocks (R) alone. -/
structure ObjL (L : World → (Nat → Prop) → Nat → T → Prop) : Prop where
  keep : ∀ {w w' : World} {R R' : Nat → Prop} {b : Nat} {s : T}, L w R b s → Only R' w w' → (∀ k, R k → ¬ R' k) → L w' R b s
  lt : ∀ {w : World} {R : Nat → Prop} {b : Nat} {s : T}, L w R b s → ∀ k, R k → k < w.heap.size
  ins : ∀ {w : World} {R : Nat → Prop} {b : Nat} {s : T}, L w R b s → R b
theorem ObjL.below (h : ObjL L) (hl : L w R b s) (hb : Below w.heap.size w w') : L w' R b s := h.keep (R' := fun _ => False) hl (Only.of_below hb) (fun _ _ h => h)
/-- Turned in a world that was turned nowhere else. -/
def ToL (L : World → (Nat → Prop) → Nat → T → Prop) (w : World) (R : Nat → Prop) (w' : World) (b : Nat) (s : T) : Prop := ∃ R', L w' R' b s ∧ Only R w w' ∧ ∀ k, R' k → R k ∨ w.heap.size ≤ k
/-- A thing that a call made (it began at w): all that lay ahead of the call is as it was. -/
def InL (L : World → (Nat → Prop) → Nat → T → Prop) (w W : World) (b : Nat) (s : T) : Prop := ∃ R, L W R b s ∧ (∀ k, R k → w.heap.size ≤ k) ∧ Below w.heap.size w W
theorem ToL.trans {w1 w2 : World} {b' : Nat} {s1 s2 : T} (h1 : ToL L w R w1 b s1) (h2 : ∀ R1, L w1 R1 b s1 → ToL L w1 R1 w2 b' s2) : ToL L w R w2 b' s2 := by
  obtain ⟨Ra, a1, a2, a3⟩ := h1
  obtain ⟨Rb, b1, b2, b3⟩ := h2 Ra a1
  refine ⟨Rb, b1, a2.trans b2 a3, fun k hk => ?_⟩
  rcases b3 k hk with h | h
  · exact a3 k h
  · exact .inr (Nat.le_trans a2.size h)
theorem ToL.below (O : ObjL L) {w2 : World} (h : ToL L w R w' b s) (hb : Below w'.heap.size w' w2) : ToL L w R w2 b s := by
  obtain ⟨Ra, a1, a2, a3⟩ := h
  exact ⟨Ra, O.below a1 hb, a2.trans (R' := fun _ => False) (Only.of_below hb) (fun _ h => h.elim), a3⟩
theorem InL.bel {W : World} (h : InL L w W b s) : Below w.heap.size w W := by
  obtain ⟨_, _, _, h⟩ := h
  exact h
theorem InL.below (O : ObjL L) {W W' : World} (h : InL L w W b s) (hb : Below W.heap.size W W') : InL L w W' b s := by
  obtain ⟨R, a1, a2, a3⟩ := h
  exact ⟨R, O.below a1 hb, a2, a3.trans (hb.mono a3.size)⟩
theorem ToL.inn {W W' : World} {b' : Nat} {s' : T} (h : ToL L W R W' b' s') (h2 : ∀ k, R k → w.heap.size ≤ k) (h3 : Below w.heap.size w W) : InL L w W' b' s' := by
  obtain ⟨R', b1, b2, b3⟩ := h
  refine ⟨R', b1, fun k hk => ?_, h3.trans (b2.below h3.size h2)⟩
  rcases b3 k hk with h | h
  · exact h2 k h
  · exact Nat.le_trans h3.size h
/-- Turned in its box alone: what else it reads lies where it lay, or in new memory. -/
def ToB (L : World → (Nat → Prop) → Nat → T → Prop) (w : World) (R : Nat → Prop) (w' : World) (b : Nat) (s : T) : Prop := ∃ R', L w' R' b s ∧ Only (fun k => k = b) w w' ∧ ∀ k, R' k → R k ∨ w.heap.size ≤ k
theorem ToB.to (h : ToB L w R w' b s) (hb : R b) : ToL L w R w' b s := by
  obtain ⟨R', a1, a2, a3⟩ := h
  exact ⟨R', a1, a2.mono (fun i e => .inl (by rw [e]; exact hb)), a3⟩
theorem ToB.of_below (O : ObjL L) (h : L w R b s) (hb : Below w.heap.size w w') : ToB L w R w' b s := ⟨R, O.below h hb, Only.of_below hb, fun _ h => .inl h⟩
theorem ToB.below (O : ObjL L) {w2 : World} (h : ToB L w R w' b s) (hb : Below w'.heap.size w' w2) : ToB L w R w2 b s := by
  obtain ⟨Ra, a1, a2, a3⟩ := h
  exact ⟨Ra, O.below a1 hb, a2.trans (R' := fun _ => False) (Only.of_below hb) (fun _ h => h.elim), a3⟩
/-- A copy that a call made: its box is new; what else it reads may be what the first one reads, but not that one's box. -/
def CopL (L : World → (Nat → Prop) → Nat → T → Prop) (w : World) (R : Nat → Prop) (b : Nat) (w' : World) (b' : Nat) (s : T) : Prop := ∃ R', L w' R' b' s ∧ w.heap.size ≤ b' ∧ (∀ k, R' k → (R k ∧ k ≠ b) ∨ w.heap.size ≤ k) ∧ Below w.heap.size w w'
theorem CopL.bel {b' : Nat} (h : CopL L w R b w' b' s) : Below w.heap.size w w' := by
  obtain ⟨_, _, _, _, h⟩ := h
  exact h
/-- A call that turns the thing. -/
theorem InL.step {P : Program} {f : Nat} {args : Array Value} {E : Ending → Prop} {W : World} {b' : Nat} {s' : T} (h : InL L w W b s) (hc : ∀ R, L W R b s → Calls P f args W fun e W' => E e ∧ ToL L W R W' b' s') :
    Calls P f args W fun e W' => E e ∧ InL L w W' b' s' := by
  obtain ⟨R, a1, a2, a3⟩ := h
  refine (hc R a1).mono ?_
  rintro e W' ⟨he, ht⟩
  exact ⟨he, ht.inn a2 a3⟩
/-- A call that only reads it. -/
theorem InL.read {P : Program} {f : Nat} {args : Array Value} {E : Ending → Prop} (O : ObjL L) {W : World} (h : InL L w W b s) (hc : ∀ R, L W R b s → Calls P f args W fun e W' => E e ∧ Below W.heap.size W W') :
    Calls P f args W fun e W' => E e ∧ InL L w W' b s := by
  obtain ⟨R, a1, a2, a3⟩ := h
  refine (hc R a1).mono ?_
  rintro e W' ⟨he, hb⟩
  exact ⟨he, (InL.below O ⟨R, a1, a2, a3⟩ hb)⟩
end
end Go.Proofs.Ytgcafmofpflidaa
