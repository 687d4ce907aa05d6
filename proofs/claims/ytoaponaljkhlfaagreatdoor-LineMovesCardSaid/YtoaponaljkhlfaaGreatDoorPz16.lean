/-
  Layer 7 and what it stands on, part 16 (LnAt).
-/
import Derived.Test.YtoaponaljkhlfaaGreatDoorPz10
import Derived.Test.YtoaponaljkhlfaaGreatDoorPz15
namespace Go.Proofs.YtoaponaljkhlfaaGreatDoor
section
open Go Go.RowKit
def kdL : Lst → Int
 | .none => 0
 | .kill => 1
 | .yank _ _ => 2
def frL : Lst → Int
 | .none => 0
 | .kill => 0
 | .yank f _ => (f : Int)
def toL : Lst → Int
 | .none => 0
 | .kill => 0
 | .yank _ t => (t : Int)
abbrev dV (l : Lst) : Value := .agg #[.int .i64 (kdL l), .int .i64 (frL l), .int .i64 (toL l)]
def lnC (g r : Nat) (l : Lst) : List Value := [.pointer (some ⟨g, 0, none⟩), .pointer (some ⟨r, 0, none⟩), .int .i64 (kdL l), .int .i64 (frL l), .int .i64 (toL l)]
abbrev spB : Nat := 0
theorem spans_lt {w : World} (h : Spans w) : spB < w.heap.size := by
 obtain ⟨t, fr, h⟩ := h
 exact (Array.getElem?_eq_some_iff.1 h).1
theorem spans_only {w w' : World} {O : Nat → Prop} (h : Spans w) (ho : Only O w w') (hn : ¬ O spB) : Spans w' := by
 have hl := spans_lt h
 obtain ⟨t, fr, h⟩ := h
 exact ⟨t, fr, (ho.block _ hl hn).trans h⟩
structure LineAt (w : World) (O F : Nat → Prop) (b : Nat) (s : LN) (g r : Nat) (Rl Rr : Nat → Prop) : Prop where
 ok : s.Ok
 box : BxA w b 62 (lnC g r s.last)
 log : LogB w Rl g s.log
 ring : RingS w Rr r s.ring
 nl : ¬ Rl b
 nr : ¬ Rr b
 dis : ∀ k, Rl k → ¬ Rr k
 hO : ∀ k, O k ↔ k = b ∨ k = g ∨ Rr k
 hF : ∀ k, F k ↔ Rl k ∧ k ≠ g
 sp : spB < w.heap.size ∧ ¬ O spB
def LineL (w : World) (O F : Nat → Prop) (b : Nat) (s : LN) : Prop := ∃ g r Rl Rr, LineAt w O F b s g r Rl Rr
theorem objLn : ObjF LineL where
 keep := fun {w w' O F R' b s} h ho hd => by
  obtain ⟨g, r, Rl, Rr, h⟩ := h
  have hn : ∀ k, Rl k → ¬ R' k := fun k hk => by
   by_cases e : k = g
   ·exact hd k (.inl ((h.hO k).2 (.inr (.inl e))))
   ·exact hd k (.inr ((h.hF k).2 ⟨hk, e⟩))
  exact ⟨g, r, Rl, Rr, h.ok, h.box.keep ho (hd b (.inl ((h.hO b).2 (.inl rfl)))), objB.keep h.log ho hn, h.ring.keep ho (fun k hk => hd k (.inl ((h.hO k).2 (.inr (.inr hk))))), h.nl, h.nr, h.dis, h.hO, h.hF, ⟨Nat.lt_of_lt_of_le h.sp.1 ho.size, h.sp.2⟩⟩
 lt := fun h k hk => by
  obtain ⟨g, r, Rl, Rr, h⟩ := h
  rcases hk with hk | hk
  ·rcases (h.hO k).1 hk with rfl | rfl | hk
   ·exact h.box.lt
   ·exact h.log.lt _ h.log.ins
   ·exact h.ring.lt _ hk
  ·exact h.log.lt _ ((h.hF k).1 hk).1
 ins := fun h => by
  obtain ⟨g, r, Rl, Rr, h⟩ := h
  exact (h.hO _).2 (.inl rfl)
 dis := fun h k hk hf => by
  obtain ⟨g, r, Rl, Rr, h⟩ := h
  have h1 := (h.hF k).1 hf
  rcases (h.hO k).1 hk with rfl | rfl | hk
  ·exact h.nl h1.1
  ·exact h1.2 rfl
  ·exact h.dis k h1.1 hk
theorem line_ok {w : World} {O F : Nat → Prop} {b : Nat} {s : LN} (h : LineL w O F b s) : s.Ok := by
 obtain ⟨g, r, Rl, Rr, h⟩ := h
 exact h.ok
abbrev ToLn := ToF LineL
abbrev InLn := InF LineL
section
variable {T : Type} {L : World → (Nat → Prop) → (Nat → Prop) → Nat → T → Prop} {w w1 w2 : World} {O F : Nat → Prop} {b b' : Nat} {s s' : T}
theorem ToF.refl (h : L w O F b s) : ToF L w O F w b s := ⟨O, F, h, Only.refl _ _, fun _ h => .inl h, fun _ h => .inl h⟩
theorem ToF.trans (h : ToF L w O F w1 b s) (h2 : ∀ O1 F1, L w1 O1 F1 b s → ToF L w1 O1 F1 w2 b' s') : ToF L w O F w2 b' s' := by
 obtain ⟨O1, F1, a1, a2, a3, a4⟩ := h
 obtain ⟨O2, F2, b1, b2, b3, b4⟩ := h2 O1 F1 a1
 refine ⟨O2, F2, b1, a2.trans b2 a3, fun k hk => ?_, fun k hk => ?_⟩
 ·exact (b3 k hk).elim (a3 k) (fun h => .inr (Nat.le_trans a2.size h))
 ·exact (b4 k hk).elim (a4 k) (fun h => .inr (Nat.le_trans a2.size h))
theorem ToF.below (OB : ObjF L) (h : ToF L w O F w1 b s) (hb : Below w1.heap.size w1 w2) : ToF L w O F w2 b s := h.trans (fun O1 F1 h1 => ⟨O1, F1, OB.below h1 hb, Only.of_below hb, fun _ h => .inl h, fun _ h => .inl h⟩)
theorem ToF.of_below (OB : ObjF L) (h : L w O F b s) (hb : Below w.heap.size w w1) : ToF L w O F w1 b s := (ToF.refl h).below OB hb
end
section
variable {w w' : World} {O F : Nat → Prop} {b : Nat} {s : LN} {g r : Nat} {Rl Rr : Nat → Prop}
theorem LineAt.bg (h : LineAt w O F b s g r Rl Rr) : b ≠ g := fun e => h.nl (by rw [e]; exact h.log.ins)
theorem LineAt.line (h : LineAt w O F b s g r Rl Rr) : LineL w O F b s := ⟨g, r, Rl, Rr, h⟩
theorem LineAt.below (h : LineAt w O F b s g r Rl Rr) (hb : Below w.heap.size w w') : LineAt w' O F b s g r Rl Rr := ⟨h.ok, h.box.below hb, objB.below h.log hb, h.ring.below hb, h.nl, h.nr, h.dis, h.hO, h.hF, ⟨Nat.lt_of_lt_of_le h.sp.1 hb.size, h.sp.2⟩⟩
def StepF (w : World) (O F : Nat → Prop) (w' : World) (O' F' : Nat → Prop) : Prop := Only O w w' ∧ (∀ k, O' k → O k ∨ w.heap.size ≤ k) ∧ ∀ k, F' k → F k ∨ w.heap.size ≤ k
theorem StepF.below (O F : Nat → Prop) (hb : Below w.heap.size w w') : StepF w O F w' O F := ⟨Only.of_below hb, fun _ h => .inl h, fun _ h => .inl h⟩
theorem StepF.trans {w2 : World} {O1 F1 O2 F2 : Nat → Prop} (h : StepF w O F w' O1 F1) (k : StepF w' O1 F1 w2 O2 F2) : StepF w O F w2 O2 F2 :=
 ⟨h.1.trans k.1 h.2.1, fun i hi => (k.2.1 i hi).elim (h.2.1 i) (fun e => .inr (Nat.le_trans h.1.size e)), fun i hi => (k.2.2 i hi).elim (h.2.2 i) (fun e => .inr (Nat.le_trans h.1.size e))⟩
theorem StepF.to {O' F' : Nat → Prop} (h : StepF w O F w' O' F') (hl : LineL w' O' F' b s) : ToLn w O F w' b s := ⟨O', F', hl, h⟩
theorem StepF.tom {O' F' : Nat → Prop} {w2 : World} (h : StepF w O F w' O' F') (hl : ToLn w' O' F' w2 b s) : ToLn w O F w2 b s := by
 obtain ⟨O2, F2, h2, h3⟩ := hl
 exact ⟨O2, F2, h2, h.trans h3⟩
theorem LineAt.log_at (h : LineAt w O F b s g r Rl Rr) {l' : LS Bf} (ht : ToBB w Rl w' g l') (hok : LN.Ok ⟨l', s.ring, s.last⟩) : ∃ Rl' F', LineAt w' O F' b ⟨l', s.ring, s.last⟩ g r Rl' Rr ∧ StepF w O F w' O F' := by
 obtain ⟨R', a1, a2, a3⟩ := ht
 have hg := h.log.lt _ h.log.ins
 refine ⟨R', fun k => R' k ∧ k ≠ g, ⟨hok, h.box.keep a2 h.bg, a1, h.ring.keep a2 (fun k hk (e : k = g) => h.dis k (by rw [e]; exact h.log.ins) hk), fun hb => ?_, h.nr, fun k hk hr => ?_, h.hO, fun k => Iff.rfl, ⟨Nat.lt_of_lt_of_le h.sp.1 a2.size, h.sp.2⟩⟩, a2.mono (fun k (e : k = g) => .inl ((h.hO k).2 (.inr (.inl e)))), fun k hk => .inl hk, fun k hk => (a3 k hk.1).imp (fun x => (h.hF k).2 ⟨x, hk.2⟩) id⟩
 ·rcases a3 b hb with h1 | h1
  ·exact h.nl h1
  ·have := h.box.lt; omega
 ·rcases a3 k hk with h1 | h1
  ·exact h.dis k h1 hr
  ·have := h.ring.lt k hr; omega
theorem LineAt.log_to (h : LineAt w O F b s g r Rl Rr) {l' : LS Bf} (ht : ToBB w Rl w' g l') (hok : LN.Ok ⟨l', s.ring, s.last⟩) : ToLn w O F w' b ⟨l', s.ring, s.last⟩ := by
 obtain ⟨_, _, h1, h2⟩ := h.log_at ht hok
 exact h2.to h1.line
theorem LineAt.ring_at (h : LineAt w O F b s g r Rl Rr) {r' : RS ByteArray} (ht : RingToS w Rr w' r r') (hok : LN.Ok ⟨s.log, r', s.last⟩) : ∃ Rr' O', LineAt w' O' F b ⟨s.log, r', s.last⟩ g r Rl Rr' ∧ StepF w O F w' O' F := by
 obtain ⟨R', a1, a2, a3⟩ := ht
 refine ⟨R', fun k => k = b ∨ k = g ∨ R' k, ⟨hok, h.box.keep a2 h.nr, objB.keep h.log a2 h.dis, a1, h.nl, fun hb => ?_, fun k hk hr => ?_, fun k => Iff.rfl, h.hF, ⟨Nat.lt_of_lt_of_le h.sp.1 a2.size, fun e => ?_⟩⟩, a2.mono (fun k hk => .inl ((h.hO k).2 (.inr (.inr hk)))), fun k hk => ?_, fun k hk => .inl hk⟩
 ·rcases a3 b hb with h1 | h1
  ·exact h.nr h1
  ·have := h.box.lt; omega
 ·rcases a3 k hr with h1 | h1
  ·exact h.dis k hk h1
  ·have := h.log.lt k hk; omega
 ·have hs := h.sp.1
  rcases e with e | e | e
  ·exact h.sp.2 ((h.hO _).2 (.inl e))
  ·exact h.sp.2 ((h.hO _).2 (.inr (.inl e)))
  ·rcases a3 _ e with h1 | h1
   ·exact h.sp.2 ((h.hO _).2 (.inr (.inr h1)))
   ·omega
 ·rcases hk with hk | hk | hk
  ·exact .inl ((h.hO k).2 (.inl hk))
  ·exact .inl ((h.hO k).2 (.inr (.inl hk)))
  ·exact (a3 k hk).imp (fun x => (h.hO k).2 (.inr (.inr x))) id
theorem LineAt.ring_to (h : LineAt w O F b s g r Rl Rr) {r' : RS ByteArray} (ht : RingToS w Rr w' r r') (hok : LN.Ok ⟨s.log, r', s.last⟩) : ToLn w O F w' b ⟨s.log, r', s.last⟩ := by
 obtain ⟨_, _, h1, h2⟩ := h.ring_at ht hok
 exact h2.to h1.line
theorem LineAt.last_to (h : LineAt w O F b s g r Rl Rr) (l : Lst) : ToLn w O F (((w.setCell ⟨b, 2, none⟩ (.int .i64 (kdL l))).setCell ⟨b, 3, none⟩ (.int .i64 (frL l))).setCell ⟨b, 4, none⟩ (.int .i64 (toL l))) b ⟨s.log, s.ring, l⟩ := by
 have ho : Only (fun k => k = b) w (((w.setCell ⟨b, 2, none⟩ (.int .i64 (kdL l))).setCell ⟨b, 3, none⟩ (.int .i64 (frL l))).setCell ⟨b, 4, none⟩ (.int .i64 (toL l))) := (((Only.refl (fun k => k = b) w).set (p := ⟨b, 2, none⟩) (.inl rfl) _).set (p := ⟨b, 3, none⟩) (.inl rfl) _).set (p := ⟨b, 4, none⟩) (.inl rfl) _
 exact ⟨O, F, ⟨g, r, Rl, Rr, ⟨h.ok.log, h.ok.lim, h.ok.rt, h.ok.ring, h.ok.rlim⟩, ((h.box.set 2 _).set 3 _).set 4 _, objB.keep h.log ho (fun k hk (e : k = b) => h.nl (by rw [← e]; exact hk)), h.ring.keep ho (fun k hk (e : k = b) => h.nr (by rw [← e]; exact hk)), h.nl, h.nr, h.dis, h.hO, h.hF, ⟨Nat.lt_of_lt_of_le h.sp.1 ho.size, h.sp.2⟩⟩, ho.mono (fun k (e : k = b) => .inl ((h.hO k).2 (.inl e))), fun k hk => .inl hk, fun k hk => .inl hk⟩
theorem LineAt.log_new (h : LineAt w O F b s g r Rl Rr) {l' : LS Bf} {g' : Nat} (ht : InL LogB w w' g' l') (hok : LN.Ok ⟨l', s.ring, s.last⟩) : ToLn w O F (w'.setCell ⟨b, 0, none⟩ (.pointer (some ⟨g', 0, none⟩))) b ⟨l', s.ring, s.last⟩ := by
 obtain ⟨R', a1, a2, a3⟩ := ht
 have hbl := h.box.lt
 have ho : Only (fun k => k = b) w' (w'.setCell ⟨b, 0, none⟩ (.pointer (some ⟨g', 0, none⟩))) := (Only.refl (fun k => k = b) w').set (p := ⟨b, 0, none⟩) (.inl rfl) _
 have hr := h.ring.below a3
 refine ⟨fun k => k = b ∨ k = g' ∨ Rr k, fun k => R' k ∧ k ≠ g', ⟨g', r, R', Rr, hok, (h.box.below a3).set 0 _, objB.keep a1 ho (fun k hk (e : k = b) => ?_), hr.keep ho (fun k hk (e : k = b) => h.nr (by rw [← e]; exact hk)), fun hb => ?_, h.nr, fun k hk hr => ?_, fun k => Iff.rfl, fun k => Iff.rfl, ⟨Nat.lt_of_lt_of_le h.sp.1 (Nat.le_trans a3.size ho.size), fun e => ?_⟩⟩, (Only.of_below a3).trans ho (fun k (e : k = b) => .inl ((h.hO k).2 (.inl e))), fun k hk => ?_, fun k hk => .inr (a2 k hk.1)⟩
 ·have := a2 k hk; omega
 ·have := a2 b hb; omega
 ·have h1 := a2 k hk; have := h.ring.lt k hr; omega
 ·rcases e with e | e | e
  ·exact h.sp.2 ((h.hO _).2 (.inl e))
  ·have h1 := a2 g' a1.ins; have := h.sp.1; omega
  ·exact h.sp.2 ((h.hO _).2 (.inr (.inr e)))
 ·rcases hk with hk | hk | hk
  ·exact .inl ((h.hO k).2 (.inl hk))
  ·exact .inr (by rw [hk]; exact a2 g' a1.ins)
  ·exact .inl ((h.hO k).2 (.inr (.inr hk)))
theorem LineAt.copied (h : LineAt w O F b s g r Rl Rr) {w1 w2 w3 : World} {g' r' b' : Nat} {R' : Nat → Prop} (hl : CopL LogB w Rl g w1 g' s.log) (h2 : Below w1.heap.size w1 w2) (hr : RingS w2 R' r' s.ring) (hr2 : ∀ k, R' k → w1.heap.size ≤ k) (h3 : Below w2.heap.size w2 w3) (hb : w2.heap.size ≤ b') (hbx : BxA w3 b' 62 (lnC g' r' s.last)) : CopF LineL w F w3 b' s := by
 obtain ⟨Rn, a1, a2, a3, a4⟩ := hl
 have e1 := a4.size
 have e2 := h2.size
 refine ⟨fun k => k = b' ∨ k = g' ∨ R' k, fun k => Rn k ∧ k ≠ g', ⟨g', r', Rn, R', h.ok, hbx, objB.below (objB.below a1 h2) h3, hr.below h3, fun hk => ?_, fun hk => ?_, fun k hk hk2 => ?_, fun k => Iff.rfl, fun k => Iff.rfl, ⟨by have := h.sp.1; have := h3.size; omega, fun e => ?_⟩⟩, fun k hk => ?_, fun k hk => ?_, (a4.trans (h2.mono e1)).trans (h3.mono (by omega))⟩
 ·have := a1.lt b' hk; omega
 ·have := hr.lt b' hk; omega
 ·have := a1.lt k hk; have := hr2 k hk2; omega
 ·have := h.sp.1
  rcases e with e | e | e
  ·omega
  ·omega
  ·have := hr2 _ e; omega
 ·rcases hk with hk | hk | hk
  ·omega
  ·omega
  ·have := hr2 k hk; omega
 ·exact (a3 k hk.1).imp (fun x => (h.hF k).2 x) id
theorem line_new {w w1 w2 w3 : World} {g r b : Nat} {l : LS Bf} {rs : RS ByteArray} {R : Nat → Prop} (hl : InL LogB w w1 g l) (h2 : Below w1.heap.size w1 w2) (hr : RingS w2 R r rs) (hr2 : ∀ k, R k → w1.heap.size ≤ k) (h3 : Below w2.heap.size w2 w3) (hb : w2.heap.size ≤ b) (hbx : BxA w3 b 62 (lnC g r .none)) (hok : LN.Ok ⟨l, rs, .none⟩) (hsp : spB < w.heap.size) : InLn w w3 b ⟨l, rs, .none⟩ := by
 obtain ⟨Rn, a1, a2, a3⟩ := hl
 have e1 := a3.size
 have e2 := h2.size
 refine ⟨fun k => k = b ∨ k = g ∨ R k, fun k => Rn k ∧ k ≠ g, ⟨g, r, Rn, R, hok, hbx, objB.below (objB.below a1 h2) h3, hr.below h3, fun hk => ?_, fun hk => ?_, fun k hk hk2 => ?_, fun k => Iff.rfl, fun k => Iff.rfl, ⟨by have := h3.size; omega, fun e => ?_⟩⟩, fun k hk => ?_, (a3.trans (h2.mono e1)).trans (h3.mono (by omega))⟩
 ·have := a1.lt b hk; omega
 ·have := hr.lt b hk; omega
 ·have := a1.lt k hk; have := hr2 k hk2; omega
 ·rcases e with e | e | e
  ·omega
  ·have := a2 g a1.ins; omega
  ·have := hr2 _ e; omega
 ·rcases hk with hk | hk | hk
  ·omega
  ·rw [hk]; exact a2 g a1.ins
  ·have := hr2 k hk; omega
end
end
end Go.Proofs.YtoaponaljkhlfaaGreatDoor
