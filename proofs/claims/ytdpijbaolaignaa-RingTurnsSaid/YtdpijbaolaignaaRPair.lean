/-
  A ring, and beside it the document's state in a box: what a call does to both.
-/
import Derived.Test.YtdpijbaolaignaaRDoes
import Derived.Test.YtdpijbaolaignaaRDo
import Derived.Test.YtdpijbaolaignaaRStands
import Derived.Test.YtdpijbaolaignaaRAlive
import Derived.Test.YtdpijbaolaignaaROps
namespace Go.Proofs.Ytdpijbaolaignaa
open Go Go.RowKit

/-- The ring at b is s', the document's row is s's; box N holds x, y, z; all that lay when the statement began (w) is as it was. -/
def PairX (w W : World) (N b : Nat) (A : Option Addr) (c : Nat) (s s' : RS ByteArray) (x y z : Value) : Prop :=
  ∃ R, RingS W R b s' ∧ (∀ i, R i → w.heap.size ≤ i ∧ i ≠ N) ∧ DocAt W A c s ∧ (∀ a, A = some a → ¬ R a.block ∧ a.block ≠ N ∧ a.block < W.heap.size) ∧ Bx3 W N 29 x y z ∧ Below w.heap.size w W ∧ w.heap.size ≤ N
abbrev PairAt (w W : World) (N b : Nat) (A : Option Addr) (c : Nat) (s : RS ByteArray) : Prop := PairX w W N b A c s s (.int .i64 (s.lim : Int)) (.slice A s.l.length c) (.int .i64 (s.i : Int))
section
variable {w W W' : World} {N b : Nat} {A : Option Addr} {c : Nat} {s s' : RS ByteArray} {x y z : Value}
theorem PairX.bel (h : PairX w W N b A c s s' x y z) : Below w.heap.size w W := by
  obtain ⟨_, _, _, _, _, _, h, _⟩ := h
  exact h
theorem PairX.box (h : PairX w W N b A c s s' x y z) : Bx3 W N 29 x y z := by
  obtain ⟨_, _, _, _, _, h, _⟩ := h
  exact h
theorem PairX.ring (h : PairX w W N b A c s s' x y z) : ∃ R, RingS W R b s' := by
  obtain ⟨R, h, _⟩ := h
  exact ⟨R, h⟩
theorem PairX.doc (h : PairX w W N b A c s s' x y z) : DocAt W A c s := by
  obtain ⟨_, _, _, h, _⟩ := h
  exact h
theorem PairX.ok (h : PairX w W N b A c s s' x y z) : s'.Ok := by
  obtain ⟨_, h, _⟩ := h
  exact h.ok
theorem PairX.below (h : PairX w W N b A c s s' x y z) (hb : Below W.heap.size W W') : PairX w W' N b A c s s' x y z := by
  obtain ⟨R, h1, h2, h3, h4, h5, h6, h7⟩ := h
  exact ⟨R, h1.below hb, h2, h3.below hb, fun a ha => ⟨(h4 a ha).1, (h4 a ha).2.1, Nat.lt_of_lt_of_le (h4 a ha).2.2 hb.size⟩, h5.below hb, h6.trans (hb.mono h6.size), h7⟩
theorem PairX.alloc (h : PairX w W N b A c s s' x y z) (o : Obj) : PairX w (W.alloc o) N b A c s s' x y z := h.below ((Below.refl _ W).alloc (Nat.le_refl _) o)
theorem PairX.drew (h : PairX w W N b A c s s' x y z) : PairX w W.drew N b A c s s' x y z := h.below (Below.refl _ W).drew
theorem PairX.drewN (h : PairX w W N b A c s s' x y z) (n : Nat) : PairX w (W.drewN n) N b A c s s' x y z := h.below (bel_drewK (Below.refl _ W) n)
/-- The program's call; what lies in blocks that were new behind the ring stays (a call's box, M). -/
theorem PairX.does (h : PairX w W N b A c s s' x y z) (o : OpD) (hs : ∀ x ∈ s'.l, ¬ 9223372036854775807 < x.size + o.t.size) (ob : Obj) :
    Calls Try.prog 13 #[.pointer (some ⟨b, 0, none⟩), .agg #[.int .i64 o.k, .string o.t]] (W.alloc ob).drew fun e W' => ∃ b', e = .returned (.pointer (some ⟨b', 0, none⟩)) ∧ PairX w W' N b' A c s (doR s' o) x y z ∧ W'.heap[W.heap.size]? = (W.alloc ob).heap[W.heap.size]? := by
  have h0 := h.bel.size
  obtain ⟨R, h1, h2, h3, h4, h5, h6, h7⟩ := h
  have hsz : (W.alloc ob).drew.heap.size = W.heap.size + 1 := World.size_alloc W ob
  have ho : Only R W (W.alloc ob).drew := ((Only.refl R W).alloc ob).drew
  have hB : Below W.heap.size W (W.alloc ob).drew := ((Below.refl _ W).alloc (Nat.le_refl _) ob).drew
  refine (does_calls (W.alloc ob).drew R b s' (h1.below hB) o hs).mono ?_
  rintro e W' ⟨b', rfl, R', r1, r2, r3⟩
  have hlt := h5.lt
  have h3' := h3.below hB
  have h5' := h5.below hB
  refine ⟨b', rfl, ⟨R', r1, fun i hi => ?_, h3'.keep r2 (fun a ha => (h4 a ha).1), fun a ha => ⟨fun hr => ?_, (h4 a ha).2.1, ?_⟩, h5'.keep r2 (fun hr => (h2 N hr).2 rfl), (h6.trans (hB.mono h6.size)).trans (r2.below (by omega) (fun i hi => (h2 i hi).1)), h7⟩, r2.block _ (by omega) (fun hr => by have := h1.lt _ hr; omega)⟩
  · rcases r3 i hi with h | h
    · exact h2 i h
    · exact ⟨by omega, fun e => by omega⟩
  · have hl := (h4 a ha).2.2
    rcases r3 _ hr with h | h
    · exact (h4 a ha).1 h
    · omega
  · have hl := (h4 a ha).2.2
    have := r2.size
    omega
/-- The document's call. -/
theorem PairX.do_ (h : PairX w W N b A c s s' x y z) (hok : s.Ok) (o : OpD) (hs : ∀ x ∈ s.l, ¬ 9223372036854775807 < x.size + o.t.size) :
    Calls Try.prog 14 #[.agg #[.int .i64 (s.lim : Int), .slice A s.l.length c, .int .i64 (s.i : Int)], .agg #[.int .i64 o.k, .string o.t]] W fun e W' => ∃ A' c', e = .returned (.agg #[.int .i64 ((doR s o).lim : Int), .slice A' (doR s o).l.length c', .int .i64 ((doR s o).i : Int)]) ∧ PairX w W' N b A' c' (doR s o) s' x y z ∧ Below W.heap.size W W' := by
  refine (rdo_calls A c s o W h.doc hok hs).mono ?_
  rintro e W' ⟨A', c', rfl, hd, hn, hb⟩
  obtain ⟨R, h1, h2, h3, h4, h5, h6, h7⟩ := h
  refine ⟨A', c', rfl, ⟨R, h1.below hb, h2, hd, fun a ha => ?_, h5.below hb, h6.trans (hb.mono h6.size), h7⟩, hb⟩
  rcases hn a ha with ⟨a0, e0, e1⟩ | ⟨e0, e1⟩
  · obtain ⟨q1, q2, q3⟩ := h4 a0 e0
    rw [e1]
    exact ⟨q1, q2, Nat.lt_of_lt_of_le q3 hb.size⟩
  · refine ⟨fun hr => by have := h1.lt _ hr; omega, fun e => by have := h5.lt; omega, e1⟩
/-- The state is stored. -/
theorem PairX.store (h : PairX w W N b A c s s' x y z) (x' y' z' : Value) : PairX w (((W.setCell ⟨N, 0, none⟩ x').setCell ⟨N, 1, none⟩ y').setCell ⟨N, 2, none⟩ z') N b A c s s' x' y' z' := by
  obtain ⟨R, h1, h2, h3, h4, h5, h6, h7⟩ := h
  have ho : Only (fun i => i = N) W (((W.setCell ⟨N, 0, none⟩ x').setCell ⟨N, 1, none⟩ y').setCell ⟨N, 2, none⟩ z') := (((Only.refl (fun i => i = N) W).set (p := ⟨N, 0, none⟩) (.inl rfl) _).set (p := ⟨N, 1, none⟩) (.inl rfl) _).set (p := ⟨N, 2, none⟩) (.inl rfl) _
  exact ⟨R, h1.keep ho (fun i hi e => (h2 i hi).2 e), h2, h3.keep ho (fun a ha => (h4 a ha).2.1), fun a ha => ⟨(h4 a ha).1, (h4 a ha).2.1, Nat.lt_of_lt_of_le (h4 a ha).2.2 ho.size⟩, ((h5.set0 _).set1 _).set2 _, h6.trans (ho.below h6.size (fun i hi => by omega)), h7⟩
theorem PairX.step {f : Nat} {args : Array Value} {E : Ending → Prop} {s'' : RS ByteArray} (h : PairX w W N b A c s s' x y z) (hc : ∀ R, RingS W R b s' → Calls Try.prog f args W fun e W' => E e ∧ RingToS W R W' b s'') :
    Calls Try.prog f args W fun e W' => E e ∧ PairX w W' N b A c s s'' x y z := by
  obtain ⟨R, h1, h2, h3, h4, h5, h6, h7⟩ := h
  refine (hc R h1).mono ?_
  rintro e W' ⟨he, R', r1, r2, r3⟩
  have h0 := h6.size
  have hlt := h5.lt
  refine ⟨he, R', r1, fun i hi => ?_, h3.keep r2 (fun a ha => (h4 a ha).1), fun a ha => ⟨fun hr => ?_, (h4 a ha).2.1, Nat.lt_of_lt_of_le (h4 a ha).2.2 r2.size⟩, h5.keep r2 (fun hr => (h2 N hr).2 rfl), h6.trans (r2.below h0 (fun i hi => (h2 i hi).1)), h7⟩
  · rcases r3 i hi with h | h
    · exact h2 i h
    · exact ⟨by omega, fun e => by omega⟩
  · have hl := (h4 a ha).2.2
    rcases r3 _ hr with h | h
    · exact (h4 a ha).1 h
    · omega
/-- Another row of the document's, in new memory. -/
theorem PairX.redoc {A' : Option Addr} {c' : Nat} {t : RS ByteArray} (h : PairX w W N b A c s s' x y z) (hb : Below W.heap.size W W') (hd : DocAt W' A' c' t) (hA : ∀ a, A' = some a → W.heap.size ≤ a.block ∧ a.block < W'.heap.size) : PairX w W' N b A' c' t s' x y z := by
  obtain ⟨R, h1, h2, h3, h4, h5, h6, h7⟩ := h
  refine ⟨R, h1.below hb, h2, hd, fun a ha => ?_, h5.below hb, h6.trans (hb.mono h6.size), h7⟩
  obtain ⟨e0, e1⟩ := hA a ha
  exact ⟨fun hr => by have := h1.lt _ hr; omega, fun e => by have := h5.lt; omega, e1⟩
theorem PairX.set (h : PairX w W N b A c s s' x y z) (i : Nat) (u : Value) {x' y' z' : Value} (hb : Bx3 (W.setCell ⟨N, i, none⟩ u) N 29 x' y' z') : PairX w (W.setCell ⟨N, i, none⟩ u) N b A c s s' x' y' z' := by
  obtain ⟨R, h1, h2, h3, h4, h5, h6, h7⟩ := h
  have ho : Only (fun i => i = N) W (W.setCell ⟨N, i, none⟩ u) := (Only.refl (fun i => i = N) W).set (p := ⟨N, i, none⟩) (.inl rfl) _
  exact ⟨R, h1.keep ho (fun i hi e => (h2 i hi).2 e), h2, h3.keep ho (fun a ha => (h4 a ha).2.1), fun a ha => ⟨(h4 a ha).1, (h4 a ha).2.1, Nat.lt_of_lt_of_le (h4 a ha).2.2 ho.size⟩, hb, h6.trans (ho.below h6.size (fun i hi => by omega)), h7⟩
/-- Held against each other. -/
theorem PairX.stands (h : PairX w W N b A c s s x y z) :
    Calls Try.prog 15 #[.pointer (some ⟨b, 0, none⟩), .agg #[.int .i64 (s.lim : Int), .slice A s.l.length c, .int .i64 (s.i : Int)]] W fun e W' => e = .returned (.bool true) ∧ Below W.heap.size W W' := by
  obtain ⟨R, h1⟩ := h.ring
  exact stands_calls W R b s h1 A c h.doc
end
end Go.Proofs.Ytdpijbaolaignaa
