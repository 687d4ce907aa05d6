/-
  Frames by a set of blocks; rows of things of one cell; rings in memory.
-/
import Derived.Test.YtjfikdldabmciaaDoorRow0
import Derived.Test.YtjfikdldabmciaaDoorRingMath
import Derived.Maps.AppendAt
import Derived.Laws.AppendOwnNone
import Derived.RangeFuncBox
namespace Go.Proofs.YtjfikdldabmciaaDoor
open Go Go.RowKit

/-- All blocks but those of R are as they were; none has gone. -/
structure Only (R : Nat → Prop) (w w' : World) : Prop where
  os : w'.os = w.os
  tape : w'.tape = w.tape
  output : w'.output = w.output
  size : w.heap.size ≤ w'.heap.size
  block : ∀ k, k < w.heap.size → ¬ R k → w'.heap[k]? = w.heap[k]?
theorem Only.refl (R : Nat → Prop) (w : World) : Only R w w := ⟨rfl, rfl, rfl, Nat.le_refl _, fun _ _ _ => rfl⟩
theorem Only.trans {R R' : Nat → Prop} {a b c : World} (h : Only R a b) (k : Only R' b c) (hR : ∀ i, R' i → R i ∨ a.heap.size ≤ i) : Only R a c :=
  ⟨k.os.trans h.os, k.tape.trans h.tape, k.output.trans h.output, Nat.le_trans h.size k.size, fun i hi hn => (k.block i (Nat.lt_of_lt_of_le hi h.size) (fun hr => (hR i hr).elim hn (fun h2 => by omega))).trans (h.block i hi hn)⟩
theorem Only.mono {R R' : Nat → Prop} {a b : World} (h : Only R a b) (hR : ∀ i, R i → R' i ∨ a.heap.size ≤ i) : Only R' a b := ⟨h.os, h.tape, h.output, h.size, fun i hi hn => h.block i hi (fun hr => (hR i hr).elim hn (fun h2 => by omega))⟩
theorem Only.of_below {R : Nat → Prop} {a b : World} (h : Below a.heap.size a b) : Only R a b := ⟨h.os, h.tape, h.output, h.size, fun i hi _ => h.block i hi⟩
theorem Only.of_grown {R : Nat → Prop} {a b : World} {row : Option Nat} (h : a.grownBy b row) (hr : ∀ k, row = some k → R k) : Only R a b := ⟨h.os, h.tape, h.output, h.size, fun i hi hn => h.block i hi (fun e => hn (hr i e.symm))⟩
theorem Only.grown {R : Nat → Prop} {a b c : World} {row : Option Nat} (h : Only R a b) (k : b.grownBy c row) (hr : ∀ i, row = some i → R i ∨ a.heap.size ≤ i) : Only R a c :=
  h.trans (R' := fun i => row = some i) (Only.of_grown k fun _ e => e) hr
theorem Only.alloc {R : Nat → Prop} {a b : World} (h : Only R a b) (o : Obj) : Only R a (b.alloc o) := h.trans (R' := fun _ => False) (Only.of_below ((Below.refl _ b).alloc (Nat.le_refl _) o)) (fun _ h => h.elim)
theorem Only.drew {R : Nat → Prop} {a b : World} (h : Only R a b) : Only R a b.drew := ⟨h.os, h.tape, h.output, h.size, h.block⟩
theorem Only.drewN {R : Nat → Prop} {a b : World} (h : Only R a b) (n : Nat) : Only R a (b.drewN n) := ⟨h.os, h.tape, h.output, h.size, h.block⟩
theorem Only.set {R : Nat → Prop} {a b : World} (h : Only R a b) {p : Addr} (hp : R p.block ∨ a.heap.size ≤ p.block) (u : Value) : Only R a (b.setCell p u) :=
  h.trans (R' := fun i => i = p.block) ⟨rfl, rfl, rfl, by simp [World.setCell], fun i _ hn => Below.heap_setCell b p u i hn⟩ (fun i e => by rw [e]; exact hp)
theorem Only.below {R : Nat → Prop} {a b : World} (h : Only R a b) {B : Nat} (hB : B ≤ a.heap.size) (hR : ∀ i, R i → B ≤ i) : Below B a b :=
  ⟨h.os, h.tape, h.output, h.size, fun i hi => h.block i (by omega) (fun hr => by have := hR i hr; omega)⟩
/-- A cell of another's. -/
theorem Only.cell {R : Nat → Prop} {a b : World} (h : Only R a b) {p : Addr} {v : Value} (hc : a.cell? p = some v) (hn : ¬ R p.block) : b.cell? p = some v :=
  (World.cell?_of_block (w := a) (h.block p.block (World.block_lt_of_cell? _ _ hc) hn)).trans hc

section
variable {w : World} {b : Nat} {t : TypeId} {x y z : Value}
/-- Boxes of three cells. -/
def Bx3 (w : World) (g : Nat) (t : TypeId) (x y z : Value) : Prop := w.heap[g]? = some (.cells #[x, y, z] t (0, 0))
theorem Bx3.lt (h : Bx3 w b t x y z) : b < w.heap.size := (Array.getElem?_eq_some_iff.1 h).1
theorem Bx3.c0 (h : Bx3 w b t x y z) : w.cell? ⟨b, 0, none⟩ = some x := by simp [World.cell?, show w.heap[b]? = _ from h]
theorem Bx3.c1 (h : Bx3 w b t x y z) : w.cell? ⟨b, 1, none⟩ = some y := by simp [World.cell?, show w.heap[b]? = _ from h]
theorem Bx3.c2 (h : Bx3 w b t x y z) : w.cell? ⟨b, 2, none⟩ = some z := by simp [World.cell?, show w.heap[b]? = _ from h]
theorem Bx3.f0 (h : Bx3 w b t x y z) : w.frozen? ⟨b, 0, none⟩ = false := by simp [World.frozen?, show w.heap[b]? = _ from h]
theorem Bx3.f1 (h : Bx3 w b t x y z) : w.frozen? ⟨b, 1, none⟩ = false := by simp [World.frozen?, show w.heap[b]? = _ from h]
theorem Bx3.f2 (h : Bx3 w b t x y z) : w.frozen? ⟨b, 2, none⟩ = false := by simp [World.frozen?, show w.heap[b]? = _ from h]
theorem Bx3.set0 (h : Bx3 w b t x y z) (v : Value) : Bx3 (w.setCell ⟨b, 0, none⟩ v) b t v y z := by
  obtain ⟨hlt, hk⟩ := Array.getElem?_eq_some_iff.1 h
  show (w.heap.modify b _)[b]? = _
  rw [Array.getElem?_eq_getElem (by rw [Array.size_modify]; exact hlt), Array.getElem_modify_self, hk]
  rfl
theorem Bx3.set1 (h : Bx3 w b t x y z) (v : Value) : Bx3 (w.setCell ⟨b, 1, none⟩ v) b t x v z := by
  obtain ⟨hlt, hk⟩ := Array.getElem?_eq_some_iff.1 h
  show (w.heap.modify b _)[b]? = _
  rw [Array.getElem?_eq_getElem (by rw [Array.size_modify]; exact hlt), Array.getElem_modify_self, hk]
  rfl
theorem Bx3.set2 (h : Bx3 w b t x y z) (v : Value) : Bx3 (w.setCell ⟨b, 2, none⟩ v) b t x y v := by
  obtain ⟨hlt, hk⟩ := Array.getElem?_eq_some_iff.1 h
  show (w.heap.modify b _)[b]? = _
  rw [Array.getElem?_eq_getElem (by rw [Array.size_modify]; exact hlt), Array.getElem_modify_self, hk]
  rfl
theorem Bx3.keep {w' : World} {R : Nat → Prop} (h : Bx3 w b t x y z) (ho : Only R w w') (hn : ¬ R b) : Bx3 w' b t x y z := (ho.block b h.lt hn).trans h
theorem Bx3.below {w' : World} (h : Bx3 w b t x y z) (hb : Below w.heap.size w w') : Bx3 w' b t x y z := (hb.block b h.lt).trans h
theorem Bx3.new (w : World) (t : TypeId) (x y z : Value) : Bx3 (w.alloc (.cells #[x, y, z] t)) w.heap.size t x y z := World.alloc_heap_new w _
theorem Bx3.alloc (h : Bx3 w b t x y z) (o : Obj) : Bx3 (w.alloc o) b t x y z := h.below ((Below.refl _ w).alloc (Nat.le_refl _) o)
theorem Bx3.other {g i : Nat} (h : Bx3 w b t x y z) (hne : b ≠ g) (v : Value) : Bx3 (w.setCell ⟨g, i, none⟩ v) b t x y z := (Below.heap_setCell w ⟨g, i, none⟩ v b (by simpa using hne)).trans h
end
section
variable {α : Type} (V : α → Value)
/-- A slice of things that reads as ls. -/
def RdV (w : World) (A : Option Addr) (ls : List α) : Prop := 0 < ls.length → ∃ g o, A = some ⟨g, o, none⟩ ∧ g < w.heap.size ∧ ∀ i x, ls[i]? = some x → w.cell? ⟨g, o + i, none⟩ = some (V x)
variable {V}
theorem RdV.at_ {w : World} {A : Option Addr} {ls : List α} (h : RdV V w A ls) (hn : 0 < ls.length) : ∃ g o, A = some ⟨g, o, none⟩ ∧ g < w.heap.size ∧ ∀ i x, ls[i]? = some x → w.cell? ⟨g, o + i, none⟩ = some (V x) := h hn
theorem RdV.keep {w w' : World} {A : Option Addr} {ls : List α} {R : Nat → Prop} (h : RdV V w A ls) (ho : Only R w w') (hA : ∀ a, A = some a → ¬ R a.block) : RdV V w' A ls := fun hn => by
  obtain ⟨g, o, e, hg, hc⟩ := h hn
  exact ⟨g, o, e, Nat.lt_of_lt_of_le hg ho.size, fun i x hi => ho.cell (hc i x hi) (show ¬ R g from hA ⟨g, o, none⟩ e)⟩
theorem RdV.below {w w' : World} {A : Option Addr} {ls : List α} (h : RdV V w A ls) (hb : Below w.heap.size w w') : RdV V w' A ls := h.keep (R := fun _ => False) (Only.of_below hb) (fun _ _ h => h)
theorem RdV.alloc {w : World} {A : Option Addr} {ls : List α} (h : RdV V w A ls) (o : Obj) : RdV V (w.alloc o) A ls := h.below ((Below.refl _ w).alloc (Nat.le_refl _) o)
theorem RdV.drew {w : World} {A : Option Addr} {ls : List α} (h : RdV V w A ls) : RdV V w.drew A ls := h
theorem RdV.take {w : World} {A : Option Addr} {ls : List α} (h : RdV V w A ls) (k : Nat) : RdV V w A (ls.take k) := fun hn => by
  rw [List.length_take] at hn
  obtain ⟨g, o, e, hg, hc⟩ := h (by omega)
  refine ⟨g, o, e, hg, fun i x hi => hc i x ?_⟩
  rw [List.getElem?_take] at hi
  split at hi
  · exact hi
  · cases hi
theorem RdV.tail {w : World} {g o : Nat} {ls : List α} (h : RdV V w (some ⟨g, o, none⟩) ls) : RdV V w (some ⟨g, o + 1, none⟩) ls.tail := fun hn => by
  rw [List.length_tail] at hn
  obtain ⟨g', o', e, hg, hc⟩ := h (by omega)
  injection e with e
  injection e with e1 e2
  subst e1; subst e2
  refine ⟨g, o + 1, rfl, hg, fun i x hi => ?_⟩
  rw [List.getElem?_tail] at hi
  rw [Nat.add_assoc, Nat.add_comm 1 i]
  exact hc (i + 1) x hi
theorem rdV_of_own {w : World} {base e : Nat} {A : Option Addr} {c n : Nat} {ls : List α} (h : w.ownsRow base e 1 (.slice A n c) ls.length (ls.map V)) : RdV V w A ls ∧ n = ls.length ∧ ls.length ≤ c ∧ c ≤ maxLen ∧ (A = none → c = 0) := by
  rcases h.2 with ⟨hv, h0⟩ | ⟨g, cap, cur, hv, _, hh, hnc, hcm, _⟩
  · injection hv with h1 h2 h3
    subst h1; subst h2; subst h3
    exact ⟨fun hn => by omega, h0.symm, by omega, by unfold maxLen; omega, fun _ => rfl⟩
  · injection hv with h1 h2 h3
    subst h1; subst h2; subst h3
    refine ⟨fun hn => ⟨g, 0, rfl, (Array.getElem?_eq_some_iff.1 hh).1, fun i x hi => ?_⟩, rfl, hnc, hcm, fun h => by cases h⟩
    have := h.cells (g := g) rfl i (V x) (by simp [hi])
    rw [Addr.add_lit] at this
    exact this
/-- An append to a row of the call's own, by its run. -/
theorem run_append_V {P : Program} (hV : ∀ x : α, (V x).oneCell' = true) (w : World) (base : Nat) (t ty e : TypeId) (i : TypeInfo) (z : Value) (bytes : Nat) (ht : P.underlying t = some (.slice e)) (hi : P.info? e = some i) (hz : i.zero = some z) (hsize : i.size = 1) (hby : i.bytes = bytes) (hzs : z.cells.size = 1) (hb16 : bytes ≤ 16)
    (v : Value) (n : Nat) (xs : List α) (hn : n = xs.length) (hown : w.ownsRow base e 1 v n (xs.map V)) (A : Option Addr) (m c : Nat) (ms : List α) (hm : m = ms.length) (hA : A = none → c = 0) (hR : RdV V w A ms) (hb : xs.length + ms.length ≤ 1099511627776) (hbase : base ≤ w.heap.size) :
    ∃ v' w', (Builtin.append_ #[t, t] ty #[v, .slice A m c]).run P w = .ok v' w' ∧ w'.ownsRow base e 1 v' (n + m) ((xs ++ ms).map V) ∧ w.grownBy w' v.ownBlock ∧ (v'.ownBlock = v.ownBlock ∨ v'.ownBlock = some w.heap.size) := by
  subst hn; subst hm
  rw [List.map_append]
  rcases A with _ | ad
  · obtain rfl := hA rfl
    have h0 : ms = [] := by
      by_cases hn : 0 < ms.length
      · obtain ⟨_, _, e, _⟩ := hR hn; cases e
      · exact List.eq_nil_of_length_eq_zero (by omega)
    subst h0
    exact ⟨v, w, run_append_owned_none (P := P) (w := w) base t ty e i 1 ht hi v xs.length (xs.map V) hown, by simpa using hown, World.grownBy.refl w _, .inl rfl⟩
  · obtain ⟨v', w', hr, h2, h3, _, h5⟩ := run_append_own_at (P := P) w base t ty e i z 1 bytes ht hi hz hsize hby hzs (by decide) v xs.length (xs.map V) hown ad ms.length c (ms.map V) (by rw [List.length_map]; omega) (by
      intro j u hu
      have hj : j < ms.length := by
        have := (List.getElem?_eq_some_iff.1 hu).1
        rwa [List.length_map] at this
      obtain ⟨g, o, e, _, hc⟩ := hR (by omega)
      injection e with e
      subst e
      rw [List.getElem?_map, Option.map_eq_some_iff] at hu
      obtain ⟨x, hx, rfl⟩ := hu
      rw [Addr.add_lit]
      exact hc j x hx) (by
      intro u hu
      rw [List.mem_map] at hu
      obtain ⟨x, _, rfl⟩ := hu
      exact hV x) (by unfold maxLen; omega) (by
      have := Nat.mul_le_mul_left (xs.length + ms.length) hb16
      omega) hbase
    exact ⟨v', w', hr, h2, h3, h5⟩
theorem own_oneV (w : World) (base e : Nat) (x : α) (hb : base ≤ w.heap.size) : (w.alloc (.cells #[V x] e)).ownsRow base e 1 (.slice (some ⟨w.heap.size, 0, none⟩) 1 1) 1 ([x].map V) :=
  ⟨rfl, .inr ⟨w.heap.size, 1, #[V x], rfl, hb, heap_alloc_new w _, by simp, by unfold maxLen; omega, by simp, by simp⟩⟩
/-- A thing put in another's place. -/
theorem own_set0 {w : World} {base e : Nat} {g n c : Nat} {x : α} {t : List α} (h : w.ownsRow base e 1 (.slice (some ⟨g, 0, none⟩) n c) n ((x :: t).map V)) (y : α) : (w.setCell ⟨g, 0, none⟩ (V y)).ownsRow base e 1 (.slice (some ⟨g, 0, none⟩) n c) n ((y :: t).map V) := by
  obtain ⟨h1, h2⟩ := h
  refine ⟨by simpa using h1, ?_⟩
  rcases h2 with ⟨hv, _⟩ | ⟨g', cap, cur, hv, hb, hh, hnc, hcm, hcs, htk⟩
  · cases hv
  · injection hv with e1 e2 e3
    injection e1 with e1
    injection e1 with e1
    subst e1; subst e3
    refine .inr ⟨g, c, cur.setIfInBounds 0 (V y), rfl, hb, ?_, hnc, hcm, by simpa using hcs, ?_⟩
    · show (w.heap.modify g _)[g]? = _
      rw [Array.getElem?_eq_getElem (by rw [Array.size_modify]; exact (Array.getElem?_eq_some_iff.1 hh).1), Array.getElem_modify_self, (Array.getElem?_eq_some_iff.1 hh).2]
      rfl
    · obtain ⟨l⟩ := cur
      simp only [Array.toList_setIfInBounds] at *
      cases l with
      | nil => simp at htk
      | cons a l =>
        cases n with
        | zero => simp at htk
        | succ n => simp at htk; simpa using htk.2

/-- A ring's box, and its row: all its blocks are of R; they are there. -/
structure RingAt (V : α → Value) (e tS : TypeId) (w : World) (R : Nat → Prop) (b : Nat) (s : RS α) : Prop where
  ok : s.Ok
  ins : R b
  lt : ∀ k, R k → k < w.heap.size
  mem : ∃ v, w.heap[b]? = some (.cells #[.int .i64 (s.lim : Int), v, .int .i64 (s.i : Int)] tS (0, 0)) ∧ w.ownsRow 0 e 1 v s.l.length (s.l.map V) ∧ ∀ g, v.ownBlock = some g → R g
variable {e tS : TypeId} {w w' : World} {R : Nat → Prop} {b : Nat} {s : RS α}
theorem RingAt.keep {R' : Nat → Prop} (h : RingAt V e tS w R b s) (ho : Only R' w w') (hd : ∀ k, R k → ¬ R' k) : RingAt V e tS w' R b s := by
  obtain ⟨v, h1, h2, h3⟩ := h.mem
  refine ⟨h.ok, h.ins, fun k hk => Nat.lt_of_lt_of_le (h.lt k hk) ho.size, v, (ho.block b (h.lt b h.ins) (hd b h.ins)).trans h1, ⟨h2.1, ?_⟩, h3⟩
  rcases h2.2 with h4 | ⟨g, cap, cur, hv, hg, hh, r⟩
  · exact .inl h4
  · exact .inr ⟨g, cap, cur, hv, hg, (ho.block g (Array.getElem?_eq_some_iff.1 hh).1 (hd g (h3 g (by rw [hv]; rfl)))).trans hh, r⟩
theorem RingAt.below (h : RingAt V e tS w R b s) (hb : Below w.heap.size w w') : RingAt V e tS w' R b s := h.keep (R' := fun _ => False) (Only.of_below hb) (fun _ _ h => h)
theorem RingAt.drew (h : RingAt V e tS w R b s) : RingAt V e tS w.drew R b s := h.below ((Below.refl _ w).drew)
theorem RingAt.drewN (h : RingAt V e tS w R b s) (n : Nat) : RingAt V e tS (w.drewN n) R b s := ⟨h.ok, h.ins, h.lt, h.mem⟩
theorem RingAt.alloc (h : RingAt V e tS w R b s) (o : Obj) : RingAt V e tS (w.alloc o) R b s := h.below ((Below.refl _ w).alloc (Nat.le_refl _) o)
/-- A ring is cells alone. -/
theorem ring_own {row : Option Nat} (h : RingAt V e tS w R b s) (hg : w.grownBy w' row) (hr : ∀ r, row = some r → ∃ o : Obj, w.heap[r]? = some o ∧ o.isCells = false) : RingAt V e tS w' R b s := by
  obtain ⟨v, h1, h2, h3⟩ := h.mem
  have hb : w'.heap[b]? = w.heap[b]? := hg.block b (h.lt b h.ins) (fun e2 => by obtain ⟨o, ho, hc⟩ := hr b e2.symm; rw [h1] at ho; cases ho; cases hc)
  refine ⟨h.ok, h.ins, fun k hk => Nat.lt_of_lt_of_le (h.lt k hk) hg.size, v, hb.trans h1, ⟨h2.1, ?_⟩, h3⟩
  rcases h2.2 with h4 | ⟨g, cap, cur, hv, hg2, hh, r⟩
  · exact .inl h4
  · exact .inr ⟨g, cap, cur, hv, hg2, (hg.block g (Array.getElem?_eq_some_iff.1 hh).1 (fun e2 => by obtain ⟨o, ho, hc⟩ := hr g e2.symm; rw [hh] at ho; cases ho; cases hc)).trans hh, r⟩
/-- What a walk takes of a ring. -/
theorem RingAt.open_ (h : RingAt V e tS w R b s) : ∃ A c, w.heap[b]? = some (.cells #[.int .i64 (s.lim : Int), .slice A s.l.length c, .int .i64 (s.i : Int)] tS (0, 0)) ∧ w.ownsRow 0 e 1 (.slice A s.l.length c) s.l.length (s.l.map V) ∧ (∀ g, (Value.slice A s.l.length c).ownBlock = some g → R g) ∧ RdV V w A s.l ∧ s.l.length ≤ c ∧ c ≤ maxLen ∧ (A = none → c = 0) := by
  obtain ⟨v, h1, h2, h3⟩ := h.mem
  obtain ⟨A, c, rfl⟩ := own_form h2
  obtain ⟨h4, _, h5, h6, h7⟩ := rdV_of_own h2
  exact ⟨A, c, h1, h2, h3, h4, h5, h6, h7⟩
theorem own_only {w w' : World} {base e n : Nat} {v : Value} {xs : List Value} {R : Nat → Prop} (h : w.ownsRow base e 1 v n xs) (ho : Only R w w') (hd : ∀ g, v.ownBlock = some g → ¬ R g) : w'.ownsRow base e 1 v n xs := by
  refine ⟨h.1, ?_⟩
  rcases h.2 with h4 | ⟨g, cap, cur, hv, hg, hh, r⟩
  · exact .inl h4
  · exact .inr ⟨g, cap, cur, hv, hg, (ho.block g (Array.getElem?_eq_some_iff.1 hh).1 (hd g (by rw [hv]; rfl))).trans hh, r⟩
/-- A row of things does not lie in a box of another kind. -/
theorem own_apart {w : World} {base e tS n b : Nat} {v : Value} {xs : List Value} {cs : Array Value} (hne : e ≠ tS) (hb : w.heap[b]? = some (.cells cs tS (0, 0))) (h : w.ownsRow base e 1 v n xs) : ∀ g, v.ownBlock = some g → g ≠ b := by
  intro g hg e2
  subst e2
  rcases h.2 with ⟨hv, _⟩ | ⟨g', cap, cur, hv, _, hh, _⟩
  · rw [hv] at hg; cases hg
  · rw [hv] at hg
    injection hg with hg
    simp only at hg
    subst hg
    rw [hb] at hh
    injection hh with hh
    injection hh with _ h2
    exact hne h2.symm
theorem own_cells {w : World} {base e n : Nat} {v : Value} {xs : List Value} (h : w.ownsRow base e 1 v n xs) {j : Nat} {o : Obj} (ej : v.ownBlock = some j) (hj : w.heap[j]? = some o) : o.isCells = true := by
  rcases h.2 with ⟨rfl, _⟩ | ⟨g, cap, cur, rfl, _, hgb, _⟩
  · simp [Value.ownBlock] at ej
  · obtain rfl : g = j := by simpa [Value.ownBlock] using ej
    rw [hgb] at hj; cases hj; rfl
theorem only_set (w : World) (p : Addr) (u : Value) : Only (fun k => k = p.block) w (w.setCell p u) := (Only.refl (fun k => k = p.block) w).set (.inl rfl) u
theorem bel_drewK {B : Nat} {a w : World} (h : Below B a w) (n : Nat) : Below B a (w.drewN n) := ⟨h.os, h.tape, h.output, h.size, h.block⟩
/-- A turned ring in a world that was turned nowhere else. -/
def RingTo (V : α → Value) (e tS : TypeId) (w : World) (R : Nat → Prop) (w' : World) (b : Nat) (s : RS α) : Prop := ∃ R', RingAt V e tS w' R' b s ∧ Only R w w' ∧ ∀ k, R' k → R k ∨ w.heap.size ≤ k
theorem RingTo.trans {w1 w2 : World} {b' : Nat} {s1 s2 : RS α} (h1 : RingTo V e tS w R w1 b s1) (h2 : ∀ R1, RingAt V e tS w1 R1 b s1 → RingTo V e tS w1 R1 w2 b' s2) : RingTo V e tS w R w2 b' s2 := by
  obtain ⟨Ra, a1, a2, a3⟩ := h1
  obtain ⟨Rb, b1, b2, b3⟩ := h2 Ra a1
  refine ⟨Rb, b1, a2.trans b2 a3, fun k hk => ?_⟩
  rcases b3 k hk with h | h
  · exact a3 k h
  · exact .inr (Nat.le_trans a2.size h)
theorem RingTo.drew (h : RingTo V e tS w R w' b s) : RingTo V e tS w R w'.drew b s := by
  obtain ⟨Ra, a1, a2, a3⟩ := h
  exact ⟨Ra, a1.drew, a2.drew, a3⟩
theorem RingTo.drewN (h : RingTo V e tS w R w' b s) (n : Nat) : RingTo V e tS w R (w'.drewN n) b s := by
  obtain ⟨Ra, a1, a2, a3⟩ := h
  exact ⟨Ra, a1.drewN n, a2.drewN n, a3⟩
theorem RingTo.below {w2 : World} (h : RingTo V e tS w R w' b s) (hb : Below w'.heap.size w' w2) : RingTo V e tS w R w2 b s := by
  obtain ⟨Ra, a1, a2, a3⟩ := h
  exact ⟨Ra, a1.below hb, a2.trans (R' := fun _ => False) (Only.of_below hb) (fun _ h => h.elim), a3⟩
/-- A ring that a call made (it began at w): all that lay ahead of the call is as it was. -/
def RingIn (V : α → Value) (e tS : TypeId) (w W : World) (b : Nat) (s : RS α) : Prop := ∃ R, RingAt V e tS W R b s ∧ (∀ k, R k → w.heap.size ≤ k) ∧ Below w.heap.size w W
theorem RingIn.bel {W : World} (h : RingIn V e tS w W b s) : Below w.heap.size w W := by
  obtain ⟨_, _, _, h⟩ := h
  exact h
theorem RingIn.to {W W' : World} {b' : Nat} {s' : RS α} (h : RingIn V e tS w W b s) (h2 : ∀ R, RingAt V e tS W R b s → RingTo V e tS W R W' b' s') : RingIn V e tS w W' b' s' := by
  obtain ⟨R, a1, a2, a3⟩ := h
  obtain ⟨R', b1, b2, b3⟩ := h2 R a1
  refine ⟨R', b1, fun k hk => ?_, a3.trans (b2.below a3.size a2)⟩
  rcases b3 k hk with h | h
  · exact a2 k h
  · exact Nat.le_trans a3.size h
theorem RingTo.from_ {W W' : World} {b' : Nat} {s' : RS α} (h : RingTo V e tS W R W' b' s') (ho : Only R w W) : RingTo V e tS w R W' b' s' := by
  obtain ⟨R', b1, b2, b3⟩ := h
  exact ⟨R', b1, ho.trans b2 (fun _ h => .inl h), fun k hk => (b3 k hk).imp id (fun h => Nat.le_trans ho.size h)⟩
theorem RingTo.inn {W W' : World} {b' : Nat} {s' : RS α} (h : RingTo V e tS W R W' b' s') (h2 : ∀ k, R k → w.heap.size ≤ k) (h3 : Below w.heap.size w W) : RingIn V e tS w W' b' s' := by
  obtain ⟨R', b1, b2, b3⟩ := h
  refine ⟨R', b1, fun k hk => ?_, h3.trans (b2.below h3.size h2)⟩
  rcases b3 k hk with h | h
  · exact h2 k h
  · exact Nat.le_trans h3.size h
theorem RingIn.below {W W' : World} (h : RingIn V e tS w W b s) (hb : Below W.heap.size W W') : RingIn V e tS w W' b s := by
  obtain ⟨R, a1, a2, a3⟩ := h
  exact ⟨R, a1.below hb, a2, a3.trans (hb.mono a3.size)⟩
theorem RingAt.refl (h : RingAt V e tS w R b s) : RingTo V e tS w R w b s := ⟨R, h, Only.refl _ _, fun _ h => .inl h⟩
/-- A new row, and the place at the newest one. -/
theorem ring_put (h : RingAt V e tS w R b s) {w2 : World} (ho : Only (fun _ => False) w w2) {v : Value} {ls : List α} (hown : w2.ownsRow 0 e 1 v ls.length (ls.map V)) (hnew : ∀ g, v.ownBlock = some g → w.heap.size ≤ g) (hok : (⟨s.lim, ls, 0⟩ : RS α).Ok) :
    RingTo V e tS w R ((w2.setCell ⟨b, 1, none⟩ v).setCell ⟨b, 2, none⟩ (.int .i64 0)) b ⟨s.lim, ls, 0⟩ := by
  have h' := h.keep ho (fun _ _ h => h)
  obtain ⟨u, h1, h2, h3⟩ := h'.mem
  have hlt := h.lt b h.ins
  have k1 := only_set w2 ⟨b, 1, none⟩ v
  have k2 := only_set (w2.setCell ⟨b, 1, none⟩ v) ⟨b, 2, none⟩ (.int .i64 0)
  have o1 : Only (fun k => k = b) w2 ((w2.setCell ⟨b, 1, none⟩ v).setCell ⟨b, 2, none⟩ (.int .i64 0)) := k1.trans k2 (fun _ h => .inl h)
  have o2 : Only R w ((w2.setCell ⟨b, 1, none⟩ v).setCell ⟨b, 2, none⟩ (.int .i64 0)) := (ho.mono (R' := R) (fun _ h => h.elim)).trans o1 (fun i e => .inl (by rw [e]; exact h.ins))
  refine ⟨fun k => R k ∨ (w.heap.size ≤ k ∧ k < w2.heap.size), ⟨hok, .inl h.ins, fun k hk => ?_, v, (Bx3.set2 (Bx3.set1 h1 v) _ : Bx3 _ _ _ _ _ _), own_only hown o1 (fun g hg (e2 : g = b) => by have := hnew g hg; omega), fun g hg => .inr ⟨hnew g hg, (hown.lt g hg).2⟩⟩, o2, fun k hk => hk.imp id (fun h => h.1)⟩
  have hs := o1.size
  rcases hk with hk | hk
  · exact Nat.lt_of_lt_of_le (h.lt k hk) o2.size
  · omega
theorem own_head {n c : Nat} {A : Option Addr} {x : Value} {t : List Value} (h : w.ownsRow 0 e 1 (.slice A n c) n (x :: t)) : ∃ g, A = some ⟨g, 0, none⟩ ∧ w.frozen? ⟨g, 0, none⟩ = false ∧ w.cell? ⟨g, 0, none⟩ = some x := by
  have hx := h.1
  rcases h.2 with ⟨hv, h0⟩ | ⟨g, cap, cur, hv, _, hh, _⟩
  · rw [h0] at hx; simp at hx
  · injection hv with e1 e2 e3
    subst e1
    refine ⟨g, rfl, by simp [World.frozen?, hh], ?_⟩
    have := h.cells (g := g) rfl 0 x rfl
    rw [Addr.add_lit] at this
    exact this
/-- The newest thing is another one. -/
theorem ring_first (hne : e ≠ tS) (h : RingAt V e tS w R b s) {g c : Nat} {x : α} {t : List α} (hl : s.l = x :: t) (h1 : w.heap[b]? = some (.cells #[.int .i64 (s.lim : Int), .slice (some ⟨g, 0, none⟩) s.l.length c, .int .i64 (s.i : Int)] tS (0, 0)))
    (h2 : w.ownsRow 0 e 1 (.slice (some ⟨g, 0, none⟩) s.l.length c) s.l.length (s.l.map V)) (hin : R g) (y : α) (hok : (⟨s.lim, y :: t, 0⟩ : RS α).Ok) :
    RingTo V e tS w R ((w.setCell ⟨g, 0, none⟩ (V y)).setCell ⟨b, 2, none⟩ (.int .i64 0)) b ⟨s.lim, y :: t, 0⟩ := by
  have hgb : g ≠ b := own_apart hne h1 h2 g rfl
  have k1 := only_set w ⟨g, 0, none⟩ (V y)
  have k2 := only_set (w.setCell ⟨g, 0, none⟩ (V y)) ⟨b, 2, none⟩ (.int .i64 0)
  have hlen : s.l.length = (y :: t).length := by rw [hl]; rfl
  rw [hlen] at h1
  rw [hl] at h2
  have o1 := own_set0 (V := V) (y := y) (x := x) (t := t) (by simpa using h2)
  have b1 : Bx3 (w.setCell ⟨g, 0, none⟩ (V y)) b tS _ _ _ := (show Bx3 w b tS _ _ _ from h1).other (fun e => hgb e.symm) (V y)
  have hR : Only R w ((w.setCell ⟨g, 0, none⟩ (V y)).setCell ⟨b, 2, none⟩ (.int .i64 0)) := (k1.mono (R' := R) (fun i (e : i = g) => .inl (by rw [e]; exact hin))).trans (k2.mono (R' := R) (fun i (e : i = b) => .inl (by rw [e]; exact h.ins))) (fun _ h => .inl h)
  exact ⟨R, ⟨hok, h.ins, fun k hk => Nat.lt_of_lt_of_le (h.lt k hk) hR.size, _, b1.set2 _, own_only o1 k2 (fun g' hg (e : g' = b) => hgb (by injection hg with hg; simp only at hg; rw [hg]; exact e)), fun g' hg => by injection hg with hg; simp only at hg; rw [← hg]; exact hin⟩, hR, fun _ h => .inl h⟩
/-- One thing more, behind the others: what an append leaves, stored. -/
theorem ring_app (hne : e ≠ tS) (h : RingAt V e tS w R b s) {v : Value} (h1 : w.heap[b]? = some (.cells #[.int .i64 (s.lim : Int), v, .int .i64 (s.i : Int)] tS (0, 0))) (hin : ∀ g, v.ownBlock = some g → R g) (hown0 : w.ownsRow 0 e 1 v s.l.length (s.l.map V)) {w2 : World} (tmp : Obj) {v' : Value} {ls : List α} (hg : (w.drew.alloc tmp).grownBy w2 v.ownBlock) (hb' : v'.ownBlock = v.ownBlock ∨ v'.ownBlock = some (w.drew.alloc tmp).heap.size) (hown : w2.ownsRow 0 e 1 v' ls.length (ls.map V)) (hok : (⟨s.lim, ls, s.i⟩ : RS α).Ok) :
    Bx3 w2 b tS (.int .i64 (s.lim : Int)) v (.int .i64 (s.i : Int)) ∧ RingTo V e tS w R (w2.setCell ⟨b, 1, none⟩ v') b ⟨s.lim, ls, s.i⟩ := by
  have hsz : (w.drew.alloc tmp).heap.size = w.heap.size + 1 := World.size_alloc w.drew tmp
  have ho : Only R w w2 := (((Only.refl R w).drew).alloc tmp).grown hg (fun i e => .inl (hin i e))
  have hb2 : Bx3 w2 b tS (.int .i64 (s.lim : Int)) v (.int .i64 (s.i : Int)) := by
    have hlt := h.lt b h.ins
    refine (hg.block b (by omega) (fun e2 => own_apart hne h1 hown0 b e2.symm rfl)).trans ?_
    exact (Below.heap_alloc w.drew tmp b hlt).trans h1
  refine ⟨hb2, ?_⟩
  have k1 := only_set w2 ⟨b, 1, none⟩ v'
  have o2 : Only R w (w2.setCell ⟨b, 1, none⟩ v') := ho.trans k1 (fun i (e : i = b) => .inl (by rw [e]; exact h.ins))
  refine ⟨fun k => R k ∨ (w.heap.size ≤ k ∧ k < w2.heap.size), ⟨hok, .inl h.ins, fun k hk => ?_, v', hb2.set1 v', own_only hown k1 (fun g hg (e2 : g = b) => own_apart hne hb2 hown g hg e2), fun g hg => ?_⟩, o2, fun k hk => hk.imp id (fun h => h.1)⟩
  · rcases hk with hk | hk
    · exact Nat.lt_of_lt_of_le (h.lt k hk) o2.size
    · have := k1.size
      omega
  · rcases hb' with hb' | hb'
    · exact .inl (hin g (hb'.symm.trans hg))
    · rw [hg] at hb'
      injection hb' with hb'
      exact .inr ⟨by omega, (hown.lt g hg).2⟩
/-- It stands elsewhere. -/
theorem ring_stand (hne : e ≠ tS) (h : RingAt V e tS w R b s) (j : Nat) (hok : (⟨s.lim, s.l, j⟩ : RS α).Ok) : RingTo V e tS w R (w.setCell ⟨b, 2, none⟩ (.int .i64 (j : Int))) b ⟨s.lim, s.l, j⟩ := by
  obtain ⟨v, h1, h2, h3⟩ := h.mem
  have ho := only_set w ⟨b, 2, none⟩ (.int .i64 (j : Int))
  have hR := ho.mono (R' := R) (fun i (e : i = b) => .inl (by rw [e]; exact h.ins))
  refine ⟨R, ⟨hok, h.ins, fun k hk => Nat.lt_of_lt_of_le (h.lt k hk) hR.size, v, ?_, own_only h2 ho (fun g hg (e : g = b) => own_apart hne h1 h2 g hg e), h3⟩, hR, fun _ h => .inl h⟩
  obtain ⟨hlt, hk⟩ := Array.getElem?_eq_some_iff.1 h1
  show (w.heap.modify b _)[b]? = _
  rw [Array.getElem?_eq_getElem (by rw [Array.size_modify]; exact hlt), Array.getElem_modify_self, hk]
  rfl
end

end Go.Proofs.YtjfikdldabmciaaDoor
