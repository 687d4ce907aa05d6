/-
  Layer 7 and what it stands on, part 9 (RingAt LnObj BxA RowW Obj LogRow).
-/
import Derived.Test.YtoaponaljkhlfaaGreatDoorPt4
import Derived.Test.YtoaponaljkhlfaaGreatDoorPt5
import Derived.Maps.AppendAt
import Derived.Laws.AppendOwnNone
import Derived.RangeFuncBox
namespace Go.Proofs.YtoaponaljkhlfaaGreatDoor
section
open Go Go.RowKit
/-- All blocks but those of R are as they were; none has gone. -/
structure Only (R : Nat → Prop) (w w' : World) : Prop where
  os : w'.os = w.os
  tape : w'.tape = w.tape
  output : w'.output = w.output
  size : w.heap.size ≤ w'.heap.size
  block : ∀ k, k < w.heap.size → ¬ R k → w'.heap[k]? = w.heap[k]?
theorem Only.refl (R : Nat → Prop) (w : World) : Only R w w := ⟨rfl, rfl, rfl, Nat.le_refl _, fun _ _ _ => rfl⟩
theorem Only.trans {R R' : Nat → Prop} {a b c : World} (h : Only R a b) (k : Only R' b c) (hR : ∀ i, R' i → R i ∨ a.heap.size ≤ i) : Only R a c :=
  ⟨k.os.trans h.os, k.tape.trans h.tape, k.output.trans h.output, Nat.le_trans h.size k.size, fun i hi hn => (k.block i (Nat.lt_of_lt_of_le hi h.size) (fun hr => (hR i hr).elim hn (fun h2 => by omega))).trans (h.block i hi hn)⟩
theorem Only.mono {R R' : Nat → Prop} {a b : World} (h : Only R a b) (hR : ∀ i, R i → R' i ∨ a.heap.size ≤ i) : Only R' a b := ⟨h.os, h.tape, h.output, h.size, fun i hi hn => h.block i hi (fun hr => (hR i hr).elim hn (fun h2 => by omega))⟩
theorem Only.of_below {R : Nat → Prop} {a b : World} (h : Below a.heap.size a b) : Only R a b := ⟨h.os, h.tape, h.output, h.size, fun i hi _ => h.block i hi⟩
theorem Only.of_grown {R : Nat → Prop} {a b : World} {row : Option Nat} (h : a.grownBy b row) (hr : ∀ k, row = some k → R k) : Only R a b := ⟨h.os, h.tape, h.output, h.size, fun i hi hn => h.block i hi (fun e => hn (hr i e.symm))⟩
theorem Only.grown {R : Nat → Prop} {a b c : World} {row : Option Nat} (h : Only R a b) (k : b.grownBy c row) (hr : ∀ i, row = some i → R i ∨ a.heap.size ≤ i) : Only R a c :=
  h.trans (R' := fun i => row = some i) (Only.of_grown k fun _ e => e) hr
theorem Only.alloc {R : Nat → Prop} {a b : World} (h : Only R a b) (o : Obj) : Only R a (b.alloc o) := h.trans (R' := fun _ => False) (Only.of_below ((Below.refl _ b).alloc (Nat.le_refl _) o)) (fun _ h => h.elim)
theorem Only.drew {R : Nat → Prop} {a b : World} (h : Only R a b) : Only R a b.drew := ⟨h.os, h.tape, h.output, h.size, h.block⟩
theorem Only.drewN {R : Nat → Prop} {a b : World} (h : Only R a b) (n : Nat) : Only R a (b.drewN n) := ⟨h.os, h.tape, h.output, h.size, h.block⟩
theorem Only.set {R : Nat → Prop} {a b : World} (h : Only R a b) {p : Addr} (hp : R p.block ∨ a.heap.size ≤ p.block) (u : Value) : Only R a (b.setCell p u) :=
  h.trans (R' := fun i => i = p.block) ⟨rfl, rfl, rfl, by simp [World.setCell], fun i _ hn => Below.heap_setCell b p u i hn⟩ (fun i e => by rw [e]; exact hp)
theorem Only.below {R : Nat → Prop} {a b : World} (h : Only R a b) {B : Nat} (hB : B ≤ a.heap.size) (hR : ∀ i, R i → B ≤ i) : Below B a b :=
  ⟨h.os, h.tape, h.output, h.size, fun i hi => h.block i (by omega) (fun hr => by have := hR i hr; omega)⟩
/-- A cell of another's. -/
theorem Only.cell {R : Nat → Prop} {a b : World} (h : Only R a b) {p : Addr} {v : Value} (hc : a.cell? p = some v) (hn : ¬ R p.block) : b.cell? p = some v :=
  (World.cell?_of_block (w := a) (h.block p.block (World.block_lt_of_cell? _ _ hc) hn)).trans hc
section
variable {w : World} {b : Nat} {t : TypeId} {x y z : Value}
/-- Boxes of three cells. -/
def Bx3 (w : World) (g : Nat) (t : TypeId) (x y z : Value) : Prop := w.heap[g]? = some (.cells #[x, y, z] t (0, 0))
theorem Bx3.lt (h : Bx3 w b t x y z) : b < w.heap.size := (Array.getElem?_eq_some_iff.1 h).1
theorem Bx3.c0 (h : Bx3 w b t x y z) : w.cell? ⟨b, 0, none⟩ = some x := by simp [World.cell?, show w.heap[b]? = _ from h]
theorem Bx3.c1 (h : Bx3 w b t x y z) : w.cell? ⟨b, 1, none⟩ = some y := by simp [World.cell?, show w.heap[b]? = _ from h]
theorem Bx3.c2 (h : Bx3 w b t x y z) : w.cell? ⟨b, 2, none⟩ = some z := by simp [World.cell?, show w.heap[b]? = _ from h]
theorem Bx3.f0 (h : Bx3 w b t x y z) : w.frozen? ⟨b, 0, none⟩ = false := by simp [World.frozen?, show w.heap[b]? = _ from h]
theorem Bx3.f1 (h : Bx3 w b t x y z) : w.frozen? ⟨b, 1, none⟩ = false := by simp [World.frozen?, show w.heap[b]? = _ from h]
theorem Bx3.f2 (h : Bx3 w b t x y z) : w.frozen? ⟨b, 2, none⟩ = false := by simp [World.frozen?, show w.heap[b]? = _ from h]
theorem Bx3.set0 (h : Bx3 w b t x y z) (v : Value) : Bx3 (w.setCell ⟨b, 0, none⟩ v) b t v y z := by
  obtain ⟨hlt, hk⟩ := Array.getElem?_eq_some_iff.1 h
  show (w.heap.modify b _)[b]? = _
  rw [Array.getElem?_eq_getElem (by rw [Array.size_modify]; exact hlt), Array.getElem_modify_self, hk]
  rfl
theorem Bx3.set1 (h : Bx3 w b t x y z) (v : Value) : Bx3 (w.setCell ⟨b, 1, none⟩ v) b t x v z := by
  obtain ⟨hlt, hk⟩ := Array.getElem?_eq_some_iff.1 h
  show (w.heap.modify b _)[b]? = _
  rw [Array.getElem?_eq_getElem (by rw [Array.size_modify]; exact hlt), Array.getElem_modify_self, hk]
  rfl
theorem Bx3.set2 (h : Bx3 w b t x y z) (v : Value) : Bx3 (w.setCell ⟨b, 2, none⟩ v) b t x y v := by
  obtain ⟨hlt, hk⟩ := Array.getElem?_eq_some_iff.1 h
  show (w.heap.modify b _)[b]? = _
  rw [Array.getElem?_eq_getElem (by rw [Array.size_modify]; exact hlt), Array.getElem_modify_self, hk]
  rfl
theorem Bx3.keep {w' : World} {R : Nat → Prop} (h : Bx3 w b t x y z) (ho : Only R w w') (hn : ¬ R b) : Bx3 w' b t x y z := (ho.block b h.lt hn).trans h
theorem Bx3.below {w' : World} (h : Bx3 w b t x y z) (hb : Below w.heap.size w w') : Bx3 w' b t x y z := (hb.block b h.lt).trans h
theorem Bx3.new (w : World) (t : TypeId) (x y z : Value) : Bx3 (w.alloc (.cells #[x, y, z] t)) w.heap.size t x y z := World.alloc_heap_new w _
theorem Bx3.alloc (h : Bx3 w b t x y z) (o : Obj) : Bx3 (w.alloc o) b t x y z := h.below ((Below.refl _ w).alloc (Nat.le_refl _) o)
theorem Bx3.other {g i : Nat} (h : Bx3 w b t x y z) (hne : b ≠ g) (v : Value) : Bx3 (w.setCell ⟨g, i, none⟩ v) b t x y z := (Below.heap_setCell w ⟨g, i, none⟩ v b (by simpa using hne)).trans h
end
section
variable {α : Type} (V : α → Value)
/-- A slice of things that reads as ls. -/
def RdV (w : World) (A : Option Addr) (ls : List α) : Prop := 0 < ls.length → ∃ g o, A = some ⟨g, o, none⟩ ∧ g < w.heap.size ∧ ∀ i x, ls[i]? = some x → w.cell? ⟨g, o + i, none⟩ = some (V x)
variable {V}
theorem RdV.at_ {w : World} {A : Option Addr} {ls : List α} (h : RdV V w A ls) (hn : 0 < ls.length) : ∃ g o, A = some ⟨g, o, none⟩ ∧ g < w.heap.size ∧ ∀ i x, ls[i]? = some x → w.cell? ⟨g, o + i, none⟩ = some (V x) := h hn
theorem RdV.keep {w w' : World} {A : Option Addr} {ls : List α} {R : Nat → Prop} (h : RdV V w A ls) (ho : Only R w w') (hA : ∀ a, A = some a → ¬ R a.block) : RdV V w' A ls := fun hn => by
  obtain ⟨g, o, e, hg, hc⟩ := h hn
  exact ⟨g, o, e, Nat.lt_of_lt_of_le hg ho.size, fun i x hi => ho.cell (hc i x hi) (show ¬ R g from hA ⟨g, o, none⟩ e)⟩
theorem RdV.below {w w' : World} {A : Option Addr} {ls : List α} (h : RdV V w A ls) (hb : Below w.heap.size w w') : RdV V w' A ls := h.keep (R := fun _ => False) (Only.of_below hb) (fun _ _ h => h)
theorem RdV.alloc {w : World} {A : Option Addr} {ls : List α} (h : RdV V w A ls) (o : Obj) : RdV V (w.alloc o) A ls := h.below ((Below.refl _ w).alloc (Nat.le_refl _) o)
theorem RdV.drew {w : World} {A : Option Addr} {ls : List α} (h : RdV V w A ls) : RdV V w.drew A ls := h
theorem RdV.take {w : World} {A : Option Addr} {ls : List α} (h : RdV V w A ls) (k : Nat) : RdV V w A (ls.take k) := fun hn => by
  rw [List.length_take] at hn
  obtain ⟨g, o, e, hg, hc⟩ := h (by omega)
  refine ⟨g, o, e, hg, fun i x hi => hc i x ?_⟩
  rw [List.getElem?_take] at hi
  split at hi
  · exact hi
  · cases hi
theorem RdV.tail {w : World} {g o : Nat} {ls : List α} (h : RdV V w (some ⟨g, o, none⟩) ls) : RdV V w (some ⟨g, o + 1, none⟩) ls.tail := fun hn => by
  rw [List.length_tail] at hn
  obtain ⟨g', o', e, hg, hc⟩ := h (by omega)
  injection e with e
  injection e with e1 e2
  subst e1; subst e2
  refine ⟨g, o + 1, rfl, hg, fun i x hi => ?_⟩
  rw [List.getElem?_tail] at hi
  rw [Nat.add_assoc, Nat.add_comm 1 i]
  exact hc (i + 1) x hi
theorem rdV_of_own {w : World} {base e : Nat} {A : Option Addr} {c n : Nat} {ls : List α} (h : w.ownsRow base e 1 (.slice A n c) ls.length (ls.map V)) : RdV V w A ls ∧ n = ls.length ∧ ls.length ≤ c ∧ c ≤ maxLen ∧ (A = none → c = 0) := by
  rcases h.2 with ⟨hv, h0⟩ | ⟨g, cap, cur, hv, _, hh, hnc, hcm, _⟩
  · injection hv with h1 h2 h3
    subst h1; subst h2; subst h3
    exact ⟨fun hn => by omega, h0.symm, by omega, by unfold maxLen; omega, fun _ => rfl⟩
  · injection hv with h1 h2 h3
    subst h1; subst h2; subst h3
    refine ⟨fun hn => ⟨g, 0, rfl, (Array.getElem?_eq_some_iff.1 hh).1, fun i x hi => ?_⟩, rfl, hnc, hcm, fun h => by cases h⟩
    have := h.cells (g := g) rfl i (V x) (by simp [hi])
    rw [Addr.add_lit] at this
    exact this
/-- An append to a row of the call's own, by its run. -/
theorem run_append_V {P : Program} (hV : ∀ x : α, (V x).oneCell' = true) (w : World) (base : Nat) (t ty e : TypeId) (i : TypeInfo) (z : Value) (bytes : Nat) (ht : P.underlying t = some (.slice e)) (hi : P.info? e = some i) (hz : i.zero = some z) (hsize : i.size = 1) (hby : i.bytes = bytes) (hzs : z.cells.size = 1) (hb16 : bytes ≤ 16)
    (v : Value) (n : Nat) (xs : List α) (hn : n = xs.length) (hown : w.ownsRow base e 1 v n (xs.map V)) (A : Option Addr) (m c : Nat) (ms : List α) (hm : m = ms.length) (hA : A = none → c = 0) (hR : RdV V w A ms) (hb : xs.length + ms.length ≤ 1099511627776) (hbase : base ≤ w.heap.size) :
    ∃ v' w', (Builtin.append_ #[t, t] ty #[v, .slice A m c]).run P w = .ok v' w' ∧ w'.ownsRow base e 1 v' (n + m) ((xs ++ ms).map V) ∧ w.grownBy w' v.ownBlock ∧ (v'.ownBlock = v.ownBlock ∨ v'.ownBlock = some w.heap.size) := by
  subst hn; subst hm
  rw [List.map_append]
  rcases A with _ | ad
  · obtain rfl := hA rfl
    have h0 : ms = [] := by
      by_cases hn : 0 < ms.length
      · obtain ⟨_, _, e, _⟩ := hR hn; cases e
      · exact List.eq_nil_of_length_eq_zero (by omega)
    subst h0
    exact ⟨v, w, run_append_owned_none (P := P) (w := w) base t ty e i 1 ht hi v xs.length (xs.map V) hown, by simpa using hown, World.grownBy.refl w _, .inl rfl⟩
  · obtain ⟨v', w', hr, h2, h3, _, h5⟩ := run_append_own_at (P := P) w base t ty e i z 1 bytes ht hi hz hsize hby hzs (by decide) v xs.length (xs.map V) hown ad ms.length c (ms.map V) (by rw [List.length_map]; omega) (by
      intro j u hu
      have hj : j < ms.length := by
        have := (List.getElem?_eq_some_iff.1 hu).1
        rwa [List.length_map] at this
      obtain ⟨g, o, e, _, hc⟩ := hR (by omega)
      injection e with e
      subst e
      rw [List.getElem?_map, Option.map_eq_some_iff] at hu
      obtain ⟨x, hx, rfl⟩ := hu
      rw [Addr.add_lit]
      exact hc j x hx) (by
      intro u hu
      rw [List.mem_map] at hu
      obtain ⟨x, _, rfl⟩ := hu
      exact hV x) (by unfold maxLen; omega) (by
      have := Nat.mul_le_mul_left (xs.length + ms.length) hb16
      omega) hbase
    exact ⟨v', w', hr, h2, h3, h5⟩
theorem own_oneV (w : World) (base e : Nat) (x : α) (hb : base ≤ w.heap.size) : (w.alloc (.cells #[V x] e)).ownsRow base e 1 (.slice (some ⟨w.heap.size, 0, none⟩) 1 1) 1 ([x].map V) :=
  ⟨rfl, .inr ⟨w.heap.size, 1, #[V x], rfl, hb, heap_alloc_new w _, by simp, by unfold maxLen; omega, by simp, by simp⟩⟩
/-- A thing put in another's place. -/
theorem own_set0 {w : World} {base e : Nat} {g n c : Nat} {x : α} {t : List α} (h : w.ownsRow base e 1 (.slice (some ⟨g, 0, none⟩) n c) n ((x :: t).map V)) (y : α) : (w.setCell ⟨g, 0, none⟩ (V y)).ownsRow base e 1 (.slice (some ⟨g, 0, none⟩) n c) n ((y :: t).map V) := by
  obtain ⟨h1, h2⟩ := h
  refine ⟨by simpa using h1, ?_⟩
  rcases h2 with ⟨hv, _⟩ | ⟨g', cap, cur, hv, hb, hh, hnc, hcm, hcs, htk⟩
  · cases hv
  · injection hv with e1 e2 e3
    injection e1 with e1
    injection e1 with e1
    subst e1; subst e3
    refine .inr ⟨g, c, cur.setIfInBounds 0 (V y), rfl, hb, ?_, hnc, hcm, by simpa using hcs, ?_⟩
    · show (w.heap.modify g _)[g]? = _
      rw [Array.getElem?_eq_getElem (by rw [Array.size_modify]; exact (Array.getElem?_eq_some_iff.1 hh).1), Array.getElem_modify_self, (Array.getElem?_eq_some_iff.1 hh).2]
      rfl
    · obtain ⟨l⟩ := cur
      simp only [Array.toList_setIfInBounds] at *
      cases l with
      | nil => simp at htk
      | cons a l =>
        cases n with
        | zero => simp at htk
        | succ n => simp at htk; simpa using htk.2
/-- A ring's box, and its row: all its blocks are of R; they are there. -/
structure RingAt (V : α → Value) (e tS : TypeId) (w : World) (R : Nat → Prop) (b : Nat) (s : RS α) : Prop where
  ok : s.Ok
  ins : R b
  lt : ∀ k, R k → k < w.heap.size
  mem : ∃ v, w.heap[b]? = some (.cells #[.int .i64 (s.lim : Int), v, .int .i64 (s.i : Int)] tS (0, 0)) ∧ w.ownsRow 0 e 1 v s.l.length (s.l.map V) ∧ ∀ g, v.ownBlock = some g → R g
variable {e tS : TypeId} {w w' : World} {R : Nat → Prop} {b : Nat} {s : RS α}
theorem RingAt.keep {R' : Nat → Prop} (h : RingAt V e tS w R b s) (ho : Only R' w w') (hd : ∀ k, R k → ¬ R' k) : RingAt V e tS w' R b s := by
  obtain ⟨v, h1, h2, h3⟩ := h.mem
  refine ⟨h.ok, h.ins, fun k hk => Nat.lt_of_lt_of_le (h.lt k hk) ho.size, v, (ho.block b (h.lt b h.ins) (hd b h.ins)).trans h1, ⟨h2.1, ?_⟩, h3⟩
  rcases h2.2 with h4 | ⟨g, cap, cur, hv, hg, hh, r⟩
  · exact .inl h4
  · exact .inr ⟨g, cap, cur, hv, hg, (ho.block g (Array.getElem?_eq_some_iff.1 hh).1 (hd g (h3 g (by rw [hv]; rfl)))).trans hh, r⟩
theorem RingAt.below (h : RingAt V e tS w R b s) (hb : Below w.heap.size w w') : RingAt V e tS w' R b s := h.keep (R' := fun _ => False) (Only.of_below hb) (fun _ _ h => h)
theorem RingAt.drew (h : RingAt V e tS w R b s) : RingAt V e tS w.drew R b s := h.below ((Below.refl _ w).drew)
theorem RingAt.drewN (h : RingAt V e tS w R b s) (n : Nat) : RingAt V e tS (w.drewN n) R b s := ⟨h.ok, h.ins, h.lt, h.mem⟩
theorem RingAt.alloc (h : RingAt V e tS w R b s) (o : Obj) : RingAt V e tS (w.alloc o) R b s := h.below ((Below.refl _ w).alloc (Nat.le_refl _) o)
/-- A ring is cells alone. -/
theorem ring_own {row : Option Nat} (h : RingAt V e tS w R b s) (hg : w.grownBy w' row) (hr : ∀ r, row = some r → ∃ o : Obj, w.heap[r]? = some o ∧ o.isCells = false) : RingAt V e tS w' R b s := by
  obtain ⟨v, h1, h2, h3⟩ := h.mem
  have hb : w'.heap[b]? = w.heap[b]? := hg.block b (h.lt b h.ins) (fun e2 => by obtain ⟨o, ho, hc⟩ := hr b e2.symm; rw [h1] at ho; cases ho; cases hc)
  refine ⟨h.ok, h.ins, fun k hk => Nat.lt_of_lt_of_le (h.lt k hk) hg.size, v, hb.trans h1, ⟨h2.1, ?_⟩, h3⟩
  rcases h2.2 with h4 | ⟨g, cap, cur, hv, hg2, hh, r⟩
  · exact .inl h4
  · exact .inr ⟨g, cap, cur, hv, hg2, (hg.block g (Array.getElem?_eq_some_iff.1 hh).1 (fun e2 => by obtain ⟨o, ho, hc⟩ := hr g e2.symm; rw [hh] at ho; cases ho; cases hc)).trans hh, r⟩
/-- What a walk takes of a ring. -/
theorem RingAt.open_ (h : RingAt V e tS w R b s) : ∃ A c, w.heap[b]? = some (.cells #[.int .i64 (s.lim : Int), .slice A s.l.length c, .int .i64 (s.i : Int)] tS (0, 0)) ∧ w.ownsRow 0 e 1 (.slice A s.l.length c) s.l.length (s.l.map V) ∧ (∀ g, (Value.slice A s.l.length c).ownBlock = some g → R g) ∧ RdV V w A s.l ∧ s.l.length ≤ c ∧ c ≤ maxLen ∧ (A = none → c = 0) := by
  obtain ⟨v, h1, h2, h3⟩ := h.mem
  obtain ⟨A, c, rfl⟩ := own_form h2
  obtain ⟨h4, _, h5, h6, h7⟩ := rdV_of_own h2
  exact ⟨A, c, h1, h2, h3, h4, h5, h6, h7⟩
theorem own_only {w w' : World} {base e n : Nat} {v : Value} {xs : List Value} {R : Nat → Prop} (h : w.ownsRow base e 1 v n xs) (ho : Only R w w') (hd : ∀ g, v.ownBlock = some g → ¬ R g) : w'.ownsRow base e 1 v n xs := by
  refine ⟨h.1, ?_⟩
  rcases h.2 with h4 | ⟨g, cap, cur, hv, hg, hh, r⟩
  · exact .inl h4
  · exact .inr ⟨g, cap, cur, hv, hg, (ho.block g (Array.getElem?_eq_some_iff.1 hh).1 (hd g (by rw [hv]; rfl))).trans hh, r⟩
/-- A row of things does not lie in a box of another kind. -/
theorem own_apart {w : World} {base e tS n b : Nat} {v : Value} {xs : List Value} {cs : Array Value} (hne : e ≠ tS) (hb : w.heap[b]? = some (.cells cs tS (0, 0))) (h : w.ownsRow base e 1 v n xs) : ∀ g, v.ownBlock = some g → g ≠ b := by
  intro g hg e2
  subst e2
  rcases h.2 with ⟨hv, _⟩ | ⟨g', cap, cur, hv, _, hh, _⟩
  · rw [hv] at hg; cases hg
  · rw [hv] at hg
    injection hg with hg
    simp only at hg
    subst hg
    rw [hb] at hh
    injection hh with hh
    injection hh with _ h2
    exact hne h2.symm
theorem own_cells {w : World} {base e n : Nat} {v : Value} {xs : List Value} (h : w.ownsRow base e 1 v n xs) {j : Nat} {o : Obj} (ej : v.ownBlock = some j) (hj : w.heap[j]? = some o) : o.isCells = true := by
  rcases h.2 with ⟨rfl, _⟩ | ⟨g, cap, cur, rfl, _, hgb, _⟩
  · simp [Value.ownBlock] at ej
  · obtain rfl : g = j := by simpa [Value.ownBlock] using ej
    rw [hgb] at hj; cases hj; rfl
theorem only_set (w : World) (p : Addr) (u : Value) : Only (fun k => k = p.block) w (w.setCell p u) := (Only.refl (fun k => k = p.block) w).set (.inl rfl) u
theorem bel_drewK {B : Nat} {a w : World} (h : Below B a w) (n : Nat) : Below B a (w.drewN n) := ⟨h.os, h.tape, h.output, h.size, h.block⟩
/-- A turned ring in a world that was turned nowhere else. -/
def RingTo (V : α → Value) (e tS : TypeId) (w : World) (R : Nat → Prop) (w' : World) (b : Nat) (s : RS α) : Prop := ∃ R', RingAt V e tS w' R' b s ∧ Only R w w' ∧ ∀ k, R' k → R k ∨ w.heap.size ≤ k
theorem RingTo.trans {w1 w2 : World} {b' : Nat} {s1 s2 : RS α} (h1 : RingTo V e tS w R w1 b s1) (h2 : ∀ R1, RingAt V e tS w1 R1 b s1 → RingTo V e tS w1 R1 w2 b' s2) : RingTo V e tS w R w2 b' s2 := by
  obtain ⟨Ra, a1, a2, a3⟩ := h1
  obtain ⟨Rb, b1, b2, b3⟩ := h2 Ra a1
  refine ⟨Rb, b1, a2.trans b2 a3, fun k hk => ?_⟩
  rcases b3 k hk with h | h
  · exact a3 k h
  · exact .inr (Nat.le_trans a2.size h)
theorem RingTo.drew (h : RingTo V e tS w R w' b s) : RingTo V e tS w R w'.drew b s := by
  obtain ⟨Ra, a1, a2, a3⟩ := h
  exact ⟨Ra, a1.drew, a2.drew, a3⟩
theorem RingTo.drewN (h : RingTo V e tS w R w' b s) (n : Nat) : RingTo V e tS w R (w'.drewN n) b s := by
  obtain ⟨Ra, a1, a2, a3⟩ := h
  exact ⟨Ra, a1.drewN n, a2.drewN n, a3⟩
theorem RingTo.below {w2 : World} (h : RingTo V e tS w R w' b s) (hb : Below w'.heap.size w' w2) : RingTo V e tS w R w2 b s := by
  obtain ⟨Ra, a1, a2, a3⟩ := h
  exact ⟨Ra, a1.below hb, a2.trans (R' := fun _ => False) (Only.of_below hb) (fun _ h => h.elim), a3⟩
/-- A ring that a call made (it began at w): all that lay ahead of the call is as it was. -/
def RingIn (V : α → Value) (e tS : TypeId) (w W : World) (b : Nat) (s : RS α) : Prop := ∃ R, RingAt V e tS W R b s ∧ (∀ k, R k → w.heap.size ≤ k) ∧ Below w.heap.size w W
theorem RingIn.bel {W : World} (h : RingIn V e tS w W b s) : Below w.heap.size w W := by
  obtain ⟨_, _, _, h⟩ := h
  exact h
theorem RingIn.to {W W' : World} {b' : Nat} {s' : RS α} (h : RingIn V e tS w W b s) (h2 : ∀ R, RingAt V e tS W R b s → RingTo V e tS W R W' b' s') : RingIn V e tS w W' b' s' := by
  obtain ⟨R, a1, a2, a3⟩ := h
  obtain ⟨R', b1, b2, b3⟩ := h2 R a1
  refine ⟨R', b1, fun k hk => ?_, a3.trans (b2.below a3.size a2)⟩
  rcases b3 k hk with h | h
  · exact a2 k h
  · exact Nat.le_trans a3.size h
theorem RingTo.from_ {W W' : World} {b' : Nat} {s' : RS α} (h : RingTo V e tS W R W' b' s') (ho : Only R w W) : RingTo V e tS w R W' b' s' := by
  obtain ⟨R', b1, b2, b3⟩ := h
  exact ⟨R', b1, ho.trans b2 (fun _ h => .inl h), fun k hk => (b3 k hk).imp id (fun h => Nat.le_trans ho.size h)⟩
theorem RingTo.inn {W W' : World} {b' : Nat} {s' : RS α} (h : RingTo V e tS W R W' b' s') (h2 : ∀ k, R k → w.heap.size ≤ k) (h3 : Below w.heap.size w W) : RingIn V e tS w W' b' s' := by
  obtain ⟨R', b1, b2, b3⟩ := h
  refine ⟨R', b1, fun k hk => ?_, h3.trans (b2.below h3.size h2)⟩
  rcases b3 k hk with h | h
  · exact h2 k h
  · exact Nat.le_trans h3.size h
theorem RingIn.below {W W' : World} (h : RingIn V e tS w W b s) (hb : Below W.heap.size W W') : RingIn V e tS w W' b s := by
  obtain ⟨R, a1, a2, a3⟩ := h
  exact ⟨R, a1.below hb, a2, a3.trans (hb.mono a3.size)⟩
theorem RingAt.refl (h : RingAt V e tS w R b s) : RingTo V e tS w R w b s := ⟨R, h, Only.refl _ _, fun _ h => .inl h⟩
/-- A new row, and the place at the newest one. -/
theorem ring_put (h : RingAt V e tS w R b s) {w2 : World} (ho : Only (fun _ => False) w w2) {v : Value} {ls : List α} (hown : w2.ownsRow 0 e 1 v ls.length (ls.map V)) (hnew : ∀ g, v.ownBlock = some g → w.heap.size ≤ g) (hok : (⟨s.lim, ls, 0⟩ : RS α).Ok) :
    RingTo V e tS w R ((w2.setCell ⟨b, 1, none⟩ v).setCell ⟨b, 2, none⟩ (.int .i64 0)) b ⟨s.lim, ls, 0⟩ := by
  have h' := h.keep ho (fun _ _ h => h)
  obtain ⟨u, h1, h2, h3⟩ := h'.mem
  have hlt := h.lt b h.ins
  have k1 := only_set w2 ⟨b, 1, none⟩ v
  have k2 := only_set (w2.setCell ⟨b, 1, none⟩ v) ⟨b, 2, none⟩ (.int .i64 0)
  have o1 : Only (fun k => k = b) w2 ((w2.setCell ⟨b, 1, none⟩ v).setCell ⟨b, 2, none⟩ (.int .i64 0)) := k1.trans k2 (fun _ h => .inl h)
  have o2 : Only R w ((w2.setCell ⟨b, 1, none⟩ v).setCell ⟨b, 2, none⟩ (.int .i64 0)) := (ho.mono (R' := R) (fun _ h => h.elim)).trans o1 (fun i e => .inl (by rw [e]; exact h.ins))
  refine ⟨fun k => R k ∨ (w.heap.size ≤ k ∧ k < w2.heap.size), ⟨hok, .inl h.ins, fun k hk => ?_, v, (Bx3.set2 (Bx3.set1 h1 v) _ : Bx3 _ _ _ _ _ _), own_only hown o1 (fun g hg (e2 : g = b) => by have := hnew g hg; omega), fun g hg => .inr ⟨hnew g hg, (hown.lt g hg).2⟩⟩, o2, fun k hk => hk.imp id (fun h => h.1)⟩
  have hs := o1.size
  rcases hk with hk | hk
  · exact Nat.lt_of_lt_of_le (h.lt k hk) o2.size
  · omega
theorem own_head {n c : Nat} {A : Option Addr} {x : Value} {t : List Value} (h : w.ownsRow 0 e 1 (.slice A n c) n (x :: t)) : ∃ g, A = some ⟨g, 0, none⟩ ∧ w.frozen? ⟨g, 0, none⟩ = false ∧ w.cell? ⟨g, 0, none⟩ = some x := by
  have hx := h.1
  rcases h.2 with ⟨hv, h0⟩ | ⟨g, cap, cur, hv, _, hh, _⟩
  · rw [h0] at hx; simp at hx
  · injection hv with e1 e2 e3
    subst e1
    refine ⟨g, rfl, by simp [World.frozen?, hh], ?_⟩
    have := h.cells (g := g) rfl 0 x rfl
    rw [Addr.add_lit] at this
    exact this
/-- The newest thing is another one. -/
theorem ring_first (hne : e ≠ tS) (h : RingAt V e tS w R b s) {g c : Nat} {x : α} {t : List α} (hl : s.l = x :: t) (h1 : w.heap[b]? = some (.cells #[.int .i64 (s.lim : Int), .slice (some ⟨g, 0, none⟩) s.l.length c, .int .i64 (s.i : Int)] tS (0, 0)))
    (h2 : w.ownsRow 0 e 1 (.slice (some ⟨g, 0, none⟩) s.l.length c) s.l.length (s.l.map V)) (hin : R g) (y : α) (hok : (⟨s.lim, y :: t, 0⟩ : RS α).Ok) :
    RingTo V e tS w R ((w.setCell ⟨g, 0, none⟩ (V y)).setCell ⟨b, 2, none⟩ (.int .i64 0)) b ⟨s.lim, y :: t, 0⟩ := by
  have hgb : g ≠ b := own_apart hne h1 h2 g rfl
  have k1 := only_set w ⟨g, 0, none⟩ (V y)
  have k2 := only_set (w.setCell ⟨g, 0, none⟩ (V y)) ⟨b, 2, none⟩ (.int .i64 0)
  have hlen : s.l.length = (y :: t).length := by rw [hl]; rfl
  rw [hlen] at h1
  rw [hl] at h2
  have o1 := own_set0 (V := V) (y := y) (x := x) (t := t) (by simpa using h2)
  have b1 : Bx3 (w.setCell ⟨g, 0, none⟩ (V y)) b tS _ _ _ := (show Bx3 w b tS _ _ _ from h1).other (fun e => hgb e.symm) (V y)
  have hR : Only R w ((w.setCell ⟨g, 0, none⟩ (V y)).setCell ⟨b, 2, none⟩ (.int .i64 0)) := (k1.mono (R' := R) (fun i (e : i = g) => .inl (by rw [e]; exact hin))).trans (k2.mono (R' := R) (fun i (e : i = b) => .inl (by rw [e]; exact h.ins))) (fun _ h => .inl h)
  exact ⟨R, ⟨hok, h.ins, fun k hk => Nat.lt_of_lt_of_le (h.lt k hk) hR.size, _, b1.set2 _, own_only o1 k2 (fun g' hg (e : g' = b) => hgb (by injection hg with hg; simp only at hg; rw [hg]; exact e)), fun g' hg => by injection hg with hg; simp only at hg; rw [← hg]; exact hin⟩, hR, fun _ h => .inl h⟩
/-- One thing more, behind the others: what an append leaves, stored. -/
theorem ring_app (hne : e ≠ tS) (h : RingAt V e tS w R b s) {v : Value} (h1 : w.heap[b]? = some (.cells #[.int .i64 (s.lim : Int), v, .int .i64 (s.i : Int)] tS (0, 0))) (hin : ∀ g, v.ownBlock = some g → R g) (hown0 : w.ownsRow 0 e 1 v s.l.length (s.l.map V)) {w2 : World} (tmp : Obj) {v' : Value} {ls : List α} (hg : (w.drew.alloc tmp).grownBy w2 v.ownBlock) (hb' : v'.ownBlock = v.ownBlock ∨ v'.ownBlock = some (w.drew.alloc tmp).heap.size) (hown : w2.ownsRow 0 e 1 v' ls.length (ls.map V)) (hok : (⟨s.lim, ls, s.i⟩ : RS α).Ok) :
    Bx3 w2 b tS (.int .i64 (s.lim : Int)) v (.int .i64 (s.i : Int)) ∧ RingTo V e tS w R (w2.setCell ⟨b, 1, none⟩ v') b ⟨s.lim, ls, s.i⟩ := by
  have hsz : (w.drew.alloc tmp).heap.size = w.heap.size + 1 := World.size_alloc w.drew tmp
  have ho : Only R w w2 := (((Only.refl R w).drew).alloc tmp).grown hg (fun i e => .inl (hin i e))
  have hb2 : Bx3 w2 b tS (.int .i64 (s.lim : Int)) v (.int .i64 (s.i : Int)) := by
    have hlt := h.lt b h.ins
    refine (hg.block b (by omega) (fun e2 => own_apart hne h1 hown0 b e2.symm rfl)).trans ?_
    exact (Below.heap_alloc w.drew tmp b hlt).trans h1
  refine ⟨hb2, ?_⟩
  have k1 := only_set w2 ⟨b, 1, none⟩ v'
  have o2 : Only R w (w2.setCell ⟨b, 1, none⟩ v') := ho.trans k1 (fun i (e : i = b) => .inl (by rw [e]; exact h.ins))
  refine ⟨fun k => R k ∨ (w.heap.size ≤ k ∧ k < w2.heap.size), ⟨hok, .inl h.ins, fun k hk => ?_, v', hb2.set1 v', own_only hown k1 (fun g hg (e2 : g = b) => own_apart hne hb2 hown g hg e2), fun g hg => ?_⟩, o2, fun k hk => hk.imp id (fun h => h.1)⟩
  · rcases hk with hk | hk
    · exact Nat.lt_of_lt_of_le (h.lt k hk) o2.size
    · have := k1.size
      omega
  · rcases hb' with hb' | hb'
    · exact .inl (hin g (hb'.symm.trans hg))
    · rw [hg] at hb'
      injection hb' with hb'
      exact .inr ⟨by omega, (hown.lt g hg).2⟩
/-- It stands elsewhere. -/
theorem ring_stand (hne : e ≠ tS) (h : RingAt V e tS w R b s) (j : Nat) (hok : (⟨s.lim, s.l, j⟩ : RS α).Ok) : RingTo V e tS w R (w.setCell ⟨b, 2, none⟩ (.int .i64 (j : Int))) b ⟨s.lim, s.l, j⟩ := by
  obtain ⟨v, h1, h2, h3⟩ := h.mem
  have ho := only_set w ⟨b, 2, none⟩ (.int .i64 (j : Int))
  have hR := ho.mono (R' := R) (fun i (e : i = b) => .inl (by rw [e]; exact h.ins))
  refine ⟨R, ⟨hok, h.ins, fun k hk => Nat.lt_of_lt_of_le (h.lt k hk) hR.size, v, ?_, own_only h2 ho (fun g hg (e : g = b) => own_apart hne h1 h2 g hg e), h3⟩, hR, fun _ h => .inl h⟩
  obtain ⟨hlt, hk⟩ := Array.getElem?_eq_some_iff.1 h1
  show (w.heap.modify b _)[b]? = _
  rw [Array.getElem?_eq_getElem (by rw [Array.size_modify]; exact hlt), Array.getElem_modify_self, hk]
  rfl
end
end
section
open Go Go.RowKit
section
variable {T : Type} {L : World → (Nat → Prop) → (Nat → Prop) → Nat → T → Prop} {w w' : World} {O F : Nat → Prop} {b : Nat} {s : T}
structure ObjF (L : World → (Nat → Prop) → (Nat → Prop) → Nat → T → Prop) : Prop where
  keep : ∀ {w w' : World} {O F R' : Nat → Prop} {b : Nat} {s : T}, L w O F b s → Only R' w w' → (∀ k, O k ∨ F k → ¬ R' k) → L w' O F b s
  lt : ∀ {w : World} {O F : Nat → Prop} {b : Nat} {s : T}, L w O F b s → ∀ k, O k ∨ F k → k < w.heap.size
  ins : ∀ {w : World} {O F : Nat → Prop} {b : Nat} {s : T}, L w O F b s → O b
  dis : ∀ {w : World} {O F : Nat → Prop} {b : Nat} {s : T}, L w O F b s → ∀ k, O k → ¬ F k
theorem ObjF.below (h : ObjF L) (hl : L w O F b s) (hb : Below w.heap.size w w') : L w' O F b s := h.keep (R' := fun _ => False) hl (Only.of_below hb) (fun _ _ h => h)
/-- Turned: in its own blocks, and in new memory. -/
def ToF (L : World → (Nat → Prop) → (Nat → Prop) → Nat → T → Prop) (w : World) (O F : Nat → Prop) (w' : World) (b : Nat) (s : T) : Prop := ∃ O' F', L w' O' F' b s ∧ Only O w w' ∧ (∀ k, O' k → O k ∨ w.heap.size ≤ k) ∧ ∀ k, F' k → F k ∨ w.heap.size ≤ k
/-- A copy that a call made: what it writes is new; what it only reads may be what the first one only reads. -/
def CopF (L : World → (Nat → Prop) → (Nat → Prop) → Nat → T → Prop) (w : World) (F : Nat → Prop) (w' : World) (b : Nat) (s : T) : Prop := ∃ O' F', L w' O' F' b s ∧ (∀ k, O' k → w.heap.size ≤ k) ∧ (∀ k, F' k → F k ∨ w.heap.size ≤ k) ∧ Below w.heap.size w w'
/-- A thing whose own blocks a call made (it began at w): all that lay ahead of the call is as it was. -/
def InF (L : World → (Nat → Prop) → (Nat → Prop) → Nat → T → Prop) (w W : World) (b : Nat) (s : T) : Prop := ∃ O F, L W O F b s ∧ (∀ k, O k → w.heap.size ≤ k) ∧ Below w.heap.size w W
theorem InF.bel {W : World} (h : InF L w W b s) : Below w.heap.size w W := by
  obtain ⟨_, _, _, _, h⟩ := h
  exact h
theorem InF.below (O' : ObjF L) {W W' : World} (h : InF L w W b s) (hb : Below W.heap.size W W') : InF L w W' b s := by
  obtain ⟨O, F, a1, a2, a3⟩ := h
  exact ⟨O, F, O'.below a1 hb, a2, a3.trans (hb.mono a3.size)⟩
theorem ToF.inn {W W' : World} {s' : T} {b' : Nat} (h : ToF L W O F W' b' s') (h2 : ∀ k, O k → w.heap.size ≤ k) (h3 : Below w.heap.size w W) : InF L w W' b' s' := by
  obtain ⟨O', F', b1, b2, b3, b4⟩ := h
  exact ⟨O', F', b1, fun k hk => (b3 k hk).elim (h2 k) (fun h => Nat.le_trans h3.size h), h3.trans (b2.below h3.size h2)⟩
/-- A call that turns the thing. -/
theorem InF.step {P : Program} {f : Nat} {args : Array Value} {E : Ending → Prop} {W : World} {b' : Nat} {s' : T} (h : InF L w W b s) (hc : ∀ O F, L W O F b s → Below w.heap.size w W → Calls P f args W fun e W' => E e ∧ ToF L W O F W' b' s') :
    Calls P f args W fun e W' => E e ∧ InF L w W' b' s' := by
  obtain ⟨O, F, a1, a2, a3⟩ := h
  refine (hc O F a1 a3).mono ?_
  rintro e W' ⟨he, ht⟩
  exact ⟨he, ht.inn a2 a3⟩
/-- A call that only reads it. -/
theorem InF.read {P : Program} {f : Nat} {args : Array Value} {E : Ending → Prop} (O' : ObjF L) {W : World} (h : InF L w W b s) (hc : ∀ O F, L W O F b s → Calls P f args W fun e W' => E e ∧ Below W.heap.size W W') :
    Calls P f args W fun e W' => E e ∧ InF L w W' b s := by
  obtain ⟨O, F, a1, a2, a3⟩ := id h
  refine (hc O F a1).mono ?_
  rintro e W' ⟨he, hb⟩
  exact ⟨he, h.below O' hb⟩
end
end
section
open Go Go.RowKit
def BxA (w : World) (g : Nat) (t : TypeId) (vs : List Value) : Prop := w.heap[g]? = some (.cells vs.toArray t (0, 0))
section
variable {w w' : World} {b : Nat} {t : TypeId} {vs : List Value}
theorem BxA.lt (h : BxA w b t vs) : b < w.heap.size := (Array.getElem?_eq_some_iff.1 h).1
theorem BxA.c (h : BxA w b t vs) (i : Nat) {v : Value} (hv : vs[i]? = some v) : w.cell? ⟨b, i, none⟩ = some v := by
  simp [World.cell?, show w.heap[b]? = _ from h, hv]
theorem BxA.free (h : BxA w b t vs) (i : Nat) : w.frozen? ⟨b, i, none⟩ = false := by simp [World.frozen?, show w.heap[b]? = _ from h]
theorem BxA.keep {R : Nat → Prop} (h : BxA w b t vs) (ho : Only R w w') (hn : ¬ R b) : BxA w' b t vs := (ho.block b h.lt hn).trans h
theorem BxA.below (h : BxA w b t vs) (hb : Below w.heap.size w w') : BxA w' b t vs := (hb.block b h.lt).trans h
theorem BxA.new (w : World) (t : TypeId) (vs : List Value) : BxA (w.alloc (.cells vs.toArray t)) w.heap.size t vs := World.alloc_heap_new w _
theorem BxA.alloc (h : BxA w b t vs) (o : Obj) : BxA (w.alloc o) b t vs := h.below ((Below.refl _ w).alloc (Nat.le_refl _) o)
theorem BxA.other {g i : Nat} (h : BxA w b t vs) (hne : b ≠ g) (v : Value) : BxA (w.setCell ⟨g, i, none⟩ v) b t vs := (Below.heap_setCell w ⟨g, i, none⟩ v b (by simpa using hne)).trans h
theorem BxA.set (h : BxA w b t vs) (i : Nat) (v : Value) : BxA (w.setCell ⟨b, i, none⟩ v) b t (vs.set i v) := by
  obtain ⟨hlt, hk⟩ := Array.getElem?_eq_some_iff.1 h
  show (w.heap.modify b _)[b]? = _
  rw [Array.getElem?_eq_getElem (by rw [Array.size_modify]; exact hlt), Array.getElem_modify_self, hk]
  simp
end
end
section
open Go Go.RowKit
set_option maxRecDepth 100000
section
variable {α : Type} {V : α → Value}
/-- The slice at A reads as ls, lies in a block of R, and may be stored into. -/
def RowW (V : α → Value) (w : World) (R : Nat → Prop) (A : Option Addr) (ls : List α) : Prop :=
  0 < ls.length → ∃ g o, A = some ⟨g, o, none⟩ ∧ R g ∧ g < w.heap.size ∧ ∀ i x, ls[i]? = some x → w.cell? ⟨g, o + i, none⟩ = some (V x) ∧ w.frozen? ⟨g, o + i, none⟩ = false
theorem RowW.rd {w : World} {R : Nat → Prop} {A : Option Addr} {ls : List α} (h : RowW V w R A ls) : RdV V w A ls := fun hn => by
  obtain ⟨g, o, e, _, hg, hc⟩ := h hn
  exact ⟨g, o, e, hg, fun i x hi => (hc i x hi).1⟩
theorem RowW.mono {w : World} {R R' : Nat → Prop} {A : Option Addr} {ls : List α} (h : RowW V w R A ls) (hR : ∀ k, R k → R' k) : RowW V w R' A ls := fun hn => by
  obtain ⟨g, o, e, hr, hg, hc⟩ := h hn
  exact ⟨g, o, e, hR g hr, hg, hc⟩
theorem frozen_of_block {w w' : World} {p : Addr} (h : w'.heap[p.block]? = w.heap[p.block]?) : w'.frozen? p = w.frozen? p := by unfold World.frozen?; rw [h]
theorem RowW.keep {w w' : World} {R R' : Nat → Prop} {A : Option Addr} {ls : List α} (h : RowW V w R A ls) (ho : Only R' w w') (hd : ∀ k, R k → ¬ R' k) : RowW V w' R A ls := fun hn => by
  obtain ⟨g, o, e, hr, hg, hc⟩ := h hn
  exact ⟨g, o, e, hr, Nat.lt_of_lt_of_le hg ho.size, fun i x hi => ⟨ho.cell (hc i x hi).1 (show ¬ R' g from hd g hr), (frozen_of_block (p := ⟨g, o + i, none⟩) (ho.block g hg (hd g hr))).trans (hc i x hi).2⟩⟩
theorem RowW.below {w w' : World} {R : Nat → Prop} {A : Option Addr} {ls : List α} (h : RowW V w R A ls) (hb : Below w.heap.size w w') : RowW V w' R A ls := h.keep (R' := fun _ => False) (Only.of_below hb) (fun _ _ h => h)
theorem RowW.take {w : World} {R : Nat → Prop} {A : Option Addr} {ls : List α} (h : RowW V w R A ls) (k : Nat) : RowW V w R A (ls.take k) := fun hn => by
  rw [List.length_take] at hn
  obtain ⟨g, o, e, hr, hg, hc⟩ := h (by omega)
  refine ⟨g, o, e, hr, hg, fun i x hi => hc i x ?_⟩
  rw [List.getElem?_take] at hi
  split at hi
  · exact hi
  · cases hi
theorem RowW.drop {w : World} {R : Nat → Prop} {g o : Nat} {ls : List α} (h : RowW V w R (some ⟨g, o, none⟩) ls) (k : Nat) : RowW V w R (some ⟨g, o + k, none⟩) (ls.drop k) := fun hn => by
  rw [List.length_drop] at hn
  obtain ⟨g', o', e, hr, hg, hc⟩ := h (by omega)
  injection e with e
  injection e with e1 e2
  subst e1; subst e2
  refine ⟨g, o + k, rfl, hr, hg, fun i x hi => ?_⟩
  rw [List.getElem?_drop] at hi
  rw [Nat.add_assoc]
  exact hc (k + i) x hi
/-- A thing is stored into the row. -/
theorem RowW.set {w : World} {R : Nat → Prop} {g o : Nat} {ls : List α} (h : RowW V w R (some ⟨g, o, none⟩) ls) (i : Nat) (hi : i < ls.length) (y : α) : RowW V (w.setCell ⟨g, o + i, none⟩ (V y)) R (some ⟨g, o, none⟩) (ls.set i y) := fun _ => by
  obtain ⟨g', o', e, hr, hg, hc⟩ := h (by omega)
  injection e with e
  injection e with e1 e2
  subst e1; subst e2
  refine ⟨g, o, rfl, hr, by simpa [World.setCell] using hg, fun j x hj => ?_⟩
  have hjl : j < ls.length := by have := (List.getElem?_eq_some_iff.1 hj).1; simpa using this
  obtain ⟨c0, hc0⟩ : ∃ c0, ls[j]? = some c0 := ⟨_, List.getElem?_eq_getElem hjl⟩
  obtain ⟨q1, q2⟩ := hc j c0 hc0
  refine ⟨?_, (World.frozen?_setCell ..).trans q2⟩
  by_cases hji : j = i
  · subst hji
    rw [List.getElem?_set_self hjl] at hj
    injection hj with hj
    subst hj
    exact World.cell?_setCell_same _ _ _ q1
  · rw [List.getElem?_set_ne (fun e => hji e.symm)] at hj
    have hx := (hc j x hj).1
    have hne : (⟨g, o + i, none⟩ : Addr) ≠ ⟨g, o + j, none⟩ := by
      intro e
      injection e with _ e
      omega
    exact (World.cell?_setCell_other _ _ _ _ hne).trans hx
theorem rowW_of_own {w : World} {base e : Nat} {R : Nat → Prop} {A : Option Addr} {c n : Nat} {ls : List α} (h : w.ownsRow base e 1 (.slice A n c) ls.length (ls.map V)) (hR : ∀ g, (Value.slice A n c).ownBlock = some g → R g) : RowW V w R A ls := fun hn => by
  rcases h.2 with ⟨hv, h0⟩ | ⟨g, cap, cur, hv, _, hh, hnc, hcm, _⟩
  · omega
  · injection hv with h1 h2 h3
    subst h1; subst h2; subst h3
    refine ⟨g, 0, rfl, hR g rfl, (Array.getElem?_eq_some_iff.1 hh).1, fun i x hi => ⟨?_, ?_⟩⟩
    · have := h.cells (g := g) rfl i (V x) (by simp [hi])
      rw [Addr.add_lit] at this
      exact this
    · simp [World.frozen?, hh]
/-- An append onto a slice that has no room: a new row. -/
theorem run_append_full {P : Program} (w : World) (t ty e : TypeId) (i : TypeInfo) (z : Value) (bytes : Nat) (ht : P.underlying t = some (.slice e)) (hi : P.info? e = some i) (hz : i.zero = some z) (hsize : i.size = 1) (hby : i.bytes = bytes) (hzs : z.cells.size = 1) (hb16 : bytes ≤ 16)
    (g o sc : Nat) (xs : List α) (hx : RdV V w (some ⟨g, o, none⟩) xs) (A : Option Addr) (c : Nat) (ms : List α) (hm : 0 < ms.length) (hR : RdV V w A ms) (hfull : sc < xs.length + ms.length) (hb : xs.length + ms.length ≤ 1099511627776) :
    ∃ c' w', (Builtin.append_ #[t, t] ty #[.slice (some ⟨g, o, none⟩) xs.length sc, .slice A ms.length c]).run P w = .ok (.slice (some ⟨w.heap.size, 0, none⟩) (xs.length + ms.length) c') w' ∧
      w'.ownsRow w.heap.size e 1 (.slice (some ⟨w.heap.size, 0, none⟩) (xs.length + ms.length) c') (xs.length + ms.length) ((xs ++ ms).map V) ∧ Below w.heap.size w w' ∧ w'.heap.size = w.heap.size + 1 := by
  obtain ⟨g2, o2, rfl, _, hc2⟩ := hR.at_ hm
  subst hby
  have hbytes : (xs.length + ms.length) * i.bytes ≤ 140737488355328 := by
    have := Nat.mul_le_mul_left (xs.length + ms.length) hb16
    omega
  have hr := run_append_grow (P := P) w t ty e i z ht hi hz ⟨g, o, none⟩ xs.length sc (xs.map V) (by rw [List.length_map, hsize, Nat.mul_one]) (fun j v hj => by
      rw [List.getElem?_map, Option.map_eq_some_iff] at hj
      obtain ⟨x, hj, rfl⟩ := hj
      have hjl := (List.getElem?_eq_some_iff.1 hj).1
      obtain ⟨g', o', e', _, hc⟩ := hx.at_ (by omega)
      injection e' with e'
      injection e' with e1 e2
      subst e1; subst e2
      rw [Addr.add_lit]
      exact hc j x hj) ⟨g2, o2, none⟩ ms.length c (ms.map V) (by rw [List.length_map, hsize, Nat.mul_one]) (fun j v hj => by
      rw [List.getElem?_map, Option.map_eq_some_iff] at hj
      obtain ⟨x, hj, rfl⟩ := hj
      rw [Addr.add_lit]
      exact hc2 j x hj) hfull (by omega) (growslice_fits hfull hbytes)
  have hge := grownCap_ge w (xs.length + ms.length) sc e
  have hcm : grownCap w (xs.length + ms.length) sc e ≤ maxLen := grownCap_le_maxLen w _ sc e (by unfold maxLen; omega)
  refine ⟨_, _, hr, ⟨by simp, .inr ⟨w.heap.size, _, _, rfl, Nat.le_refl _, heap_alloc_new w.drew _, hge, hcm, ?_, ?_⟩⟩, ⟨rfl, rfl, rfl, by simp, fun k hk => heap_alloc_old w.drew _ hk⟩, by simp⟩
  · simp only [Array.size_append, List.size_toArray, size_zeroCells, hzs, List.length_map]
    omega
  · simp only [Array.toList_append, List.append_assoc, List.map_append]
    rw [← List.append_assoc, show (xs.length + ms.length) * 1 = (xs.map V ++ ms.map V).length by simp]
    exact List.take_left
end
end
section
open Go Go.RowKit
section
variable {T : Type} {L : World → (Nat → Prop) → Nat → T → Prop} {w w' : World} {R : Nat → Prop} {b : Nat} {s : T}
/-- A thing lies in its blocks (R) alone. -/
structure ObjL (L : World → (Nat → Prop) → Nat → T → Prop) : Prop where
  keep : ∀ {w w' : World} {R R' : Nat → Prop} {b : Nat} {s : T}, L w R b s → Only R' w w' → (∀ k, R k → ¬ R' k) → L w' R b s
  lt : ∀ {w : World} {R : Nat → Prop} {b : Nat} {s : T}, L w R b s → ∀ k, R k → k < w.heap.size
  ins : ∀ {w : World} {R : Nat → Prop} {b : Nat} {s : T}, L w R b s → R b
theorem ObjL.below (h : ObjL L) (hl : L w R b s) (hb : Below w.heap.size w w') : L w' R b s := h.keep (R' := fun _ => False) hl (Only.of_below hb) (fun _ _ h => h)
/-- Turned in a world that was turned nowhere else. -/
def ToL (L : World → (Nat → Prop) → Nat → T → Prop) (w : World) (R : Nat → Prop) (w' : World) (b : Nat) (s : T) : Prop := ∃ R', L w' R' b s ∧ Only R w w' ∧ ∀ k, R' k → R k ∨ w.heap.size ≤ k
/-- A thing that a call made (it began at w): all that lay ahead of the call is as it was. -/
def InL (L : World → (Nat → Prop) → Nat → T → Prop) (w W : World) (b : Nat) (s : T) : Prop := ∃ R, L W R b s ∧ (∀ k, R k → w.heap.size ≤ k) ∧ Below w.heap.size w W
theorem ToL.trans {w1 w2 : World} {b' : Nat} {s1 s2 : T} (h1 : ToL L w R w1 b s1) (h2 : ∀ R1, L w1 R1 b s1 → ToL L w1 R1 w2 b' s2) : ToL L w R w2 b' s2 := by
  obtain ⟨Ra, a1, a2, a3⟩ := h1
  obtain ⟨Rb, b1, b2, b3⟩ := h2 Ra a1
  refine ⟨Rb, b1, a2.trans b2 a3, fun k hk => ?_⟩
  rcases b3 k hk with h | h
  · exact a3 k h
  · exact .inr (Nat.le_trans a2.size h)
theorem ToL.below (O : ObjL L) {w2 : World} (h : ToL L w R w' b s) (hb : Below w'.heap.size w' w2) : ToL L w R w2 b s := by
  obtain ⟨Ra, a1, a2, a3⟩ := h
  exact ⟨Ra, O.below a1 hb, a2.trans (R' := fun _ => False) (Only.of_below hb) (fun _ h => h.elim), a3⟩
theorem InL.bel {W : World} (h : InL L w W b s) : Below w.heap.size w W := by
  obtain ⟨_, _, _, h⟩ := h
  exact h
theorem InL.below (O : ObjL L) {W W' : World} (h : InL L w W b s) (hb : Below W.heap.size W W') : InL L w W' b s := by
  obtain ⟨R, a1, a2, a3⟩ := h
  exact ⟨R, O.below a1 hb, a2, a3.trans (hb.mono a3.size)⟩
theorem ToL.inn {W W' : World} {b' : Nat} {s' : T} (h : ToL L W R W' b' s') (h2 : ∀ k, R k → w.heap.size ≤ k) (h3 : Below w.heap.size w W) : InL L w W' b' s' := by
  obtain ⟨R', b1, b2, b3⟩ := h
  refine ⟨R', b1, fun k hk => ?_, h3.trans (b2.below h3.size h2)⟩
  rcases b3 k hk with h | h
  · exact h2 k h
  · exact Nat.le_trans h3.size h
/-- Turned in its box alone: what else it reads lies where it lay, or in new memory. -/
def ToB (L : World → (Nat → Prop) → Nat → T → Prop) (w : World) (R : Nat → Prop) (w' : World) (b : Nat) (s : T) : Prop := ∃ R', L w' R' b s ∧ Only (fun k => k = b) w w' ∧ ∀ k, R' k → R k ∨ w.heap.size ≤ k
theorem ToB.to (h : ToB L w R w' b s) (hb : R b) : ToL L w R w' b s := by
  obtain ⟨R', a1, a2, a3⟩ := h
  exact ⟨R', a1, a2.mono (fun i e => .inl (by rw [e]; exact hb)), a3⟩
theorem ToB.of_below (O : ObjL L) (h : L w R b s) (hb : Below w.heap.size w w') : ToB L w R w' b s := ⟨R, O.below h hb, Only.of_below hb, fun _ h => .inl h⟩
theorem ToB.below (O : ObjL L) {w2 : World} (h : ToB L w R w' b s) (hb : Below w'.heap.size w' w2) : ToB L w R w2 b s := by
  obtain ⟨Ra, a1, a2, a3⟩ := h
  exact ⟨Ra, O.below a1 hb, a2.trans (R' := fun _ => False) (Only.of_below hb) (fun _ h => h.elim), a3⟩
/-- A copy that a call made: its box is new; what else it reads may be what the first one reads, but not that one's box. -/
def CopL (L : World → (Nat → Prop) → Nat → T → Prop) (w : World) (R : Nat → Prop) (b : Nat) (w' : World) (b' : Nat) (s : T) : Prop := ∃ R', L w' R' b' s ∧ w.heap.size ≤ b' ∧ (∀ k, R' k → (R k ∧ k ≠ b) ∨ w.heap.size ≤ k) ∧ Below w.heap.size w w'
theorem CopL.bel {b' : Nat} (h : CopL L w R b w' b' s) : Below w.heap.size w w' := by
  obtain ⟨_, _, _, _, h⟩ := h
  exact h
/-- A call that turns the thing. -/
theorem InL.step {P : Program} {f : Nat} {args : Array Value} {E : Ending → Prop} {W : World} {b' : Nat} {s' : T} (h : InL L w W b s) (hc : ∀ R, L W R b s → Calls P f args W fun e W' => E e ∧ ToL L W R W' b' s') :
    Calls P f args W fun e W' => E e ∧ InL L w W' b' s' := by
  obtain ⟨R, a1, a2, a3⟩ := h
  refine (hc R a1).mono ?_
  rintro e W' ⟨he, ht⟩
  exact ⟨he, ht.inn a2 a3⟩
/-- A call that only reads it. -/
theorem InL.read {P : Program} {f : Nat} {args : Array Value} {E : Ending → Prop} (O : ObjL L) {W : World} (h : InL L w W b s) (hc : ∀ R, L W R b s → Calls P f args W fun e W' => E e ∧ Below W.heap.size W W') :
    Calls P f args W fun e W' => E e ∧ InL L w W' b s := by
  obtain ⟨R, a1, a2, a3⟩ := h
  refine (hc R a1).mono ?_
  rintro e W' ⟨he, hb⟩
  exact ⟨he, (InL.below O ⟨R, a1, a2, a3⟩ hb)⟩
end
end
section
open Go Go.RowKit
section
variable {α : Type}
def rowL (s : LS α) : List α := s.back ++ s.now :: s.forth.reverse
theorem rowL_length (s : LS α) : (rowL s).length = s.back.length + 1 + s.forth.length := by simp [rowL]; omega
theorem rowL_now (s : LS α) : (rowL s)[s.back.length]? = some s.now := by simp [rowL]
theorem rowL_undo {s : LS α} (h : s.back ≠ []) : rowL s.undo = rowL s ∧ s.undo.back.length = s.back.length - 1 ∧ s.undo.lim = s.lim ∧ s.undo.opn = 0 := by
  obtain ⟨r, y, hr⟩ : ∃ r y, s.back = r ++ [y] := ⟨_, _, (List.dropLast_concat_getLast h).symm⟩
  rw [LS.undo_some hr]
  simp [rowL, hr]
theorem rowL_redo {s : LS α} (h : s.forth ≠ []) : rowL s.redo = rowL s ∧ s.redo.back.length = s.back.length + 1 ∧ s.redo.lim = s.lim ∧ s.redo.opn = 0 := by
  obtain ⟨r, y, hr⟩ : ∃ r y, s.forth = r ++ [y] := ⟨_, _, (List.dropLast_concat_getLast h).symm⟩
  rw [LS.redo_some hr]
  simp [rowL, hr]
theorem rowL_move (s : LS α) (x : α) : rowL (s.move x) = (rowL s).set s.back.length x := by simp [rowL, LS.move]
theorem rowL_cut (s : LS α) : (rowL s).take (s.back.length + 1) = s.back ++ [s.now] := by
  unfold rowL
  rw [List.take_append, List.take_of_length_le (by omega), show s.back.length + 1 - s.back.length = 1 by omega]
  rfl
variable {V : α → Value} {e tS : TypeId} {w w' : World} {R : Nat → Prop} {b : Nat} {s : LS α}
structure LogAt (V : α → Value) (e tS : TypeId) (w : World) (R : Nat → Prop) (b : Nat) (s : LS α) : Prop where
  ok : s.Ok
  ins : R b
  lt : ∀ k, R k → k < w.heap.size
  mem : ∃ A c, BxA w b tS [.int .i64 (s.lim : Int), .slice A (rowL s).length c, .int .i64 (s.back.length : Int), .int .i64 s.opn] ∧ RowW V w (fun k => R k ∧ k ≠ b) A (rowL s) ∧ (rowL s).length ≤ c ∧ c ≤ maxLen
theorem objRow (V : α → Value) (e tS : TypeId) : ObjL (LogAt V e tS) where
  keep := fun h ho hd => by
    obtain ⟨A, c, h1, h2, h3, h4⟩ := h.mem
    exact ⟨h.ok, h.ins, fun k hk => Nat.lt_of_lt_of_le (h.lt k hk) ho.size, A, c, h1.keep ho (hd _ h.ins), h2.keep ho (fun k hk => hd k hk.1), h3, h4⟩
  lt := fun h => h.lt
  ins := fun h => h.ins
/-- The place, and the group, turn; the row stays. -/
theorem log_place (h : LogAt V e tS w R b s) {s' : LS α} (hok : s'.Ok) (hr : rowL s' = rowL s) (hl : s'.lim = s.lim) : LogAt V e tS ((w.setCell ⟨b, 2, none⟩ (.int .i64 (s'.back.length : Int))).setCell ⟨b, 3, none⟩ (.int .i64 s'.opn)) R b s' ∧ Only (fun k => k = b) w ((w.setCell ⟨b, 2, none⟩ (.int .i64 (s'.back.length : Int))).setCell ⟨b, 3, none⟩ (.int .i64 s'.opn)) := by
  obtain ⟨A, c, h1, h2, h3, h4⟩ := h.mem
  have ho : Only (fun k => k = b) w ((w.setCell ⟨b, 2, none⟩ (.int .i64 (s'.back.length : Int))).setCell ⟨b, 3, none⟩ (.int .i64 s'.opn)) := ((Only.refl (fun k => k = b) w).set (p := ⟨b, 2, none⟩) (.inl rfl) _).set (p := ⟨b, 3, none⟩) (.inl rfl) _
  refine ⟨⟨hok, h.ins, fun k hk => Nat.lt_of_lt_of_le (h.lt k hk) ho.size, A, c, ?_, ?_, by rw [hr]; exact h3, h4⟩, ho⟩
  · rw [hr, hl]
    exact (h1.set 2 _).set 3 _
  · rw [hr]
    exact h2.keep ho (fun k hk e => hk.2 e)
/-- The group alone turns. -/
theorem log_group (h : LogAt V e tS w R b s) {s' : LS α} (hok : s'.Ok) (hr : rowL s' = rowL s) (hl : s'.lim = s.lim) (hb : s'.back.length = s.back.length) : LogAt V e tS (w.setCell ⟨b, 3, none⟩ (.int .i64 s'.opn)) R b s' ∧ Only (fun k => k = b) w (w.setCell ⟨b, 3, none⟩ (.int .i64 s'.opn)) := by
  obtain ⟨A, c, h1, h2, h3, h4⟩ := h.mem
  have ho : Only (fun k => k = b) w (w.setCell ⟨b, 3, none⟩ (.int .i64 s'.opn)) := (Only.refl (fun k => k = b) w).set (p := ⟨b, 3, none⟩) (.inl rfl) _
  refine ⟨⟨hok, h.ins, fun k hk => Nat.lt_of_lt_of_le (h.lt k hk) ho.size, A, c, ?_, ?_, by rw [hr]; exact h3, h4⟩, ho⟩
  · rw [hr, hl, hb]
    exact h1.set 3 _
  · rw [hr]
    exact h2.keep ho (fun k hk e => hk.2 e)
/-- The state on which it stands turns. -/
theorem log_state (h : LogAt V e tS w R b s) (x : α) {g o : Nat} {c : Nat} (hx : w.cell? ⟨b, 1, none⟩ = some (.slice (some ⟨g, o, none⟩) (rowL s).length c)) : LogAt V e tS (w.setCell ⟨g, o + s.back.length, none⟩ (V x)) R b (s.move x) ∧ Only R w (w.setCell ⟨g, o + s.back.length, none⟩ (V x)) := by
  obtain ⟨A, c', h1, h2, h3, h4⟩ := h.mem
  rw [h1.c 1 rfl] at hx
  injection hx with hx
  injection hx with e1 _ e3
  subst e1; subst e3
  have hn : 0 < (rowL s).length := by rw [rowL_length]; omega
  obtain ⟨g', o', e, hr, _, _⟩ := id h2 hn
  injection e with e
  injection e with e1 e2
  subst e1; subst e2
  have ho : Only R w (w.setCell ⟨g, o + s.back.length, none⟩ (V x)) := (Only.refl R w).set (p := ⟨g, o + s.back.length, none⟩) (.inl hr.1) _
  have hrow := h2.set s.back.length (by rw [rowL_length]; omega) x
  rw [← rowL_move] at hrow
  have hlen : (rowL (s.move x)).length = (rowL s).length := by rw [rowL_move, List.length_set]
  refine ⟨⟨h.ok.move x, h.ins, fun k hk => Nat.lt_of_lt_of_le (h.lt k hk) ho.size, some ⟨g, o, none⟩, _, ?_, hrow, by rw [hlen]; exact h3, h4⟩, ho⟩
  rw [hlen]
  exact h1.other (fun e => hr.2 e.symm) _
/-- What a call built: a new row, in the log's box. -/
theorem log_built (h : LogAt V e tS w R b s) {s' : LS α} (hok : s'.Ok) {w2 Wf : World} (hb : Below w.heap.size w w2) (ho : Only (fun k => k = b) w2 Wf) {A : Option Addr} {c N : Nat} {ty : TypeId} (hN : w.heap.size ≤ N)
    (hbx : BxA Wf b tS [.int .i64 (s'.lim : Int), .slice A (rowL s').length c, .int .i64 (s'.back.length : Int), .int .i64 s'.opn]) (hown : w2.ownsRow N ty 1 (.slice A (rowL s').length c) (rowL s').length ((rowL s').map V)) : ToB (LogAt V e tS) w R Wf b s' := by
  have hbl := h.lt b h.ins
  have hR : ∀ g, (Value.slice A (rowL s').length c).ownBlock = some g → w.heap.size ≤ g ∧ g < w2.heap.size := fun g hg => ⟨Nat.le_trans hN (hown.lt g hg).1, (hown.lt g hg).2⟩
  have hrow : RowW V w2 (fun k => (k = b ∨ (w.heap.size ≤ k ∧ k < w2.heap.size)) ∧ k ≠ b) A (rowL s') := rowW_of_own hown (fun g hg => ⟨.inr (hR g hg), fun e => by have := (hR g hg).1; omega⟩)
  have hcap : (rowL s').length ≤ c ∧ c ≤ maxLen := by
    rcases hown.2 with ⟨_, h0⟩ | ⟨g, cap, cur, hv, _, _, hnc, hcm, _⟩
    · rw [rowL_length] at h0; omega
    · injection hv with _ _ h3
      subst h3
      exact ⟨hnc, hcm⟩
  refine ⟨fun k => k = b ∨ (w.heap.size ≤ k ∧ k < w2.heap.size), ⟨hok, .inl rfl, fun k hk => ?_, A, c, hbx, hrow.keep ho (fun k hk e => hk.2 e), hcap.1, hcap.2⟩, (Only.of_below hb).trans ho (fun i e => .inl e), fun k hk => ?_⟩
  · have h1 := hb.size
    have h2 := ho.size
    rcases hk with h | h <;> omega
  · rcases hk with hk | hk
    · exact .inl (by rw [hk]; exact h.ins)
    · exact .inr hk.1
/-- A copy stands on the same row. -/
theorem log_copied (h : LogAt V e tS w R b s) {Wf : World} {b' : Nat} (hb : Below w.heap.size w Wf) (hb' : w.heap.size ≤ b') (hc : ∀ A c, BxA w b tS [.int .i64 (s.lim : Int), .slice A (rowL s).length c, .int .i64 (s.back.length : Int), .int .i64 s.opn] → BxA Wf b' tS [.int .i64 (s.lim : Int), .slice A (rowL s).length c, .int .i64 (s.back.length : Int), .int .i64 s.opn]) : CopL (LogAt V e tS) w R b Wf b' s := by
  obtain ⟨A, c, h1, h2, h3, h4⟩ := id h.mem
  have hn := hc A c h1
  refine ⟨fun k => (R k ∧ k ≠ b) ∨ k = b', ⟨h.ok, .inr rfl, fun k hk => ?_, A, c, hn, (h2.below hb).mono (fun k hk => ⟨.inl hk, fun e => ?_⟩), h3, h4⟩, hb', fun k hk => ?_, hb⟩
  · rcases hk with hk | hk
    · exact Nat.lt_of_lt_of_le (h.lt k hk.1) hb.size
    · rw [hk]; exact hn.lt
  · have := h.lt k hk.1
    omega
  · rcases hk with hk | hk
    · exact .inl hk
    · exact .inr (by omega)
/-- What a walk takes of a log. -/
theorem LogAt.open_ (h : LogAt V e tS w R b s) : ∃ g o c, BxA w b tS [.int .i64 (s.lim : Int), .slice (some ⟨g, o, none⟩) (s.back.length + 1 + s.forth.length) c, .int .i64 (s.back.length : Int), .int .i64 s.opn] ∧ (R g ∧ g ≠ b) ∧ g < w.heap.size ∧ (∀ i x, (rowL s)[i]? = some x → w.cell? ⟨g, o + i, none⟩ = some (V x) ∧ w.frozen? ⟨g, o + i, none⟩ = false) ∧ s.back.length + 1 + s.forth.length ≤ c ∧ c ≤ maxLen := by
  obtain ⟨A, c, h1, h2, h3, h4⟩ := h.mem
  obtain ⟨g, o, rfl, hr, hg, hc⟩ := h2 (by rw [rowL_length]; omega)
  rw [rowL_length] at h1 h3
  exact ⟨g, o, c, h1, hr, hg, hc, h3, h4⟩
end
end
end Go.Proofs.YtoaponaljkhlfaaGreatDoor
