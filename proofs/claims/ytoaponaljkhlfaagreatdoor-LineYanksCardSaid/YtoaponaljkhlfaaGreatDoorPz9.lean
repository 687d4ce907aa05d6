/-
  Layer 7 and what it stands on, part 9 (RingAt LnObj BxA RowW Obj LogRow RowT LogT LnK0).
-/
import Derived.Test.YtoaponaljkhlfaaGreatDoorPz5
import Derived.Test.YtoaponaljkhlfaaGreatDoorPz8
import Derived.Maps.AppendAt
import Derived.Laws.AppendOwnNone
import Derived.RangeFuncBox
import Derived.WalkKit
import Derived.MapKept
namespace Go.Proofs.YtoaponaljkhlfaaGreatDoor
section
open Go Go.RowKit
structure Only (R : Nat → Prop) (w w' : World) : Prop where
 os : w'.os = w.os
 tape : w'.tape = w.tape
 output : w'.output = w.output
 size : w.heap.size ≤ w'.heap.size
 block : ∀ k, k < w.heap.size → ¬ R k → w'.heap[k]? = w.heap[k]?
theorem Only.refl (R : Nat → Prop) (w : World) : Only R w w := ⟨rfl, rfl, rfl, Nat.le_refl _, fun _ _ _ => rfl⟩
theorem Only.trans {R R' : Nat → Prop} {a b c : World} (h : Only R a b) (k : Only R' b c) (hR : ∀ i, R' i → R i ∨ a.heap.size ≤ i) : Only R a c :=
 ⟨k.os.trans h.os, k.tape.trans h.tape, k.output.trans h.output, Nat.le_trans h.size k.size, fun i hi hn => (k.block i (Nat.lt_of_lt_of_le hi h.size) (fun hr => (hR i hr).elim hn (fun h2 => by omega))).trans (h.block i hi hn)⟩
theorem Only.mono {R R' : Nat → Prop} {a b : World} (h : Only R a b) (hR : ∀ i, R i → R' i ∨ a.heap.size ≤ i) : Only R' a b := ⟨h.os, h.tape, h.output, h.size, fun i hi hn => h.block i hi (fun hr => (hR i hr).elim hn (fun h2 => by omega))⟩
theorem Only.of_below {R : Nat → Prop} {a b : World} (h : Below a.heap.size a b) : Only R a b := ⟨h.os, h.tape, h.output, h.size, fun i hi _ => h.block i hi⟩
theorem Only.of_grown {R : Nat → Prop} {a b : World} {row : Option Nat} (h : a.grownBy b row) (hr : ∀ k, row = some k → R k) : Only R a b := ⟨h.os, h.tape, h.output, h.size, fun i hi hn => h.block i hi (fun e => hn (hr i e.symm))⟩
theorem Only.grown {R : Nat → Prop} {a b c : World} {row : Option Nat} (h : Only R a b) (k : b.grownBy c row) (hr : ∀ i, row = some i → R i ∨ a.heap.size ≤ i) : Only R a c :=
 h.trans (R' := fun i => row = some i) (Only.of_grown k fun _ e => e) hr
theorem Only.alloc {R : Nat → Prop} {a b : World} (h : Only R a b) (o : Obj) : Only R a (b.alloc o) := h.trans (R' := fun _ => False) (Only.of_below ((Below.refl _ b).alloc (Nat.le_refl _) o)) (fun _ h => h.elim)
theorem Only.drew {R : Nat → Prop} {a b : World} (h : Only R a b) : Only R a b.drew := ⟨h.os, h.tape, h.output, h.size, h.block⟩
theorem Only.drewN {R : Nat → Prop} {a b : World} (h : Only R a b) (n : Nat) : Only R a (b.drewN n) := ⟨h.os, h.tape, h.output, h.size, h.block⟩
theorem Only.set {R : Nat → Prop} {a b : World} (h : Only R a b) {p : Addr} (hp : R p.block ∨ a.heap.size ≤ p.block) (u : Value) : Only R a (b.setCell p u) :=
 h.trans (R' := fun i => i = p.block) ⟨rfl, rfl, rfl, by simp [World.setCell], fun i _ hn => Below.heap_setCell b p u i hn⟩ (fun i e => by rw [e]; exact hp)
theorem Only.below {R : Nat → Prop} {a b : World} (h : Only R a b) {B : Nat} (hB : B ≤ a.heap.size) (hR : ∀ i, R i → B ≤ i) : Below B a b :=
 ⟨h.os, h.tape, h.output, h.size, fun i hi => h.block i (by omega) (fun hr => by have := hR i hr; omega)⟩
theorem Only.cell {R : Nat → Prop} {a b : World} (h : Only R a b) {p : Addr} {v : Value} (hc : a.cell? p = some v) (hn : ¬ R p.block) : b.cell? p = some v :=
 (World.cell?_of_block (w := a) (h.block p.block (World.block_lt_of_cell? _ _ hc) hn)).trans hc
section
variable {w : World} {b : Nat} {t : TypeId} {x y z : Value}
def Bx3 (w : World) (g : Nat) (t : TypeId) (x y z : Value) : Prop := w.heap[g]? = some (.cells #[x, y, z] t (0, 0))
theorem Bx3.lt (h : Bx3 w b t x y z) : b < w.heap.size := (Array.getElem?_eq_some_iff.1 h).1
theorem Bx3.c0 (h : Bx3 w b t x y z) : w.cell? ⟨b, 0, none⟩ = some x := by simp [World.cell?, show w.heap[b]? = _ from h]
theorem Bx3.c1 (h : Bx3 w b t x y z) : w.cell? ⟨b, 1, none⟩ = some y := by simp [World.cell?, show w.heap[b]? = _ from h]
theorem Bx3.c2 (h : Bx3 w b t x y z) : w.cell? ⟨b, 2, none⟩ = some z := by simp [World.cell?, show w.heap[b]? = _ from h]
theorem Bx3.f1 (h : Bx3 w b t x y z) : w.frozen? ⟨b, 1, none⟩ = false := by simp [World.frozen?, show w.heap[b]? = _ from h]
theorem Bx3.f2 (h : Bx3 w b t x y z) : w.frozen? ⟨b, 2, none⟩ = false := by simp [World.frozen?, show w.heap[b]? = _ from h]
theorem Bx3.set1 (h : Bx3 w b t x y z) (v : Value) : Bx3 (w.setCell ⟨b, 1, none⟩ v) b t x v z := by
 obtain ⟨hlt, hk⟩ := Array.getElem?_eq_some_iff.1 h
 show (w.heap.modify b _)[b]? = _
 rw [Array.getElem?_eq_getElem (by rw [Array.size_modify]; exact hlt), Array.getElem_modify_self, hk]
 rfl
theorem Bx3.set2 (h : Bx3 w b t x y z) (v : Value) : Bx3 (w.setCell ⟨b, 2, none⟩ v) b t x y v := by
 obtain ⟨hlt, hk⟩ := Array.getElem?_eq_some_iff.1 h
 show (w.heap.modify b _)[b]? = _
 rw [Array.getElem?_eq_getElem (by rw [Array.size_modify]; exact hlt), Array.getElem_modify_self, hk]
 rfl
theorem Bx3.keep {w' : World} {R : Nat → Prop} (h : Bx3 w b t x y z) (ho : Only R w w') (hn : ¬ R b) : Bx3 w' b t x y z := (ho.block b h.lt hn).trans h
theorem Bx3.other {g i : Nat} (h : Bx3 w b t x y z) (hne : b ≠ g) (v : Value) : Bx3 (w.setCell ⟨g, i, none⟩ v) b t x y z := (Below.heap_setCell w ⟨g, i, none⟩ v b (by simpa using hne)).trans h
end
section
variable {α : Type} (V : α → Value)
def RdV (w : World) (A : Option Addr) (ls : List α) : Prop := 0 < ls.length → ∃ g o, A = some ⟨g, o, none⟩ ∧ g < w.heap.size ∧ ∀ i x, ls[i]? = some x → w.cell? ⟨g, o + i, none⟩ = some (V x)
variable {V}
theorem RdV.at_ {w : World} {A : Option Addr} {ls : List α} (h : RdV V w A ls) (hn : 0 < ls.length) : ∃ g o, A = some ⟨g, o, none⟩ ∧ g < w.heap.size ∧ ∀ i x, ls[i]? = some x → w.cell? ⟨g, o + i, none⟩ = some (V x) := h hn
theorem RdV.keep {w w' : World} {A : Option Addr} {ls : List α} {R : Nat → Prop} (h : RdV V w A ls) (ho : Only R w w') (hA : ∀ a, A = some a → ¬ R a.block) : RdV V w' A ls := fun hn => by
 obtain ⟨g, o, e, hg, hc⟩ := h hn
 exact ⟨g, o, e, Nat.lt_of_lt_of_le hg ho.size, fun i x hi => ho.cell (hc i x hi) (show ¬ R g from hA ⟨g, o, none⟩ e)⟩
theorem RdV.below {w w' : World} {A : Option Addr} {ls : List α} (h : RdV V w A ls) (hb : Below w.heap.size w w') : RdV V w' A ls := h.keep (R := fun _ => False) (Only.of_below hb) (fun _ _ h => h)
theorem RdV.alloc {w : World} {A : Option Addr} {ls : List α} (h : RdV V w A ls) (o : Obj) : RdV V (w.alloc o) A ls := h.below ((Below.refl _ w).alloc (Nat.le_refl _) o)
theorem RdV.take {w : World} {A : Option Addr} {ls : List α} (h : RdV V w A ls) (k : Nat) : RdV V w A (ls.take k) := fun hn => by
 rw [List.length_take] at hn
 obtain ⟨g, o, e, hg, hc⟩ := h (by omega)
 refine ⟨g, o, e, hg, fun i x hi => hc i x ?_⟩
 rw [List.getElem?_take] at hi
 split at hi
 ·exact hi
 ·cases hi
theorem rdV_of_own {w : World} {base e : Nat} {A : Option Addr} {c n : Nat} {ls : List α} (h : w.ownsRow base e 1 (.slice A n c) ls.length (ls.map V)) : RdV V w A ls ∧ n = ls.length ∧ ls.length ≤ c ∧ c ≤ maxLen ∧ (A = none → c = 0) := by
 rcases h.2 with ⟨hv, h0⟩ | ⟨g, cap, cur, hv, _, hh, hnc, hcm, _⟩
 ·injection hv with h1 h2 h3
  subst h1; subst h2; subst h3
  exact ⟨fun hn => by omega, h0.symm, by omega, by unfold maxLen; omega, fun _ => rfl⟩
 ·injection hv with h1 h2 h3
  subst h1; subst h2; subst h3
  refine ⟨fun hn => ⟨g, 0, rfl, (Array.getElem?_eq_some_iff.1 hh).1, fun i x hi => ?_⟩, rfl, hnc, hcm, fun h => by cases h⟩
  have := h.cells (g := g) rfl i (V x) (by simp [hi])
  rw [Addr.add_lit] at this
  exact this
theorem run_append_V {P : Program} (hV : ∀ x : α, (V x).oneCell' = true) (w : World) (base : Nat) (t ty e : TypeId) (i : TypeInfo) (z : Value) (bytes : Nat) (ht : P.underlying t = some (.slice e)) (hi : P.info? e = some i) (hz : i.zero = some z) (hsize : i.size = 1) (hby : i.bytes = bytes) (hzs : z.cells.size = 1) (hb16 : bytes ≤ 16)
  (v : Value) (n : Nat) (xs : List α) (hn : n = xs.length) (hown : w.ownsRow base e 1 v n (xs.map V)) (A : Option Addr) (m c : Nat) (ms : List α) (hm : m = ms.length) (hA : A = none → c = 0) (hR : RdV V w A ms) (hb : xs.length + ms.length ≤ 1099511627776) (hbase : base ≤ w.heap.size) :
  ∃ v' w', (Builtin.append_ #[t, t] ty #[v, .slice A m c]).run P w = .ok v' w' ∧ w'.ownsRow base e 1 v' (n + m) ((xs ++ ms).map V) ∧ w.grownBy w' v.ownBlock ∧ (v'.ownBlock = v.ownBlock ∨ v'.ownBlock = some w.heap.size) := by
 subst hn; subst hm
 rw [List.map_append]
 rcases A with _ | ad
 ·obtain rfl := hA rfl
  have h0 : ms = [] := by
   by_cases hn : 0 < ms.length
   ·obtain ⟨_, _, e, _⟩ := hR hn; cases e
   ·exact List.eq_nil_of_length_eq_zero (by omega)
  subst h0
  exact ⟨v, w, run_append_owned_none (P := P) (w := w) base t ty e i 1 ht hi v xs.length (xs.map V) hown, by simpa using hown, World.grownBy.refl w _, .inl rfl⟩
 ·obtain ⟨v', w', hr, h2, h3, _, h5⟩ := run_append_own_at (P := P) w base t ty e i z 1 bytes ht hi hz hsize hby hzs (by decide) v xs.length (xs.map V) hown ad ms.length c (ms.map V) (by rw [List.length_map]; omega) (by
   intro j u hu
   have hj : j < ms.length := by
    have := (List.getElem?_eq_some_iff.1 hu).1
    rwa [List.length_map] at this
   obtain ⟨g, o, e, _, hc⟩ := hR (by omega)
   injection e with e
   subst e
   rw [List.getElem?_map, Option.map_eq_some_iff] at hu
   obtain ⟨x, hx, rfl⟩ := hu
   rw [Addr.add_lit]
   exact hc j x hx) (by
   intro u hu
   rw [List.mem_map] at hu
   obtain ⟨x, _, rfl⟩ := hu
   exact hV x) (by unfold maxLen; omega) (by
   have := Nat.mul_le_mul_left (xs.length + ms.length) hb16
   omega) hbase
  exact ⟨v', w', hr, h2, h3, h5⟩
theorem own_oneV (w : World) (base e : Nat) (x : α) (hb : base ≤ w.heap.size) : (w.alloc (.cells #[V x] e)).ownsRow base e 1 (.slice (some ⟨w.heap.size, 0, none⟩) 1 1) 1 ([x].map V) :=
 ⟨rfl, .inr ⟨w.heap.size, 1, #[V x], rfl, hb, heap_alloc_new w _, by simp, by unfold maxLen; omega, by simp, by simp⟩⟩
theorem own_set0 {w : World} {base e : Nat} {g n c : Nat} {x : α} {t : List α} (h : w.ownsRow base e 1 (.slice (some ⟨g, 0, none⟩) n c) n ((x :: t).map V)) (y : α) : (w.setCell ⟨g, 0, none⟩ (V y)).ownsRow base e 1 (.slice (some ⟨g, 0, none⟩) n c) n ((y :: t).map V) := by
 obtain ⟨h1, h2⟩ := h
 refine ⟨by simpa using h1, ?_⟩
 rcases h2 with ⟨hv, _⟩ | ⟨g', cap, cur, hv, hb, hh, hnc, hcm, hcs, htk⟩
 ·cases hv
 ·injection hv with e1 e2 e3
  injection e1 with e1
  injection e1 with e1
  subst e1; subst e3
  refine .inr ⟨g, c, cur.setIfInBounds 0 (V y), rfl, hb, ?_, hnc, hcm, by simpa using hcs, ?_⟩
  ·show (w.heap.modify g _)[g]? = _
   rw [Array.getElem?_eq_getElem (by rw [Array.size_modify]; exact (Array.getElem?_eq_some_iff.1 hh).1), Array.getElem_modify_self, (Array.getElem?_eq_some_iff.1 hh).2]
   rfl
  ·obtain ⟨l⟩ := cur
   simp only [Array.toList_setIfInBounds] at *
   cases l with
   | nil => simp at htk
   | cons a l =>
    cases n with
    | zero => simp at htk
    | succ n => simp at htk; simpa using htk.2
structure RingAt (V : α → Value) (e tS : TypeId) (w : World) (R : Nat → Prop) (b : Nat) (s : RS α) : Prop where
 ok : s.Ok
 ins : R b
 lt : ∀ k, R k → k < w.heap.size
 mem : ∃ v, w.heap[b]? = some (.cells #[.int .i64 (s.lim : Int), v, .int .i64 (s.i : Int)] tS (0, 0)) ∧ w.ownsRow 0 e 1 v s.l.length (s.l.map V) ∧ ∀ g, v.ownBlock = some g → R g
variable {e tS : TypeId} {w w' : World} {R : Nat → Prop} {b : Nat} {s : RS α}
theorem RingAt.keep {R' : Nat → Prop} (h : RingAt V e tS w R b s) (ho : Only R' w w') (hd : ∀ k, R k → ¬ R' k) : RingAt V e tS w' R b s := by
 obtain ⟨v, h1, h2, h3⟩ := h.mem
 refine ⟨h.ok, h.ins, fun k hk => Nat.lt_of_lt_of_le (h.lt k hk) ho.size, v, (ho.block b (h.lt b h.ins) (hd b h.ins)).trans h1, ⟨h2.1, ?_⟩, h3⟩
 rcases h2.2 with h4 | ⟨g, cap, cur, hv, hg, hh, r⟩
 ·exact .inl h4
 ·exact .inr ⟨g, cap, cur, hv, hg, (ho.block g (Array.getElem?_eq_some_iff.1 hh).1 (hd g (h3 g (by rw [hv]; rfl)))).trans hh, r⟩
theorem RingAt.below (h : RingAt V e tS w R b s) (hb : Below w.heap.size w w') : RingAt V e tS w' R b s := h.keep (R' := fun _ => False) (Only.of_below hb) (fun _ _ h => h)
theorem RingAt.drew (h : RingAt V e tS w R b s) : RingAt V e tS w.drew R b s := h.below ((Below.refl _ w).drew)
theorem RingAt.alloc (h : RingAt V e tS w R b s) (o : Obj) : RingAt V e tS (w.alloc o) R b s := h.below ((Below.refl _ w).alloc (Nat.le_refl _) o)
theorem ring_own {row : Option Nat} (h : RingAt V e tS w R b s) (hg : w.grownBy w' row) (hr : ∀ r, row = some r → ∃ o : Obj, w.heap[r]? = some o ∧ o.isCells = false) : RingAt V e tS w' R b s := by
 obtain ⟨v, h1, h2, h3⟩ := h.mem
 have hb : w'.heap[b]? = w.heap[b]? := hg.block b (h.lt b h.ins) (fun e2 => by obtain ⟨o, ho, hc⟩ := hr b e2.symm; rw [h1] at ho; cases ho; cases hc)
 refine ⟨h.ok, h.ins, fun k hk => Nat.lt_of_lt_of_le (h.lt k hk) hg.size, v, hb.trans h1, ⟨h2.1, ?_⟩, h3⟩
 rcases h2.2 with h4 | ⟨g, cap, cur, hv, hg2, hh, r⟩
 ·exact .inl h4
 ·exact .inr ⟨g, cap, cur, hv, hg2, (hg.block g (Array.getElem?_eq_some_iff.1 hh).1 (fun e2 => by obtain ⟨o, ho, hc⟩ := hr g e2.symm; rw [hh] at ho; cases ho; cases hc)).trans hh, r⟩
theorem RingAt.open_ (h : RingAt V e tS w R b s) : ∃ A c, w.heap[b]? = some (.cells #[.int .i64 (s.lim : Int), .slice A s.l.length c, .int .i64 (s.i : Int)] tS (0, 0)) ∧ w.ownsRow 0 e 1 (.slice A s.l.length c) s.l.length (s.l.map V) ∧ (∀ g, (Value.slice A s.l.length c).ownBlock = some g → R g) ∧ RdV V w A s.l ∧ s.l.length ≤ c ∧ c ≤ maxLen ∧ (A = none → c = 0) := by
 obtain ⟨v, h1, h2, h3⟩ := h.mem
 obtain ⟨A, c, rfl⟩ := own_form h2
 obtain ⟨h4, _, h5, h6, h7⟩ := rdV_of_own h2
 exact ⟨A, c, h1, h2, h3, h4, h5, h6, h7⟩
theorem own_only {w w' : World} {base e n : Nat} {v : Value} {xs : List Value} {R : Nat → Prop} (h : w.ownsRow base e 1 v n xs) (ho : Only R w w') (hd : ∀ g, v.ownBlock = some g → ¬ R g) : w'.ownsRow base e 1 v n xs := by
 refine ⟨h.1, ?_⟩
 rcases h.2 with h4 | ⟨g, cap, cur, hv, hg, hh, r⟩
 ·exact .inl h4
 ·exact .inr ⟨g, cap, cur, hv, hg, (ho.block g (Array.getElem?_eq_some_iff.1 hh).1 (hd g (by rw [hv]; rfl))).trans hh, r⟩
theorem own_apart {w : World} {base e tS n b : Nat} {v : Value} {xs : List Value} {cs : Array Value} (hne : e ≠ tS) (hb : w.heap[b]? = some (.cells cs tS (0, 0))) (h : w.ownsRow base e 1 v n xs) : ∀ g, v.ownBlock = some g → g ≠ b := by
 intro g hg e2
 subst e2
 rcases h.2 with ⟨hv, _⟩ | ⟨g', cap, cur, hv, _, hh, _⟩
 ·rw [hv] at hg; cases hg
 ·rw [hv] at hg
  injection hg with hg
  simp only at hg
  subst hg
  rw [hb] at hh
  injection hh with hh
  injection hh with _ h2
  exact hne h2.symm
theorem own_cells {w : World} {base e n : Nat} {v : Value} {xs : List Value} (h : w.ownsRow base e 1 v n xs) {j : Nat} {o : Obj} (ej : v.ownBlock = some j) (hj : w.heap[j]? = some o) : o.isCells = true := by
 rcases h.2 with ⟨rfl, _⟩ | ⟨g, cap, cur, rfl, _, hgb, _⟩
 ·simp [Value.ownBlock] at ej
 ·obtain rfl : g = j := by simpa [Value.ownBlock] using ej
  rw [hgb] at hj; cases hj; rfl
theorem only_set (w : World) (p : Addr) (u : Value) : Only (fun k => k = p.block) w (w.setCell p u) := (Only.refl (fun k => k = p.block) w).set (.inl rfl) u
theorem bel_drewK {B : Nat} {a w : World} (h : Below B a w) (n : Nat) : Below B a (w.drewN n) := ⟨h.os, h.tape, h.output, h.size, h.block⟩
def RingTo (V : α → Value) (e tS : TypeId) (w : World) (R : Nat → Prop) (w' : World) (b : Nat) (s : RS α) : Prop := ∃ R', RingAt V e tS w' R' b s ∧ Only R w w' ∧ ∀ k, R' k → R k ∨ w.heap.size ≤ k
theorem RingTo.trans {w1 w2 : World} {b' : Nat} {s1 s2 : RS α} (h1 : RingTo V e tS w R w1 b s1) (h2 : ∀ R1, RingAt V e tS w1 R1 b s1 → RingTo V e tS w1 R1 w2 b' s2) : RingTo V e tS w R w2 b' s2 := by
 obtain ⟨Ra, a1, a2, a3⟩ := h1
 obtain ⟨Rb, b1, b2, b3⟩ := h2 Ra a1
 refine ⟨Rb, b1, a2.trans b2 a3, fun k hk => ?_⟩
 rcases b3 k hk with h | h
 ·exact a3 k h
 ·exact .inr (Nat.le_trans a2.size h)
theorem RingTo.drew (h : RingTo V e tS w R w' b s) : RingTo V e tS w R w'.drew b s := by
 obtain ⟨Ra, a1, a2, a3⟩ := h
 exact ⟨Ra, a1.drew, a2.drew, a3⟩
theorem RingTo.below {w2 : World} (h : RingTo V e tS w R w' b s) (hb : Below w'.heap.size w' w2) : RingTo V e tS w R w2 b s := by
 obtain ⟨Ra, a1, a2, a3⟩ := h
 exact ⟨Ra, a1.below hb, a2.trans (R' := fun _ => False) (Only.of_below hb) (fun _ h => h.elim), a3⟩
def RingIn (V : α → Value) (e tS : TypeId) (w W : World) (b : Nat) (s : RS α) : Prop := ∃ R, RingAt V e tS W R b s ∧ (∀ k, R k → w.heap.size ≤ k) ∧ Below w.heap.size w W
theorem RingAt.refl (h : RingAt V e tS w R b s) : RingTo V e tS w R w b s := ⟨R, h, Only.refl _ _, fun _ h => .inl h⟩
theorem ring_put (h : RingAt V e tS w R b s) {w2 : World} (ho : Only (fun _ => False) w w2) {v : Value} {ls : List α} (hown : w2.ownsRow 0 e 1 v ls.length (ls.map V)) (hnew : ∀ g, v.ownBlock = some g → w.heap.size ≤ g) (hok : (⟨s.lim, ls, 0⟩ : RS α).Ok) :
  RingTo V e tS w R ((w2.setCell ⟨b, 1, none⟩ v).setCell ⟨b, 2, none⟩ (.int .i64 0)) b ⟨s.lim, ls, 0⟩ := by
 have h' := h.keep ho (fun _ _ h => h)
 obtain ⟨u, h1, h2, h3⟩ := h'.mem
 have hlt := h.lt b h.ins
 have k1 := only_set w2 ⟨b, 1, none⟩ v
 have k2 := only_set (w2.setCell ⟨b, 1, none⟩ v) ⟨b, 2, none⟩ (.int .i64 0)
 have o1 : Only (fun k => k = b) w2 ((w2.setCell ⟨b, 1, none⟩ v).setCell ⟨b, 2, none⟩ (.int .i64 0)) := k1.trans k2 (fun _ h => .inl h)
 have o2 : Only R w ((w2.setCell ⟨b, 1, none⟩ v).setCell ⟨b, 2, none⟩ (.int .i64 0)) := (ho.mono (R' := R) (fun _ h => h.elim)).trans o1 (fun i e => .inl (by rw [e]; exact h.ins))
 refine ⟨fun k => R k ∨ (w.heap.size ≤ k ∧ k < w2.heap.size), ⟨hok, .inl h.ins, fun k hk => ?_, v, (Bx3.set2 (Bx3.set1 h1 v) _ : Bx3 _ _ _ _ _ _), own_only hown o1 (fun g hg (e2 : g = b) => by have := hnew g hg; omega), fun g hg => .inr ⟨hnew g hg, (hown.lt g hg).2⟩⟩, o2, fun k hk => hk.imp id (fun h => h.1)⟩
 have hs := o1.size
 rcases hk with hk | hk
 ·exact Nat.lt_of_lt_of_le (h.lt k hk) o2.size
 ·omega
theorem own_head {n c : Nat} {A : Option Addr} {x : Value} {t : List Value} (h : w.ownsRow 0 e 1 (.slice A n c) n (x :: t)) : ∃ g, A = some ⟨g, 0, none⟩ ∧ w.frozen? ⟨g, 0, none⟩ = false ∧ w.cell? ⟨g, 0, none⟩ = some x := by
 have hx := h.1
 rcases h.2 with ⟨hv, h0⟩ | ⟨g, cap, cur, hv, _, hh, _⟩
 ·rw [h0] at hx; simp at hx
 ·injection hv with e1 e2 e3
  subst e1
  refine ⟨g, rfl, by simp [World.frozen?, hh], ?_⟩
  have := h.cells (g := g) rfl 0 x rfl
  rw [Addr.add_lit] at this
  exact this
theorem ring_first (hne : e ≠ tS) (h : RingAt V e tS w R b s) {g c : Nat} {x : α} {t : List α} (hl : s.l = x :: t) (h1 : w.heap[b]? = some (.cells #[.int .i64 (s.lim : Int), .slice (some ⟨g, 0, none⟩) s.l.length c, .int .i64 (s.i : Int)] tS (0, 0)))
  (h2 : w.ownsRow 0 e 1 (.slice (some ⟨g, 0, none⟩) s.l.length c) s.l.length (s.l.map V)) (hin : R g) (y : α) (hok : (⟨s.lim, y :: t, 0⟩ : RS α).Ok) :
  RingTo V e tS w R ((w.setCell ⟨g, 0, none⟩ (V y)).setCell ⟨b, 2, none⟩ (.int .i64 0)) b ⟨s.lim, y :: t, 0⟩ := by
 have hgb : g ≠ b := own_apart hne h1 h2 g rfl
 have k1 := only_set w ⟨g, 0, none⟩ (V y)
 have k2 := only_set (w.setCell ⟨g, 0, none⟩ (V y)) ⟨b, 2, none⟩ (.int .i64 0)
 have hlen : s.l.length = (y :: t).length := by rw [hl]; rfl
 rw [hlen] at h1
 rw [hl] at h2
 have o1 := own_set0 (V := V) (y := y) (x := x) (t := t) (by simpa using h2)
 have b1 : Bx3 (w.setCell ⟨g, 0, none⟩ (V y)) b tS _ _ _ := (show Bx3 w b tS _ _ _ from h1).other (fun e => hgb e.symm) (V y)
 have hR : Only R w ((w.setCell ⟨g, 0, none⟩ (V y)).setCell ⟨b, 2, none⟩ (.int .i64 0)) := (k1.mono (R' := R) (fun i (e : i = g) => .inl (by rw [e]; exact hin))).trans (k2.mono (R' := R) (fun i (e : i = b) => .inl (by rw [e]; exact h.ins))) (fun _ h => .inl h)
 exact ⟨R, ⟨hok, h.ins, fun k hk => Nat.lt_of_lt_of_le (h.lt k hk) hR.size, _, b1.set2 _, own_only o1 k2 (fun g' hg (e : g' = b) => hgb (by injection hg with hg; simp only at hg; rw [hg]; exact e)), fun g' hg => by injection hg with hg; simp only at hg; rw [← hg]; exact hin⟩, hR, fun _ h => .inl h⟩
theorem ring_app (hne : e ≠ tS) (h : RingAt V e tS w R b s) {v : Value} (h1 : w.heap[b]? = some (.cells #[.int .i64 (s.lim : Int), v, .int .i64 (s.i : Int)] tS (0, 0))) (hin : ∀ g, v.ownBlock = some g → R g) (hown0 : w.ownsRow 0 e 1 v s.l.length (s.l.map V)) {w2 : World} (tmp : Obj) {v' : Value} {ls : List α} (hg : (w.drew.alloc tmp).grownBy w2 v.ownBlock) (hb' : v'.ownBlock = v.ownBlock ∨ v'.ownBlock = some (w.drew.alloc tmp).heap.size) (hown : w2.ownsRow 0 e 1 v' ls.length (ls.map V)) (hok : (⟨s.lim, ls, s.i⟩ : RS α).Ok) :
  Bx3 w2 b tS (.int .i64 (s.lim : Int)) v (.int .i64 (s.i : Int)) ∧ RingTo V e tS w R (w2.setCell ⟨b, 1, none⟩ v') b ⟨s.lim, ls, s.i⟩ := by
 have hsz : (w.drew.alloc tmp).heap.size = w.heap.size + 1 := World.size_alloc w.drew tmp
 have ho : Only R w w2 := (((Only.refl R w).drew).alloc tmp).grown hg (fun i e => .inl (hin i e))
 have hb2 : Bx3 w2 b tS (.int .i64 (s.lim : Int)) v (.int .i64 (s.i : Int)) := by
  have hlt := h.lt b h.ins
  refine (hg.block b (by omega) (fun e2 => own_apart hne h1 hown0 b e2.symm rfl)).trans ?_
  exact (Below.heap_alloc w.drew tmp b hlt).trans h1
 refine ⟨hb2, ?_⟩
 have k1 := only_set w2 ⟨b, 1, none⟩ v'
 have o2 : Only R w (w2.setCell ⟨b, 1, none⟩ v') := ho.trans k1 (fun i (e : i = b) => .inl (by rw [e]; exact h.ins))
 refine ⟨fun k => R k ∨ (w.heap.size ≤ k ∧ k < w2.heap.size), ⟨hok, .inl h.ins, fun k hk => ?_, v', hb2.set1 v', own_only hown k1 (fun g hg (e2 : g = b) => own_apart hne hb2 hown g hg e2), fun g hg => ?_⟩, o2, fun k hk => hk.imp id (fun h => h.1)⟩
 ·rcases hk with hk | hk
  ·exact Nat.lt_of_lt_of_le (h.lt k hk) o2.size
  ·have := k1.size
   omega
 ·rcases hb' with hb' | hb'
  ·exact .inl (hin g (hb'.symm.trans hg))
  ·rw [hg] at hb'
   injection hb' with hb'
   exact .inr ⟨by omega, (hown.lt g hg).2⟩
theorem ring_stand (hne : e ≠ tS) (h : RingAt V e tS w R b s) (j : Nat) (hok : (⟨s.lim, s.l, j⟩ : RS α).Ok) : RingTo V e tS w R (w.setCell ⟨b, 2, none⟩ (.int .i64 (j : Int))) b ⟨s.lim, s.l, j⟩ := by
 obtain ⟨v, h1, h2, h3⟩ := h.mem
 have ho := only_set w ⟨b, 2, none⟩ (.int .i64 (j : Int))
 have hR := ho.mono (R' := R) (fun i (e : i = b) => .inl (by rw [e]; exact h.ins))
 refine ⟨R, ⟨hok, h.ins, fun k hk => Nat.lt_of_lt_of_le (h.lt k hk) hR.size, v, ?_, own_only h2 ho (fun g hg (e : g = b) => own_apart hne h1 h2 g hg e), h3⟩, hR, fun _ h => .inl h⟩
 obtain ⟨hlt, hk⟩ := Array.getElem?_eq_some_iff.1 h1
 show (w.heap.modify b _)[b]? = _
 rw [Array.getElem?_eq_getElem (by rw [Array.size_modify]; exact hlt), Array.getElem_modify_self, hk]
 rfl
end
end
section
open Go Go.RowKit
section
variable {T : Type} {L : World → (Nat → Prop) → (Nat → Prop) → Nat → T → Prop} {w w' : World} {O F : Nat → Prop} {b : Nat} {s : T}
structure ObjF (L : World → (Nat → Prop) → (Nat → Prop) → Nat → T → Prop) : Prop where
 keep : ∀ {w w' : World} {O F R' : Nat → Prop} {b : Nat} {s : T}, L w O F b s → Only R' w w' → (∀ k, O k ∨ F k → ¬ R' k) → L w' O F b s
 lt : ∀ {w : World} {O F : Nat → Prop} {b : Nat} {s : T}, L w O F b s → ∀ k, O k ∨ F k → k < w.heap.size
 ins : ∀ {w : World} {O F : Nat → Prop} {b : Nat} {s : T}, L w O F b s → O b
 dis : ∀ {w : World} {O F : Nat → Prop} {b : Nat} {s : T}, L w O F b s → ∀ k, O k → ¬ F k
theorem ObjF.below (h : ObjF L) (hl : L w O F b s) (hb : Below w.heap.size w w') : L w' O F b s := h.keep (R' := fun _ => False) hl (Only.of_below hb) (fun _ _ h => h)
def ToF (L : World → (Nat → Prop) → (Nat → Prop) → Nat → T → Prop) (w : World) (O F : Nat → Prop) (w' : World) (b : Nat) (s : T) : Prop := ∃ O' F', L w' O' F' b s ∧ Only O w w' ∧ (∀ k, O' k → O k ∨ w.heap.size ≤ k) ∧ ∀ k, F' k → F k ∨ w.heap.size ≤ k
def CopF (L : World → (Nat → Prop) → (Nat → Prop) → Nat → T → Prop) (w : World) (F : Nat → Prop) (w' : World) (b : Nat) (s : T) : Prop := ∃ O' F', L w' O' F' b s ∧ (∀ k, O' k → w.heap.size ≤ k) ∧ (∀ k, F' k → F k ∨ w.heap.size ≤ k) ∧ Below w.heap.size w w'
def InF (L : World → (Nat → Prop) → (Nat → Prop) → Nat → T → Prop) (w W : World) (b : Nat) (s : T) : Prop := ∃ O F, L W O F b s ∧ (∀ k, O k → w.heap.size ≤ k) ∧ Below w.heap.size w W
end
end
section
open Go Go.RowKit
def BxA (w : World) (g : Nat) (t : TypeId) (vs : List Value) : Prop := w.heap[g]? = some (.cells vs.toArray t (0, 0))
section
variable {w w' : World} {b : Nat} {t : TypeId} {vs : List Value}
theorem BxA.lt (h : BxA w b t vs) : b < w.heap.size := (Array.getElem?_eq_some_iff.1 h).1
theorem BxA.c (h : BxA w b t vs) (i : Nat) {v : Value} (hv : vs[i]? = some v) : w.cell? ⟨b, i, none⟩ = some v := by
 simp [World.cell?, show w.heap[b]? = _ from h, hv]
theorem BxA.free (h : BxA w b t vs) (i : Nat) : w.frozen? ⟨b, i, none⟩ = false := by simp [World.frozen?, show w.heap[b]? = _ from h]
theorem BxA.keep {R : Nat → Prop} (h : BxA w b t vs) (ho : Only R w w') (hn : ¬ R b) : BxA w' b t vs := (ho.block b h.lt hn).trans h
theorem BxA.below (h : BxA w b t vs) (hb : Below w.heap.size w w') : BxA w' b t vs := (hb.block b h.lt).trans h
theorem BxA.new (w : World) (t : TypeId) (vs : List Value) : BxA (w.alloc (.cells vs.toArray t)) w.heap.size t vs := World.alloc_heap_new w _
theorem BxA.alloc (h : BxA w b t vs) (o : Obj) : BxA (w.alloc o) b t vs := h.below ((Below.refl _ w).alloc (Nat.le_refl _) o)
theorem BxA.other {g i : Nat} (h : BxA w b t vs) (hne : b ≠ g) (v : Value) : BxA (w.setCell ⟨g, i, none⟩ v) b t vs := (Below.heap_setCell w ⟨g, i, none⟩ v b (by simpa using hne)).trans h
theorem BxA.set (h : BxA w b t vs) (i : Nat) (v : Value) : BxA (w.setCell ⟨b, i, none⟩ v) b t (vs.set i v) := by
 obtain ⟨hlt, hk⟩ := Array.getElem?_eq_some_iff.1 h
 show (w.heap.modify b _)[b]? = _
 rw [Array.getElem?_eq_getElem (by rw [Array.size_modify]; exact hlt), Array.getElem_modify_self, hk]
 simp
end
end
section
open Go Go.RowKit
set_option maxRecDepth 100000
section
variable {α : Type} {V : α → Value}
def RowW (V : α → Value) (w : World) (R : Nat → Prop) (A : Option Addr) (ls : List α) : Prop :=
 0 < ls.length → ∃ g o, A = some ⟨g, o, none⟩ ∧ R g ∧ g < w.heap.size ∧ ∀ i x, ls[i]? = some x → w.cell? ⟨g, o + i, none⟩ = some (V x) ∧ w.frozen? ⟨g, o + i, none⟩ = false
end
end
section
open Go Go.RowKit
section
variable {T : Type} {L : World → (Nat → Prop) → Nat → T → Prop} {w w' : World} {R : Nat → Prop} {b : Nat} {s : T}
structure ObjL (L : World → (Nat → Prop) → Nat → T → Prop) : Prop where
 keep : ∀ {w w' : World} {R R' : Nat → Prop} {b : Nat} {s : T}, L w R b s → Only R' w w' → (∀ k, R k → ¬ R' k) → L w' R b s
 lt : ∀ {w : World} {R : Nat → Prop} {b : Nat} {s : T}, L w R b s → ∀ k, R k → k < w.heap.size
 ins : ∀ {w : World} {R : Nat → Prop} {b : Nat} {s : T}, L w R b s → R b
theorem ObjL.below (h : ObjL L) (hl : L w R b s) (hb : Below w.heap.size w w') : L w' R b s := h.keep (R' := fun _ => False) hl (Only.of_below hb) (fun _ _ h => h)
def ToL (L : World → (Nat → Prop) → Nat → T → Prop) (w : World) (R : Nat → Prop) (w' : World) (b : Nat) (s : T) : Prop := ∃ R', L w' R' b s ∧ Only R w w' ∧ ∀ k, R' k → R k ∨ w.heap.size ≤ k
def InL (L : World → (Nat → Prop) → Nat → T → Prop) (w W : World) (b : Nat) (s : T) : Prop := ∃ R, L W R b s ∧ (∀ k, R k → w.heap.size ≤ k) ∧ Below w.heap.size w W
theorem InL.bel {W : World} (h : InL L w W b s) : Below w.heap.size w W := by
 obtain ⟨_, _, _, h⟩ := h
 exact h
def ToB (L : World → (Nat → Prop) → Nat → T → Prop) (w : World) (R : Nat → Prop) (w' : World) (b : Nat) (s : T) : Prop := ∃ R', L w' R' b s ∧ Only (fun k => k = b) w w' ∧ ∀ k, R' k → R k ∨ w.heap.size ≤ k
theorem ToB.of_below (O : ObjL L) (h : L w R b s) (hb : Below w.heap.size w w') : ToB L w R w' b s := ⟨R, O.below h hb, Only.of_below hb, fun _ h => .inl h⟩
theorem ToB.below (O : ObjL L) {w2 : World} (h : ToB L w R w' b s) (hb : Below w'.heap.size w' w2) : ToB L w R w2 b s := by
 obtain ⟨Ra, a1, a2, a3⟩ := h
 exact ⟨Ra, O.below a1 hb, a2.trans (R' := fun _ => False) (Only.of_below hb) (fun _ h => h.elim), a3⟩
def CopL (L : World → (Nat → Prop) → Nat → T → Prop) (w : World) (R : Nat → Prop) (b : Nat) (w' : World) (b' : Nat) (s : T) : Prop := ∃ R', L w' R' b' s ∧ w.heap.size ≤ b' ∧ (∀ k, R' k → (R k ∧ k ≠ b) ∨ w.heap.size ≤ k) ∧ Below w.heap.size w w'
theorem CopL.bel {b' : Nat} (h : CopL L w R b w' b' s) : Below w.heap.size w w' := by
 obtain ⟨_, _, _, _, h⟩ := h
 exact h
end
end
section
open Go Go.RowKit
section
variable {α : Type}
def rowL (s : LS α) : List α := s.back ++ s.now :: s.forth.reverse
theorem rowL_length (s : LS α) : (rowL s).length = s.back.length + 1 + s.forth.length := by simp [rowL]; omega
theorem rowL_now (s : LS α) : (rowL s)[s.back.length]? = some s.now := by simp [rowL]
theorem rowL_undo {s : LS α} (h : s.back ≠ []) : rowL s.undo = rowL s ∧ s.undo.back.length = s.back.length - 1 ∧ s.undo.lim = s.lim ∧ s.undo.opn = 0 := by
 obtain ⟨r, y, hr⟩ : ∃ r y, s.back = r ++ [y] := ⟨_, _, (List.dropLast_concat_getLast h).symm⟩
 rw [LS.undo_some hr]
 simp [rowL, hr]
theorem rowL_redo {s : LS α} (h : s.forth ≠ []) : rowL s.redo = rowL s ∧ s.redo.back.length = s.back.length + 1 ∧ s.redo.lim = s.lim ∧ s.redo.opn = 0 := by
 obtain ⟨r, y, hr⟩ : ∃ r y, s.forth = r ++ [y] := ⟨_, _, (List.dropLast_concat_getLast h).symm⟩
 rw [LS.redo_some hr]
 simp [rowL, hr]
theorem rowL_cut (s : LS α) : (rowL s).take (s.back.length + 1) = s.back ++ [s.now] := by
 unfold rowL
 rw [List.take_append, List.take_of_length_le (by omega), show s.back.length + 1 - s.back.length = 1 by omega]
 rfl
variable {V : α → Value} {e tS : TypeId} {w w' : World} {R : Nat → Prop} {b : Nat} {s : LS α}
structure LogAt (V : α → Value) (e tS : TypeId) (w : World) (R : Nat → Prop) (b : Nat) (s : LS α) : Prop where
 ok : s.Ok
 ins : R b
 lt : ∀ k, R k → k < w.heap.size
 mem : ∃ A c, BxA w b tS [.int .i64 (s.lim : Int), .slice A (rowL s).length c, .int .i64 (s.back.length : Int), .int .i64 s.opn] ∧ RowW V w (fun k => R k ∧ k ≠ b) A (rowL s) ∧ (rowL s).length ≤ c ∧ c ≤ maxLen
end
end
section
open Go Go.RowKit
set_option maxRecDepth 100000
section
variable {α : Type} {C : α → List Value} {k : Nat}
theorem flat_length (hC : ∀ x, (C x).length = k) (ls : List α) : (ls.flatMap C).length = ls.length * k := by
 induction ls with
 | nil => simp
 | cons x t ih => rw [List.flatMap_cons, List.length_append, ih, hC, List.length_cons, Nat.succ_mul, Nat.add_comm]
theorem flat_take (hC : ∀ x, (C x).length = k) (ls : List α) : ∀ n, (ls.take n).flatMap C = (ls.flatMap C).take (n * k) := by
 induction ls with
 | nil => simp
 | cons x t ih =>
  intro n
  cases n with
  | zero => simp
  | succ n => rw [List.take_succ_cons, List.flatMap_cons, List.flatMap_cons, ih, Nat.succ_mul, Nat.add_comm, List.take_append, hC, show k + n * k - k = n * k by omega, List.take_of_length_le (show (C x).length ≤ k + n * k by rw [hC]; omega)]
theorem flat_drop (hC : ∀ x, (C x).length = k) (ls : List α) : ∀ n, (ls.drop n).flatMap C = (ls.flatMap C).drop (n * k) := by
 induction ls with
 | nil => simp
 | cons x t ih =>
  intro n
  cases n with
  | zero => simp
  | succ n => rw [List.drop_succ_cons, List.flatMap_cons, ih, Nat.succ_mul, Nat.add_comm, List.drop_append, hC, show k + n * k - k = n * k by omega, List.drop_of_length_le (show (C x).length ≤ k + n * k by rw [hC]; omega), List.nil_append]
theorem flat_get (hC : ∀ x, (C x).length = k) {ls : List α} {i : Nat} {x : α} (hi : ls[i]? = some x) {j : Nat} {v : Value} (hj : (C x)[j]? = some v) : (ls.flatMap C)[i * k + j]? = some v := by
 have hjl := (List.getElem?_eq_some_iff.1 hj).1
 obtain ⟨hil, hx⟩ := List.getElem?_eq_some_iff.1 hi
 have h := flat_drop hC ls i
 rw [List.drop_eq_getElem_cons hil, hx, List.flatMap_cons] at h
 rw [← List.getElem?_drop, ← h, List.getElem?_append_left hjl]
 exact hj
def RowT (C : α → List Value) (w : World) (R : Nat → Prop) (A : Option Addr) (ls : List α) : Prop :=
 0 < ls.length → ∃ g o, A = some ⟨g, o, none⟩ ∧ R g ∧ g < w.heap.size ∧ ∀ j v, (ls.flatMap C)[j]? = some v → w.cell? ⟨g, o + j, none⟩ = some v
theorem RowT.mono {w : World} {R R' : Nat → Prop} {A : Option Addr} {ls : List α} (h : RowT C w R A ls) (hR : ∀ i, R i → R' i) : RowT C w R' A ls := fun hn => by
 obtain ⟨g, o, e, hr, hg, hc⟩ := h hn
 exact ⟨g, o, e, hR g hr, hg, hc⟩
theorem RowT.keep {w w' : World} {R R' : Nat → Prop} {A : Option Addr} {ls : List α} (h : RowT C w R A ls) (ho : Only R' w w') (hd : ∀ i, R i → ¬ R' i) : RowT C w' R A ls := fun hn => by
 obtain ⟨g, o, e, hr, hg, hc⟩ := h hn
 exact ⟨g, o, e, hr, Nat.lt_of_lt_of_le hg ho.size, fun j v hj => ho.cell (hc j v hj) (show ¬ R' g from hd g hr)⟩
theorem RowT.below {w w' : World} {R : Nat → Prop} {A : Option Addr} {ls : List α} (h : RowT C w R A ls) (hb : Below w.heap.size w w') : RowT C w' R A ls := h.keep (R' := fun _ => False) (Only.of_below hb) (fun _ _ h => h)
theorem RowT.take {w : World} {R : Nat → Prop} {A : Option Addr} {ls : List α} (hC : ∀ x, (C x).length = k) (h : RowT C w R A ls) (n : Nat) : RowT C w R A (ls.take n) := fun hn => by
 rw [List.length_take] at hn
 obtain ⟨g, o, e, hr, hg, hc⟩ := h (by omega)
 refine ⟨g, o, e, hr, hg, fun j v hj => hc j v ?_⟩
 rw [flat_take hC, List.getElem?_take] at hj
 split at hj
 ·exact hj
 ·cases hj
theorem RowT.drop {w : World} {R : Nat → Prop} {g o : Nat} {ls : List α} (hC : ∀ x, (C x).length = k) (h : RowT C w R (some ⟨g, o, none⟩) ls) (n : Nat) : RowT C w R (some ⟨g, o + n * k, none⟩) (ls.drop n) := fun hn => by
 rw [List.length_drop] at hn
 obtain ⟨g', o', e, hr, hg, hc⟩ := h (by omega)
 injection e with e
 injection e with e1 e2
 subst e1; subst e2
 refine ⟨g, o + n * k, rfl, hr, hg, fun j v hj => ?_⟩
 rw [flat_drop hC, List.getElem?_drop] at hj
 rw [Nat.add_assoc]
 exact hc (n * k + j) v hj
theorem rowT_of_own {w : World} {base e : Nat} {R : Nat → Prop} {A : Option Addr} {c n : Nat} {ls : List α} (h : w.ownsRow base e k (.slice A n c) ls.length (ls.flatMap C)) (hR : ∀ g, (Value.slice A n c).ownBlock = some g → R g) : RowT C w R A ls := fun hn => by
 rcases h.2 with ⟨hv, h0⟩ | ⟨g, cap, cur, hv, _, hh, hnc, hcm, _⟩
 ·omega
 ·injection hv with h1 h2 h3
  subst h1; subst h2; subst h3
  refine ⟨g, 0, rfl, hR g rfl, (Array.getElem?_eq_some_iff.1 hh).1, fun j v hj => ?_⟩
  have := h.cells (g := g) rfl j v hj
  rw [Addr.add_lit] at this
  exact this
theorem run_append_fullT {P : Program} (hC : ∀ x, (C x).length = k) (w : World) (t ty e : TypeId) (i : TypeInfo) (z : Value) (bytes : Nat) (ht : P.underlying t = some (.slice e)) (hi : P.info? e = some i) (hz : i.zero = some z) (hsize : i.size = k) (hby : i.bytes = bytes) (hzs : z.cells.size = k) (hb16 : bytes ≤ 64)
  (g o sc : Nat) (xs : List α) {R1 R2 : Nat → Prop} (hx : RowT C w R1 (some ⟨g, o, none⟩) xs) (A : Option Addr) (c : Nat) (ms : List α) (hm : 0 < ms.length) (hR : RowT C w R2 A ms) (hfull : sc < xs.length + ms.length) (hb : xs.length + ms.length ≤ 1099511627776) :
  ∃ c' w', (Builtin.append_ #[t, t] ty #[.slice (some ⟨g, o, none⟩) xs.length sc, .slice A ms.length c]).run P w = .ok (.slice (some ⟨w.heap.size, 0, none⟩) (xs.length + ms.length) c') w' ∧
   w'.ownsRow w.heap.size e k (.slice (some ⟨w.heap.size, 0, none⟩) (xs.length + ms.length) c') (xs.length + ms.length) ((xs ++ ms).flatMap C) ∧ Below w.heap.size w w' ∧ w'.heap.size = w.heap.size + 1 := by
 obtain ⟨g2, o2, rfl, _, _, hc2⟩ := hR hm
 subst hby
 have hbytes : (xs.length + ms.length) * i.bytes ≤ 140737488355328 := by
  have := Nat.mul_le_mul_left (xs.length + ms.length) hb16
  omega
 have hr := run_append_grow (P := P) w t ty e i z ht hi hz ⟨g, o, none⟩ xs.length sc (xs.flatMap C) (by rw [flat_length hC, hsize]) (fun j v hj => by
   have hjl := (List.getElem?_eq_some_iff.1 hj).1
   rw [flat_length hC] at hjl
   have hpos : 0 < xs.length := by
    cases xs with
    | nil => simp at hjl
    | cons => simp
   obtain ⟨g', o', e', _, _, hc⟩ := hx hpos
   injection e' with e'
   injection e' with e1 e2
   subst e1; subst e2
   rw [Addr.add_lit]
   exact hc j v hj) ⟨g2, o2, none⟩ ms.length c (ms.flatMap C) (by rw [flat_length hC, hsize]) (fun j v hj => by
   rw [Addr.add_lit]
   exact hc2 j v hj) hfull (by omega) (growslice_fits hfull hbytes)
 have hge := grownCap_ge w (xs.length + ms.length) sc e
 have hcm : grownCap w (xs.length + ms.length) sc e ≤ maxLen := grownCap_le_maxLen w _ sc e (by unfold maxLen; omega)
 have hll : (xs.flatMap C).length + (ms.flatMap C).length = (xs.length + ms.length) * k := by rw [flat_length hC, flat_length hC, Nat.add_mul]
 refine ⟨_, _, hr, ⟨by rw [List.flatMap_append, List.length_append, hll], .inr ⟨w.heap.size, _, _, rfl, Nat.le_refl _, heap_alloc_new w.drew _, hge, hcm, ?_, ?_⟩⟩, ⟨rfl, rfl, rfl, by simp, fun i hi => heap_alloc_old w.drew _ hi⟩, by simp⟩
 ·rw [Array.size_append, Array.size_append, List.size_toArray, List.size_toArray, hll]
  simp only [size_zeroCells, hzs]
  rw [← Nat.add_mul]
  congr 1
  omega
 ·simp only [Array.toList_append, List.flatMap_append]
  rw [← hll, ← List.length_append]
  exact List.take_left
end
end
section
open Go Go.RowKit
section
variable {α : Type} {C : α → List Value} {k : Nat} {e tS : TypeId} {w w' : World} {R : Nat → Prop} {b : Nat} {s : LS α}
structure LogT (C : α → List Value) (tS : TypeId) (w : World) (R : Nat → Prop) (b : Nat) (s : LS α) : Prop where
 ok : s.Ok
 ins : R b
 lt : ∀ i, R i → i < w.heap.size
 mem : ∃ A c, BxA w b tS [.int .i64 (s.lim : Int), .slice A (rowL s).length c, .int .i64 (s.back.length : Int), .int .i64 s.opn] ∧ RowT C w (fun i => R i ∧ i ≠ b) A (rowL s) ∧ (rowL s).length ≤ c ∧ c ≤ maxLen
theorem objT (C : α → List Value) (tS : TypeId) : ObjL (LogT C tS) where
 keep := fun h ho hd => by
  obtain ⟨A, c, h1, h2, h3, h4⟩ := h.mem
  exact ⟨h.ok, h.ins, fun i hi => Nat.lt_of_lt_of_le (h.lt i hi) ho.size, A, c, h1.keep ho (hd _ h.ins), h2.keep ho (fun i hi => hd i hi.1), h3, h4⟩
 lt := fun h => h.lt
 ins := fun h => h.ins
theorem logT_place (h : LogT C tS w R b s) {s' : LS α} (hok : s'.Ok) (hr : rowL s' = rowL s) (hl : s'.lim = s.lim) : LogT C tS ((w.setCell ⟨b, 2, none⟩ (.int .i64 (s'.back.length : Int))).setCell ⟨b, 3, none⟩ (.int .i64 s'.opn)) R b s' ∧ Only (fun i => i = b) w ((w.setCell ⟨b, 2, none⟩ (.int .i64 (s'.back.length : Int))).setCell ⟨b, 3, none⟩ (.int .i64 s'.opn)) := by
 obtain ⟨A, c, h1, h2, h3, h4⟩ := h.mem
 have ho : Only (fun i => i = b) w ((w.setCell ⟨b, 2, none⟩ (.int .i64 (s'.back.length : Int))).setCell ⟨b, 3, none⟩ (.int .i64 s'.opn)) := ((Only.refl (fun i => i = b) w).set (p := ⟨b, 2, none⟩) (.inl rfl) _).set (p := ⟨b, 3, none⟩) (.inl rfl) _
 refine ⟨⟨hok, h.ins, fun i hi => Nat.lt_of_lt_of_le (h.lt i hi) ho.size, A, c, ?_, ?_, by rw [hr]; exact h3, h4⟩, ho⟩
 ·rw [hr, hl]
  exact (h1.set 2 _).set 3 _
 ·rw [hr]
  exact h2.keep ho (fun i hi e => hi.2 e)
theorem logT_group (h : LogT C tS w R b s) {s' : LS α} (hok : s'.Ok) (hr : rowL s' = rowL s) (hl : s'.lim = s.lim) (hb : s'.back.length = s.back.length) : LogT C tS (w.setCell ⟨b, 3, none⟩ (.int .i64 s'.opn)) R b s' ∧ Only (fun i => i = b) w (w.setCell ⟨b, 3, none⟩ (.int .i64 s'.opn)) := by
 obtain ⟨A, c, h1, h2, h3, h4⟩ := h.mem
 have ho : Only (fun i => i = b) w (w.setCell ⟨b, 3, none⟩ (.int .i64 s'.opn)) := (Only.refl (fun i => i = b) w).set (p := ⟨b, 3, none⟩) (.inl rfl) _
 refine ⟨⟨hok, h.ins, fun i hi => Nat.lt_of_lt_of_le (h.lt i hi) ho.size, A, c, ?_, ?_, by rw [hr]; exact h3, h4⟩, ho⟩
 ·rw [hr, hl, hb]
  exact h1.set 3 _
 ·rw [hr]
  exact h2.keep ho (fun i hi e => hi.2 e)
theorem logT_built (h : LogT C tS w R b s) {s' : LS α} (hok : s'.Ok) {w2 Wf : World} (hb : Below w.heap.size w w2) (ho : Only (fun i => i = b) w2 Wf) {A : Option Addr} {c N : Nat} {ty : TypeId} (hN : w.heap.size ≤ N)
  (hbx : BxA Wf b tS [.int .i64 (s'.lim : Int), .slice A (rowL s').length c, .int .i64 (s'.back.length : Int), .int .i64 s'.opn]) (hown : w2.ownsRow N ty k (.slice A (rowL s').length c) (rowL s').length ((rowL s').flatMap C)) : ToB (LogT C tS) w R Wf b s' := by
 have hbl := h.lt b h.ins
 have hR : ∀ g, (Value.slice A (rowL s').length c).ownBlock = some g → w.heap.size ≤ g ∧ g < w2.heap.size := fun g hg => ⟨Nat.le_trans hN (hown.lt g hg).1, (hown.lt g hg).2⟩
 have hrow : RowT C w2 (fun i => (i = b ∨ (w.heap.size ≤ i ∧ i < w2.heap.size)) ∧ i ≠ b) A (rowL s') := rowT_of_own hown (fun g hg => ⟨.inr (hR g hg), fun e => by have := (hR g hg).1; omega⟩)
 have hcap : (rowL s').length ≤ c ∧ c ≤ maxLen := by
  rcases hown.2 with ⟨_, h0⟩ | ⟨g, cap, cur, hv, _, _, hnc, hcm, _⟩
  ·rw [rowL_length] at h0; omega
  ·injection hv with _ _ h3
   subst h3
   exact ⟨hnc, hcm⟩
 refine ⟨fun i => i = b ∨ (w.heap.size ≤ i ∧ i < w2.heap.size), ⟨hok, .inl rfl, fun i hi => ?_, A, c, hbx, hrow.keep ho (fun i hi e => hi.2 e), hcap.1, hcap.2⟩, (Only.of_below hb).trans ho (fun i e => .inl e), fun i hi => ?_⟩
 ·have h1 := hb.size
  have h2 := ho.size
  rcases hi with h | h <;> omega
 ·rcases hi with hi | hi
  ·exact .inl (by rw [hi]; exact h.ins)
  ·exact .inr hi.1
theorem logT_copied (h : LogT C tS w R b s) {Wf : World} {b' : Nat} (hb : Below w.heap.size w Wf) (hb' : w.heap.size ≤ b') (hc : ∀ A c, BxA w b tS [.int .i64 (s.lim : Int), .slice A (rowL s).length c, .int .i64 (s.back.length : Int), .int .i64 s.opn] → BxA Wf b' tS [.int .i64 (s.lim : Int), .slice A (rowL s).length c, .int .i64 (s.back.length : Int), .int .i64 s.opn]) : CopL (LogT C tS) w R b Wf b' s := by
 obtain ⟨A, c, h1, h2, h3, h4⟩ := id h.mem
 have hn := hc A c h1
 refine ⟨fun i => (R i ∧ i ≠ b) ∨ i = b', ⟨h.ok, .inr rfl, fun i hi => ?_, A, c, hn, (h2.below hb).mono (fun i hi => ⟨.inl hi, fun e => ?_⟩), h3, h4⟩, hb', fun i hi => ?_, hb⟩
 ·rcases hi with hi | hi
  ·exact Nat.lt_of_lt_of_le (h.lt i hi.1) hb.size
  ·rw [hi]; exact hn.lt
 ·have := h.lt i hi.1
  omega
 ·rcases hi with hi | hi
  ·exact .inl hi
  ·exact .inr (by omega)
theorem ToB.past {α : Type} {L : World → (Nat → Prop) → Nat → α → Prop} {s : α} (O : ObjL L) {W1 w3 : World} (h : L w R b s) (hB : Below w.heap.size w W1) (hlt : w.heap.size < W1.heap.size) {s' : α} (ht : ToB L W1 R w3 b s') (i j : Nat) (u v : Value) : ToB L w R ((w3.setCell ⟨w.heap.size, i, none⟩ u).setCell ⟨w.heap.size, j, none⟩ v) b s' := by
 obtain ⟨R', a1, a2, a3⟩ := ht
 have hn : ¬ R' w.heap.size := fun hr => by
  rcases a3 _ hr with h' | h'
  ·have := O.lt h _ h'; omega
  ·omega
 refine ⟨R', O.keep (R' := fun i => i = w.heap.size) a1 (((Only.refl (fun i => i = w.heap.size) w3).set (p := ⟨w.heap.size, i, none⟩) (.inl rfl) u).set (p := ⟨w.heap.size, j, none⟩) (.inl rfl) v) (fun k hk e => hn (by rw [← e]; exact hk)), (((Only.of_below hB).trans a2 (fun i e => .inl e)).set (p := ⟨w.heap.size, i, none⟩) (.inr (Nat.le_refl _)) u).set (p := ⟨w.heap.size, j, none⟩) (.inr (Nat.le_refl _)) v, fun k hk => (a3 k hk).imp id (fun h => Nat.le_trans hB.size h)⟩
theorem Bx.keepO {g : Nat} {t : TypeId} {x y : Value} (h : Bx w g t x y) {R' : Nat → Prop} (ho : Only R' w w') (hn : ¬ R' g) : Bx w' g t x y := (ho.block g h.lt hn).trans h
theorem LogT.open_ (h : LogT C tS w R b s) : ∃ g o c, BxA w b tS [.int .i64 (s.lim : Int), .slice (some ⟨g, o, none⟩) (s.back.length + 1 + s.forth.length) c, .int .i64 (s.back.length : Int), .int .i64 s.opn] ∧ RowT C w R (some ⟨g, o, none⟩) (rowL s) ∧ g ≠ b ∧ g < w.heap.size ∧ s.back.length + 1 + s.forth.length ≤ c ∧ c ≤ maxLen := by
 obtain ⟨A, c, h1, h2, h3, h4⟩ := h.mem
 obtain ⟨g, o, rfl, hr, hg, hc⟩ := id h2 (by rw [rowL_length]; omega)
 rw [rowL_length] at h1 h3
 exact ⟨g, o, c, h1, h2.mono (fun i hi => hi.1), hr.2, hg, h3, h4⟩
theorem RowT.cells {g o : Nat} (hC : ∀ x, (C x).length = k) (h : RowT C w R (some ⟨g, o, none⟩) (rowL s)) {j : Nat} {v : Value} (hj : (C s.now)[j]? = some v) : w.cell? ⟨g, o + (s.back.length * k + j), none⟩ = some v := by
 obtain ⟨g', o', e, _, _, hc⟩ := h (by rw [rowL_length]; omega)
 injection e with e
 injection e with e1 e2
 subst e1; subst e2
 exact hc _ _ (flat_get hC (rowL_now s) hj)
end
end
section
open Go Go.RowKit
set_option maxRecDepth 100000
section
variable {P : Program} {t kt et : TypeId}
theorem run_put_new (ht : P.underlying t = some (.map kt et)) (hk : P.underlying kt = some (.int .i64)) (w : World) (m : Nat) (es : Array MapEntry) (c : Nat) (hm : w.heap[m]? = some (.map es c)) (k : Int) (v : Value) (hf : Instr.findNow (.int .i64) (.int .i64 k) es.toList 0 = some none) :
  ∃ w', (Instr.mapUpdate t (.map (some m)) (.int .i64 k) v).run P w = .ok () w' ∧ w'.heap[m]? = some (.map (es.push ⟨.int .i64 k, v, c⟩) (c + 1)) ∧ Only (fun i => i = m) w w' := by
 have hlt := (Array.getElem?_eq_some_iff.1 hm).1
 have hc : (Instr.checkKey false 10000 kt (.int .i64 k)).run P w = .ok () w := MapKept.run_checkKey (k := .int .i64 k) hk (by simp [MapKept.IsKey]) false 9999
 refine ⟨{ w with heap := w.heap.setIfInBounds m (.map (es.push ⟨.int .i64 k, v, c⟩) (c + 1)) }, ?_, ?_, ?_⟩
 ·simp [Instr.mapUpdate, run_underlying ht, MapKept.run_getObj_map hm, hc, MapKept.run_findKey hk hf, MapKept.run_setObj_map _ hm, Result.andThen]
 ·simp [hlt]
 ·refine ⟨rfl, rfl, rfl, by simp, fun i hi hn => ?_⟩
  simp [Ne.symm hn]
theorem run_look (ht : P.underlying t = some (.map kt et)) (hk : P.underlying kt = some (.int .i64)) (w : World) (m : Nat) (es : Array MapEntry) (c : Nat) (hm : w.heap[m]? = some (.map es c)) (k : Int) (i : Nat) (v : Value) (hf : Instr.findNow (.int .i64) (.int .i64 k) es.toList 0 = some (some (i, v))) :
  (Instr.lookup t (.map (some m)) (.int .i64 k) true).run P w = .ok (.tuple #[v, .bool true]) w := by
 have hc : (Instr.checkKey es.isEmpty 10000 kt (.int .i64 k)).run P w = .ok () w := MapKept.run_checkKey (k := .int .i64 k) hk (by simp [MapKept.IsKey]) _ 9999
 simp [Instr.lookup, run_underlying ht, MapKept.run_getObj_map hm, hc, MapKept.run_findKey hk hf, Result.andThen]
theorem run_look_none (ht : P.underlying t = some (.map kt et)) (hk : P.underlying kt = some (.int .i64)) (w : World) (m : Nat) (es : Array MapEntry) (c : Nat) (hm : w.heap[m]? = some (.map es c)) (k : Int) (z : Value) (hz : (zeroValue et).run P w = .ok z w) (hf : Instr.findNow (.int .i64) (.int .i64 k) es.toList 0 = some none) :
  (Instr.lookup t (.map (some m)) (.int .i64 k) true).run P w = .ok (.tuple #[z, .bool false]) w := by
 have hc : (Instr.checkKey es.isEmpty 10000 kt (.int .i64 k)).run P w = .ok () w := MapKept.run_checkKey (k := .int .i64 k) hk (by simp [MapKept.IsKey]) _ 9999
 simp [Instr.lookup, run_underlying ht, MapKept.run_getObj_map hm, hc, MapKept.run_findKey hk hf, hz, Result.andThen]
end
def actE : Array MapEntry := #[⟨.int .i64 1, .func (.func 70) #[] #[], 0⟩, ⟨.int .i64 26, .func (.func 71) #[] #[], 1⟩, ⟨.int .i64 3, .func (.func 72) #[] #[], 2⟩, ⟨.int .i64 4, .func (.func 73) #[] #[], 3⟩, ⟨.int .i64 24, .func (.func 74) #[] #[], 4⟩, ⟨.int .i64 5, .func (.func 75) #[] #[], 5⟩, ⟨.int .i64 6, .func (.func 76) #[] #[], 6⟩, ⟨.int .i64 7, .func (.func 77) #[] #[], 7⟩, ⟨.int .i64 8, .func (.func 78) #[] #[], 8⟩, ⟨.int .i64 9, .func (.func 79) #[] #[], 9⟩, ⟨.int .i64 10, .func (.func 80) #[] #[], 10⟩, ⟨.int .i64 11, .func (.func 81) #[] #[], 11⟩, ⟨.int .i64 14, .func (.func 82) #[] #[], 12⟩, ⟨.int .i64 12, .func (.func 83) #[] #[], 13⟩, ⟨.int .i64 13, .func (.func 84) #[] #[], 14⟩, ⟨.int .i64 15, .func (.func 85) #[] #[], 15⟩, ⟨.int .i64 16, .func (.func 86) #[] #[], 16⟩, ⟨.int .i64 17, .func (.func 87) #[] #[], 17⟩, ⟨.int .i64 18, .func (.func 88) #[] #[], 18⟩]
theorem acts_calls (w : World) :
  Calls Tryz.prog 34 #[] w fun e w' => ∃ m, e = .returned (.map (some m)) ∧ w'.heap[m]? = some (.map actE 19) ∧ Below w.heap.size w w' := by
 have hmm := @run_makeMap Tryz.prog
 have m0 : (w.alloc (.map #[] 0)).heap[w.heap.size]? = some (.map #[] 0) := World.alloc_heap_new w _
 have b0 : Below w.heap.size w (w.alloc (.map #[] 0)) := (Below.refl _ w).alloc (Nat.le_refl _) _
 obtain ⟨w1, r1, m1, o1⟩ := run_put_new (P := Tryz.prog) (t := 72) Tryz.underlying72 Tryz.underlying3 (w.alloc (.map #[] 0)) w.heap.size _ _ m0 1 (.func (.func 70) #[] #[]) (by simp [Instr.findNow])
 have b1 : Below w.heap.size w w1 := b0.trans (o1.below b0.size (fun k (e : k = w.heap.size) => Nat.le_of_eq e.symm))
 clear m0 o1 b0
 obtain ⟨w2, r2, m2, o2⟩ := run_put_new (P := Tryz.prog) (t := 72) Tryz.underlying72 Tryz.underlying3 w1 w.heap.size _ _ m1 26 (.func (.func 71) #[] #[]) (by simp [Instr.findNow, Instr.sameNow])
 have b2 : Below w.heap.size w w2 := b1.trans (o2.below b1.size (fun k (e : k = w.heap.size) => Nat.le_of_eq e.symm))
 clear m1 o2 b1
 obtain ⟨w3, r3, m3, o3⟩ := run_put_new (P := Tryz.prog) (t := 72) Tryz.underlying72 Tryz.underlying3 w2 w.heap.size _ _ m2 3 (.func (.func 72) #[] #[]) (by simp [Instr.findNow, Instr.sameNow])
 have b3 : Below w.heap.size w w3 := b2.trans (o3.below b2.size (fun k (e : k = w.heap.size) => Nat.le_of_eq e.symm))
 clear m2 o3 b2
 obtain ⟨w4, r4, m4, o4⟩ := run_put_new (P := Tryz.prog) (t := 72) Tryz.underlying72 Tryz.underlying3 w3 w.heap.size _ _ m3 4 (.func (.func 73) #[] #[]) (by simp [Instr.findNow, Instr.sameNow])
 have b4 : Below w.heap.size w w4 := b3.trans (o4.below b3.size (fun k (e : k = w.heap.size) => Nat.le_of_eq e.symm))
 clear m3 o4 b3
 obtain ⟨w5, r5, m5, o5⟩ := run_put_new (P := Tryz.prog) (t := 72) Tryz.underlying72 Tryz.underlying3 w4 w.heap.size _ _ m4 24 (.func (.func 74) #[] #[]) (by simp [Instr.findNow, Instr.sameNow])
 have b5 : Below w.heap.size w w5 := b4.trans (o5.below b4.size (fun k (e : k = w.heap.size) => Nat.le_of_eq e.symm))
 clear m4 o5 b4
 obtain ⟨w6, r6, m6, o6⟩ := run_put_new (P := Tryz.prog) (t := 72) Tryz.underlying72 Tryz.underlying3 w5 w.heap.size _ _ m5 5 (.func (.func 75) #[] #[]) (by simp [Instr.findNow, Instr.sameNow])
 have b6 : Below w.heap.size w w6 := b5.trans (o6.below b5.size (fun k (e : k = w.heap.size) => Nat.le_of_eq e.symm))
 clear m5 o6 b5
 obtain ⟨w7, r7, m7, o7⟩ := run_put_new (P := Tryz.prog) (t := 72) Tryz.underlying72 Tryz.underlying3 w6 w.heap.size _ _ m6 6 (.func (.func 76) #[] #[]) (by simp [Instr.findNow, Instr.sameNow])
 have b7 : Below w.heap.size w w7 := b6.trans (o7.below b6.size (fun k (e : k = w.heap.size) => Nat.le_of_eq e.symm))
 clear m6 o7 b6
 obtain ⟨w8, r8, m8, o8⟩ := run_put_new (P := Tryz.prog) (t := 72) Tryz.underlying72 Tryz.underlying3 w7 w.heap.size _ _ m7 7 (.func (.func 77) #[] #[]) (by simp [Instr.findNow, Instr.sameNow])
 have b8 : Below w.heap.size w w8 := b7.trans (o8.below b7.size (fun k (e : k = w.heap.size) => Nat.le_of_eq e.symm))
 clear m7 o8 b7
 obtain ⟨w9, r9, m9, o9⟩ := run_put_new (P := Tryz.prog) (t := 72) Tryz.underlying72 Tryz.underlying3 w8 w.heap.size _ _ m8 8 (.func (.func 78) #[] #[]) (by simp [Instr.findNow, Instr.sameNow])
 have b9 : Below w.heap.size w w9 := b8.trans (o9.below b8.size (fun k (e : k = w.heap.size) => Nat.le_of_eq e.symm))
 clear m8 o9 b8
 obtain ⟨w10, r10, m10, o10⟩ := run_put_new (P := Tryz.prog) (t := 72) Tryz.underlying72 Tryz.underlying3 w9 w.heap.size _ _ m9 9 (.func (.func 79) #[] #[]) (by simp [Instr.findNow, Instr.sameNow])
 have b10 : Below w.heap.size w w10 := b9.trans (o10.below b9.size (fun k (e : k = w.heap.size) => Nat.le_of_eq e.symm))
 clear m9 o10 b9
 obtain ⟨w11, r11, m11, o11⟩ := run_put_new (P := Tryz.prog) (t := 72) Tryz.underlying72 Tryz.underlying3 w10 w.heap.size _ _ m10 10 (.func (.func 80) #[] #[]) (by simp [Instr.findNow, Instr.sameNow])
 have b11 : Below w.heap.size w w11 := b10.trans (o11.below b10.size (fun k (e : k = w.heap.size) => Nat.le_of_eq e.symm))
 clear m10 o11 b10
 obtain ⟨w12, r12, m12, o12⟩ := run_put_new (P := Tryz.prog) (t := 72) Tryz.underlying72 Tryz.underlying3 w11 w.heap.size _ _ m11 11 (.func (.func 81) #[] #[]) (by simp [Instr.findNow, Instr.sameNow])
 have b12 : Below w.heap.size w w12 := b11.trans (o12.below b11.size (fun k (e : k = w.heap.size) => Nat.le_of_eq e.symm))
 clear m11 o12 b11
 obtain ⟨w13, r13, m13, o13⟩ := run_put_new (P := Tryz.prog) (t := 72) Tryz.underlying72 Tryz.underlying3 w12 w.heap.size _ _ m12 14 (.func (.func 82) #[] #[]) (by simp [Instr.findNow, Instr.sameNow])
 have b13 : Below w.heap.size w w13 := b12.trans (o13.below b12.size (fun k (e : k = w.heap.size) => Nat.le_of_eq e.symm))
 clear m12 o13 b12
 obtain ⟨w14, r14, m14, o14⟩ := run_put_new (P := Tryz.prog) (t := 72) Tryz.underlying72 Tryz.underlying3 w13 w.heap.size _ _ m13 12 (.func (.func 83) #[] #[]) (by simp [Instr.findNow, Instr.sameNow])
 have b14 : Below w.heap.size w w14 := b13.trans (o14.below b13.size (fun k (e : k = w.heap.size) => Nat.le_of_eq e.symm))
 clear m13 o14 b13
 obtain ⟨w15, r15, m15, o15⟩ := run_put_new (P := Tryz.prog) (t := 72) Tryz.underlying72 Tryz.underlying3 w14 w.heap.size _ _ m14 13 (.func (.func 84) #[] #[]) (by simp [Instr.findNow, Instr.sameNow])
 have b15 : Below w.heap.size w w15 := b14.trans (o15.below b14.size (fun k (e : k = w.heap.size) => Nat.le_of_eq e.symm))
 clear m14 o15 b14
 obtain ⟨w16, r16, m16, o16⟩ := run_put_new (P := Tryz.prog) (t := 72) Tryz.underlying72 Tryz.underlying3 w15 w.heap.size _ _ m15 15 (.func (.func 85) #[] #[]) (by simp [Instr.findNow, Instr.sameNow])
 have b16 : Below w.heap.size w w16 := b15.trans (o16.below b15.size (fun k (e : k = w.heap.size) => Nat.le_of_eq e.symm))
 clear m15 o16 b15
 obtain ⟨w17, r17, m17, o17⟩ := run_put_new (P := Tryz.prog) (t := 72) Tryz.underlying72 Tryz.underlying3 w16 w.heap.size _ _ m16 16 (.func (.func 86) #[] #[]) (by simp [Instr.findNow, Instr.sameNow])
 have b17 : Below w.heap.size w w17 := b16.trans (o17.below b16.size (fun k (e : k = w.heap.size) => Nat.le_of_eq e.symm))
 clear m16 o17 b16
 obtain ⟨w18, r18, m18, o18⟩ := run_put_new (P := Tryz.prog) (t := 72) Tryz.underlying72 Tryz.underlying3 w17 w.heap.size _ _ m17 17 (.func (.func 87) #[] #[]) (by simp [Instr.findNow, Instr.sameNow])
 have b18 : Below w.heap.size w w18 := b17.trans (o18.below b17.size (fun k (e : k = w.heap.size) => Nat.le_of_eq e.symm))
 clear m17 o18 b17
 obtain ⟨w19, r19, m19, o19⟩ := run_put_new (P := Tryz.prog) (t := 72) Tryz.underlying72 Tryz.underlying3 w18 w.heap.size _ _ m18 18 (.func (.func 88) #[] #[]) (by simp [Instr.findNow, Instr.sameNow])
 have b19 : Below w.heap.size w w19 := b18.trans (o19.below b18.size (fun k (e : k = w.heap.size) => Nat.le_of_eq e.symm))
 clear m18 o19 b18
 go_enter Tryz.func34, Tryz.ntmps34
 go_wp2
 go_ret
 exact ⟨_, rfl, m19, b19⟩
theorem acts_find {w : World} {m : Nat} (hm : w.heap[m]? = some (.map actE 19)) (k : Int) (i : Nat) (v : Value) (hf : Instr.findNow (.int .i64) (.int .i64 k) actE.toList 0 = some (some (i, v))) : (Instr.lookup 72 (.map (some m)) (.int .i64 k) true).run Tryz.prog w = .ok (.tuple #[v, .bool true]) w :=
 run_look Tryz.underlying72 Tryz.underlying3 w m actE 19 hm k i v hf
theorem acts_none {w : World} {m : Nat} (hm : w.heap[m]? = some (.map actE 19)) (k : Int) (hn : k ≠ 1 ∧ k ≠ 26 ∧ k ≠ 3 ∧ k ≠ 4 ∧ k ≠ 24 ∧ k ≠ 5 ∧ k ≠ 6 ∧ k ≠ 7 ∧ k ≠ 8 ∧ k ≠ 9 ∧ k ≠ 10 ∧ k ≠ 11 ∧ k ≠ 14 ∧ k ≠ 12 ∧ k ≠ 13 ∧ k ≠ 15 ∧ k ≠ 16 ∧ k ≠ 17 ∧ k ≠ 18) : (Instr.lookup 72 (.map (some m)) (.int .i64 k) true).run Tryz.prog w = .ok (.tuple #[.nilFunc, .bool false]) w :=
 run_look_none Tryz.underlying72 Tryz.underlying3 w m actE 19 hm k .nilFunc (by simp [zeroValue, go_sem]; kernel_rfl) (by
  obtain ⟨h0, h1, h2, h3, h4, h5, h6, h7, h8, h9, h10, h11, h12, h13, h14, h15, h16, h17, h18⟩ := hn
  have e0 : (k == 1) = false := beq_eq_false_iff_ne.2 h0
  have e1 : (k == 26) = false := beq_eq_false_iff_ne.2 h1
  have e2 : (k == 3) = false := beq_eq_false_iff_ne.2 h2
  have e3 : (k == 4) = false := beq_eq_false_iff_ne.2 h3
  have e4 : (k == 24) = false := beq_eq_false_iff_ne.2 h4
  have e5 : (k == 5) = false := beq_eq_false_iff_ne.2 h5
  have e6 : (k == 6) = false := beq_eq_false_iff_ne.2 h6
  have e7 : (k == 7) = false := beq_eq_false_iff_ne.2 h7
  have e8 : (k == 8) = false := beq_eq_false_iff_ne.2 h8
  have e9 : (k == 9) = false := beq_eq_false_iff_ne.2 h9
  have e10 : (k == 10) = false := beq_eq_false_iff_ne.2 h10
  have e11 : (k == 11) = false := beq_eq_false_iff_ne.2 h11
  have e12 : (k == 14) = false := beq_eq_false_iff_ne.2 h12
  have e13 : (k == 12) = false := beq_eq_false_iff_ne.2 h13
  have e14 : (k == 13) = false := beq_eq_false_iff_ne.2 h14
  have e15 : (k == 15) = false := beq_eq_false_iff_ne.2 h15
  have e16 : (k == 16) = false := beq_eq_false_iff_ne.2 h16
  have e17 : (k == 17) = false := beq_eq_false_iff_ne.2 h17
  have e18 : (k == 18) = false := beq_eq_false_iff_ne.2 h18
  simp only [actE, Instr.findNow, Instr.sameNow, e0, e1, e2, e3, e4, e5, e6, e7, e8, e9, e10, e11, e12, e13, e14, e15, e16, e17, e18, if_true])
end
end Go.Proofs.YtoaponaljkhlfaaGreatDoor
