/-
  Layer 7 and what it stands on, part 10 (RowT LogT LnK0).
-/
import Derived.Test.YtoaponaljkhlfaaGreatDoorPt8
import Derived.Test.YtoaponaljkhlfaaGreatDoorPt9
import Derived.WalkKit
import Derived.MapKept
namespace Go.Proofs.YtoaponaljkhlfaaGreatDoor
section
open Go Go.RowKit
set_option maxRecDepth 100000
section
variable {α : Type} {C : α → List Value} {k : Nat}
theorem flat_length (hC : ∀ x, (C x).length = k) (ls : List α) : (ls.flatMap C).length = ls.length * k := by
  induction ls with
  | nil => simp
  | cons x t ih => rw [List.flatMap_cons, List.length_append, ih, hC, List.length_cons, Nat.succ_mul, Nat.add_comm]
theorem flat_take (hC : ∀ x, (C x).length = k) (ls : List α) : ∀ n, (ls.take n).flatMap C = (ls.flatMap C).take (n * k) := by
  induction ls with
  | nil => simp
  | cons x t ih =>
    intro n
    cases n with
    | zero => simp
    | succ n => rw [List.take_succ_cons, List.flatMap_cons, List.flatMap_cons, ih, Nat.succ_mul, Nat.add_comm, List.take_append, hC, show k + n * k - k = n * k by omega, List.take_of_length_le (show (C x).length ≤ k + n * k by rw [hC]; omega)]
theorem flat_drop (hC : ∀ x, (C x).length = k) (ls : List α) : ∀ n, (ls.drop n).flatMap C = (ls.flatMap C).drop (n * k) := by
  induction ls with
  | nil => simp
  | cons x t ih =>
    intro n
    cases n with
    | zero => simp
    | succ n => rw [List.drop_succ_cons, List.flatMap_cons, ih, Nat.succ_mul, Nat.add_comm, List.drop_append, hC, show k + n * k - k = n * k by omega, List.drop_of_length_le (show (C x).length ≤ k + n * k by rw [hC]; omega), List.nil_append]
theorem flat_get (hC : ∀ x, (C x).length = k) {ls : List α} {i : Nat} {x : α} (hi : ls[i]? = some x) {j : Nat} {v : Value} (hj : (C x)[j]? = some v) : (ls.flatMap C)[i * k + j]? = some v := by
  have hjl := (List.getElem?_eq_some_iff.1 hj).1
  obtain ⟨hil, hx⟩ := List.getElem?_eq_some_iff.1 hi
  have h := flat_drop hC ls i
  rw [List.drop_eq_getElem_cons hil, hx, List.flatMap_cons] at h
  rw [← List.getElem?_drop, ← h, List.getElem?_append_left hjl]
  exact hj
/-- The slice at A reads as ls, and lies in a block of R. -/
def RowT (C : α → List Value) (w : World) (R : Nat → Prop) (A : Option Addr) (ls : List α) : Prop :=
  0 < ls.length → ∃ g o, A = some ⟨g, o, none⟩ ∧ R g ∧ g < w.heap.size ∧ ∀ j v, (ls.flatMap C)[j]? = some v → w.cell? ⟨g, o + j, none⟩ = some v
theorem RowT.mono {w : World} {R R' : Nat → Prop} {A : Option Addr} {ls : List α} (h : RowT C w R A ls) (hR : ∀ i, R i → R' i) : RowT C w R' A ls := fun hn => by
  obtain ⟨g, o, e, hr, hg, hc⟩ := h hn
  exact ⟨g, o, e, hR g hr, hg, hc⟩
theorem RowT.keep {w w' : World} {R R' : Nat → Prop} {A : Option Addr} {ls : List α} (h : RowT C w R A ls) (ho : Only R' w w') (hd : ∀ i, R i → ¬ R' i) : RowT C w' R A ls := fun hn => by
  obtain ⟨g, o, e, hr, hg, hc⟩ := h hn
  exact ⟨g, o, e, hr, Nat.lt_of_lt_of_le hg ho.size, fun j v hj => ho.cell (hc j v hj) (show ¬ R' g from hd g hr)⟩
theorem RowT.below {w w' : World} {R : Nat → Prop} {A : Option Addr} {ls : List α} (h : RowT C w R A ls) (hb : Below w.heap.size w w') : RowT C w' R A ls := h.keep (R' := fun _ => False) (Only.of_below hb) (fun _ _ h => h)
theorem RowT.take {w : World} {R : Nat → Prop} {A : Option Addr} {ls : List α} (hC : ∀ x, (C x).length = k) (h : RowT C w R A ls) (n : Nat) : RowT C w R A (ls.take n) := fun hn => by
  rw [List.length_take] at hn
  obtain ⟨g, o, e, hr, hg, hc⟩ := h (by omega)
  refine ⟨g, o, e, hr, hg, fun j v hj => hc j v ?_⟩
  rw [flat_take hC, List.getElem?_take] at hj
  split at hj
  · exact hj
  · cases hj
theorem RowT.drop {w : World} {R : Nat → Prop} {g o : Nat} {ls : List α} (hC : ∀ x, (C x).length = k) (h : RowT C w R (some ⟨g, o, none⟩) ls) (n : Nat) : RowT C w R (some ⟨g, o + n * k, none⟩) (ls.drop n) := fun hn => by
  rw [List.length_drop] at hn
  obtain ⟨g', o', e, hr, hg, hc⟩ := h (by omega)
  injection e with e
  injection e with e1 e2
  subst e1; subst e2
  refine ⟨g, o + n * k, rfl, hr, hg, fun j v hj => ?_⟩
  rw [flat_drop hC, List.getElem?_drop] at hj
  rw [Nat.add_assoc]
  exact hc (n * k + j) v hj
theorem rowT_of_own {w : World} {base e : Nat} {R : Nat → Prop} {A : Option Addr} {c n : Nat} {ls : List α} (h : w.ownsRow base e k (.slice A n c) ls.length (ls.flatMap C)) (hR : ∀ g, (Value.slice A n c).ownBlock = some g → R g) : RowT C w R A ls := fun hn => by
  rcases h.2 with ⟨hv, h0⟩ | ⟨g, cap, cur, hv, _, hh, hnc, hcm, _⟩
  · omega
  · injection hv with h1 h2 h3
    subst h1; subst h2; subst h3
    refine ⟨g, 0, rfl, hR g rfl, (Array.getElem?_eq_some_iff.1 hh).1, fun j v hj => ?_⟩
    have := h.cells (g := g) rfl j v hj
    rw [Addr.add_lit] at this
    exact this
/-- An append onto a slice that has no room: a new row. -/
theorem run_append_fullT {P : Program} (hC : ∀ x, (C x).length = k) (w : World) (t ty e : TypeId) (i : TypeInfo) (z : Value) (bytes : Nat) (ht : P.underlying t = some (.slice e)) (hi : P.info? e = some i) (hz : i.zero = some z) (hsize : i.size = k) (hby : i.bytes = bytes) (hzs : z.cells.size = k) (hb16 : bytes ≤ 64)
    (g o sc : Nat) (xs : List α) {R1 R2 : Nat → Prop} (hx : RowT C w R1 (some ⟨g, o, none⟩) xs) (A : Option Addr) (c : Nat) (ms : List α) (hm : 0 < ms.length) (hR : RowT C w R2 A ms) (hfull : sc < xs.length + ms.length) (hb : xs.length + ms.length ≤ 1099511627776) :
    ∃ c' w', (Builtin.append_ #[t, t] ty #[.slice (some ⟨g, o, none⟩) xs.length sc, .slice A ms.length c]).run P w = .ok (.slice (some ⟨w.heap.size, 0, none⟩) (xs.length + ms.length) c') w' ∧
      w'.ownsRow w.heap.size e k (.slice (some ⟨w.heap.size, 0, none⟩) (xs.length + ms.length) c') (xs.length + ms.length) ((xs ++ ms).flatMap C) ∧ Below w.heap.size w w' ∧ w'.heap.size = w.heap.size + 1 := by
  obtain ⟨g2, o2, rfl, _, _, hc2⟩ := hR hm
  subst hby
  have hbytes : (xs.length + ms.length) * i.bytes ≤ 140737488355328 := by
    have := Nat.mul_le_mul_left (xs.length + ms.length) hb16
    omega
  have hr := run_append_grow (P := P) w t ty e i z ht hi hz ⟨g, o, none⟩ xs.length sc (xs.flatMap C) (by rw [flat_length hC, hsize]) (fun j v hj => by
      have hjl := (List.getElem?_eq_some_iff.1 hj).1
      rw [flat_length hC] at hjl
      have hpos : 0 < xs.length := by
        cases xs with
        | nil => simp at hjl
        | cons => simp
      obtain ⟨g', o', e', _, _, hc⟩ := hx hpos
      injection e' with e'
      injection e' with e1 e2
      subst e1; subst e2
      rw [Addr.add_lit]
      exact hc j v hj) ⟨g2, o2, none⟩ ms.length c (ms.flatMap C) (by rw [flat_length hC, hsize]) (fun j v hj => by
      rw [Addr.add_lit]
      exact hc2 j v hj) hfull (by omega) (growslice_fits hfull hbytes)
  have hge := grownCap_ge w (xs.length + ms.length) sc e
  have hcm : grownCap w (xs.length + ms.length) sc e ≤ maxLen := grownCap_le_maxLen w _ sc e (by unfold maxLen; omega)
  have hll : (xs.flatMap C).length + (ms.flatMap C).length = (xs.length + ms.length) * k := by rw [flat_length hC, flat_length hC, Nat.add_mul]
  refine ⟨_, _, hr, ⟨by rw [List.flatMap_append, List.length_append, hll], .inr ⟨w.heap.size, _, _, rfl, Nat.le_refl _, heap_alloc_new w.drew _, hge, hcm, ?_, ?_⟩⟩, ⟨rfl, rfl, rfl, by simp, fun i hi => heap_alloc_old w.drew _ hi⟩, by simp⟩
  · rw [Array.size_append, Array.size_append, List.size_toArray, List.size_toArray, hll]
    simp only [size_zeroCells, hzs]
    rw [← Nat.add_mul]
    congr 1
    omega
  · simp only [Array.toList_append, List.flatMap_append]
    rw [← hll, ← List.length_append]
    exact List.take_left
end
end
section
open Go Go.RowKit
section
variable {α : Type} {C : α → List Value} {k : Nat} {e tS : TypeId} {w w' : World} {R : Nat → Prop} {b : Nat} {s : LS α}
structure LogT (C : α → List Value) (tS : TypeId) (w : World) (R : Nat → Prop) (b : Nat) (s : LS α) : Prop where
  ok : s.Ok
  ins : R b
  lt : ∀ i, R i → i < w.heap.size
  mem : ∃ A c, BxA w b tS [.int .i64 (s.lim : Int), .slice A (rowL s).length c, .int .i64 (s.back.length : Int), .int .i64 s.opn] ∧ RowT C w (fun i => R i ∧ i ≠ b) A (rowL s) ∧ (rowL s).length ≤ c ∧ c ≤ maxLen
theorem objT (C : α → List Value) (tS : TypeId) : ObjL (LogT C tS) where
  keep := fun h ho hd => by
    obtain ⟨A, c, h1, h2, h3, h4⟩ := h.mem
    exact ⟨h.ok, h.ins, fun i hi => Nat.lt_of_lt_of_le (h.lt i hi) ho.size, A, c, h1.keep ho (hd _ h.ins), h2.keep ho (fun i hi => hd i hi.1), h3, h4⟩
  lt := fun h => h.lt
  ins := fun h => h.ins
/-- The place, and the group, turn; the row stays. -/
theorem logT_place (h : LogT C tS w R b s) {s' : LS α} (hok : s'.Ok) (hr : rowL s' = rowL s) (hl : s'.lim = s.lim) : LogT C tS ((w.setCell ⟨b, 2, none⟩ (.int .i64 (s'.back.length : Int))).setCell ⟨b, 3, none⟩ (.int .i64 s'.opn)) R b s' ∧ Only (fun i => i = b) w ((w.setCell ⟨b, 2, none⟩ (.int .i64 (s'.back.length : Int))).setCell ⟨b, 3, none⟩ (.int .i64 s'.opn)) := by
  obtain ⟨A, c, h1, h2, h3, h4⟩ := h.mem
  have ho : Only (fun i => i = b) w ((w.setCell ⟨b, 2, none⟩ (.int .i64 (s'.back.length : Int))).setCell ⟨b, 3, none⟩ (.int .i64 s'.opn)) := ((Only.refl (fun i => i = b) w).set (p := ⟨b, 2, none⟩) (.inl rfl) _).set (p := ⟨b, 3, none⟩) (.inl rfl) _
  refine ⟨⟨hok, h.ins, fun i hi => Nat.lt_of_lt_of_le (h.lt i hi) ho.size, A, c, ?_, ?_, by rw [hr]; exact h3, h4⟩, ho⟩
  · rw [hr, hl]
    exact (h1.set 2 _).set 3 _
  · rw [hr]
    exact h2.keep ho (fun i hi e => hi.2 e)
/-- The group alone turns. -/
theorem logT_group (h : LogT C tS w R b s) {s' : LS α} (hok : s'.Ok) (hr : rowL s' = rowL s) (hl : s'.lim = s.lim) (hb : s'.back.length = s.back.length) : LogT C tS (w.setCell ⟨b, 3, none⟩ (.int .i64 s'.opn)) R b s' ∧ Only (fun i => i = b) w (w.setCell ⟨b, 3, none⟩ (.int .i64 s'.opn)) := by
  obtain ⟨A, c, h1, h2, h3, h4⟩ := h.mem
  have ho : Only (fun i => i = b) w (w.setCell ⟨b, 3, none⟩ (.int .i64 s'.opn)) := (Only.refl (fun i => i = b) w).set (p := ⟨b, 3, none⟩) (.inl rfl) _
  refine ⟨⟨hok, h.ins, fun i hi => Nat.lt_of_lt_of_le (h.lt i hi) ho.size, A, c, ?_, ?_, by rw [hr]; exact h3, h4⟩, ho⟩
  · rw [hr, hl, hb]
    exact h1.set 3 _
  · rw [hr]
    exact h2.keep ho (fun i hi e => hi.2 e)
/-- What a call built: a new row, in the log's box. -/
theorem logT_built (h : LogT C tS w R b s) {s' : LS α} (hok : s'.Ok) {w2 Wf : World} (hb : Below w.heap.size w w2) (ho : Only (fun i => i = b) w2 Wf) {A : Option Addr} {c N : Nat} {ty : TypeId} (hN : w.heap.size ≤ N)
    (hbx : BxA Wf b tS [.int .i64 (s'.lim : Int), .slice A (rowL s').length c, .int .i64 (s'.back.length : Int), .int .i64 s'.opn]) (hown : w2.ownsRow N ty k (.slice A (rowL s').length c) (rowL s').length ((rowL s').flatMap C)) : ToB (LogT C tS) w R Wf b s' := by
  have hbl := h.lt b h.ins
  have hR : ∀ g, (Value.slice A (rowL s').length c).ownBlock = some g → w.heap.size ≤ g ∧ g < w2.heap.size := fun g hg => ⟨Nat.le_trans hN (hown.lt g hg).1, (hown.lt g hg).2⟩
  have hrow : RowT C w2 (fun i => (i = b ∨ (w.heap.size ≤ i ∧ i < w2.heap.size)) ∧ i ≠ b) A (rowL s') := rowT_of_own hown (fun g hg => ⟨.inr (hR g hg), fun e => by have := (hR g hg).1; omega⟩)
  have hcap : (rowL s').length ≤ c ∧ c ≤ maxLen := by
    rcases hown.2 with ⟨_, h0⟩ | ⟨g, cap, cur, hv, _, _, hnc, hcm, _⟩
    · rw [rowL_length] at h0; omega
    · injection hv with _ _ h3
      subst h3
      exact ⟨hnc, hcm⟩
  refine ⟨fun i => i = b ∨ (w.heap.size ≤ i ∧ i < w2.heap.size), ⟨hok, .inl rfl, fun i hi => ?_, A, c, hbx, hrow.keep ho (fun i hi e => hi.2 e), hcap.1, hcap.2⟩, (Only.of_below hb).trans ho (fun i e => .inl e), fun i hi => ?_⟩
  · have h1 := hb.size
    have h2 := ho.size
    rcases hi with h | h <;> omega
  · rcases hi with hi | hi
    · exact .inl (by rw [hi]; exact h.ins)
    · exact .inr hi.1
/-- A copy stands on the same row. -/
theorem logT_copied (h : LogT C tS w R b s) {Wf : World} {b' : Nat} (hb : Below w.heap.size w Wf) (hb' : w.heap.size ≤ b') (hc : ∀ A c, BxA w b tS [.int .i64 (s.lim : Int), .slice A (rowL s).length c, .int .i64 (s.back.length : Int), .int .i64 s.opn] → BxA Wf b' tS [.int .i64 (s.lim : Int), .slice A (rowL s).length c, .int .i64 (s.back.length : Int), .int .i64 s.opn]) : CopL (LogT C tS) w R b Wf b' s := by
  obtain ⟨A, c, h1, h2, h3, h4⟩ := id h.mem
  have hn := hc A c h1
  refine ⟨fun i => (R i ∧ i ≠ b) ∨ i = b', ⟨h.ok, .inr rfl, fun i hi => ?_, A, c, hn, (h2.below hb).mono (fun i hi => ⟨.inl hi, fun e => ?_⟩), h3, h4⟩, hb', fun i hi => ?_, hb⟩
  · rcases hi with hi | hi
    · exact Nat.lt_of_lt_of_le (h.lt i hi.1) hb.size
    · rw [hi]; exact hn.lt
  · have := h.lt i hi.1
    omega
  · rcases hi with hi | hi
    · exact .inl hi
    · exact .inr (by omega)
/-- A box that the call made, with two cells, ahead of what turned; it is filled behind. -/
theorem ToB.past {α : Type} {L : World → (Nat → Prop) → Nat → α → Prop} {s : α} (O : ObjL L) {W1 w3 : World} (h : L w R b s) (hB : Below w.heap.size w W1) (hlt : w.heap.size < W1.heap.size) {s' : α} (ht : ToB L W1 R w3 b s') (i j : Nat) (u v : Value) : ToB L w R ((w3.setCell ⟨w.heap.size, i, none⟩ u).setCell ⟨w.heap.size, j, none⟩ v) b s' := by
  obtain ⟨R', a1, a2, a3⟩ := ht
  have hn : ¬ R' w.heap.size := fun hr => by
    rcases a3 _ hr with h' | h'
    · have := O.lt h _ h'; omega
    · omega
  refine ⟨R', O.keep (R' := fun i => i = w.heap.size) a1 (((Only.refl (fun i => i = w.heap.size) w3).set (p := ⟨w.heap.size, i, none⟩) (.inl rfl) u).set (p := ⟨w.heap.size, j, none⟩) (.inl rfl) v) (fun k hk e => hn (by rw [← e]; exact hk)), (((Only.of_below hB).trans a2 (fun i e => .inl e)).set (p := ⟨w.heap.size, i, none⟩) (.inr (Nat.le_refl _)) u).set (p := ⟨w.heap.size, j, none⟩) (.inr (Nat.le_refl _)) v, fun k hk => (a3 k hk).imp id (fun h => Nat.le_trans hB.size h)⟩
theorem Bx.keepO {g : Nat} {t : TypeId} {x y : Value} (h : Bx w g t x y) {R' : Nat → Prop} (ho : Only R' w w') (hn : ¬ R' g) : Bx w' g t x y := (ho.block g h.lt hn).trans h
/-- What a walk takes of a log. -/
theorem LogT.open_ (h : LogT C tS w R b s) : ∃ g o c, BxA w b tS [.int .i64 (s.lim : Int), .slice (some ⟨g, o, none⟩) (s.back.length + 1 + s.forth.length) c, .int .i64 (s.back.length : Int), .int .i64 s.opn] ∧ RowT C w R (some ⟨g, o, none⟩) (rowL s) ∧ g ≠ b ∧ g < w.heap.size ∧ s.back.length + 1 + s.forth.length ≤ c ∧ c ≤ maxLen := by
  obtain ⟨A, c, h1, h2, h3, h4⟩ := h.mem
  obtain ⟨g, o, rfl, hr, hg, hc⟩ := id h2 (by rw [rowL_length]; omega)
  rw [rowL_length] at h1 h3
  exact ⟨g, o, c, h1, h2.mono (fun i hi => hi.1), hr.2, hg, h3, h4⟩
/-- A state's cells. -/
theorem RowT.cells {g o : Nat} (hC : ∀ x, (C x).length = k) (h : RowT C w R (some ⟨g, o, none⟩) (rowL s)) {j : Nat} {v : Value} (hj : (C s.now)[j]? = some v) : w.cell? ⟨g, o + (s.back.length * k + j), none⟩ = some v := by
  obtain ⟨g', o', e, _, _, hc⟩ := h (by rw [rowL_length]; omega)
  injection e with e
  injection e with e1 e2
  subst e1; subst e2
  exact hc _ _ (flat_get hC (rowL_now s) hj)
end
end
section
open Go Go.RowKit
set_option maxRecDepth 100000
section
variable {P : Program} {t kt et : TypeId}
theorem run_put_new (ht : P.underlying t = some (.map kt et)) (hk : P.underlying kt = some (.int .i64)) (w : World) (m : Nat) (es : Array MapEntry) (c : Nat) (hm : w.heap[m]? = some (.map es c)) (k : Int) (v : Value) (hf : Instr.findNow (.int .i64) (.int .i64 k) es.toList 0 = some none) :
    ∃ w', (Instr.mapUpdate t (.map (some m)) (.int .i64 k) v).run P w = .ok () w' ∧ w'.heap[m]? = some (.map (es.push ⟨.int .i64 k, v, c⟩) (c + 1)) ∧ Only (fun i => i = m) w w' := by
  have hlt := (Array.getElem?_eq_some_iff.1 hm).1
  have hc : (Instr.checkKey false 10000 kt (.int .i64 k)).run P w = .ok () w := MapKept.run_checkKey (k := .int .i64 k) hk (by simp [MapKept.IsKey]) false 9999
  refine ⟨{ w with heap := w.heap.setIfInBounds m (.map (es.push ⟨.int .i64 k, v, c⟩) (c + 1)) }, ?_, ?_, ?_⟩
  · simp [Instr.mapUpdate, run_underlying ht, MapKept.run_getObj_map hm, hc, MapKept.run_findKey hk hf, MapKept.run_setObj_map _ hm, Result.andThen]
  · simp [hlt]
  · refine ⟨rfl, rfl, rfl, by simp, fun i hi hn => ?_⟩
    simp [Ne.symm hn]
theorem run_look (ht : P.underlying t = some (.map kt et)) (hk : P.underlying kt = some (.int .i64)) (w : World) (m : Nat) (es : Array MapEntry) (c : Nat) (hm : w.heap[m]? = some (.map es c)) (k : Int) (i : Nat) (v : Value) (hf : Instr.findNow (.int .i64) (.int .i64 k) es.toList 0 = some (some (i, v))) :
    (Instr.lookup t (.map (some m)) (.int .i64 k) true).run P w = .ok (.tuple #[v, .bool true]) w := by
  have hc : (Instr.checkKey es.isEmpty 10000 kt (.int .i64 k)).run P w = .ok () w := MapKept.run_checkKey (k := .int .i64 k) hk (by simp [MapKept.IsKey]) _ 9999
  simp [Instr.lookup, run_underlying ht, MapKept.run_getObj_map hm, hc, MapKept.run_findKey hk hf, Result.andThen]
theorem run_look_none (ht : P.underlying t = some (.map kt et)) (hk : P.underlying kt = some (.int .i64)) (w : World) (m : Nat) (es : Array MapEntry) (c : Nat) (hm : w.heap[m]? = some (.map es c)) (k : Int) (z : Value) (hz : (zeroValue et).run P w = .ok z w) (hf : Instr.findNow (.int .i64) (.int .i64 k) es.toList 0 = some none) :
    (Instr.lookup t (.map (some m)) (.int .i64 k) true).run P w = .ok (.tuple #[z, .bool false]) w := by
  have hc : (Instr.checkKey es.isEmpty 10000 kt (.int .i64 k)).run P w = .ok () w := MapKept.run_checkKey (k := .int .i64 k) hk (by simp [MapKept.IsKey]) _ 9999
  simp [Instr.lookup, run_underlying ht, MapKept.run_getObj_map hm, hc, MapKept.run_findKey hk hf, hz, Result.andThen]
end
/-- The entries. -/
def actE : Array MapEntry := #[⟨.int .i64 1, .func (.func 70) #[] #[], 0⟩, ⟨.int .i64 26, .func (.func 71) #[] #[], 1⟩, ⟨.int .i64 3, .func (.func 72) #[] #[], 2⟩, ⟨.int .i64 4, .func (.func 73) #[] #[], 3⟩, ⟨.int .i64 24, .func (.func 74) #[] #[], 4⟩, ⟨.int .i64 5, .func (.func 75) #[] #[], 5⟩, ⟨.int .i64 6, .func (.func 76) #[] #[], 6⟩, ⟨.int .i64 7, .func (.func 77) #[] #[], 7⟩, ⟨.int .i64 8, .func (.func 78) #[] #[], 8⟩, ⟨.int .i64 9, .func (.func 79) #[] #[], 9⟩, ⟨.int .i64 10, .func (.func 80) #[] #[], 10⟩, ⟨.int .i64 11, .func (.func 81) #[] #[], 11⟩, ⟨.int .i64 14, .func (.func 82) #[] #[], 12⟩, ⟨.int .i64 12, .func (.func 83) #[] #[], 13⟩, ⟨.int .i64 13, .func (.func 84) #[] #[], 14⟩, ⟨.int .i64 15, .func (.func 85) #[] #[], 15⟩, ⟨.int .i64 16, .func (.func 86) #[] #[], 16⟩, ⟨.int .i64 17, .func (.func 87) #[] #[], 17⟩, ⟨.int .i64 18, .func (.func 88) #[] #[], 18⟩]
theorem acts_calls (w : World) :
    Calls Tryz.prog 34 #[] w fun e w' => ∃ m, e = .returned (.map (some m)) ∧ w'.heap[m]? = some (.map actE 19) ∧ Below w.heap.size w w' := by
  have hmm := @run_makeMap Tryz.prog
  have m0 : (w.alloc (.map #[] 0)).heap[w.heap.size]? = some (.map #[] 0) := World.alloc_heap_new w _
  have b0 : Below w.heap.size w (w.alloc (.map #[] 0)) := (Below.refl _ w).alloc (Nat.le_refl _) _
  obtain ⟨w1, r1, m1, o1⟩ := run_put_new (P := Tryz.prog) (t := 72) Tryz.underlying72 Tryz.underlying3 (w.alloc (.map #[] 0)) w.heap.size _ _ m0 1 (.func (.func 70) #[] #[]) (by simp [Instr.findNow])
  have b1 : Below w.heap.size w w1 := b0.trans (o1.below b0.size (fun k (e : k = w.heap.size) => Nat.le_of_eq e.symm))
  clear m0 o1 b0
  obtain ⟨w2, r2, m2, o2⟩ := run_put_new (P := Tryz.prog) (t := 72) Tryz.underlying72 Tryz.underlying3 w1 w.heap.size _ _ m1 26 (.func (.func 71) #[] #[]) (by simp [Instr.findNow, Instr.sameNow])
  have b2 : Below w.heap.size w w2 := b1.trans (o2.below b1.size (fun k (e : k = w.heap.size) => Nat.le_of_eq e.symm))
  clear m1 o2 b1
  obtain ⟨w3, r3, m3, o3⟩ := run_put_new (P := Tryz.prog) (t := 72) Tryz.underlying72 Tryz.underlying3 w2 w.heap.size _ _ m2 3 (.func (.func 72) #[] #[]) (by simp [Instr.findNow, Instr.sameNow])
  have b3 : Below w.heap.size w w3 := b2.trans (o3.below b2.size (fun k (e : k = w.heap.size) => Nat.le_of_eq e.symm))
  clear m2 o3 b2
  obtain ⟨w4, r4, m4, o4⟩ := run_put_new (P := Tryz.prog) (t := 72) Tryz.underlying72 Tryz.underlying3 w3 w.heap.size _ _ m3 4 (.func (.func 73) #[] #[]) (by simp [Instr.findNow, Instr.sameNow])
  have b4 : Below w.heap.size w w4 := b3.trans (o4.below b3.size (fun k (e : k = w.heap.size) => Nat.le_of_eq e.symm))
  clear m3 o4 b3
  obtain ⟨w5, r5, m5, o5⟩ := run_put_new (P := Tryz.prog) (t := 72) Tryz.underlying72 Tryz.underlying3 w4 w.heap.size _ _ m4 24 (.func (.func 74) #[] #[]) (by simp [Instr.findNow, Instr.sameNow])
  have b5 : Below w.heap.size w w5 := b4.trans (o5.below b4.size (fun k (e : k = w.heap.size) => Nat.le_of_eq e.symm))
  clear m4 o5 b4
  obtain ⟨w6, r6, m6, o6⟩ := run_put_new (P := Tryz.prog) (t := 72) Tryz.underlying72 Tryz.underlying3 w5 w.heap.size _ _ m5 5 (.func (.func 75) #[] #[]) (by simp [Instr.findNow, Instr.sameNow])
  have b6 : Below w.heap.size w w6 := b5.trans (o6.below b5.size (fun k (e : k = w.heap.size) => Nat.le_of_eq e.symm))
  clear m5 o6 b5
  obtain ⟨w7, r7, m7, o7⟩ := run_put_new (P := Tryz.prog) (t := 72) Tryz.underlying72 Tryz.underlying3 w6 w.heap.size _ _ m6 6 (.func (.func 76) #[] #[]) (by simp [Instr.findNow, Instr.sameNow])
  have b7 : Below w.heap.size w w7 := b6.trans (o7.below b6.size (fun k (e : k = w.heap.size) => Nat.le_of_eq e.symm))
  clear m6 o7 b6
  obtain ⟨w8, r8, m8, o8⟩ := run_put_new (P := Tryz.prog) (t := 72) Tryz.underlying72 Tryz.underlying3 w7 w.heap.size _ _ m7 7 (.func (.func 77) #[] #[]) (by simp [Instr.findNow, Instr.sameNow])
  have b8 : Below w.heap.size w w8 := b7.trans (o8.below b7.size (fun k (e : k = w.heap.size) => Nat.le_of_eq e.symm))
  clear m7 o8 b7
  obtain ⟨w9, r9, m9, o9⟩ := run_put_new (P := Tryz.prog) (t := 72) Tryz.underlying72 Tryz.underlying3 w8 w.heap.size _ _ m8 8 (.func (.func 78) #[] #[]) (by simp [Instr.findNow, Instr.sameNow])
  have b9 : Below w.heap.size w w9 := b8.trans (o9.below b8.size (fun k (e : k = w.heap.size) => Nat.le_of_eq e.symm))
  clear m8 o9 b8
  obtain ⟨w10, r10, m10, o10⟩ := run_put_new (P := Tryz.prog) (t := 72) Tryz.underlying72 Tryz.underlying3 w9 w.heap.size _ _ m9 9 (.func (.func 79) #[] #[]) (by simp [Instr.findNow, Instr.sameNow])
  have b10 : Below w.heap.size w w10 := b9.trans (o10.below b9.size (fun k (e : k = w.heap.size) => Nat.le_of_eq e.symm))
  clear m9 o10 b9
  obtain ⟨w11, r11, m11, o11⟩ := run_put_new (P := Tryz.prog) (t := 72) Tryz.underlying72 Tryz.underlying3 w10 w.heap.size _ _ m10 10 (.func (.func 80) #[] #[]) (by simp [Instr.findNow, Instr.sameNow])
  have b11 : Below w.heap.size w w11 := b10.trans (o11.below b10.size (fun k (e : k = w.heap.size) => Nat.le_of_eq e.symm))
  clear m10 o11 b10
  obtain ⟨w12, r12, m12, o12⟩ := run_put_new (P := Tryz.prog) (t := 72) Tryz.underlying72 Tryz.underlying3 w11 w.heap.size _ _ m11 11 (.func (.func 81) #[] #[]) (by simp [Instr.findNow, Instr.sameNow])
  have b12 : Below w.heap.size w w12 := b11.trans (o12.below b11.size (fun k (e : k = w.heap.size) => Nat.le_of_eq e.symm))
  clear m11 o12 b11
  obtain ⟨w13, r13, m13, o13⟩ := run_put_new (P := Tryz.prog) (t := 72) Tryz.underlying72 Tryz.underlying3 w12 w.heap.size _ _ m12 14 (.func (.func 82) #[] #[]) (by simp [Instr.findNow, Instr.sameNow])
  have b13 : Below w.heap.size w w13 := b12.trans (o13.below b12.size (fun k (e : k = w.heap.size) => Nat.le_of_eq e.symm))
  clear m12 o13 b12
  obtain ⟨w14, r14, m14, o14⟩ := run_put_new (P := Tryz.prog) (t := 72) Tryz.underlying72 Tryz.underlying3 w13 w.heap.size _ _ m13 12 (.func (.func 83) #[] #[]) (by simp [Instr.findNow, Instr.sameNow])
  have b14 : Below w.heap.size w w14 := b13.trans (o14.below b13.size (fun k (e : k = w.heap.size) => Nat.le_of_eq e.symm))
  clear m13 o14 b13
  obtain ⟨w15, r15, m15, o15⟩ := run_put_new (P := Tryz.prog) (t := 72) Tryz.underlying72 Tryz.underlying3 w14 w.heap.size _ _ m14 13 (.func (.func 84) #[] #[]) (by simp [Instr.findNow, Instr.sameNow])
  have b15 : Below w.heap.size w w15 := b14.trans (o15.below b14.size (fun k (e : k = w.heap.size) => Nat.le_of_eq e.symm))
  clear m14 o15 b14
  obtain ⟨w16, r16, m16, o16⟩ := run_put_new (P := Tryz.prog) (t := 72) Tryz.underlying72 Tryz.underlying3 w15 w.heap.size _ _ m15 15 (.func (.func 85) #[] #[]) (by simp [Instr.findNow, Instr.sameNow])
  have b16 : Below w.heap.size w w16 := b15.trans (o16.below b15.size (fun k (e : k = w.heap.size) => Nat.le_of_eq e.symm))
  clear m15 o16 b15
  obtain ⟨w17, r17, m17, o17⟩ := run_put_new (P := Tryz.prog) (t := 72) Tryz.underlying72 Tryz.underlying3 w16 w.heap.size _ _ m16 16 (.func (.func 86) #[] #[]) (by simp [Instr.findNow, Instr.sameNow])
  have b17 : Below w.heap.size w w17 := b16.trans (o17.below b16.size (fun k (e : k = w.heap.size) => Nat.le_of_eq e.symm))
  clear m16 o17 b16
  obtain ⟨w18, r18, m18, o18⟩ := run_put_new (P := Tryz.prog) (t := 72) Tryz.underlying72 Tryz.underlying3 w17 w.heap.size _ _ m17 17 (.func (.func 87) #[] #[]) (by simp [Instr.findNow, Instr.sameNow])
  have b18 : Below w.heap.size w w18 := b17.trans (o18.below b17.size (fun k (e : k = w.heap.size) => Nat.le_of_eq e.symm))
  clear m17 o18 b17
  obtain ⟨w19, r19, m19, o19⟩ := run_put_new (P := Tryz.prog) (t := 72) Tryz.underlying72 Tryz.underlying3 w18 w.heap.size _ _ m18 18 (.func (.func 88) #[] #[]) (by simp [Instr.findNow, Instr.sameNow])
  have b19 : Below w.heap.size w w19 := b18.trans (o19.below b18.size (fun k (e : k = w.heap.size) => Nat.le_of_eq e.symm))
  clear m18 o19 b18
  go_enter Tryz.func34, Tryz.ntmps34
  go_wp2
  go_ret
  exact ⟨_, rfl, m19, b19⟩
theorem acts_find {w : World} {m : Nat} (hm : w.heap[m]? = some (.map actE 19)) (k : Int) (i : Nat) (v : Value) (hf : Instr.findNow (.int .i64) (.int .i64 k) actE.toList 0 = some (some (i, v))) : (Instr.lookup 72 (.map (some m)) (.int .i64 k) true).run Tryz.prog w = .ok (.tuple #[v, .bool true]) w :=
  run_look Tryz.underlying72 Tryz.underlying3 w m actE 19 hm k i v hf
theorem acts_none {w : World} {m : Nat} (hm : w.heap[m]? = some (.map actE 19)) (k : Int) (hn : k ≠ 1 ∧ k ≠ 26 ∧ k ≠ 3 ∧ k ≠ 4 ∧ k ≠ 24 ∧ k ≠ 5 ∧ k ≠ 6 ∧ k ≠ 7 ∧ k ≠ 8 ∧ k ≠ 9 ∧ k ≠ 10 ∧ k ≠ 11 ∧ k ≠ 14 ∧ k ≠ 12 ∧ k ≠ 13 ∧ k ≠ 15 ∧ k ≠ 16 ∧ k ≠ 17 ∧ k ≠ 18) : (Instr.lookup 72 (.map (some m)) (.int .i64 k) true).run Tryz.prog w = .ok (.tuple #[.nilFunc, .bool false]) w :=
  run_look_none Tryz.underlying72 Tryz.underlying3 w m actE 19 hm k .nilFunc (by simp [zeroValue, go_sem]; kernel_rfl) (by
    obtain ⟨h0, h1, h2, h3, h4, h5, h6, h7, h8, h9, h10, h11, h12, h13, h14, h15, h16, h17, h18⟩ := hn
    have e0 : (k == 1) = false := beq_eq_false_iff_ne.2 h0
    have e1 : (k == 26) = false := beq_eq_false_iff_ne.2 h1
    have e2 : (k == 3) = false := beq_eq_false_iff_ne.2 h2
    have e3 : (k == 4) = false := beq_eq_false_iff_ne.2 h3
    have e4 : (k == 24) = false := beq_eq_false_iff_ne.2 h4
    have e5 : (k == 5) = false := beq_eq_false_iff_ne.2 h5
    have e6 : (k == 6) = false := beq_eq_false_iff_ne.2 h6
    have e7 : (k == 7) = false := beq_eq_false_iff_ne.2 h7
    have e8 : (k == 8) = false := beq_eq_false_iff_ne.2 h8
    have e9 : (k == 9) = false := beq_eq_false_iff_ne.2 h9
    have e10 : (k == 10) = false := beq_eq_false_iff_ne.2 h10
    have e11 : (k == 11) = false := beq_eq_false_iff_ne.2 h11
    have e12 : (k == 14) = false := beq_eq_false_iff_ne.2 h12
    have e13 : (k == 12) = false := beq_eq_false_iff_ne.2 h13
    have e14 : (k == 13) = false := beq_eq_false_iff_ne.2 h14
    have e15 : (k == 15) = false := beq_eq_false_iff_ne.2 h15
    have e16 : (k == 16) = false := beq_eq_false_iff_ne.2 h16
    have e17 : (k == 17) = false := beq_eq_false_iff_ne.2 h17
    have e18 : (k == 18) = false := beq_eq_false_iff_ne.2 h18
    simp only [actE, Instr.findNow, Instr.sameNow, e0, e1, e2, e3, e4, e5, e6, e7, e8, e9, e10, e11, e12, e13, e14, e15, e16, e17, e18, if_true])
end
end Go.Proofs.YtoaponaljkhlfaaGreatDoor
