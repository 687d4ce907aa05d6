/-
  Layer 7 and what it stands on, part 31 (AbX ADoes).
-/
import Derived.Test.YtlmbafnoopfilaaGreatDoorPg28
import Derived.Test.YtlmbafnoopfilaaGreatDoorPg29
import Derived.Test.YtlmbafnoopfilaaGreatDoorPg30
namespace Go.Proofs.YtlmbafnoopfilaaGreatDoor
section
open Go Go.RowKit
theorem drewB {w : World} : Below w.heap.size w w.drew := (Below.refl _ w).drew
/-- Calls on the table. -/
def doA (l : List PR) (o : OpA) : List PR := if o.k = 0 then (setR l o.n o.t).1 else if o.k = 1 then dropR l o.n else l
/-- A table that the law made, and the document's row of pairs, apart from one another and from the blocks X. -/
def AbX (w0 w : World) (X : Nat → Prop) (b : Nat) (l : List PR) (A : Option Addr) : Prop := ∃ O D, TabAt w O b l ∧ (∀ k, O k → w0.heap.size ≤ k) ∧ Below w0.heap.size w0 w ∧ RowT prC w D A l ∧ (∀ k, D k → k < w.heap.size ∧ ¬ O k) ∧
  ∀ k, X k → k < w.heap.size ∧ w0.heap.size ≤ k ∧ ¬ O k ∧ ¬ D k
section
variable {P : Program} {f : Nat} {args : Array Value} {w0 w w' : World} {X : Nat → Prop} {b : Nat} {l l' : List PR} {A A' : Option Addr}
theorem AbX.bel (h : AbX w0 w X b l A) : Below w0.heap.size w0 w := by
  obtain ⟨_, _, _, _, h, _⟩ := h
  exact h
theorem AbX.start (h : Below w0.heap.size w0 w) : AbX w0 (w.alloc (.cells #[.map none] 29)) (fun _ => False) w.heap.size [] none :=
  ⟨_, fun _ => False, TabAt.new w, fun k (hk : k = _) => by have := h.size; omega, h.alloc h.size _, fun hn => absurd hn (Nat.lt_irrefl 0), fun _ h => h.elim, fun _ h => h.elim⟩
theorem AbX.startX (h : Below w0.heap.size w0 w) (hX : ∀ k, X k → w0.heap.size ≤ k ∧ k < w.heap.size) : AbX w0 (w.alloc (.cells #[.map none] 29)) X w.heap.size [] none :=
  ⟨_, fun _ => False, TabAt.new w, fun k (hk : k = _) => by have := h.size; omega, h.alloc h.size _, fun hn => absurd hn (Nat.lt_irrefl 0), fun _ h => h.elim, fun k hk => ⟨by have := (hX k hk).2; rw [World.size_alloc]; omega, (hX k hk).1, fun (e : k = _) => by have := (hX k hk).2; omega, fun h => h⟩⟩
theorem AbX.once (h : AbX w0 w X b l A) : Once l := by
  obtain ⟨_, _, h, _⟩ := h
  exact h.rising.once
theorem AbX.rising (h : AbX w0 w X b l A) : Rising l := by
  obtain ⟨_, _, h, _⟩ := h
  exact h.rising
theorem AbX.len (h : AbX w0 w X b l A) : l.length ≤ 16 := by
  obtain ⟨_, _, h, _⟩ := h
  exact h.len
theorem AbX.row (h : AbX w0 w X b l A) : RowT prC w (fun _ => True) A l := by
  obtain ⟨_, _, _, _, _, h, _⟩ := h
  exact h.mono (fun _ _ => trivial)
theorem AbX.mem (h : AbX w0 w X b l A) {k : Nat} (hk : X k) : k < w.heap.size ∧ w0.heap.size ≤ k := by
  obtain ⟨_, _, _, _, _, _, _, h⟩ := h
  exact ⟨(h k hk).1, (h k hk).2.1⟩
theorem AbX.below (h : AbX w0 w X b l A) (hb : Below w.heap.size w w') : AbX w0 w' X b l A := by
  obtain ⟨O, D, a1, a2, a3, a4, a5, a6⟩ := h
  exact ⟨O, D, a1.below hb, a2, a3.trans (hb.mono a3.size), a4.below hb, fun k hk => ⟨Nat.lt_of_lt_of_le (a5 k hk).1 hb.size, (a5 k hk).2⟩, fun k hk => ⟨Nat.lt_of_lt_of_le (a6 k hk).1 hb.size, (a6 k hk).2⟩⟩
theorem AbX.new {Y : Nat → Prop} (h : AbX w0 w X b l A) (hb : Below w.heap.size w w') (hY : ∀ k, Y k → w.heap.size ≤ k ∧ k < w'.heap.size) : AbX w0 w' Y b l A := by
  obtain ⟨O, D, a1, a2, a3, a4, a5, a6⟩ := h
  refine ⟨O, D, a1.below hb, a2, a3.trans (hb.mono a3.size), a4.below hb, fun k hk => ⟨Nat.lt_of_lt_of_le (a5 k hk).1 hb.size, (a5 k hk).2⟩, fun k hk => ?_⟩
  have h1 := hY k hk
  exact ⟨h1.2, Nat.le_trans a3.size h1.1, fun e => absurd (a1.lt k e) (by omega), fun e => absurd (a5 k e).1 (by omega)⟩
theorem AbX.add {Y : Nat → Prop} (h : AbX w0 w X b l A) (hb : Below w.heap.size w w') (hY : ∀ k, Y k → w.heap.size ≤ k ∧ k < w'.heap.size) : AbX w0 w' (fun k => X k ∨ Y k) b l A := by
  obtain ⟨O, D, a1, a2, a3, a4, a5, a6⟩ := h
  refine ⟨O, D, a1.below hb, a2, a3.trans (hb.mono a3.size), a4.below hb, fun k hk => ⟨Nat.lt_of_lt_of_le (a5 k hk).1 hb.size, (a5 k hk).2⟩, fun k hk => ?_⟩
  rcases hk with hk | hk
  · exact ⟨Nat.lt_of_lt_of_le (a6 k hk).1 hb.size, (a6 k hk).2⟩
  · have h1 := hY k hk
    exact ⟨h1.2, Nat.le_trans a3.size h1.1, fun e => absurd (a1.lt k e) (by omega), fun e => absurd (a5 k e).1 (by omega)⟩
theorem AbX.out {Y : Nat → Prop} (h : AbX w0 w X b l A) (hY : ∀ k, Y k → X k) : AbX w0 w Y b l A := by
  obtain ⟨O, D, a1, a2, a3, a4, a5, a6⟩ := h
  exact ⟨O, D, a1, a2, a3, a4, a5, fun k hk => a6 k (hY k hk)⟩
/-- A call that reads the table. -/
theorem AbX.rd {E : Ending → World → Prop} (h : AbX w0 w X b l A) (hc : ∀ O, TabAt w O b l → Calls P f args w fun e w' => E e w' ∧ Below w.heap.size w w') : Calls P f args w fun e w' => E e w' ∧ AbX w0 w' X b l A ∧ Below w.heap.size w w' := by
  obtain ⟨O, D, a1, a2⟩ := id h
  refine (hc O a1).mono ?_
  rintro e w' ⟨he, hb⟩
  exact ⟨he, h.below hb, hb⟩
/-- A call that turns the table, where the document's row is at A' already. -/
theorem AbX.turn {E : Ending → Prop} {w2 : World} (h : AbX w0 w X b l A) (hB : Below w.heap.size w w2) (hrow : (A' = A ∧ l' = l) ∨ ∃ n c, w2.ownsRow w.heap.size 76 2 (.slice A' n c) l'.length (l'.flatMap prC))
    (hc : ∀ O, TabAt w2 O b l → Calls P f args w2 fun e w' => E e ∧ TabTo w2 O w' b l') :
    Calls P f args w2 fun e w' => E e ∧ AbX w0 w' X b l' A' ∧ Only (fun k => ¬ X k) w w' := by
  obtain ⟨O, D, a1, a2, a3, a4, a5, a6⟩ := h
  refine (hc O (a1.below hB)).mono ?_
  rintro e w' ⟨he, O', b1, b2, b3⟩
  have hsz := hB.size
  have hnX : Only (fun k => ¬ X k) w w' := (Only.of_below (R := fun k => ¬ X k) hB).trans b2 (fun k hk => .inl fun hx => (a6 k hx).2.2.1 hk)
  have hO' : ∀ k, O' k → w0.heap.size ≤ k := fun k hk => (b3 k hk).elim (a2 k) (fun h => Nat.le_trans a3.size (Nat.le_trans hsz h))
  have hbel : Below w0.heap.size w0 w' := (a3.trans (hB.mono a3.size)).trans (b2.below (Nat.le_trans a3.size hsz) a2)
  have hX : ∀ k, X k → k < w'.heap.size ∧ w0.heap.size ≤ k ∧ ¬ O' k := fun k hk => by
    obtain ⟨x1, x2, x3, x4⟩ := a6 k hk
    exact ⟨Nat.lt_of_lt_of_le x1 (Nat.le_trans hsz b2.size), x2, fun e => (b3 k e).elim x3 (fun h => by omega)⟩
  rcases hrow with ⟨rfl, rfl⟩ | ⟨n, c, hown⟩
  · refine ⟨he, ⟨O', D, b1, hO', hbel, (a4.below hB).keep b2 (fun k hk => (a5 k hk).2), fun k hk => ⟨Nat.lt_of_lt_of_le (a5 k hk).1 (Nat.le_trans hsz b2.size), fun e => (b3 k e).elim (a5 k hk).2 (fun h => by have := (a5 k hk).1; omega)⟩, fun k hk => ?_⟩, hnX⟩
    exact ⟨(hX k hk).1, (hX k hk).2.1, (hX k hk).2.2, (a6 k hk).2.2.2⟩
  · have hlt := fun k (e : (Value.slice A' n c).ownBlock = some k) => hown.lt k e
    have hr := rowT_of_own (C := prC) (R := fun k => w.heap.size ≤ k ∧ k < w2.heap.size) hown hlt
    refine ⟨he, ⟨O', fun k => w.heap.size ≤ k ∧ k < w2.heap.size, b1, hO', hbel, hr.keep b2 (fun k hk e => by have := a1.lt k e; omega), fun k hk => ⟨Nat.lt_of_lt_of_le hk.2 b2.size, fun e => (b3 k e).elim (fun h => by have := a1.lt k h; omega) (fun h => by omega)⟩, fun k hk => ?_⟩, hnX⟩
    exact ⟨(hX k hk).1, (hX k hk).2.1, (hX k hk).2.2, fun e => by have := (a6 k hk).1; omega⟩
end
end
section
open Go Go.RowKit
set_option maxRecDepth 100000
set_option maxHeartbeats 4000000 in
theorem adoes_0 (w0 w : World) (X : Nat → Prop) (b : Nat) (l : List PR) (A : Option Addr) (c : Nat) (h : AbX w0 w X b l A) (hsp : Spans w0) (n : ByteArray) (t : List UInt8) (hn : n.size ≤ 100000) (ht : t.length ≤ 100000) :
    Calls Tryz.prog 6 #[.pointer (some ⟨b, 0, none⟩), .slice A l.length c, .agg #[.int .i64 0, .string n, .string (bs t)]] w fun e w' => ∃ A' c', e = .returned (.tuple #[.slice A' ((setR l n (bs t)).1).length c', .bool true]) ∧ AbX w0 w' X b ((setR l n (bs t)).1) A' ∧ Only (fun k => ¬ X k) w w' := by
  have hlen := h.len
  have HX := Lib.hid (h.add (Y := fun k => k = w.heap.size) ((Below.refl _ w).alloc (Nat.le_refl _) (.cells #[.int .i64 0, .string n, .string (bs t)] 32)) (fun k (hk : k = _) => ⟨by omega, by rw [World.size_alloc]; omega⟩))
  have hb0 : BxA (w.alloc (.cells #[.int .i64 0, .string n, .string (bs t)] 32)) w.heap.size 32 [.int .i64 0, .string n, .string (bs t)] := BxA.new w _ _
  have HK0 : Hid (Only (fun k => ¬ (X k ∨ k = w.heap.size)) w (w.alloc (.cells #[.int .i64 0, .string n, .string (bs t)] 32))) := Lib.hid (Only.of_below ((Below.refl _ w).alloc (Nat.le_refl _) _))
  have HS := Lib.hid hsp
  clear h hsp
  obtain ⟨W0, hW0⟩ : ∃ W0, w.alloc (.cells #[.int .i64 0, .string n, .string (bs t)] 32) = W0 := ⟨_, rfl⟩
  rw [hW0] at HX hb0 HK0
  have HB := Lib.hid hb0
  have m0 := hb0.c 0 rfl
  have m1 := hb0.c 1 rfl
  have m2 := hb0.c 2 rfl
  clear hb0
  go_enter Tryz.func6, Tryz.ntmps6
  go_wp2_with fail
  refine (rget_calls W0 _ A c l HX.out.row (by omega) n).mono ?_
  rintro e w1 ⟨rfl, hb1⟩
  have HX1 := Lib.hid (HX.out.below hb1)
  have HK1 : Hid (Only (fun k => ¬ (X k ∨ k = w.heap.size)) w w1) := Lib.hid (HK0.out.trans (R' := fun _ => False) (Only.of_below hb1) (fun _ h => h.elim))
  have hbx := HB.out.below hb1
  have HB1 := Lib.hid hbx
  have k0 := hbx.c 0 rfl
  have k1 := hbx.c 1 rfl
  have k2 := hbx.c 2 rfl
  clear hb1 hbx m0 m1 m2 HX HK0 HB hW0
  go_wp2_with fail
  refine (rset_calls w1 _ A c l HX1.out.row (by omega) n t (by omega) (by omega)).mono ?_
  rintro e w2 ⟨v, rfl, hset, hb2⟩
  obtain ⟨A2, c2, hv, hrow⟩ : ∃ A2 c2, v = .slice A2 (setR l n (bs t)).1.length c2 ∧ ((A2 = A ∧ (setR l n (bs t)).1 = l) ∨ ∃ n' c', w2.ownsRow w1.heap.size 76 2 (.slice A2 n' c') (setR l n (bs t)).1.length ((setR l n (bs t)).1.flatMap prC)) := by
    rcases hset with ⟨h1, h2⟩ | h1
    · exact ⟨A, c, by rw [h1, h2], .inl ⟨rfl, h2⟩⟩
    · obtain ⟨A2, c2, e2⟩ := own_form h1
      exact ⟨A2, c2, e2, .inr ⟨_, _, by rw [← e2]; exact h1⟩⟩
  subst hv
  have HSet := Lib.hid (HX1.out.turn (P := Tryz.prog) (f := 10) (args := #[.pointer (some ⟨b, 0, none⟩), .string n, .string (bs t)]) (E := fun e => e = .returned (.int .i64 (setR l n (bs t)).2)) hb2 hrow (fun O hO => tset_calls w2 O b l hO n (bs t) (by omega) (by rw [bs_size]; omega)))
  have hbx := HB1.out.below hb2
  have j1 := hbx.c 1 rfl
  have j2 := hbx.c 2 rfl
  clear hbx hb2 hset hrow HX1 HB1 k0 k1 k2
  go_wp2_with fail
  refine HSet.out.mono ?_
  rintro e w3 ⟨rfl, hx, ho⟩
  have HX3 := Lib.hid hx
  have HK3 := Lib.hid (HK1.out.trans ho (fun _ h => .inl h))
  clear hx ho HSet
  go_wp2_with fail
  go_ret2
  exact ⟨A2, c2, rfl, HX3.out.out (fun _ h => .inl h), HK3.out.mono (fun k hk => .inl fun hx => hk (.inl hx))⟩
set_option maxHeartbeats 4000000 in
theorem adoes_1 (w0 w : World) (X : Nat → Prop) (b : Nat) (l : List PR) (A : Option Addr) (c : Nat) (h : AbX w0 w X b l A) (hsp : Spans w0) (n : ByteArray) (t : List UInt8)  :
    Calls Tryz.prog 6 #[.pointer (some ⟨b, 0, none⟩), .slice A l.length c, .agg #[.int .i64 1, .string n, .string (bs t)]] w fun e w' => ∃ A' c', e = .returned (.tuple #[.slice A' (dropR l n).length c', .bool true]) ∧ AbX w0 w' X b (dropR l n) A' ∧ Only (fun k => ¬ X k) w w' := by
  have hlen := h.len
  have HX := Lib.hid (h.add (Y := fun k => k = w.heap.size) ((Below.refl _ w).alloc (Nat.le_refl _) (.cells #[.int .i64 1, .string n, .string (bs t)] 32)) (fun k (hk : k = _) => ⟨by omega, by rw [World.size_alloc]; omega⟩))
  have hb0 : BxA (w.alloc (.cells #[.int .i64 1, .string n, .string (bs t)] 32)) w.heap.size 32 [.int .i64 1, .string n, .string (bs t)] := BxA.new w _ _
  have HK0 : Hid (Only (fun k => ¬ (X k ∨ k = w.heap.size)) w (w.alloc (.cells #[.int .i64 1, .string n, .string (bs t)] 32))) := Lib.hid (Only.of_below ((Below.refl _ w).alloc (Nat.le_refl _) _))
  have HS := Lib.hid hsp
  clear h hsp
  obtain ⟨W0, hW0⟩ : ∃ W0, w.alloc (.cells #[.int .i64 1, .string n, .string (bs t)] 32) = W0 := ⟨_, rfl⟩
  rw [hW0] at HX hb0 HK0
  have HB := Lib.hid hb0
  have m0 := hb0.c 0 rfl
  have m1 := hb0.c 1 rfl
  have m2 := hb0.c 2 rfl
  clear hb0
  go_enter Tryz.func6, Tryz.ntmps6
  go_wp2_with fail
  refine (rget_calls W0 _ A c l HX.out.row (by omega) n).mono ?_
  rintro e w1 ⟨rfl, hb1⟩
  have HX1 := Lib.hid (HX.out.below hb1)
  have HK1 : Hid (Only (fun k => ¬ (X k ∨ k = w.heap.size)) w w1) := Lib.hid (HK0.out.trans (R' := fun _ => False) (Only.of_below hb1) (fun _ h => h.elim))
  have hbx := HB.out.below hb1
  have HB1 := Lib.hid hbx
  have k0 := hbx.c 0 rfl
  have k1 := hbx.c 1 rfl
  have k2 := hbx.c 2 rfl
  clear hb1 hbx m0 m1 m2 HX HK0 HB hW0
  have kk := HB1.out.c 1 rfl
  go_upto_region 7 with fail
  refine wp_region_held_drew (S := (fun w' => w'.cell? ⟨w.heap.size, 1, none⟩ = some (.string n))) (by kernel_rfl) kk (fun hHeld => ?_)
  refine wpAnyH_take (i := 0) (oi := ⟨some 45, _, _, _, _, _⟩) (v := ?_) rfl (by kernel_rfl) (by kernel_rfl) (by kernel_rfl) (fun _ _ _ h => h) (Or.inl ⟨by kernel_rfl, ?hy0⟩) (by assumption) ?_
  case hy0 => (intro w' hSw; (try dsimp only at hSw); go_simp; try with_reducible rfl)
  simp only [Act.put, List.setIfInBounds_toArray, List.set_cons_zero, List.set_cons_succ]
  refine wpAnyH_take (i := 1) (oi := ⟨some 46, _, _, _, _, _⟩) (v := ?_) rfl (by kernel_rfl) (by kernel_rfl) (by kernel_rfl) (fun _ _ _ h => h) (Or.inl ⟨by kernel_rfl, ?hy1⟩) (by assumption) ?_
  case hy1 => (intro w' hSw; (try dsimp only at hSw); go_simp; try with_reducible rfl)
  simp only [Act.put, List.setIfInBounds_toArray, List.set_cons_zero, List.set_cons_succ]
  refine wpAnyH_take (i := 2) (oi := ⟨some 47, _, _, _, _, _⟩) (v := ?_) rfl (by kernel_rfl) (by kernel_rfl) (by kernel_rfl) (fun _ _ _ h => h) (Or.inl ⟨by kernel_rfl, ?hy2⟩) (by assumption) ?_
  case hy2 => (intro w' hSw; (try dsimp only at hSw); go_simp; try with_reducible rfl)
  simp only [Act.put, List.setIfInBounds_toArray, List.set_cons_zero, List.set_cons_succ]
  refine wpAnyH_take (i := 4) (oi := ⟨some 49, _, _, _, _, _⟩) (v := ?_) rfl (by kernel_rfl) (by kernel_rfl) (by kernel_rfl) (fun _ _ _ h => h) (Or.inl ⟨by kernel_rfl, ?hy4⟩) (by assumption) ?_
  case hy4 => (intro w' hSw; (try dsimp only at hSw); go_simp; try with_reducible rfl)
  simp only [Act.put, List.setIfInBounds_toArray, List.set_cons_zero, List.set_cons_succ]
  refine wpAnyH_take (i := 5) (oi := ⟨some 50, _, _, _, _, _⟩) (v := ?_) rfl (by kernel_rfl) (by kernel_rfl) (by kernel_rfl) (fun _ _ _ h => h) (Or.inl ⟨by kernel_rfl, ?hy5⟩) (by assumption) ?_
  case hy5 => (intro w' hSw; (try dsimp only at hSw); go_simp; try with_reducible rfl)
  simp only [Act.put, List.setIfInBounds_toArray, List.set_cons_zero, List.set_cons_succ]
  refine wpAnyH_take (i := 6) (oi := ⟨some 51, _, _, _, _, _⟩) (v := ?_) rfl (by kernel_rfl) (by kernel_rfl) (by kernel_rfl) (fun _ _ _ h => h) (Or.inl ⟨by kernel_rfl, ?hy6⟩) (by assumption) ?_
  case hy6 => (intro w' hSw; (try dsimp only at hSw); go_simp; try with_reducible rfl)
  simp only [Act.put, List.setIfInBounds_toArray, List.set_cons_zero, List.set_cons_succ]
  refine wpAnyH_take (i := 8) (oi := ⟨some 53, _, _, _, _, _⟩) (v := ?_) rfl (by kernel_rfl) (by kernel_rfl) (by kernel_rfl) (fun _ _ _ h => h) (Or.inl ⟨by kernel_rfl, ?hy8⟩) (by assumption) ?_
  case hy8 => (intro w' hSw; (try dsimp only at hSw); go_simp; try with_reducible rfl)
  simp only [Act.put, List.setIfInBounds_toArray, List.set_cons_zero, List.set_cons_succ]
  refine wpAnyH_ready (rs := [3]) (by kernel_rfl) (by simp) ?_
  refine AllReadyH.cons (o := ⟨some 48, _, _, _, _, _⟩) rfl (fun K hK => ?_) AllReadyH.nil
  (rw [if_pos (by kernel_rfl)])
  go_simp
  refine (rdrop_calls _ _ A c l (HX1.out.below drewB).row (by omega) n).mono ?_
  rintro e w2 ⟨v, rfl, hown, hb2⟩
  obtain ⟨A2, c2, rfl⟩ := own_form hown
  have hbx := (HB1.out.below drewB).below hb2
  have i0 := hbx.c 1 rfl
  have HDr := Lib.hid ((HX1.out.below drewB).turn (P := Tryz.prog) (f := 13) (args := #[.pointer (some ⟨b, 0, none⟩), .string n]) (E := fun e => e = .returned (.bool (getP l n).isSome)) (l' := dropR l n) (A' := A2) hb2 (.inr ⟨_, _, hown⟩) (fun O hO => tdrop_calls w2 O b l hO n))
  clear hown hb2 hbx
  refine hK.out _ _ i0 (fun hHeld => ?_)
  clear hK K
  refine wpAnyH_ready (rs := [7]) (by kernel_rfl) (by simp) ?_
  refine AllReadyH.cons (o := ⟨some 52, _, _, _, _, _⟩) rfl (fun K hK => ?_) AllReadyH.nil
  (rw [if_pos (by kernel_rfl)])
  go_simp
  refine HDr.out.mono ?_
  rintro e w3 ⟨rfl, hx, ho⟩
  have i3 := ((HB1.out.below drewB).keep ho (fun hn => hn (.inr rfl))).c 1 rfl
  have HX3 := Lib.hid hx
  have HK3 := Lib.hid (HK1.out.drew.trans ho (fun _ h => .inl h))
  clear hx ho HDr
  refine hK.out _ _ i3 (fun hHeld => ?_)
  clear hK K
  refine wpAnyH_take (i := 9) (oi := ⟨some 54, _, _, _, _, _⟩) (v := ?_) rfl (by kernel_rfl) (by kernel_rfl) (by kernel_rfl) (fun _ _ _ h => h) (Or.inl ⟨by kernel_rfl, ?hy9⟩) (by assumption) ?_
  case hy9 => (intro w' hSw; (try dsimp only at hSw); go_simp; try with_reducible rfl)
  simp only [Act.put, List.setIfInBounds_toArray, List.set_cons_zero, List.set_cons_succ]
  refine wpAnyH_take (i := 10) (oi := ⟨some 6, _, _, _, _, _⟩) (v := ?_) rfl (by kernel_rfl) (by kernel_rfl) (by kernel_rfl) (fun _ _ _ h => h) (Or.inl ⟨by kernel_rfl, ?hy10⟩) (by assumption) ?_
  case hy10 => (intro w' hSw; (try dsimp only at hSw); go_simp; try with_reducible rfl)
  simp only [Act.put, List.setIfInBounds_toArray, List.set_cons_zero, List.set_cons_succ]
  refine wpAnyH_take (i := 11) (oi := ⟨some 7, _, _, _, _, _⟩) (v := ?_) rfl (by kernel_rfl) (by kernel_rfl) (by kernel_rfl) (fun _ _ _ h => h) (Or.inl ⟨by kernel_rfl, ?hy11⟩) (by assumption) ?_
  case hy11 => (intro w' hSw; (try dsimp only at hSw); go_simp; try with_reducible rfl)
  simp only [Act.put, List.setIfInBounds_toArray, List.set_cons_zero, List.set_cons_succ]
  refine wpAnyH_done (by kernel_rfl) ?_ _
  go_wp2_with fail
  go_ret2
  exact ⟨A2, c2, rfl, HX3.out.out (fun _ h => .inl h), HK3.out.mono (fun k hk => .inl fun hx => hk (.inl hx))⟩
set_option maxHeartbeats 4000000 in
theorem adoes_2 (w0 w : World) (X : Nat → Prop) (b : Nat) (l : List PR) (A : Option Addr) (c : Nat) (h : AbX w0 w X b l A) (hsp : Spans w0) (n : ByteArray) (t : List UInt8)  :
    Calls Tryz.prog 6 #[.pointer (some ⟨b, 0, none⟩), .slice A l.length c, .agg #[.int .i64 2, .string n, .string (bs t)]] w fun e w' => ∃ A' c', e = .returned (.tuple #[.slice A' (l).length c', .bool true]) ∧ AbX w0 w' X b (l) A' ∧ Only (fun k => ¬ X k) w w' := by
  have hlen := h.len
  have HX := Lib.hid (h.add (Y := fun k => k = w.heap.size) ((Below.refl _ w).alloc (Nat.le_refl _) (.cells #[.int .i64 2, .string n, .string (bs t)] 32)) (fun k (hk : k = _) => ⟨by omega, by rw [World.size_alloc]; omega⟩))
  have hb0 : BxA (w.alloc (.cells #[.int .i64 2, .string n, .string (bs t)] 32)) w.heap.size 32 [.int .i64 2, .string n, .string (bs t)] := BxA.new w _ _
  have HK0 : Hid (Only (fun k => ¬ (X k ∨ k = w.heap.size)) w (w.alloc (.cells #[.int .i64 2, .string n, .string (bs t)] 32))) := Lib.hid (Only.of_below ((Below.refl _ w).alloc (Nat.le_refl _) _))
  have HS := Lib.hid hsp
  clear h hsp
  obtain ⟨W0, hW0⟩ : ∃ W0, w.alloc (.cells #[.int .i64 2, .string n, .string (bs t)] 32) = W0 := ⟨_, rfl⟩
  rw [hW0] at HX hb0 HK0
  have HB := Lib.hid hb0
  have m0 := hb0.c 0 rfl
  have m1 := hb0.c 1 rfl
  have m2 := hb0.c 2 rfl
  clear hb0
  go_enter Tryz.func6, Tryz.ntmps6
  go_wp2_with fail
  refine (rget_calls W0 _ A c l HX.out.row (by omega) n).mono ?_
  rintro e w1 ⟨rfl, hb1⟩
  have HX1 := Lib.hid (HX.out.below hb1)
  have HK1 : Hid (Only (fun k => ¬ (X k ∨ k = w.heap.size)) w w1) := Lib.hid (HK0.out.trans (R' := fun _ => False) (Only.of_below hb1) (fun _ h => h.elim))
  have hbx := HB.out.below hb1
  have HB1 := Lib.hid hbx
  have k0 := hbx.c 0 rfl
  have k1 := hbx.c 1 rfl
  have k2 := hbx.c 2 rfl
  clear hb1 hbx m0 m1 m2 HX HK0 HB hW0
  go_wp2_with fail
  refine (HX1.out.rd (fun O hO => tget_calls w1 O b l hO n)).mono ?_
  rintro e w2 ⟨rfl, hx, hb2⟩
  have HX2 := Lib.hid hx
  have HK2 : Hid (Only (fun k => ¬ (X k ∨ k = w.heap.size)) w w2) := Lib.hid (HK1.out.trans (R' := fun _ => False) (Only.of_below hb2) (fun _ h => h.elim))
  clear hx hb2 HX1 HK1 HB1 k0 k1 k2
  generalize getP l n = g at *
  have q1 : ((g.getD ⟨#[]⟩).toList == (g.getD ⟨#[]⟩).toList) = true := beq_self_eq_true _
  have q2 : (g.isSome == g.isSome) = true := beq_self_eq_true _
  go_wp2_with fail
  go_ret2
  exact ⟨A, c, rfl, HX2.out.out (fun _ h => .inl h), HK2.out.mono (fun k hk => .inl fun hx => hk (.inl hx))⟩
set_option maxHeartbeats 4000000 in
theorem adoes_n (w0 w : World) (X : Nat → Prop) (b : Nat) (l : List PR) (A : Option Addr) (c : Nat) (h : AbX w0 w X b l A) (hsp : Spans w0) (k : Int) (h0 : k ≠ 0) (h1 : k ≠ 1) (h2 : k ≠ 2) (n : ByteArray) (t : List UInt8)  :
    Calls Tryz.prog 6 #[.pointer (some ⟨b, 0, none⟩), .slice A l.length c, .agg #[.int .i64 k, .string n, .string (bs t)]] w fun e w' => ∃ A' c', e = .returned (.tuple #[.slice A' (l).length c', .bool true]) ∧ AbX w0 w' X b (l) A' ∧ Only (fun k => ¬ X k) w w' := by
  have hlen := h.len
  have t0 : (k == 0) = false := beq_eq_false_iff_ne.2 h0
  have t1 : (k == 1) = false := beq_eq_false_iff_ne.2 h1
  have t2 : (k == 2) = false := beq_eq_false_iff_ne.2 h2
  clear h0 h1 h2
  have HX := Lib.hid (h.add (Y := fun k => k = w.heap.size) ((Below.refl _ w).alloc (Nat.le_refl _) (.cells #[.int .i64 k, .string n, .string (bs t)] 32)) (fun k (hk : k = _) => ⟨by omega, by rw [World.size_alloc]; omega⟩))
  have hb0 : BxA (w.alloc (.cells #[.int .i64 k, .string n, .string (bs t)] 32)) w.heap.size 32 [.int .i64 k, .string n, .string (bs t)] := BxA.new w _ _
  have HK0 : Hid (Only (fun k => ¬ (X k ∨ k = w.heap.size)) w (w.alloc (.cells #[.int .i64 k, .string n, .string (bs t)] 32))) := Lib.hid (Only.of_below ((Below.refl _ w).alloc (Nat.le_refl _) _))
  have HS := Lib.hid hsp
  clear h hsp
  obtain ⟨W0, hW0⟩ : ∃ W0, w.alloc (.cells #[.int .i64 k, .string n, .string (bs t)] 32) = W0 := ⟨_, rfl⟩
  rw [hW0] at HX hb0 HK0
  have HB := Lib.hid hb0
  have m0 := hb0.c 0 rfl
  have m1 := hb0.c 1 rfl
  have m2 := hb0.c 2 rfl
  clear hb0
  go_enter Tryz.func6, Tryz.ntmps6
  go_wp2_with fail
  refine (rget_calls W0 _ A c l HX.out.row (by omega) n).mono ?_
  rintro e w1 ⟨rfl, hb1⟩
  have HX1 := Lib.hid (HX.out.below hb1)
  have HK1 : Hid (Only (fun k => ¬ (X k ∨ k = w.heap.size)) w w1) := Lib.hid (HK0.out.trans (R' := fun _ => False) (Only.of_below hb1) (fun _ h => h.elim))
  have hbx := HB.out.below hb1
  have HB1 := Lib.hid hbx
  have k0 := hbx.c 0 rfl
  have k1 := hbx.c 1 rfl
  have k2 := hbx.c 2 rfl
  clear hb1 hbx m0 m1 m2 HX HK0 HB hW0
  go_wp2_with fail
  go_ret2
  exact ⟨A, c, rfl, HX1.out.out (fun _ h => .inl h), HK1.out.mono (fun k hk => .inl fun hx => hk (.inl hx))⟩
theorem adoes_calls (w0 w : World) (X : Nat → Prop) (b : Nat) (l : List PR) (A : Option Addr) (c : Nat) (h : AbX w0 w X b l A) (hsp : Spans w0) (o : OpA) (hn : o.n.size ≤ 100000) (ht : o.t.size ≤ 100000) :
    Calls Tryz.prog 6 #[.pointer (some ⟨b, 0, none⟩), .slice A l.length c, .agg #[.int .i64 o.k, .string o.n, .string o.t]] w fun e w' => ∃ A' c', e = .returned (.tuple #[.slice A' (doA l o).length c', .bool true]) ∧ AbX w0 w' X b (doA l o) A' ∧ Only (fun k => ¬ X k) w w' := by
  obtain ⟨k, n, t⟩ := o
  have ht2 : (bl t).length ≤ 100000 := by unfold bl; simpa using ht
  rw [show t = bs (bl t) from (bs_bl t).symm]
  unfold doA
  dsimp only
  by_cases h0 : k = 0
  · subst h0
    exact adoes_0 w0 w X b l A c h hsp n (bl t) hn ht2
  · rw [if_neg h0]
    by_cases h1 : k = 1
    · subst h1
      exact adoes_1 w0 w X b l A c h hsp n (bl t)
    · rw [if_neg h1]
      by_cases h2 : k = 2
      · subst h2
        exact adoes_2 w0 w X b l A c h hsp n (bl t)
      · exact adoes_n w0 w X b l A c h hsp k h0 h1 h2 n (bl t)
end
end Go.Proofs.YtlmbafnoopfilaaGreatDoor
