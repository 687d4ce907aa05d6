/-
  Layer 7 and what it stands on, part 30 (TabTw).
-/
import Derived.Test.YthifdojbbbnpaaaDoorPa25
import Derived.Test.YthifdojbbbnpaaaDoorPa27
import Derived.Maps.AppendAt
import Derived.Laws.OwnMore
namespace Go.Proofs.YthifdojbbbnpaaaDoor
section
open Go Go.RowKit
set_option maxRecDepth 100000
def TwT (w0 w : World) (X : Nat → Prop) (b : Nat) (l : List PR) (b2 : Nat) (l2 : List PR) : Prop := ∃ O O2, TabAt w O b l ∧ TabAt w O2 b2 l2 ∧ (∀ k, O k → w0.heap.size ≤ k ∧ ¬ O2 k) ∧ (∀ k, O2 k → w0.heap.size ≤ k) ∧ Below w0.heap.size w0 w ∧ ∀ k, X k → k < w.heap.size ∧ w0.heap.size ≤ k ∧ ¬ O k ∧ ¬ O2 k
section
variable {P : Program} {f : Nat} {args : Array Value} {w0 w w' : World} {X : Nat → Prop} {b b2 : Nat} {l l2 l' : List PR}
theorem TwT.bel (h : TwT w0 w X b l b2 l2) : Below w0.heap.size w0 w := by
  obtain ⟨_, _, _, _, _, _, h, _⟩ := h
  exact h
theorem TwT.rising (h : TwT w0 w X b l b2 l2) : Rising l := by
  obtain ⟨_, _, h, _⟩ := h
  exact h.rising
theorem TwT.swap (h : TwT w0 w X b l b2 l2) : TwT w0 w X b2 l2 b l := by
  obtain ⟨O, O2, a1, a2, a3, a4, a5, a6⟩ := h
  exact ⟨O2, O, a2, a1, fun k hk => ⟨a4 k hk, fun e => (a3 k e).2 hk⟩, fun k hk => (a3 k hk).1, a5, fun k hk => ⟨(a6 k hk).1, (a6 k hk).2.1, (a6 k hk).2.2.2, (a6 k hk).2.2.1⟩⟩
theorem TwT.start (h : Below w0.heap.size w0 w) : TwT w0 ((w.alloc (.cells #[.map none] 27)).alloc (.cells #[.map none] 27)) (fun _ => False) w.heap.size [] (w.heap.size + 1) [] := by
  have h2 := TabAt.new (w.alloc (.cells #[.map none] 27))
  rw [World.size_alloc] at h2
  refine ⟨fun k => k = w.heap.size, fun k => k = w.heap.size + 1, (TabAt.new w).below ((Below.refl _ _).alloc (Nat.le_refl _) _), h2, fun k (hk : k = _) => ⟨by have := h.size; omega, fun (e : k = _) => by omega⟩, fun k (hk : k = _) => by have := h.size; omega, (h.alloc h.size _).alloc (by rw [World.size_alloc]; have := h.size; omega) _, fun _ h => h.elim⟩
theorem TwT.below (h : TwT w0 w X b l b2 l2) (hb : Below w.heap.size w w') : TwT w0 w' X b l b2 l2 := by
  obtain ⟨O, O2, a1, a2, a3, a4, a5, a6⟩ := h
  exact ⟨O, O2, a1.below hb, a2.below hb, a3, a4, a5.trans (hb.mono a5.size), fun k hk => ⟨Nat.lt_of_lt_of_le (a6 k hk).1 hb.size, (a6 k hk).2⟩⟩
theorem TwT.add {Y : Nat → Prop} (h : TwT w0 w X b l b2 l2) (hb : Below w.heap.size w w') (hY : ∀ k, Y k → w.heap.size ≤ k ∧ k < w'.heap.size) : TwT w0 w' (fun k => X k ∨ Y k) b l b2 l2 := by
  obtain ⟨O, O2, a1, a2, a3, a4, a5, a6⟩ := h
  refine ⟨O, O2, a1.below hb, a2.below hb, a3, a4, a5.trans (hb.mono a5.size), fun k hk => ?_⟩
  rcases hk with hk | hk
  · exact ⟨Nat.lt_of_lt_of_le (a6 k hk).1 hb.size, (a6 k hk).2⟩
  · have h1 := hY k hk
    exact ⟨h1.2, Nat.le_trans a5.size h1.1, fun e => absurd (a1.lt k e) (by omega), fun e => absurd (a2.lt k e) (by omega)⟩
theorem TwT.out {Y : Nat → Prop} (h : TwT w0 w X b l b2 l2) (hY : ∀ k, Y k → X k) : TwT w0 w Y b l b2 l2 := by
  obtain ⟨O, O2, a1, a2, a3, a4, a5, a6⟩ := h
  exact ⟨O, O2, a1, a2, a3, a4, a5, fun k hk => a6 k (hY k hk)⟩
theorem TwT.store (h : TwT w0 w X b l b2 l2) {M : Nat} (hM : X M) (ho : Only (fun k => k = M) w w') : TwT w0 w' X b l b2 l2 := by
  obtain ⟨O, O2, a1, a2, a3, a4, a5, a6⟩ := h
  obtain ⟨x1, x2, x3, x4⟩ := a6 M hM
  refine ⟨O, O2, a1.keep ho (fun k hk (e : k = M) => ?_), a2.keep ho (fun k hk (e : k = M) => ?_), a3, a4, a5.trans (ho.below a5.size fun k (e : k = M) => by omega), fun k hk => ⟨Nat.lt_of_lt_of_le (a6 k hk).1 ho.size, (a6 k hk).2⟩⟩
  · subst e; exact x3 hk
  · subst e; exact x4 hk
theorem TwT.rd {E : Ending → World → Prop} (h : TwT w0 w X b l b2 l2) (hc : ∀ O, TabAt w O b l → Calls P f args w fun e w' => E e w' ∧ Below w.heap.size w w') : Calls P f args w fun e w' => E e w' ∧ TwT w0 w' X b l b2 l2 ∧ Below w.heap.size w w' := by
  obtain ⟨O, O2, a1, a2⟩ := id h
  refine (hc O a1).mono ?_
  rintro e w' ⟨he, hb⟩
  exact ⟨he, h.below hb, hb⟩
theorem TwT.turn {E : Ending → Prop} (h : TwT w0 w X b l b2 l2) (hc : ∀ O, TabAt w O b l → Calls P f args w fun e w' => E e ∧ TabTo w O w' b l') :
    Calls P f args w fun e w' => E e ∧ TwT w0 w' X b l' b2 l2 ∧ Only (fun k => ¬ X k) w w' := by
  obtain ⟨O, O2, a1, a2, a3, a4, a5, a6⟩ := h
  refine (hc O a1).mono ?_
  rintro e w' ⟨he, O', b1, b3, b4⟩
  refine ⟨he, ⟨O', O2, b1, a2.keep b3 (fun k hk e => (a3 k e).2 hk), fun k hk => ⟨(b4 k hk).elim (fun e => (a3 k e).1) (fun h => Nat.le_trans a5.size h), fun e => (b4 k hk).elim (fun e' => (a3 k e').2 e) (fun h => by have := a2.lt k e; omega)⟩, a4, a5.trans (b3.below a5.size (fun k hk => (a3 k hk).1)), fun k hk => ?_⟩, b3.mono fun k hk => .inl fun hx => (a6 k hx).2.2.1 hk⟩
  obtain ⟨x1, x2, x3, x4⟩ := a6 k hk
  exact ⟨Nat.lt_of_lt_of_le x1 b3.size, x2, fun e => (b4 k e).elim x3 (fun h => by omega), x4⟩
end
theorem nil_cap8 {H : Type} {enc : TypeId × Value → H} {W : World} {a0 : Option Addr} {len cap : Nat} {d0 : DataW H} {p : List MemPlace}
    (h0 : DataW.Trod enc Tryd.prog W 0 (fun _ => true) true 22 (.slice a0 len cap) d0 p) : a0 = none → cap = 0 := by
  obtain ⟨fuel, hf⟩ := h0
  rcases Go.Deep.open_slice Tryd.underlying22 hf with ⟨hcs, _⟩ | ⟨a, len', cap', m, n, D, Pl, hcs, _⟩
  · simp [Value.cells] at hcs
    exact fun _ => hcs.2.2
  · simp [Value.cells] at hcs
    obtain ⟨rfl, _, _⟩ := hcs
    exact fun h => by cases h
/-- A call's cells; a row of calls put behind another one. -/
def opC (o : OpA) : List Value := [.int .i64 o.k, .string o.n, .string o.t]
theorem opC_length (o : OpA) : (opC o).length = 3 := rfl
theorem opC_one (o : OpA) : ∀ u ∈ opC o, u.oneCell' = true := by
  intro u hu
  simp [opC] at hu
  rcases hu with rfl | rfl | rfl <;> rfl
theorem infoOp8 : (Tryd.prog.info? 30).map (fun i => (i.zero, i.size, i.bytes)) = some (some (.agg #[.int .i64 0, .string ⟨#[]⟩, .string ⟨#[]⟩]), 3, 40) := by kernel_rfl
theorem rowT_of_rdA {w : World} {A : Option Addr} {os : List OpA} (h : RdA w A os) : RowT opC w (fun _ => True) A os := fun hn => by
  obtain ⟨g, o, e, hg, hc⟩ := h hn
  refine ⟨g, o, e, trivial, hg, fun j v hj => ?_⟩
  have hjl := (List.getElem?_eq_some_iff.1 hj).1
  rw [flat_length opC_length] at hjl
  have hi : j / 3 < os.length := by omega
  have hm : j % 3 < 3 := Nat.mod_lt _ (by decide)
  have hjj : j = j / 3 * 3 + j % 3 := by omega
  obtain ⟨q0, q1, q2, _, _⟩ := hc (j / 3) hi
  have ho : os[j / 3]? = some (os.getD (j / 3) OpA.none_) := by rw [List.getD_eq_getElem?_getD, List.getElem?_eq_getElem hi]; rfl
  generalize os.getD (j / 3) OpA.none_ = x at *
  generalize j / 3 = a at *
  generalize j % 3 = r at *
  subst hjj
  rcases (show r = 0 ∨ r = 1 ∨ r = 2 by omega) with rfl | rfl | rfl
  · have := flat_get opC_length ho (j := 0) rfl
    rw [this] at hj
    injection hj with hj
    rw [← hj]
    exact q0
  · have := flat_get opC_length ho (j := 1) rfl
    rw [this] at hj
    injection hj with hj
    rw [← hj, ← Nat.add_assoc]
    exact q1
  · have := flat_get opC_length ho (j := 2) rfl
    rw [this] at hj
    injection hj with hj
    rw [← hj, ← Nat.add_assoc]
    exact q2
theorem run_append_O (w : World) (base : Nat) (v : Value) (n : Nat) (xs : List OpA) (hn : n = xs.length) (hown : w.ownsRow base 30 3 v n (xs.flatMap opC)) (A : Option Addr) (m c : Nat) (ms : List OpA) (hm : m = ms.length) (hA : A = none → c = 0) {R : Nat → Prop} (hR : RowT opC w R A ms) (hb : n + m ≤ 1099511627776) (hbase : base ≤ w.heap.size) :
    ∃ v' w', (Builtin.append_ #[22, 22] 22 #[v, .slice A m c]).run Tryd.prog w = .ok v' w' ∧ w'.ownsRow base 30 3 v' (n + m) ((xs ++ ms).flatMap opC) ∧ w.grownBy w' v.ownBlock := by
  obtain ⟨i, hi, hz, hsize, hby⟩ := info_parts infoOp8
  subst hm
  rcases A with _ | a
  · obtain rfl := hA rfl
    have h0 : ms = [] := by
      by_cases hn : 0 < ms.length
      · obtain ⟨_, _, e, _⟩ := hR hn; cases e
      · exact List.eq_nil_of_length_eq_zero (by omega)
    subst h0
    exact ⟨v, w, run_append_owned_none (P := Tryd.prog) (w := w) base 22 22 30 i 3 Tryd.underlying22 hi v n (xs.flatMap opC) hown, by simpa using hown, World.grownBy.refl w _⟩
  · obtain ⟨v', w', hr, h2, h3, _, _⟩ := run_append_own_at (P := Tryd.prog) (w := w) base 22 22 30 i _ 3 40 Tryd.underlying22 hi hz hsize hby rfl (by decide) v n (xs.flatMap opC) hown a ms.length c (ms.flatMap opC) (flat_length opC_length ms) (fun j u hj => by
        have hjl := (List.getElem?_eq_some_iff.1 hj).1
        rw [flat_length opC_length] at hjl
        obtain ⟨g, o, e, _, _, hc⟩ := hR (by omega)
        injection e with e
        subst e
        rw [Addr.add_lit]
        exact hc j u hj) (fun u hu => by
        obtain ⟨x, _, hx⟩ := List.mem_flatMap.1 hu
        exact opC_one x u hx) (by unfold maxLen; omega) (by omega) hbase
    rw [List.flatMap_append]
    exact ⟨v', w', hr, h2, h3⟩
theorem own_zero8 {w : World} {base g : Nat} (hb : base ≤ g) (h : w.heap[g]? = some (.cells #[] 30 (0, 0))) : w.ownsRow base 30 3 (.slice (some ⟨g, 0, none⟩) 0 0) 0 ([].flatMap opC) :=
  ⟨rfl, .inr ⟨g, 0, #[], rfl, hb, h, by simp, by unfold maxLen; omega, by simp, by simp⟩⟩
theorem turned (wr : World) (A1 A2 : Option Addr) (c1 c2 : Nat) (xs ys : List OpA) {R R' : Nat → Prop} (h1 : RowT opC wr R A1 xs) (hn1 : A1 = none → c1 = 0) (h2 : RowT opC wr R' A2 ys) (hn2 : A2 = none → c2 = 0) (hl : xs.length + ys.length ≤ 1000) :
    ∃ A4 c4 W6 A8 c8 W7, (Builtin.append_ #[22, 22] 22 #[.slice (some ⟨wr.heap.size, 0, none⟩) 0 0, .slice A1 xs.length c1]).run Tryd.prog (wr.alloc (.cells #[] 30)).drew = .ok (.slice A4 xs.length c4) W6 ∧
      (Builtin.append_ #[22, 22] 22 #[.slice A4 xs.length c4, .slice A2 ys.length c2]).run Tryd.prog W6 = .ok (.slice A8 (xs.length + ys.length) c8) W7 ∧
      RowT opC W7 (fun i => wr.heap.size ≤ i ∧ i < W7.heap.size) A8 (xs ++ ys) ∧ Below wr.heap.size wr W7 := by
  have b5 : Below wr.heap.size wr (wr.alloc (.cells #[] 30)).drew := ((Below.refl _ wr).alloc (Nat.le_refl _) _).drew
  have s5 : (wr.alloc (.cells #[] 30)).drew.heap.size = wr.heap.size + 1 := World.size_alloc _ _
  have o5 := own_zero8 (base := wr.heap.size) (w := (wr.alloc (.cells #[] 30)).drew) (Nat.le_refl _) (World.alloc_heap_new wr _)
  obtain ⟨v6, W6, r4, o6, g6⟩ := run_append_O (wr.alloc (.cells #[] 30)).drew wr.heap.size (.slice (some ⟨wr.heap.size, 0, none⟩) 0 0) 0 [] rfl o5 A1 xs.length c1 xs rfl hn1 (h1.below b5) (by omega) b5.size
  rw [Nat.zero_add, List.nil_append] at o6
  obtain ⟨A4, c4, rfl⟩ := own_form o6
  have b6 : Below wr.heap.size wr W6 := b5.grown g6 (by omega) (fun k hk => (o5.lt k hk).1)
  obtain ⟨v8, W7, r8, o8, g8⟩ := run_append_O W6 wr.heap.size (.slice A4 xs.length c4) xs.length xs rfl o6 A2 ys.length c2 ys rfl hn2 (h2.below b6) (by omega) b6.size
  obtain ⟨A8, c8, rfl⟩ := own_form o8
  have b7 : Below wr.heap.size wr W7 := b6.grown g8 b6.size (fun k hk => (o6.lt k hk).1)
  rw [← List.length_append] at o8
  have h8 := rowT_of_own (C := opC) (R := fun i => wr.heap.size ≤ i ∧ i < W7.heap.size) o8 (fun g hg => o8.lt g hg)
  exact ⟨A4, c4, W6, A8, c8, W7, r4, r8, h8, b7⟩
end
end Go.Proofs.YthifdojbbbnpaaaDoor
