/-
  'stands' of layer 6: a log, held against the document's state; both beside each other.
-/
import Derived.Test.YtgcafmofpflidaaUDoes
import Derived.Test.YtgcafmofpflidaaUDoA
import Derived.Test.YtgcafmofpflidaaUAlive
import Derived.Deep.RegionHeld3
namespace Go.Proofs.Ytgcafmofpflidaa
open Go Go.RowKit
set_option maxRecDepth 100000

set_option maxHeartbeats 4000000 in
theorem stands_callsU (w : World) (R : Nat → Prop) (b : Nat) (s : LS ByteArray) (h : LogS w R b s) (Ab : Option Addr) (cb : Nat) (Af : Option Addr) (cf : Nat) (bs fs : List ByteArray) (lim opn : Int) (hbl : bs.length = s.back.length) (hfl : fs.length = s.forth.length) :
    Calls Try.prog 15 #[.pointer (some ⟨b, 0, none⟩), .agg #[.int .i64 lim, .slice Ab bs.length cb, .string s.now, .slice Af fs.length cf, .int .i64 opn]] w fun e w' => e = .returned (.bool true) ∧ Below w.heap.size w w' := by
  rw [hbl, hfl]
  clear hbl hfl
  obtain ⟨W1, hW1⟩ : ∃ W1, w.alloc (.cells #[.int .i64 lim, .slice Ab s.back.length cb, .string s.now, .slice Af s.forth.length cf, .int .i64 opn] 29) = W1 := ⟨_, rfl⟩
  have hB1 : Below w.heap.size w W1 := by rw [← hW1]; exact (Below.refl _ w).alloc (Nat.le_refl _) _
  have x0 : BxA W1 w.heap.size 29 [.int .i64 lim, .slice Ab s.back.length cb, .string s.now, .slice Af s.forth.length cf, .int .i64 opn] := by rw [← hW1]; exact BxA.new w _ [_, _, _, _, _]
  have h1 := objS.below h hB1
  have Hlen := Lib.hid (len_callsUS W1 R b s h1)
  have HB1 := Lib.hid hB1
  have HX := Lib.hid x0
  have H1 := Lib.hid h1
  clear hB1 x0 h1 h
  have hz : Hid (w.heap.size < W1.heap.size) := Lib.hid HX.out.lt
  go_enter Try.func15, Try.ntmps15
  go_wp2_with fail
  refine Hlen.out.mono ?_
  rintro e w2 ⟨rfl, hb2⟩
  have x2 := HX.out.below hb2
  have Hn := Lib.hid (now_callsUS w2.drew R b s (objS.below (objS.below H1.out hb2) (Below.refl _ w2).drew))
  have d1 := x2.c 1 rfl
  have d2 := x2.c 2 rfl
  have d3 := x2.c 3 rfl
  have HB2 : Hid (Below w.heap.size w w2) := Lib.hid (HB1.out.trans (hb2.mono HB1.out.size))
  have Hl2 : Hid (w.heap.size < w2.heap.size) := Lib.hid x2.lt
  clear hb2 x2 Hlen hW1
  generalize s.back.length = nb at *
  generalize s.forth.length = nf at *
  generalize s.now = x at *
  go_wp2_with fail
  refine wp_region_held_drew (S := (fun w' => w'.cell? ⟨w.heap.size, 1, none⟩ = some (.slice Ab nb cb) ∧ w'.cell? ⟨w.heap.size, 2, none⟩ = some (.string x) ∧ w'.cell? ⟨w.heap.size, 3, none⟩ = some (.slice Af nf cf))) (by kernel_rfl) ⟨d1, d2, d3⟩ (fun hHeld => ?_)
  refine wpAnyH_take (i := 0) (oi := ⟨some 12, _, _, _, _, _⟩) (v := ?_) rfl (by kernel_rfl) (by kernel_rfl) (by kernel_rfl) (fun _ _ _ h => h) (Or.inl ⟨by kernel_rfl, ?hy0⟩) (by assumption) ?_
  case hy0 => (intro w' hSw; (try dsimp only at hSw); go_simp; try with_reducible rfl)
  simp only [Act.put, List.setIfInBounds_toArray, List.set_cons_zero, List.set_cons_succ]
  refine wpAnyH_take (i := 2) (oi := ⟨some 14, _, _, _, _, _⟩) (v := ?_) rfl (by kernel_rfl) (by kernel_rfl) (by kernel_rfl) (fun _ _ _ h => h) (Or.inl ⟨by kernel_rfl, ?hy2⟩) (by assumption) ?_
  case hy2 => (intro w' hSw; (try dsimp only at hSw); go_simp; try with_reducible rfl)
  simp only [Act.put, List.setIfInBounds_toArray, List.set_cons_zero, List.set_cons_succ]
  refine wpAnyH_take (i := 3) (oi := ⟨some 15, _, _, _, _, _⟩) (v := ?_) rfl (by kernel_rfl) (by kernel_rfl) (by kernel_rfl) (fun _ _ _ h => h) (Or.inl ⟨by kernel_rfl, ?hy3⟩) (by assumption) ?_
  case hy3 => (intro w' hSw; (try dsimp only at hSw); go_simp; try with_reducible rfl)
  simp only [Act.put, List.setIfInBounds_toArray, List.set_cons_zero, List.set_cons_succ]
  refine wpAnyH_ready (rs := [1]) (by kernel_rfl) (by simp) ?_
  refine AllReadyH.cons (o := ⟨some 13, _, _, _, _, _⟩) rfl (fun K hK => ?_) AllReadyH.nil
  (rw [if_pos (by kernel_rfl)])
  go_simp
  refine Hn.out.mono ?_
  rintro e w3 ⟨rfl, hb3⟩
  have hb3' : Below w2.heap.size w2 w3 := ⟨hb3.os, hb3.tape, hb3.output, hb3.size, hb3.block⟩
  have q1 := (hb3'.cell (p := ⟨w.heap.size, 1, none⟩) Hl2.out).trans d1
  have q2 := (hb3'.cell (p := ⟨w.heap.size, 2, none⟩) Hl2.out).trans d2
  have q3 := (hb3'.cell (p := ⟨w.heap.size, 3, none⟩) Hl2.out).trans d3
  have HB3 : Hid (Below w.heap.size w w3) := Lib.hid (HB2.out.trans (hb3'.mono HB2.out.size))
  refine hK.out _ _ ⟨q1, q2, q3⟩ (fun hHeld => ?_)
  clear hK K
  clear hb3 hb3' Hn
  refine wpAnyH_take (i := 4) (oi := ⟨some 16, _, _, _, _, _⟩) (v := ?_) rfl (by kernel_rfl) (by kernel_rfl) (by kernel_rfl) (fun _ _ _ h => h) (Or.inl ⟨by kernel_rfl, ?hy4⟩) (by assumption) ?_
  case hy4 => (intro w' hSw; (try dsimp only at hSw); go_simp; try with_reducible rfl)
  simp only [Act.put, List.setIfInBounds_toArray, List.set_cons_zero, List.set_cons_succ]
  refine wpAnyH_take (i := 5) (oi := ⟨some 17, _, _, _, _, _⟩) (v := ?_) rfl (by kernel_rfl) (by kernel_rfl) (by kernel_rfl) (fun _ _ _ h => h) (Or.inl ⟨by kernel_rfl, ?hy5⟩) (by assumption) ?_
  case hy5 => (intro w' hSw; (try dsimp only at hSw); go_simp; try with_reducible rfl)
  simp only [Act.put, List.setIfInBounds_toArray, List.set_cons_zero, List.set_cons_succ]
  refine wpAnyH_take (i := 6) (oi := ⟨some 18, _, _, _, _, _⟩) (v := ?_) rfl (by kernel_rfl) (by kernel_rfl) (by kernel_rfl) (fun _ _ _ h => h) (Or.inl ⟨by kernel_rfl, ?hy6⟩) (by assumption) ?_
  case hy6 => (intro w' hSw; (try dsimp only at hSw); go_simp; try with_reducible rfl)
  simp only [Act.put, List.setIfInBounds_toArray, List.set_cons_zero, List.set_cons_succ]
  refine wpAnyH_take (i := 7) (oi := ⟨some 19, _, _, _, _, _⟩) (v := ?_) rfl (by kernel_rfl) (by kernel_rfl) (by kernel_rfl) (fun _ _ _ h => h) (Or.inl ⟨by kernel_rfl, ?hy7⟩) (by assumption) ?_
  case hy7 => (intro w' hSw; (try dsimp only at hSw); go_simp; try with_reducible rfl)
  simp only [Act.put, List.setIfInBounds_toArray, List.set_cons_zero, List.set_cons_succ]
  refine wpAnyH_take (i := 8) (oi := ⟨some 20, _, _, _, _, _⟩) (v := ?_) rfl (by kernel_rfl) (by kernel_rfl) (by kernel_rfl) (fun _ _ _ h => h) (Or.inl ⟨by kernel_rfl, ?hy8⟩) (by assumption) ?_
  case hy8 => (intro w' hSw; (try dsimp only at hSw); go_simp; try with_reducible rfl)
  simp only [Act.put, List.setIfInBounds_toArray, List.set_cons_zero, List.set_cons_succ]
  refine wpAnyH_take (i := 9) (oi := ⟨some 21, _, _, _, _, _⟩) (v := ?_) rfl (by kernel_rfl) (by kernel_rfl) (by kernel_rfl) (fun _ _ _ h => h) (Or.inl ⟨by kernel_rfl, ?hy9⟩) (by assumption) ?_
  case hy9 => (intro w' hSw; (try dsimp only at hSw); go_simp; try with_reducible rfl)
  simp only [Act.put, List.setIfInBounds_toArray, List.set_cons_zero, List.set_cons_succ]
  refine wpAnyH_take (i := 10) (oi := ⟨some 22, _, _, _, _, _⟩) (v := ?_) rfl (by kernel_rfl) (by kernel_rfl) (by kernel_rfl) (fun _ _ _ h => h) (Or.inl ⟨by kernel_rfl, ?hy10⟩) (by assumption) ?_
  case hy10 => (intro w' hSw; (try dsimp only at hSw); go_simp; try with_reducible rfl)
  simp only [Act.put, List.setIfInBounds_toArray, List.set_cons_zero, List.set_cons_succ]
  refine wpAnyH_take (i := 11) (oi := ⟨some 23, _, _, _, _, _⟩) (v := ?_) rfl (by kernel_rfl) (by kernel_rfl) (by kernel_rfl) (fun _ _ _ h => h) (Or.inl ⟨by kernel_rfl, ?hy11⟩) (by assumption) ?_
  case hy11 => (intro w' hSw; (try dsimp only at hSw); go_simp; try with_reducible rfl)
  simp only [Act.put, List.setIfInBounds_toArray, List.set_cons_zero, List.set_cons_succ]
  refine wpAnyH_take (i := 12) (oi := ⟨some 24, _, _, _, _, _⟩) (v := ?_) rfl (by kernel_rfl) (by kernel_rfl) (by kernel_rfl) (fun _ _ _ h => h) (Or.inl ⟨by kernel_rfl, ?hy12⟩) (by assumption) ?_
  case hy12 => (intro w' hSw; (try dsimp only at hSw); go_simp; try with_reducible rfl)
  simp only [Act.put, List.setIfInBounds_toArray, List.set_cons_zero, List.set_cons_succ]
  refine wpAnyH_take (i := 13) (oi := ⟨some 25, _, _, _, _, _⟩) (v := ?_) rfl (by kernel_rfl) (by kernel_rfl) (by kernel_rfl) (fun _ _ _ h => h) (Or.inl ⟨by kernel_rfl, ?hy13⟩) (by assumption) ?_
  case hy13 => (intro w' hSw; (try dsimp only at hSw); go_simp; try with_reducible rfl)
  simp only [Act.put, List.setIfInBounds_toArray, List.set_cons_zero, List.set_cons_succ]
  refine wpAnyH_take (i := 14) (oi := ⟨some 26, _, _, _, _, _⟩) (v := ?_) rfl (by kernel_rfl) (by kernel_rfl) (by kernel_rfl) (fun _ _ _ h => h) (Or.inl ⟨by kernel_rfl, ?hy14⟩) (by assumption) ?_
  case hy14 => (intro w' hSw; (try dsimp only at hSw); go_simp; try with_reducible rfl)
  simp only [Act.put, List.setIfInBounds_toArray, List.set_cons_zero, List.set_cons_succ]
  refine wpAnyH_take (i := 15) (oi := ⟨some 27, _, _, _, _, _⟩) (v := ?_) rfl (by kernel_rfl) (by kernel_rfl) (by kernel_rfl) (fun _ _ _ h => h) (Or.inl ⟨by kernel_rfl, ?hy15⟩) (by assumption) ?_
  case hy15 => (intro w' hSw; (try dsimp only at hSw); go_simp; try with_reducible rfl)
  simp only [Act.put, List.setIfInBounds_toArray, List.set_cons_zero, List.set_cons_succ]
  refine wpAnyH_take (i := 16) (oi := ⟨some 28, _, _, _, _, _⟩) (v := ?_) rfl (by kernel_rfl) (by kernel_rfl) (by kernel_rfl) (fun _ _ _ h => h) (Or.inl ⟨by kernel_rfl, ?hy16⟩) (by assumption) ?_
  case hy16 => (intro w' hSw; (try dsimp only at hSw); go_simp; try with_reducible rfl)
  simp only [Act.put, List.setIfInBounds_toArray, List.set_cons_zero, List.set_cons_succ]
  refine wpAnyH_take (i := 17) (oi := ⟨some 29, _, _, _, _, _⟩) (v := ?_) rfl (by kernel_rfl) (by kernel_rfl) (by kernel_rfl) (fun _ _ _ h => h) (Or.inl ⟨by kernel_rfl, ?hy17⟩) (by assumption) ?_
  case hy17 => (intro w' hSw; (try dsimp only at hSw); go_simp; try with_reducible rfl)
  simp only [Act.put, List.setIfInBounds_toArray, List.set_cons_zero, List.set_cons_succ]
  refine wpAnyH_take (i := 18) (oi := ⟨some 30, _, _, _, _, _⟩) (v := ?_) rfl (by kernel_rfl) (by kernel_rfl) (by kernel_rfl) (fun _ _ _ h => h) (Or.inl ⟨by kernel_rfl, ?hy18⟩) (by assumption) ?_
  case hy18 => (intro w' hSw; (try dsimp only at hSw); go_simp; try with_reducible rfl)
  simp only [Act.put, List.setIfInBounds_toArray, List.set_cons_zero, List.set_cons_succ]
  refine wpAnyH_take (i := 19) (oi := ⟨some 4, _, _, _, _, _⟩) (v := ?_) rfl (by kernel_rfl) (by kernel_rfl) (by kernel_rfl) (fun _ _ _ h => h) (Or.inl ⟨by kernel_rfl, ?hy19⟩) (by assumption) ?_
  case hy19 => (intro w' hSw; (try dsimp only at hSw); go_simp; try with_reducible rfl)
  simp only [Act.put, List.setIfInBounds_toArray, List.set_cons_zero, List.set_cons_succ]
  refine wpAnyH_done (by kernel_rfl) ?_ _
  go_wp2
  go_ret
  exact ⟨rfl, HB3.out⟩

/-- What the document's state's box holds. -/
def stV (Ab : Option Addr) (cb : Nat) (Af : Option Addr) (cf : Nat) (s : LS ByteArray) : List Value := [.int .i64 (s.lim : Int), .slice Ab s.back.length cb, .string s.now, .slice Af s.forth.length cf, .int .i64 s.opn]
/-- The log at b is s', the document's rows are s's; box N holds xs; all that lay when the statement began (w) is as it was. -/
def PairU (w W : World) (N b : Nat) (Ab : Option Addr) (cb : Nat) (Af : Option Addr) (cf : Nat) (s s' : LS ByteArray) (xs : List Value) : Prop :=
  ∃ R, LogS W R b s' ∧ (∀ i, R i → w.heap.size ≤ i ∧ i ≠ N) ∧ DocL W Ab cb Af cf s ∧ (∀ a, Ab = some a ∨ Af = some a → ¬ R a.block ∧ a.block ≠ N ∧ a.block < W.heap.size) ∧ BxA W N 29 xs ∧ Below w.heap.size w W ∧ w.heap.size ≤ N
section
variable {w W W' : World} {N b : Nat} {Ab : Option Addr} {cb : Nat} {Af : Option Addr} {cf : Nat} {s s' : LS ByteArray} {xs : List Value}
theorem PairU.bel (h : PairU w W N b Ab cb Af cf s s' xs) : Below w.heap.size w W := by
  obtain ⟨_, _, _, _, _, _, h, _⟩ := h
  exact h
theorem PairU.box (h : PairU w W N b Ab cb Af cf s s' xs) : BxA W N 29 xs := by
  obtain ⟨_, _, _, _, _, h, _⟩ := h
  exact h
theorem PairU.log (h : PairU w W N b Ab cb Af cf s s' xs) : InUS w W b s' := by
  obtain ⟨R, h1, h2, _, _, _, h6, _⟩ := h
  exact ⟨R, h1, fun k hk => (h2 k hk).1, h6⟩
theorem PairU.doc (h : PairU w W N b Ab cb Af cf s s' xs) : DocL W Ab cb Af cf s := by
  obtain ⟨_, _, _, h, _⟩ := h
  exact h
theorem PairU.base (h : PairU w W N b Ab cb Af cf s s' xs) : w.heap.size ≤ N := by
  obtain ⟨_, _, _, _, _, _, _, h⟩ := h
  exact h
theorem PairU.below (h : PairU w W N b Ab cb Af cf s s' xs) (hb : Below W.heap.size W W') : PairU w W' N b Ab cb Af cf s s' xs := by
  obtain ⟨R, h1, h2, h3, h4, h5, h6, h7⟩ := h
  exact ⟨R, objS.below h1 hb, h2, h3.below hb, fun a ha => ⟨(h4 a ha).1, (h4 a ha).2.1, Nat.lt_of_lt_of_le (h4 a ha).2.2 hb.size⟩, h5.below hb, h6.trans (hb.mono h6.size), h7⟩
theorem PairU.alloc (h : PairU w W N b Ab cb Af cf s s' xs) (o : Obj) : PairU w (W.alloc o) N b Ab cb Af cf s s' xs := h.below ((Below.refl _ W).alloc (Nat.le_refl _) o)
/-- The log turns. -/
theorem PairU.turn {R : Nat → Prop} {b' : Nat} {s'' : LS ByteArray} (_h1 : LogS W R b s') (h2 : ∀ i, R i → w.heap.size ≤ i ∧ i ≠ N) (h3 : DocL W Ab cb Af cf s) (h4 : ∀ a, Ab = some a ∨ Af = some a → ¬ R a.block ∧ a.block ≠ N ∧ a.block < W.heap.size) (h5 : BxA W N 29 xs) (h6 : Below w.heap.size w W) (h7 : w.heap.size ≤ N)
    (ht : ToUS W R W' b' s'') : PairU w W' N b' Ab cb Af cf s s'' xs := by
  obtain ⟨R', r1, r2, r3⟩ := ht
  have h0 := h6.size
  have hlt := h5.lt
  refine ⟨R', r1, fun i hi => ?_, h3.keep r2 (fun a ha => (h4 a (.inl ha)).1) (fun a ha => (h4 a (.inr ha)).1), fun a ha => ⟨fun hr => ?_, (h4 a ha).2.1, Nat.lt_of_lt_of_le (h4 a ha).2.2 r2.size⟩, h5.keep r2 (fun hr => (h2 N hr).2 rfl), h6.trans (r2.below h0 (fun i hi => (h2 i hi).1)), h7⟩
  · rcases r3 i hi with h | h
    · exact h2 i h
    · exact ⟨by omega, fun e => by omega⟩
  · have hl := (h4 a ha).2.2
    rcases r3 _ hr with h | h
    · exact (h4 a ha).1 h
    · omega
theorem PairU.step {f : Nat} {args : Array Value} {E : Ending → Prop} {s'' : LS ByteArray} (h : PairU w W N b Ab cb Af cf s s' xs) (hc : ∀ R, LogS W R b s' → Calls Try.prog f args W fun e W' => E e ∧ ToUS W R W' b s'') :
    Calls Try.prog f args W fun e W' => E e ∧ PairU w W' N b Ab cb Af cf s s'' xs := by
  obtain ⟨R, h1, h2, h3, h4, h5, h6, h7⟩ := h
  refine (hc R h1).mono ?_
  rintro e W' ⟨he, ht⟩
  exact ⟨he, PairU.turn h1 h2 h3 h4 h5 h6 h7 ht⟩
theorem PairU.read {f : Nat} {args : Array Value} {E : Ending → Prop} (h : PairU w W N b Ab cb Af cf s s' xs) (hc : ∀ R, LogS W R b s' → Calls Try.prog f args W fun e W' => E e ∧ Below W.heap.size W W') :
    Calls Try.prog f args W fun e W' => E e ∧ PairU w W' N b Ab cb Af cf s s' xs := by
  obtain ⟨R, h1, _⟩ := id h
  refine (hc R h1).mono ?_
  rintro e W' ⟨he, hb⟩
  exact ⟨he, h.below hb⟩
/-- The program's call. -/
theorem PairU.does (h : PairU w W N b Ab cb Af cf s s' xs) (o : OpU) :
    Calls Try.prog 14 #[.pointer (some ⟨b, 0, none⟩), .agg #[.int .i64 o.k, .string o.t, .int .i64 o.g]] W fun e W' => ∃ b', e = .returned (.tuple #[.pointer (some ⟨b', 0, none⟩), .string (doU s' o).now, .bool (didU s' o)]) ∧ PairU w W' N b' Ab cb Af cf s (doU s' o) xs := by
  obtain ⟨R, h1, h2, h3, h4, h5, h6, h7⟩ := h
  refine (does_callsU W R b s' h1 o).mono ?_
  rintro e W' ⟨b', rfl, ht⟩
  exact ⟨b', rfl, PairU.turn h1 h2 h3 h4 h5 h6 h7 ht⟩
/-- The document's call. -/
theorem PairU.do_ (h : PairU w W N b Ab cb Af cf s s' xs) (hok : s.Ok) (o : OpU) :
    Calls Try.prog 13 #[.agg #[.int .i64 (s.lim : Int), .slice Ab s.back.length cb, .string s.now, .slice Af s.forth.length cf, .int .i64 s.opn], .agg #[.int .i64 o.k, .string o.t, .int .i64 o.g]] W fun e W' => ∃ Ab' cb' Af' cf', e = .returned (.tuple #[.agg #[.int .i64 ((doU s o).lim : Int), .slice Ab' (doU s o).back.length cb', .string (doU s o).now, .slice Af' (doU s o).forth.length cf', .int .i64 (doU s o).opn], .bool (didU s o)]) ∧ PairU w W' N b Ab' cb' Af' cf' (doU s o) s' xs ∧ Below W.heap.size W W' := by
  refine (rdo6_calls Ab cb Af cf s o W h.doc hok).mono ?_
  rintro e W' ⟨Ab', cb', Af', cf', rfl, hd, hnb, hnf, hb⟩
  obtain ⟨R, h1, h2, h3, h4, h5, h6, h7⟩ := h
  have hR := objS.lt h1
  have hN := h5.lt
  refine ⟨Ab', cb', Af', cf', rfl, ⟨R, objS.below h1 hb, h2, hd, fun a ha => ?_, h5.below hb, h6.trans (hb.mono h6.size), h7⟩, hb⟩
  have new : W.heap.size ≤ a.block ∧ a.block < W'.heap.size → ¬ R a.block ∧ a.block ≠ N ∧ a.block < W'.heap.size := fun hh => ⟨fun hr => by have := hR _ hr; omega, fun e => by omega, hh.2⟩
  have old : ∀ a0, Ab = some a0 ∨ Af = some a0 → a.block = a0.block → ¬ R a.block ∧ a.block ≠ N ∧ a.block < W'.heap.size := fun a0 h0 e => by
    obtain ⟨q1, q2, q3⟩ := h4 a0 h0
    rw [e]
    exact ⟨q1, q2, Nat.lt_of_lt_of_le q3 hb.size⟩
  rcases ha with ha | ha
  · rcases hnb a ha with ⟨a0, e0, e1⟩ | hh
    · exact old a0 (.inl e0) e1
    · exact new hh
  · rcases hnf a ha with ⟨a0, e0, e1⟩ | hh
    · exact old a0 (.inr e0) e1
    · exact new hh
/-- The state is stored. -/
theorem PairU.store {x0 x1 x2 x3 x4 : Value} (h : PairU w W N b Ab cb Af cf s s' [x0, x1, x2, x3, x4]) (v0 v1 v2 v3 v4 : Value) : PairU w (five W N v0 v1 v2 v3 v4) N b Ab cb Af cf s s' [v0, v1, v2, v3, v4] := by
  obtain ⟨R, h1, h2, h3, h4, h5, h6, h7⟩ := h
  have ho := five_only W N v0 v1 v2 v3 v4
  exact ⟨R, objS.keep h1 ho (fun i hi e => (h2 i hi).2 e), h2, h3.keep ho (fun a ha => (h4 a (.inl ha)).2.1) (fun a ha => (h4 a (.inr ha)).2.1), fun a ha => ⟨(h4 a ha).1, (h4 a ha).2.1, Nat.lt_of_lt_of_le (h4 a ha).2.2 ho.size⟩, five_box h5 _ _ _ _ _, h6.trans (ho.below h6.size (fun i hi => by omega)), h7⟩
/-- Held against each other. -/
theorem PairU.stands (h : PairU w W N b Ab cb Af cf s s xs) :
    Calls Try.prog 15 #[.pointer (some ⟨b, 0, none⟩), .agg #[.int .i64 (s.lim : Int), .slice Ab s.back.length cb, .string s.now, .slice Af s.forth.length cf, .int .i64 s.opn]] W fun e W' => e = .returned (.bool true) ∧ PairU w W' N b Ab cb Af cf s s xs :=
  h.read (fun R hR => stands_callsU W R b s hR Ab cb Af cf s.back s.forth (s.lim : Int) s.opn rfl rfl)
/-- The beginning. -/
theorem PairU.start {x : ByteArray} {n : Int} {W2 : World} (h : InUS w W b (LS.new x n)) (hb : Below W.heap.size W W2) (h0 : w.heap.size ≤ W.heap.size) :
    PairU w (W2.alloc (.cells #[.int .i64 ((LS.new x n : LS ByteArray).lim : Int), .slice none (LS.new x n : LS ByteArray).back.length 0, .string (LS.new x n : LS ByteArray).now, .slice none (LS.new x n : LS ByteArray).forth.length 0, .int .i64 (LS.new x n : LS ByteArray).opn] 29)) W2.heap.size b none 0 none 0 (LS.new x n) (LS.new x n) (stV none 0 none 0 (LS.new x n)) := by
  obtain ⟨R, a1, a2, a3⟩ := h
  have hB : Below w.heap.size w W2 := a3.trans (hb.mono a3.size)
  have hlt := objS.lt a1
  refine ⟨R, objS.below (objS.below a1 hb) ((Below.refl _ W2).alloc (Nat.le_refl _) _), fun i hi => ⟨a2 i hi, fun e => by have := hlt i hi; have := hb.size; omega⟩, ⟨fun hn => absurd hn (Nat.lt_irrefl 0), Nat.zero_le _, by unfold maxLen; omega, fun _ => rfl, fun hn => absurd hn (Nat.lt_irrefl 0), Nat.zero_le _, by unfold maxLen; omega, fun _ => rfl⟩, fun a ha => (by rcases ha with h | h <;> cases h), BxA.new W2 _ [_, _, _, _, _], hB.alloc hB.size _, by have := hb.size; omega⟩
end
end Go.Proofs.Ytgcafmofpflidaa
