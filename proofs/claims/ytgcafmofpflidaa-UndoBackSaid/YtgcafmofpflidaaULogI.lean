/-
  Package undo at int (one row, which copies share and nobody writes into, and a place in it: LogRow): its calls.
-/
import Derived.Test.YtgcafmofpflidaaLogRow
import Derived.Test.YtgcafmofpflidaaLast
import Derived.WalkKit
import Derived.BigQuiet
import Derived.IntWalk
import Derived.Lib.MinMax
import Derived.Lib.Strings
import Derived.Deep.RegionHeld3
import Derived.Recover
import Derived.Defers
namespace Go.Proofs.Ytgcafmofpflidaa
open Go Go.RowKit
set_option maxRecDepth 100000

abbrev LogI (w : World) (R : Nat → Prop) (b : Nat) (s : LS Int) : Prop := LogAt (Value.int .i64) 3 61 w R b s
theorem objI : ObjL LogI := objRow _ _ _
theorem log_okI {w : World} {R : Nat → Prop} {b : Nat} {s : LS Int} (h : LogI w R b s) : s.Ok := h.ok
abbrev ToUI := ToL LogI
abbrev InUI := InL LogI
abbrev ToBI := ToB LogI

set_option maxHeartbeats 1000000 in
theorem now_callsUI (w : World) (R : Nat → Prop) (b : Nat) (s : LS Int) (h : LogI w R b s) :
    Calls Try.prog 25 #[.pointer (some ⟨b, 0, none⟩)] w fun e w' => e = .returned (Value.int .i64 s.now) ∧ Below w.heap.size w w' := by
  obtain ⟨g, o, c, hb, hr, hg, hc, h3, h4⟩ := h.open_
  have ck := (hc _ _ (rowL_now s)).1
  have c1 := hb.c 1 rfl
  have c2 := hb.c 2 rfl
  have hln := h.ok.len
  have hle := h.ok.le
  have hi1 : s.back.length < s.back.length + 1 + s.forth.length := by omega
  have hi2 : (s.back.length : Int) < ((s.back.length + 1 + s.forth.length : Nat) : Int) := by omega
  clear hb hc h
  generalize s.back.length + 1 + s.forth.length = m at *
  generalize s.back.length = n at *
  generalize s.now = x at *
  go_enter Try.func25, Try.ntmps25
  go_wp2
  go_quiet (fail)
  go_wp2
  go_ret
  exact ⟨rfl, bel_drewK (Below.refl _ _) _⟩

set_option maxHeartbeats 1000000 in
theorem len_callsUI (w : World) (R : Nat → Prop) (b : Nat) (s : LS Int) (h : LogI w R b s) :
    Calls Try.prog 24 #[.pointer (some ⟨b, 0, none⟩)] w fun e w' => e = .returned (.tuple #[.int .i64 (s.back.length : Int), .int .i64 (s.forth.length : Int)]) ∧ Below w.heap.size w w' := by
  obtain ⟨g, o, c, hb, hr, hg, hc, h3, h4⟩ := h.open_
  have c1 := hb.c 1 rfl
  have c2 := hb.c 2 rfl
  have hln := h.ok.len
  have hle := h.ok.le
  obtain ⟨m, hm⟩ : ∃ m, s.back.length + 1 + s.forth.length = m := ⟨_, rfl⟩
  have hw1 : IntKind.i64.wrap ((m : Int) - (s.back.length : Int)) = (m : Int) - (s.back.length : Int) := IntWalk.i64_in _ (by omega)
  have hw2 : IntKind.i64.wrap ((m : Int) - (s.back.length : Int) - 1) = (s.forth.length : Int) := by rw [IntWalk.i64_in _ (by omega)]; omega
  rw [hm] at c1
  clear hb hc h hm
  generalize s.back.length = n at *
  generalize s.forth.length = k at *
  go_enter Try.func24, Try.ntmps24
  go_wp2
  go_quiet (fail)
  go_wp2
  go_ret2
  exact ⟨rfl, bel_drewK (Below.refl _ _) _⟩


theorem same_idleI (w : World) :
    CallsD Try.prog 35 #[] .returning w fun e u' w' => e = .returned (.tuple #[]) ∧ u' = .returning ∧ w' = w := by
  refine callsD_of_wpS Try.func35 rfl fun c₀ cs hu => ?_
  apply wpS_region
  cases c₀
  simp_all [wpOpsS, go_sem, recoverD, Try.ntmps35, bodyPostS, results, Try.results35]
theorem same_callsUI (x y : Int) (w : World) :
    Calls Try.prog 32 #[Value.int .i64 x, Value.int .i64 y] w fun e w' => e = .returned (.bool (decide (x = y))) ∧ w' = w := by
  go_enter_defers Try.func32, Try.ntmps32
  go_wp2
  refine leaves_cons (f := 35) (args := #[]) (by simp) (by simp [go_sem]) ?_
  refine (same_idleI w).mono ?_
  rintro e u' w'' ⟨rfl, rfl, rfl⟩


  have he : (x == y) = decide (x = y) := rfl

  refine ⟨_, results_tmp rfl _ _ _, ?_, rfl⟩
  exact congrArg (fun q => Ending.returned (.bool q)) he

theorem break_rawI (w : World) (b : Nat) {v : Value} (c3 : w.cell? ⟨b, 3, none⟩ = some v) (f3 : w.frozen? ⟨b, 3, none⟩ = false) :
    Calls Try.prog 36 #[.pointer (some ⟨b, 0, none⟩)] w fun e w' => e = .returned (.tuple #[]) ∧ w' = w.setCell ⟨b, 3, none⟩ (.int .i64 0) := by
  go_enter Try.func36, Try.ntmps36
  go_wp2
  go_end0
  exact ⟨rfl, rfl⟩
set_option maxHeartbeats 1000000 in
theorem stand_outI (w : World) (R : Nat → Prop) (b : Nat) (s : LS Int) (h : LogI w R b s) (n : Int) (hn : n < 0 ∨ ((s.back.length + 1 + s.forth.length : Nat) : Int) ≤ n) :
    Calls Try.prog 33 #[.pointer (some ⟨b, 0, none⟩), .int .i64 n] w fun e w' => e = .returned (.tuple #[Value.int .i64 s.now, .bool false]) ∧ Below w.heap.size w w' := by
  obtain ⟨g, o, c, hb, hr, hg, hc, h3, h4⟩ := h.open_
  have c1 := hb.c 1 rfl
  have Hn := Lib.hid (now_callsUI w R b s h)
  clear hb hc h
  generalize s.back.length + 1 + s.forth.length = m at *
  generalize s.now = x at *
  by_cases hz : n < 0
  · have hz1 : decide (n < 0) = true := decide_eq_true hz
    clear hn
    go_enter Try.func33, Try.ntmps33
    go_wp2_with fail
    refine Hn.out.mono ?_
    rintro e w2 ⟨rfl, hb2⟩
    have HB := Lib.hid hb2
    clear hb2 Hn
    go_wp2
    go_ret2
    exact ⟨rfl, HB.out⟩
  · have hz1 : decide (n < 0) = false := decide_eq_false hz
    have hn' : (m : Int) ≤ n := by omega
    have hz2 : decide ((m : Int) ≤ n) = true := decide_eq_true hn'
    clear hn
    go_enter Try.func33, Try.ntmps33
    go_wp2_with fail
    refine Hn.out.mono ?_
    rintro e w2 ⟨rfl, hb2⟩
    have HB := Lib.hid hb2
    clear hb2 Hn
    go_wp2
    go_ret2
    exact ⟨rfl, HB.out⟩
set_option maxHeartbeats 1000000 in
theorem stand_inI (w : World) (R : Nat → Prop) (b : Nat) (s s' : LS Int) (h : LogI w R b s) (hok : s'.Ok) (hrw : rowL s' = rowL s) (hlm : s'.lim = s.lim) (hop : s'.opn = 0) :
    Calls Try.prog 33 #[.pointer (some ⟨b, 0, none⟩), .int .i64 (s'.back.length : Int)] w fun e w' => e = .returned (.tuple #[Value.int .i64 s'.now, .bool true]) ∧ ToBI w R w' b s' := by
  obtain ⟨g, o, c, hb, hr, hg, hc, h3, h4⟩ := h.open_
  have c1 := hb.c 1 rfl
  have c2 := hb.c 2 rfl
  have c3 := hb.c 3 rfl
  have f2 := hb.free 2
  have f3 := hb.free 3
  have hln := congrArg List.length hrw
  rw [rowL_length, rowL_length] at hln
  have hp := log_place h hok hrw hlm
  rw [hop] at hp
  have hz1 : decide ((s'.back.length : Int) < 0) = false := decide_eq_false (by omega)
  have hz0 : ¬ ((s'.back.length : Int) < 0) := by omega
  have hz2 : decide (((s.back.length + 1 + s.forth.length : Nat) : Int) ≤ (s'.back.length : Int)) = false := decide_eq_false (by omega)
  have hz3 : ¬ (((s.back.length + 1 + s.forth.length : Nat) : Int) ≤ (s'.back.length : Int)) := by omega
  clear hln hc
  generalize s.back.length + 1 + s.forth.length = m at *
  obtain ⟨W2, hW2⟩ : ∃ W2, (w.setCell ⟨b, 2, none⟩ (.int .i64 (s'.back.length : Int))).setCell ⟨b, 3, none⟩ (.int .i64 0) = W2 := ⟨_, rfl⟩
  have Hb := Lib.hid (break_rawI (w.setCell ⟨b, 2, none⟩ (.int .i64 (s'.back.length : Int))) b (v := .int .i64 s.opn) ((World.cell?_setCell_other _ _ _ _ (by simp)).trans c3) ((World.frozen?_setCell ..).trans f3))
  rw [hW2] at hp Hb
  have Hn := Lib.hid (now_callsUI W2 R b s' hp.1)
  have HP := Lib.hid hp
  clear hb h hp hrw hlm hop hok
  generalize (s'.back.length : Int) = k at *
  generalize s'.now = x at *
  go_enter Try.func33, Try.ntmps33
  go_wp2_with fail
  refine Hb.out.mono ?_
  rintro e w2 ⟨rfl, rfl⟩
  clear Hb hW2
  go_wp2_with fail
  refine Hn.out.mono ?_
  rintro e w3 ⟨rfl, hb3⟩
  have HT : Hid (ToBI w R w3 b s') := Lib.hid (ToB.below objI ⟨R, HP.out.1, HP.out.2, fun _ h => .inl h⟩ hb3)
  clear hb3 Hn
  go_wp2
  go_ret2
  exact ⟨rfl, HT.out⟩
set_option maxHeartbeats 1000000 in
theorem undo_callsBI (w : World) (R : Nat → Prop) (b : Nat) (s : LS Int) (h : LogI w R b s) :
    Calls Try.prog 26 #[.pointer (some ⟨b, 0, none⟩)] w fun e w' => e = .returned (.tuple #[Value.int .i64 s.undo.now, .bool (decide (s.back ≠ []))]) ∧ ToBI w R w' b s.undo := by
  obtain ⟨g, o, c, hb, hr, hg, hc, h3, h4⟩ := h.open_
  have c2 := hb.c 2 rfl
  have hln := h.ok.len
  have hle := h.ok.le
  have hw1 : IntKind.i64.wrap ((s.back.length : Int) - 1) = (s.back.length : Int) - 1 := IntWalk.i64_in _ (by omega)
  have Hs : Hid (Calls Try.prog 33 #[.pointer (some ⟨b, 0, none⟩), .int .i64 ((s.back.length : Int) - 1)] w fun e w' => e = .returned (.tuple #[Value.int .i64 s.undo.now, .bool (decide (s.back ≠ []))]) ∧ ToBI w R w' b s.undo) := Lib.hid (by
    by_cases hbk : s.back = []
    · rw [show s.undo = s by unfold LS.undo; rw [if_pos hbk], show decide (s.back ≠ []) = false from decide_eq_false (fun h => h hbk)]
      refine (stand_outI w R b s h _ (.inl (by rw [hbk]; decide))).mono ?_
      rintro e w' ⟨rfl, hb'⟩
      exact ⟨rfl, ToB.of_below objI h hb'⟩
    · obtain ⟨hrw, hbl, hlm, hop⟩ := rowL_undo hbk
      have hpos : 0 < s.back.length := List.length_pos_iff.2 hbk
      rw [show decide (s.back ≠ []) = true from decide_eq_true hbk, show (s.back.length : Int) - 1 = (s.undo.back.length : Int) by omega]
      exact stand_inI w R b s s.undo h h.ok.undo hrw hlm hop)
  clear hb hc h
  generalize s.undo.now = x at *
  generalize decide (s.back ≠ []) = q at *
  generalize (s.back.length : Int) = k at *
  go_enter Try.func26, Try.ntmps26
  go_wp2_with fail
  refine Hs.out.mono ?_
  rintro e w2 ⟨rfl, ht⟩
  have HT := Lib.hid ht
  clear ht Hs
  go_wp2
  go_ret2
  exact ⟨rfl, HT.out⟩
set_option maxHeartbeats 1000000 in
theorem redo_callsBI (w : World) (R : Nat → Prop) (b : Nat) (s : LS Int) (h : LogI w R b s) :
    Calls Try.prog 28 #[.pointer (some ⟨b, 0, none⟩)] w fun e w' => e = .returned (.tuple #[Value.int .i64 s.redo.now, .bool (decide (s.forth ≠ []))]) ∧ ToBI w R w' b s.redo := by
  obtain ⟨g, o, c, hb, hr, hg, hc, h3, h4⟩ := h.open_
  have c2 := hb.c 2 rfl
  have hln := h.ok.len
  have hle := h.ok.le
  have hw1 : IntKind.i64.wrap ((s.back.length : Int) + 1) = (s.back.length : Int) + 1 := IntWalk.i64_in _ (by omega)
  have Hs : Hid (Calls Try.prog 33 #[.pointer (some ⟨b, 0, none⟩), .int .i64 ((s.back.length : Int) + 1)] w fun e w' => e = .returned (.tuple #[Value.int .i64 s.redo.now, .bool (decide (s.forth ≠ []))]) ∧ ToBI w R w' b s.redo) := Lib.hid (by
    by_cases hbk : s.forth = []
    · have hf0 : s.forth.length = 0 := by rw [hbk]; rfl
      rw [show s.redo = s by unfold LS.redo; rw [if_pos hbk], show decide (s.forth ≠ []) = false from decide_eq_false (fun h => h hbk)]
      refine (stand_outI w R b s h _ (.inr (by omega))).mono ?_
      rintro e w' ⟨rfl, hb'⟩
      exact ⟨rfl, ToB.of_below objI h hb'⟩
    · obtain ⟨hrw, hbl, hlm, hop⟩ := rowL_redo hbk
      rw [show decide (s.forth ≠ []) = true from decide_eq_true hbk, show (s.back.length : Int) + 1 = (s.redo.back.length : Int) by omega]
      exact stand_inI w R b s s.redo h h.ok.redo hrw hlm hop)
  clear hb hc h
  generalize s.redo.now = x at *
  generalize decide (s.forth ≠ []) = q at *
  generalize (s.back.length : Int) = k at *
  go_enter Try.func28, Try.ntmps28
  go_wp2_with fail
  refine Hs.out.mono ?_
  rintro e w2 ⟨rfl, ht⟩
  have HT := Lib.hid ht
  clear ht Hs
  go_wp2
  go_ret2
  exact ⟨rfl, HT.out⟩
set_option maxHeartbeats 1000000 in
theorem new_callsUI (x : Int) (n : Int) (w : World) :
    Calls Try.prog 22 #[Value.int .i64 x, .int .i64 n] w fun e w' => ∃ b, e = .returned (.pointer (some ⟨b, 0, none⟩)) ∧ InUI w w' b (LS.new x n) := by
  have hl : min (max n 1) 256 = (limL n : Int) := by unfold limL; omega
  obtain ⟨W, hW⟩ : ∃ W, (w.alloc (.cells #[Value.int .i64 x] 3)).alloc (.cells #[.int .i64 (limL n : Int), .slice (some ⟨w.heap.size, 0, none⟩) 1 1, .int .i64 0, .int .i64 0] 61) = W := ⟨_, rfl⟩
  have hin : InUI w W (w.heap.size + 1) (LS.new x n) := by
    have hB : Below w.heap.size w W := by rw [← hW]; exact ((Below.refl _ w).alloc (Nat.le_refl _) _).alloc (by simp) _
    have hz : W.heap.size = w.heap.size + 2 := by rw [← hW]; simp
    have hx : Boxed W w.heap.size 3 (Value.int .i64 x) := by rw [← hW]; exact (Boxed.new w _ _).alloc _
    have hbx : BxA W (w.heap.size + 1) 61 [.int .i64 (limL n : Int), .slice (some ⟨w.heap.size, 0, none⟩) 1 1, .int .i64 0, .int .i64 0] := by
      have := BxA.new (w.alloc (.cells #[Value.int .i64 x] 3)) 61 [.int .i64 (limL n : Int), .slice (some ⟨w.heap.size, 0, none⟩) 1 1, .int .i64 0, .int .i64 0]
      rw [World.size_alloc] at this
      rw [← hW]; exact this
    refine ⟨fun k => k = w.heap.size ∨ k = w.heap.size + 1, ⟨LS.Ok.new x n, .inr rfl, fun k hk => by rcases hk with h | h <;> omega, some ⟨w.heap.size, 0, none⟩, 1, hbx, fun _ => ⟨w.heap.size, 0, rfl, ⟨.inl rfl, by omega⟩, by omega, fun i y hi => ?_⟩, Nat.le_refl _, by unfold maxLen; omega⟩, fun k hk => by rcases hk with h | h <;> omega, hB⟩
    cases i with
    | zero =>
      have : x = y := by simpa [rowL, LS.new] using hi
      subst this
      exact ⟨hx.cell, hx.frozen⟩
    | succ i => simp [rowL, LS.new] at hi
  have HIN := Lib.hid hin
  clear hin
  go_enter Try.func22, Try.ntmps22
  go_wp2
  go_ret
  exact ⟨_, rfl, HIN.out⟩

theorem infoUI : (Try.prog.info? 3).map (fun i => (i.zero, i.size, i.bytes)) = some (some (.int .i64 0), 1, 8) := by kernel_rfl
/-- Where what is kept begins and ends. -/
theorem put_cutI {s : LS Int} (h : s.Ok) (x : Int) (g : Int) (E : Nat) (hE : E = if g ≤ 0 ∨ g ≠ s.opn then s.back.length + 1 else s.back.length) : ((rowL s).take E).drop (E - s.lim) = (s.put x g).back ∧ (s.put x g).back.length = E - (E - s.lim) ∧ E - (E - s.lim) ≤ s.lim ∧ E ≤ s.back.length + 1 := by
  have hl := h.len
  have h1 : ((rowL s).take E).drop (E - s.lim) = (s.put x g).back := by
    show _ = if g ≤ 0 ∨ g ≠ s.opn then lastN s.lim (s.back ++ [s.now]) else s.back
    split at hE
    · subst hE
      rw [if_pos ‹_›, rowL_cut]
      unfold lastN
      simp
    · subst hE
      rw [if_neg ‹_›, show s.back.length - s.lim = 0 by omega, List.drop_zero]
      unfold rowL
      exact List.take_left
  have h2 : E ≤ s.back.length + 1 := by
    rw [hE]
    split <;> omega
  refine ⟨h1, ?_, by omega, h2⟩
  rw [← h1, List.length_drop, List.length_take, rowL_length]
  omega
set_option maxHeartbeats 2000000 in
theorem do_callsBI (w : World) (R : Nat → Prop) (b : Nat) (s : LS Int) (h : LogI w R b s) (x : Int) (gr : Int) :
    Calls Try.prog 23 #[.pointer (some ⟨b, 0, none⟩), Value.int .i64 x, .int .i64 gr] w fun e w' => e = .returned (.bool (decide (x ≠ s.now))) ∧ ToBI w R w' b (s.does x gr) := by
  by_cases hx : x = s.now
  · rw [show decide (x ≠ s.now) = false from decide_eq_false (fun h => h hx), show s.does x gr = s by unfold LS.does; rw [if_pos hx]]
    have Hn := Lib.hid (now_callsUI w R b s h)
    have HR := Lib.hid h
    clear h
    generalize s.now = y at *
    go_enter Try.func23, Try.ntmps23
    go_wp2_with fail
    refine Hn.out.mono ?_
    rintro e w2 ⟨rfl, hb2⟩
    have HT : Hid (ToBI w R w2 b s) := Lib.hid (ToB.of_below objI HR.out hb2)
    have Hs := Lib.hid (same_callsUI x y w2)
    rw [decide_eq_true hx] at Hs
    clear hb2 Hn hx
    go_wp2_with fail
    refine Hs.out.mono ?_
    rintro e w3 ⟨rfl, rfl⟩
    clear Hs
    go_wp2
    go_ret
    exact ⟨rfl, HT.out⟩
  · rw [show decide (x ≠ s.now) = true from decide_eq_true hx, show s.does x gr = s.put x gr by unfold LS.does; rw [if_neg hx]]
    obtain ⟨i0, hi, hz0, hz1, hz2⟩ := info_parts infoUI
    obtain ⟨E, hE⟩ : ∃ E : Nat, E = if gr ≤ 0 ∨ gr ≠ s.opn then s.back.length + 1 else s.back.length := ⟨_, rfl⟩
    obtain ⟨hcut, hlen, hsmall, hEn⟩ := put_cutI h.ok x gr E hE
    obtain ⟨F, hF⟩ : ∃ F, E - s.lim = F := ⟨_, rfl⟩
    rw [hF] at hcut hlen hsmall
    have hle := h.ok.le
    have hln := h.ok.len
    have hok := h.ok.put x gr
    have Hn := Lib.hid (now_callsUI w R b s h)
    have HR := Lib.hid h
    clear h
    go_enter Try.func23, Try.ntmps23
    go_wp2_with fail
    refine Hn.out.mono ?_
    rintro e w2 ⟨rfl, hb2⟩
    have h2 := objI.below HR.out hb2
    obtain ⟨g, o, c, hb, hr, hg, hc, h3, h4⟩ := h2.open_
    obtain ⟨o', hif, ho'⟩ : ∃ o', (if E = F then some (⟨g, o, none⟩ : Addr) else some ⟨g, o + F, none⟩) = some ⟨g, o', none⟩ ∧ (E ≠ F → o' = o + F) := by
      by_cases he : E = F
      · exact ⟨o, if_pos he, fun hn => absurd he hn⟩
      · exact ⟨o + F, if_neg he, fun _ => rfl⟩
    have hrd : RdV (Value.int .i64) w2 (some ⟨g, o', none⟩) (s.put x gr).back := by
      have hrow : RowW (Value.int .i64) w2 R (some ⟨g, o, none⟩) (rowL s) := fun _ => ⟨g, o, rfl, hr.1, hg, hc⟩
      by_cases he : E = F
      · exact fun hn => by omega
      · rw [← hcut, ho' he]
        exact ((hrow.take E).drop F).rd
    clear ho'
    have Hs := Lib.hid (same_callsUI x s.now w2)
    rw [decide_eq_false hx] at Hs
    clear hx hcut
    have hB1 : Below w2.heap.size w2 (w2.alloc (.cells #[Value.int .i64 x] 3)) := (Below.refl _ w2).alloc (Nat.le_refl _) _
    obtain ⟨c', w4, hrun, hown, hb4, hs4⟩ := run_append_full (P := Try.prog) (V := Value.int .i64) (w2.alloc (.cells #[Value.int .i64 x] 3)) 59 59 3 i0 (.int .i64 0) 8 Try.underlying59 hi hz0 hz1 hz2 rfl (by decide) g o' (E - F) (s.put x gr).back (hrd.below hB1) (some ⟨w2.heap.size, 0, none⟩) 1 [x] (by simp) (by
      intro _
      exact ⟨w2.heap.size, 0, rfl, by simp, fun i y hi => by
        cases i with
        | zero =>
          have : x = y := by simpa using hi
          subst this
          exact (Boxed.new w2 _ _).cell
        | succ i => simp at hi⟩) (by rw [hlen]; simp) (by rw [hlen]; simp; omega)
    rw [hlen, World.size_alloc, show [x].length = 1 from rfl] at hrun hown
    clear hrd hr hg hc
    have c0 := hb.c 0 rfl
    have c1 := hb.c 1 rfl
    have c2 := hb.c 2 rfl
    have c3 := hb.c 3 rfl
    have hb4' : Below w2.heap.size w2 w4 := hB1.trans (hb4.mono hB1.size)
    have hB := hb.below hb4'
    have d1 := hB.c 1 rfl
    have d2 := hB.c 2 rfl
    have d3 := hB.c 3 rfl
    have f1 := hB.free 1
    have f2 := hB.free 2
    have f3 := hB.free 3
    obtain ⟨Wf, hWf⟩ : ∃ Wf, ((w4.setCell ⟨b, 1, none⟩ (.slice (some ⟨w2.heap.size + 1, 0, none⟩) (E - F + 1) c')).setCell ⟨b, 2, none⟩ (.int .i64 ((E - F : Nat) : Int))).setCell ⟨b, 3, none⟩ (.int .i64 (s.put x gr).opn) = Wf := ⟨_, rfl⟩
    have hfin : ToBI w R Wf b (s.put x gr) := by
      have hrl : rowL (s.put x gr) = (s.put x gr).back ++ [x] := rfl
      have hll : (rowL (s.put x gr)).length = E - F + 1 := by rw [hrl, List.length_append, hlen]; rfl
      refine log_built (N := w2.heap.size + 1) (ty := 3) (A := some ⟨w2.heap.size + 1, 0, none⟩) (c := c') HR.out hok (hb2.trans (hb4'.mono hb2.size)) (w2 := w4) (((Only.refl (fun k => k = b) w4).set (p := ⟨b, 1, none⟩) (.inl rfl) _).set (p := ⟨b, 2, none⟩) (.inl rfl) _ |>.set (p := ⟨b, 3, none⟩) (.inl rfl) _ |> fun ho => by rw [hWf] at ho; exact ho) (by have := hb2.size; omega) ?_ ?_
      · rw [← hWf, hll, hlen]
        exact ((hB.set 1 _).set 2 _).set 3 _
      · rw [hll, hrl]
        simpa using hown
    have HF := Lib.hid hfin
    have Hrun := Lib.hid hrun
    have HWf := Lib.hid hWf
    clear hfin hrun hWf hown hb4 hb4' hB hb2 hs4 hB1 Hn hok hlen hb HR h2 hi hz0 hz1 hz2
    have hEFm : F ≤ E := by omega
    have hopn : max gr 0 = (s.put x gr).opn := by show max gr 0 = (if 0 < gr then gr else 0); split <;> omega
    have hwE : IntKind.i64.wrap ((s.back.length : Int) + 1) = ((s.back.length + 1 : Nat) : Int) := by rw [IntWalk.i64_in _ (by omega)]; omega
    have hwF : IntKind.i64.wrap ((E : Int) - (s.lim : Int)) = (E : Int) - (s.lim : Int) := IntWalk.i64_in _ (by omega)
    have hmF : max ((E : Int) - (s.lim : Int)) 0 = (F : Int) := by omega
    have hwA : IntKind.i64.wrap ((E : Int) - (F : Int)) = ((E - F : Nat) : Int) := by rw [IntWalk.i64_in _ (by omega)]; omega
    have hEm : E ≤ c := by omega
    have hFE : (F : Int) ≤ (E : Int) := by omega
    have hEc : (E : Int) ≤ (c : Int) := by omega
    rw [← hopn] at HWf
    by_cases hgr : 0 < gr
    · have hgd : decide (0 < gr) = true := decide_eq_true hgr
      by_cases hgo : gr = s.opn
      · have hge : (gr == s.opn) = true := beq_iff_eq.2 hgo
        rw [if_neg (by omega)] at hE
        obtain ⟨nb0, hnb0⟩ : ∃ nb0 : Int, nb0 = (s.back.length : Int) := ⟨_, rfl⟩
        have hE2 : (s.back.length : Int) = (E : Int) := by omega
        rw [hE2] at c2 d2 hwE
        clear hgo hnb0 nb0 hE2
        clear hE hln hle hsmall hEn hF h3 h4 hopn
        generalize s.back.length + 1 + s.forth.length = m at *
        generalize s.now = y at *
        generalize s.opn = op at *
        generalize s.lim = lm at *
        go_wp2_with fail
        refine Hs.out.mono ?_
        rintro e w3 ⟨rfl, rfl⟩
        clear Hs
        go_wp2_with (at_builtin; refine wpList_append_g (o := ⟨some 50, _, _, _, _, _⟩) (by kernel_rfl) (.tmp 47) (.tmp 49) 59 rfl _ _ rfl rfl Hrun.out ?_)
        go_ret
        exact ⟨rfl, by rw [HWf.out]; exact HF.out⟩
      · have hge : (gr == s.opn) = false := beq_eq_false_iff_ne.2 hgo
        rw [if_pos (by omega)] at hE
        rw [← hE] at hwE
        clear hgo
        clear hE hln hle hsmall hEn hF h3 h4 hopn
        generalize s.back.length + 1 + s.forth.length = m at *
        generalize (s.back.length : Int) = nb at *
        generalize s.now = y at *
        generalize s.opn = op at *
        generalize s.lim = lm at *
        go_wp2_with fail
        refine Hs.out.mono ?_
        rintro e w3 ⟨rfl, rfl⟩
        clear Hs
        go_wp2_with (at_builtin; refine wpList_append_g (o := ⟨some 50, _, _, _, _, _⟩) (by kernel_rfl) (.tmp 47) (.tmp 49) 59 rfl _ _ rfl rfl Hrun.out ?_)
        go_ret
        exact ⟨rfl, by rw [HWf.out]; exact HF.out⟩
    · rw [if_pos (by omega)] at hE
      have hgd : decide (0 < gr) = false := decide_eq_false hgr
      rw [← hE] at hwE
      clear hE hln hle hsmall hEn hF h3 h4 hopn
      generalize s.back.length + 1 + s.forth.length = m at *
      generalize (s.back.length : Int) = nb at *
      generalize s.now = y at *
      generalize s.opn = op at *
      generalize s.lim = lm at *
      go_wp2_with fail
      refine Hs.out.mono ?_
      rintro e w3 ⟨rfl, rfl⟩
      clear Hs
      go_wp2_with (at_builtin; refine wpList_append_g (o := ⟨some 50, _, _, _, _, _⟩) (by kernel_rfl) (.tmp 47) (.tmp 49) 59 rfl _ _ rfl rfl Hrun.out ?_)
      go_ret
      exact ⟨rfl, by rw [HWf.out]; exact HF.out⟩

set_option maxHeartbeats 2000000 in
theorem break_callsBI (w : World) (R : Nat → Prop) (b : Nat) (s : LS Int) (h : LogI w R b s) :
    Calls Try.prog 36 #[.pointer (some ⟨b, 0, none⟩)] w fun e w' => e = .returned (.tuple #[]) ∧ ToBI w R w' b s.brk := by
  obtain ⟨g, o, c, hb, hr, hg, hc, h3, h4⟩ := h.open_
  have hp := log_group h h.ok.brk (s' := s.brk) rfl rfl rfl
  refine (break_rawI w b (hb.c 3 rfl) (hb.free 3)).mono ?_
  rintro e w' ⟨rfl, rfl⟩
  exact ⟨rfl, R, hp.1, hp.2, fun _ h => .inl h⟩


theorem do_callsUI (w : World) (R : Nat → Prop) (b : Nat) (s : LS Int) (h : LogI w R b s) (x : Int) (g : Int) :
    Calls Try.prog 23 #[.pointer (some ⟨b, 0, none⟩), Value.int .i64 x, .int .i64 g] w fun e w' => e = .returned (.bool (decide (x ≠ s.now))) ∧ ToUI w R w' b (s.does x g) :=
  (do_callsBI w R b s h x g).mono fun _ _ q => ⟨q.1, q.2.to h.ins⟩
theorem undo_callsUI (w : World) (R : Nat → Prop) (b : Nat) (s : LS Int) (h : LogI w R b s) :
    Calls Try.prog 26 #[.pointer (some ⟨b, 0, none⟩)] w fun e w' => e = .returned (.tuple #[Value.int .i64 s.undo.now, .bool (decide (s.back ≠ []))]) ∧ ToUI w R w' b s.undo :=
  (undo_callsBI w R b s h).mono fun _ _ q => ⟨q.1, q.2.to h.ins⟩
theorem redo_callsUI (w : World) (R : Nat → Prop) (b : Nat) (s : LS Int) (h : LogI w R b s) :
    Calls Try.prog 28 #[.pointer (some ⟨b, 0, none⟩)] w fun e w' => e = .returned (.tuple #[Value.int .i64 s.redo.now, .bool (decide (s.forth ≠ []))]) ∧ ToUI w R w' b s.redo :=
  (redo_callsBI w R b s h).mono fun _ _ q => ⟨q.1, q.2.to h.ins⟩

end Go.Proofs.Ytgcafmofpflidaa
