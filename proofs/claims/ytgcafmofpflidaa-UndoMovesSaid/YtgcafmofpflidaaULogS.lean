/-
  Package undo at string (one row, which copies share and nobody writes into, and a place in it: LogRow): its calls.
-/
import Derived.Test.YtgcafmofpflidaaLogRow
import Derived.Test.YtgcafmofpflidaaLast
import Derived.WalkKit
import Derived.BigQuiet
import Derived.IntWalk
import Derived.Lib.MinMax
import Derived.Lib.Strings
import Derived.Deep.RegionHeld3
import Derived.Recover
import Derived.Defers
namespace Go.Proofs.Ytgcafmofpflidaa
open Go Go.RowKit
set_option maxRecDepth 100000

abbrev LogS (w : World) (R : Nat → Prop) (b : Nat) (s : LS ByteArray) : Prop := LogAt (Value.string) 9 56 w R b s
theorem objS : ObjL LogS := objRow _ _ _
theorem log_okS {w : World} {R : Nat → Prop} {b : Nat} {s : LS ByteArray} (h : LogS w R b s) : s.Ok := h.ok
abbrev ToUS := ToL LogS
abbrev InUS := InL LogS
abbrev ToBS := ToB LogS

set_option maxHeartbeats 1000000 in
theorem now_callsUS (w : World) (R : Nat → Prop) (b : Nat) (s : LS ByteArray) (h : LogS w R b s) :
    Calls Try.prog 19 #[.pointer (some ⟨b, 0, none⟩)] w fun e w' => e = .returned (Value.string s.now) ∧ Below w.heap.size w w' := by
  obtain ⟨g, o, c, hb, hr, hg, hc, h3, h4⟩ := h.open_
  have ck := (hc _ _ (rowL_now s)).1
  have c1 := hb.c 1 rfl
  have c2 := hb.c 2 rfl
  have hln := h.ok.len
  have hle := h.ok.le
  have hi1 : s.back.length < s.back.length + 1 + s.forth.length := by omega
  have hi2 : (s.back.length : Int) < ((s.back.length + 1 + s.forth.length : Nat) : Int) := by omega
  clear hb hc h
  generalize s.back.length + 1 + s.forth.length = m at *
  generalize s.back.length = n at *
  generalize s.now = x at *
  go_enter Try.func19, Try.ntmps19
  go_wp2
  go_quiet (fail)
  go_wp2
  go_ret
  exact ⟨rfl, bel_drewK (Below.refl _ _) _⟩

set_option maxHeartbeats 1000000 in
theorem len_callsUS (w : World) (R : Nat → Prop) (b : Nat) (s : LS ByteArray) (h : LogS w R b s) :
    Calls Try.prog 21 #[.pointer (some ⟨b, 0, none⟩)] w fun e w' => e = .returned (.tuple #[.int .i64 (s.back.length : Int), .int .i64 (s.forth.length : Int)]) ∧ Below w.heap.size w w' := by
  obtain ⟨g, o, c, hb, hr, hg, hc, h3, h4⟩ := h.open_
  have c1 := hb.c 1 rfl
  have c2 := hb.c 2 rfl
  have hln := h.ok.len
  have hle := h.ok.le
  obtain ⟨m, hm⟩ : ∃ m, s.back.length + 1 + s.forth.length = m := ⟨_, rfl⟩
  have hw1 : IntKind.i64.wrap ((m : Int) - (s.back.length : Int)) = (m : Int) - (s.back.length : Int) := IntWalk.i64_in _ (by omega)
  have hw2 : IntKind.i64.wrap ((m : Int) - (s.back.length : Int) - 1) = (s.forth.length : Int) := by rw [IntWalk.i64_in _ (by omega)]; omega
  rw [hm] at c1
  clear hb hc h hm
  generalize s.back.length = n at *
  generalize s.forth.length = k at *
  go_enter Try.func21, Try.ntmps21
  go_wp2
  go_quiet (fail)
  go_wp2
  go_ret2
  exact ⟨rfl, bel_drewK (Below.refl _ _) _⟩


theorem same_idleS (w : World) :
    CallsD Try.prog 34 #[] .returning w fun e u' w' => e = .returned (.tuple #[]) ∧ u' = .returning ∧ w' = w := by
  refine callsD_of_wpS Try.func34 rfl fun c₀ cs hu => ?_
  apply wpS_region
  cases c₀
  simp_all [wpOpsS, go_sem, recoverD, Try.ntmps34, bodyPostS, results, Try.results34]
theorem same_callsUS (x y : ByteArray) (w : World) :
    Calls Try.prog 31 #[Value.string x, Value.string y] w fun e w' => e = .returned (.bool (decide (x = y))) ∧ w' = w := by
  go_enter_defers Try.func31, Try.ntmps31
  go_wp2
  refine leaves_cons (f := 34) (args := #[]) (by simp) (by simp [go_sem]) ?_
  refine (same_idleS w).mono ?_
  rintro e u' w'' ⟨rfl, rfl, rfl⟩

  have he : (x.toList == y.toList) = decide (x = y) := by
    by_cases hxy : x = y
    · rw [hxy, decide_eq_true rfl, beq_self_eq_true]
    · rw [decide_eq_false hxy, beq_eq_false_iff_ne]
      intro e
      rw [Lib.toList_data, Lib.toList_data] at e
      obtain ⟨⟨a⟩⟩ := x
      obtain ⟨⟨b⟩⟩ := y
      simp only at e
      exact hxy (by rw [e])


  refine ⟨_, results_tmp rfl _ _ _, ?_, rfl⟩
  exact congrArg (fun q => Ending.returned (.bool q)) he

theorem break_rawS (w : World) (b : Nat) {v : Value} (c3 : w.cell? ⟨b, 3, none⟩ = some v) (f3 : w.frozen? ⟨b, 3, none⟩ = false) :
    Calls Try.prog 29 #[.pointer (some ⟨b, 0, none⟩)] w fun e w' => e = .returned (.tuple #[]) ∧ w' = w.setCell ⟨b, 3, none⟩ (.int .i64 0) := by
  go_enter Try.func29, Try.ntmps29
  go_wp2
  go_end0
  exact ⟨rfl, rfl⟩
set_option maxHeartbeats 1000000 in
theorem stand_outS (w : World) (R : Nat → Prop) (b : Nat) (s : LS ByteArray) (h : LogS w R b s) (n : Int) (hn : n < 0 ∨ ((s.back.length + 1 + s.forth.length : Nat) : Int) ≤ n) :
    Calls Try.prog 30 #[.pointer (some ⟨b, 0, none⟩), .int .i64 n] w fun e w' => e = .returned (.tuple #[Value.string s.now, .bool false]) ∧ Below w.heap.size w w' := by
  obtain ⟨g, o, c, hb, hr, hg, hc, h3, h4⟩ := h.open_
  have c1 := hb.c 1 rfl
  have Hn := Lib.hid (now_callsUS w R b s h)
  clear hb hc h
  generalize s.back.length + 1 + s.forth.length = m at *
  generalize s.now = x at *
  by_cases hz : n < 0
  · have hz1 : decide (n < 0) = true := decide_eq_true hz
    clear hn
    go_enter Try.func30, Try.ntmps30
    go_wp2_with fail
    refine Hn.out.mono ?_
    rintro e w2 ⟨rfl, hb2⟩
    have HB := Lib.hid hb2
    clear hb2 Hn
    go_wp2
    go_ret2
    exact ⟨rfl, HB.out⟩
  · have hz1 : decide (n < 0) = false := decide_eq_false hz
    have hn' : (m : Int) ≤ n := by omega
    have hz2 : decide ((m : Int) ≤ n) = true := decide_eq_true hn'
    clear hn
    go_enter Try.func30, Try.ntmps30
    go_wp2_with fail
    refine Hn.out.mono ?_
    rintro e w2 ⟨rfl, hb2⟩
    have HB := Lib.hid hb2
    clear hb2 Hn
    go_wp2
    go_ret2
    exact ⟨rfl, HB.out⟩
set_option maxHeartbeats 1000000 in
theorem stand_inS (w : World) (R : Nat → Prop) (b : Nat) (s s' : LS ByteArray) (h : LogS w R b s) (hok : s'.Ok) (hrw : rowL s' = rowL s) (hlm : s'.lim = s.lim) (hop : s'.opn = 0) :
    Calls Try.prog 30 #[.pointer (some ⟨b, 0, none⟩), .int .i64 (s'.back.length : Int)] w fun e w' => e = .returned (.tuple #[Value.string s'.now, .bool true]) ∧ ToBS w R w' b s' := by
  obtain ⟨g, o, c, hb, hr, hg, hc, h3, h4⟩ := h.open_
  have c1 := hb.c 1 rfl
  have c2 := hb.c 2 rfl
  have c3 := hb.c 3 rfl
  have f2 := hb.free 2
  have f3 := hb.free 3
  have hln := congrArg List.length hrw
  rw [rowL_length, rowL_length] at hln
  have hp := log_place h hok hrw hlm
  rw [hop] at hp
  have hz1 : decide ((s'.back.length : Int) < 0) = false := decide_eq_false (by omega)
  have hz0 : ¬ ((s'.back.length : Int) < 0) := by omega
  have hz2 : decide (((s.back.length + 1 + s.forth.length : Nat) : Int) ≤ (s'.back.length : Int)) = false := decide_eq_false (by omega)
  have hz3 : ¬ (((s.back.length + 1 + s.forth.length : Nat) : Int) ≤ (s'.back.length : Int)) := by omega
  clear hln hc
  generalize s.back.length + 1 + s.forth.length = m at *
  obtain ⟨W2, hW2⟩ : ∃ W2, (w.setCell ⟨b, 2, none⟩ (.int .i64 (s'.back.length : Int))).setCell ⟨b, 3, none⟩ (.int .i64 0) = W2 := ⟨_, rfl⟩
  have Hb := Lib.hid (break_rawS (w.setCell ⟨b, 2, none⟩ (.int .i64 (s'.back.length : Int))) b (v := .int .i64 s.opn) ((World.cell?_setCell_other _ _ _ _ (by simp)).trans c3) ((World.frozen?_setCell ..).trans f3))
  rw [hW2] at hp Hb
  have Hn := Lib.hid (now_callsUS W2 R b s' hp.1)
  have HP := Lib.hid hp
  clear hb h hp hrw hlm hop hok
  generalize (s'.back.length : Int) = k at *
  generalize s'.now = x at *
  go_enter Try.func30, Try.ntmps30
  go_wp2_with fail
  refine Hb.out.mono ?_
  rintro e w2 ⟨rfl, rfl⟩
  clear Hb hW2
  go_wp2_with fail
  refine Hn.out.mono ?_
  rintro e w3 ⟨rfl, hb3⟩
  have HT : Hid (ToBS w R w3 b s') := Lib.hid (ToB.below objS ⟨R, HP.out.1, HP.out.2, fun _ h => .inl h⟩ hb3)
  clear hb3 Hn
  go_wp2
  go_ret2
  exact ⟨rfl, HT.out⟩
set_option maxHeartbeats 1000000 in
theorem undo_callsBS (w : World) (R : Nat → Prop) (b : Nat) (s : LS ByteArray) (h : LogS w R b s) :
    Calls Try.prog 17 #[.pointer (some ⟨b, 0, none⟩)] w fun e w' => e = .returned (.tuple #[Value.string s.undo.now, .bool (decide (s.back ≠ []))]) ∧ ToBS w R w' b s.undo := by
  obtain ⟨g, o, c, hb, hr, hg, hc, h3, h4⟩ := h.open_
  have c2 := hb.c 2 rfl
  have hln := h.ok.len
  have hle := h.ok.le
  have hw1 : IntKind.i64.wrap ((s.back.length : Int) - 1) = (s.back.length : Int) - 1 := IntWalk.i64_in _ (by omega)
  have Hs : Hid (Calls Try.prog 30 #[.pointer (some ⟨b, 0, none⟩), .int .i64 ((s.back.length : Int) - 1)] w fun e w' => e = .returned (.tuple #[Value.string s.undo.now, .bool (decide (s.back ≠ []))]) ∧ ToBS w R w' b s.undo) := Lib.hid (by
    by_cases hbk : s.back = []
    · rw [show s.undo = s by unfold LS.undo; rw [if_pos hbk], show decide (s.back ≠ []) = false from decide_eq_false (fun h => h hbk)]
      refine (stand_outS w R b s h _ (.inl (by rw [hbk]; decide))).mono ?_
      rintro e w' ⟨rfl, hb'⟩
      exact ⟨rfl, ToB.of_below objS h hb'⟩
    · obtain ⟨hrw, hbl, hlm, hop⟩ := rowL_undo hbk
      have hpos : 0 < s.back.length := List.length_pos_iff.2 hbk
      rw [show decide (s.back ≠ []) = true from decide_eq_true hbk, show (s.back.length : Int) - 1 = (s.undo.back.length : Int) by omega]
      exact stand_inS w R b s s.undo h h.ok.undo hrw hlm hop)
  clear hb hc h
  generalize s.undo.now = x at *
  generalize decide (s.back ≠ []) = q at *
  generalize (s.back.length : Int) = k at *
  go_enter Try.func17, Try.ntmps17
  go_wp2_with fail
  refine Hs.out.mono ?_
  rintro e w2 ⟨rfl, ht⟩
  have HT := Lib.hid ht
  clear ht Hs
  go_wp2
  go_ret2
  exact ⟨rfl, HT.out⟩
set_option maxHeartbeats 1000000 in
theorem redo_callsBS (w : World) (R : Nat → Prop) (b : Nat) (s : LS ByteArray) (h : LogS w R b s) :
    Calls Try.prog 18 #[.pointer (some ⟨b, 0, none⟩)] w fun e w' => e = .returned (.tuple #[Value.string s.redo.now, .bool (decide (s.forth ≠ []))]) ∧ ToBS w R w' b s.redo := by
  obtain ⟨g, o, c, hb, hr, hg, hc, h3, h4⟩ := h.open_
  have c2 := hb.c 2 rfl
  have hln := h.ok.len
  have hle := h.ok.le
  have hw1 : IntKind.i64.wrap ((s.back.length : Int) + 1) = (s.back.length : Int) + 1 := IntWalk.i64_in _ (by omega)
  have Hs : Hid (Calls Try.prog 30 #[.pointer (some ⟨b, 0, none⟩), .int .i64 ((s.back.length : Int) + 1)] w fun e w' => e = .returned (.tuple #[Value.string s.redo.now, .bool (decide (s.forth ≠ []))]) ∧ ToBS w R w' b s.redo) := Lib.hid (by
    by_cases hbk : s.forth = []
    · have hf0 : s.forth.length = 0 := by rw [hbk]; rfl
      rw [show s.redo = s by unfold LS.redo; rw [if_pos hbk], show decide (s.forth ≠ []) = false from decide_eq_false (fun h => h hbk)]
      refine (stand_outS w R b s h _ (.inr (by omega))).mono ?_
      rintro e w' ⟨rfl, hb'⟩
      exact ⟨rfl, ToB.of_below objS h hb'⟩
    · obtain ⟨hrw, hbl, hlm, hop⟩ := rowL_redo hbk
      rw [show decide (s.forth ≠ []) = true from decide_eq_true hbk, show (s.back.length : Int) + 1 = (s.redo.back.length : Int) by omega]
      exact stand_inS w R b s s.redo h h.ok.redo hrw hlm hop)
  clear hb hc h
  generalize s.redo.now = x at *
  generalize decide (s.forth ≠ []) = q at *
  generalize (s.back.length : Int) = k at *
  go_enter Try.func18, Try.ntmps18
  go_wp2_with fail
  refine Hs.out.mono ?_
  rintro e w2 ⟨rfl, ht⟩
  have HT := Lib.hid ht
  clear ht Hs
  go_wp2
  go_ret2
  exact ⟨rfl, HT.out⟩
set_option maxHeartbeats 1000000 in
theorem new_callsUS (x : ByteArray) (n : Int) (w : World) :
    Calls Try.prog 11 #[Value.string x, .int .i64 n] w fun e w' => ∃ b, e = .returned (.pointer (some ⟨b, 0, none⟩)) ∧ InUS w w' b (LS.new x n) := by
  have hl : min (max n 1) 256 = (limL n : Int) := by unfold limL; omega
  obtain ⟨W, hW⟩ : ∃ W, (w.alloc (.cells #[Value.string x] 9)).alloc (.cells #[.int .i64 (limL n : Int), .slice (some ⟨w.heap.size, 0, none⟩) 1 1, .int .i64 0, .int .i64 0] 56) = W := ⟨_, rfl⟩
  have hin : InUS w W (w.heap.size + 1) (LS.new x n) := by
    have hB : Below w.heap.size w W := by rw [← hW]; exact ((Below.refl _ w).alloc (Nat.le_refl _) _).alloc (by simp) _
    have hz : W.heap.size = w.heap.size + 2 := by rw [← hW]; simp
    have hx : Boxed W w.heap.size 9 (Value.string x) := by rw [← hW]; exact (Boxed.new w _ _).alloc _
    have hbx : BxA W (w.heap.size + 1) 56 [.int .i64 (limL n : Int), .slice (some ⟨w.heap.size, 0, none⟩) 1 1, .int .i64 0, .int .i64 0] := by
      have := BxA.new (w.alloc (.cells #[Value.string x] 9)) 56 [.int .i64 (limL n : Int), .slice (some ⟨w.heap.size, 0, none⟩) 1 1, .int .i64 0, .int .i64 0]
      rw [World.size_alloc] at this
      rw [← hW]; exact this
    refine ⟨fun k => k = w.heap.size ∨ k = w.heap.size + 1, ⟨LS.Ok.new x n, .inr rfl, fun k hk => by rcases hk with h | h <;> omega, some ⟨w.heap.size, 0, none⟩, 1, hbx, fun _ => ⟨w.heap.size, 0, rfl, ⟨.inl rfl, by omega⟩, by omega, fun i y hi => ?_⟩, Nat.le_refl _, by unfold maxLen; omega⟩, fun k hk => by rcases hk with h | h <;> omega, hB⟩
    cases i with
    | zero =>
      have : x = y := by simpa [rowL, LS.new] using hi
      subst this
      exact ⟨hx.cell, hx.frozen⟩
    | succ i => simp [rowL, LS.new] at hi
  have HIN := Lib.hid hin
  clear hin
  go_enter Try.func11, Try.ntmps11
  go_wp2
  go_ret
  exact ⟨_, rfl, HIN.out⟩

theorem infoUS : (Try.prog.info? 9).map (fun i => (i.zero, i.size, i.bytes)) = some (some (.string ⟨#[]⟩), 1, 16) := by kernel_rfl
/-- Where what is kept begins and ends. -/
theorem put_cutS {s : LS ByteArray} (h : s.Ok) (x : ByteArray) (g : Int) (E : Nat) (hE : E = if g ≤ 0 ∨ g ≠ s.opn then s.back.length + 1 else s.back.length) : ((rowL s).take E).drop (E - s.lim) = (s.put x g).back ∧ (s.put x g).back.length = E - (E - s.lim) ∧ E - (E - s.lim) ≤ s.lim ∧ E ≤ s.back.length + 1 := by
  have hl := h.len
  have h1 : ((rowL s).take E).drop (E - s.lim) = (s.put x g).back := by
    show _ = if g ≤ 0 ∨ g ≠ s.opn then lastN s.lim (s.back ++ [s.now]) else s.back
    split at hE
    · subst hE
      rw [if_pos ‹_›, rowL_cut]
      unfold lastN
      simp
    · subst hE
      rw [if_neg ‹_›, show s.back.length - s.lim = 0 by omega, List.drop_zero]
      unfold rowL
      exact List.take_left
  have h2 : E ≤ s.back.length + 1 := by
    rw [hE]
    split <;> omega
  refine ⟨h1, ?_, by omega, h2⟩
  rw [← h1, List.length_drop, List.length_take, rowL_length]
  omega
set_option maxHeartbeats 2000000 in
theorem do_callsBS (w : World) (R : Nat → Prop) (b : Nat) (s : LS ByteArray) (h : LogS w R b s) (x : ByteArray) (gr : Int) :
    Calls Try.prog 20 #[.pointer (some ⟨b, 0, none⟩), Value.string x, .int .i64 gr] w fun e w' => e = .returned (.bool (decide (x ≠ s.now))) ∧ ToBS w R w' b (s.does x gr) := by
  by_cases hx : x = s.now
  · rw [show decide (x ≠ s.now) = false from decide_eq_false (fun h => h hx), show s.does x gr = s by unfold LS.does; rw [if_pos hx]]
    have Hn := Lib.hid (now_callsUS w R b s h)
    have HR := Lib.hid h
    clear h
    generalize s.now = y at *
    go_enter Try.func20, Try.ntmps20
    go_wp2_with fail
    refine Hn.out.mono ?_
    rintro e w2 ⟨rfl, hb2⟩
    have HT : Hid (ToBS w R w2 b s) := Lib.hid (ToB.of_below objS HR.out hb2)
    have Hs := Lib.hid (same_callsUS x y w2)
    rw [decide_eq_true hx] at Hs
    clear hb2 Hn hx
    go_wp2_with fail
    refine Hs.out.mono ?_
    rintro e w3 ⟨rfl, rfl⟩
    clear Hs
    go_wp2
    go_ret
    exact ⟨rfl, HT.out⟩
  · rw [show decide (x ≠ s.now) = true from decide_eq_true hx, show s.does x gr = s.put x gr by unfold LS.does; rw [if_neg hx]]
    obtain ⟨i0, hi, hz0, hz1, hz2⟩ := info_parts infoUS
    obtain ⟨E, hE⟩ : ∃ E : Nat, E = if gr ≤ 0 ∨ gr ≠ s.opn then s.back.length + 1 else s.back.length := ⟨_, rfl⟩
    obtain ⟨hcut, hlen, hsmall, hEn⟩ := put_cutS h.ok x gr E hE
    obtain ⟨F, hF⟩ : ∃ F, E - s.lim = F := ⟨_, rfl⟩
    rw [hF] at hcut hlen hsmall
    have hle := h.ok.le
    have hln := h.ok.len
    have hok := h.ok.put x gr
    have Hn := Lib.hid (now_callsUS w R b s h)
    have HR := Lib.hid h
    clear h
    go_enter Try.func20, Try.ntmps20
    go_wp2_with fail
    refine Hn.out.mono ?_
    rintro e w2 ⟨rfl, hb2⟩
    have h2 := objS.below HR.out hb2
    obtain ⟨g, o, c, hb, hr, hg, hc, h3, h4⟩ := h2.open_
    obtain ⟨o', hif, ho'⟩ : ∃ o', (if E = F then some (⟨g, o, none⟩ : Addr) else some ⟨g, o + F, none⟩) = some ⟨g, o', none⟩ ∧ (E ≠ F → o' = o + F) := by
      by_cases he : E = F
      · exact ⟨o, if_pos he, fun hn => absurd he hn⟩
      · exact ⟨o + F, if_neg he, fun _ => rfl⟩
    have hrd : RdV (Value.string) w2 (some ⟨g, o', none⟩) (s.put x gr).back := by
      have hrow : RowW (Value.string) w2 R (some ⟨g, o, none⟩) (rowL s) := fun _ => ⟨g, o, rfl, hr.1, hg, hc⟩
      by_cases he : E = F
      · exact fun hn => by omega
      · rw [← hcut, ho' he]
        exact ((hrow.take E).drop F).rd
    clear ho'
    have Hs := Lib.hid (same_callsUS x s.now w2)
    rw [decide_eq_false hx] at Hs
    clear hx hcut
    have hB1 : Below w2.heap.size w2 (w2.alloc (.cells #[Value.string x] 9)) := (Below.refl _ w2).alloc (Nat.le_refl _) _
    obtain ⟨c', w4, hrun, hown, hb4, hs4⟩ := run_append_full (P := Try.prog) (V := Value.string) (w2.alloc (.cells #[Value.string x] 9)) 27 27 9 i0 (.string ⟨#[]⟩) 16 Try.underlying27 hi hz0 hz1 hz2 rfl (by decide) g o' (E - F) (s.put x gr).back (hrd.below hB1) (some ⟨w2.heap.size, 0, none⟩) 1 [x] (by simp) (by
      intro _
      exact ⟨w2.heap.size, 0, rfl, by simp, fun i y hi => by
        cases i with
        | zero =>
          have : x = y := by simpa using hi
          subst this
          exact (Boxed.new w2 _ _).cell
        | succ i => simp at hi⟩) (by rw [hlen]; simp) (by rw [hlen]; simp; omega)
    rw [hlen, World.size_alloc, show [x].length = 1 from rfl] at hrun hown
    clear hrd hr hg hc
    have c0 := hb.c 0 rfl
    have c1 := hb.c 1 rfl
    have c2 := hb.c 2 rfl
    have c3 := hb.c 3 rfl
    have hb4' : Below w2.heap.size w2 w4 := hB1.trans (hb4.mono hB1.size)
    have hB := hb.below hb4'
    have d1 := hB.c 1 rfl
    have d2 := hB.c 2 rfl
    have d3 := hB.c 3 rfl
    have f1 := hB.free 1
    have f2 := hB.free 2
    have f3 := hB.free 3
    obtain ⟨Wf, hWf⟩ : ∃ Wf, ((w4.setCell ⟨b, 1, none⟩ (.slice (some ⟨w2.heap.size + 1, 0, none⟩) (E - F + 1) c')).setCell ⟨b, 2, none⟩ (.int .i64 ((E - F : Nat) : Int))).setCell ⟨b, 3, none⟩ (.int .i64 (s.put x gr).opn) = Wf := ⟨_, rfl⟩
    have hfin : ToBS w R Wf b (s.put x gr) := by
      have hrl : rowL (s.put x gr) = (s.put x gr).back ++ [x] := rfl
      have hll : (rowL (s.put x gr)).length = E - F + 1 := by rw [hrl, List.length_append, hlen]; rfl
      refine log_built (N := w2.heap.size + 1) (ty := 9) (A := some ⟨w2.heap.size + 1, 0, none⟩) (c := c') HR.out hok (hb2.trans (hb4'.mono hb2.size)) (w2 := w4) (((Only.refl (fun k => k = b) w4).set (p := ⟨b, 1, none⟩) (.inl rfl) _).set (p := ⟨b, 2, none⟩) (.inl rfl) _ |>.set (p := ⟨b, 3, none⟩) (.inl rfl) _ |> fun ho => by rw [hWf] at ho; exact ho) (by have := hb2.size; omega) ?_ ?_
      · rw [← hWf, hll, hlen]
        exact ((hB.set 1 _).set 2 _).set 3 _
      · rw [hll, hrl]
        simpa using hown
    have HF := Lib.hid hfin
    have Hrun := Lib.hid hrun
    have HWf := Lib.hid hWf
    clear hfin hrun hWf hown hb4 hb4' hB hb2 hs4 hB1 Hn hok hlen hb HR h2 hi hz0 hz1 hz2
    have hEFm : F ≤ E := by omega
    have hopn : max gr 0 = (s.put x gr).opn := by show max gr 0 = (if 0 < gr then gr else 0); split <;> omega
    have hwE : IntKind.i64.wrap ((s.back.length : Int) + 1) = ((s.back.length + 1 : Nat) : Int) := by rw [IntWalk.i64_in _ (by omega)]; omega
    have hwF : IntKind.i64.wrap ((E : Int) - (s.lim : Int)) = (E : Int) - (s.lim : Int) := IntWalk.i64_in _ (by omega)
    have hmF : max ((E : Int) - (s.lim : Int)) 0 = (F : Int) := by omega
    have hwA : IntKind.i64.wrap ((E : Int) - (F : Int)) = ((E - F : Nat) : Int) := by rw [IntWalk.i64_in _ (by omega)]; omega
    have hEm : E ≤ c := by omega
    have hFE : (F : Int) ≤ (E : Int) := by omega
    have hEc : (E : Int) ≤ (c : Int) := by omega
    rw [← hopn] at HWf
    by_cases hgr : 0 < gr
    · have hgd : decide (0 < gr) = true := decide_eq_true hgr
      by_cases hgo : gr = s.opn
      · have hge : (gr == s.opn) = true := beq_iff_eq.2 hgo
        rw [if_neg (by omega)] at hE
        obtain ⟨nb0, hnb0⟩ : ∃ nb0 : Int, nb0 = (s.back.length : Int) := ⟨_, rfl⟩
        have hE2 : (s.back.length : Int) = (E : Int) := by omega
        rw [hE2] at c2 d2 hwE
        clear hgo hnb0 nb0 hE2
        clear hE hln hle hsmall hEn hF h3 h4 hopn
        generalize s.back.length + 1 + s.forth.length = m at *
        generalize s.now = y at *
        generalize s.opn = op at *
        generalize s.lim = lm at *
        go_wp2_with fail
        refine Hs.out.mono ?_
        rintro e w3 ⟨rfl, rfl⟩
        clear Hs
        go_wp2_with (at_builtin; refine wpList_append_g (o := ⟨some 50, _, _, _, _, _⟩) (by kernel_rfl) (.tmp 47) (.tmp 49) 27 rfl _ _ rfl rfl Hrun.out ?_)
        go_ret
        exact ⟨rfl, by rw [HWf.out]; exact HF.out⟩
      · have hge : (gr == s.opn) = false := beq_eq_false_iff_ne.2 hgo
        rw [if_pos (by omega)] at hE
        rw [← hE] at hwE
        clear hgo
        clear hE hln hle hsmall hEn hF h3 h4 hopn
        generalize s.back.length + 1 + s.forth.length = m at *
        generalize (s.back.length : Int) = nb at *
        generalize s.now = y at *
        generalize s.opn = op at *
        generalize s.lim = lm at *
        go_wp2_with fail
        refine Hs.out.mono ?_
        rintro e w3 ⟨rfl, rfl⟩
        clear Hs
        go_wp2_with (at_builtin; refine wpList_append_g (o := ⟨some 50, _, _, _, _, _⟩) (by kernel_rfl) (.tmp 47) (.tmp 49) 27 rfl _ _ rfl rfl Hrun.out ?_)
        go_ret
        exact ⟨rfl, by rw [HWf.out]; exact HF.out⟩
    · rw [if_pos (by omega)] at hE
      have hgd : decide (0 < gr) = false := decide_eq_false hgr
      rw [← hE] at hwE
      clear hE hln hle hsmall hEn hF h3 h4 hopn
      generalize s.back.length + 1 + s.forth.length = m at *
      generalize (s.back.length : Int) = nb at *
      generalize s.now = y at *
      generalize s.opn = op at *
      generalize s.lim = lm at *
      go_wp2_with fail
      refine Hs.out.mono ?_
      rintro e w3 ⟨rfl, rfl⟩
      clear Hs
      go_wp2_with (at_builtin; refine wpList_append_g (o := ⟨some 50, _, _, _, _, _⟩) (by kernel_rfl) (.tmp 47) (.tmp 49) 27 rfl _ _ rfl rfl Hrun.out ?_)
      go_ret
      exact ⟨rfl, by rw [HWf.out]; exact HF.out⟩

set_option maxHeartbeats 2000000 in
theorem break_callsBS (w : World) (R : Nat → Prop) (b : Nat) (s : LS ByteArray) (h : LogS w R b s) :
    Calls Try.prog 29 #[.pointer (some ⟨b, 0, none⟩)] w fun e w' => e = .returned (.tuple #[]) ∧ ToBS w R w' b s.brk := by
  obtain ⟨g, o, c, hb, hr, hg, hc, h3, h4⟩ := h.open_
  have hp := log_group h h.ok.brk (s' := s.brk) rfl rfl rfl
  refine (break_rawS w b (hb.c 3 rfl) (hb.free 3)).mono ?_
  rintro e w' ⟨rfl, rfl⟩
  exact ⟨rfl, R, hp.1, hp.2, fun _ h => .inl h⟩

theorem move_runsS (W : World) {R : Nat → Prop} (g o : Nat) (s : LS ByteArray) (hok : s.Ok) (hrow : RowW (Value.string) W R (some ⟨g, o, none⟩) (rowL s)) (x : ByteArray) (ob cc : Nat) (hob : s.forth ≠ [] → ob = o + (s.back.length + 1)) :
    ∃ c1 w4 A' c' w5, (Builtin.append_ #[27, 27] 27 #[.slice (some ⟨g, o, none⟩) s.back.length s.back.length, .slice (some ⟨W.heap.size, 0, none⟩) 1 1]).run Try.prog (W.alloc (.cells #[Value.string x] 9)) = .ok (.slice (some ⟨W.heap.size + 1, 0, none⟩) (s.back.length + 1) c1) w4 ∧ Below W.heap.size W w4 ∧
      (Builtin.append_ #[27, 27] 27 #[.slice (some ⟨W.heap.size + 1, 0, none⟩) (s.back.length + 1) c1, .slice (some ⟨g, ob, none⟩) s.forth.length cc]).run Try.prog w4 = .ok (.slice A' (s.back.length + 1 + s.forth.length) c') w5 ∧ Below W.heap.size W w5 ∧
      w5.ownsRow (W.heap.size + 1) 9 1 (.slice A' (rowL (s.move x)).length c') (rowL (s.move x)).length ((rowL (s.move x)).map (Value.string)) := by
  obtain ⟨i0, hi, hz0, hz1, hz2⟩ := info_parts infoUS
  have hln := hok.len
  have hle := hok.le
  have hB1 : Below W.heap.size W (W.alloc (.cells #[Value.string x] 9)) := (Below.refl _ W).alloc (Nat.le_refl _) _
  have hback : RdV (Value.string) W (some ⟨g, o, none⟩) s.back := by
    have := (hrow.take s.back.length).rd
    rwa [show (rowL s).take s.back.length = s.back from List.take_left] at this
  have hforth : RdV (Value.string) W (some ⟨g, ob, none⟩) s.forth.reverse := fun hn => by
    have hf : s.forth ≠ [] := fun e => by rw [e] at hn; exact absurd hn (Nat.lt_irrefl 0)
    have h1 := (hrow.drop (s.back.length + 1)).rd
    rw [← hob hf, show (rowL s).drop (s.back.length + 1) = s.forth.reverse by unfold rowL; rw [List.drop_append, List.drop_of_length_le (by omega), show s.back.length + 1 - s.back.length = 1 by omega]; rfl] at h1
    exact h1 hn
  obtain ⟨c1, w4, hrun, hown, hb4, hs4⟩ := run_append_full (P := Try.prog) (V := Value.string) (W.alloc (.cells #[Value.string x] 9)) 27 27 9 i0 (.string ⟨#[]⟩) 16 Try.underlying27 hi hz0 hz1 hz2 rfl (by decide) g o s.back.length s.back (hback.below hB1) (some ⟨W.heap.size, 0, none⟩) 1 [x] (by simp) (by
      intro _
      exact ⟨W.heap.size, 0, rfl, by simp, fun i y hi => by
        cases i with
        | zero =>
          have : x = y := by simpa using hi
          subst this
          exact (Boxed.new W _ _).cell
        | succ i => simp at hi⟩) (by simp) (by simp; omega)
  rw [World.size_alloc, show [x].length = 1 from rfl] at hrun hown
  have hb4' : Below W.heap.size W w4 := hB1.trans (hb4.mono hB1.size)
  obtain ⟨v', w5, hr2, ho2, hg2, hat⟩ := run_append_V (P := Try.prog) (V := Value.string) (fun _ => rfl) w4 (W.heap.size + 1) 27 27 9 i0 (.string ⟨#[]⟩) 16 Try.underlying27 hi hz0 hz1 hz2 rfl (by decide)
    (.slice (some ⟨W.heap.size + 1, 0, none⟩) (s.back.length + 1) c1) (s.back.length + 1) (s.back ++ [x]) (by simp) hown (some ⟨g, ob, none⟩) s.forth.length cc s.forth.reverse (by simp) (fun e => by cases e) (hforth.below hb4') (by simp; omega) (by rw [hs4, World.size_alloc]; omega)
  obtain ⟨A', c', rfl⟩ := own_form ho2
  have hrl : s.back ++ [x] ++ s.forth.reverse = rowL (s.move x) := by simp [rowL, LS.move]
  have hll : (rowL (s.move x)).length = s.back.length + 1 + s.forth.length := by rw [rowL_length]; rfl
  refine ⟨c1, w4, A', c', w5, hrun, hb4', hr2, hb4'.grown hg2 hb4'.size (fun k e => ?_), ?_⟩
  · injection e with e
    subst e
    exact Nat.le_succ _
  · rw [hll, ← hrl]
    exact ho2
set_option maxHeartbeats 2000000 in
theorem move_callsBS (w : World) (R : Nat → Prop) (b : Nat) (s : LS ByteArray) (h : LogS w R b s) (x : ByteArray) :
    Calls Try.prog 27 #[.pointer (some ⟨b, 0, none⟩), Value.string x] w fun e w' => e = .returned (.tuple #[]) ∧ ToBS w R w' b (s.move x) := by
  obtain ⟨g, o, c, hb, hr, hg, hc, h3, h4⟩ := h.open_
  have hln := h.ok.len
  have hle := h.ok.le
  have c1 := hb.c 1 rfl
  have c2 := hb.c 2 rfl
  have hw1 : IntKind.i64.wrap ((s.back.length : Int) + 1) = ((s.back.length + 1 : Nat) : Int) := by rw [IntWalk.i64_in _ (by omega)]; omega
  have hnm : s.back.length + 1 ≤ s.back.length + 1 + s.forth.length := by omega
  have hnmi : ((s.back.length + 1 : Nat) : Int) ≤ ((s.back.length + 1 + s.forth.length : Nat) : Int) := by omega
  obtain ⟨ob, hif, hob⟩ : ∃ ob, (if c = s.back.length + 1 then some (⟨g, o, none⟩ : Addr) else some ⟨g, o + (s.back.length + 1), none⟩) = some ⟨g, ob, none⟩ ∧ (s.forth ≠ [] → ob = o + (s.back.length + 1)) := by
    by_cases he : c = s.back.length + 1
    · refine ⟨o, if_pos he, fun hn => ?_⟩
      have := List.length_pos_iff.2 hn
      omega
    · exact ⟨o + (s.back.length + 1), if_neg he, fun _ => rfl⟩
  have hnc : s.back.length ≤ c := by omega
  have hnci : (s.back.length : Int) ≤ (c : Int) := by omega
  have HR := Lib.hid h
  have Hb := Lib.hid hb
  have hrow : RowW (Value.string) w R (some ⟨g, o, none⟩) (rowL s) := fun _ => ⟨g, o, rfl, hr.1, hg, hc⟩
  have hruns : ∀ nq, ∃ c1 w4 A' c' w5, _ := fun nq => move_runsS ((w.drewN nq).drew) g o s h.ok (hrow.below (w' := (w.drewN nq).drew) ⟨rfl, rfl, rfl, Nat.le_refl _, fun _ _ => rfl⟩) x ob (c - (s.back.length + 1)) hob
  have Hruns := Lib.hid hruns
  clear h hb hr hg hc hrow hruns hob
  go_enter Try.func27, Try.ntmps27
  go_wp2_with fail
  go_quiet (fail)
  go_wp2_with fail
  obtain ⟨q1, w4, A', c', w5, hr1, hb4, hr2, hb5, hown⟩ := Hruns.out nq
  obtain ⟨W, hW⟩ : ∃ W, (w.drewN nq).drew = W := ⟨_, rfl⟩
  rw [hW] at hr1 hb4 hr2 hb5 hown
  have hwW : Below w.heap.size w W := by rw [← hW]; exact ⟨rfl, rfl, rfl, Nat.le_refl _, fun _ _ => rfl⟩
  have hbW : BxA W b 56 [.int .i64 (s.lim : Int), .slice (some ⟨g, o, none⟩) (s.back.length + 1 + s.forth.length) c, .int .i64 (s.back.length : Int), .int .i64 s.opn] := Hb.out.below hwW
  have hbP := hbW.alloc (.cells #[Value.string x] 9)
  have hbX4 := hbW.below hb4
  have hbX5 := hbW.below hb5
  have cW1 := hbW.c 1 rfl
  have cW2 := hbW.c 2 rfl
  have cP1 := hbP.c 1 rfl
  have cP2 := hbP.c 2 rfl
  have cA1 := hbX4.c 1 rfl
  have cA2 := hbX4.c 2 rfl
  have cB1 := hbX5.c 1 rfl
  have cB2 := hbX5.c 2 rfl
  have fB1 := hbX5.free 1
  have hfin : ToBS w R (w5.setCell ⟨b, 1, none⟩ (.slice A' (s.back.length + 1 + s.forth.length) c')) b (s.move x) := by
    have hll : (rowL (s.move x)).length = s.back.length + 1 + s.forth.length := by rw [rowL_length]; rfl
    refine log_built HR.out (HR.out.ok.move x) (hwW.trans (hb5.mono hwW.size)) ((Only.refl (fun k => k = b) w5).set (p := ⟨b, 1, none⟩) (.inl rfl) _) (A := A') (c := c') (N := W.heap.size + 1) (ty := 9) (by have := hwW.size; omega) ?_ hown
    rw [hll]
    exact hbX5.set 1 _
  have HF := Lib.hid hfin
  have Hr1 := Lib.hid hr1
  have Hr2 := Lib.hid hr2
  clear hfin hr1 hr2 hown hbW hbP hbX4 hbX5 hb4 hb5 hwW Hruns HR Hb
  refine wp_region_last (S := (fun w' => w'.cell? ⟨b, 1, none⟩ = some (.slice (some ⟨g, o, none⟩) (s.back.length + 1 + s.forth.length) c) ∧ w'.cell? ⟨b, 2, none⟩ = some (.int .i64 (s.back.length : Int)))) 21 (by kernel_rfl) (by rw [hW]; exact ⟨cW1, cW2⟩) (fun hHeld => ?_)
  rw [hW] at hHeld ⊢
  clear hW
  refine lastAny_take (i := 0) (oi := ⟨some 15, _, _, _, _, _⟩) (v := ?_) rfl (by kernel_rfl) (by kernel_rfl) (by kernel_rfl) (by kernel_rfl) (fun _ _ _ h => h) (Or.inl ⟨by kernel_rfl, ?hy0⟩) (by assumption) ?_
  case hy0 => (intro w' hSw; (try dsimp only at hSw); go_simp; try with_reducible rfl)
  simp only [Act.put, List.setIfInBounds_toArray, List.set_cons_zero, List.set_cons_succ]
  refine lastAny_take (i := 1) (oi := ⟨some 16, _, _, _, _, _⟩) (v := ?_) rfl (by kernel_rfl) (by kernel_rfl) (by kernel_rfl) (by kernel_rfl) (fun _ _ _ h => h) (Or.inl ⟨by kernel_rfl, ?hy1⟩) (by assumption) ?_
  case hy1 => (intro w' hSw; (try dsimp only at hSw); go_simp; try with_reducible rfl)
  simp only [Act.put, List.setIfInBounds_toArray, List.set_cons_zero, List.set_cons_succ]
  refine lastAny_take (i := 2) (oi := ⟨some 17, _, _, _, _, _⟩) (v := ?_) rfl (by kernel_rfl) (by kernel_rfl) (by kernel_rfl) (by kernel_rfl) (fun _ _ _ h => h) (Or.inl ⟨by kernel_rfl, ?hy2⟩) (by assumption) ?_
  case hy2 => (intro w' hSw; (try dsimp only at hSw); go_simp; try with_reducible rfl)
  simp only [Act.put, List.setIfInBounds_toArray, List.set_cons_zero, List.set_cons_succ]
  refine lastAny_take (i := 3) (oi := ⟨some 18, _, _, _, _, _⟩) (v := ?_) rfl (by kernel_rfl) (by kernel_rfl) (by kernel_rfl) (by kernel_rfl) (fun _ _ _ h => h) (Or.inl ⟨by kernel_rfl, ?hy3⟩) (by assumption) ?_
  case hy3 => (intro w' hSw; (try dsimp only at hSw); go_simp; try with_reducible rfl)
  simp only [Act.put, List.setIfInBounds_toArray, List.set_cons_zero, List.set_cons_succ]
  refine lastAny_take (i := 4) (oi := ⟨some 19, _, _, _, _, _⟩) (v := ?_) rfl (by kernel_rfl) (by kernel_rfl) (by kernel_rfl) (by kernel_rfl) (fun _ _ _ h => h) (Or.inl ⟨by kernel_rfl, ?hy4⟩) (by assumption) ?_
  case hy4 => (intro w' hSw; (try dsimp only at hSw); go_simp; try with_reducible rfl)
  simp only [Act.put, List.setIfInBounds_toArray, List.set_cons_zero, List.set_cons_succ]
  refine lastAny_take (i := 5) (oi := ⟨some 20, _, _, _, _, _⟩) (v := ?_) rfl (by kernel_rfl) (by kernel_rfl) (by kernel_rfl) (by kernel_rfl) (fun _ _ _ h => h) (Or.inl ⟨by kernel_rfl, ?hy5⟩) (by assumption) ?_
  case hy5 => (intro w' hSw; (try dsimp only at hSw); go_simp; try with_reducible rfl)
  simp only [Act.put, List.setIfInBounds_toArray, List.set_cons_zero, List.set_cons_succ]
  refine lastAny_take (i := 6) (oi := ⟨some 21, _, _, _, _, _⟩) (v := ?_) rfl (by kernel_rfl) (by kernel_rfl) (by kernel_rfl) (by kernel_rfl) (fun _ _ _ h => h) (Or.inl ⟨by kernel_rfl, ?hy6⟩) (by assumption) ?_
  case hy6 => (intro w' hSw; (try dsimp only at hSw); go_simp; try with_reducible rfl)
  simp only [Act.put, List.setIfInBounds_toArray, List.set_cons_zero, List.set_cons_succ]
  refine lastAny_take (i := 7) (oi := ⟨some 22, _, _, _, _, _⟩) (v := ?_) rfl (by kernel_rfl) (by kernel_rfl) (by kernel_rfl) (by kernel_rfl) (fun _ _ _ h => h) (Or.inl ⟨by kernel_rfl, ?hy7⟩) (by assumption) ?_
  case hy7 => (intro w' hSw; (try dsimp only at hSw); go_simp; try with_reducible rfl)
  simp only [Act.put, List.setIfInBounds_toArray, List.set_cons_zero, List.set_cons_succ]
  refine lastAny_take (i := 8) (oi := ⟨some 23, _, _, _, _, _⟩) (v := ?_) rfl (by kernel_rfl) (by kernel_rfl) (by kernel_rfl) (by kernel_rfl) (fun _ _ _ h => h) (Or.inl ⟨by kernel_rfl, ?hy8⟩) (by assumption) ?_
  case hy8 => (intro w' hSw; (try dsimp only at hSw); go_simp; try with_reducible rfl)
  simp only [Act.put, List.setIfInBounds_toArray, List.set_cons_zero, List.set_cons_succ]
  refine lastAny_take (i := 9) (oi := ⟨some 24, _, _, _, _, _⟩) (v := ?_) rfl (by kernel_rfl) (by kernel_rfl) (by kernel_rfl) (by kernel_rfl) (fun _ _ _ h => h) (Or.inl ⟨by kernel_rfl, ?hy9⟩) (by assumption) ?_
  case hy9 => (intro w' hSw; (try dsimp only at hSw); go_simp; try with_reducible rfl)
  simp only [Act.put, List.setIfInBounds_toArray, List.set_cons_zero, List.set_cons_succ]
  refine lastAny_take (i := 10) (oi := ⟨some 25, _, _, _, _, _⟩) (v := ?_) rfl (by kernel_rfl) (by kernel_rfl) (by kernel_rfl) (by kernel_rfl) (fun _ _ _ h => h) (Or.inl ⟨by kernel_rfl, ?hy10⟩) (by assumption) ?_
  case hy10 => (intro w' hSw; (try dsimp only at hSw); go_simp; try with_reducible rfl)
  simp only [Act.put, List.setIfInBounds_toArray, List.set_cons_zero, List.set_cons_succ]
  refine lastAny_take (i := 11) (oi := ⟨some 26, _, _, _, _, _⟩) (v := ?_) rfl (by kernel_rfl) (by kernel_rfl) (by kernel_rfl) (by kernel_rfl) (fun _ _ _ h => h) (Or.inl ⟨by kernel_rfl, ?hy11⟩) (by assumption) ?_
  case hy11 => (intro w' hSw; (try dsimp only at hSw); go_simp; try with_reducible rfl)
  simp only [Act.put, List.setIfInBounds_toArray, List.set_cons_zero, List.set_cons_succ]
  refine lastAny_take (i := 12) (oi := ⟨some 27, _, _, _, _, _⟩) (v := ?_) rfl (by kernel_rfl) (by kernel_rfl) (by kernel_rfl) (by kernel_rfl) (fun _ _ _ h => h) (Or.inl ⟨by kernel_rfl, ?hy12⟩) (by assumption) ?_
  case hy12 => (intro w' hSw; (try dsimp only at hSw); go_simp; try with_reducible rfl)
  simp only [Act.put, List.setIfInBounds_toArray, List.set_cons_zero, List.set_cons_succ]
  refine lastAny_take (i := 13) (oi := ⟨some 28, _, _, _, _, _⟩) (v := ?_) rfl (by kernel_rfl) (by kernel_rfl) (by kernel_rfl) (by kernel_rfl) (fun _ _ _ h => h) (Or.inl ⟨by kernel_rfl, ?hy13⟩) (by assumption) ?_
  case hy13 => (intro w' hSw; (try dsimp only at hSw); go_simp; try with_reducible rfl)
  simp only [Act.put, List.setIfInBounds_toArray, List.set_cons_zero, List.set_cons_succ]
  refine lastAny_take (i := 14) (oi := ⟨some 29, _, _, _, _, _⟩) (v := ?_) rfl (by kernel_rfl) (by kernel_rfl) (by kernel_rfl) (by kernel_rfl) (fun _ _ _ h => h) (Or.inl ⟨by kernel_rfl, ?hy14⟩) (by assumption) ?_
  case hy14 => (intro w' hSw; (try dsimp only at hSw); go_simp; try with_reducible rfl)
  simp only [Act.put, List.setIfInBounds_toArray, List.set_cons_zero, List.set_cons_succ]
  refine lastAny_take (i := 17) (oi := ⟨some 32, _, _, _, _, _⟩) (v := ?_) rfl (by kernel_rfl) (by kernel_rfl) (by kernel_rfl) (by kernel_rfl) (fun _ _ _ h => h) (Or.inl ⟨by kernel_rfl, ?hy17⟩) (by assumption) ?_
  case hy17 => (intro w' hSw; (try dsimp only at hSw); go_simp; try with_reducible rfl)
  simp only [Act.put, List.setIfInBounds_toArray, List.set_cons_zero, List.set_cons_succ]
  refine lastAny_ready (rs := [15]) (by kernel_rfl) (by simp) ?_
  refine AllReadyL.cons (o := ⟨some 30, _, _, _, _, _⟩) rfl (fun K hK => ?_) AllReadyL.nil
  (rw [if_pos (by kernel_rfl)])
  go_simp
  refine hK.out _ _ ⟨cP1, cP2⟩ (fun hHeld => ?_)
  clear hK K
  refine lastAny_ready (rs := [16]) (by kernel_rfl) (by simp) ?_
  refine AllReadyL.cons (o := ⟨some 31, _, _, _, _, _⟩) rfl (fun K hK => ?_) AllReadyL.nil
  refine step_append_g (by kernel_rfl) (.tmp 28) (.tmp 30) 27 rfl _ _ rfl rfl Hr1.out ?_
  refine hK.out _ _ ⟨cA1, cA2⟩ (fun hHeld => ?_)
  clear hK K
  refine lastAny_ready (rs := [18]) (by kernel_rfl) (by simp) ?_
  refine AllReadyL.cons (o := ⟨some 33, _, _, _, _, _⟩) rfl (fun K hK => ?_) AllReadyL.nil
  refine step_append_g (by kernel_rfl) (.tmp 31) (.tmp 32) 27 rfl _ _ rfl rfl Hr2.out ?_
  refine hK.out _ _ ⟨cB1, cB2⟩ (fun hHeld => ?_)
  clear hK K
  refine lastAny_ready (rs := [19]) (by kernel_rfl) (by simp) ?_
  refine AllReadyL.cons (o := ⟨some 34, _, _, _, _, _⟩) rfl (fun K hK => ?_) AllReadyL.nil
  (rw [if_pos (by kernel_rfl)])
  go_simp
  refine hK.out _ _ ⟨cB1, cB2⟩ (fun hHeld => ?_)
  clear hK K
  refine lastAny_take (i := 20) (oi := ⟨some 35, _, _, _, _, _⟩) (v := ?_) rfl (by kernel_rfl) (by kernel_rfl) (by kernel_rfl) (by kernel_rfl) (fun _ _ _ h => h) (Or.inl ⟨by kernel_rfl, ?hy20⟩) (by assumption) ?_
  case hy20 => (intro w' hSw; (try dsimp only at hSw); go_simp; try with_reducible rfl)
  simp only [Act.put, List.setIfInBounds_toArray, List.set_cons_zero, List.set_cons_succ]
  refine lastAny_end (by kernel_rfl) rfl (by kernel_rfl) (by kernel_rfl) (fun K hK => ?_)
  go_simp
  refine hK.out _ _ ?_
  clear hK K
  go_end0
  exact ⟨rfl, HF.out⟩
set_option maxHeartbeats 2000000 in
theorem copy_callsBS (w : World) (R : Nat → Prop) (b : Nat) (s : LS ByteArray) (h : LogS w R b s) :
    Calls Try.prog 16 #[.pointer (some ⟨b, 0, none⟩)] w fun e w' => ∃ b', e = .returned (.pointer (some ⟨b', 0, none⟩)) ∧ CopL LogS w R b w' b' s := by
  obtain ⟨g, o, c, hb, hr, hg, hc, h3, h4⟩ := h.open_
  have c0 := hb.c 0 rfl
  have c1 := hb.c 1 rfl
  have c2 := hb.c 2 rfl
  have c3 := hb.c 3 rfl
  have HR := Lib.hid h
  have Hb := Lib.hid hb
  clear h hb hr hg hc
  go_enter Try.func16, Try.ntmps16
  go_wp2_with fail
  go_ret
  refine ⟨_, rfl, log_copied HR.out ((Below.refl _ w).alloc (Nat.le_refl _) _) (Nat.le_refl _) (fun A c' hx => ?_)⟩
  have e := (hx.c 1 rfl).symm.trans c1
  injection e with e
  injection e with e1 e2 e3
  subst e1; subst e3
  rw [e2]
  exact BxA.new w _ [_, _, _, _]


theorem do_callsUS (w : World) (R : Nat → Prop) (b : Nat) (s : LS ByteArray) (h : LogS w R b s) (x : ByteArray) (g : Int) :
    Calls Try.prog 20 #[.pointer (some ⟨b, 0, none⟩), Value.string x, .int .i64 g] w fun e w' => e = .returned (.bool (decide (x ≠ s.now))) ∧ ToUS w R w' b (s.does x g) :=
  (do_callsBS w R b s h x g).mono fun _ _ q => ⟨q.1, q.2.to h.ins⟩
theorem undo_callsUS (w : World) (R : Nat → Prop) (b : Nat) (s : LS ByteArray) (h : LogS w R b s) :
    Calls Try.prog 17 #[.pointer (some ⟨b, 0, none⟩)] w fun e w' => e = .returned (.tuple #[Value.string s.undo.now, .bool (decide (s.back ≠ []))]) ∧ ToUS w R w' b s.undo :=
  (undo_callsBS w R b s h).mono fun _ _ q => ⟨q.1, q.2.to h.ins⟩
theorem redo_callsUS (w : World) (R : Nat → Prop) (b : Nat) (s : LS ByteArray) (h : LogS w R b s) :
    Calls Try.prog 18 #[.pointer (some ⟨b, 0, none⟩)] w fun e w' => e = .returned (.tuple #[Value.string s.redo.now, .bool (decide (s.forth ≠ []))]) ∧ ToUS w R w' b s.redo :=
  (redo_callsBS w R b s h).mono fun _ _ q => ⟨q.1, q.2.to h.ins⟩

theorem break_callsUS (w : World) (R : Nat → Prop) (b : Nat) (s : LS ByteArray) (h : LogS w R b s) :
    Calls Try.prog 29 #[.pointer (some ⟨b, 0, none⟩)] w fun e w' => e = .returned (.tuple #[]) ∧ ToUS w R w' b s.brk :=
  (break_callsBS w R b s h).mono fun _ _ q => ⟨q.1, q.2.to h.ins⟩
theorem move_callsUS (w : World) (R : Nat → Prop) (b : Nat) (s : LS ByteArray) (h : LogS w R b s) (x : ByteArray) :
    Calls Try.prog 27 #[.pointer (some ⟨b, 0, none⟩), Value.string x] w fun e w' => e = .returned (.tuple #[]) ∧ ToUS w R w' b (s.move x) :=
  (move_callsBS w R b s h x).mono fun _ _ q => ⟨q.1, q.2.to h.ins⟩

end Go.Proofs.Ytgcafmofpflidaa
