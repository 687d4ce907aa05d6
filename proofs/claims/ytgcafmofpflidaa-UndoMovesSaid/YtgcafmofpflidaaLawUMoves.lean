/-
  The walk of UndoMoves.
-/
import Derived.Test.YtgcafmofpflidaaUStands
import Derived.Lib.MinMax
namespace Go.Proofs.Ytgcafmofpflidaa
open Go Go.RowKit
set_option maxRecDepth 100000

set_option maxHeartbeats 8000000 in
theorem umoves_calls (n : Int) (A : Option Addr) (c : Nat) (os : List OpU) (by_ : ByteArray) (w : World) (hO : RdU w A os) (hl : os.length ≤ 9223372036854775807) :
    Calls Try.prog 8 #[.int .i64 n, .slice A os.length c, .string by_] w fun e w' => e = .returned (.bool true) ∧ Below w.heap.size w w' := by
  have Hfew := Lib.hid (few6_calls A c os w hO hl)
  have HO := Lib.hid hO
  clear hO
  generalize hf0 : decide (os.length ≤ 400 ∧ totU os ≤ 8000) = q0 at *
  clear hf0
  cases q0 with
  | false =>
    go_enter Try.func8, Try.ntmps8
    go_wp2_with fail
    refine Hfew.out.mono ?_
    rintro e w1 ⟨rfl, hb1⟩
    have HB1 := Lib.hid hb1
    have Hal := Lib.hid (ualive_calls w1)
    clear hb1 Hfew
    go_wp2_with fail
    refine Hal.out.mono ?_
    rintro e w9 ⟨rfl, hb9⟩
    have HB9 := Lib.hid (HB1.out.trans (hb9.mono HB1.out.size))
    clear hb9 Hal
    go_wp2
    go_ret
    exact ⟨rfl, HB9.out⟩
  | true =>
    by_cases hby : 100 < by_.size
    · have hbg : decide (100 < (by_.size : Int)) = true := decide_eq_true (by omega)
      go_enter Try.func8, Try.ntmps8
      go_wp2_with fail
      refine Hfew.out.mono ?_
      rintro e w1 ⟨rfl, hb1⟩
      have HB1 := Lib.hid hb1
      have Hal := Lib.hid (ualive_calls w1)
      clear hb1 Hfew
      go_wp2_with fail
      refine Hal.out.mono ?_
      rintro e w9 ⟨rfl, hb9⟩
      have HB9 := Lib.hid (HB1.out.trans (hb9.mono HB1.out.size))
      clear hb9 Hal
      go_wp2
      go_ret
      exact ⟨rfl, HB9.out⟩
    have hbg : decide (100 < (by_.size : Int)) = false := decide_eq_false (by omega)
    go_enter Try.func8, Try.ntmps8
    go_wp2_with fail
    refine Hfew.out.mono ?_
    rintro e w1 ⟨rfl, hb1⟩
    have HB1 := Lib.hid hb1
    clear hb1 Hfew
    go_wp2_with fail
    refine (new_callsUS ⟨#[]⟩ n w1).mono ?_
    rintro e w2 ⟨b0, rfl, h2⟩
    have H2 : Hid (InUS w w2 b0 (LS.new ⟨#[]⟩ n)) := Lib.hid (by
      obtain ⟨R, a1, a2, a3⟩ := h2
      exact ⟨R, a1, fun k hk => Nat.le_trans HB1.out.size (a2 k hk), HB1.out.trans (a3.mono HB1.out.size)⟩)
    clear h2
    have Hrn := Lib.hid (rnew6_calls ⟨#[]⟩ n w2)
    go_wp2_with fail
    refine Hrn.out.mono ?_
    rintro e w3 ⟨rfl, hb3⟩
    have hp0 : PairU w _ w3.heap.size b0 none 0 none 0 _ _ _ := PairU.start (w := w) (W := w2) (W2 := w3) H2.out hb3 H2.out.bel.size
    have Hp0 : Hid (PairU w (w3.alloc (.cells #[.int .i64 ((LS.new ⟨#[]⟩ n : LS ByteArray).lim : Int), .slice none (LS.new ⟨#[]⟩ n : LS ByteArray).back.length 0, .string (LS.new ⟨#[]⟩ n : LS ByteArray).now, .slice none (LS.new ⟨#[]⟩ n : LS ByteArray).forth.length 0, .int .i64 (LS.new ⟨#[]⟩ n : LS ByteArray).opn] 29)) w3.heap.size b0 none 0 none 0 (runU (LS.new ⟨#[]⟩ n) (os.take 0)) (runU (LS.new ⟨#[]⟩ n) (os.take 0)) (stV none 0 none 0 (runU (LS.new ⟨#[]⟩ n) (os.take 0)))) := Lib.hid hp0
    clear hb3 Hrn hp0 H2 HB1
    unfold docL
    go_wp2_with fail
    go_loopw [7, 32] (fun v5 v26 wr => ∃ (k b : Nat) (Ab : Option Addr) (cb : Nat) (Af : Option Addr) (cf : Nat), k ≤ os.length ∧ v26 = .int .i64 (k : Int) ∧ v5 = .pointer (some ⟨b, 0, none⟩) ∧ Hid (PairU w wr w3.heap.size b Ab cb Af cf (runU (LS.new ⟨#[]⟩ n) (os.take k)) (runU (LS.new ⟨#[]⟩ n) (os.take k)) (stV Ab cb Af cf (runU (LS.new ⟨#[]⟩ n) (os.take k))))) (fun _ v26 _ => os.length - (intOf v26).toNat)
    case atStart => exact ⟨0, b0, none, 0, none, 0, Nat.zero_le _, rfl, rfl, Hp0⟩
    case round =>
      obtain ⟨k, b, Ab, cb, Af, cf, hk, rfl, rfl, hpr⟩ := hrel
      clear Hp0
      by_cases hlt : k < os.length
      · obtain ⟨g, og, rfl, hg, e0, e1, e2, _⟩ := (HO.out.below hpr.out.bel).at_ hlt
        have Hst := Lib.hid (runU_take (LS.new ⟨#[]⟩ n) os k hlt)
        have hok : (runU (LS.new ⟨#[]⟩ n) (os.take k) : LS ByteArray).Ok := runU_ok (LS.Ok.new _ _) _
        have M4 := Bx3.new wr 32 (.int .i64 (os.getD k OpU.none_).k) (.string (os.getD k OpU.none_).t) (.int .i64 (os.getD k OpU.none_).g)
        have m0 := M4.c0
        have m1 := M4.c1
        have m2 := M4.c2
        have hp4 := hpr.out.alloc (.cells #[.int .i64 (os.getD k OpU.none_).k, .string (os.getD k OpU.none_).t, .int .i64 (os.getD k OpU.none_).g] 32)
        have Hdo := Lib.hid (hp4.do_ hok (os.getD k OpU.none_))
        have p0 := hp4.box.c 0 rfl
        have p1 := hp4.box.c 1 rfl
        have p2 := hp4.box.c 2 rfl
        have p3 := hp4.box.c 3 rfl
        have p4 := hp4.box.c 4 rfl
        have HM4 := Lib.hid M4
        have Hok := Lib.hid hok
        have Hlw : Hid (w3.heap.size < wr.heap.size) := Lib.hid hpr.out.box.lt
        clear hpr hp4 M4 hok
        generalize os.getD k OpU.none_ = o at *
        generalize (runU (LS.new ⟨#[]⟩ n) (os.take k) : LS ByteArray) = st at *
        have hkl : (k : Int) < (os.length : Int) := by omega
        go_wp2_with fail
        refine Hdo.out.mono ?_
        rintro e w5 ⟨Ab', cb', Af', cf', rfl, hp5, hb5⟩
        have hM5 : Bx3 w5 wr.heap.size 32 (.int .i64 o.k) (.string o.t) (.int .i64 o.g) := HM4.out.below hb5
        obtain ⟨W6, hW6⟩ : ∃ W6, (((((w5.setCell ⟨w3.heap.size, 0, none⟩ (.int .i64 ((doU st o).lim : Int))).setCell ⟨w3.heap.size, 1, none⟩ (.slice Ab' (doU st o).back.length cb')).setCell ⟨w3.heap.size, 2, none⟩ (.string (doU st o).now)).setCell ⟨w3.heap.size, 3, none⟩ (.slice Af' (doU st o).forth.length cf')).setCell ⟨w3.heap.size, 4, none⟩ (.int .i64 (doU st o).opn)) = W6 := ⟨_, rfl⟩
        have hp6 : PairU w W6 w3.heap.size b Ab' cb' Af' cf' (doU st o) st (stV Ab' cb' Af' cf' (doU st o)) := by rw [← hW6]; exact hp5.store _ _ _ _ _
        have hM6 : Bx3 W6 wr.heap.size 32 (.int .i64 o.k) (.string o.t) (.int .i64 o.g) := by rw [← hW6]; exact (((((hM5.other (by have := Hlw.out; omega) _).other (by have := Hlw.out; omega) _).other (by have := Hlw.out; omega) _).other (by have := Hlw.out; omega) _).other (by have := Hlw.out; omega) _)
        have r0 := hp5.box.c 0 rfl
        have r1 := hp5.box.c 1 rfl
        have r2 := hp5.box.c 2 rfl
        have r3 := hp5.box.c 3 rfl
        have r4 := hp5.box.c 4 rfl
        have s0 := hp5.box.free 0
        have s1 := hp5.box.free 1
        have s2 := hp5.box.free 2
        have s3 := hp5.box.free 3
        have s4 := hp5.box.free 4
        have u0 := hp6.box.c 0 rfl
        have u1 := hp6.box.c 1 rfl
        have u2 := hp6.box.c 2 rfl
        have u3 := hp6.box.c 3 rfl
        have u4' := hp6.box.c 4 rfl
        have x0 := hM6.c0
        have x1 := hM6.c1
        have x2 := hM6.c2
        have Hd := Lib.hid (hp6.does o)
        have Hp6 := Lib.hid hp6
        clear hp5 hp6 hM5 hM6 hb5 p0 p1 p2 p3 p4 m0 m1 m2 Hdo
        go_wp2_with fail
        refine Hd.out.mono ?_
        rintro e w7 ⟨b', rfl, hp7⟩
        clear hW6 u0 u1 u2 u3 u4' x0 x1 x2 r0 r1 r2 r3 r4
        have Hp7 := Lib.hid hp7
        clear Hd
        generalize didU st o = q1 at *
        clear hp7 Hp6
        go_wp2_with fail
        go_roundw
        case rel => exact ⟨k + 1, b', Ab', cb', Af', cf', by omega, by go_num, rfl, by rw [Hst.out]; exact Hp7⟩
        case measure => simp [intOf]; omega
      · obtain rfl : k = os.length := by omega
        obtain ⟨st, hst⟩ : ∃ st : LS ByteArray, runU (LS.new ⟨#[]⟩ n) (os.take os.length) = st := ⟨_, rfl⟩
        rw [hst] at hpr
        have hok : st.Ok := by obtain ⟨R, hR, _⟩ := hpr.out; exact log_okS hR
        have hln := hok.len
        have hle := hok.le
        have hm := hpr.out.step (fun R hR => move_callsUS _ R b _ hR by_)
        have Hm := Lib.hid hm
        clear hst hpr hok hm
        go_wp2_with fail
        refine Hm.out.mono ?_
        rintro e w4 ⟨rfl, hp4⟩
        have hn4 := hp4.read (fun R hR => now_callsUS _ R b _ hR)
        rw [show (st.move by_).now = by_ from rfl] at hn4
        have Hn4 := Lib.hid hn4
        clear hp4 hn4 Hm
        go_wp2_with fail
        refine Hn4.out.mono ?_
        rintro e w5 ⟨rfl, hp5⟩
        have d1 := hp5.box.c 1 rfl
        have d3 := hp5.box.c 3 rfl
        have hs5 : Calls Try.prog 15 #[.pointer (some ⟨b, 0, none⟩), .agg #[.int .i64 0, .slice Ab st.back.length cb, .string by_, .slice Af st.forth.length cf, .int .i64 0]] w5 fun e W' => e = .returned (.bool true) ∧ PairU w W' w3.heap.size b Ab cb Af cf st (st.move by_) (stV Ab cb Af cf st) :=
          hp5.read (fun R hR => stands_callsU _ R b (st.move by_) hR Ab cb Af cf st.back st.forth 0 0 rfl rfl)
        have Hs5 := Lib.hid hs5
        clear hp5 hs5 Hn4
        go_wp2_with fail
        refine Hs5.out.mono ?_
        rintro e w6 ⟨rfl, hp6⟩
        clear Hs5 d1 d3
        by_cases hbk : st.back = []
        · have hu : Calls Try.prog 17 #[.pointer (some ⟨b, 0, none⟩)] w6 fun e w' => e = .returned (.tuple #[.string by_, .bool false]) ∧ PairU w w' w3.heap.size b Ab cb Af cf st (st.move by_) (stV Ab cb Af cf st) := by
            have := hp6.step (fun R hR => undo_callsUS _ R b _ hR)
            rwa [show decide ((st.move by_).back ≠ []) = false from decide_eq_false (fun h => h hbk), show (st.move by_).undo = st.move by_ by unfold LS.undo; rw [if_pos (show (st.move by_).back = [] from hbk)]] at this
          have Hu := Lib.hid hu
          clear hu hbk hp6
          go_wp2_with fail
          refine Hu.out.mono ?_
          rintro e w7 ⟨rfl, hp7⟩
          have HQ7 := Lib.hid hp7
          clear hp7 Hu
          by_cases hfo : st.forth = []
          · have hr : Calls Try.prog 18 #[.pointer (some ⟨b, 0, none⟩)] w7 fun e w' => e = .returned (.tuple #[.string (st.move by_).now, .bool false]) ∧ PairU w w' w3.heap.size b Ab cb Af cf st (st.move by_) (stV Ab cb Af cf st) := by
              have := HQ7.out.step (fun R hR => redo_callsUS _ R b _ hR)
              rwa [show decide ((st.move by_).forth ≠ []) = false from decide_eq_false (fun h => h hfo), show (st.move by_).redo = st.move by_ by unfold LS.redo; rw [if_pos (show (st.move by_).forth = [] from hfo)]] at this
            have hl0 : st.forth.length = 0 := by rw [hfo]; rfl
            have hd0 : decide ((0 : Int) < (st.forth.length : Int)) = false := decide_eq_false (by omega)
            have hd1 : decide (0 < st.forth.length) = false := decide_eq_false (by omega)
            have Hr := Lib.hid hr
            clear hr hfo hl0
            go_wp2_with fail
            refine Hr.out.mono ?_
            rintro e w8 ⟨rfl, hp8⟩
            have d1 := hp8.box.c 1 rfl
            have d3 := hp8.box.c 3 rfl
            have Hal8 := Lib.hid (ualive_calls w8)
            have HP8 := Lib.hid hp8
            have HBX8 := Lib.hid hp8.box
            clear hp8 Hr
            go_wp2_with fail
            refine Hal8.out.mono ?_
            rintro e w9 ⟨rfl, hb9⟩
            have HB9 : Hid (Below w.heap.size w w9) := Lib.hid (HP8.out.bel.trans (hb9.mono HP8.out.bel.size))
            have f1 := (HBX8.out.below hb9).c 1 rfl
            have f3 := (HBX8.out.below hb9).c 3 rfl
            clear hb9 d1 d3 Hal8
            go_wp2
            go_ret
            exact ⟨rfl, HB9.out⟩
          · obtain ⟨r, y, hy⟩ : ∃ r y, st.forth = r ++ [y] := ⟨_, _, (List.dropLast_concat_getLast hfo).symm⟩
            have hr : Calls Try.prog 18 #[.pointer (some ⟨b, 0, none⟩)] w7 fun e w' => e = .returned (.tuple #[.string y, .bool true]) ∧ PairU w w' w3.heap.size b Ab cb Af cf st (st.move by_).redo (stV Ab cb Af cf st) := by
              have := HQ7.out.step (fun R hR => redo_callsUS _ R b _ hR)
              rwa [show decide ((st.move by_).forth ≠ []) = true from decide_eq_true (show st.forth ≠ [] from hfo), show (st.move by_).redo.now = y by rw [LS.redo_some (s := st.move by_) hy]] at this
            have hyl : st.forth[st.forth.length - 1]? = some y := by rw [hy]; simp
            have hlp : 0 < st.forth.length := by rw [hy]; simp
            have hd0 : decide ((0 : Int) < (st.forth.length : Int)) = true := decide_eq_true (by omega)
            have hd1 : decide (0 < st.forth.length) = true := decide_eq_true hlp
            have hs1 : IntKind.i64.wrap ((st.forth.length : Int) - 1) = ((st.forth.length - 1 : Nat) : Int) := by rw [IntWalk.i64_in _ (by omega)]; omega
            have hi1 : st.forth.length - 1 < st.forth.length := by omega
            have hi2 : ((st.forth.length - 1 : Nat) : Int) < (st.forth.length : Int) := by omega
            have Hr := Lib.hid hr
            have Hyl := Lib.hid hyl
            clear hr hfo hy hyl
            go_wp2_with fail
            refine Hr.out.mono ?_
            rintro e w8 ⟨rfl, hp8⟩
            have d1 := hp8.box.c 1 rfl
            have d3 := hp8.box.c 3 rfl
            obtain ⟨g2, o2, rfl, hg2, hc2⟩ := hp8.doc.rf.at_ hlp
            have ck := hc2 _ _ Hyl.out
            have Hal8 := Lib.hid (ualive_calls w8)
            have HP8 := Lib.hid hp8
            have HBX8 := Lib.hid hp8.box
            clear hp8 Hr hc2
            go_wp2_with fail
            refine Hal8.out.mono ?_
            rintro e w9 ⟨rfl, hb9⟩
            have HB9 : Hid (Below w.heap.size w w9) := Lib.hid (HP8.out.bel.trans (hb9.mono HP8.out.bel.size))
            have f1 := (HBX8.out.below hb9).c 1 rfl
            have f3 := (HBX8.out.below hb9).c 3 rfl
            have ck9 := (hb9.cell (p := ⟨g2, o2 + (st.forth.length - 1), none⟩) hg2).trans ck
            clear hb9 d1 d3 ck Hal8
            go_wp2
            go_ret
            exact ⟨rfl, HB9.out⟩
        · obtain ⟨r0, y0, hy0⟩ : ∃ r y, st.back = r ++ [y] := ⟨_, _, (List.dropLast_concat_getLast hbk).symm⟩
          have hu : Calls Try.prog 17 #[.pointer (some ⟨b, 0, none⟩)] w6 fun e w' => e = .returned (.tuple #[.string y0, .bool true]) ∧ PairU w w' w3.heap.size b Ab cb Af cf st (st.move by_).undo (stV Ab cb Af cf st) := by
            have := hp6.step (fun R hR => undo_callsUS _ R b _ hR)
            rwa [show decide ((st.move by_).back ≠ []) = true from decide_eq_true (show st.back ≠ [] from hbk), show (st.move by_).undo.now = y0 by rw [LS.undo_some (s := st.move by_) hy0]] at this
          have hyl0 : st.back[st.back.length - 1]? = some y0 := by rw [hy0]; simp
          have hlp0 : 0 < st.back.length := by rw [hy0]; simp
          have hs0 : IntKind.i64.wrap ((st.back.length : Int) - 1) = ((st.back.length - 1 : Nat) : Int) := by rw [IntWalk.i64_in _ (by omega)]; omega
          have hi01 : st.back.length - 1 < st.back.length := by omega
          have hi02 : ((st.back.length - 1 : Nat) : Int) < (st.back.length : Int) := by omega
          have Hu := Lib.hid hu
          have Hyl0 := Lib.hid hyl0
          have HBK := Lib.hid hbk
          clear hu hy0 hyl0 hp6 hbk
          go_wp2_with fail
          refine Hu.out.mono ?_
          rintro e w7 ⟨rfl, hp7⟩
          have d1 := hp7.box.c 1 rfl
          obtain ⟨g1, o1, rfl, hg1, hc1⟩ := hp7.doc.rb.at_ hlp0
          have ck0 := hc1 _ _ Hyl0.out
          have hre := hp7.step (fun R hR => redo_callsUS _ R b _ hR)
          rw [LS.redo_undo (s := st.move by_) HBK.out] at hre
          have hff : decide ((st.move by_).undo.forth ≠ []) = true := decide_eq_true (by
            obtain ⟨r, y, hr⟩ : ∃ r y, st.back = r ++ [y] := ⟨_, _, (List.dropLast_concat_getLast HBK.out).symm⟩
            rw [LS.undo_some (s := st.move by_) hr]; simp)
          rw [hff] at hre
          have Hre := Lib.hid hre
          clear hp7 hre Hu hc1 hff
          go_wp2_with fail
          refine Hre.out.mono ?_
          rintro e w8 ⟨rfl, hp8⟩
          have HQ8 : Hid (PairU w w8 w3.heap.size b _ cb Af cf st (⟨st.lim, st.back, by_, st.forth, 0⟩ : LS ByteArray) _) := Lib.hid hp8
          clear hp8 Hre d1 ck0
          by_cases hfo : st.forth = []
          · have hr : Calls Try.prog 18 #[.pointer (some ⟨b, 0, none⟩)] w8 fun e w' => e = .returned (.tuple #[.string ((⟨st.lim, st.back, by_, st.forth, 0⟩ : LS ByteArray)).now, .bool false]) ∧ PairU w w' w3.heap.size b (some ⟨g1, o1, none⟩) cb Af cf st ((⟨st.lim, st.back, by_, st.forth, 0⟩ : LS ByteArray)) (stV (some ⟨g1, o1, none⟩) cb Af cf st) := by
              have := HQ8.out.step (fun R hR => redo_callsUS _ R b _ hR)
              rwa [show decide (((⟨st.lim, st.back, by_, st.forth, 0⟩ : LS ByteArray)).forth ≠ []) = false from decide_eq_false (fun h => h hfo), show ((⟨st.lim, st.back, by_, st.forth, 0⟩ : LS ByteArray)).redo = (⟨st.lim, st.back, by_, st.forth, 0⟩ : LS ByteArray) by unfold LS.redo; rw [if_pos (show ((⟨st.lim, st.back, by_, st.forth, 0⟩ : LS ByteArray)).forth = [] from hfo)]] at this
            have hl0 : st.forth.length = 0 := by rw [hfo]; rfl
            have hd0 : decide ((0 : Int) < (st.forth.length : Int)) = false := decide_eq_false (by omega)
            have hd1 : decide (0 < st.forth.length) = false := decide_eq_false (by omega)
            have Hr := Lib.hid hr
            clear hr hfo hl0
            go_wp2_with fail
            refine Hr.out.mono ?_
            rintro e w9 ⟨rfl, hp9⟩
            have d1 := hp9.box.c 1 rfl
            have d3 := hp9.box.c 3 rfl
            have Hal9 := Lib.hid (ualive_calls w9)
            have HP9 := Lib.hid hp9
            have HBX9 := Lib.hid hp9.box
            clear hp9 Hr
            go_wp2_with fail
            refine Hal9.out.mono ?_
            rintro e w9 ⟨rfl, hb9⟩
            have HB9 : Hid (Below w.heap.size w w9) := Lib.hid (HP9.out.bel.trans (hb9.mono HP9.out.bel.size))
            have f1 := (HBX9.out.below hb9).c 1 rfl
            have f3 := (HBX9.out.below hb9).c 3 rfl
            clear hb9 d1 d3 Hal9
            go_wp2
            go_ret
            exact ⟨rfl, HB9.out⟩
          · obtain ⟨r, y, hy⟩ : ∃ r y, st.forth = r ++ [y] := ⟨_, _, (List.dropLast_concat_getLast hfo).symm⟩
            have hr : Calls Try.prog 18 #[.pointer (some ⟨b, 0, none⟩)] w8 fun e w' => e = .returned (.tuple #[.string y, .bool true]) ∧ PairU w w' w3.heap.size b (some ⟨g1, o1, none⟩) cb Af cf st ((⟨st.lim, st.back, by_, st.forth, 0⟩ : LS ByteArray)).redo (stV (some ⟨g1, o1, none⟩) cb Af cf st) := by
              have := HQ8.out.step (fun R hR => redo_callsUS _ R b _ hR)
              rwa [show decide (((⟨st.lim, st.back, by_, st.forth, 0⟩ : LS ByteArray)).forth ≠ []) = true from decide_eq_true (show st.forth ≠ [] from hfo), show ((⟨st.lim, st.back, by_, st.forth, 0⟩ : LS ByteArray)).redo.now = y by rw [LS.redo_some (s := (⟨st.lim, st.back, by_, st.forth, 0⟩ : LS ByteArray)) hy]] at this
            have hyl : st.forth[st.forth.length - 1]? = some y := by rw [hy]; simp
            have hlp : 0 < st.forth.length := by rw [hy]; simp
            have hd0 : decide ((0 : Int) < (st.forth.length : Int)) = true := decide_eq_true (by omega)
            have hd1 : decide (0 < st.forth.length) = true := decide_eq_true hlp
            have hs1 : IntKind.i64.wrap ((st.forth.length : Int) - 1) = ((st.forth.length - 1 : Nat) : Int) := by rw [IntWalk.i64_in _ (by omega)]; omega
            have hi1 : st.forth.length - 1 < st.forth.length := by omega
            have hi2 : ((st.forth.length - 1 : Nat) : Int) < (st.forth.length : Int) := by omega
            have Hr := Lib.hid hr
            have Hyl := Lib.hid hyl
            clear hr hfo hy hyl
            go_wp2_with fail
            refine Hr.out.mono ?_
            rintro e w9 ⟨rfl, hp9⟩
            have d1 := hp9.box.c 1 rfl
            have d3 := hp9.box.c 3 rfl
            obtain ⟨g2, o2, rfl, hg2, hc2⟩ := hp9.doc.rf.at_ hlp
            have ck := hc2 _ _ Hyl.out
            have Hal9 := Lib.hid (ualive_calls w9)
            have HP9 := Lib.hid hp9
            have HBX9 := Lib.hid hp9.box
            clear hp9 Hr hc2
            go_wp2_with fail
            refine Hal9.out.mono ?_
            rintro e w9 ⟨rfl, hb9⟩
            have HB9 : Hid (Below w.heap.size w w9) := Lib.hid (HP9.out.bel.trans (hb9.mono HP9.out.bel.size))
            have f1 := (HBX9.out.below hb9).c 1 rfl
            have f3 := (HBX9.out.below hb9).c 3 rfl
            have ck9 := (hb9.cell (p := ⟨g2, o2 + (st.forth.length - 1), none⟩) hg2).trans ck
            clear hb9 d1 d3 ck Hal9
            go_wp2
            go_ret
            exact ⟨rfl, HB9.out⟩
end Go.Proofs.Ytgcafmofpflidaa
