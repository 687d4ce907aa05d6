/-
  The walk of UndoAll.
-/
import Derived.Test.YtgcafmofpflidaaUStands
import Derived.Lib.MinMax
namespace Go.Proofs.Ytgcafmofpflidaa
open Go Go.RowKit
set_option maxRecDepth 100000

set_option maxHeartbeats 8000000 in
theorem uall_calls (n : Int) (A : Option Addr) (c : Nat) (os : List OpU) (w : World) (hO : RdU w A os) (hl : os.length ≤ 9223372036854775807) :
    Calls Try.prog 3 #[.int .i64 n, .slice A os.length c] w fun e w' => e = .returned (.bool true) ∧ Below w.heap.size w w' := by
  have Hfew := Lib.hid (few6_calls A c os w hO hl)
  have HO := Lib.hid hO
  clear hO
  generalize hf0 : decide (os.length ≤ 400 ∧ totU os ≤ 8000) = q0 at *
  clear hf0
  cases q0 with
  | false =>
    go_enter Try.func3, Try.ntmps3
    go_wp2_with fail
    refine Hfew.out.mono ?_
    rintro e w1 ⟨rfl, hb1⟩
    have HB1 := Lib.hid hb1
    have Hal := Lib.hid (ualive_calls w1)
    clear hb1 Hfew
    go_wp2_with fail
    refine Hal.out.mono ?_
    rintro e w9 ⟨rfl, hb9⟩
    have HB9 := Lib.hid (HB1.out.trans (hb9.mono HB1.out.size))
    clear hb9 Hal
    go_wp2
    go_ret
    exact ⟨rfl, HB9.out⟩
  | true =>
    go_enter Try.func3, Try.ntmps3
    go_wp2_with fail
    refine Hfew.out.mono ?_
    rintro e w1 ⟨rfl, hb1⟩
    have HB1 := Lib.hid hb1
    clear hb1 Hfew
    go_wp2_with fail
    refine (new_callsUS ⟨#[]⟩ n w1).mono ?_
    rintro e w2 ⟨b0, rfl, h2⟩
    have H2 : Hid (InUS w w2 b0 (LS.new ⟨#[]⟩ n)) := Lib.hid (by
      obtain ⟨R, a1, a2, a3⟩ := h2
      exact ⟨R, a1, fun k hk => Nat.le_trans HB1.out.size (a2 k hk), HB1.out.trans (a3.mono HB1.out.size)⟩)
    clear h2
    have Hrn := Lib.hid (rnew6_calls ⟨#[]⟩ n w2)
    go_wp2_with fail
    refine Hrn.out.mono ?_
    rintro e w3 ⟨rfl, hb3⟩
    have hp0 : PairU w _ w3.heap.size b0 none 0 none 0 _ _ _ := PairU.start (w := w) (W := w2) (W2 := w3) H2.out hb3 H2.out.bel.size
    have Hp0 : Hid (PairU w (w3.alloc (.cells #[.int .i64 ((LS.new ⟨#[]⟩ n : LS ByteArray).lim : Int), .slice none (LS.new ⟨#[]⟩ n : LS ByteArray).back.length 0, .string (LS.new ⟨#[]⟩ n : LS ByteArray).now, .slice none (LS.new ⟨#[]⟩ n : LS ByteArray).forth.length 0, .int .i64 (LS.new ⟨#[]⟩ n : LS ByteArray).opn] 29)) w3.heap.size b0 none 0 none 0 (runU (LS.new ⟨#[]⟩ n) (os.take 0)) (runU (LS.new ⟨#[]⟩ n) (os.take 0)) (stV none 0 none 0 (runU (LS.new ⟨#[]⟩ n) (os.take 0)))) := Lib.hid hp0
    clear hb3 Hrn hp0 H2 HB1
    unfold docL
    go_wp2_with fail
    go_loopw [5, 26] (fun v5 v26 wr => ∃ (k b : Nat) (Ab : Option Addr) (cb : Nat) (Af : Option Addr) (cf : Nat), k ≤ os.length ∧ v26 = .int .i64 (k : Int) ∧ v5 = .pointer (some ⟨b, 0, none⟩) ∧ Hid (PairU w wr w3.heap.size b Ab cb Af cf (runU (LS.new ⟨#[]⟩ n) (os.take k)) (runU (LS.new ⟨#[]⟩ n) (os.take k)) (stV Ab cb Af cf (runU (LS.new ⟨#[]⟩ n) (os.take k))))) (fun _ v26 _ => os.length - (intOf v26).toNat)
    case atStart => exact ⟨0, b0, none, 0, none, 0, Nat.zero_le _, rfl, rfl, Hp0⟩
    case round =>
      obtain ⟨k, b, Ab, cb, Af, cf, hk, rfl, rfl, hpr⟩ := hrel
      clear Hp0
      by_cases hlt : k < os.length
      · obtain ⟨g, og, rfl, hg, e0, e1, e2, _⟩ := (HO.out.below hpr.out.bel).at_ hlt
        have Hst := Lib.hid (runU_take (LS.new ⟨#[]⟩ n) os k hlt)
        have hok : (runU (LS.new ⟨#[]⟩ n) (os.take k) : LS ByteArray).Ok := runU_ok (LS.Ok.new _ _) _
        have M4 := Bx3.new wr 32 (.int .i64 (os.getD k OpU.none_).k) (.string (os.getD k OpU.none_).t) (.int .i64 (os.getD k OpU.none_).g)
        have m0 := M4.c0
        have m1 := M4.c1
        have m2 := M4.c2
        have hp4 := hpr.out.alloc (.cells #[.int .i64 (os.getD k OpU.none_).k, .string (os.getD k OpU.none_).t, .int .i64 (os.getD k OpU.none_).g] 32)
        have Hdo := Lib.hid (hp4.do_ hok (os.getD k OpU.none_))
        have p0 := hp4.box.c 0 rfl
        have p1 := hp4.box.c 1 rfl
        have p2 := hp4.box.c 2 rfl
        have p3 := hp4.box.c 3 rfl
        have p4 := hp4.box.c 4 rfl
        have HM4 := Lib.hid M4
        have Hok := Lib.hid hok
        have Hlw : Hid (w3.heap.size < wr.heap.size) := Lib.hid hpr.out.box.lt
        clear hpr hp4 M4 hok
        generalize os.getD k OpU.none_ = o at *
        generalize (runU (LS.new ⟨#[]⟩ n) (os.take k) : LS ByteArray) = st at *
        have hkl : (k : Int) < (os.length : Int) := by omega
        go_wp2_with fail
        refine Hdo.out.mono ?_
        rintro e w5 ⟨Ab', cb', Af', cf', rfl, hp5, hb5⟩
        have hM5 : Bx3 w5 wr.heap.size 32 (.int .i64 o.k) (.string o.t) (.int .i64 o.g) := HM4.out.below hb5
        obtain ⟨W6, hW6⟩ : ∃ W6, ((((((w5.alloc (.cells #[.int .i64 ((doU st o).lim : Int), .slice Ab' (doU st o).back.length cb', .string (doU st o).now, .slice Af' (doU st o).forth.length cf', .int .i64 (doU st o).opn] 29)).setCell ⟨w3.heap.size, 0, none⟩ (.int .i64 ((doU st o).lim : Int))).setCell ⟨w3.heap.size, 1, none⟩ (.slice Ab' (doU st o).back.length cb')).setCell ⟨w3.heap.size, 2, none⟩ (.string (doU st o).now)).setCell ⟨w3.heap.size, 3, none⟩ (.slice Af' (doU st o).forth.length cf')).setCell ⟨w3.heap.size, 4, none⟩ (.int .i64 (doU st o).opn)) = W6 := ⟨_, rfl⟩
        have hp6 : PairU w W6 w3.heap.size b Ab' cb' Af' cf' (doU st o) st (stV Ab' cb' Af' cf' (doU st o)) := by rw [← hW6]; exact (hp5.alloc (.cells #[.int .i64 ((doU st o).lim : Int), .slice Ab' (doU st o).back.length cb', .string (doU st o).now, .slice Af' (doU st o).forth.length cf', .int .i64 (doU st o).opn] 29)).store _ _ _ _ _
        have hM6 : Bx3 W6 wr.heap.size 32 (.int .i64 o.k) (.string o.t) (.int .i64 o.g) := by rw [← hW6]; exact ((((((hM5.alloc (.cells #[.int .i64 ((doU st o).lim : Int), .slice Ab' (doU st o).back.length cb', .string (doU st o).now, .slice Af' (doU st o).forth.length cf', .int .i64 (doU st o).opn] 29)).other (by have := Hlw.out; omega) _).other (by have := Hlw.out; omega) _).other (by have := Hlw.out; omega) _).other (by have := Hlw.out; omega) _).other (by have := Hlw.out; omega) _)
        have r0 := hp5.box.c 0 rfl
        have r1 := hp5.box.c 1 rfl
        have r2 := hp5.box.c 2 rfl
        have r3 := hp5.box.c 3 rfl
        have r4 := hp5.box.c 4 rfl
        have s0 := hp5.box.free 0
        have s1 := hp5.box.free 1
        have s2 := hp5.box.free 2
        have s3 := hp5.box.free 3
        have s4 := hp5.box.free 4
        have B5 := BxA.new w5 29 [.int .i64 ((doU st o).lim : Int), .slice Ab' (doU st o).back.length cb', .string (doU st o).now, .slice Af' (doU st o).forth.length cf', .int .i64 (doU st o).opn]
        have t0 := B5.c 0 rfl
        have t1 := B5.c 1 rfl
        have t2 := B5.c 2 rfl
        have t3 := B5.c 3 rfl
        have t4 := B5.c 4 rfl
        have hp5a := (hp5.alloc (.cells #[.int .i64 ((doU st o).lim : Int), .slice Ab' (doU st o).back.length cb', .string (doU st o).now, .slice Af' (doU st o).forth.length cf', .int .i64 (doU st o).opn] 29)).box
        have y0 := hp5a.c 0 rfl
        have z0 := hp5a.free 0
        have y1 := hp5a.c 1 rfl
        have z1 := hp5a.free 1
        have y2 := hp5a.c 2 rfl
        have z2 := hp5a.free 2
        have y3 := hp5a.c 3 rfl
        have z3 := hp5a.free 3
        have y4 := hp5a.c 4 rfl
        have z4 := hp5a.free 4
        clear B5 hp5a
        have u0 := hp6.box.c 0 rfl
        have u1 := hp6.box.c 1 rfl
        have u2 := hp6.box.c 2 rfl
        have u3 := hp6.box.c 3 rfl
        have u4' := hp6.box.c 4 rfl
        have x0 := hM6.c0
        have x1 := hM6.c1
        have x2 := hM6.c2
        have Hd := Lib.hid (hp6.does o)
        have Hp6 := Lib.hid hp6
        clear hp5 hp6 hM5 hM6 hb5 p0 p1 p2 p3 p4 m0 m1 m2 Hdo
        go_wp2_with fail
        refine Hd.out.mono ?_
        rintro e w7 ⟨b', rfl, hp7⟩
        clear hW6 u0 u1 u2 u3 u4' x0 x1 x2 r0 r1 r2 r3 r4
        have c0 := hp7.box.c 0 rfl
        have c1 := hp7.box.c 1 rfl
        have c2 := hp7.box.c 2 rfl
        have c3 := hp7.box.c 3 rfl
        have c4 := hp7.box.c 4 rfl
        have Hs := Lib.hid hp7.stands
        clear hp7 Hd Hp6
        generalize didU st o = q1 at *
        go_wp2_with fail
        refine Hs.out.mono ?_
        rintro e w8 ⟨rfl, hp8⟩
        have Hp8 := Lib.hid hp8
        clear hp8 Hs c0 c1 c2 c3 c4
        go_wp2_with fail
        go_roundw
        case rel => exact ⟨k + 1, b', Ab', cb', Af', cf', by omega, by go_num, rfl, by rw [Hst.out]; exact Hp8⟩
        case measure => simp [intOf]; omega
      · obtain rfl : k = os.length := by omega
        have HB := Lib.hid hpr.out.bel
        clear hpr
        have Hal := Lib.hid (ualive_calls wr)
        go_wp2_with fail
        refine Hal.out.mono ?_
        rintro e w9 ⟨rfl, hb9⟩
        have HB9 : Hid (Below w.heap.size w w9) := Lib.hid (HB.out.trans (hb9.mono HB.out.size))
        clear hb9 Hal
        go_wp2
        go_ret
        exact ⟨rfl, HB9.out⟩
end Go.Proofs.Ytgcafmofpflidaa
