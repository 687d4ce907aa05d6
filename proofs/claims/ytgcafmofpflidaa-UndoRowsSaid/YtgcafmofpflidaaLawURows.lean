/-
  The walk of UndoRows.
-/
import Derived.Test.YtgcafmofpflidaaUStands
import Derived.Lib.MinMax
namespace Go.Proofs.Ytgcafmofpflidaa
open Go Go.RowKit
set_option maxRecDepth 100000

/-- Two logs whose boxes are a call's own, apart (they may stand on one row). -/
def TwoU (w0 W : World) (b1 b2 : Nat) (s1 s2 : LS ByteArray) : Prop := ∃ R1 R2, LogS W R1 b1 s1 ∧ LogS W R2 b2 s2 ∧ ¬ R1 b2 ∧ ¬ R2 b1 ∧ w0.heap.size ≤ b1 ∧ w0.heap.size ≤ b2 ∧ Below w0.heap.size w0 W
section
variable {w0 W W' : World} {b1 b2 : Nat} {s1 s2 : LS ByteArray}
theorem TwoU.bel (h : TwoU w0 W b1 b2 s1 s2) : Below w0.heap.size w0 W := by
  obtain ⟨_, _, _, _, _, _, _, _, h⟩ := h
  exact h
theorem TwoU.swap (h : TwoU w0 W b1 b2 s1 s2) : TwoU w0 W b2 b1 s2 s1 := by
  obtain ⟨R1, R2, h1, h2, h3, h4, h5, h6, h7⟩ := h
  exact ⟨R2, R1, h2, h1, h4, h3, h6, h5, h7⟩
theorem TwoU.below (h : TwoU w0 W b1 b2 s1 s2) (hb : Below W.heap.size W W') : TwoU w0 W' b1 b2 s1 s2 := by
  obtain ⟨R1, R2, h1, h2, h3, h4, h5, h6, h7⟩ := h
  exact ⟨R1, R2, objS.below h1 hb, objS.below h2 hb, h3, h4, h5, h6, h7.trans (hb.mono h7.size)⟩
theorem TwoU.step {f : Nat} {args : Array Value} {E : Ending → Prop} {s' : LS ByteArray} (h : TwoU w0 W b1 b2 s1 s2) (hc : ∀ R, LogS W R b1 s1 → Calls Try.prog f args W fun e W' => E e ∧ ToBS W R W' b1 s') :
    Calls Try.prog f args W fun e W' => E e ∧ TwoU w0 W' b1 b2 s' s2 := by
  obtain ⟨R1, R2, h1, h2, h3, h4, h5, h6, h7⟩ := h
  have hl := objS.lt h2 b2 (objS.ins h2)
  refine (hc R1 h1).mono ?_
  rintro e W' ⟨he, R', r1, r2, r3⟩
  refine ⟨he, R', R2, r1, objS.keep h2 r2 (fun k hk hr => h4 (by rw [← hr]; exact hk)), fun hr => ?_, h4, h5, h6, h7.trans (r2.below h7.size (fun i hi => by rw [hi]; exact h5))⟩
  rcases r3 b2 hr with h | h
  · exact h3 h
  · omega
theorem TwoU.start {W1 : World} {R : Nat → Prop} {b : Nat} {s : LS ByteArray} (h : LogS w0 R b s) (h1 : CopL LogS w0 R b W1 b1 s1) (h2 : CopL LogS W1 R b W b2 s2) : TwoU w0 W b1 b2 s1 s2 := by
  obtain ⟨R1, a1, a2, a3, a4⟩ := h1
  obtain ⟨R2, c1, c2, c3, c4⟩ := h2
  have hl := objS.lt a1
  have hi := objS.ins a1
  have h0 := objS.lt h
  refine ⟨R1, R2, objS.below a1 c4, c1, fun hr => ?_, fun hr => ?_, a2, Nat.le_trans a4.size c2, a4.trans (c4.mono a4.size)⟩
  · have := hl b2 hr; omega
  · rcases c3 b1 hr with h | h
    · have := h0 b1 h.1; omega
    · have := hl b1 hi; omega
end
theorem undos_at (s : LS ByteArray) (i : Nat) (hi : i < s.back.length) : (s.undos (s.back.length - (i + 1))).back ≠ [] ∧ s.back[i]? = some (s.undos (s.back.length - i)).now := by
  have h1 := LS.undos_back s (s.back.length - (i + 1)) (by omega)
  have h2 := LS.undos_now s (s.back.length - (i + 1)) (by omega)
  have h3 : s.back[s.back.length - (s.back.length - (i + 1) + 1)]? = some (s.undos (s.back.length - (i + 1) + 1)).now := by
    rw [h2]
    exact List.getElem?_eq_getElem _
  rw [show s.back.length - (s.back.length - (i + 1) + 1) = i by omega, show s.back.length - (i + 1) + 1 = s.back.length - i by omega] at h3
  refine ⟨?_, h3⟩
  rw [h1]
  intro h
  have := congrArg List.length h
  rw [List.length_take] at this
  simp at this
  omega
theorem redos_at (s : LS ByteArray) (i : Nat) (hi : i < s.forth.length) : (s.redos (s.forth.length - (i + 1))).forth ≠ [] ∧ s.forth[i]? = some (s.redos (s.forth.length - i)).now := by
  have h1 := LS.redos_forth s (s.forth.length - (i + 1)) (by omega)
  have h2 := LS.redos_now s (s.forth.length - (i + 1)) (by omega)
  have h3 : s.forth[s.forth.length - (s.forth.length - (i + 1) + 1)]? = some (s.redos (s.forth.length - (i + 1) + 1)).now := by
    rw [h2]
    exact List.getElem?_eq_getElem _
  rw [show s.forth.length - (s.forth.length - (i + 1) + 1) = i by omega, show s.forth.length - (i + 1) + 1 = s.forth.length - i by omega] at h3
  refine ⟨?_, h3⟩
  rw [h1]
  intro h
  have := congrArg List.length h
  rw [List.length_take] at this
  simp at this
  omega

set_option maxHeartbeats 8000000 in
theorem urows_calls (n : Int) (A : Option Addr) (c : Nat) (os : List OpU) (w : World) (hO : RdU w A os) (hl : os.length ≤ 9223372036854775807) :
    Calls Try.prog 4 #[.int .i64 n, .slice A os.length c] w fun e w' => e = .returned (.bool true) ∧ Below w.heap.size w w' := by
  have Hfew := Lib.hid (few6_calls A c os w hO hl)
  have HO := Lib.hid hO
  clear hO
  generalize hf0 : decide (os.length ≤ 400 ∧ totU os ≤ 8000) = q0 at *
  clear hf0
  cases q0 with
  | false =>
    go_enter Try.func4, Try.ntmps4
    go_wp2_with fail
    refine Hfew.out.mono ?_
    rintro e w1 ⟨rfl, hb1⟩
    have HB1 := Lib.hid hb1
    have Hal := Lib.hid (ualive_calls w1)
    clear hb1 Hfew
    go_wp2_with fail
    refine Hal.out.mono ?_
    rintro e w9 ⟨rfl, hb9⟩
    have HB9 := Lib.hid (HB1.out.trans (hb9.mono HB1.out.size))
    clear hb9 Hal
    go_wp2
    go_ret
    exact ⟨rfl, HB9.out⟩
  | true =>
    go_enter Try.func4, Try.ntmps4
    go_wp2_with fail
    refine Hfew.out.mono ?_
    rintro e w1 ⟨rfl, hb1⟩
    have HB1 := Lib.hid hb1
    clear hb1 Hfew
    go_wp2_with fail
    refine (new_callsUS ⟨#[]⟩ n w1).mono ?_
    rintro e w2 ⟨b0, rfl, h2⟩
    have H2 : Hid (InUS w w2 b0 (LS.new ⟨#[]⟩ n)) := Lib.hid (by
      obtain ⟨R, a1, a2, a3⟩ := h2
      exact ⟨R, a1, fun k hk => Nat.le_trans HB1.out.size (a2 k hk), HB1.out.trans (a3.mono HB1.out.size)⟩)
    clear h2
    have Hrn := Lib.hid (rnew6_calls ⟨#[]⟩ n w2)
    go_wp2_with fail
    refine Hrn.out.mono ?_
    rintro e w3 ⟨rfl, hb3⟩
    have hp0 : PairU w _ w3.heap.size b0 none 0 none 0 _ _ _ := PairU.start (w := w) (W := w2) (W2 := w3) H2.out hb3 H2.out.bel.size
    have Hp0 : Hid (PairU w (w3.alloc (.cells #[.int .i64 ((LS.new ⟨#[]⟩ n : LS ByteArray).lim : Int), .slice none (LS.new ⟨#[]⟩ n : LS ByteArray).back.length 0, .string (LS.new ⟨#[]⟩ n : LS ByteArray).now, .slice none (LS.new ⟨#[]⟩ n : LS ByteArray).forth.length 0, .int .i64 (LS.new ⟨#[]⟩ n : LS ByteArray).opn] 29)) w3.heap.size b0 none 0 none 0 (runU (LS.new ⟨#[]⟩ n) (os.take 0)) (runU (LS.new ⟨#[]⟩ n) (os.take 0)) (stV none 0 none 0 (runU (LS.new ⟨#[]⟩ n) (os.take 0)))) := Lib.hid hp0
    clear hb3 Hrn hp0 H2 HB1
    unfold docL
    go_wp2_with fail
    go_loopw [5, 33] (fun v5 v26 wr => ∃ (k b : Nat) (Ab : Option Addr) (cb : Nat) (Af : Option Addr) (cf : Nat), k ≤ os.length ∧ v26 = .int .i64 (k : Int) ∧ v5 = .pointer (some ⟨b, 0, none⟩) ∧ Hid (PairU w wr w3.heap.size b Ab cb Af cf (runU (LS.new ⟨#[]⟩ n) (os.take k)) (runU (LS.new ⟨#[]⟩ n) (os.take k)) (stV Ab cb Af cf (runU (LS.new ⟨#[]⟩ n) (os.take k))))) (fun _ v26 _ => os.length - (intOf v26).toNat)
    case atStart => exact ⟨0, b0, none, 0, none, 0, Nat.zero_le _, rfl, rfl, Hp0⟩
    case round =>
      obtain ⟨k, b, Ab, cb, Af, cf, hk, rfl, rfl, hpr⟩ := hrel
      clear Hp0
      by_cases hlt : k < os.length
      · obtain ⟨g, og, rfl, hg, e0, e1, e2, _⟩ := (HO.out.below hpr.out.bel).at_ hlt
        have Hst := Lib.hid (runU_take (LS.new ⟨#[]⟩ n) os k hlt)
        have hok : (runU (LS.new ⟨#[]⟩ n) (os.take k) : LS ByteArray).Ok := runU_ok (LS.Ok.new _ _) _
        have M4 := Bx3.new wr 32 (.int .i64 (os.getD k OpU.none_).k) (.string (os.getD k OpU.none_).t) (.int .i64 (os.getD k OpU.none_).g)
        have m0 := M4.c0
        have m1 := M4.c1
        have m2 := M4.c2
        have hp4 := hpr.out.alloc (.cells #[.int .i64 (os.getD k OpU.none_).k, .string (os.getD k OpU.none_).t, .int .i64 (os.getD k OpU.none_).g] 32)
        have Hdo := Lib.hid (hp4.do_ hok (os.getD k OpU.none_))
        have p0 := hp4.box.c 0 rfl
        have p1 := hp4.box.c 1 rfl
        have p2 := hp4.box.c 2 rfl
        have p3 := hp4.box.c 3 rfl
        have p4 := hp4.box.c 4 rfl
        have HM4 := Lib.hid M4
        have Hok := Lib.hid hok
        have Hlw : Hid (w3.heap.size < wr.heap.size) := Lib.hid hpr.out.box.lt
        clear hpr hp4 M4 hok
        generalize os.getD k OpU.none_ = o at *
        generalize (runU (LS.new ⟨#[]⟩ n) (os.take k) : LS ByteArray) = st at *
        have hkl : (k : Int) < (os.length : Int) := by omega
        go_wp2_with fail
        refine Hdo.out.mono ?_
        rintro e w5 ⟨Ab', cb', Af', cf', rfl, hp5, hb5⟩
        have hM5 : Bx3 w5 wr.heap.size 32 (.int .i64 o.k) (.string o.t) (.int .i64 o.g) := HM4.out.below hb5
        obtain ⟨W6, hW6⟩ : ∃ W6, (((((w5.setCell ⟨w3.heap.size, 0, none⟩ (.int .i64 ((doU st o).lim : Int))).setCell ⟨w3.heap.size, 1, none⟩ (.slice Ab' (doU st o).back.length cb')).setCell ⟨w3.heap.size, 2, none⟩ (.string (doU st o).now)).setCell ⟨w3.heap.size, 3, none⟩ (.slice Af' (doU st o).forth.length cf')).setCell ⟨w3.heap.size, 4, none⟩ (.int .i64 (doU st o).opn)) = W6 := ⟨_, rfl⟩
        have hp6 : PairU w W6 w3.heap.size b Ab' cb' Af' cf' (doU st o) st (stV Ab' cb' Af' cf' (doU st o)) := by rw [← hW6]; exact hp5.store _ _ _ _ _
        have hM6 : Bx3 W6 wr.heap.size 32 (.int .i64 o.k) (.string o.t) (.int .i64 o.g) := by rw [← hW6]; exact (((((hM5.other (by have := Hlw.out; omega) _).other (by have := Hlw.out; omega) _).other (by have := Hlw.out; omega) _).other (by have := Hlw.out; omega) _).other (by have := Hlw.out; omega) _)
        have r0 := hp5.box.c 0 rfl
        have r1 := hp5.box.c 1 rfl
        have r2 := hp5.box.c 2 rfl
        have r3 := hp5.box.c 3 rfl
        have r4 := hp5.box.c 4 rfl
        have s0 := hp5.box.free 0
        have s1 := hp5.box.free 1
        have s2 := hp5.box.free 2
        have s3 := hp5.box.free 3
        have s4 := hp5.box.free 4
        have u0 := hp6.box.c 0 rfl
        have u1 := hp6.box.c 1 rfl
        have u2 := hp6.box.c 2 rfl
        have u3 := hp6.box.c 3 rfl
        have u4' := hp6.box.c 4 rfl
        have x0 := hM6.c0
        have x1 := hM6.c1
        have x2 := hM6.c2
        have Hd := Lib.hid (hp6.does o)
        have Hp6 := Lib.hid hp6
        clear hp5 hp6 hM5 hM6 hb5 p0 p1 p2 p3 p4 m0 m1 m2 Hdo
        go_wp2_with fail
        refine Hd.out.mono ?_
        rintro e w7 ⟨b', rfl, hp7⟩
        clear hW6 u0 u1 u2 u3 u4' x0 x1 x2 r0 r1 r2 r3 r4
        have Hp7 := Lib.hid hp7
        clear Hd
        generalize didU st o = q1 at *
        clear hp7 Hp6
        go_wp2_with fail
        go_roundw
        case rel => exact ⟨k + 1, b', Ab', cb', Af', cf', by omega, by go_num, rfl, by rw [Hst.out]; exact Hp7⟩
        case measure => simp [intOf]; omega
      · obtain rfl : k = os.length := by omega
        obtain ⟨wa, rfl⟩ : ∃ wa : World, wa = wr := ⟨_, rfl⟩
        obtain ⟨st, hst⟩ : ∃ st : LS ByteArray, runU (LS.new ⟨#[]⟩ n) (os.take os.length) = st := ⟨_, rfl⟩
        rw [hst] at hpr
        obtain ⟨R, hR, _⟩ := id hpr.out
        have hok : st.Ok := log_okS hR
        have hln := hok.len
        have hle := hok.le
        have Hc1 := Lib.hid (copy_callsBS wa R b st hR)
        have HPr := Lib.hid hpr.out
        have HRa := Lib.hid hR
        clear hst hpr hok hR
        go_wp2_with fail
        refine Hc1.out.mono ?_
        rintro e w4 ⟨b1, rfl, i1⟩
        have hB4 : Below wa.heap.size wa w4 := i1.bel
        have Hc2 := Lib.hid (copy_callsBS w4 R b st (objS.below HRa.out hB4))
        have HI1 := Lib.hid i1
        clear i1 Hc1 hB4
        go_wp2_with fail
        refine Hc2.out.mono ?_
        rintro e w5 ⟨b2, rfl, i2⟩
        have ht5 : TwoU wa w5 b1 b2 st st := TwoU.start HRa.out HI1.out i2
        have hp5 := HPr.out.below ht5.bel
        have d1 := hp5.box.c 1 rfl
        have HT5 : Hid (TwoU wa w5 b1 b2 (st.undos (st.back.length - st.back.length)) st) := Lib.hid (by rw [Nat.sub_self]; exact ht5)
        clear i2 hp5 ht5 Hc2 HI1 HRa
        have hwl11 : IntKind.i64.wrap ((st.back.length : Int) - 1) = (st.back.length : Int) - 1 := IntWalk.i64_in _ (by omega)
        go_wp2_with fail
        go_loopw [11] (fun v11 wr => ∃ (j : Nat) (z : Int), j ≤ st.back.length ∧ v11 = .int .i64 z ∧ z = (j : Int) - 1 ∧ Hid (TwoU wa wr b1 b2 (st.undos (st.back.length - j)) st)) (fun v11 _ => (intOf v11 + 1).toNat)
        case atStart => exact ⟨st.back.length, _, Nat.le_refl _, rfl, rfl, HT5⟩
        case round =>
          obtain ⟨j, z, hj, rfl, hz, ht⟩ := hrel
          clear hwl11
          cases j with
          | succ i =>
            obtain rfl : z = (i : Int) := by omega
            obtain ⟨ha1, ha2⟩ := undos_at st i (by omega)
            have hil : i < st.back.length := by omega
            have hu := (ht.out).step (fun R hR => undo_callsBS _ R b1 _ hR)
            have hm : st.back.length - (i + 1) + 1 = st.back.length - i := by omega
            rw [show decide ((st.undos (st.back.length - (i + 1))).back ≠ []) = true from decide_eq_true ha1, show (st.undos (st.back.length - (i + 1))).undo = st.undos (st.back.length - i) by rw [← hm]; rfl] at hu
            have Hu := Lib.hid hu
            have Hat := Lib.hid ha2
            have hdec : decide ((0 : Int) ≤ (i : Int)) = true := decide_eq_true (by omega)
            have hil2 : (i : Int) < (st.back.length : Int) := by omega
            have hws : IntKind.i64.wrap ((i : Int) - 1) = (i : Int) - 1 := IntWalk.i64_in _ (by omega)
            clear ha1 ha2 hu hz hj hm ht
            go_wp2_with fail
            refine Hu.out.mono ?_
            rintro e w7 ⟨rfl, h7⟩
            have hp7 := HPr.out.below h7.bel
            have d7 := hp7.box.c 1 rfl
            obtain ⟨gg, oo, rfl, hgg, hcc⟩ := hp7.doc.rb.at_ (by omega)
            have ck := hcc _ _ Hat.out
            have H7 := Lib.hid h7
            clear h7 hp7 hcc Hu
            go_wp2_with fail
            go_roundw
            case rel => exact ⟨i, _, by omega, rfl, rfl, H7⟩
            case measure => simp [intOf] <;> omega
          | zero =>
            obtain rfl : z = -1 := by omega
            have hdec : decide ((0 : Int) ≤ -1) = false := rfl
            rw [Nat.sub_zero] at ht
            clear hz hj
            clear HT5 d1
            have hpz := HPr.out.below ht.out.bel
            have d3 := hpz.box.c 3 rfl
            clear hpz
            have HT3 : Hid (TwoU wa wr b1 b2 (st.undos st.back.length) (st.redos (st.forth.length - st.forth.length))) := Lib.hid (by rw [Nat.sub_self]; exact ht.out)
            clear ht
            have hwl14 : IntKind.i64.wrap ((st.forth.length : Int) - 1) = (st.forth.length : Int) - 1 := IntWalk.i64_in _ (by omega)
            go_wp2_with fail
            go_loopw [14] (fun v11 wr => ∃ (j : Nat) (z : Int), j ≤ st.forth.length ∧ v11 = .int .i64 z ∧ z = (j : Int) - 1 ∧ Hid (TwoU wa wr b1 b2 (st.undos st.back.length) (st.redos (st.forth.length - j)))) (fun v11 _ => (intOf v11 + 1).toNat)
            case atStart => exact ⟨st.forth.length, _, Nat.le_refl _, rfl, rfl, HT3⟩
            case round =>
              obtain ⟨j, z, hj, rfl, hz, ht⟩ := hrel
              clear hwl14
              cases j with
              | succ i =>
                obtain rfl : z = (i : Int) := by omega
                obtain ⟨ha1, ha2⟩ := redos_at st i (by omega)
                have hil : i < st.forth.length := by omega
                have hu := (ht.out.swap).step (fun R hR => redo_callsBS _ R b2 _ hR)
                have hm : st.forth.length - (i + 1) + 1 = st.forth.length - i := by omega
                rw [show decide ((st.redos (st.forth.length - (i + 1))).forth ≠ []) = true from decide_eq_true ha1, show (st.redos (st.forth.length - (i + 1))).redo = st.redos (st.forth.length - i) by rw [← hm]; rfl] at hu
                have Hu := Lib.hid hu
                have Hat := Lib.hid ha2
                have hdec : decide ((0 : Int) ≤ (i : Int)) = true := decide_eq_true (by omega)
                have hil2 : (i : Int) < (st.forth.length : Int) := by omega
                have hws : IntKind.i64.wrap ((i : Int) - 1) = (i : Int) - 1 := IntWalk.i64_in _ (by omega)
                clear ha1 ha2 hu hz hj hm ht
                go_wp2_with fail
                refine Hu.out.mono ?_
                rintro e w7 ⟨rfl, h7⟩
                have hp7 := HPr.out.below h7.bel
                have d7 := hp7.box.c 3 rfl
                obtain ⟨gg, oo, rfl, hgg, hcc⟩ := hp7.doc.rf.at_ (by omega)
                have ck := hcc _ _ Hat.out
                have H7 := Lib.hid h7.swap
                clear h7 hp7 hcc Hu
                go_wp2_with fail
                go_roundw
                case rel => exact ⟨i, _, by omega, rfl, rfl, H7⟩
                case measure => simp [intOf] <;> omega
              | zero =>
                obtain rfl : z = -1 := by omega
                have hdec : decide ((0 : Int) ≤ -1) = false := rfl
                rw [Nat.sub_zero] at ht
                clear hz hj
                clear HT3
                have hu := ht.out.step (fun R hR => undo_callsBS _ R b1 _ hR)
                rw [show decide ((st.undos st.back.length).back ≠ []) = false from decide_eq_false (fun h => h (by rw [LS.undos_back _ _ (Nat.le_refl _), Nat.sub_self, List.take_zero]))] at hu
                have Hu := Lib.hid hu
                clear hu ht
                go_wp2_with fail
                refine Hu.out.mono ?_
                rintro e w7 ⟨rfl, h7⟩
                have hr := h7.swap.step (fun R hR => redo_callsBS _ R b2 _ hR)
                rw [show decide ((st.redos st.forth.length).forth ≠ []) = false from decide_eq_false (fun h => h (by rw [LS.redos_forth _ _ (Nat.le_refl _), Nat.sub_self, List.take_zero]))] at hr
                have Hr := Lib.hid hr
                clear hr h7 Hu
                go_wp2_with fail
                refine Hr.out.mono ?_
                rintro e w8 ⟨rfl, h8⟩
                have hp8 := HPr.out.below h8.bel
                have Hp8 := Lib.hid hp8
                have Hal := Lib.hid (ualive_calls w8)
                clear h8 hp8 Hr
                go_wp2_with fail
                refine Hal.out.mono ?_
                rintro e w9 ⟨rfl, hb9⟩
                have hp9 := Hp8.out.below hb9
                have c0 := hp9.box.c 0 rfl
                have c1 := hp9.box.c 1 rfl
                have c2 := hp9.box.c 2 rfl
                have c3 := hp9.box.c 3 rfl
                have c4 := hp9.box.c 4 rfl
                have Hs := Lib.hid hp9.stands
                clear hp9 hb9 Hal
                go_wp2_with fail
                refine Hs.out.mono ?_
                rintro e w10 ⟨rfl, hp10⟩
                have HB := Lib.hid hp10.bel
                clear hp10 Hs
                go_wp2
                go_ret
                exact ⟨rfl, HB.out⟩
end Go.Proofs.Ytgcafmofpflidaa
