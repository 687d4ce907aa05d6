/-
  text.isWord and throughWord: what the calls come to.
-/
import Derived.Test.YtifdgaklchihbaaDoorSteps
namespace Go.Proofs.YtifdgaklchihbaaDoor
open Go Go.RowKit

theorem nextL_bound (c : List UInt8) : (nextL c).1 ≤ 1114111 := by
  by_cases h : c = []
  · subst h; simp [nextL_nil]
  · have e : nextL c = Lib.decodeL c := by simp [nextL, h]
    have hv := decodeL_valid c
    rw [e]
    unfold Valid at hv
    omega
set_option maxHeartbeats 2000000 in
theorem isWord_calls (c : List UInt8) (hl : c.length ≤ 1099511627776) (w : World) :
    Calls Tryd.prog 58 #[.string (bs c)] w fun e w' => e = .returned (.bool (wordL c)) ∧ Below w.heap.size w w' := by
  have hs6 := Lib.run_convert_string_bytes (P := Tryd.prog) w 9 56 5 (bs c) Tryd.underlying9 Tryd.underlying56 Tryd.underlying5
  have hsz := bs_size c
  have kw := below_bytes w 5 ⟨c.toArray⟩
  have Hn := Lib.hid (next_calls _ (grownCap w c.length 0 5) c _ (byt_bytes w c) (grownCap_ge w c.length 0 5) (grownCap_le_maxLen w c.length 0 5 (by unfold maxLen; omega)))
  have hb := nextL_bound c
  have Hw : Hid (wordL c = wordR ((nextL c).1 : Int)) := Lib.hid rfl
  have Hkw := Lib.hid kw
  clear kw
  generalize (nextL c).1 = r at *
  generalize (nextL c).2 = z at *
  generalize wordL c = q at *
  go_enter Tryd.func58, Tryd.ntmps58
  go_wp2_with fail
  refine Hn.out.mono ?_
  rintro e w1 ⟨rfl, hb1⟩
  have Hk := Lib.hid (Hkw.out.trans (hb1.mono Hkw.out.size))
  clear hb1 hs6
  go_wp2
  all_goals
    go_ret
    refine ⟨?_, Hk.out⟩
    rw [Hw.out]
    refine congrArg (fun b : Bool => Ending.returned (Value.bool b)) ?_
    apply Bool.eq_iff_iff.2
    simp only [wordR, Bool.or_eq_true, decide_eq_true_eq, beq_iff_eq]
    first | omega | (refine ⟨fun _ => ?_, fun _ => trivial⟩; omega)

theorem skip_yes (q : Bool) (cs : List (List UInt8)) (k : Nat) (hk : k < cs.length) (h : wordL (cs.getD k []) = q) : skipN q (cs.drop k) = skipN q (cs.drop (k + 1)) + 1 := by
  have e : cs.drop k = cs.getD k [] :: cs.drop (k + 1) := by
    rw [List.drop_eq_getElem_cons hk]; simp [List.getD, hk]
  rw [e]
  conv => lhs; unfold skipN
  rw [if_pos h]
theorem skip_no (q : Bool) (cs : List (List UInt8)) (k : Nat) (hk : k < cs.length) (h : wordL (cs.getD k []) ≠ q) : skipN q (cs.drop k) = 0 := by
  have e : cs.drop k = cs.getD k [] :: cs.drop (k + 1) := by
    rw [List.drop_eq_getElem_cons hk]; simp [List.getD, hk]
  rw [e]
  unfold skipN
  rw [if_neg h]
theorem skip_end (q : Bool) (cs : List (List UInt8)) (k : Nat) (hk : ¬ k < cs.length) : skipN q (cs.drop k) = 0 := by
  rw [List.drop_of_length_le (by omega)]; rfl
/-- Does the next cluster go on? -/
def nxtB (cs : List (List UInt8)) (k : Nat) (q : Bool) : Bool := decide (k < cs.length) && (wordL (cs.getD k []) == q)

set_option maxHeartbeats 2000000 in
theorem nextIs_calls (q : Bool) (gn gc : Nat) (A : Option Addr) (c : Nat) (cs : List (List UInt8)) (k : Nat) (w : World) (hn : Boxed w gn 3 (.int .i64 (k : Int))) (hc : Boxed w gc 47 (.slice A cs.length c)) (hR : RdS w A (cs.map bs)) (hk : k ≤ cs.length) (hm : cs.flatten.length ≤ 1099511627776) :
    Calls Tryd.prog 57 #[.bool q, .pointer (some ⟨gn, 0, none⟩), .pointer (some ⟨gc, 0, none⟩)] w fun e w' => e = .returned (.bool (nxtB cs k q)) ∧ Below w.heap.size w w' := by
  have cn := hn.cell
  have cc := hc.cell
  by_cases hlt : k < cs.length
  · have hd : decide ((k : Int) < (cs.length : Int)) = true := decide_eq_true (by omega)
    have hq : nxtB cs k q = (wordL (cs.getD k []) == q) := by unfold nxtB; rw [decide_eq_true hlt]; rfl
    rw [hq]
    obtain ⟨g, o, rfl, hg, hcell⟩ := rdS_at hR (by omega)
    have ck := hcell k hlt
    have hlen : (cs.getD k []).length ≤ 1099511627776 := by
      have h1 := pos_succ cs k hlt
      have h2 := pos_le cs (k + 1)
      omega
    have HW := Lib.hid (fun W => isWord_calls (cs.getD k []) hlen W)
    have hkl : (k : Int) < (cs.length : Int) := by omega
    clear hR hcell hq hlen
    generalize wordL (cs.getD k []) = b at *
    generalize cs.getD k [] = d at *
    go_enter Tryd.func57, Tryd.ntmps57
    go_wp2_with fail
    refine (HW.out _).mono ?_
    rintro e w1 ⟨rfl, hb1⟩
    go_wp2
    go_ret
    exact ⟨rfl, hb1⟩
  · have hd : decide ((k : Int) < (cs.length : Int)) = false := decide_eq_false (by omega)
    have hq : nxtB cs k q = false := by unfold nxtB; rw [decide_eq_false hlt]; rfl
    rw [hq]
    go_enter Tryd.func57, Tryd.ntmps57
    go_wp2
    go_ret
    exact ⟨rfl, Below.refl _ _⟩

/-- The number that lies in a box. -/
def numAt (w : World) (g : Nat) : Nat := match w.cell? ⟨g, 0, none⟩ with | some (.int _ z) => z.toNat | _ => 0
theorem numAt_of {w : World} {g : Nat} {t : TypeId} {k : Nat} (h : Boxed w g t (.int .i64 (k : Int))) : numAt w g = k := by
  unfold numAt; rw [h.cell]; simp

/-- What stands at a round's head. -/
def ThrAt (w : World) (A : Option Addr) (c : Nat) (cs : List (List UInt8)) (v5 : Value) (wr : World) (k : Nat) : Prop :=
  v5 = .int .i64 (pos cs k : Int) ∧ k ≤ cs.length ∧ Boxed wr (w.heap.size + 1) 3 (.int .i64 (k : Int)) ∧ Boxed wr w.heap.size 47 (.slice A cs.length c) ∧ Below w.heap.size w wr

set_option maxHeartbeats 8000000 in
theorem through_calls (A : Option Addr) (c : Nat) (cs : List (List UInt8)) (w : World) (hR : RdS w A (cs.map bs)) (hm : cs.flatten.length ≤ 1099511627776) (hn : cs.length ≤ 1099511627776) :
    Calls Tryd.prog 48 #[.slice A cs.length c] w fun e w' => e = .returned (.int .i64 (thrL cs : Int)) ∧ Below w.heap.size w w' := by
  have hK : Hid (thrL cs = pos cs (skipN false cs + skipN true (cs.drop (skipN false cs)))) := Lib.hid rfl
  have b0 := (Boxed.new w 47 (.slice A cs.length c)).alloc (.cells #[.int .i64 0] 3)
  have n0 := Boxed.new (w.alloc (.cells #[.slice A cs.length c] 47)) 3 (.int .i64 0)
  rw [World.size_alloc] at n0
  have k0 : Below w.heap.size w ((w.alloc (.cells #[.slice A cs.length c] 47)).alloc (.cells #[.int .i64 0] 3)) := ((Below.refl _ w).alloc (Nat.le_refl _) _).alloc (by simp) _
  have HR := Lib.hid hR
  have B0 := Lib.hid b0
  have N0 := Lib.hid n0
  have K0 := Lib.hid k0
  clear hR b0 n0 k0
  go_enter Tryd.func48, Tryd.ntmps48
  go_wp2_with fail
  go_loopw [5] (fun v5 wr => ∃ k, ThrAt w A c cs v5 wr k ∧ Hid (k + skipN false (cs.drop k) = skipN false cs)) (fun _ wr => cs.length - numAt wr (w.heap.size + 1))
  case atStart => exact ⟨0, ⟨rfl, Nat.zero_le _, N0.out, B0.out, K0.out⟩, Lib.hid (by simp)⟩
  case round =>
    obtain ⟨k, ⟨rfl, hk, hnx, hcl, hbel⟩, hinv⟩ := hrel
    have HC := Lib.hid (nextIs_calls false (w.heap.size + 1) w.heap.size A c cs k wr hnx hcl (HR.out.below hbel) hk hm)
    have hnum := Lib.hid (numAt_of hnx)
    cases hb : nxtB cs k false with
    | true =>
      rw [hb] at HC
      have hlt : k < cs.length := by
        unfold nxtB at hb
        simp only [Bool.and_eq_true, decide_eq_true_eq] at hb
        exact hb.1
      have hwd : wordL (cs.getD k []) = false := by
        unfold nxtB at hb
        simp only [Bool.and_eq_true, beq_iff_eq] at hb
        exact hb.2
      have hps := Lib.hid (pos_succ cs k hlt)
      have hple := pos_le cs (k + 1)
      rw [hps.out] at hple
      have hsk := Lib.hid (skip_yes false cs k hlt hwd)
      obtain ⟨g, o, rfl, hg, hcell⟩ := rdS_at HR.out (by omega)
      have hckw := hcell k hlt
      have hsz := bs_size (cs.getD k [])
      have Hnx := Lib.hid hnx
      have Hcl := Lib.hid hcl
      have Hbel := Lib.hid hbel
      have Hckw := Lib.hid hckw
      have hkl : (k : Int) < (cs.length : Int) := by omega
      have hw1 : IntKind.i64.wrap ((k : Int) + 1) = (k : Int) + 1 := IntWalk.i64_in _ (by omega)
      clear hb hwd hcell hckw hnx hcl hbel
      generalize cs.getD k [] = d at *
      generalize hp0 : pos cs k = p0 at *
      have hw2 : IntKind.i64.wrap ((p0 : Int) + (d.length : Int)) = (p0 : Int) + (d.length : Int) := IntWalk.i64_in _ (by omega)
      clear hp0
      go_wp2_with fail
      refine HC.out.mono ?_
      rintro e w1 ⟨rfl, hb1⟩
      have nx1 : Boxed w1 (w.heap.size + 1) 3 (.int .i64 (k : Int)) := (hb1.block _ Hnx.out.lt).trans Hnx.out
      have cl1 : Boxed w1 w.heap.size 47 (.slice (some ⟨g, o, none⟩) cs.length c) := (hb1.block _ Hcl.out.lt).trans Hcl.out
      have be1 : Below w.heap.size w w1 := Hbel.out.trans (hb1.mono Hbel.out.size)
      have cn1 := nx1.cell
      have fn1 := nx1.frozen
      have cc1 := cl1.cell
      have ce1 : w1.cell? ⟨g, o + k, none⟩ = some (.string (bs d)) := by rw [be1.cell (p := ⟨g, o + k, none⟩) hg]; exact Hckw.out
      have Nx1 := Lib.hid (nx1.set (.int .i64 ((k : Int) + 1)))
      have Cl1 := Lib.hid (cl1.other (show w.heap.size ≠ w.heap.size + 1 by omega) (.int .i64 ((k : Int) + 1)))
      have Be1 := Lib.hid (be1.setCell (p := ⟨w.heap.size + 1, 0, none⟩) (Nat.le_succ _) (.int .i64 ((k : Int) + 1)))
      clear hb1 nx1 cl1 be1
      go_wp2
      go_roundw
      case rel =>
        refine ⟨k + 1, ⟨by rw [hps.out]; go_num, by omega, by simpa using Nx1.out, Cl1.out, Be1.out⟩, Lib.hid ?_⟩
        have := hinv.out
        rw [hsk.out] at this
        omega
      case measure =>
        have hn1 : numAt (w1.setCell ⟨w.heap.size + 1, 0, none⟩ (.int .i64 ((k : Int) + 1))) (w.heap.size + 1) = k + 1 := numAt_of (t := 3) (by simpa using Nx1.out)
        rw [hn1, hnum.out]; omega
    | false =>
      rw [hb] at HC
      have hsk : Hid (skipN false (cs.drop k) = 0) := Lib.hid (by
        by_cases hlt : k < cs.length
        · refine skip_no false cs k hlt fun h => ?_
          unfold nxtB at hb
          rw [decide_eq_true hlt, h] at hb
          simp at hb
        · exact skip_end false cs k hlt)
      have Hnx := Lib.hid hnx
      have Hcl := Lib.hid hcl
      have Hbel := Lib.hid hbel
      have Hk := Lib.hid hk
      clear hb hnx hcl hbel hk
      generalize hp0 : pos cs k = p0 at *
      have Hp0 := Lib.hid hp0
      clear hp0
      go_wp2_with fail
      refine HC.out.mono ?_
      rintro e w1 ⟨rfl, hb1⟩
      have nx1 : Boxed w1 (w.heap.size + 1) 3 (.int .i64 (k : Int)) := (hb1.block _ Hnx.out.lt).trans Hnx.out
      have cl1 : Boxed w1 w.heap.size 47 (.slice A cs.length c) := (hb1.block _ Hcl.out.lt).trans Hcl.out
      have be1 : Below w.heap.size w w1 := Hbel.out.trans (hb1.mono Hbel.out.size)
      have Nx1 := Lib.hid nx1
      have Cl1 := Lib.hid cl1
      have Be1 := Lib.hid be1
      clear hb1 nx1 cl1 be1
      go_wp2_with fail
      go_loopw [5] (fun v5 wr => ∃ k, ThrAt w A c cs v5 wr k ∧ Hid (k + skipN true (cs.drop k) = skipN false cs + skipN true (cs.drop (skipN false cs)))) (fun _ wr => cs.length - numAt wr (w.heap.size + 1))
      case atStart => exact ⟨k, ⟨by rw [Hp0.out], Hk.out, Nx1.out, Cl1.out, Be1.out⟩, Lib.hid (by have h1 := hinv.out; rw [hsk.out, Nat.add_zero] at h1; rw [h1])⟩
      case round =>
        obtain ⟨k, ⟨rfl, hk, hnx, hcl, hbel⟩, hinv⟩ := hrel
        have HC := Lib.hid (nextIs_calls true (w.heap.size + 1) w.heap.size A c cs k wr hnx hcl (HR.out.below hbel) hk hm)
        have hnum := Lib.hid (numAt_of hnx)
        cases hb : nxtB cs k true with
        | true =>
          rw [hb] at HC
          have hlt : k < cs.length := by
            unfold nxtB at hb
            simp only [Bool.and_eq_true, decide_eq_true_eq] at hb
            exact hb.1
          have hwd : wordL (cs.getD k []) = true := by
            unfold nxtB at hb
            simp only [Bool.and_eq_true, beq_iff_eq] at hb
            exact hb.2
          have hps := Lib.hid (pos_succ cs k hlt)
          have hple := pos_le cs (k + 1)
          rw [hps.out] at hple
          have hsk := Lib.hid (skip_yes true cs k hlt hwd)
          obtain ⟨g, o, rfl, hg, hcell⟩ := rdS_at HR.out (by omega)
          have hckw := hcell k hlt
          have hsz := bs_size (cs.getD k [])
          have Hnx := Lib.hid hnx
          have Hcl := Lib.hid hcl
          have Hbel := Lib.hid hbel
          have Hckw := Lib.hid hckw
          have hkl : (k : Int) < (cs.length : Int) := by omega
          have hw1 : IntKind.i64.wrap ((k : Int) + 1) = (k : Int) + 1 := IntWalk.i64_in _ (by omega)
          clear hb hwd hcell hckw hnx hcl hbel
          generalize cs.getD k [] = d at *
          generalize hp0 : pos cs k = p0 at *
          have hw2 : IntKind.i64.wrap ((p0 : Int) + (d.length : Int)) = (p0 : Int) + (d.length : Int) := IntWalk.i64_in _ (by omega)
          clear hp0
          go_wp2_with fail
          refine HC.out.mono ?_
          rintro e w1 ⟨rfl, hb1⟩
          have nx1 : Boxed w1 (w.heap.size + 1) 3 (.int .i64 (k : Int)) := (hb1.block _ Hnx.out.lt).trans Hnx.out
          have cl1 : Boxed w1 w.heap.size 47 (.slice (some ⟨g, o, none⟩) cs.length c) := (hb1.block _ Hcl.out.lt).trans Hcl.out
          have be1 : Below w.heap.size w w1 := Hbel.out.trans (hb1.mono Hbel.out.size)
          have cn1 := nx1.cell
          have fn1 := nx1.frozen
          have cc1 := cl1.cell
          have ce1 : w1.cell? ⟨g, o + k, none⟩ = some (.string (bs d)) := by rw [be1.cell (p := ⟨g, o + k, none⟩) hg]; exact Hckw.out
          have Nx1 := Lib.hid (nx1.set (.int .i64 ((k : Int) + 1)))
          have Cl1 := Lib.hid (cl1.other (show w.heap.size ≠ w.heap.size + 1 by omega) (.int .i64 ((k : Int) + 1)))
          have Be1 := Lib.hid (be1.setCell (p := ⟨w.heap.size + 1, 0, none⟩) (Nat.le_succ _) (.int .i64 ((k : Int) + 1)))
          clear hb1 nx1 cl1 be1
          go_wp2
          go_roundw
          case rel =>
            refine ⟨k + 1, ⟨by rw [hps.out]; go_num, by omega, by simpa using Nx1.out, Cl1.out, Be1.out⟩, Lib.hid ?_⟩
            have := hinv.out
            rw [hsk.out] at this
            omega
          case measure =>
            have hn1 : numAt (w1.setCell ⟨w.heap.size + 1, 0, none⟩ (.int .i64 ((k : Int) + 1))) (w.heap.size + 1) = k + 1 := numAt_of (t := 3) (by simpa using Nx1.out)
            rw [hn1, hnum.out]; omega
        | false =>
          rw [hb] at HC
          have hsk : Hid (skipN true (cs.drop k) = 0) := Lib.hid (by
            by_cases hlt : k < cs.length
            · refine skip_no true cs k hlt fun h => ?_
              unfold nxtB at hb
              rw [decide_eq_true hlt, h] at hb
              simp at hb
            · exact skip_end true cs k hlt)
          have Hnx := Lib.hid hnx
          have Hcl := Lib.hid hcl
          have Hbel := Lib.hid hbel
          have Hk := Lib.hid hk
          clear hb hnx hcl hbel hk
          generalize hp0 : pos cs k = p0 at *
          have Hp0 := Lib.hid hp0
          clear hp0
          go_wp2_with fail
          refine HC.out.mono ?_
          rintro e w1 ⟨rfl, hb1⟩
          have be1 : Below w.heap.size w w1 := Hbel.out.trans (hb1.mono Hbel.out.size)
          have He : Hid (thrL cs = p0) := Lib.hid (by
            have h1 := hinv.out
            rw [hsk.out] at h1
            rw [hK.out, ← h1, ← Hp0.out]; rfl)
          clear hb1
          go_wp2
          go_ret
          exact ⟨by rw [He.out]; rfl, be1⟩
end Go.Proofs.YtifdgaklchihbaaDoor
