/-
  Layer 7 and what it stands on, part 21 (RefBnd WRdA RBack).
-/
import Derived.Test.YtlmbafnoopfilaaGreatDoorPg14
import Derived.Deep.RegionLaw
import Derived.Deep.RegionHeld3
namespace Go.Proofs.YtlmbafnoopfilaaGreatDoor
section
open Go Go.RowKit
theorem own_one (w : World) (base : Nat) (hb : base ≤ w.heap.size) (e : TypeId) (x : Value) : (w.alloc (.cells #[x] e)).ownsRow base e 1 (.slice (some ⟨w.heap.size, 0, none⟩) 1 1) 1 [x] :=
  ⟨rfl, .inr ⟨w.heap.size, 1, #[x], rfl, hb, heap_alloc_new w _, by omega, by unfold maxLen; omega, by simp, by simp⟩⟩
theorem own_readS {w : World} {base : Nat} {A : Option Addr} {c n : Nat} {ls : List ByteArray} (h : w.ownsRow base 9 1 (.slice A n c) n (cellsS ls)) (hn : 0 < n) :
    ∃ g, A = some ⟨g, 0, none⟩ ∧ base ≤ g ∧ g < w.heap.size ∧ ∀ i, i < n → w.cell? ⟨g, i, none⟩ = some (.string (ls.getD i ⟨#[]⟩)) := by
  have hl : ls.length = n := by have := h.1; rw [cellsS_length] at this; omega
  rcases h.2 with ⟨_, h0⟩ | ⟨g, cap, cur, hv, hg, hh, _⟩
  · omega
  · injection hv with h1 h2 h3
    subst h1
    refine ⟨g, rfl, hg, (Array.getElem?_eq_some_iff.1 hh).1, fun i hi => ?_⟩
    have := h.cells (g := g) rfl i (.string (ls.getD i ⟨#[]⟩)) (by simp [cellsS, hl, hi, List.getD])
    rw [Addr.add_lit] at this
    simpa using this
theorem cell_of_block {w w' : World} {g i : Nat} (h : w'.heap[g]? = w.heap[g]?) : w'.cell? ⟨g, i, none⟩ = w.cell? ⟨g, i, none⟩ := by simp only [World.cell?, h]
/-- What stands at a round's head. -/
def BndAt (w w1 : World) (cs : List (List UInt8)) (v3 : Value) (wr : World) (k : Nat) : Prop :=
  wr.ownsRow w.heap.size 3 1 v3 (k + 1) (cells64 (bnd 0 (cs.take k))) ∧ (∀ b, v3.ownBlock = some b → b = w.heap.size ∨ w1.heap.size ≤ b) ∧ Below w.heap.size w wr ∧ w1.heap.size ≤ wr.heap.size ∧ (∀ j, j < w1.heap.size → j ≠ w.heap.size → wr.heap[j]? = w1.heap[j]?)
theorem BndAt.step {w w1 wr w3 : World} {cs : List (List UInt8)} {v3 v' : Value} {k : Nat} {o : Obj} (h : BndAt w w1 cs v3 wr k) (hw1 : w.heap.size < w1.heap.size) (hk : k < cs.length)
    (hown : w3.ownsRow w.heap.size 3 1 v' (k + 1 + 1) (cells64 (bnd 0 (cs.take k)) ++ [.int .i64 (((cs.take k).flatten.length + (cs.getD k []).length : Nat) : Int)]))
    (hg : (wr.alloc o).grownBy w3 v3.ownBlock) (hv' : v'.ownBlock = v3.ownBlock ∨ v'.ownBlock = some (wr.alloc o).heap.size) : BndAt w w1 cs v' w3 (k + 1) := by
  obtain ⟨ho, hbk, hb, hsz, hkp⟩ := h
  have hgs := hg.size
  rw [World.size_alloc] at hgs
  refine ⟨?_, ?_, ?_, by omega, ?_⟩
  · have e : cs.take (k + 1) = cs.take k ++ [cs.getD k []] := by
      rw [List.take_succ_eq_append_getElem hk]; simp [List.getD, hk]
    rw [e, bnd_snoc, cells64_snoc]
    simpa using hown
  · intro b hb'
    rcases hv' with e | e
    · exact hbk b (by rw [← e]; exact hb')
    · rw [e] at hb'
      injection hb' with hb'
      rw [World.size_alloc] at hb'
      right; omega
  · exact (hb.alloc (by omega) o).grown hg (by simp; omega) (fun j hj => by rcases hbk j hj with h | h <;> omega)
  · intro j hj hne
    rw [hg.block j (by simp; omega) (fun e => by rcases hbk j e.symm with h | h <;> omega), Below.heap_alloc _ _ _ (by omega)]
    exact hkp j hj hne
set_option maxRecDepth 100000 in
set_option maxHeartbeats 4000000 in
theorem rbounds_calls (l0 : List UInt8) (w : World) (hl0 : l0.length ≤ 1099511627776) :
    Calls Tryz.prog 60 #[.string (bs l0)] w fun e w' => ∃ v, e = .returned v ∧ w'.ownsRow w.heap.size 3 1 v (boundsL l0).length (cells64 (boundsL l0)) ∧ Below w.heap.size w w' := by
  obtain ⟨i1, hi1, hy0, hy1, hy2⟩ := info_parts info64
  have HC := Lib.hid (rcut_calls l0 (w.alloc (.cells #[.int .i64 0] 3)) hl0)
  have hcl := cutL_length l0
  have hfl : Hid (∀ k, (((cutL l0).take k).flatten.length + ((cutL l0).getD k []).length) ≤ 2 * l0.length) := Lib.hid fun k => by
    have h1 : ((cutL l0).take k).flatten.length + ((cutL l0).drop k).flatten.length = l0.length := by
      rw [← List.length_append, ← List.flatten_append, List.take_append_drop, cutL_flatten]
    have h2 : ((cutL l0).getD k []).length ≤ l0.length := by
      by_cases hk : k < (cutL l0).length
      · have e : (cutL l0).getD k [] = (cutL l0)[k] := by simp [List.getD, hk]
        rw [e]; exact (cut_mem l0 _ (List.getElem_mem hk)).2.2
      · simp [List.getD, hk]
    omega
  have hbl : Hid (boundsL l0 = bnd 0 (cutL l0)) := Lib.hid rfl
  generalize cutL l0 = cs at *
  go_enter Tryz.func60, Tryz.ntmps60
  go_wp2_with fail
  refine HC.out.mono ?_
  rintro e w1 ⟨v1, rfl, hown1, hb1⟩
  obtain ⟨A1, c1, rfl⟩ := own_form hown1
  have Hrd : Hid (0 < cs.length → ∃ g, A1 = some ⟨g, 0, none⟩ ∧ w.heap.size < g ∧ g < w1.heap.size ∧ ∀ i, i < cs.length → w1.cell? ⟨g, i, none⟩ = some (.string (bs (cs.getD i [])))) := Lib.hid fun hn => by
    obtain ⟨g, e, h1, h2, h3⟩ := own_readS hown1 hn
    exact ⟨g, e, by simp at h1; omega, h2, fun i hi => by rw [h3 i hi, getD_bs]⟩
  have hz1 : w.heap.size < w1.heap.size := by have := hb1.size; simp at this; omega
  have hb : Below w.heap.size w w1 := ((Below.refl _ w).alloc (Nat.le_refl _) _).trans (hb1.mono (by simp))
  have ho0 : w1.ownsRow w.heap.size 3 1 (.slice (some ⟨w.heap.size, 0, none⟩) 1 1) 1 [.int .i64 0] := own_below (own_one w w.heap.size (Nat.le_refl _) 3 (.int .i64 0)) hb1
  have Ho0 := Lib.hid ho0
  have Hb := Lib.hid hb
  clear hown1 hb1 HC ho0 hb
  go_wp2_with fail
  go_loopw [3, 5] (fun v3 v5 wr => ∃ k : Nat, k ≤ cs.length ∧ v5 = .int .i64 (k : Int) ∧ BndAt w w1 cs v3 wr k) (fun _ v5 _ => cs.length - (intOf v5).toNat)
  case atStart =>
    refine ⟨0, by omega, rfl, ?_, ?_, Hb.out, Nat.le_refl _, fun _ _ _ => rfl⟩
    · simpa [bnd, cells64] using Ho0.out
    · intro b hb
      left
      simpa [Value.ownBlock] using hb.symm
  case round =>
    obtain ⟨k, hk, rfl, hat⟩ := hrel
    by_cases hlt : k < cs.length
    · obtain ⟨ho, hbk, hbw, hszw, hkp⟩ := id hat
      obtain ⟨g, rfl, hg1, hg2, hc⟩ := Hrd.out (by omega)
      have ck : wr.cell? ⟨g, k, none⟩ = some (.string (bs (cs.getD k []))) := by rw [cell_of_block (hkp g hg2 (by omega))]; exact hc k hlt
      obtain ⟨go, cap, rfl⟩ := ownsRow_succ ho
      have co : wr.cell? ⟨go, k, none⟩ = some (.int .i64 ((cs.take k).flatten.length : Int)) := by
        refine (own_cell ho (i := k) ?_).1
        have e : (bnd 0 (cs.take k)).getD k 0 = (cs.take k).flatten.length := by
          rw [bnd_getD 0 _ k (by rw [List.length_take]; omega), List.take_take, Nat.min_self, Nat.zero_add]
        have hl : k < (bnd 0 (cs.take k)).length := by rw [bnd_length, List.length_take]; omega
        simp only [cells64, List.getElem?_map]
        rw [List.getElem?_eq_getElem hl]
        rw [List.getD, List.getElem?_eq_getElem hl, Option.getD_some] at e
        rw [e]; rfl
      have hfk := hfl.out k
      have hcl2 := bs_size (cs.getD k [])
      have Hat := Lib.hid hat
      have Ho := Lib.hid ho
      clear hat ho hc hbk hkp
      generalize hN1 : (cs.take k).flatten.length = n1 at *
      have HN := Lib.hid hN1
      generalize hCk : cs.getD k [] = cK at *
      have HCk := Lib.hid hCk
      clear hN1 hCk
      generalize hN2 : cK.length = n2 at *
      have HN2 := Lib.hid hN2
      clear hN2
      have hwr : IntKind.i64.wrap ((n1 : Int) + (n2 : Int)) = (n1 : Int) + (n2 : Int) := IntWalk.i64_in _ (by omega)
      obtain ⟨v', w3, hrun, hown', hg, _, hv'⟩ := run_append_own_at (P := Tryz.prog) (wr.alloc (.cells #[.int .i64 ((n1 : Int) + (n2 : Int))] 3)).drew w.heap.size 66 66 3 i1 (.int .i64 0) 1 8 Tryz.underlying66 hi1 hy0 hy1 hy2 rfl (by decide)
        (.slice (some ⟨go, 0, none⟩) (k + 1) cap) (k + 1) (cells64 (bnd 0 (cs.take k))) (Ho.out.alloc _).drew ⟨wr.heap.size, 0, none⟩ 1 1 [.int .i64 ((n1 : Int) + (n2 : Int))] rfl (by
          intro j u hj
          exact cell_one_new wr _ _ j u hj) (by simp [Value.oneCell']) (by unfold maxLen; omega) (by omega) (by simp; omega)
      have Hst := Lib.hid (Hat.out.step (w3 := w3) (v' := v') (o := .cells #[.int .i64 ((n1 : Int) + (n2 : Int))] 3) hz1 hlt (by rw [HN.out, HCk.out, HN2.out]; simpa using hown') ⟨hg.os, hg.tape, hg.output, hg.size, hg.block⟩ hv')
      clear hown' hg hv'
      have Hrun := Lib.hid hrun
      clear hrun
      have hkk : (k : Int) < (k : Int) + 1 := by omega
      have hkl : (k : Int) < (cs.length : Int) := by omega
      go_wp2_with fail
      go_region_law (refine step_append_g (o := ⟨some 27, _, _, _, _, _⟩) (by rfl) (.tmp 15) (.tmp 26) 66 rfl _ _ rfl rfl Hrun.out ?_)
      all_goals
        go_wp2
        go_roundw
        case rel => exact ⟨k + 1, by omega, by go_num, Hst.out⟩
        case measure => simp [intOf]; omega
    · go_wp2
      go_ret
      obtain rfl : k = cs.length := by omega
      obtain ⟨ho, _, hbw, _⟩ := hat
      rw [List.take_length] at ho
      rw [hbl.out]
      exact ⟨_, rfl, by rw [bnd_length]; exact ho, hbw⟩
end
section
open Go Go.RowKit
theorem rbounds_rd (l : List UInt8) (hl : l.length ≤ 1099511627776) (w : World) :
    Calls Tryz.prog 60 #[.string (bs l)] w fun e w' => ∃ A c, e = .returned (.slice A (boundsL l).length c) ∧ Rd64 w' A (boundsL l) ∧ Below w.heap.size w w' := by
  refine (rbounds_calls l w hl).mono ?_
  rintro e w' ⟨v, rfl, hown, hb⟩
  obtain ⟨A, c, rfl⟩ := own_form hown
  obtain ⟨hR, _, _, _⟩ := rd64_of_own hown
  exact ⟨A, c, rfl, hR, hb⟩
end
section
open Go Go.RowKit
/-- Bounds, as a row of places. -/
theorem rbounds_pos (l : List UInt8) (hl : l.length ≤ 1099511627776) (w : World) :
    Calls Tryz.prog 60 #[.string (bs l)] w fun e w' => ∃ (g o c : Nat), e = .returned (.slice (some ⟨g, o, none⟩) ((cutL l).length + 1) c) ∧ (∀ k, k ≤ (cutL l).length → w'.cell? ⟨g, o + k, none⟩ = some (.int .i64 (pos (cutL l) k : Int))) ∧ Below w.heap.size w w' := by
  refine (rbounds_rd l hl w).mono ?_
  rintro e w' ⟨A, c, rfl, hR, hb⟩
  have hlen : (boundsL l).length = (cutL l).length + 1 := bnd_length _ _
  obtain ⟨g, o, rfl, _, hc⟩ := hR (by omega)
  exact ⟨g, o, c, by rw [hlen], fun k hk => by rw [hc k (by omega), bounds_at l k hk], hb⟩
set_option maxHeartbeats 2000000 in
theorem rback_calls (l : List UInt8) (n : Int) (hl : l.length ≤ 1099511627776) (w : World) :
    Calls Tryz.prog 40 #[.string (bs l), .int .i64 n] w fun e w' => e = .returned (.int .i64 (backL l n : Int)) ∧ Below w.heap.size w w' := by
  have HC := Lib.hid (fun W => rbounds_pos l hl W)
  have hcl := cutL_length l
  have hple := cut_len_le l
  have hbk : Hid (backL l n = pos (cutL l) (bk (cutL l) n)) := Lib.hid rfl
  have hbl := bk_le (cutL l) n
  generalize cutL l = cs at *
  generalize backL l n = x at *
  go_enter Tryz.func40, Tryz.ntmps40
  go_wp2_with fail
  refine (HC.out _).mono ?_
  rintro e w1 ⟨g, o, c, rfl, hR, hb⟩
  have HR := Lib.hid hR
  clear hR HC
  go_wp2_with fail
  go_loopw [6] (fun v6 wr => ∃ k : Nat, v6 = .int .i64 (k : Int) ∧ k ≤ cs.length ∧ Hid (bk cs n ≤ k) ∧ wr = w1) (fun v6 _ => (intOf v6).toNat)
  case atStart => exact ⟨cs.length, by go_num, Nat.le_refl _, Lib.hid hbl, rfl⟩
  case round =>
    obtain ⟨k, rfl, hk, hbd, rfl⟩ := hrel
    have ck := HR.out k hk
    have Hple := Lib.hid (hple k)
    have hkl : (k : Int) < (cs.length : Int) + 1 := by omega
    generalize hp : pos cs k = p at *
    have Hp := Lib.hid hp
    clear hp hple
    by_cases h0 : 0 < k
    · have hd0 : decide ((0 : Int) < (k : Int)) = true := decide_eq_true (by omega)
      by_cases h1 : n < (p : Int)
      · have hd1 : decide (n < (p : Int)) = true := decide_eq_true h1
        go_wp2
        go_roundw
        case rel => exact ⟨k - 1, by go_num, by omega, Lib.hid (by have := bk_lt (cs := cs) h0 (by rw [Hp.out]; exact h1); omega), trivial⟩
        case measure => simp [intOf]; omega
      · have hd1 : decide (n < (p : Int)) = false := decide_eq_false h1
        go_wp2
        go_ret
        have e : bk cs n = k := by
          have := bk_ge (cs := cs) hk (by rw [Hp.out]; omega)
          have := hbd.out
          omega
        exact ⟨by rw [hbk.out, e, Hp.out]; rfl, hb⟩
    · have hd0 : decide ((0 : Int) < (k : Int)) = false := decide_eq_false (by omega)
      go_wp2
      go_ret
      obtain rfl : k = 0 := by omega
      have e : bk cs n = 0 := by have := hbd.out; omega
      exact ⟨by rw [hbk.out, e, Hp.out]; rfl, hb⟩
set_option maxHeartbeats 2000000 in
theorem ron_calls (l : List UInt8) (n : Int) (hl : l.length ≤ 1099511627776) (w : World) :
    Calls Tryz.prog 41 #[.string (bs l), .int .i64 n] w fun e w' => e = .returned (.int .i64 (onL l n : Int)) ∧ Below w.heap.size w w' := by
  have HC := Lib.hid (fun W => rbounds_pos l hl W)
  have hcl := cutL_length l
  have hple := cut_len_le l
  have hbk : Hid (onL l n = pos (cutL l) (ok (cutL l) n)) := Lib.hid rfl
  have hbl := ok_le (cutL l) n
  generalize cutL l = cs at *
  generalize onL l n = x at *
  go_enter Tryz.func41, Tryz.ntmps41
  go_wp2_with fail
  refine (HC.out _).mono ?_
  rintro e w1 ⟨g, o, c, rfl, hR, hb⟩
  have HR := Lib.hid hR
  have Hbl := Lib.hid hbl
  clear hR HC hbl
  go_wp2_with fail
  go_loopw [6] (fun v6 wr => ∃ k : Nat, v6 = .int .i64 (k : Int) ∧ k ≤ cs.length ∧ Hid (k ≤ ok cs n) ∧ wr = w1) (fun v6 _ => cs.length - (intOf v6).toNat)
  case atStart => exact ⟨0, by go_num, Nat.zero_le _, Lib.hid (Nat.zero_le _), rfl⟩
  case round =>
    obtain ⟨k, rfl, hk, hbd, rfl⟩ := hrel
    have ck := HR.out k hk
    have Hple := Lib.hid (hple k)
    have hkl : (k : Int) < (cs.length : Int) + 1 := by omega
    generalize hp : pos cs k = p at *
    have Hp := Lib.hid hp
    clear hp hple
    by_cases h0 : k < cs.length
    · have hd0 : decide ((k : Int) < (cs.length : Int)) = true := decide_eq_true (by omega)
      by_cases h1 : (p : Int) < n
      · have hd1 : decide ((p : Int) < n) = true := decide_eq_true h1
        go_wp2
        go_roundw
        case rel => exact ⟨k + 1, by go_num, by omega, Lib.hid (by have := ok_gt (cs := cs) h0 (by rw [Hp.out]; exact h1); omega), trivial⟩
        case measure => simp [intOf]; omega
      · have hd1 : decide ((p : Int) < n) = false := decide_eq_false h1
        go_wp2
        go_ret
        have e : ok cs n = k := by
          have := ok_le_of (cs := cs) (n := n) (k := k) (by rw [Hp.out]; omega)
          have := hbd.out
          omega
        exact ⟨by rw [hbk.out, e, Hp.out]; rfl, hb⟩
    · have hd0 : decide ((k : Int) < (cs.length : Int)) = false := decide_eq_false (by omega)
      go_wp2
      go_ret
      obtain rfl : k = cs.length := by omega
      have e : ok cs n = cs.length := by have := hbd.out; have := Hbl.out; omega
      exact ⟨by rw [hbk.out, e, Hp.out]; rfl, hb⟩
end
end Go.Proofs.YtlmbafnoopfilaaGreatDoor
