/-
  Layer 7 and what it stands on, part 26 (RefBnd).
-/
import Derived.Test.YtoaponaljkhlfaaGreatDoorPz25
import Derived.Deep.RegionLaw
import Derived.Deep.RegionHeld3
namespace Go.Proofs.YtoaponaljkhlfaaGreatDoor
section
open Go Go.RowKit
open Go.Lib (hid)
theorem own_one (w : World) (base : Nat) (hb : base ≤ w.heap.size) (e : TypeId) (x : Value) : (w.alloc (.cells #[x] e)).ownsRow base e 1 (.slice (some ⟨w.heap.size, 0, none⟩) 1 1) 1 [x] :=
 ⟨rfl, .inr ⟨w.heap.size, 1, #[x], rfl, hb, heap_alloc_new w _, by omega, by unfold maxLen; omega, by simp, by simp⟩⟩
theorem own_readS {w : World} {base : Nat} {A : Option Addr} {c n : Nat} {ls : List ByteArray} (h : w.ownsRow base 9 1 (.slice A n c) n (cellsS ls)) (hn : 0 < n) :
  ∃ g, A = some ⟨g, 0, none⟩ ∧ base ≤ g ∧ g < w.heap.size ∧ ∀ i, i < n → w.cell? ⟨g, i, none⟩ = some (.string (ls.getD i ⟨#[]⟩)) := by
 have hl : ls.length = n := by have := h.1; rw [cellsS_length] at this; omega
 rcases h.2 with ⟨_, h0⟩ | ⟨g, cap, cur, hv, hg, hh, _⟩
 ·omega
 ·injection hv with h1 h2 h3
  subst h1
  refine ⟨g, rfl, hg, (Array.getElem?_eq_some_iff.1 hh).1, fun i hi => ?_⟩
  have := h.cells (g := g) rfl i (.string (ls.getD i ⟨#[]⟩)) (by simp [cellsS, hl, hi, List.getD])
  rw [Addr.add_lit] at this
  simpa using this
theorem cell_of_block {w w' : World} {g i : Nat} (h : w'.heap[g]? = w.heap[g]?) : w'.cell? ⟨g, i, none⟩ = w.cell? ⟨g, i, none⟩ := by simp only [World.cell?, h]
def BndAt (w w1 : World) (cs : List (List UInt8)) (v3 : Value) (wr : World) (k : Nat) : Prop :=
 wr.ownsRow w.heap.size 3 1 v3 (k + 1) (cells64 (bnd 0 (cs.take k))) ∧ (∀ b, v3.ownBlock = some b → b = w.heap.size ∨ w1.heap.size ≤ b) ∧ Below w.heap.size w wr ∧ w1.heap.size ≤ wr.heap.size ∧ (∀ j, j < w1.heap.size → j ≠ w.heap.size → wr.heap[j]? = w1.heap[j]?)
theorem BndAt.step {w w1 wr w3 : World} {cs : List (List UInt8)} {v3 v' : Value} {k : Nat} {o : Obj} (h : BndAt w w1 cs v3 wr k) (hw1 : w.heap.size < w1.heap.size) (hk : k < cs.length)
  (hown : w3.ownsRow w.heap.size 3 1 v' (k + 1 + 1) (cells64 (bnd 0 (cs.take k)) ++ [.int .i64 (((cs.take k).flatten.length + (cs.getD k []).length : Nat) : Int)]))
  (hg : (wr.alloc o).grownBy w3 v3.ownBlock) (hv' : v'.ownBlock = v3.ownBlock ∨ v'.ownBlock = some (wr.alloc o).heap.size) : BndAt w w1 cs v' w3 (k + 1) := by
 obtain ⟨ho, hbk, hb, hsz, hkp⟩ := h
 have hgs := hg.size
 rw [World.size_alloc] at hgs
 refine ⟨?_, ?_, ?_, by omega, ?_⟩
 ·have e : cs.take (k + 1) = cs.take k ++ [cs.getD k []] := by
   rw [List.take_succ_eq_append_getElem hk]; simp [List.getD, hk]
  rw [e, bnd_snoc, cells64_snoc]
  simpa using hown
 ·intro b hb'
  rcases hv' with e | e
  ·exact hbk b (by rw [← e]; exact hb')
  ·rw [e] at hb'
   injection hb' with hb'
   rw [World.size_alloc] at hb'
   right; omega
 ·exact (hb.alloc (by omega) o).grown hg (by simp; omega) (fun j hj => by rcases hbk j hj with h | h <;> omega)
 ·intro j hj hne
  rw [hg.block j (by simp; omega) (fun e => by rcases hbk j e.symm with h | h <;> omega), Below.heap_alloc _ _ _ (by omega)]
  exact hkp j hj hne
set_option maxRecDepth 100000 in
set_option maxHeartbeats 4000000 in
theorem rbounds_calls (l0 : List UInt8) (w : World) (hl0 : l0.length ≤ 1099511627776) :
  Calls Tryz.prog 98 #[.string (bs l0)] w fun e w' => ∃ v, e = .returned v ∧ w'.ownsRow w.heap.size 3 1 v (boundsL l0).length (cells64 (boundsL l0)) ∧ Below w.heap.size w w' := by
 obtain ⟨i1, hi1, hy0, hy1, hy2⟩ := info_parts info64
 have HC := hid (rcut_calls l0 (w.alloc (.cells #[.int .i64 0] 3)) hl0)
 have hcl := cutL_length l0
 have hfl : Hid (∀ k, (((cutL l0).take k).flatten.length + ((cutL l0).getD k []).length) ≤ 2 * l0.length) := hid fun k => by
  have h1 : ((cutL l0).take k).flatten.length + ((cutL l0).drop k).flatten.length = l0.length := by
   rw [← List.length_append, ← List.flatten_append, List.take_append_drop, cutL_flatten]
  have h2 : ((cutL l0).getD k []).length ≤ l0.length := by
   by_cases hk : k < (cutL l0).length
   ·have e : (cutL l0).getD k [] = (cutL l0)[k] := by simp [List.getD, hk]
    rw [e]; exact (cut_mem l0 _ (List.getElem_mem hk)).2.2
   ·simp [List.getD, hk]
  omega
 have hbl : Hid (boundsL l0 = bnd 0 (cutL l0)) := hid rfl
 generalize cutL l0 = cs at *
 go_enter Tryz.func98, Tryz.ntmps98
 go_wp2_with fail
 refine HC.out.mono ?_
 rintro e w1 ⟨v1, rfl, hown1, hb1⟩
 obtain ⟨A1, c1, rfl⟩ := own_form hown1
 have Hrd : Hid (0 < cs.length → ∃ g, A1 = some ⟨g, 0, none⟩ ∧ w.heap.size < g ∧ g < w1.heap.size ∧ ∀ i, i < cs.length → w1.cell? ⟨g, i, none⟩ = some (.string (bs (cs.getD i [])))) := hid fun hn => by
  obtain ⟨g, e, h1, h2, h3⟩ := own_readS hown1 hn
  exact ⟨g, e, by simp at h1; omega, h2, fun i hi => by rw [h3 i hi, getD_bs]⟩
 have hz1 : w.heap.size < w1.heap.size := by have := hb1.size; simp at this; omega
 have hb : Below w.heap.size w w1 := ((Below.refl _ w).alloc (Nat.le_refl _) _).trans (hb1.mono (by simp))
 have ho0 : w1.ownsRow w.heap.size 3 1 (.slice (some ⟨w.heap.size, 0, none⟩) 1 1) 1 [.int .i64 0] := own_below (own_one w w.heap.size (Nat.le_refl _) 3 (.int .i64 0)) hb1
 have Ho0 := hid ho0
 have Hb := hid hb
 clear hown1 hb1 HC ho0 hb
 go_wp2_with fail
 go_loopw [3, 5] (fun v3 v5 wr => ∃ k : Nat, k ≤ cs.length ∧ v5 = .int .i64 (k : Int) ∧ BndAt w w1 cs v3 wr k) (fun _ v5 _ => cs.length - (intOf v5).toNat)
 case atStart =>
  refine ⟨0, by omega, rfl, ?_, ?_, Hb.out, Nat.le_refl _, fun _ _ _ => rfl⟩
  ·simpa [bnd, cells64] using Ho0.out
  ·intro b hb
   left
   simpa [Value.ownBlock] using hb.symm
 case round =>
  obtain ⟨k, hk, rfl, hat⟩ := hrel
  by_cases hlt : k < cs.length
  ·obtain ⟨ho, hbk, hbw, hszw, hkp⟩ := id hat
   obtain ⟨g, rfl, hg1, hg2, hc⟩ := Hrd.out (by omega)
   have ck : wr.cell? ⟨g, k, none⟩ = some (.string (bs (cs.getD k []))) := by rw [cell_of_block (hkp g hg2 (by omega))]; exact hc k hlt
   obtain ⟨go, cap, rfl⟩ := ownsRow_succ ho
   have co : wr.cell? ⟨go, k, none⟩ = some (.int .i64 ((cs.take k).flatten.length : Int)) := by
    refine (own_cell ho (i := k) ?_).1
    have e : (bnd 0 (cs.take k)).getD k 0 = (cs.take k).flatten.length := by
     rw [bnd_getD 0 _ k (by rw [List.length_take]; omega), List.take_take, Nat.min_self, Nat.zero_add]
    have hl : k < (bnd 0 (cs.take k)).length := by rw [bnd_length, List.length_take]; omega
    simp only [cells64, List.getElem?_map]
    rw [List.getElem?_eq_getElem hl]
    rw [List.getD, List.getElem?_eq_getElem hl, Option.getD_some] at e
    rw [e]; rfl
   have hfk := hfl.out k
   have hcl2 := bs_size (cs.getD k [])
   have Hat := hid hat
   have Ho := hid ho
   clear hat ho hc hbk hkp
   generalize hN1 : (cs.take k).flatten.length = n1 at *
   have HN := hid hN1
   generalize hCk : cs.getD k [] = cK at *
   have HCk := hid hCk
   clear hN1 hCk
   generalize hN2 : cK.length = n2 at *
   have HN2 := hid hN2
   clear hN2
   have hwr : IntKind.i64.wrap ((n1 : Int) + (n2 : Int)) = (n1 : Int) + (n2 : Int) := IntWalk.i64_in _ (by omega)
   obtain ⟨v', w3, hrun, hown', hg, _, hv'⟩ := run_append_own_at (P := Tryz.prog) (wr.alloc (.cells #[.int .i64 ((n1 : Int) + (n2 : Int))] 3)).drew w.heap.size 47 47 3 i1 (.int .i64 0) 1 8 Tryz.underlying47 hi1 hy0 hy1 hy2 rfl (by decide)
    (.slice (some ⟨go, 0, none⟩) (k + 1) cap) (k + 1) (cells64 (bnd 0 (cs.take k))) (Ho.out.alloc _).drew ⟨wr.heap.size, 0, none⟩ 1 1 [.int .i64 ((n1 : Int) + (n2 : Int))] rfl (by
     intro j u hj
     exact cell_one_new wr _ _ j u hj) (by simp [Value.oneCell']) (by unfold maxLen; omega) (by omega) (by simp; omega)
   have Hst := hid (Hat.out.step (w3 := w3) (v' := v') (o := .cells #[.int .i64 ((n1 : Int) + (n2 : Int))] 3) hz1 hlt (by rw [HN.out, HCk.out, HN2.out]; simpa using hown') ⟨hg.os, hg.tape, hg.output, hg.size, hg.block⟩ hv')
   clear hown' hg hv'
   have Hrun := hid hrun
   clear hrun
   have hkk : (k : Int) < (k : Int) + 1 := by omega
   have hkl : (k : Int) < (cs.length : Int) := by omega
   go_wp2_with fail
   go_region_law (refine step_append_g (o := ⟨some 27, _, _, _, _, _⟩) (by rfl) (.tmp 15) (.tmp 26) 47 rfl _ _ rfl rfl Hrun.out ?_)
   all_goals
    go_wp2
    go_roundw
    case rel => exact ⟨k + 1, by omega, by go_num, Hst.out⟩
    case measure => simp [intOf]; omega
  ·go_wp2
   go_ret
   obtain rfl : k = cs.length := by omega
   obtain ⟨ho, _, hbw, _⟩ := hat
   rw [List.take_length] at ho
   rw [hbl.out]
   exact ⟨_, rfl, by rw [bnd_length]; exact ho, hbw⟩
end
end Go.Proofs.YtoaponaljkhlfaaGreatDoor
