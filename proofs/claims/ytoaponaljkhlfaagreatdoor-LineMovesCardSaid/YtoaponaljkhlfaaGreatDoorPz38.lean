/-
  Layer 7 and what it stands on, part 38 (LOps IntV).
-/
import Derived.Test.YtoaponaljkhlfaaGreatDoorPz9
import Derived.Deep.Slices
import Derived.IntWalk
import Derived.SizedLaws
import Derived.SliceStrings
import Derived.ProofKit
import Derived.OpenShut
import Derived.ChangeMaps5
import Derived.Deep.DeepHandedRow
namespace Go.Proofs.YtoaponaljkhlfaaGreatDoor
section
open Go Go.RowKit Go.ChangeShapes Go.WideShapes Go.ChangeAt Go.ChangeMaps Go.Deep
open Go.Lib (hid)
set_option maxRecDepth 100000
structure OpL where
 k : Int
 q : Int
 t : ByteArray
 g : Int
def OpL.none_ : OpL := ⟨0, 0, ⟨#[]⟩, 0⟩
def RdL (w : World) (A : Option Addr) (os : List OpL) : Prop := 0 < os.length → ∃ g o, A = some ⟨g, o, none⟩ ∧ g < w.heap.size ∧ ∀ i, i < os.length →
 w.cell? ⟨g, o + i * 4, none⟩ = some (.int .i64 (os.getD i OpL.none_).k) ∧ w.cell? ⟨g, o + i * 4 + 1, none⟩ = some (.int .i64 (os.getD i OpL.none_).q) ∧ w.cell? ⟨g, o + i * 4 + 2, none⟩ = some (.string (os.getD i OpL.none_).t) ∧ w.cell? ⟨g, o + i * 4 + 3, none⟩ = some (.int .i64 (os.getD i OpL.none_).g) ∧ (os.getD i OpL.none_).t.size ≤ reachBytes
theorem RdL.below {w w' : World} {A : Option Addr} {os : List OpL} (h : RdL w A os) (hb : Below w.heap.size w w') : RdL w' A os := fun hn => by
 obtain ⟨g, o, e, hg, hc⟩ := h hn
 refine ⟨g, o, e, Nat.lt_of_lt_of_le hg hb.size, fun i hi => ?_⟩
 obtain ⟨h1, h2, h3, h4, h5⟩ := hc i hi
 rw [hb.cell (p := ⟨g, o + i * 4, none⟩) hg, hb.cell (p := ⟨g, o + i * 4 + 1, none⟩) hg, hb.cell (p := ⟨g, o + i * 4 + 2, none⟩) hg, hb.cell (p := ⟨g, o + i * 4 + 3, none⟩) hg]
 exact ⟨h1, h2, h3, h4, h5⟩
theorem RdL.at_ {w : World} {A : Option Addr} {os : List OpL} (h : RdL w A os) {i : Nat} (hi : i < os.length) : ∃ g o, A = some ⟨g, o, none⟩ ∧ g < w.heap.size ∧
  w.cell? ⟨g, o + i * 4, none⟩ = some (.int .i64 (os.getD i OpL.none_).k) ∧ w.cell? ⟨g, o + i * 4 + 1, none⟩ = some (.int .i64 (os.getD i OpL.none_).q) ∧ w.cell? ⟨g, o + i * 4 + 2, none⟩ = some (.string (os.getD i OpL.none_).t) ∧ w.cell? ⟨g, o + i * 4 + 3, none⟩ = some (.int .i64 (os.getD i OpL.none_).g) ∧ (os.getD i OpL.none_).t.size ≤ reachBytes := by
 obtain ⟨g, o, e, hg, hc⟩ := h (by omega)
 exact ⟨g, o, e, hg, hc i hi⟩
def totL (os : List OpL) : Nat := (os.map fun o => o.t.size).sum
theorem totL_take (os : List OpL) (k : Nat) (hk : k < os.length) : totL (os.take (k + 1)) = totL (os.take k) + (os.getD k OpL.none_).t.size := by
 unfold totL
 rw [List.take_succ_eq_append_getElem hk, List.map_append, List.sum_append]
 simp [List.getD, hk]
theorem totL_le (os : List OpL) (h : ∀ i, i < os.length → (os.getD i OpL.none_).t.size ≤ reachBytes) : ∀ k, k ≤ os.length → totL (os.take k) ≤ k * reachBytes
 | 0, _ => by simp [totL]
 | k + 1, hk => by
  rw [totL_take os k (by omega), Nat.succ_mul]
  have := totL_le os h k (by omega)
  have := h k (by omega)
  omega
theorem totL_mono (os : List OpL) : ∀ j k, j ≤ k → totL (os.take j) ≤ totL (os.take k) := fun j k hjk => by
 obtain ⟨d, rfl⟩ : ∃ d, k = j + d := ⟨k - j, by omega⟩
 unfold totL
 rw [List.take_add, List.map_append, List.sum_append]
 omega
theorem spot_none7 {W : World} {a : Addr} {v : Value} (h : W.cell? a = some v) : a.spot = none := by
 unfold World.cell? at h
 split at h
 ·split at h
  ·cases h
  ·rename_i hs
   cases hh : a.spot with
   | none => rfl
   | some x => rw [hh] at hs; exact absurd rfl hs
 ·cases h
theorem cellsOp7 : Tryz.prog.cellsOf 36 = 4 := by kernel_rfl
theorem cellsI7 : Tryz.prog.cellsOf 3 = 1 := by kernel_rfl
theorem cellsS7 : Tryz.prog.cellsOf 9 = 1 := by kernel_rfl
theorem cellsK7 : Tryz.prog.cellsOf 34 = 2 := by kernel_rfl
theorem opened_op7 {H : Type} {enc : TypeId × Value → H} {W : World} {n : Nat} {cs : List Value} {x : DataW H × List MemPlace}
  (h : DataW.trod enc Tryz.prog W 0 (fun _ => true) true n 36 cs = some x) (hw : ∀ k ∈ x.1.weights Tryz.prog 36, k ≤ reachBytes) :
  ∃ o : OpL, cs = [.int .i64 o.k, .int .i64 o.q, .string o.t, .int .i64 o.g] ∧ o.t.size ≤ reachBytes := by
 obtain ⟨xs, m, rfl, hx, hl, hxl, hall⟩ := DataW.trod_struct Tryz.underlying36 h
 rw [cellsOp7] at hl
 have h0 := hall 0 _ rfl
 have h1 := hall 1 _ rfl
 have h2 := hall 2 _ rfl
 change DataW.trod _ _ _ _ _ _ _ 3 ((cs.drop 0).take (Tryz.prog.cellsOf 3)) = xs[0]? at h0
 change DataW.trod _ _ _ _ _ _ _ 34 ((cs.drop 1).take (Tryz.prog.cellsOf 34)) = xs[1]? at h1
 change DataW.trod _ _ _ _ _ _ _ 3 ((cs.drop 3).take (Tryz.prog.cellsOf 3)) = xs[2]? at h2
 rw [cellsI7] at h0 h2
 rw [cellsK7] at h1
 obtain ⟨x0, x1, x2, rfl⟩ : ∃ x0 x1 x2, xs = [x0, x1, x2] := by
  match xs, hxl with
  | [x0, x1, x2], _ => exact ⟨x0, x1, x2, rfl⟩
 obtain ⟨a, b, c, d, rfl⟩ : ∃ a b c d, cs = [a, b, c, d] := by
  match cs, hl with
  | [a, b, c, d], _ => exact ⟨a, b, c, d, rfl⟩
 obtain ⟨k, hk, _, _⟩ := DataW.trod_int Tryz.underlying3 (by simpa using h0)
 obtain rfl : a = .int .i64 k := by simpa using hk
 obtain ⟨g, hg, _, _⟩ := DataW.trod_int Tryz.underlying3 (by simpa using h2)
 obtain rfl : d = .int .i64 g := by simpa using hg
 have h1' : DataW.trod enc Tryz.prog W 0 (fun _ => true) true m 34 [b, c] = some x1 := by simpa using h1
 obtain ⟨ys, m2, rfl, hy, _, hyl, hally⟩ := DataW.trod_struct Tryz.underlying34 h1'
 have k0 := hally 0 _ rfl
 have k1 := hally 1 _ rfl
 change DataW.trod _ _ _ _ _ _ _ 3 (([b, c].drop 0).take (Tryz.prog.cellsOf 3)) = ys[0]? at k0
 change DataW.trod _ _ _ _ _ _ _ 9 (([b, c].drop 1).take (Tryz.prog.cellsOf 9)) = ys[1]? at k1
 rw [cellsI7] at k0
 rw [cellsS7] at k1
 obtain ⟨y0, y1, rfl⟩ : ∃ y0 y1, ys = [y0, y1] := by
  match ys, hyl with
  | [y0, y1], _ => exact ⟨y0, y1, rfl⟩
 obtain ⟨q, hq, _, _⟩ := DataW.trod_int Tryz.underlying3 (by simpa using k0)
 obtain rfl : b = .int .i64 q := by simpa using hq
 have k1' : DataW.trod enc Tryz.prog W 0 (fun _ => true) true m2 9 [c] = some y1 := by simpa using k1
 obtain ⟨t, ht, hx1, _⟩ := DataW.trod_string Tryz.underlying9 k1'
 obtain rfl : c = .string t := by simpa using ht
 refine ⟨⟨k, q, t, g⟩, rfl, ?_⟩
 have hw1 := hw t.data.toList.length (by
  rw [hx]
  simp [DataW.weights, Tryz.underlying36, Tryz.underlying34, hy, hx1, DataW.weightsEach])
 show t.data.size ≤ reachBytes
 rw [← Array.length_toList]
 exact hw1
theorem weightsAll_mem7 {H : Type} {P : Program} {e : TypeId} : ∀ {ds : List (DataW H)} {d : DataW H}, d ∈ ds → ∀ n ∈ d.weights P e, n ∈ DataW.weightsAll P e ds
 | [], _, h, _, _ => by cases h
 | x :: xs, d, h, n, hn => by
  simp only [DataW.weightsAll]
  rcases List.mem_cons.1 h with rfl | h
  ·exact List.mem_append_left _ hn
  ·exact List.mem_append_right _ (weightsAll_mem7 h n hn)
theorem opened_ops7 {H : Type} {enc : TypeId × Value → H} {W : World} {a0 : Option Addr} {len cap : Nat} {d0 : DataW H} {p : List MemPlace}
  (h0 : DataW.Trod enc Tryz.prog W 0 (fun _ => true) true 22 (.slice a0 len cap) d0 p) (hw : ∀ k ∈ d0.weights Tryz.prog 22, k ≤ reachBytes) :
  ∃ os : List OpL, os.length = len ∧ len ≤ cap ∧ cap ≤ maxLen ∧ RdL W a0 os := by
 obtain ⟨fuel, hf⟩ := h0
 rcases Go.Deep.open_slice Tryz.underlying22 hf with ⟨hcs, _⟩ | ⟨a, len', cap', m, n, D, Pl, hcs, _, hl, hm, hmm, hx, hi⟩
 ·simp [Value.cells] at hcs
  obtain ⟨rfl, rfl, rfl⟩ := hcs
  exact ⟨[], rfl, by omega, by unfold maxLen; omega, fun hn => by simp at hn⟩
 ·simp [Value.cells] at hcs
  obtain ⟨rfl, rfl, rfl⟩ := hcs
  simp only [if_true] at hmm
  have each : ∀ i, i < len → ∃ o : OpL, W.cell? ((a.add (i * 4)).add 0) = some (.int .i64 o.k) ∧ W.cell? ((a.add (i * 4)).add 1) = some (.int .i64 o.q) ∧ W.cell? ((a.add (i * 4)).add 2) = some (.string o.t) ∧ W.cell? ((a.add (i * 4)).add 3) = some (.int .i64 o.g) ∧ o.t.size ≤ reachBytes := fun i hil => by
   obtain ⟨cs', hc, ht⟩ := hi i (by omega)
   rw [cellsOp7] at hc
   obtain ⟨_, _, hat⟩ := World.cells?_some hc
   obtain ⟨o, rfl, hle⟩ := opened_op7 ht (fun k hk => hw k (by
    have hd : d0 = .slice ((List.range len).map D) ((List.range (m - len)).map fun j => D (len + j)) := congrArg Prod.fst hx
    rw [hd]
    simp only [DataW.weights, Tryz.underlying22]
    exact List.mem_cons_of_mem _ (List.mem_append_left _ (weightsAll_mem7 (List.mem_map.2 ⟨i, List.mem_range.2 hil, rfl⟩) k hk))))
   exact ⟨o, by rw [hat 0 (by omega)]; rfl, by rw [hat 1 (by omega)]; rfl, by rw [hat 2 (by omega)]; rfl, by rw [hat 3 (by omega)]; rfl, hle⟩
  let f : Nat → OpL := fun i => if h : i < len then Classical.choose (each i h) else OpL.none_
  have hf2 : ∀ i, i < len → W.cell? ((a.add (i * 4)).add 0) = some (.int .i64 (f i).k) ∧ W.cell? ((a.add (i * 4)).add 1) = some (.int .i64 (f i).q) ∧ W.cell? ((a.add (i * 4)).add 2) = some (.string (f i).t) ∧ W.cell? ((a.add (i * 4)).add 3) = some (.int .i64 (f i).g) ∧ (f i).t.size ≤ reachBytes := fun i h => by
   have := Classical.choose_spec (each i h)
   simp only [f, dif_pos h]
   exact this
  refine ⟨(List.range len).map f, by simp, hl, hm, fun hn => ?_⟩
  simp only [List.length_map, List.length_range] at hn
  have h00 := (hf2 0 hn).1
  have hs := spot_none7 h00
  obtain ⟨b, o, s⟩ := a
  have hs' : s = none := by simpa [Addr.add] using hs
  subst hs'
  refine ⟨b, o, rfl, ?_, fun i hi2 => ?_⟩
  ·simpa [Addr.add] using World.block_lt_of_cell? _ _ h00
  ·simp only [List.length_map, List.length_range] at hi2
   have e : ((List.range len).map f).getD i OpL.none_ = f i := by simp [List.getD, hi2]
   rw [e]
   obtain ⟨q0, q1, q2, q3, q4⟩ := hf2 i hi2
   rw [Addr.add_lit, Addr.add_lit] at q0 q1 q2 q3
   exact ⟨by simpa using q0, q1, q2, q3, q4⟩
set_option maxHeartbeats 4000000 in
theorem few7_calls (A : Option Addr) (c : Nat) (os : List OpL) (w : World) (hR : RdL w A os) (hl : os.length ≤ 9223372036854775807) :
  Calls Tryz.prog 7 #[.slice A os.length c] w fun e w' => e = .returned (.bool (decide (os.length ≤ 120 ∧ totL os ≤ 4000))) ∧ Below w.heap.size w w' := by
 have HR := hid hR
 clear hR
 go_enter Tryz.func7, Tryz.ntmps7
 go_wp2_with fail
 go_loopw [3, 8] (fun v3 v8 wr => ∃ (k : Nat) (z : Int), k ≤ os.length ∧ v8 = .int .i64 (k : Int) ∧ v3 = .int .i64 z ∧ Hid (os.length ≤ 120 → z = (totL (os.take k) : Int)) ∧ Below w.heap.size w wr) (fun _ v8 _ => os.length - (intOf v8).toNat)
 case atStart => exact ⟨0, 0, Nat.zero_le _, rfl, rfl, hid (fun _ => rfl), Below.refl _ _⟩
 case round =>
  obtain ⟨k, z, hk, rfl, rfl, hz, hbel⟩ := hrel
  by_cases hlt : k < os.length
  ·obtain ⟨g, o, rfl, hg, c0, c1, c2, c3, hb1⟩ := (HR.out.below hbel).at_ hlt
   have hst := hid (totL_take os k hlt)
   have hub : Hid (os.length ≤ 120 → totL (os.take k) ≤ 120 * reachBytes) := hid fun h => by
    have hall : ∀ i, i < os.length → (os.getD i OpL.none_).t.size ≤ reachBytes := fun i hi => by
     obtain ⟨_, _, _, _, _, _, _, _, h4⟩ := HR.out.at_ hi
     exact h4
    have h1 := totL_le os hall k (by omega)
    have h2 : k * reachBytes ≤ 120 * reachBytes := Nat.mul_le_mul_right _ (by omega)
    omega
   have HB := hid hbel
   have hsz := hbel.size
   have hx := BxA.new wr 36 [.int .i64 (os.getD k OpL.none_).k, .int .i64 (os.getD k OpL.none_).q, .string (os.getD k OpL.none_).t, .int .i64 (os.getD k OpL.none_).g]
   have x2 := hx.c 2 rfl
   clear hbel hx
   generalize os.getD k OpL.none_ = e at *
   have hkk : (k : Int) + 1 ≤ 9223372036854775807 := by omega
   obtain ⟨z2, hzz⟩ : ∃ z2, z2 = IntKind.i64.wrap (z + (e.t.size : Int)) := ⟨_, rfl⟩
   have Hz2 : Hid (os.length ≤ 120 → z2 = (totL (os.take (k + 1)) : Int)) := hid fun h => by
    have h1 := hz.out h
    have h2 := hub.out h
    have hrb : reachBytes = 140737488351232 := rfl
    rw [hst.out, hzz, h1]
    rw [IntWalk.i64_in _ (by omega)]
    omega
   have hsum : IntKind.i64.wrap (z + (e.t.size : Int)) = z2 := hzz.symm
   clear hst hub hzz hz
   go_wp2
   go_roundw
   case rel => exact ⟨k + 1, z2, by omega, by go_num, by first | rfl | (rw [← hsum]; rfl) | go_num, Hz2, HB.out.alloc hsz _⟩
   case measure => simp [intOf]; omega
  ·obtain rfl : k = os.length := by omega
   have HB := hid hbel
   have hzf := hz.out
   rw [List.take_length] at hzf
   have Hzf := hid hzf
   clear hbel hz hzf HR
   by_cases h100 : os.length ≤ 120
   ·have d1 : decide (os.length ≤ 120) = true := decide_eq_true h100
    have d1' : decide ((os.length : Int) ≤ 120) = true := decide_eq_true (by omega)
    have e2 : decide (z ≤ 4000) = decide (os.length ≤ 120 ∧ totL os ≤ 4000) := by
     rw [decide_eq_decide, Hzf.out h100]; omega
    have E2 := hid e2
    clear e2 h100 Hzf
    go_wp2
    go_ret
    exact ⟨by rw [← E2.out]; rfl, HB.out⟩
   ·have d1 : decide (os.length ≤ 120) = false := decide_eq_false h100
    have d1' : decide ((os.length : Int) ≤ 120) = false := decide_eq_false (by omega)
    have e2 : decide (os.length ≤ 120 ∧ totL os ≤ 4000) = false := decide_eq_false (fun h => h100 h.1)
    have E2 := hid e2
    clear e2 h100 Hzf
    go_wp2
    go_ret
    exact ⟨by rw [E2.out]; rfl, HB.out⟩
end
section
open Go Go.RowKit Go.ChangeShapes Go.WideShapes Go.ChangeAt Go.ChangeMaps Go.Deep
theorem spot_noneI {W : World} {a : Addr} {v : Value} (h : W.cell? a = some v) : a.spot = none := by
 unfold World.cell? at h
 split at h
 ·split at h
  ·cases h
  ·rename_i hs
   cases hh : a.spot with
   | none => rfl
   | some x => rw [hh] at hs; exact absurd rfl hs
 ·cases h
theorem cellsIV : Tryz.prog.cellsOf 3 = 1 := by kernel_rfl
theorem opened_intsV {H : Type} {enc : TypeId × Value → H} {W : World} {a0 : Option Addr} {len cap : Nat} {d0 : DataW H} {p : List MemPlace}
  (h0 : DataW.Trod enc Tryz.prog W 0 (fun _ => true) true 47 (.slice a0 len cap) d0 p) :
  ∃ zs : List Int, zs.length = len ∧ len ≤ cap ∧ cap ≤ maxLen ∧ RdV (Value.int .i64) W a0 zs := by
 obtain ⟨fuel, hf⟩ := h0
 rcases open_ints Tryz.underlying47 Tryz.underlying3 cellsIV hf with ⟨hcs, _⟩ | ⟨a, len', cap', zs, hcs, _, hl, hm, hz, _, hcell, _⟩
 ·simp [Value.cells] at hcs
  obtain ⟨rfl, rfl, rfl⟩ := hcs
  exact ⟨[], rfl, by omega, by unfold maxLen; omega, fun hn => by simp at hn⟩
 ·simp [Value.cells] at hcs
  obtain ⟨rfl, rfl, rfl⟩ := hcs
  simp only [if_true] at hz
  refine ⟨zs.take len, by simp; omega, by omega, hm, fun hn => ?_⟩
  simp only [List.length_take] at hn
  have h0 := hcell 0 (by omega)
  have hs := spot_noneI h0
  obtain ⟨b, o, s⟩ := a
  have hs' : s = none := by simpa [Addr.add] using hs
  subst hs'
  refine ⟨b, o, rfl, ?_, fun i x hi => ?_⟩
  ·simpa [Addr.add] using World.block_lt_of_cell? _ _ h0
  ·have hi2 := (List.getElem?_eq_some_iff.1 hi).1
   simp only [List.length_take] at hi2
   have := hcell i (by omega)
   rw [Addr.add_lit] at this
   rw [this]
   rw [List.getElem?_take, if_pos (by omega)] at hi
   simp [List.getD, hi]
end
end Go.Proofs.YtoaponaljkhlfaaGreatDoor
