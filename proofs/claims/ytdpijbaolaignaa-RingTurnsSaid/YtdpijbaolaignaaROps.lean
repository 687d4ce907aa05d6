/-
  Scripts: slices of calls; 'few'; arguments that are such slices, slices of texts and of numbers, opened.
-/
import Derived.Test.YtdpijbaolaignaaRingAt
import Derived.Test.YtdpijbaolaignaaBx
import Derived.Deep.Slices
import Derived.IntWalk
import Derived.SizedLaws
import Derived.SliceStrings
import Derived.ProofKit
import Derived.OpenShut
import Derived.ChangeMaps5
import Derived.Deep.DeepHandedRow
namespace Go.Proofs.Ytdpijbaolaignaa
open Go Go.RowKit Go.ChangeShapes Go.WideShapes Go.ChangeAt Go.ChangeMaps Go.Deep
set_option maxRecDepth 100000

/-- A slice of calls that reads as os. -/
def RdO (w : World) (A : Option Addr) (os : List OpD) : Prop := 0 < os.length → ∃ g o, A = some ⟨g, o, none⟩ ∧ g < w.heap.size ∧ ∀ i, i < os.length →
  w.cell? ⟨g, o + i * 2, none⟩ = some (.int .i64 (os.getD i OpD.none_).k) ∧ w.cell? ⟨g, o + i * 2 + 1, none⟩ = some (.string (os.getD i OpD.none_).t) ∧ (os.getD i OpD.none_).t.size ≤ reachBytes
theorem RdO.below {w w' : World} {A : Option Addr} {os : List OpD} (h : RdO w A os) (hb : Below w.heap.size w w') : RdO w' A os := fun hn => by
  obtain ⟨g, o, e, hg, hc⟩ := h hn
  refine ⟨g, o, e, Nat.lt_of_lt_of_le hg hb.size, fun i hi => ?_⟩
  obtain ⟨h1, h2, h3⟩ := hc i hi
  rw [hb.cell (p := ⟨g, o + i * 2, none⟩) hg, hb.cell (p := ⟨g, o + i * 2 + 1, none⟩) hg]
  exact ⟨h1, h2, h3⟩
theorem RdO.at_ {w : World} {A : Option Addr} {os : List OpD} (h : RdO w A os) {i : Nat} (hi : i < os.length) : ∃ g o, A = some ⟨g, o, none⟩ ∧ g < w.heap.size ∧
    w.cell? ⟨g, o + i * 2, none⟩ = some (.int .i64 (os.getD i OpD.none_).k) ∧ w.cell? ⟨g, o + i * 2 + 1, none⟩ = some (.string (os.getD i OpD.none_).t) ∧ (os.getD i OpD.none_).t.size ≤ reachBytes := by
  obtain ⟨g, o, e, hg, hc⟩ := h (by omega)
  exact ⟨g, o, e, hg, hc i hi⟩
theorem sizeOp (w : World) : (sizeOf 32).run Try.prog w = .ok 2 w := Try.sizeOf32 w
/-- How many bytes calls have. -/
def totO (os : List OpD) : Nat := (os.map fun o => o.t.size).sum
theorem totO_take (os : List OpD) (k : Nat) (hk : k < os.length) : totO (os.take (k + 1)) = totO (os.take k) + (os.getD k OpD.none_).t.size := by
  unfold totO
  rw [List.take_succ_eq_append_getElem hk, List.map_append, List.sum_append]
  simp [List.getD, hk]
theorem totO_le (os : List OpD) (h : ∀ i, i < os.length → (os.getD i OpD.none_).t.size ≤ reachBytes) : ∀ k, k ≤ os.length → totO (os.take k) ≤ k * reachBytes
  | 0, _ => by simp [totO]
  | k + 1, hk => by
    rw [totO_take os k (by omega), Nat.succ_mul]
    have := totO_le os h k (by omega)
    have := h k (by omega)
    omega
theorem totO_mono (os : List OpD) : ∀ j k, j ≤ k → totO (os.take j) ≤ totO (os.take k) := fun j k hjk => by
  obtain ⟨d, rfl⟩ : ∃ d, k = j + d := ⟨k - j, by omega⟩
  unfold totO
  rw [List.take_add, List.map_append, List.sum_append]
  omega
/-- Things of so many bytes at most. -/
def Small (B : Nat) (s : RS ByteArray) : Prop := ∀ x ∈ s.l, x.size ≤ B
theorem small_do {B : Nat} {s : RS ByteArray} (h : Small B s) (o : OpD) : Small (B + o.t.size) (doR s o) := by
  have h' : ∀ x ∈ s.l, x.size ≤ B + o.t.size := fun x hx => Nat.le_trans (h x hx) (Nat.le_add_right _ _)
  unfold doR
  split
  · intro x hx
    rcases List.mem_cons.1 hx with rfl | hx
    · omega
    · exact h' x (List.mem_of_mem_take hx)
  · split
    · intro x hx
      have hx : x ∈ chL (· ++ o.t) s.l := hx
      cases hl : s.l with
      | nil => rw [hl] at hx; cases hx
      | cons y t =>
        rw [hl] at hx
        rcases List.mem_cons.1 hx with rfl | hx
        · rw [ByteArray.size_append]
          have := h y (by rw [hl]; simp)
          omega
        · exact h' x (by rw [hl]; exact List.mem_cons_of_mem _ hx)
    · split
      · exact h'
      · split
        · exact h'
        · exact h'
theorem small_run (n : Int) (os : List OpD) : ∀ k, k ≤ os.length → Small (totO (os.take k)) (runR (RS.new n) (os.take k))
  | 0, _ => fun x hx => by cases hx
  | k + 1, hk => by
    rw [totO_take os k (by omega), runR_take _ os k (by omega)]
    exact small_do (small_run n os k (by omega)) _

theorem spot_none5 {W : World} {a : Addr} {v : Value} (h : W.cell? a = some v) : a.spot = none := by
  unfold World.cell? at h
  split at h
  · split at h
    · cases h
    · rename_i hs
      cases hh : a.spot with
      | none => rfl
      | some x => rw [hh] at hs; exact absurd rfl hs
  · cases h
theorem cellsOp : Try.prog.cellsOf 32 = 2 := by kernel_rfl
theorem cellsI5 : Try.prog.cellsOf 3 = 1 := by kernel_rfl
theorem cellsS5 : Try.prog.cellsOf 9 = 1 := by kernel_rfl
theorem opened_op {H : Type} {enc : TypeId × Value → H} {W : World} {n : Nat} {cs : List Value} {x : DataW H × List MemPlace}
    (h : DataW.trod enc Try.prog W 0 (fun _ => true) true n 32 cs = some x) (hw : ∀ k ∈ x.1.weights Try.prog 32, k ≤ reachBytes) :
    ∃ o : OpD, cs = [.int .i64 o.k, .string o.t] ∧ o.t.size ≤ reachBytes := by
  obtain ⟨xs, m, rfl, hx, hl, hxl, hall⟩ := DataW.trod_struct Try.underlying32 h
  rw [cellsOp] at hl
  have h0 := hall 0 _ rfl
  have h1 := hall 1 _ rfl
  change DataW.trod _ _ _ _ _ _ _ 3 ((cs.drop 0).take (Try.prog.cellsOf 3)) = xs[0]? at h0
  change DataW.trod _ _ _ _ _ _ _ 9 ((cs.drop 1).take (Try.prog.cellsOf 9)) = xs[1]? at h1
  rw [cellsI5] at h0
  rw [cellsS5] at h1
  obtain ⟨x0, x1, rfl⟩ : ∃ x0 x1, xs = [x0, x1] := by
    match xs, hxl with
    | [x0, x1], _ => exact ⟨x0, x1, rfl⟩
  obtain ⟨a, b, rfl⟩ : ∃ a b, cs = [a, b] := by
    match cs, hl with
    | [a, b], _ => exact ⟨a, b, rfl⟩
  obtain ⟨k, hk, _, _⟩ := DataW.trod_int Try.underlying3 (by simpa using h0)
  obtain rfl : a = .int .i64 k := by simpa using hk
  have h1' : DataW.trod enc Try.prog W 0 (fun _ => true) true m 9 [b] = some x1 := by simpa using h1
  obtain ⟨t, ht, hx1, _⟩ := DataW.trod_string Try.underlying9 h1'
  obtain rfl : b = .string t := by simpa using ht
  refine ⟨⟨k, t⟩, rfl, ?_⟩
  have hw1 := hw t.data.toList.length (by
    rw [hx]
    simp [DataW.weights, Try.underlying32, hx1, DataW.weightsEach])
  show t.data.size ≤ reachBytes
  rw [← Array.length_toList]
  exact hw1
theorem weightsAll_mem5 {H : Type} {P : Program} {e : TypeId} : ∀ {ds : List (DataW H)} {d : DataW H}, d ∈ ds → ∀ n ∈ d.weights P e, n ∈ DataW.weightsAll P e ds
  | [], _, h, _, _ => by cases h
  | x :: xs, d, h, n, hn => by
    simp only [DataW.weightsAll]
    rcases List.mem_cons.1 h with rfl | h
    · exact List.mem_append_left _ hn
    · exact List.mem_append_right _ (weightsAll_mem5 h n hn)
theorem opened_ops {H : Type} {enc : TypeId × Value → H} {W : World} {a0 : Option Addr} {len cap : Nat} {d0 : DataW H} {p : List MemPlace}
    (h0 : DataW.Trod enc Try.prog W 0 (fun _ => true) true 22 (.slice a0 len cap) d0 p) (hw : ∀ k ∈ d0.weights Try.prog 22, k ≤ reachBytes) :
    ∃ os : List OpD, os.length = len ∧ len ≤ cap ∧ cap ≤ maxLen ∧ RdO W a0 os := by
  obtain ⟨fuel, hf⟩ := h0
  rcases Go.Deep.open_slice Try.underlying22 hf with ⟨hcs, _⟩ | ⟨a, len', cap', m, n, D, Pl, hcs, _, hl, hm, hmm, hx, hi⟩
  · simp [Value.cells] at hcs
    obtain ⟨rfl, rfl, rfl⟩ := hcs
    exact ⟨[], rfl, by omega, by unfold maxLen; omega, fun hn => by simp at hn⟩
  · simp [Value.cells] at hcs
    obtain ⟨rfl, rfl, rfl⟩ := hcs
    simp only [if_true] at hmm
    have each : ∀ i, i < len → ∃ o : OpD, W.cell? ((a.add (i * 2)).add 0) = some (.int .i64 o.k) ∧ W.cell? ((a.add (i * 2)).add 1) = some (.string o.t) ∧ o.t.size ≤ reachBytes := fun i hil => by
      obtain ⟨cs', hc, ht⟩ := hi i (by omega)
      rw [cellsOp] at hc
      obtain ⟨_, _, hat⟩ := World.cells?_some hc
      obtain ⟨o, rfl, hle⟩ := opened_op ht (fun k hk => hw k (by
        have hd : d0 = .slice ((List.range len).map D) ((List.range (m - len)).map fun j => D (len + j)) := congrArg Prod.fst hx
        rw [hd]
        simp only [DataW.weights, Try.underlying22]
        exact List.mem_cons_of_mem _ (List.mem_append_left _ (weightsAll_mem5 (List.mem_map.2 ⟨i, List.mem_range.2 hil, rfl⟩) k hk))))
      exact ⟨o, by rw [hat 0 (by omega)]; rfl, by rw [hat 1 (by omega)]; rfl, hle⟩
    let f : Nat → OpD := fun i => if h : i < len then Classical.choose (each i h) else OpD.none_
    have hf2 : ∀ i, i < len → W.cell? ((a.add (i * 2)).add 0) = some (.int .i64 (f i).k) ∧ W.cell? ((a.add (i * 2)).add 1) = some (.string (f i).t) ∧ (f i).t.size ≤ reachBytes := fun i h => by
      have := Classical.choose_spec (each i h)
      simp only [f, dif_pos h]
      exact this
    refine ⟨(List.range len).map f, by simp, hl, hm, fun hn => ?_⟩
    simp only [List.length_map, List.length_range] at hn
    have h00 := (hf2 0 hn).1
    have hs := spot_none5 h00
    obtain ⟨b, o, s⟩ := a
    have hs' : s = none := by simpa [Addr.add] using hs
    subst hs'
    refine ⟨b, o, rfl, ?_, fun i hi2 => ?_⟩
    · simpa [Addr.add] using World.block_lt_of_cell? _ _ h00
    · simp only [List.length_map, List.length_range] at hi2
      have e : ((List.range len).map f).getD i OpD.none_ = f i := by simp [List.getD, hi2]
      rw [e]
      obtain ⟨q0, q1, q2⟩ := hf2 i hi2
      rw [Addr.add_lit, Addr.add_lit] at q0 q1
      exact ⟨by simpa using q0, q1, q2⟩
theorem opened_intsV {H : Type} {enc : TypeId × Value → H} {W : World} {a0 : Option Addr} {len cap : Nat} {d0 : DataW H} {p : List MemPlace}
    (h0 : DataW.Trod enc Try.prog W 0 (fun _ => true) true 44 (.slice a0 len cap) d0 p) :
    ∃ zs : List Int, zs.length = len ∧ len ≤ cap ∧ cap ≤ maxLen ∧ RdV (Value.int .i64) W a0 zs := by
  obtain ⟨fuel, hf⟩ := h0
  rcases open_ints Try.underlying44 Try.underlying3 cellsI5 hf with ⟨hcs, _⟩ | ⟨a, len', cap', zs, hcs, _, hl, hm, hz, _, hcell, _⟩
  · simp [Value.cells] at hcs
    obtain ⟨rfl, rfl, rfl⟩ := hcs
    exact ⟨[], rfl, by omega, by unfold maxLen; omega, fun hn => by simp at hn⟩
  · simp [Value.cells] at hcs
    obtain ⟨rfl, rfl, rfl⟩ := hcs
    simp only [if_true] at hz
    refine ⟨zs.take len, by simp; omega, by omega, hm, fun hn => ?_⟩
    simp only [List.length_take] at hn
    have h0 := hcell 0 (by omega)
    have hs := spot_none5 h0
    obtain ⟨b, o, s⟩ := a
    have hs' : s = none := by simpa [Addr.add] using hs
    subst hs'
    refine ⟨b, o, rfl, ?_, fun i x hi => ?_⟩
    · simpa [Addr.add] using World.block_lt_of_cell? _ _ h0
    · have hi2 := (List.getElem?_eq_some_iff.1 hi).1
      simp only [List.length_take] at hi2
      have := hcell i (by omega)
      rw [Addr.add_lit] at this
      rw [this]
      rw [List.getElem?_take, if_pos (by omega)] at hi
      simp [List.getD, hi]
theorem opened_strsV {H : Type} {enc : TypeId × Value → H} {W : World} {a0 : Option Addr} {len cap : Nat} {d0 : DataW H} {p : List MemPlace}
    (h0 : DataW.Trod enc Try.prog W 0 (fun _ => true) true 27 (.slice a0 len cap) d0 p) :
    ∃ zs : List ByteArray, zs.length = len ∧ len ≤ cap ∧ cap ≤ maxLen ∧ RdV Value.string W a0 zs ∧ ∀ s ∈ zs, s.size ≤ maxLen := by
  obtain ⟨fuel, hf⟩ := h0
  rcases open_strings Try.underlying27 Try.underlying9 cellsS5 hf with ⟨hcs, _⟩ | ⟨a, len', cap', zs, hcs, _, hl, hm, hz, _, hcell, hmx⟩
  · simp [Value.cells] at hcs
    obtain ⟨rfl, rfl, rfl⟩ := hcs
    exact ⟨[], rfl, by omega, by unfold maxLen; omega, fun hn => (by simp at hn), fun s hs => by cases hs⟩
  · simp [Value.cells] at hcs
    obtain ⟨rfl, rfl, rfl⟩ := hcs
    simp only [if_true] at hz
    refine ⟨zs.take len, by simp; omega, by omega, hm, fun hn => ?_, fun s hs => hmx s (List.mem_of_mem_take hs)⟩
    simp only [List.length_take] at hn
    have h0 := hcell 0 (by omega)
    have hs := spot_none5 h0
    obtain ⟨b, o, s⟩ := a
    have hs' : s = none := by simpa [Addr.add] using hs
    subst hs'
    refine ⟨b, o, rfl, ?_, fun i x hi => ?_⟩
    · simpa [Addr.add] using World.block_lt_of_cell? _ _ h0
    · have hi2 := (List.getElem?_eq_some_iff.1 hi).1
      simp only [List.length_take] at hi2
      have := hcell i (by omega)
      rw [Addr.add_lit] at this
      rw [this]
      rw [List.getElem?_take, if_pos (by omega)] at hi
      simp [List.getD, hi]

set_option maxHeartbeats 2000000 in
theorem few5_calls (A : Option Addr) (c : Nat) (os : List OpD) (w : World) (hR : RdO w A os) (hl : os.length ≤ 9223372036854775807) :
    Calls Try.prog 9 #[.slice A os.length c] w fun e w' => e = .returned (.bool (decide (os.length ≤ 200 ∧ totO os ≤ 4000))) ∧ Below w.heap.size w w' := by
  have HR := Lib.hid hR
  clear hR
  go_enter Try.func9, Try.ntmps9
  go_wp2_with fail
  go_loopw [3, 8] (fun v3 v8 wr => ∃ (k : Nat) (z : Int), k ≤ os.length ∧ v8 = .int .i64 (k : Int) ∧ v3 = .int .i64 z ∧ Hid (os.length ≤ 200 → z = (totO (os.take k) : Int)) ∧ Below w.heap.size w wr) (fun _ v8 _ => os.length - (intOf v8).toNat)
  case atStart => exact ⟨0, 0, Nat.zero_le _, rfl, rfl, Lib.hid (fun _ => rfl), Below.refl _ _⟩
  case round =>
    obtain ⟨k, z, hk, rfl, rfl, hz, hbel⟩ := hrel
    by_cases hlt : k < os.length
    · obtain ⟨g, o, rfl, hg, c0, c1, hb1⟩ := (HR.out.below hbel).at_ hlt
      have hst := Lib.hid (totO_take os k hlt)
      have hub : Hid (os.length ≤ 200 → totO (os.take k) ≤ 200 * reachBytes) := Lib.hid fun h => by
        have hall : ∀ i, i < os.length → (os.getD i OpD.none_).t.size ≤ reachBytes := fun i hi => by
          obtain ⟨_, _, _, _, _, _, h4⟩ := HR.out.at_ hi
          exact h4
        have h1 := totO_le os hall k (by omega)
        have h2 : k * reachBytes ≤ 200 * reachBytes := Nat.mul_le_mul_right _ (by omega)
        omega
      have HB := Lib.hid hbel
      have hsz := hbel.size
      have hx := Bx.new wr 32 (.int .i64 (os.getD k OpD.none_).k) (.string (os.getD k OpD.none_).t)
      have x0 := hx.c0
      have x1 := hx.c1
      clear hbel hx
      generalize os.getD k OpD.none_ = e at *
      have hkk : (k : Int) + 1 ≤ 9223372036854775807 := by omega
      obtain ⟨z2, hzz⟩ : ∃ z2, z2 = IntKind.i64.wrap (z + (e.t.size : Int)) := ⟨_, rfl⟩
      have Hz2 : Hid (os.length ≤ 200 → z2 = (totO (os.take (k + 1)) : Int)) := Lib.hid fun h => by
        have h1 := hz.out h
        have h2 := hub.out h
        have hrb : reachBytes = 140737488351232 := rfl
        rw [hst.out, hzz, h1]
        rw [IntWalk.i64_in _ (by omega)]
        omega
      have hsum : IntKind.i64.wrap (z + (e.t.size : Int)) = z2 := hzz.symm
      clear hst hub hzz hz
      go_wp2
      go_roundw
      case rel => exact ⟨k + 1, z2, by omega, by go_num, by first | rfl | (rw [← hsum]; rfl) | go_num, Hz2, HB.out.alloc hsz _⟩
      case measure => simp [intOf]; omega
    · obtain rfl : k = os.length := by omega
      have HB := Lib.hid hbel
      have hzf := hz.out
      rw [List.take_length] at hzf
      have Hzf := Lib.hid hzf
      clear hbel hz hzf HR
      by_cases h100 : os.length ≤ 200
      · have d1 : decide (os.length ≤ 200) = true := decide_eq_true h100
        have d1' : decide ((os.length : Int) ≤ 200) = true := decide_eq_true (by omega)
        have e2 : decide (z ≤ 4000) = decide (os.length ≤ 200 ∧ totO os ≤ 4000) := by
          rw [decide_eq_decide, Hzf.out h100]; omega
        have E2 := Lib.hid e2
        clear e2 h100 Hzf
        go_wp2
        go_ret
        exact ⟨by rw [← E2.out]; rfl, HB.out⟩
      · have d1 : decide (os.length ≤ 200) = false := decide_eq_false h100
        have d1' : decide ((os.length : Int) ≤ 200) = false := decide_eq_false (by omega)
        have e2 : decide (os.length ≤ 200 ∧ totO os ≤ 4000) = false := decide_eq_false (fun h => h100 h.1)
        have E2 := Lib.hid e2
        clear e2 h100 Hzf
        go_wp2
        go_ret
        exact ⟨by rw [E2.out]; rfl, HB.out⟩
end Go.Proofs.Ytdpijbaolaignaa
