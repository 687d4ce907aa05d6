/-
  Layer 7 and what it stands on, part 30 (AOps).
-/
import Derived.Test.YtlmbafnoopfilaaGreatDoorPg9
import Derived.Deep.Slices
import Derived.IntWalk
import Derived.SizedLaws
import Derived.SliceStrings
import Derived.ProofKit
import Derived.OpenShut
import Derived.ChangeMaps5
import Derived.Deep.DeepHandedRow
namespace Go.Proofs.YtlmbafnoopfilaaGreatDoor
section
open Go Go.RowKit Go.ChangeShapes Go.WideShapes Go.ChangeAt Go.ChangeMaps Go.Deep
set_option maxRecDepth 100000
/-- A call: which one, a name, a text. -/
structure OpA where
  k : Int
  n : ByteArray
  t : ByteArray
def OpA.none_ : OpA := ⟨0, ⟨#[]⟩, ⟨#[]⟩⟩
def OpA.len (o : OpA) : Nat := o.n.size + o.t.size
/-- A slice of calls that reads as os. -/
def RdA (w : World) (A : Option Addr) (os : List OpA) : Prop := 0 < os.length → ∃ g o, A = some ⟨g, o, none⟩ ∧ g < w.heap.size ∧ ∀ i, i < os.length →
  w.cell? ⟨g, o + i * 3, none⟩ = some (.int .i64 (os.getD i OpA.none_).k) ∧ w.cell? ⟨g, o + i * 3 + 1, none⟩ = some (.string (os.getD i OpA.none_).n) ∧ w.cell? ⟨g, o + i * 3 + 2, none⟩ = some (.string (os.getD i OpA.none_).t) ∧ (os.getD i OpA.none_).n.size ≤ reachBytes ∧ (os.getD i OpA.none_).t.size ≤ reachBytes
theorem RdA.below {w w' : World} {A : Option Addr} {os : List OpA} (h : RdA w A os) (hb : Below w.heap.size w w') : RdA w' A os := fun hn => by
  obtain ⟨g, o, e, hg, hc⟩ := h hn
  refine ⟨g, o, e, Nat.lt_of_lt_of_le hg hb.size, fun i hi => ?_⟩
  obtain ⟨h1, h2, h3, h4⟩ := hc i hi
  rw [hb.cell (p := ⟨g, o + i * 3, none⟩) hg, hb.cell (p := ⟨g, o + i * 3 + 1, none⟩) hg, hb.cell (p := ⟨g, o + i * 3 + 2, none⟩) hg]
  exact ⟨h1, h2, h3, h4⟩
theorem RdA.at_ {w : World} {A : Option Addr} {os : List OpA} (h : RdA w A os) {i : Nat} (hi : i < os.length) : ∃ g o, A = some ⟨g, o, none⟩ ∧ g < w.heap.size ∧
    w.cell? ⟨g, o + i * 3, none⟩ = some (.int .i64 (os.getD i OpA.none_).k) ∧ w.cell? ⟨g, o + i * 3 + 1, none⟩ = some (.string (os.getD i OpA.none_).n) ∧ w.cell? ⟨g, o + i * 3 + 2, none⟩ = some (.string (os.getD i OpA.none_).t) ∧ (os.getD i OpA.none_).n.size ≤ reachBytes ∧ (os.getD i OpA.none_).t.size ≤ reachBytes := by
  obtain ⟨g, o, e, hg, hc⟩ := h (by omega)
  exact ⟨g, o, e, hg, hc i hi⟩
/-- How many bytes calls have. -/
def totA (os : List OpA) : Nat := (os.map OpA.len).sum
theorem totA_take (os : List OpA) (k : Nat) (hk : k < os.length) : totA (os.take (k + 1)) = totA (os.take k) + (os.getD k OpA.none_).len := by
  unfold totA
  rw [List.take_succ_eq_append_getElem hk, List.map_append, List.sum_append]
  simp [List.getD, hk]
theorem totA_le (os : List OpA) (h : ∀ i, i < os.length → (os.getD i OpA.none_).len ≤ 2 * reachBytes) : ∀ k, k ≤ os.length → totA (os.take k) ≤ k * (2 * reachBytes)
  | 0, _ => by simp [totA]
  | k + 1, hk => by
    rw [totA_take os k (by omega), Nat.succ_mul]
    have := totA_le os h k (by omega)
    have := h k (by omega)
    omega
theorem totA_mono (os : List OpA) : ∀ j k, j ≤ k → totA (os.take j) ≤ totA (os.take k) := fun j k hjk => by
  obtain ⟨d, rfl⟩ : ∃ d, k = j + d := ⟨k - j, by omega⟩
  unfold totA
  rw [List.take_add, List.map_append, List.sum_append]
  omega
theorem totA_at {os : List OpA} {k : Nat} (hk : k < os.length) : (os.getD k OpA.none_).len ≤ totA os := by
  have h1 := totA_take os k hk
  have h2 := totA_mono os (k + 1) os.length (by omega)
  rw [List.take_length] at h2
  omega
theorem spot_none8 {W : World} {a : Addr} {v : Value} (h : W.cell? a = some v) : a.spot = none := by
  unfold World.cell? at h
  split at h
  · split at h
    · cases h
    · rename_i hs
      cases hh : a.spot with
      | none => rfl
      | some x => rw [hh] at hs; exact absurd rfl hs
  · cases h
theorem cellsOp8 : Tryz.prog.cellsOf 32 = 3 := by kernel_rfl
theorem cellsI8 : Tryz.prog.cellsOf 3 = 1 := by kernel_rfl
theorem cellsS8 : Tryz.prog.cellsOf 9 = 1 := by kernel_rfl
theorem opened_op8 {H : Type} {enc : TypeId × Value → H} {W : World} {n : Nat} {cs : List Value} {x : DataW H × List MemPlace}
    (h : DataW.trod enc Tryz.prog W 0 (fun _ => true) true n 32 cs = some x) (hw : ∀ k ∈ x.1.weights Tryz.prog 32, k ≤ reachBytes) :
    ∃ o : OpA, cs = [.int .i64 o.k, .string o.n, .string o.t] ∧ o.n.size ≤ reachBytes ∧ o.t.size ≤ reachBytes := by
  obtain ⟨xs, m, rfl, hx, hl, hxl, hall⟩ := DataW.trod_struct Tryz.underlying32 h
  rw [cellsOp8] at hl
  have h0 := hall 0 _ rfl
  have h1 := hall 1 _ rfl
  have h2 := hall 2 _ rfl
  change DataW.trod _ _ _ _ _ _ _ 3 ((cs.drop 0).take (Tryz.prog.cellsOf 3)) = xs[0]? at h0
  change DataW.trod _ _ _ _ _ _ _ 9 ((cs.drop 1).take (Tryz.prog.cellsOf 9)) = xs[1]? at h1
  change DataW.trod _ _ _ _ _ _ _ 9 ((cs.drop 2).take (Tryz.prog.cellsOf 9)) = xs[2]? at h2
  rw [cellsI8] at h0
  rw [cellsS8] at h1 h2
  obtain ⟨x0, x1, x2, rfl⟩ : ∃ x0 x1 x2, xs = [x0, x1, x2] := by
    match xs, hxl with
    | [x0, x1, x2], _ => exact ⟨x0, x1, x2, rfl⟩
  obtain ⟨a, b, c, rfl⟩ : ∃ a b c, cs = [a, b, c] := by
    match cs, hl with
    | [a, b, c], _ => exact ⟨a, b, c, rfl⟩
  obtain ⟨k, hk, _, _⟩ := DataW.trod_int Tryz.underlying3 (by simpa using h0)
  obtain rfl : a = .int .i64 k := by simpa using hk
  have h1' : DataW.trod enc Tryz.prog W 0 (fun _ => true) true m 9 [b] = some x1 := by simpa using h1
  have h2' : DataW.trod enc Tryz.prog W 0 (fun _ => true) true m 9 [c] = some x2 := by simpa using h2
  obtain ⟨s, hs, hx1, _⟩ := DataW.trod_string Tryz.underlying9 h1'
  obtain rfl : b = .string s := by simpa using hs
  obtain ⟨t, ht, hx2, _⟩ := DataW.trod_string Tryz.underlying9 h2'
  obtain rfl : c = .string t := by simpa using ht
  refine ⟨⟨k, s, t⟩, rfl, ?_, ?_⟩
  · have hw1 := hw s.data.toList.length (by
      rw [hx]
      simp [DataW.weights, Tryz.underlying32, hx1, hx2, DataW.weightsEach])
    show s.data.size ≤ reachBytes
    rw [← Array.length_toList]
    exact hw1
  · have hw1 := hw t.data.toList.length (by
      rw [hx]
      simp [DataW.weights, Tryz.underlying32, hx1, hx2, DataW.weightsEach])
    show t.data.size ≤ reachBytes
    rw [← Array.length_toList]
    exact hw1
theorem weightsAll_mem8 {H : Type} {P : Program} {e : TypeId} : ∀ {ds : List (DataW H)} {d : DataW H}, d ∈ ds → ∀ n ∈ d.weights P e, n ∈ DataW.weightsAll P e ds
  | [], _, h, _, _ => by cases h
  | x :: xs, d, h, n, hn => by
    simp only [DataW.weightsAll]
    rcases List.mem_cons.1 h with rfl | h
    · exact List.mem_append_left _ hn
    · exact List.mem_append_right _ (weightsAll_mem8 h n hn)
theorem opened_ops8 {H : Type} {enc : TypeId × Value → H} {W : World} {a0 : Option Addr} {len cap : Nat} {d0 : DataW H} {p : List MemPlace}
    (h0 : DataW.Trod enc Tryz.prog W 0 (fun _ => true) true 22 (.slice a0 len cap) d0 p) (hw : ∀ k ∈ d0.weights Tryz.prog 22, k ≤ reachBytes) :
    ∃ os : List OpA, os.length = len ∧ len ≤ cap ∧ cap ≤ maxLen ∧ RdA W a0 os := by
  obtain ⟨fuel, hf⟩ := h0
  rcases Go.Deep.open_slice Tryz.underlying22 hf with ⟨hcs, _⟩ | ⟨a, len', cap', m, n, D, Pl, hcs, _, hl, hm, hmm, hx, hi⟩
  · simp [Value.cells] at hcs
    obtain ⟨rfl, rfl, rfl⟩ := hcs
    exact ⟨[], rfl, by omega, by unfold maxLen; omega, fun hn => by simp at hn⟩
  · simp [Value.cells] at hcs
    obtain ⟨rfl, rfl, rfl⟩ := hcs
    simp only [if_true] at hmm
    have each : ∀ i, i < len → ∃ o : OpA, W.cell? ((a.add (i * 3)).add 0) = some (.int .i64 o.k) ∧ W.cell? ((a.add (i * 3)).add 1) = some (.string o.n) ∧ W.cell? ((a.add (i * 3)).add 2) = some (.string o.t) ∧ o.n.size ≤ reachBytes ∧ o.t.size ≤ reachBytes := fun i hil => by
      obtain ⟨cs', hc, ht⟩ := hi i (by omega)
      rw [cellsOp8] at hc
      obtain ⟨_, _, hat⟩ := World.cells?_some hc
      obtain ⟨o, rfl, hle⟩ := opened_op8 ht (fun k hk => hw k (by
        have hd : d0 = .slice ((List.range len).map D) ((List.range (m - len)).map fun j => D (len + j)) := congrArg Prod.fst hx
        rw [hd]
        simp only [DataW.weights, Tryz.underlying22]
        exact List.mem_cons_of_mem _ (List.mem_append_left _ (weightsAll_mem8 (List.mem_map.2 ⟨i, List.mem_range.2 hil, rfl⟩) k hk))))
      exact ⟨o, by rw [hat 0 (by omega)]; rfl, by rw [hat 1 (by omega)]; rfl, by rw [hat 2 (by omega)]; rfl, hle⟩
    let f : Nat → OpA := fun i => if h : i < len then Classical.choose (each i h) else OpA.none_
    have hf2 : ∀ i, i < len → W.cell? ((a.add (i * 3)).add 0) = some (.int .i64 (f i).k) ∧ W.cell? ((a.add (i * 3)).add 1) = some (.string (f i).n) ∧ W.cell? ((a.add (i * 3)).add 2) = some (.string (f i).t) ∧ (f i).n.size ≤ reachBytes ∧ (f i).t.size ≤ reachBytes := fun i h => by
      have := Classical.choose_spec (each i h)
      simp only [f, dif_pos h]
      exact this
    refine ⟨(List.range len).map f, by simp, hl, hm, fun hn => ?_⟩
    simp only [List.length_map, List.length_range] at hn
    have h00 := (hf2 0 hn).1
    have hs := spot_none8 h00
    obtain ⟨b, o, s⟩ := a
    have hs' : s = none := by simpa [Addr.add] using hs
    subst hs'
    refine ⟨b, o, rfl, ?_, fun i hi2 => ?_⟩
    · simpa [Addr.add] using World.block_lt_of_cell? _ _ h00
    · simp only [List.length_map, List.length_range] at hi2
      have e : ((List.range len).map f).getD i OpA.none_ = f i := by simp [List.getD, hi2]
      rw [e]
      obtain ⟨q0, q1, q2, q3⟩ := hf2 i hi2
      rw [Addr.add_lit, Addr.add_lit] at q0 q1 q2
      exact ⟨by simpa using q0, q1, q2, q3⟩
set_option maxHeartbeats 4000000 in
theorem few8_calls (A : Option Addr) (c : Nat) (os : List OpA) (w : World) (hR : RdA w A os) (hl : os.length ≤ 9223372036854775807) :
    Calls Tryz.prog 4 #[.slice A os.length c] w fun e w' => e = .returned (.bool (decide (os.length ≤ 100 ∧ totA os ≤ 6000))) ∧ Below w.heap.size w w' := by
  have HR := Lib.hid hR
  clear hR
  go_enter Tryz.func4, Tryz.ntmps4
  go_wp2_with fail
  go_loopw [3, 8] (fun v3 v8 wr => ∃ (k : Nat) (z : Int), k ≤ os.length ∧ v8 = .int .i64 (k : Int) ∧ v3 = .int .i64 z ∧ Hid (os.length ≤ 100 → z = (totA (os.take k) : Int)) ∧ Below w.heap.size w wr) (fun _ v8 _ => os.length - (intOf v8).toNat)
  case atStart => exact ⟨0, 0, Nat.zero_le _, rfl, rfl, Lib.hid (fun _ => rfl), Below.refl _ _⟩
  case round =>
    obtain ⟨k, z, hk, rfl, rfl, hz, hbel⟩ := hrel
    by_cases hlt : k < os.length
    · obtain ⟨g, o, rfl, hg, c0, c1, c2, hb1, hb2⟩ := (HR.out.below hbel).at_ hlt
      have hst := Lib.hid (totA_take os k hlt)
      have hub : Hid (os.length ≤ 100 → totA (os.take k) ≤ 100 * (2 * reachBytes)) := Lib.hid fun h => by
        have hall : ∀ i, i < os.length → (os.getD i OpA.none_).len ≤ 2 * reachBytes := fun i hi => by
          obtain ⟨_, _, _, _, _, _, _, h4, h5⟩ := HR.out.at_ hi
          unfold OpA.len
          omega
        have h1 := totA_le os hall k (by omega)
        have h2 : k * (2 * reachBytes) ≤ 100 * (2 * reachBytes) := Nat.mul_le_mul_right _ (by omega)
        omega
      have HB := Lib.hid hbel
      have hsz := hbel.size
      have hx := BxA.new wr 32 [.int .i64 (os.getD k OpA.none_).k, .string (os.getD k OpA.none_).n, .string (os.getD k OpA.none_).t]
      have x1 := hx.c 1 rfl
      have x2 := hx.c 2 rfl
      clear hbel hx
      generalize os.getD k OpA.none_ = e at *
      have hrb0 : reachBytes = 140737488351232 := rfl
      have hs0 : IntKind.i64.wrap ((e.n.size : Int) + (e.t.size : Int)) = (e.n.size : Int) + (e.t.size : Int) := IntWalk.i64_in _ (by omega)
      clear hrb0
      have hkk : (k : Int) + 1 ≤ 9223372036854775807 := by omega
      obtain ⟨z2, hzz⟩ : ∃ z2, z2 = IntKind.i64.wrap (z + ((e.n.size : Int) + (e.t.size : Int))) := ⟨_, rfl⟩
      have Hz2 : Hid (os.length ≤ 100 → z2 = (totA (os.take (k + 1)) : Int)) := Lib.hid fun h => by
        have h1 := hz.out h
        have h2 := hub.out h
        have hrb : reachBytes = 140737488351232 := rfl
        rw [hst.out, hzz, h1]
        unfold OpA.len
        rw [IntWalk.i64_in _ (by omega)]
        omega
      have hsum : IntKind.i64.wrap (z + ((e.n.size : Int) + (e.t.size : Int))) = z2 := hzz.symm
      clear hst hub hzz hz
      go_wp2
      go_roundw
      case rel => exact ⟨k + 1, z2, by omega, by go_num, by first | rfl | (rw [← hsum]; rfl) | go_num, Hz2, HB.out.alloc hsz _⟩
      case measure => simp [intOf]; omega
    · obtain rfl : k = os.length := by omega
      have HB := Lib.hid hbel
      have hzf := hz.out
      rw [List.take_length] at hzf
      have Hzf := Lib.hid hzf
      clear hbel hz hzf HR
      by_cases h100 : os.length ≤ 100
      · have d1 : decide (os.length ≤ 100) = true := decide_eq_true h100
        have d1' : decide ((os.length : Int) ≤ 100) = true := decide_eq_true (by omega)
        have e2 : decide (z ≤ 6000) = decide (os.length ≤ 100 ∧ totA os ≤ 6000) := by
          rw [decide_eq_decide, Hzf.out h100]; omega
        have E2 := Lib.hid e2
        clear e2 h100 Hzf
        go_wp2
        go_ret
        exact ⟨by rw [← E2.out]; rfl, HB.out⟩
      · have d1 : decide (os.length ≤ 100) = false := decide_eq_false h100
        have d1' : decide ((os.length : Int) ≤ 100) = false := decide_eq_false (by omega)
        have e2 : decide (os.length ≤ 100 ∧ totA os ≤ 6000) = false := decide_eq_false (fun h => h100 h.1)
        have E2 := Lib.hid e2
        clear e2 h100 Hzf
        go_wp2
        go_ret
        exact ⟨by rw [E2.out]; rfl, HB.out⟩
end
end Go.Proofs.YtlmbafnoopfilaaGreatDoor
