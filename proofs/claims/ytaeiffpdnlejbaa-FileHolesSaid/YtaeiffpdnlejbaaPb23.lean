/-
  Layer 7 and what it stands on, part 23 (FOps).
-/
import Derived.Test.YtaeiffpdnlejbaaPb19
import Derived.Test.YtaeiffpdnlejbaaPb22
import Derived.Deep.Slices
import Derived.SizedLaws
import Derived.SliceStrings
namespace Go.Proofs.Ytaeiffpdnlejbaa
section
open Go Go.RowKit Go.ChangeShapes Go.WideShapes Go.ChangeAt Go.ChangeMaps Go.Deep
set_option maxRecDepth 100000
/-- A call as it lies in memory. -/
structure OpG where
  o : OpF
  BA : Option Addr
  bc : Nat
  KA : Option Addr
  kc : Nat
def OpG.none_ : OpG := ⟨OpF.none_, none, 0, none, 0⟩
def OpG.len (x : OpG) : Nat := x.o.b.length + x.o.ks.length + x.o.n.size + x.o.t.size
/-- What a call's slices lead to, and how great it is. -/
structure OpIn (w : World) (x : OpG) : Prop where
  b : Byt w x.BA x.o.b
  bn : x.BA = none → x.bc = 0
  k : RowT boolC w (fun _ => True) x.KA x.o.ks
  i1 : -9223372036854775808 ≤ x.o.i
  i2 : x.o.i ≤ 9223372036854775807
  sb : x.o.b.length ≤ reachBytes
  sk : x.o.ks.length ≤ reachBytes
  sn : x.o.n.size ≤ reachBytes
  st : x.o.t.size ≤ reachBytes
theorem OpIn.below {w w' : World} {x : OpG} (h : OpIn w x) (hb : Below w.heap.size w w') : OpIn w' x := ⟨h.b.below hb, h.bn, h.k.below hb, h.i1, h.i2, h.sb, h.sk, h.sn, h.st⟩
/-- A slice of calls that reads as xs. -/
def RdO10 (w : World) (A : Option Addr) (xs : List OpG) : Prop := 0 < xs.length → ∃ g o, A = some ⟨g, o, none⟩ ∧ g < w.heap.size ∧ ∀ i, i < xs.length →
  (∀ j v, ([.int .i64 (xs.getD i OpG.none_).o.k, .string (xs.getD i OpG.none_).o.n, .string (xs.getD i OpG.none_).o.t, .slice (xs.getD i OpG.none_).BA (xs.getD i OpG.none_).o.b.length (xs.getD i OpG.none_).bc, .int .i64 (xs.getD i OpG.none_).o.i, .slice (xs.getD i OpG.none_).KA (xs.getD i OpG.none_).o.ks.length (xs.getD i OpG.none_).kc] : List Value)[j]? = some v → w.cell? ⟨g, o + i * 6 + j, none⟩ = some v) ∧ OpIn w (xs.getD i OpG.none_)
theorem RdO10.below {w w' : World} {A : Option Addr} {xs : List OpG} (h : RdO10 w A xs) (hb : Below w.heap.size w w') : RdO10 w' A xs := fun hn => by
  obtain ⟨g, o, e, hg, hc⟩ := h hn
  exact ⟨g, o, e, Nat.lt_of_lt_of_le hg hb.size, fun i hi => ⟨fun j v hj => (hb.cell (p := ⟨g, o + i * 6 + j, none⟩) hg).trans ((hc i hi).1 j v hj), (hc i hi).2.below hb⟩⟩
theorem RdO10.at_ {w : World} {A : Option Addr} {xs : List OpG} (h : RdO10 w A xs) {i : Nat} (hi : i < xs.length) : ∃ g o, A = some ⟨g, o, none⟩ ∧ g < w.heap.size ∧
    (∀ j v, ([.int .i64 (xs.getD i OpG.none_).o.k, .string (xs.getD i OpG.none_).o.n, .string (xs.getD i OpG.none_).o.t, .slice (xs.getD i OpG.none_).BA (xs.getD i OpG.none_).o.b.length (xs.getD i OpG.none_).bc, .int .i64 (xs.getD i OpG.none_).o.i, .slice (xs.getD i OpG.none_).KA (xs.getD i OpG.none_).o.ks.length (xs.getD i OpG.none_).kc] : List Value)[j]? = some v → w.cell? ⟨g, o + i * 6 + j, none⟩ = some v) ∧ OpIn w (xs.getD i OpG.none_) := by
  obtain ⟨g, o, e, hg, hc⟩ := h (by omega)
  exact ⟨g, o, e, hg, hc i hi⟩
/-- How many bytes calls have. -/
def totG (xs : List OpG) : Nat := (xs.map OpG.len).sum
theorem spot_none10 {W : World} {a : Addr} {v : Value} (h : W.cell? a = some v) : a.spot = none := by
  unfold World.cell? at h
  split at h
  · split at h
    · cases h
    · rename_i hs
      cases hh : a.spot with
      | none => rfl
      | some x => rw [hh] at hs; exact absurd rfl hs
  · cases h
theorem cellsBool10 : Try.prog.cellsOf 4 = 1 := by kernel_rfl
/-- A slice of bools, opened. -/
theorem opened_bools {H : Type} {enc : TypeId × Value → H} {W : World} {a0 : Option Addr} {len cap : Nat} {d0 : DataW H} {p : List MemPlace}
    (h0 : DataW.Trod enc Try.prog W 0 (fun _ => true) true 32 (.slice a0 len cap) d0 p) :
    ∃ l : List Bool, l.length = len ∧ len ≤ cap ∧ cap ≤ maxLen ∧ RowT boolC W (fun _ => True) a0 l := by
  obtain ⟨fuel, hf⟩ := h0
  rcases Go.Deep.open_slice Try.underlying32 hf with ⟨hcs, _⟩ | ⟨a, len', cap', m, n, D, Pl, hcs, _, hl, hm, hmm, hx, hi⟩
  · simp [Value.cells] at hcs
    obtain ⟨rfl, rfl, rfl⟩ := hcs
    exact ⟨[], rfl, by omega, by unfold maxLen; omega, fun hn => by simp at hn⟩
  · simp [Value.cells] at hcs
    obtain ⟨rfl, rfl, rfl⟩ := hcs
    simp only [if_true] at hmm
    have each : ∀ i, i < len → ∃ b : Bool, W.cell? ((a.add (i * 1)).add 0) = some (.bool b) := fun i hil => by
      obtain ⟨cs', hc, ht⟩ := hi i (by omega)
      rw [cellsBool10] at hc
      obtain ⟨_, _, hat⟩ := World.cells?_some hc
      obtain ⟨t, ht2, _⟩ := DataW.trod_bool Try.underlying4 ht
      subst ht2
      exact ⟨t, by rw [hat 0 (by omega)]; rfl⟩
    let f : Nat → Bool := fun i => if h : i < len then Classical.choose (each i h) else false
    have hf2 : ∀ i, i < len → W.cell? ((a.add (i * 1)).add 0) = some (.bool (f i)) := fun i h => by
      have := Classical.choose_spec (each i h)
      simp only [f, dif_pos h]
      exact this
    refine ⟨(List.range len).map f, by simp, hl, hm, fun hn => ?_⟩
    simp only [List.length_map, List.length_range] at hn
    have h00 := hf2 0 hn
    have hs := spot_none10 h00
    obtain ⟨b, o, s⟩ := a
    have hs' : s = none := by simpa [Addr.add] using hs
    subst hs'
    refine ⟨b, o, rfl, trivial, ?_, fun j v hj => ?_⟩
    · simpa [Addr.add] using World.block_lt_of_cell? _ _ h00
    · have hj2 : j < len := by
        have := (List.getElem?_eq_some_iff.1 hj).1
        rw [flat_length (C := boolC) (k := 1) (fun _ => rfl), List.length_map, List.length_range] at this
        omega
      have h1 := hf2 j hj2
      rw [Addr.add_lit, Addr.add_lit] at h1
      have h2 : v = .bool (f j) := by
        rw [List.flatMap_map] at hj
        have : ((List.range len).flatMap fun a => boolC (f a)) = (List.range len).map fun a => Value.bool (f a) := by
          rw [List.map_eq_flatMap]
        rw [this] at hj
        simp [hj2] at hj
        exact hj.symm
      rw [h2]
      simpa using h1
abbrev opgC (x : OpG) : List Value := [.int .i64 x.o.k, .string x.o.n, .string x.o.t, .slice x.BA x.o.b.length x.bc, .int .i64 x.o.i, .slice x.KA x.o.ks.length x.kc]
end
end Go.Proofs.Ytaeiffpdnlejbaa
