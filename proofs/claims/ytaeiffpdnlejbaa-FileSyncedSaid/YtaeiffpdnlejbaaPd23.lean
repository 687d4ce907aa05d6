/-
  Layer 7 and what it stands on, part 23 (FOps).
-/
import Derived.Test.YtaeiffpdnlejbaaPd19
import Derived.Test.YtaeiffpdnlejbaaPd22
import Derived.Deep.Slices
import Derived.SizedLaws
import Derived.SliceStrings
namespace Go.Proofs.Ytaeiffpdnlejbaa
section
open Go Go.RowKit Go.ChangeShapes Go.WideShapes Go.ChangeAt Go.ChangeMaps Go.Deep
set_option maxRecDepth 100000
/-- A call as it lies in memory. -/
structure OpG where
  o : OpF
  BA : Option Addr
  bc : Nat
  KA : Option Addr
  kc : Nat
def OpG.none_ : OpG := ⟨OpF.none_, none, 0, none, 0⟩
def OpG.len (x : OpG) : Nat := x.o.b.length + x.o.ks.length + x.o.n.size + x.o.t.size
/-- What a call's slices lead to, and how great it is. -/
structure OpIn (w : World) (x : OpG) : Prop where
  b : Byt w x.BA x.o.b
  bn : x.BA = none → x.bc = 0
  k : RowT boolC w (fun _ => True) x.KA x.o.ks
  i1 : -9223372036854775808 ≤ x.o.i
  i2 : x.o.i ≤ 9223372036854775807
  sb : x.o.b.length ≤ reachBytes
  sk : x.o.ks.length ≤ reachBytes
  sn : x.o.n.size ≤ reachBytes
  st : x.o.t.size ≤ reachBytes
theorem OpIn.below {w w' : World} {x : OpG} (h : OpIn w x) (hb : Below w.heap.size w w') : OpIn w' x := ⟨h.b.below hb, h.bn, h.k.below hb, h.i1, h.i2, h.sb, h.sk, h.sn, h.st⟩
/-- A slice of calls that reads as xs. -/
def RdO10 (w : World) (A : Option Addr) (xs : List OpG) : Prop := 0 < xs.length → ∃ g o, A = some ⟨g, o, none⟩ ∧ g < w.heap.size ∧ ∀ i, i < xs.length →
  (∀ j v, ([.int .i64 (xs.getD i OpG.none_).o.k, .string (xs.getD i OpG.none_).o.n, .string (xs.getD i OpG.none_).o.t, .slice (xs.getD i OpG.none_).BA (xs.getD i OpG.none_).o.b.length (xs.getD i OpG.none_).bc, .int .i64 (xs.getD i OpG.none_).o.i, .slice (xs.getD i OpG.none_).KA (xs.getD i OpG.none_).o.ks.length (xs.getD i OpG.none_).kc] : List Value)[j]? = some v → w.cell? ⟨g, o + i * 6 + j, none⟩ = some v) ∧ OpIn w (xs.getD i OpG.none_)
theorem RdO10.below {w w' : World} {A : Option Addr} {xs : List OpG} (h : RdO10 w A xs) (hb : Below w.heap.size w w') : RdO10 w' A xs := fun hn => by
  obtain ⟨g, o, e, hg, hc⟩ := h hn
  exact ⟨g, o, e, Nat.lt_of_lt_of_le hg hb.size, fun i hi => ⟨fun j v hj => (hb.cell (p := ⟨g, o + i * 6 + j, none⟩) hg).trans ((hc i hi).1 j v hj), (hc i hi).2.below hb⟩⟩
theorem RdO10.at_ {w : World} {A : Option Addr} {xs : List OpG} (h : RdO10 w A xs) {i : Nat} (hi : i < xs.length) : ∃ g o, A = some ⟨g, o, none⟩ ∧ g < w.heap.size ∧
    (∀ j v, ([.int .i64 (xs.getD i OpG.none_).o.k, .string (xs.getD i OpG.none_).o.n, .string (xs.getD i OpG.none_).o.t, .slice (xs.getD i OpG.none_).BA (xs.getD i OpG.none_).o.b.length (xs.getD i OpG.none_).bc, .int .i64 (xs.getD i OpG.none_).o.i, .slice (xs.getD i OpG.none_).KA (xs.getD i OpG.none_).o.ks.length (xs.getD i OpG.none_).kc] : List Value)[j]? = some v → w.cell? ⟨g, o + i * 6 + j, none⟩ = some v) ∧ OpIn w (xs.getD i OpG.none_) := by
  obtain ⟨g, o, e, hg, hc⟩ := h (by omega)
  exact ⟨g, o, e, hg, hc i hi⟩
/-- How many bytes calls have. -/
def totG (xs : List OpG) : Nat := (xs.map OpG.len).sum
theorem totG_take (xs : List OpG) (k : Nat) (hk : k < xs.length) : totG (xs.take (k + 1)) = totG (xs.take k) + (xs.getD k OpG.none_).len := by
  unfold totG
  rw [List.take_succ_eq_append_getElem hk, List.map_append, List.sum_append]
  simp [List.getD, hk]
theorem totG_le (xs : List OpG) (h : ∀ i, i < xs.length → (xs.getD i OpG.none_).len ≤ 4 * reachBytes) : ∀ k, k ≤ xs.length → totG (xs.take k) ≤ k * (4 * reachBytes)
  | 0, _ => by simp [totG]
  | k + 1, hk => by
    rw [totG_take xs k (by omega), Nat.succ_mul]
    have := totG_le xs h k (by omega)
    have := h k (by omega)
    omega
theorem totG_mono (xs : List OpG) : ∀ j k, j ≤ k → totG (xs.take j) ≤ totG (xs.take k) := fun j k hjk => by
  obtain ⟨d, rfl⟩ : ∃ d, k = j + d := ⟨k - j, by omega⟩
  unfold totG
  rw [List.take_add, List.map_append, List.sum_append]
  omega
theorem totG_at {xs : List OpG} {k : Nat} (hk : k < xs.length) : (xs.getD k OpG.none_).len ≤ totG xs := by
  have h1 := totG_take xs k hk
  have h2 := totG_mono xs (k + 1) xs.length (by omega)
  rw [List.take_length] at h2
  omega
theorem spot_none10 {W : World} {a : Addr} {v : Value} (h : W.cell? a = some v) : a.spot = none := by
  unfold World.cell? at h
  split at h
  · split at h
    · cases h
    · rename_i hs
      cases hh : a.spot with
      | none => rfl
      | some x => rw [hh] at hs; exact absurd rfl hs
  · cases h
theorem cellsBool10 : Try.prog.cellsOf 4 = 1 := by kernel_rfl
/-- A slice of bools, opened. -/
theorem opened_bools {H : Type} {enc : TypeId × Value → H} {W : World} {a0 : Option Addr} {len cap : Nat} {d0 : DataW H} {p : List MemPlace}
    (h0 : DataW.Trod enc Try.prog W 0 (fun _ => true) true 32 (.slice a0 len cap) d0 p) :
    ∃ l : List Bool, l.length = len ∧ len ≤ cap ∧ cap ≤ maxLen ∧ RowT boolC W (fun _ => True) a0 l := by
  obtain ⟨fuel, hf⟩ := h0
  rcases Go.Deep.open_slice Try.underlying32 hf with ⟨hcs, _⟩ | ⟨a, len', cap', m, n, D, Pl, hcs, _, hl, hm, hmm, hx, hi⟩
  · simp [Value.cells] at hcs
    obtain ⟨rfl, rfl, rfl⟩ := hcs
    exact ⟨[], rfl, by omega, by unfold maxLen; omega, fun hn => by simp at hn⟩
  · simp [Value.cells] at hcs
    obtain ⟨rfl, rfl, rfl⟩ := hcs
    simp only [if_true] at hmm
    have each : ∀ i, i < len → ∃ b : Bool, W.cell? ((a.add (i * 1)).add 0) = some (.bool b) := fun i hil => by
      obtain ⟨cs', hc, ht⟩ := hi i (by omega)
      rw [cellsBool10] at hc
      obtain ⟨_, _, hat⟩ := World.cells?_some hc
      obtain ⟨t, ht2, _⟩ := DataW.trod_bool Try.underlying4 ht
      subst ht2
      exact ⟨t, by rw [hat 0 (by omega)]; rfl⟩
    let f : Nat → Bool := fun i => if h : i < len then Classical.choose (each i h) else false
    have hf2 : ∀ i, i < len → W.cell? ((a.add (i * 1)).add 0) = some (.bool (f i)) := fun i h => by
      have := Classical.choose_spec (each i h)
      simp only [f, dif_pos h]
      exact this
    refine ⟨(List.range len).map f, by simp, hl, hm, fun hn => ?_⟩
    simp only [List.length_map, List.length_range] at hn
    have h00 := hf2 0 hn
    have hs := spot_none10 h00
    obtain ⟨b, o, s⟩ := a
    have hs' : s = none := by simpa [Addr.add] using hs
    subst hs'
    refine ⟨b, o, rfl, trivial, ?_, fun j v hj => ?_⟩
    · simpa [Addr.add] using World.block_lt_of_cell? _ _ h00
    · have hj2 : j < len := by
        have := (List.getElem?_eq_some_iff.1 hj).1
        rw [flat_length (C := boolC) (k := 1) (fun _ => rfl), List.length_map, List.length_range] at this
        omega
      have h1 := hf2 j hj2
      rw [Addr.add_lit, Addr.add_lit] at h1
      have h2 : v = .bool (f j) := by
        rw [List.flatMap_map] at hj
        have : ((List.range len).flatMap fun a => boolC (f a)) = (List.range len).map fun a => Value.bool (f a) := by
          rw [List.map_eq_flatMap]
        rw [this] at hj
        simp [hj2] at hj
        exact hj.symm
      rw [h2]
      simpa using h1
theorem cellsOp10 : Try.prog.cellsOf 34 = 6 := by kernel_rfl
theorem cellsI10 : Try.prog.cellsOf 3 = 1 := by kernel_rfl
theorem cellsS10 : Try.prog.cellsOf 9 = 1 := by kernel_rfl
theorem cellsB10 : Try.prog.cellsOf 31 = 1 := by kernel_rfl
theorem cellsK10 : Try.prog.cellsOf 32 = 1 := by kernel_rfl
theorem weight_slice {H : Type} {enc : TypeId × Value → H} {W : World} {e ty : TypeId} {m : Nat} {b : Value} {x : DataW H × List MemPlace} (hu : Try.prog.underlying ty = some (.slice e)) (hb : 1 ≤ Try.prog.bytesOf e)
    (h : DataW.trod enc Try.prog W 0 (fun _ => true) true m ty [b] = some x) (hw : ∀ k ∈ x.1.weights Try.prog ty, k ≤ reachBytes) : ∃ A k c, b = .slice A k c ∧ k ≤ reachBytes := by
  rcases Go.Deep.open_slice hu h with ⟨hcs, _⟩ | ⟨a, len', cap', m', n, D, Pl, hcs, _, hl, hm, hmm, hx, _⟩
  · exact ⟨_, _, _, by simpa using hcs, Nat.zero_le _⟩
  · refine ⟨_, _, _, by simpa using hcs, ?_⟩
    have hd : x.1 = .slice ((List.range len').map D) ((List.range (m' - len')).map fun j => D (len' + j)) := congrArg Prod.fst hx
    have := hw ((((List.range len').map D).length + ((List.range (m' - len')).map fun j => D (len' + j)).length) * Try.prog.bytesOf e) (by
      rw [hd]
      simp only [DataW.weights, hu]
      exact List.mem_cons_self)
    simp only [List.length_map, List.length_range] at this
    have h2 : len' ≤ (len' + (m' - len')) * Try.prog.bytesOf e := Nat.le_trans (Nat.le_add_right _ _) (Nat.le_mul_of_pos_right _ hb)
    omega
theorem opened_op10 {H : Type} {enc : TypeId × Value → H} {W : World} {n : Nat} {cs : List Value} {x : DataW H × List MemPlace}
    (h : DataW.trod enc Try.prog W 0 (fun _ => true) true n 34 cs = some x) (hw : ∀ k ∈ x.1.weights Try.prog 34, k ≤ reachBytes) :
    ∃ g : OpG, cs = [.int .i64 g.o.k, .string g.o.n, .string g.o.t, .slice g.BA g.o.b.length g.bc, .int .i64 g.o.i, .slice g.KA g.o.ks.length g.kc] ∧ OpIn W g := by
  obtain ⟨xs, m, rfl, hx, hl, hxl, hall⟩ := DataW.trod_struct Try.underlying34 h
  rw [cellsOp10] at hl
  have h0 := hall 0 _ rfl
  have h1 := hall 1 _ rfl
  have h2 := hall 2 _ rfl
  have h3 := hall 3 _ rfl
  have h4 := hall 4 _ rfl
  have h5 := hall 5 _ rfl
  change DataW.trod _ _ _ _ _ _ _ 3 ((cs.drop 0).take (Try.prog.cellsOf 3)) = xs[0]? at h0
  change DataW.trod _ _ _ _ _ _ _ 9 ((cs.drop 1).take (Try.prog.cellsOf 9)) = xs[1]? at h1
  change DataW.trod _ _ _ _ _ _ _ 9 ((cs.drop 2).take (Try.prog.cellsOf 9)) = xs[2]? at h2
  change DataW.trod _ _ _ _ _ _ _ 31 ((cs.drop 3).take (Try.prog.cellsOf 31)) = xs[3]? at h3
  change DataW.trod _ _ _ _ _ _ _ 3 ((cs.drop 4).take (Try.prog.cellsOf 3)) = xs[4]? at h4
  change DataW.trod _ _ _ _ _ _ _ 32 ((cs.drop 5).take (Try.prog.cellsOf 32)) = xs[5]? at h5
  rw [cellsI10] at h0 h4
  rw [cellsS10] at h1 h2
  rw [cellsB10] at h3
  rw [cellsK10] at h5
  obtain ⟨x0, x1, x2, x3, x4, x5, rfl⟩ : ∃ x0 x1 x2 x3 x4 x5, xs = [x0, x1, x2, x3, x4, x5] := by
    match xs, hxl with
    | [x0, x1, x2, x3, x4, x5], _ => exact ⟨x0, x1, x2, x3, x4, x5, rfl⟩
  obtain ⟨a, b, c, d, e, f, rfl⟩ : ∃ a b c d e f, cs = [a, b, c, d, e, f] := by
    match cs, hl with
    | [a, b, c, d, e, f], _ => exact ⟨a, b, c, d, e, f, rfl⟩
  obtain ⟨k, hk, _, _⟩ := DataW.trod_int Try.underlying3 (by simpa using h0)
  obtain rfl : a = .int .i64 k := by simpa using hk
  obtain ⟨i, hi, _, wi⟩ := DataW.trod_int Try.underlying3 (by simpa using h4)
  obtain rfl : e = .int .i64 i := by simpa using hi
  have h1' : DataW.trod enc Try.prog W 0 (fun _ => true) true m 9 [b] = some x1 := by simpa using h1
  have h2' : DataW.trod enc Try.prog W 0 (fun _ => true) true m 9 [c] = some x2 := by simpa using h2
  have h3' : DataW.trod enc Try.prog W 0 (fun _ => true) true m 31 [d] = some x3 := by simpa using h3
  have h5' : DataW.trod enc Try.prog W 0 (fun _ => true) true m 32 [f] = some x5 := by simpa using h5
  have hws : ∀ (j : Nat) (y : DataW H × List MemPlace) (ty : TypeId) (kk : Nat), ([x0, x1, x2, x3, x4, x5] : List _)[j]? = some y → ([3, 9, 9, 31, 3, 32] : List TypeId)[j]? = some ty → kk ∈ y.1.weights Try.prog ty → kk ≤ reachBytes := fun j y ty kk hy ht hk => hw kk (by
    rw [hx]
    simp only [DataW.weights, Try.underlying34, List.map_cons, List.map_nil, DataW.weightsEach]
    match j, hy, ht with
    | 0, hy, ht => injection hy with hy; injection ht with ht; subst hy; subst ht; exact List.mem_append_left _ hk
    | 1, hy, ht => injection hy with hy; injection ht with ht; subst hy; subst ht; exact List.mem_append_right _ (List.mem_append_left _ hk)
    | 2, hy, ht => injection hy with hy; injection ht with ht; subst hy; subst ht; exact List.mem_append_right _ (List.mem_append_right _ (List.mem_append_left _ hk))
    | 3, hy, ht => injection hy with hy; injection ht with ht; subst hy; subst ht; exact List.mem_append_right _ (List.mem_append_right _ (List.mem_append_right _ (List.mem_append_left _ hk)))
    | 4, hy, ht => injection hy with hy; injection ht with ht; subst hy; subst ht; exact List.mem_append_right _ (List.mem_append_right _ (List.mem_append_right _ (List.mem_append_right _ (List.mem_append_left _ hk))))
    | 5, hy, ht => injection hy with hy; injection ht with ht; subst hy; subst ht; exact List.mem_append_right _ (List.mem_append_right _ (List.mem_append_right _ (List.mem_append_right _ (List.mem_append_right _ (List.mem_append_left _ hk)))))
    | j + 6, hy, ht => cases hy)
  obtain ⟨s, hs, hx1, _⟩ := DataW.trod_string Try.underlying9 h1'
  obtain rfl : b = .string s := by simpa using hs
  obtain ⟨t, ht, hx2, _⟩ := DataW.trod_string Try.underlying9 h2'
  obtain rfl : c = .string t := by simpa using ht
  obtain ⟨BA, bn, bc, rfl, hbr⟩ := weight_slice Try.underlying31 (by rw [show Try.prog.bytesOf 5 = 1 by kernel_rfl]; exact Nat.le_refl _) h3' (fun kk hk => hws 3 x3 _ kk rfl rfl hk)
  obtain ⟨KA, kn, kc, rfl, hkr⟩ := weight_slice Try.underlying32 (by rw [show Try.prog.bytesOf 4 = 1 by kernel_rfl]; exact Nat.le_refl _) h5' (fun kk hk => hws 5 x5 _ kk rfl rfl hk)
  obtain ⟨l, hl1, hl2, hl3, hl4, hl5⟩ := opened_byt (enc := enc) (W := W) (a0 := BA) (len := bn) (cap := bc) (d0 := x3.1) (p := x3.2) ⟨m, by simpa [Value.cells] using h3'⟩
  obtain ⟨ks, hk1, hk2, hk3, hk4⟩ := opened_bools (enc := enc) (W := W) (a0 := KA) (len := kn) (cap := kc) (d0 := x5.1) (p := x5.2) ⟨m, by simpa [Value.cells] using h5'⟩
  subst hl1; subst hk1
  have hb : -9223372036854775808 ≤ i ∧ i ≤ 9223372036854775807 := by
    have q1 : IntKind.i64.min = -9223372036854775808 := rfl
    have q2 : IntKind.i64.max = 9223372036854775807 := rfl
    simp only [Lit.wf, Bool.and_eq_true, decide_eq_true_eq] at wi
    omega
  refine ⟨⟨⟨k, s, t, l, i, ks⟩, BA, bc, KA, kc⟩, rfl, ⟨hl4, hl5, hk4, hb.1, hb.2, hbr, hkr, ?_, ?_⟩⟩
  · have := hws 1 x1 _ s.data.toList.length rfl rfl (by rw [hx1]; simp [DataW.weights])
    show s.data.size ≤ reachBytes
    rw [← Array.length_toList]
    exact this
  · have := hws 2 x2 _ t.data.toList.length rfl rfl (by rw [hx2]; simp [DataW.weights])
    show t.data.size ≤ reachBytes
    rw [← Array.length_toList]
    exact this
theorem weightsAll_mem10 {H : Type} {P : Program} {e : TypeId} : ∀ {ds : List (DataW H)} {d : DataW H}, d ∈ ds → ∀ n ∈ d.weights P e, n ∈ DataW.weightsAll P e ds
  | [], _, h, _, _ => by cases h
  | x :: xs, d, h, n, hn => by
    simp only [DataW.weightsAll]
    rcases List.mem_cons.1 h with rfl | h
    · exact List.mem_append_left _ hn
    · exact List.mem_append_right _ (weightsAll_mem10 h n hn)
abbrev opgC (x : OpG) : List Value := [.int .i64 x.o.k, .string x.o.n, .string x.o.t, .slice x.BA x.o.b.length x.bc, .int .i64 x.o.i, .slice x.KA x.o.ks.length x.kc]
theorem opened_ops10 {H : Type} {enc : TypeId × Value → H} {W : World} {a0 : Option Addr} {len cap : Nat} {d0 : DataW H} {p : List MemPlace}
    (h0 : DataW.Trod enc Try.prog W 0 (fun _ => true) true 22 (.slice a0 len cap) d0 p) (hw : ∀ k ∈ d0.weights Try.prog 22, k ≤ reachBytes) :
    ∃ xs : List OpG, xs.length = len ∧ len ≤ cap ∧ cap ≤ maxLen ∧ RdO10 W a0 xs := by
  obtain ⟨fuel, hf⟩ := h0
  rcases Go.Deep.open_slice Try.underlying22 hf with ⟨hcs, _⟩ | ⟨a, len', cap', m, n, D, Pl, hcs, _, hl, hm, hmm, hx, hi⟩
  · simp [Value.cells] at hcs
    obtain ⟨rfl, rfl, rfl⟩ := hcs
    exact ⟨[], rfl, by omega, by unfold maxLen; omega, fun hn => by simp at hn⟩
  · simp [Value.cells] at hcs
    obtain ⟨rfl, rfl, rfl⟩ := hcs
    simp only [if_true] at hmm
    have each : ∀ i, i < len → ∃ x : OpG, (∀ j v, (opgC x)[j]? = some v → W.cell? ((a.add (i * 6)).add j) = some v) ∧ OpIn W x := fun i hil => by
      obtain ⟨cs', hc, ht⟩ := hi i (by omega)
      rw [cellsOp10] at hc
      obtain ⟨_, _, hat⟩ := World.cells?_some hc
      obtain ⟨x, rfl, hin⟩ := opened_op10 ht (fun k hk => hw k (by
        have hd : d0 = .slice ((List.range len).map D) ((List.range (m - len)).map fun j => D (len + j)) := congrArg Prod.fst hx
        rw [hd]
        simp only [DataW.weights, Try.underlying22]
        exact List.mem_cons_of_mem _ (List.mem_append_left _ (weightsAll_mem10 (List.mem_map.2 ⟨i, List.mem_range.2 hil, rfl⟩) k hk))))
      refine ⟨x, fun j v hj => ?_, hin⟩
      have hj6 : j < 6 := by
        have := (List.getElem?_eq_some_iff.1 hj).1
        simpa using this
      rw [hat j hj6]
      exact hj
    let f : Nat → OpG := fun i => if h : i < len then Classical.choose (each i h) else OpG.none_
    have hf2 : ∀ i, i < len → (∀ j v, (opgC (f i))[j]? = some v → W.cell? ((a.add (i * 6)).add j) = some v) ∧ OpIn W (f i) := fun i h => by
      have := Classical.choose_spec (each i h)
      simp only [f, dif_pos h]
      exact this
    refine ⟨(List.range len).map f, by simp, hl, hm, fun hn => ?_⟩
    simp only [List.length_map, List.length_range] at hn
    have h00 := (hf2 0 hn).1 0 _ rfl
    have hs := spot_none10 h00
    obtain ⟨b, o, s⟩ := a
    have hs' : s = none := by simpa [Addr.add] using hs
    subst hs'
    refine ⟨b, o, rfl, ?_, fun i hi2 => ?_⟩
    · simpa [Addr.add] using World.block_lt_of_cell? _ _ h00
    · simp only [List.length_map, List.length_range] at hi2
      have e : ((List.range len).map f).getD i OpG.none_ = f i := by simp [List.getD, hi2]
      rw [e]
      refine ⟨fun j v hj => ?_, (hf2 i hi2).2⟩
      have h1 := (hf2 i hi2).1 j v hj
      rw [Addr.add_lit, Addr.add_lit] at h1
      exact h1
set_option maxHeartbeats 4000000 in
theorem few10_calls (A : Option Addr) (c : Nat) (xs : List OpG) (w : World) (hR : RdO10 w A xs) (hl : xs.length ≤ 9223372036854775807) :
    Calls Try.prog 10 #[.slice A xs.length c] w fun e w' => e = .returned (.bool (decide (xs.length ≤ 80 ∧ totG xs ≤ 8000))) ∧ Below w.heap.size w w' := by
  have HR := Lib.hid hR
  clear hR
  go_enter Try.func10, Try.ntmps10
  go_wp2_with fail
  go_loopw [3, 8] (fun v3 v8 wr => ∃ (k : Nat) (z : Int), k ≤ xs.length ∧ v8 = .int .i64 (k : Int) ∧ v3 = .int .i64 z ∧ Hid (xs.length ≤ 80 → z = (totG (xs.take k) : Int)) ∧ Below w.heap.size w wr) (fun _ v8 _ => xs.length - (intOf v8).toNat)
  case atStart => exact ⟨0, 0, Nat.zero_le _, rfl, rfl, Lib.hid (fun _ => rfl), Below.refl _ _⟩
  case round =>
    obtain ⟨k, z, hk, rfl, rfl, hz, hbel⟩ := hrel
    by_cases hlt : k < xs.length
    · obtain ⟨g, o, rfl, hg, hcs, hin⟩ := (HR.out.below hbel).at_ hlt
      have c0 := hcs 0 _ rfl
      have c1 := hcs 1 _ rfl
      have c2 := hcs 2 _ rfl
      have c3 := hcs 3 _ rfl
      have c4 := hcs 4 _ rfl
      have c5 := hcs 5 _ rfl
      rw [Nat.add_zero] at c0
      have hb1 := hin.sb
      have hb2 := hin.sk
      have hb3 := hin.sn
      have hb4 := hin.st
      have hst := Lib.hid (totG_take xs k hlt)
      have hub : Hid (xs.length ≤ 80 → totG (xs.take k) ≤ 80 * (4 * reachBytes)) := Lib.hid fun h => by
        have hall : ∀ i, i < xs.length → (xs.getD i OpG.none_).len ≤ 4 * reachBytes := fun i hi => by
          obtain ⟨_, _, _, _, _, h4⟩ := HR.out.at_ hi
          have q1 := h4.sb
          have q2 := h4.sk
          have q3 := h4.sn
          have q4 := h4.st
          unfold OpG.len
          omega
        have h1 := totG_le xs hall k (by omega)
        have h2 : k * (4 * reachBytes) ≤ 80 * (4 * reachBytes) := Nat.mul_le_mul_right _ (by omega)
        omega
      have HB := Lib.hid hbel
      have hsz := hbel.size
      clear hbel hcs hin
      generalize xs.getD k OpG.none_ = e at *
      have hrb0 : reachBytes = 140737488351232 := rfl
      have hs0 : IntKind.i64.wrap ((e.o.b.length : Int) + (e.o.ks.length : Int)) = (e.o.b.length : Int) + (e.o.ks.length : Int) := IntWalk.i64_in _ (by omega)
      have hs1 : IntKind.i64.wrap ((e.o.b.length : Int) + (e.o.ks.length : Int) + (e.o.n.size : Int)) = (e.o.b.length : Int) + (e.o.ks.length : Int) + (e.o.n.size : Int) := IntWalk.i64_in _ (by omega)
      have hs2 : IntKind.i64.wrap ((e.o.b.length : Int) + (e.o.ks.length : Int) + (e.o.n.size : Int) + (e.o.t.size : Int)) = (e.o.b.length : Int) + (e.o.ks.length : Int) + (e.o.n.size : Int) + (e.o.t.size : Int) := IntWalk.i64_in _ (by omega)
      clear hrb0
      have hkk : (k : Int) + 1 ≤ 9223372036854775807 := by omega
      obtain ⟨z2, hzz⟩ : ∃ z2, z2 = IntKind.i64.wrap (z + ((e.o.b.length : Int) + (e.o.ks.length : Int) + (e.o.n.size : Int) + (e.o.t.size : Int))) := ⟨_, rfl⟩
      have Hz2 : Hid (xs.length ≤ 80 → z2 = (totG (xs.take (k + 1)) : Int)) := Lib.hid fun h => by
        have h1 := hz.out h
        have h2 := hub.out h
        have hrb : reachBytes = 140737488351232 := rfl
        rw [hst.out, hzz, h1]
        unfold OpG.len
        rw [IntWalk.i64_in _ (by omega)]
        omega
      have hsum : IntKind.i64.wrap (z + ((e.o.b.length : Int) + (e.o.ks.length : Int) + (e.o.n.size : Int) + (e.o.t.size : Int))) = z2 := hzz.symm
      clear hst hub hzz hz hb1 hb2 hb3 hb4
      go_wp2_with fail
      go_roundw
      case rel => exact ⟨k + 1, z2, by omega, by go_num, by first | rfl | (rw [← hsum]; rfl) | go_num, Hz2, HB.out.alloc hsz _⟩
      case measure => simp [intOf]; omega
    · obtain rfl : k = xs.length := by omega
      have HB := Lib.hid hbel
      have hzf := hz.out
      rw [List.take_length] at hzf
      have Hzf := Lib.hid hzf
      clear hbel hz hzf HR
      by_cases h80 : xs.length ≤ 80
      · have d1 : decide (xs.length ≤ 80) = true := decide_eq_true h80
        have d1' : decide ((xs.length : Int) ≤ 80) = true := decide_eq_true (by omega)
        have e2 : decide (z ≤ 8000) = decide (xs.length ≤ 80 ∧ totG xs ≤ 8000) := by
          rw [decide_eq_decide, Hzf.out h80]; omega
        have E2 := Lib.hid e2
        clear e2 h80 Hzf
        go_wp2_with fail
        go_ret
        exact ⟨by rw [← E2.out]; rfl, HB.out⟩
      · have d1 : decide (xs.length ≤ 80) = false := decide_eq_false h80
        have d1' : decide ((xs.length : Int) ≤ 80) = false := decide_eq_false (by omega)
        have e2 : decide (xs.length ≤ 80 ∧ totG xs ≤ 8000) = false := decide_eq_false (fun h => h80 h.1)
        have E2 := Lib.hid e2
        clear e2 h80 Hzf
        go_wp2_with fail
        go_ret
        exact ⟨by rw [E2.out]; rfl, HB.out⟩
end
end Go.Proofs.Ytaeiffpdnlejbaa
