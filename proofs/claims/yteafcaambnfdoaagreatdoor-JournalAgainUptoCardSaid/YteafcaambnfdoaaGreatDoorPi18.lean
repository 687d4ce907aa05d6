/-
  Layer 7 and what it stands on, part 18 (JArgs).
-/
import Derived.Test.YteafcaambnfdoaaGreatDoorPi14
import Derived.Test.YteafcaambnfdoaaGreatDoorPi16
import Derived.Test.YteafcaambnfdoaaGreatDoorPi17
namespace Go.Proofs.YteafcaambnfdoaaGreatDoor
section
open Go Go.RowKit Go.ChangeShapes Go.WideShapes Go.ChangeAt Go.ChangeMaps Go.Deep
set_option maxRecDepth 100000
structure EnIn (e : EnJ) : Prop where
 t1 : -9223372036854775808 ≤ e.t
 t2 : e.t ≤ 9223372036854775807
 d : e.d.length ≤ reachBytes
 c : e.c.length ≤ reachBytes
def EnJ.zero_ : EnJ := ⟨0, [], []⟩
theorem cellsEn12 : Tryz.prog.cellsOf 28 = 3 := by kernel_rfl
theorem opened_en12 {H : Type} {enc : TypeId × Value → H} {W : World} {n : Nat} {cs : List Value} {x : DataW H × List MemPlace}
  (h : DataW.trod enc Tryz.prog W 0 (fun _ => true) true n 28 cs = some x) (hw : ∀ k ∈ x.1.weights Tryz.prog 28, k ≤ reachBytes) :
  ∃ e : EnJ, cs = enC e ∧ EnIn e ∧ e.d.length ≤ Rows.uptoBulk x.1 ∧ e.c.length ≤ Rows.uptoBulk x.1 := by
 obtain ⟨xs, m, rfl, hx, hl, hxl, hall⟩ := DataW.trod_struct Tryz.underlying28 h
 rw [cellsEn12] at hl
 have h0 := hall 0 _ rfl
 have h1 := hall 1 _ rfl
 have h2 := hall 2 _ rfl
 change DataW.trod _ _ _ _ _ _ _ 3 ((cs.drop 0).take (Tryz.prog.cellsOf 3)) = xs[0]? at h0
 change DataW.trod _ _ _ _ _ _ _ 9 ((cs.drop 1).take (Tryz.prog.cellsOf 9)) = xs[1]? at h1
 change DataW.trod _ _ _ _ _ _ _ 9 ((cs.drop 2).take (Tryz.prog.cellsOf 9)) = xs[2]? at h2
 rw [cellsI10] at h0
 rw [cellsS10] at h1 h2
 obtain ⟨x0, x1, x2, rfl⟩ : ∃ x0 x1 x2, xs = [x0, x1, x2] := by
  match xs, hxl with
  | [x0, x1, x2], _ => exact ⟨x0, x1, x2, rfl⟩
 obtain ⟨a, b, c, rfl⟩ : ∃ a b c, cs = [a, b, c] := by
  match cs, hl with
  | [a, b, c], _ => exact ⟨a, b, c, rfl⟩
 obtain ⟨k, hk, _, wi⟩ := DataW.trod_int Tryz.underlying3 (by simpa using h0)
 obtain rfl : a = .int .i64 k := by simpa using hk
 have h1' : DataW.trod enc Tryz.prog W 0 (fun _ => true) true m 9 [b] = some x1 := by simpa using h1
 have h2' : DataW.trod enc Tryz.prog W 0 (fun _ => true) true m 9 [c] = some x2 := by simpa using h2
 have hws : ∀ (j : Nat) (y : DataW H × List MemPlace) (ty : TypeId) (kk : Nat), ([x0, x1, x2] : List _)[j]? = some y → ([3, 9, 9] : List TypeId)[j]? = some ty → kk ∈ y.1.weights Tryz.prog ty → kk ≤ reachBytes := fun j y ty kk hy ht hk => hw kk (by
  rw [hx]
  simp only [DataW.weights, Tryz.underlying28, List.map_cons, List.map_nil, DataW.weightsEach]
  match j, hy, ht with
  | 0, hy, ht => injection hy with hy; injection ht with ht; subst hy; subst ht; exact List.mem_append_left _ hk
  | 1, hy, ht => injection hy with hy; injection ht with ht; subst hy; subst ht; exact List.mem_append_right _ (List.mem_append_left _ hk)
  | 2, hy, ht => injection hy with hy; injection ht with ht; subst hy; subst ht; exact List.mem_append_right _ (List.mem_append_right _ (List.mem_append_left _ hk))
  | j + 3, hy, ht => cases hy)
 obtain ⟨s, hs, hx1, _⟩ := DataW.trod_string Tryz.underlying9 h1'
 obtain rfl : b = .string s := by simpa using hs
 obtain ⟨t, ht, hx2, _⟩ := DataW.trod_string Tryz.underlying9 h2'
 obtain rfl : c = .string t := by simpa using ht
 have hb : -9223372036854775808 ≤ k ∧ k ≤ 9223372036854775807 := by
  have q1 : IntKind.i64.min = -9223372036854775808 := rfl
  have q2 : IntKind.i64.max = 9223372036854775807 := rfl
  simp only [Lit.wf, Bool.and_eq_true, decide_eq_true_eq] at wi
  omega
 have hlen : ∀ s : ByteArray, (bl s).length = s.data.toList.length := fun s => by
  rw [← bs_size, bs_bl, Array.length_toList]
  rfl
 refine ⟨⟨k, bl s, bl t⟩, ?_, ⟨hb.1, hb.2, ?_, ?_⟩, ?_, ?_⟩
 ·show _ = [Value.int .i64 k, .string (bs (bl s)), .string (bs (bl t))]
  rw [bs_bl, bs_bl]
 ·have := hws 1 x1 _ s.data.toList.length rfl rfl (by rw [hx1]; simp [DataW.weights])
  show (bl s).length ≤ reachBytes
  rw [← bs_size, bs_bl]
  show s.data.size ≤ reachBytes
  rw [← Array.length_toList]
  exact this
 ·have := hws 2 x2 _ t.data.toList.length rfl rfl (by rw [hx2]; simp [DataW.weights])
  show (bl t).length ≤ reachBytes
  rw [← bs_size, bs_bl]
  show t.data.size ≤ reachBytes
  rw [← Array.length_toList]
  exact this
 ·have h := bulk_agg (d := DataW.lit (H := H) (.string s.data.toList)) (parts := [x0.1, x1.1, x2.1]) (by rw [hx1]; simp)
  rw [bulk_str] at h
  rw [hx]
  show (bl s).length ≤ _
  rw [hlen]
  exact Nat.le_trans (Nat.le_succ _) h
 ·have h := bulk_agg (d := DataW.lit (H := H) (.string t.data.toList)) (parts := [x0.1, x1.1, x2.1]) (by rw [hx2]; simp)
  rw [bulk_str] at h
  rw [hx]
  show (bl t).length ≤ _
  rw [hlen]
  exact Nat.le_trans (Nat.le_succ _) h
theorem opened_ens12 {H : Type} {enc : TypeId × Value → H} {W : World} {a0 : Option Addr} {len cap : Nat} {d0 : DataW H} {p : List MemPlace}
  (h0 : DataW.Trod enc Tryz.prog W 0 (fun _ => true) true 29 (.slice a0 len cap) d0 p) (hw : ∀ k ∈ d0.weights Tryz.prog 29, k ≤ reachBytes) :
  ∃ l : List EnJ, l.length = len ∧ len ≤ cap ∧ cap ≤ maxLen ∧ RowT enC W (fun _ => True) a0 l ∧ (∀ e ∈ l, EnIn e) ∧ l.length ≤ Rows.uptoBulk d0 ∧ ∀ e ∈ l, e.d.length ≤ Rows.uptoBulk d0 ∧ e.c.length ≤ Rows.uptoBulk d0 := by
 obtain ⟨fuel, hf⟩ := h0
 rcases Go.Deep.open_slice Tryz.underlying29 hf with ⟨hcs, _⟩ | ⟨a, len', cap', m, n, D, Pl, hcs, _, hl, hm, hmm, hx, hi⟩
 ·simp [Value.cells] at hcs
  obtain ⟨rfl, rfl, rfl⟩ := hcs
  exact ⟨[], rfl, by omega, by unfold maxLen; omega, fun hn => (by simp at hn), fun e he => (by cases he), Nat.zero_le _, fun e he => (by cases he)⟩
 ·simp [Value.cells] at hcs
  obtain ⟨rfl, rfl, rfl⟩ := hcs
  simp only [if_true] at hmm
  have hd : d0 = .slice ((List.range len).map D) ((List.range (m - len)).map fun j => D (len + j)) := congrArg Prod.fst hx
  have each : ∀ i, i < len → ∃ x : EnJ, (∀ j v, (enC x)[j]? = some v → W.cell? ((a.add (i * 3)).add j) = some v) ∧ EnIn x ∧ x.d.length ≤ Rows.uptoBulk d0 ∧ x.c.length ≤ Rows.uptoBulk d0 := fun i hil => by
   obtain ⟨cs', hc, ht⟩ := hi i (by omega)
   rw [cellsEn12] at hc
   obtain ⟨_, _, hat⟩ := World.cells?_some hc
   obtain ⟨x, rfl, hin, hbd, hbc⟩ := opened_en12 ht (fun k hk => hw k (by
    rw [hd]
    simp only [DataW.weights, Tryz.underlying29]
    exact List.mem_cons_of_mem _ (List.mem_append_left _ (weightsAll_mem10 (List.mem_map.2 ⟨i, List.mem_range.2 hil, rfl⟩) k hk))))
   have hle : Rows.uptoBulk (D i) ≤ Rows.uptoBulk d0 := by rw [hd]; exact bulk_elem (List.mem_map.2 ⟨i, List.mem_range.2 hil, rfl⟩)
   refine ⟨x, fun j v hj => ?_, hin, Nat.le_trans hbd hle, Nat.le_trans hbc hle⟩
   have hj3 : j < 3 := by
    have := (List.getElem?_eq_some_iff.1 hj).1
    simpa using this
   rw [hat j hj3]
   exact hj
  let f : Nat → EnJ := fun i => if h : i < len then Classical.choose (each i h) else EnJ.zero_
  have hf2 : ∀ i, i < len → (∀ j v, (enC (f i))[j]? = some v → W.cell? ((a.add (i * 3)).add j) = some v) ∧ EnIn (f i) ∧ (f i).d.length ≤ Rows.uptoBulk d0 ∧ (f i).c.length ≤ Rows.uptoBulk d0 := fun i h => by
   have := Classical.choose_spec (each i h)
   simp only [f, dif_pos h]
   exact this
  refine ⟨(List.range len).map f, by simp, hl, hm, fun hn => ?_, fun e he => ?_, ?_, fun e he => ?_⟩
  ·simp only [List.length_map, List.length_range] at hn
   have h00 := (hf2 0 hn).1 0 _ rfl
   have hs := spot_none10 h00
   obtain ⟨b, o, s⟩ := a
   have hs' : s = none := by simpa [Addr.add] using hs
   subst hs'
   refine ⟨b, o, rfl, trivial, ?_, fun j v hj => ?_⟩
   ·simpa [Addr.add] using World.block_lt_of_cell? _ _ h00
   ·have hjl : j < len * 3 := by
     have := (List.getElem?_eq_some_iff.1 hj).1
     rwa [flat_length (C := enC) (k := 3) enC_length, List.length_map, List.length_range] at this
    have hd : j / 3 < len := by omega
    have hr : j % 3 < 3 := Nat.mod_lt _ (by decide)
    have hq : ((List.range len).map f)[j / 3]? = some (f (j / 3)) := by simp [hd]
    have hv : ∃ u, (enC (f (j / 3)))[j % 3]? = some u := ⟨_, List.getElem?_eq_getElem (by rw [enC_length]; exact hr)⟩
    obtain ⟨u, hu⟩ := hv
    have h3 := flat_get enC_length hq hu
    have e : j / 3 * 3 + j % 3 = j := by omega
    rw [e, hj] at h3
    injection h3 with h3
    subst h3
    have h4 := (hf2 (j / 3) hd).1 (j % 3) _ hu
    rw [Addr.add_lit, Addr.add_lit, Nat.add_assoc, e] at h4
    exact h4
  ·obtain ⟨i, hi2, rfl⟩ := List.mem_map.1 he
   exact (hf2 i (List.mem_range.1 hi2)).2.1
  ·rw [List.length_map, List.length_range, hd]
   have := bulk_slice (H := H) ((List.range len).map D) ((List.range (m - len)).map fun j => D (len + j))
   simpa using this
  ·obtain ⟨i, hi2, rfl⟩ := List.mem_map.1 he
   exact (hf2 i (List.mem_range.1 hi2)).2.2
end
end Go.Proofs.YteafcaambnfdoaaGreatDoor
