/-
  Layer 7 and what it stands on, part 22 (JOps).
-/
import Derived.Test.YteafcaambnfdoaaGreatDoorPi18
import Derived.Test.YteafcaambnfdoaaGreatDoorPi21
namespace Go.Proofs.YteafcaambnfdoaaGreatDoor
section
open Go Go.RowKit Go.ChangeShapes Go.WideShapes Go.ChangeAt Go.ChangeMaps Go.Deep
set_option maxRecDepth 100000
structure OpH where
 k : Int
 e : EnJ
 l : List EnJ
 i : Int
 b : List UInt8
 ks : List Bool
 LA : Option Addr
 lc : Nat
 BA : Option Addr
 bc : Nat
 KA : Option Addr
 kc : Nat
def OpH.zero_ : OpH := ⟨0, EnJ.zero_, [], 0, [], [], none, 0, none, 0, none, 0⟩
abbrev ophC (x : OpH) : List Value := [.int .i64 x.k, .int .i64 x.e.t, .string (bs x.e.d), .string (bs x.e.c), .slice x.LA x.l.length x.lc, .int .i64 x.i, .slice x.BA x.b.length x.bc, .slice x.KA x.ks.length x.kc]
theorem ophC_length (x : OpH) : (ophC x).length = 8 := rfl
structure OphIn (w : World) (x : OpH) : Prop where
 e : EnIn x.e
 l : RowT enC w (fun _ => True) x.LA x.l
 le : ∀ e ∈ x.l, EnIn e
 b : Byt w x.BA x.b
 bn : x.BA = none → x.bc = 0
 k : RowT boolC w (fun _ => True) x.KA x.ks
 i1 : -9223372036854775808 ≤ x.i
 i2 : x.i ≤ 9223372036854775807
 sl : x.l.length ≤ reachBytes
 sb : x.b.length ≤ reachBytes
 sk : x.ks.length ≤ reachBytes
theorem OphIn.below {w w' : World} {x : OpH} (h : OphIn w x) (hb : Below w.heap.size w w') : OphIn w' x := ⟨h.e, h.l.below hb, h.le, h.b.below hb, h.bn, h.k.below hb, h.i1, h.i2, h.sl, h.sb, h.sk⟩
structure RdO12 (w : World) (A : Option Addr) (xs : List OpH) : Prop where
 row : RowT ophC w (fun _ => True) A xs
 all : ∀ x ∈ xs, OphIn w x
theorem RdO12.below {w w' : World} {A : Option Addr} {xs : List OpH} (h : RdO12 w A xs) (hb : Below w.heap.size w w') : RdO12 w' A xs := ⟨h.row.below hb, fun x hx => (h.all x hx).below hb⟩
theorem RdO12.at_ {w : World} {A : Option Addr} {xs : List OpH} (h : RdO12 w A xs) {k : Nat} {x : OpH} (hq : xs[k]? = some x) : ∃ g o, A = some ⟨g, o, none⟩ ∧ g < w.heap.size ∧ (∀ j v, (ophC x)[j]? = some v → w.cell? ⟨g, o + k * 8 + j, none⟩ = some v) ∧ OphIn w x := by
 have hk : k < xs.length := (List.getElem?_eq_some_iff.1 hq).1
 obtain ⟨g, o, e, _, hg, hc⟩ := h.row (by omega)
 refine ⟨g, o, e, hg, fun j v hj => ?_, h.all x (List.mem_of_getElem? hq)⟩
 rw [Nat.add_assoc]
 exact hc (k * 8 + j) v (flat_get ophC_length hq hj)
structure OphSm (x : OpH) (B : Nat) : Prop where
 ed : x.e.d.length ≤ B
 ec : x.e.c.length ≤ B
 ll : x.l.length ≤ B
 le : ∀ e ∈ x.l, e.d.length ≤ B ∧ e.c.length ≤ B
 b : x.b.length ≤ B
 k : x.ks.length ≤ B
theorem OphSm.mono {x : OpH} {B B' : Nat} (h : OphSm x B) (hB : B ≤ B') : OphSm x B' := ⟨Nat.le_trans h.ed hB, Nat.le_trans h.ec hB, Nat.le_trans h.ll hB, fun e he => ⟨Nat.le_trans (h.le e he).1 hB, Nat.le_trans (h.le e he).2 hB⟩, Nat.le_trans h.b hB, Nat.le_trans h.k hB⟩
theorem bulk_len12 {H : Type} {enc : TypeId × Value → H} {W : World} {t e : TypeId} (hu : Tryz.prog.underlying t = some (.slice e)) {a0 : Option Addr} {len cap : Nat} {d0 : DataW H} {p : List MemPlace}
  (h0 : DataW.Trod enc Tryz.prog W 0 (fun _ => true) true t (.slice a0 len cap) d0 p) : len ≤ Rows.uptoBulk d0 := by
 obtain ⟨fuel, hf⟩ := h0
 rcases Go.Deep.open_slice hu hf with ⟨hcs, _⟩ | ⟨a, len', cap', m, n, D, Pl, hcs, _, hl, hm, hmm, hx, hi⟩
 ·simp [Value.cells] at hcs
  omega
 ·simp [Value.cells] at hcs
  obtain ⟨rfl, rfl, rfl⟩ := hcs
  have hd : d0 = .slice ((List.range len).map D) ((List.range (m - len)).map fun j => D (len + j)) := congrArg Prod.fst hx
  rw [hd]
  have := bulk_slice (H := H) ((List.range len).map D) ((List.range (m - len)).map fun j => D (len + j))
  simpa using this
theorem cellsOp12 : Tryz.prog.cellsOf 33 = 8 := by kernel_rfl
theorem cellsEs12 : Tryz.prog.cellsOf 29 = 1 := by kernel_rfl
theorem opened_op12 {H : Type} {enc : TypeId × Value → H} {W : World} {n : Nat} {cs : List Value} {x : DataW H × List MemPlace}
  (h : DataW.trod enc Tryz.prog W 0 (fun _ => true) true n 33 cs = some x) (hw : ∀ k ∈ x.1.weights Tryz.prog 33, k ≤ reachBytes) :
  ∃ g : OpH, cs = ophC g ∧ OphIn W g ∧ OphSm g (Rows.uptoBulk x.1) := by
 obtain ⟨xs, m, rfl, hx, hl, hxl, hall⟩ := DataW.trod_struct Tryz.underlying33 h
 rw [cellsOp12] at hl
 have h0 := hall 0 _ rfl
 have h1 := hall 1 _ rfl
 have h2 := hall 2 _ rfl
 have h3 := hall 3 _ rfl
 have h4 := hall 4 _ rfl
 have h5 := hall 5 _ rfl
 change DataW.trod _ _ _ _ _ _ _ 3 ((cs.drop 0).take (Tryz.prog.cellsOf 3)) = xs[0]? at h0
 change DataW.trod _ _ _ _ _ _ _ 28 ((cs.drop 1).take (Tryz.prog.cellsOf 28)) = xs[1]? at h1
 change DataW.trod _ _ _ _ _ _ _ 29 ((cs.drop 4).take (Tryz.prog.cellsOf 29)) = xs[2]? at h2
 change DataW.trod _ _ _ _ _ _ _ 3 ((cs.drop 5).take (Tryz.prog.cellsOf 3)) = xs[3]? at h3
 change DataW.trod _ _ _ _ _ _ _ 30 ((cs.drop 6).take (Tryz.prog.cellsOf 30)) = xs[4]? at h4
 change DataW.trod _ _ _ _ _ _ _ 31 ((cs.drop 7).take (Tryz.prog.cellsOf 31)) = xs[5]? at h5
 rw [cellsI10] at h0 h3
 rw [cellsEn12] at h1
 rw [cellsEs12] at h2
 rw [cellsB10] at h4
 rw [cellsK10] at h5
 obtain ⟨x0, x1, x2, x3, x4, x5, rfl⟩ : ∃ x0 x1 x2 x3 x4 x5, xs = [x0, x1, x2, x3, x4, x5] := by
  match xs, hxl with
  | [x0, x1, x2, x3, x4, x5], _ => exact ⟨x0, x1, x2, x3, x4, x5, rfl⟩
 obtain ⟨a, t1, t2, t3, c, d, e, f, rfl⟩ : ∃ a t1 t2 t3 c d e f, cs = [a, t1, t2, t3, c, d, e, f] := by
  match cs, hl with
  | [a, t1, t2, t3, c, d, e, f], _ => exact ⟨a, t1, t2, t3, c, d, e, f, rfl⟩
 obtain ⟨k, hk, _, _⟩ := DataW.trod_int Tryz.underlying3 (by simpa using h0)
 obtain rfl : a = .int .i64 k := by simpa using hk
 obtain ⟨i, hi, _, wi⟩ := DataW.trod_int Tryz.underlying3 (by simpa using h3)
 obtain rfl : d = .int .i64 i := by simpa using hi
 have h1' : DataW.trod enc Tryz.prog W 0 (fun _ => true) true m 28 [t1, t2, t3] = some x1 := by simpa using h1
 have h2' : DataW.trod enc Tryz.prog W 0 (fun _ => true) true m 29 [c] = some x2 := by simpa using h2
 have h4' : DataW.trod enc Tryz.prog W 0 (fun _ => true) true m 30 [e] = some x4 := by simpa using h4
 have h5' : DataW.trod enc Tryz.prog W 0 (fun _ => true) true m 31 [f] = some x5 := by simpa using h5
 have hws : ∀ (j : Nat) (y : DataW H × List MemPlace) (ty : TypeId) (kk : Nat), ([x0, x1, x2, x3, x4, x5] : List _)[j]? = some y → ([3, 28, 29, 3, 30, 31] : List TypeId)[j]? = some ty → kk ∈ y.1.weights Tryz.prog ty → kk ≤ reachBytes := fun j y ty kk hy ht hk => hw kk (by
  rw [hx]
  simp only [DataW.weights, Tryz.underlying33, List.map_cons, List.map_nil, DataW.weightsEach]
  match j, hy, ht with
  | 0, hy, ht => injection hy with hy; injection ht with ht; subst hy; subst ht; exact List.mem_append_left _ hk
  | 1, hy, ht => injection hy with hy; injection ht with ht; subst hy; subst ht; exact List.mem_append_right _ (List.mem_append_left _ hk)
  | 2, hy, ht => injection hy with hy; injection ht with ht; subst hy; subst ht; exact List.mem_append_right _ (List.mem_append_right _ (List.mem_append_left _ hk))
  | 3, hy, ht => injection hy with hy; injection ht with ht; subst hy; subst ht; exact List.mem_append_right _ (List.mem_append_right _ (List.mem_append_right _ (List.mem_append_left _ hk)))
  | 4, hy, ht => injection hy with hy; injection ht with ht; subst hy; subst ht; exact List.mem_append_right _ (List.mem_append_right _ (List.mem_append_right _ (List.mem_append_right _ (List.mem_append_left _ hk))))
  | 5, hy, ht => injection hy with hy; injection ht with ht; subst hy; subst ht; exact List.mem_append_right _ (List.mem_append_right _ (List.mem_append_right _ (List.mem_append_right _ (List.mem_append_right _ (List.mem_append_left _ hk)))))
  | j + 6, hy, ht => cases hy)
 have hbk : ∀ d ∈ [x0.1, x1.1, x2.1, x3.1, x4.1, x5.1], Rows.uptoBulk d ≤ Rows.uptoBulk x.1 := fun d hd => by
  have h := bulk_agg (d := d) (parts := [x0.1, x1.1, x2.1, x3.1, x4.1, x5.1]) hd
  rw [hx]
  exact h
 obtain ⟨en, hen, hein, hed, hec⟩ := opened_en12 h1' (fun kk hk => hws 1 x1 _ kk rfl rfl hk)
 injection hen with e1 hen
 injection hen with e2 hen
 injection hen with e3 _
 subst e1 e2 e3
 obtain ⟨LA, ln, lc, rfl, hlr⟩ := weight_slice Tryz.underlying29 (by rw [show Tryz.prog.bytesOf 28 = 40 by kernel_rfl]; decide) h2' (fun kk hk => hws 2 x2 _ kk rfl rfl hk)
 obtain ⟨BA, bn, bc, rfl, hbr⟩ := weight_slice Tryz.underlying30 (by rw [show Tryz.prog.bytesOf 5 = 1 by kernel_rfl]; exact Nat.le_refl _) h4' (fun kk hk => hws 4 x4 _ kk rfl rfl hk)
 obtain ⟨KA, kn, kc, rfl, hkr⟩ := weight_slice Tryz.underlying31 (by rw [show Tryz.prog.bytesOf 4 = 1 by kernel_rfl]; exact Nat.le_refl _) h5' (fun kk hk => hws 5 x5 _ kk rfl rfl hk)
 have hB4 := bulk_len12 (enc := enc) (W := W) Tryz.underlying30 (a0 := BA) (len := bn) (cap := bc) (d0 := x4.1) (p := x4.2) ⟨m, by simpa [Value.cells] using h4'⟩
 have hB5 := bulk_len12 (enc := enc) (W := W) Tryz.underlying31 (a0 := KA) (len := kn) (cap := kc) (d0 := x5.1) (p := x5.2) ⟨m, by simpa [Value.cells] using h5'⟩
 obtain ⟨es, he1, _, _, he4, he5, he6, he7⟩ := opened_ens12 (enc := enc) (W := W) (a0 := LA) (len := ln) (cap := lc) (d0 := x2.1) (p := x2.2) ⟨m, by simpa [Value.cells] using h2'⟩ (fun kk hk => hws 2 x2 _ kk rfl rfl hk)
 obtain ⟨l, hl1, hl2, hl3, hl4, hl5⟩ := opened_byt (enc := enc) (W := W) (a0 := BA) (len := bn) (cap := bc) (d0 := x4.1) (p := x4.2) ⟨m, by simpa [Value.cells] using h4'⟩
 obtain ⟨ks, hk1, hk2, hk3, hk4⟩ := opened_bools (enc := enc) (W := W) (a0 := KA) (len := kn) (cap := kc) (d0 := x5.1) (p := x5.2) ⟨m, by simpa [Value.cells] using h5'⟩
 subst hl1; subst hk1; subst he1
 have hb : -9223372036854775808 ≤ i ∧ i ≤ 9223372036854775807 := by
  have q1 : IntKind.i64.min = -9223372036854775808 := rfl
  have q2 : IntKind.i64.max = 9223372036854775807 := rfl
  simp only [Lit.wf, Bool.and_eq_true, decide_eq_true_eq] at wi
  omega
 exact ⟨⟨k, en, es, i, l, ks, LA, lc, BA, bc, KA, kc⟩, rfl, ⟨hein, he4, he5, hl4, hl5, hk4, hb.1, hb.2, hlr, hbr, hkr⟩,
  Nat.le_trans hed (hbk x1.1 (by simp)), Nat.le_trans hec (hbk x1.1 (by simp)), Nat.le_trans he6 (hbk x2.1 (by simp)), fun e he => ⟨Nat.le_trans (he7 e he).1 (hbk x2.1 (by simp)), Nat.le_trans (he7 e he).2 (hbk x2.1 (by simp))⟩, Nat.le_trans hB4 (hbk x4.1 (by simp)), Nat.le_trans hB5 (hbk x5.1 (by simp))⟩
theorem opened_ops12 {H : Type} {enc : TypeId × Value → H} {W : World} {a0 : Option Addr} {len cap : Nat} {d0 : DataW H} {p : List MemPlace}
  (h0 : DataW.Trod enc Tryz.prog W 0 (fun _ => true) true 22 (.slice a0 len cap) d0 p) (hw : ∀ k ∈ d0.weights Tryz.prog 22, k ≤ reachBytes) :
  ∃ xs : List OpH, xs.length = len ∧ len ≤ cap ∧ cap ≤ maxLen ∧ RdO12 W a0 xs ∧ xs.length ≤ Rows.uptoBulk d0 ∧ ∀ x ∈ xs, OphSm x (Rows.uptoBulk d0) := by
 obtain ⟨fuel, hf⟩ := h0
 rcases Go.Deep.open_slice Tryz.underlying22 hf with ⟨hcs, _⟩ | ⟨a, len', cap', m, n, D, Pl, hcs, _, hl, hm, hmm, hx, hi⟩
 ·simp [Value.cells] at hcs
  obtain ⟨rfl, rfl, rfl⟩ := hcs
  exact ⟨[], rfl, by omega, by unfold maxLen; omega, ⟨fun hn => by simp at hn, fun e he => by cases he⟩, Nat.zero_le _, fun e he => by cases he⟩
 ·simp [Value.cells] at hcs
  obtain ⟨rfl, rfl, rfl⟩ := hcs
  simp only [if_true] at hmm
  have hd : d0 = .slice ((List.range len).map D) ((List.range (m - len)).map fun j => D (len + j)) := congrArg Prod.fst hx
  have each : ∀ i, i < len → ∃ x : OpH, (∀ j v, (ophC x)[j]? = some v → W.cell? ((a.add (i * 8)).add j) = some v) ∧ OphIn W x ∧ OphSm x (Rows.uptoBulk d0) := fun i hil => by
   obtain ⟨cs', hc, ht⟩ := hi i (by omega)
   rw [cellsOp12] at hc
   obtain ⟨_, _, hat⟩ := World.cells?_some hc
   obtain ⟨x, rfl, hin, hsm⟩ := opened_op12 ht (fun k hk => hw k (by
    rw [hd]
    simp only [DataW.weights, Tryz.underlying22]
    exact List.mem_cons_of_mem _ (List.mem_append_left _ (weightsAll_mem10 (List.mem_map.2 ⟨i, List.mem_range.2 hil, rfl⟩) k hk))))
   have hle : Rows.uptoBulk (D i) ≤ Rows.uptoBulk d0 := by rw [hd]; exact bulk_elem (List.mem_map.2 ⟨i, List.mem_range.2 hil, rfl⟩)
   refine ⟨x, fun j v hj => ?_, hin, hsm.mono hle⟩
   have hj3 : j < 8 := by
    have := (List.getElem?_eq_some_iff.1 hj).1
    simpa using this
   rw [hat j hj3]
   exact hj
  let f : Nat → OpH := fun i => if h : i < len then Classical.choose (each i h) else OpH.zero_
  have hf2 : ∀ i, i < len → (∀ j v, (ophC (f i))[j]? = some v → W.cell? ((a.add (i * 8)).add j) = some v) ∧ OphIn W (f i) ∧ OphSm (f i) (Rows.uptoBulk d0) := fun i h => by
   have := Classical.choose_spec (each i h)
   simp only [f, dif_pos h]
   exact this
  refine ⟨(List.range len).map f, by simp, hl, hm, ⟨fun hn => ?_, fun e he => ?_⟩, ?_, fun e he => ?_⟩
  ·simp only [List.length_map, List.length_range] at hn
   have h00 := (hf2 0 hn).1 0 _ rfl
   have hs := spot_none10 h00
   obtain ⟨b, o, s⟩ := a
   have hs' : s = none := by simpa [Addr.add] using hs
   subst hs'
   refine ⟨b, o, rfl, trivial, ?_, fun j v hj => ?_⟩
   ·simpa [Addr.add] using World.block_lt_of_cell? _ _ h00
   ·have hjl : j < len * 8 := by
     have := (List.getElem?_eq_some_iff.1 hj).1
     rwa [flat_length (C := ophC) (k := 8) ophC_length, List.length_map, List.length_range] at this
    have hd : j / 8 < len := by omega
    have hr : j % 8 < 8 := Nat.mod_lt _ (by decide)
    have hq : ((List.range len).map f)[j / 8]? = some (f (j / 8)) := by simp [hd]
    have hv : ∃ u, (ophC (f (j / 8)))[j % 8]? = some u := ⟨_, List.getElem?_eq_getElem (by rw [ophC_length]; exact hr)⟩
    obtain ⟨u, hu⟩ := hv
    have h3 := flat_get ophC_length hq hu
    have e : j / 8 * 8 + j % 8 = j := by omega
    rw [e, hj] at h3
    injection h3 with h3
    subst h3
    have h4 := (hf2 (j / 8) hd).1 (j % 8) _ hu
    rw [Addr.add_lit, Addr.add_lit, Nat.add_assoc, e] at h4
    exact h4
  ·obtain ⟨i, hi2, rfl⟩ := List.mem_map.1 he
   exact (hf2 i (List.mem_range.1 hi2)).2.1
  ·rw [List.length_map, List.length_range, hd]
   have := bulk_slice (H := H) ((List.range len).map D) ((List.range (m - len)).map fun j => D (len + j))
   simpa using this
  ·obtain ⟨i, hi2, rfl⟩ := List.mem_map.1 he
   exact (hf2 i (List.mem_range.1 hi2)).2.2
structure CrH where
 f : Int
 ks : List Bool
 KA : Option Addr
 kc : Nat
abbrev crC (x : CrH) : List Value := [.int .i64 x.f, .slice x.KA x.ks.length x.kc]
structure CrIn (w : World) (x : CrH) : Prop where
 k : RowT boolC w (fun _ => True) x.KA x.ks
 f1 : -9223372036854775808 ≤ x.f
 f2 : x.f ≤ 9223372036854775807
 sk : x.ks.length ≤ reachBytes
end
end Go.Proofs.YteafcaambnfdoaaGreatDoor
