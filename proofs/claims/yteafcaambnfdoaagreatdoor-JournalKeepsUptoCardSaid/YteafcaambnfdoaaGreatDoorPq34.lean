/-
  Layer 7 and what it stands on, part 34 (RJPack RJUnpack RJEntries RJOldO RJOld).
-/
import Derived.Test.YteafcaambnfdoaaGreatDoorPq14
import Derived.Test.YteafcaambnfdoaaGreatDoorPq33
import Derived.Lib.AppendStr
namespace Go.Proofs.YteafcaambnfdoaaGreatDoor
section
open Go Go.RowKit
open Go.Lib (hid)
set_option maxRecDepth 100000
theorem strCells_bs (l : List UInt8) : Lib.strCells (bs l) = Lib.byteCells l := rfl
theorem run_append_str (w : World) (base : Nat) (ty : TypeId) (v : Value) (xs : List UInt8) (hown : w.ownsRow base 5 1 v xs.length (Lib.byteCells xs)) (l : List UInt8) (hb : xs.length + l.length ≤ 1000000) (hbase : base ≤ w.heap.size) :
  ∃ v' w', (Builtin.append_ #[30, 9] ty #[v, .string (bs l)]).run Tryz.prog w = .ok v' w' ∧ w'.ownsRow base 5 1 v' (xs ++ l).length (Lib.byteCells (xs ++ l)) ∧ w.grownBy w' v.ownBlock := by
 obtain ⟨i0, hi0, hz0, hz1, hz2⟩ := info8_11
 obtain ⟨v', w', h1, h2, h3, _⟩ := Lib.run_append_own_string (P := Tryz.prog) w base 30 9 ty 5 i0 Tryz.underlying30 Tryz.underlying9 hi0 hz0 hz1 hz2 v xs.length (Lib.byteCells xs) hown (bs l) (by rw [bs_size]; unfold maxLen; omega) (by rw [bs_size]; omega) hbase
 refine ⟨v', w', h1, ?_, h3⟩
 rw [bs_size, strCells_bs] at h2
 rw [List.length_append, show Lib.byteCells (xs ++ l) = Lib.byteCells xs ++ Lib.byteCells l by simp [Lib.byteCells]]
 exact h2
theorem byt_one (wr : World) (q : Nat) : Byt (wr.alloc (.cells #[.int .u8 ((q : Int) % 256)] 5)) (some ⟨wr.heap.size, 0, none⟩) [UInt8.ofNat (q % 256)] := by
 have h := byt_lit wr [UInt8.ofNat (q % 256)]
 have e : (Lib.byteCells [UInt8.ofNat (q % 256)]).toArray = #[.int .u8 ((q : Int) % 256)] := by
  unfold Lib.byteCells
  have e1 : ((UInt8.ofNat (q % 256)).toNat : Int) = (q : Int) % 256 := by rw [UInt8.toNat_ofNat']; omega
  simp only [List.map_cons, List.map_nil]
  rw [e1]
 rwa [e] at h
end
section
open Go Go.RowKit
open Go.Lib (hid)
set_option maxRecDepth 100000
theorem sizeEn12 (w : World) : (sizeOf 28).run Tryz.prog w = .ok 3 w := Tryz.sizeOf28 w
theorem results_en2 {P : Program} {fn : Func} {p q : Tmp} {ty : TypeId} {fs : Array Field} (h : fn.results = #[.cell p ty, .tmp q]) (tmps : Array Value) (w : World) (g : Nat) (v0 v1 v2 v : Value) (t : TypeId)
  (hp : tmps.getD p undef = .pointer (some ⟨g, 0, none⟩)) (hq : tmps.getD q undef = v) (hb : BxA w g t [v0, v1, v2]) (hu : P.underlying ty = some (.struct fs)) (hsz : (sizeOf ty).run P w = .ok 3 w) : (results fn tmps).run P w = .ok (.tuple #[.agg #[v0, v1, v2], v]) w := by
 have hp' : tmps[p]?.getD undef = .pointer (some ⟨g, 0, none⟩) := by simpa using hp
 have hq' : tmps[q]?.getD undef = v := by simpa using hq
 have c0 := hb.c 0 rfl
 have c1 := hb.c 1 rfl
 have c2 := hb.c 2 rfl
 simp [results, h, hp', hq', asAddr, loadVar, isAgg, Sem.run_bind, run_underlying hu, hsz, loadCells, loadCellsFrom, Addr.add, c0, c1, c2, go_sem]
def hornJ (p : List UInt8) : Nat → Nat
 | 0 => 0
 | j + 1 => hornJ p j * 256 + (p.getD (4 - j) 0).toNat
theorem hornJ_lt (p : List UInt8) : ∀ j, hornJ p j < 256 ^ j
 | 0 => Nat.zero_lt_one
 | j + 1 => by
  have h1 := hornJ_lt p j
  have h2 := (p.getD (4 - j) 0).toNat_lt
  unfold hornJ
  rw [Nat.pow_succ]
  omega
theorem hornJ_all (p : List UInt8) : hornJ p 5 = timeN p := by
 show ((((0 * 256 + (p.getD 4 0).toNat) * 256 + (p.getD 3 0).toNat) * 256 + (p.getD 2 0).toNat) * 256 + (p.getD 1 0).toNat) * 256 + (p.getD 0 0).toNat = _
 unfold timeN
 omega
set_option maxHeartbeats 8000000 in
theorem runpack12_calls (A : Option Addr) (c : Nat) (p : List UInt8) (w : World) (hb : Byt w A p) (hc : p.length ≤ c) (hl : p.length ≤ 100000) :
  Calls Tryz.prog 85 #[.slice A p.length c] w fun x w' => x = .returned (.tuple #[.agg (enC ((unpackJ p).getD EnJ.none_)).toArray, .bool (unpackJ p).isSome]) ∧ Below w.heap.size w w' := by
 have hbw := (Below.refl _ w).alloc (Nat.le_refl _) (.cells ([.int .i64 0, .string ⟨#[]⟩, .string ⟨#[]⟩] : List Value).toArray 28)
 have hz := BxA.new w 28 ([.int .i64 0, .string ⟨#[]⟩, .string ⟨#[]⟩] : List Value)
 have hsz : (w.alloc (.cells ([.int .i64 0, .string ⟨#[]⟩, .string ⟨#[]⟩] : List Value).toArray 28)).heap.size = w.heap.size + 1 := World.size_alloc _ _
 have hbb := hb.below hbw
 go_enter Tryz.func85, Tryz.ntmps85
 obtain ⟨W, hW⟩ : ∃ W, w.alloc (.cells ([.int .i64 0, .string ⟨#[]⟩, .string ⟨#[]⟩] : List Value).toArray 28) = W := ⟨_, rfl⟩
 rw [hW] at hbw hz hsz hbb
 have HB := hid hbw
 have HZ := hid hz
 have HSz := hid hsz
 have HBy := hid hbb
 clear hb hbw hz hsz hbb
 by_cases h6 : p.length < 6
 ·have q1 : decide ((p.length : Int) < 6) = true := decide_eq_true (by omega)
  have HR : Hid (unpackJ p = none) := hid (by unfold unpackJ; rw [if_neg (fun h => by have := h.1; omega)])
  have z0 := (HZ.out).c 0 rfl
  have z1 := (HZ.out).c 1 rfl
  have z2 := (HZ.out).c 2 rfl
  have f0 := (HZ.out).free 0
  have f1 := (HZ.out).free 1
  have f2 := (HZ.out).free 2
  go_wp2_with fail
  refine bodyPost_ret (results_en2 rfl _ _ w.heap.size _ _ _ _ 28 rfl rfl ((((HZ.out).set 0 (.int .i64 0)).set 1 (.string ⟨#[]⟩)).set 2 (.string ⟨#[]⟩)) Tryz.underlying28 (sizeEn12 _)) rfl ?_
  exact ⟨by rw [HR.out]; rfl, ((HB.out.setCell (p := ⟨w.heap.size, 0, none⟩) (Nat.le_refl _) _).setCell (p := ⟨w.heap.size, 1, none⟩) (Nat.le_refl _) _).setCell (p := ⟨w.heap.size, 2, none⟩) (Nat.le_refl _) _⟩
 ·have q1 : decide ((p.length : Int) < 6) = false := decide_eq_false (by omega)
  obtain ⟨g, o, rfl, hg, hcell⟩ := HBy.out.at_ (by omega)
  have c5 := hcell 5 (by omega)
  obtain ⟨u, hu⟩ : ∃ u, u = p.getD 5 0 := ⟨_, rfl⟩
  rw [← hu] at c5
  have hu8 := u.toNat_lt
  by_cases h7 : p.length < 6 + u.toNat
  ·have q2 : decide ((p.length : Int) < 6 + (u.toNat : Int)) = true := decide_eq_true (by omega)
   have HR : Hid (unpackJ p = none) := hid (by unfold unpackJ; rw [if_neg (fun h => by have := h.2.1; rw [← hu] at this; omega)])
   clear hu hcell
   have z0 := (HZ.out).c 0 rfl
   have z1 := (HZ.out).c 1 rfl
   have z2 := (HZ.out).c 2 rfl
   have f0 := (HZ.out).free 0
   have f1 := (HZ.out).free 1
   have f2 := (HZ.out).free 2
   go_wp2_with fail
   refine bodyPost_ret (results_en2 rfl _ _ w.heap.size _ _ _ _ 28 rfl rfl ((((HZ.out).set 0 (.int .i64 0)).set 1 (.string ⟨#[]⟩)).set 2 (.string ⟨#[]⟩)) Tryz.underlying28 (sizeEn12 _)) rfl ?_
   exact ⟨by rw [HR.out]; rfl, ((HB.out.setCell (p := ⟨w.heap.size, 0, none⟩) (Nat.le_refl _) _).setCell (p := ⟨w.heap.size, 1, none⟩) (Nat.le_refl _) _).setCell (p := ⟨w.heap.size, 2, none⟩) (Nat.le_refl _) _⟩
  have q2 : decide ((p.length : Int) < 6 + (u.toNat : Int)) = false := decide_eq_false (by omega)
  have HCell := hid hcell
  have HU := hid hu
  have hc6 : 6 + u.toNat ≤ c := by omega
  have hrun1 := run_load (some ⟨g, o, none⟩) p.length c u.toNat hc6
  have hrun2 := run_cut (some ⟨g, o, none⟩) c p (6 + u.toNat) (by omega)
  rw [show ((6 + u.toNat : Nat) : Int) = 6 + (u.toNat : Int) by omega] at hrun2
  have hl1 : ((p.drop 6).take u.toNat).length = u.toNat := by rw [List.length_take, List.length_drop]; omega
  have HC1 : Hid (∀ y, Byt y (some ⟨g, o, none⟩) p → (convert 30 9 (.slice (dropA (some ⟨g, o, none⟩) c 6) u.toNat (c - 6))).run Tryz.prog y = .ok (.string (bs ((p.drop 6).take u.toNat))) y) := hid (fun y hy => by
   have := conv_strE ((hy.drop c 6 hc).take u.toNat) (c - 6)
   rwa [hl1] at this)
  have HC2 : Hid (∀ y, Byt y (some ⟨g, o, none⟩) p → (convert 30 9 (.slice (dropA (some ⟨g, o, none⟩) c (6 + u.toNat)) (p.drop (6 + u.toNat)).length (c - (6 + u.toNat)))).run Tryz.prog y = .ok (.string (bs (p.drop (6 + u.toNat)))) y) := hid (fun y hy => conv_strE (hy.drop c (6 + u.toNat) hc) (c - (6 + u.toNat)))
  have HE : Hid (unpackJ p = if rightJ ⟨(timeN p : Int), (p.drop 6).take u.toNat, p.drop (6 + u.toNat)⟩ then some ⟨(timeN p : Int), (p.drop 6).take u.toNat, p.drop (6 + u.toNat)⟩ else none) := hid (by
   unfold unpackJ readJ
   rw [← hu]
   by_cases hr : rightJ ⟨(timeN p : Int), (p.drop 6).take u.toNat, p.drop (6 + u.toNat)⟩
   ·rw [if_pos ⟨by omega, by omega, hr⟩, if_pos hr]
   ·rw [if_neg (fun h => hr h.2.2), if_neg hr])
  have HRi := hid (fun y => rright12_calls ⟨(timeN p : Int), (p.drop 6).take u.toNat, p.drop (6 + u.toNat)⟩ y)
  clear hcell hu hl1
  have HC5 : Hid (∀ y, Byt y (some ⟨g, o, none⟩) p → y.cell? ⟨g, o + 5, none⟩ = some (.int .u8 (u.toNat : Int))) := hid (fun y hy => by
   obtain ⟨g', o', e, _, hh⟩ := hy.at_ (by omega)
   injection e with e
   injection e with e1 e2
   subst e1 e2
   rw [HU.out]
   exact hh 5 (by omega))
  have hwr5 : IntKind.i64.wrap (6 + (u.toNat : Int)) = 6 + (u.toNat : Int) := IntWalk.i64_in _ (by omega)
  go_wp2_with fail
  go_loopw [4, 5] (fun v4 v5 wr => ∃ j : Nat, j ≤ 5 ∧ v5 = .int .i64 (4 - (j : Int)) ∧ v4 = .int .i64 (hornJ p j : Int) ∧ wr = W) (fun _ v5 _ => (intOf v5 + 1).toNat)
  case atStart => exact ⟨0, by omega, rfl, rfl, rfl⟩
  case round =>
   obtain ⟨j, hj, rfl, rfl, rfl⟩ := hrel
   by_cases hlt : j < 5
   ·have hm : (4 : Int) - (j : Int) = ((4 - j : Nat) : Int) := by omega
    have cm := HCell.out (4 - j) (by omega)
    have hnx : Hid (hornJ p (j + 1) = hornJ p j * 256 + (p.getD (4 - j) 0).toNat) := hid rfl
    have hb8 := (p.getD (4 - j) 0).toNat_lt
    have hq : hornJ p j < 4294967296 := Nat.lt_of_lt_of_le (hornJ_lt p j) (Nat.pow_le_pow_right (n := 256) (by decide) (show j ≤ 4 by omega))
    have HJ : Hid ((((4 - j : Nat)) : Int) - 1 = 4 - (((j + 1 : Nat)) : Int)) := hid (by omega)
    have hmp : ((4 - j : Nat) : Int) < (p.length : Int) := by omega
    have hm4 : 4 - j ≤ 4 := by omega
    rw [hm]
    clear hm
    generalize hornJ p j = q at *
    generalize (p.getD (4 - j) 0).toNat = x at *
    generalize 4 - j = m at *
    have hw1 : IntKind.i64.wrap ((q : Int) * 256) = (q : Int) * 256 := IntWalk.i64_in _ (by omega)
    have hw2 : IntKind.i64.wrap ((q : Int) * 256 + (x : Int)) = (q : Int) * 256 + (x : Int) := IntWalk.i64_in _ (by omega)
    go_wp2_with fail
    go_roundw
    case rel => exact ⟨j + 1, by omega, by rw [← HJ.out], by rw [hnx.out]; go_num, trivial⟩
    case measure => simp [intOf]
   ·obtain rfl : j = 5 := by omega
    rw [hornJ_all]
    have hT := timeN_lt p
    clear hrun1
    have hrun1 := run_load (some ⟨g, o, none⟩) p.length c u.toNat hc6
    have SKb : ∀ y, Byt y (some ⟨g, o, none⟩) p → y.cell? ⟨g, o + 5, none⟩ = some (.int .u8 (u.toNat : Int)) ∧ Hid (Byt y (some ⟨g, o, none⟩) p) := fun y hy => ⟨HC5.out y hy, hid hy⟩
    obtain ⟨W1, hW1⟩ : ∃ W1, W1 = wr.drew.alloc (.cells ([.int .i64 0, .string ⟨#[]⟩, .string ⟨#[]⟩] : List Value).toArray 28) := ⟨_, rfl⟩
    obtain ⟨d, hd⟩ : ∃ d, d = (p.drop 6).take u.toNat := ⟨_, rfl⟩
    obtain ⟨c', hc'⟩ : ∃ c', c' = p.drop (6 + u.toNat) := ⟨_, rfl⟩
    have hb0 := (Below.refl wr.heap.size wr).drew
    have hb1 := hb0.alloc (Nat.le_refl _) (.cells ([.int .i64 0, .string ⟨#[]⟩, .string ⟨#[]⟩] : List Value).toArray 28)
    have hb2 := ((Below.refl wr.heap.size wr).alloc (Nat.le_refl _) (.cells #[.int .i64 (timeN p : Int), .string (bs d), .string (bs c')] 28)).drew
    have hx2 := BxA.new wr 28 [.int .i64 (timeN p : Int), .string (bs d), .string (bs c')]
    have SK0 := hid (SKb _ (HBy.out.below hb0))
    have SK1 := hid (SKb _ (HBy.out.below hb1))
    have SK2 := hid (SKb _ (HBy.out.below hb2))
    have HB2 := hid hb2
    have HX2 := hid hx2
    have hcl : c'.length = p.length - (6 + u.toNat) := by rw [hc', List.length_drop]
    rw [← hd] at HC1 HE HRi
    rw [← hc'] at HC2 HE HRi hrun2
    have y0 := (BxA.new wr.drew 28 ([.int .i64 0, .string ⟨#[]⟩, .string ⟨#[]⟩] : List Value)).c 0 rfl
    have y1 := (BxA.new wr.drew 28 ([.int .i64 0, .string ⟨#[]⟩, .string ⟨#[]⟩] : List Value)).c 1 rfl
    have y2 := (BxA.new wr.drew 28 ([.int .i64 0, .string ⟨#[]⟩, .string ⟨#[]⟩] : List Value)).c 2 rfl
    have g0 := (BxA.new wr.drew 28 ([.int .i64 0, .string ⟨#[]⟩, .string ⟨#[]⟩] : List Value)).free 0
    have g1 := (BxA.new wr.drew 28 ([.int .i64 0, .string ⟨#[]⟩, .string ⟨#[]⟩] : List Value)).free 1
    have g2 := (BxA.new wr.drew 28 ([.int .i64 0, .string ⟨#[]⟩, .string ⟨#[]⟩] : List Value)).free 2
    clear hb0 hb1 hb2 hx2 SKb hcl hW1 W1 hd hc'
    have h5l : (5 : Int) < (p.length : Int) := by omega
    have hwu : IntKind.i64.wrap (u.toNat : Int) = (u.toNat : Int) := IntWalk.i64_in _ (by omega)
    generalize timeN p = T at *
    go_upto_region 8 with fail
    refine wp_region_held_drew (S := (fun w' => w'.cell? ⟨g, o + 5, none⟩ = some (.int .u8 (u.toNat : Int)) ∧ Hid (Byt w' (some ⟨g, o, none⟩) p))) (by kernel_rfl) SK0.out (fun hHeld => ?_)
    refine tkH 0 ?_
    refine tkH 1 ?_
    refine tkH 2 ?_
    refine tkH 3 ?_
    refine tkH 4 ?_
    refine tkH 5 ?_
    refine tkH 6 ?_
    refine tkH 7 ?_
    refine wpAnyH_take (i := 8) (oi := ⟨some 41, _, _, _, _, _⟩) (v := ?_) rfl (by kernel_rfl) (by kernel_rfl) (by kernel_rfl) (fun _ _ _ h => h) (Or.inl ⟨by kernel_rfl, ?hy8⟩) (by assumption) ?_
    case hy8 => (intro w' hSw; (try dsimp only at hSw); have e1 := HC1.out w' hSw.2.out; go_simp; try with_reducible rfl)
    refine tkH 9 ?_
    refine tkH 10 ?_
    refine tkH 11 ?_
    refine tkH 12 ?_
    refine tkH 13 ?_
    refine tkH 14 ?_
    refine tkH 15 ?_
    refine wpAnyH_take (i := 16) (oi := ⟨some 49, _, _, _, _, _⟩) (v := ?_) rfl (by kernel_rfl) (by kernel_rfl) (by kernel_rfl) (fun _ _ _ h => h) (Or.inl ⟨by kernel_rfl, ?hy16⟩) (by assumption) ?_
    case hy16 => (intro w' hSw; (try dsimp only at hSw); have e2 := HC2.out w' hSw.2.out; go_simp; try with_reducible rfl)
    refine tkH 17 ?_
    refine rdH 18 fun K hK => ?_
    go_simp
    refine hK.out _ _ SK1.out (fun hHeld => ?_)
    clear hK K
    refine rdH 19 fun K hK => ?_
    go_simp
    refine hK.out _ _ SK2.out (fun hHeld => ?_)
    clear hK K
    refine wpAnyH_done (by kernel_rfl) ?_ _
    obtain ⟨Y, hY⟩ : ∃ Y, (wr.alloc (.cells #[.int .i64 (T : Int), .string (bs d), .string (bs c')] 28)).drew = Y := ⟨_, rfl⟩
    have hx3 : BxA Y wr.heap.size 28 [.int .i64 (T : Int), .string (bs d), .string (bs c')] := by rw [← hY]; exact HX2.out.below (Below.refl _ _).drew
    have HB3 : Hid (Below wr.heap.size wr Y) := hid (by rw [← hY]; exact HB2.out)
    have HX3 := hid hx3
    have HRy := hid (HRi.out Y)
    rw [hY]
    have x0 := hx3.c 0 rfl
    have x1 := hx3.c 1 rfl
    have x2 := hx3.c 2 rfl
    clear hx3 hY HX2 HB2 SK0 SK1 SK2 y0 y1 y2 g0 g1 g2 HRi
    by_cases hr : rightJ ⟨(T : Int), d, c'⟩
    ·rw [if_pos hr] at HE
     rw [decide_eq_true hr] at HRy
     clear hr
     go_wp2_with fail
     refine HRy.out.mono ?_
     rintro x w9 ⟨rfl, hb9⟩
     have HX9 := hid (HX3.out.below hb9)
     have HZ9 := hid ((HZ.out.below HB3.out).below hb9)
     have HB9 : Hid (Below w.heap.size w w9) := hid (HB.out.trans ((HB3.out.trans (hb9.mono HB3.out.size)).mono HB.out.size))
     clear x0 x1 x2 hb9 HRy
     have x0 := HX9.out.c 0 rfl
     have x1 := HX9.out.c 1 rfl
     have x2 := HX9.out.c 2 rfl
     have z0 := HZ9.out.c 0 rfl
     have z1 := HZ9.out.c 1 rfl
     have z2 := HZ9.out.c 2 rfl
     have f0 := HZ9.out.free 0
     have f1 := HZ9.out.free 1
     have f2 := HZ9.out.free 2
     go_wp2_with fail
     refine bodyPost_ret (results_en2 rfl _ _ w.heap.size _ _ _ _ 28 rfl rfl (((HZ9.out.set 0 (.int .i64 (T : Int))).set 1 (.string (bs d))).set 2 (.string (bs c'))) Tryz.underlying28 (sizeEn12 _)) rfl ?_
     exact ⟨by rw [HE.out]; rfl, ((HB9.out.setCell (p := ⟨w.heap.size, 0, none⟩) (Nat.le_refl _) _).setCell (p := ⟨w.heap.size, 1, none⟩) (Nat.le_refl _) _).setCell (p := ⟨w.heap.size, 2, none⟩) (Nat.le_refl _) _⟩
    ·rw [if_neg hr] at HE
     rw [decide_eq_false hr] at HRy
     clear hr
     go_wp2_with fail
     refine HRy.out.mono ?_
     rintro x w9 ⟨rfl, hb9⟩
     have HX9 := hid (HX3.out.below hb9)
     have HZ9 := hid ((HZ.out.below HB3.out).below hb9)
     have HB9 : Hid (Below w.heap.size w w9) := hid (HB.out.trans ((HB3.out.trans (hb9.mono HB3.out.size)).mono HB.out.size))
     clear x0 x1 x2 hb9 HRy
     have x0 := HX9.out.c 0 rfl
     have x1 := HX9.out.c 1 rfl
     have x2 := HX9.out.c 2 rfl
     have z0 := HZ9.out.c 0 rfl
     have z1 := HZ9.out.c 1 rfl
     have z2 := HZ9.out.c 2 rfl
     have f0 := HZ9.out.free 0
     have f1 := HZ9.out.free 1
     have f2 := HZ9.out.free 2
     go_wp2_with fail
     refine bodyPost_ret (results_en2 rfl _ _ w.heap.size _ _ _ _ 28 rfl rfl (((HZ9.out.set 0 (.int .i64 0)).set 1 (.string ⟨#[]⟩)).set 2 (.string ⟨#[]⟩)) Tryz.underlying28 (sizeEn12 _)) rfl ?_
     exact ⟨by rw [HE.out]; rfl, ((HB9.out.setCell (p := ⟨w.heap.size, 0, none⟩) (Nat.le_refl _) _).setCell (p := ⟨w.heap.size, 1, none⟩) (Nat.le_refl _) _).setCell (p := ⟨w.heap.size, 2, none⟩) (Nat.le_refl _) _⟩
end
section
open Go Go.RowKit
open Go.Lib (hid)
set_option maxRecDepth 100000
theorem infoEn : (Tryz.prog.info? 28).map (fun i => (i.zero, i.size, i.bytes)) = some (some (.agg #[.int .i64 0, .string ⟨#[]⟩, .string ⟨#[]⟩]), 3, 40) := by kernel_rfl
theorem enC_one (f : EnJ) : ∀ u ∈ enC f, u.oneCell' = true := by
 intro u hu
 simp only [enC, List.mem_cons, List.not_mem_nil, or_false] at hu
 rcases hu with rfl | rfl | rfl <;> rfl
theorem packs_six : ∀ l : List (List UInt8), 6 * l.length ≤ (packsF l).length
 | [] => Nat.zero_le _
 | p :: l => by
  have h := packs_six l
  have e : packsF (p :: l) = packF p ++ packsF l := by unfold packsF; simp
  rw [e, List.length_append, packF_length, List.length_cons]
  omega
theorem ents_cons {p : List UInt8} {r : List (List UInt8)} : entsJ (p :: r) = match unpackJ p with
  | none => ([], 0)
  | some e => (e :: (entsJ r).1, 6 + p.length + (entsJ r).2) := by rw [entsJ]; cases unpackJ p <;> rfl
theorem ents_le : ∀ l : List (List UInt8), (entsJ l).2 ≤ (packsF l).length
 | [] => Nat.zero_le _
 | p :: l => by
  have h := ents_le l
  have e : packsF (p :: l) = packF p ++ packsF l := by unfold packsF; simp
  rw [e, ents_cons, List.length_append, packF_length]
  cases unpackJ p with
  | none => exact Nat.zero_le _
  | some x => simp only; omega
set_option maxHeartbeats 8000000 in
theorem rentries12_calls (A : Option Addr) (c : Nat) (b : List UInt8) (w : World) (hb : Byt w A b) (hc : b.length ≤ c) (hl : b.length ≤ 100000) :
  Calls Tryz.prog 41 #[.slice A b.length c] w fun e w' => ∃ A' c', e = .returned (.tuple #[.slice A' (entriesJ b).1.length c', .int .i64 ((entriesJ b).2 : Int)]) ∧ w'.ownsRow w.heap.size 28 3 (.slice A' (entriesJ b).1.length c') (entriesJ b).1.length ((entriesJ b).1.flatMap enC) ∧ Below w.heap.size w w' := by
 obtain ⟨i0, hi0, hz0, hz1, hz2⟩ := info_parts infoEn
 have HSc := hid (rscan12_calls A c b w hb hc hl)
 have HIs : Hid (entriesJ b = entsJ (scanF b).1) := hid rfl
 have hpk := (scan_is b).1
 have hpl := congrArg List.length hpk
 rw [List.length_append] at hpl
 have hmx := (scan_is b).2.2
 have h6 := packs_six (scanF b).1
 have hle := ents_le (scanF b).1
 clear hpk hb hc
 rw [HIs.out]
 generalize (scanF b).2 = sn at *
 generalize (scanF b).1 = ls at *
 have hel : (entsJ ls).2 ≤ 100000 := by omega
 have hll : ls.length ≤ 100000 := by omega
 have HMx := hid hmx
 clear hpl hmx h6 hle
 go_enter Tryz.func41, Tryz.ntmps41
 go_wp2_with fail
 refine HSc.out.mono ?_
 rintro e w1 ⟨LA, lc, rfl, hrd, hnil, hb1⟩
 have HRd := hid hrd
 have HB1 := hid hb1
 clear hrd hnil hb1 HSc
 go_wp2_with fail
 go_loopw [6, 7, 8] (fun v6 v7 v8 wr => ∃ (k at_ : Nat) (es : List EnJ), k ≤ ls.length ∧ v8 = .int .i64 (k : Int) ∧ v7 = .int .i64 (at_ : Int) ∧ es.length ≤ k ∧ Hid (entsJ ls = (es ++ (entsJ (ls.drop k)).1, at_ + (entsJ (ls.drop k)).2)) ∧ Hid (wr.ownsRow w1.heap.size 28 3 v6 es.length (es.flatMap enC)) ∧ Hid (Below w1.heap.size w1 wr)) (fun _ _ v8 _ => ls.length - (intOf v8).toNat)
 case atStart => exact ⟨0, 0, [], Nat.zero_le _, rfl, rfl, Nat.zero_le _, hid (by simp), hid (World.ownsRow_nil _ _ _ _), hid (Below.refl _ _)⟩
 case round =>
  obtain ⟨k, at_, es, hk, rfl, rfl, hes, hEq, hown, hbel1⟩ := hrel
  by_cases hlt : k < ls.length
  ·have hkl : (k : Int) < (ls.length : Int) := by omega
   have hq : ls[k]? = some ls[k] := List.getElem?_eq_getElem hlt
   have hdr : ls.drop k = ls[k] :: ls.drop (k + 1) := List.drop_eq_getElem_cons hlt
   have hpl : ls[k].length ≤ 1000 := HMx.out _ (List.getElem_mem hlt)
   obtain ⟨g, o, rfl, hg, hcell⟩ := (HRd.out.below hbel1.out) (by omega)
   obtain ⟨Ai, ci, ck, hby, _, hcap⟩ := hcell k _ hq
   rw [hdr] at hEq
   rw [ents_cons] at hEq
   generalize ls[k] = p at *
   have HUn := hid (runpack12_calls Ai ci p wr hby hcap (by omega))
   clear hcell hq hdr hby
   cases hu : unpackJ p with
   | none =>
    rw [hu] at hEq HUn
    simp only [Nat.add_zero, List.append_nil] at hEq
    have HR : Hid (entsJ ls = (es, at_)) := hid hEq.out
    clear hu hEq
    go_wp2_with fail
    refine HUn.out.mono ?_
    rintro e w5 ⟨rfl, hb5⟩
    have HB51 : Hid (Below w1.heap.size w1 w5) := hid (hbel1.out.trans (hb5.mono hbel1.out.size))
    have HO5 := hid (own_below hown.out hb5)
    obtain ⟨A6, c6, rfl⟩ := own_form HO5.out
    have HB6 : Hid (Below w.heap.size w (w5.alloc (.cells (enC EnJ.none_).toArray 28))) := hid (HB1.out.trans ((HB51.out.alloc HB51.out.size _).mono HB1.out.size))
    have HO6 := hid (own_less (HO5.out.alloc (.cells (enC EnJ.none_).toArray 28)) HB1.out.size)
    clear hb5 HUn ck
    go_wp2_with fail
    go_ret2
    rw [HR.out]
    exact ⟨A6, c6, rfl, HO6.out, HB6.out⟩
   | some x =>
    rw [hu] at hEq HUn
    simp only at hEq
    clear hu
    go_wp2_with fail
    refine HUn.out.mono ?_
    rintro e w5 ⟨rfl, hb5⟩
    have HB51 : Hid (Below w1.heap.size w1 w5) := hid (hbel1.out.trans (hb5.mono hbel1.out.size))
    have HO5 := hid (own_below hown.out hb5)
    have ck5 := (hb5.cell (p := ⟨g, o + k, none⟩) hg).trans ck
    have hsz5 := HB51.out.size
    have h2 : (entsJ ls).2 = at_ + (6 + p.length + (entsJ (ls.drop (k + 1))).2) := by rw [hEq.out]
    have hwr1 : IntKind.i64.wrap ((at_ : Int) + 6) = (at_ : Int) + 6 := IntWalk.i64_in _ (by omega)
    have hwr2 : IntKind.i64.wrap ((at_ : Int) + 6 + (p.length : Int)) = (at_ : Int) + 6 + (p.length : Int) := IntWalk.i64_in _ (by omega)
    have HEq : Hid (entsJ ls = ((es ++ [x]) ++ (entsJ (ls.drop (k + 1))).1, (at_ + 6 + p.length) + (entsJ (ls.drop (k + 1))).2)) := hid (by rw [hEq.out, List.append_assoc]; refine Prod.ext rfl ?_; show at_ + (6 + p.length + _) = _; omega)
    clear hb5 HUn ck hEq h2
    go_wp2_with (at_builtin; refine wpList_append_own _ rfl _ _ 29 rfl w1.heap.size 28 i0 _ 3 40 Tryz.underlying29 hi0 hz0 hz1 hz2 rfl (by decide) _ _ _ rfl ((HO5.out.alloc (.cells (enC x).toArray 28)).alloc _) ⟨w5.heap.size + 1, 0, none⟩ 1 1 (enC x) rfl rfl ?d1 ?d2 ?d3 ?d4 ?d5 ?_)
    case d1 =>
     have h := row_cells (C := enC) (w5.alloc (.cells (enC x).toArray 28)) x 28 _ rfl
     rw [World.size_alloc] at h
     exact h
    case d2 => exact enC_one x
    case d3 => unfold maxLen; omega
    case d4 => omega
    case d5 => simp; omega
    intro v7 w7 hown7 hgr7 _
    have hbA := (HB51.out.alloc HB51.out.size (.cells (enC x).toArray 28))
    have hb7 : Below w1.heap.size w1 w7 := (hbA.alloc hbA.size _).grown hgr7 (by simp; omega) (fun k hk => (HO5.out.lt k hk).1)
    have HOwn7 : Hid (w7.ownsRow w1.heap.size 28 3 v7 (es ++ [x]).length ((es ++ [x]).flatMap enC)) := hid (by rw [List.length_append, List.flatMap_append]; simpa using hown7)
    have HB71 := hid hb7
    have ck7 : w7.cell? ⟨g, o + k, none⟩ = some (.slice Ai p.length ci) := by
     obtain ⟨g', o', e, hg', hcell'⟩ := HRd.out (by omega)
     injection e with e
     injection e with e1 e2
     subst e1 e2
     have h1 := hb7.cell (p := ⟨g, o + k, none⟩) hg'
     have h2 := (HB51.out.cell (p := ⟨g, o + k, none⟩) hg').symm.trans ck5
     exact h1.trans h2
    clear hown7 hgr7 hb7 hbA ck5
    go_wp2_with fail
    go_roundw
    case rel => exact ⟨k + 1, at_ + 6 + p.length, es ++ [x], by omega, by go_num, by go_num, by rw [List.length_append, List.length_singleton]; omega, HEq, HOwn7, HB71⟩
    case measure => simp [intOf]; omega
  ·obtain rfl : k = ls.length := by omega
   have hn := hEq.out
   rw [List.drop_length] at hn
   have HR : Hid (entsJ ls = (es, at_)) := hid (hn.trans (by show (es ++ [], at_ + 0) = _; rw [List.append_nil, Nat.add_zero]))
   obtain ⟨A6, c6, rfl⟩ := own_form hown.out
   clear hn hEq
   go_wp2_with fail
   go_ret2
   rw [HR.out]
   exact ⟨A6, c6, rfl, own_less hown.out HB1.out.size, HB1.out.trans (hbel1.out.mono HB1.out.size)⟩
end
section
open Go Go.RowKit
open Go.Lib (hid)
set_option maxRecDepth 100000
theorem infoold12 : (Tryz.prog.info? 28).map (fun i => (i.zero, i.size, i.bytes)) = some (some (.agg #[.int .i64 0, .string ⟨#[]⟩, .string ⟨#[]⟩]), 3, 40) := by kernel_rfl
set_option maxHeartbeats 4000000 in
theorem old12_calls (w : World) (D : Nat → Prop) (A : Option Addr) (c : Nat) (l : List EnJ) (h : RowT enC w D A l) (hl : l.length ≤ 100000) :
  Calls Tryz.prog 26 #[.slice A l.length c] w fun e w' => ∃ A' c', e = .returned (.slice A' l.length c') ∧ w'.ownsRow w.heap.size 28 3 (.slice A' l.length c') l.length (l.flatMap enC) ∧ Below w.heap.size w w' := by
 obtain ⟨i0, hi0, hz0, hz1, hz2⟩ := info_parts infoold12
 have H := hid h
 clear h
 go_enter Tryz.func26, Tryz.ntmps26
 go_wp2_with fail
 go_loopw [3, 8] (fun v3 v8 wr => ∃ k : Nat, k ≤ l.length ∧ v8 = .int .i64 (k : Int) ∧ Hid (wr.ownsRow w.heap.size 28 3 v3 (l.take k).length ((l.take k).flatMap enC)) ∧ Hid (Below w.heap.size w wr)) (fun _ v8 _ => l.length - (intOf v8).toNat)
 case atStart => exact ⟨0, Nat.zero_le _, rfl, hid (World.ownsRow_nil _ _ _ _), hid (Below.refl _ _)⟩
 case round =>
  obtain ⟨k, hk, rfl, hown, hbel⟩ := hrel
  by_cases hlt : k < l.length
  ·have hkl : (k : Int) < (l.length : Int) := by omega
   have hq : l[k]? = some l[k] := List.getElem?_eq_getElem hlt
   have HT : Hid (l.take (k + 1) = l.take k ++ [l[k]]) := hid (List.take_succ_eq_append_getElem hlt)
   obtain ⟨g, o, rfl, _, hg, c0, c1, c2⟩ := en_at (H.out.below hbel.out) hq
   have hln : (l.take k).length ≤ 100000 := by rw [List.length_take]; omega
   generalize l[k] = x at *
   generalize l.take k = acc at *
   clear hq
   have hszr := hbel.out.size
   go_wp2_with (at_builtin; refine wpList_append_own _ rfl _ _ 29 rfl w.heap.size 28 i0 _ 3 40 Tryz.underlying29 hi0 hz0 hz1 hz2 rfl (by decide) _ _ _ rfl ((hown.out.alloc (.cells (enC x).toArray 56)).alloc _) ⟨wr.heap.size + 1, 0, none⟩ 1 1 (enC x) rfl rfl ?d1 ?d2 ?d3 ?d4 ?d5 ?_)
   case d1 =>
    have h := row_cells (C := enC) (wr.alloc (.cells (enC x).toArray 56)) x 28 _ rfl
    rw [World.size_alloc] at h
    exact h
   case d2 => exact enC_one x
   case d3 => unfold maxLen; omega
   case d4 => omega
   case d5 => simp; omega
   intro v7 w7 hown7 hgr7 _
   have hbA := (hbel.out.alloc hbel.out.size (.cells (enC x).toArray 56))
   have hb7 : Below w.heap.size w w7 := (hbA.alloc hbA.size _).grown hgr7 (by simp; omega) (fun k hk => (hown.out.lt k hk).1)
   have HOwn7 : Hid (w7.ownsRow w.heap.size 28 3 v7 (acc ++ [x]).length ((acc ++ [x]).flatMap enC)) := hid (by rw [List.length_append, List.flatMap_append]; simpa using hown7)
   have HB7 := hid hb7
   clear hown7 hgr7 hb7 hbA c0 c1 c2
   go_wp2_with fail
   go_roundw
   case rel => exact ⟨k + 1, by omega, by go_num, by rw [HT.out]; exact HOwn7, HB7⟩
   case measure => simp [intOf]; omega
  ·obtain rfl : k = l.length := by omega
   have hown' := hown.out
   rw [List.take_length] at hown'
   obtain ⟨A6, c6, rfl⟩ := own_form hown'
   have HO6 := hid hown'
   clear hown hown'
   go_wp2_with fail
   go_ret
   exact ⟨A6, c6, rfl, HO6.out, hbel.out⟩
end
section
open Go Go.RowKit
open Go.Lib (hid)
set_option maxRecDepth 100000
theorem infonew12 : (Tryz.prog.info? 56).map (fun i => (i.zero, i.size, i.bytes)) = some (some (.agg #[.int .i64 0, .string ⟨#[]⟩, .string ⟨#[]⟩]), 3, 40) := by kernel_rfl
set_option maxHeartbeats 4000000 in
theorem new12_calls (w : World) (D : Nat → Prop) (A : Option Addr) (c : Nat) (l : List EnJ) (h : RowT enC w D A l) (hl : l.length ≤ 100000) :
  Calls Tryz.prog 23 #[.slice A l.length c] w fun e w' => ∃ A' c', e = .returned (.slice A' l.length c') ∧ w'.ownsRow w.heap.size 56 3 (.slice A' l.length c') l.length (l.flatMap enC) ∧ Below w.heap.size w w' := by
 obtain ⟨i0, hi0, hz0, hz1, hz2⟩ := info_parts infonew12
 have H := hid h
 clear h
 go_enter Tryz.func23, Tryz.ntmps23
 go_wp2_with fail
 go_loopw [3, 8] (fun v3 v8 wr => ∃ k : Nat, k ≤ l.length ∧ v8 = .int .i64 (k : Int) ∧ Hid (wr.ownsRow w.heap.size 56 3 v3 (l.take k).length ((l.take k).flatMap enC)) ∧ Hid (Below w.heap.size w wr)) (fun _ v8 _ => l.length - (intOf v8).toNat)
 case atStart => exact ⟨0, Nat.zero_le _, rfl, hid (World.ownsRow_nil _ _ _ _), hid (Below.refl _ _)⟩
 case round =>
  obtain ⟨k, hk, rfl, hown, hbel⟩ := hrel
  by_cases hlt : k < l.length
  ·have hkl : (k : Int) < (l.length : Int) := by omega
   have hq : l[k]? = some l[k] := List.getElem?_eq_getElem hlt
   have HT : Hid (l.take (k + 1) = l.take k ++ [l[k]]) := hid (List.take_succ_eq_append_getElem hlt)
   obtain ⟨g, o, rfl, _, hg, c0, c1, c2⟩ := en_at (H.out.below hbel.out) hq
   have hln : (l.take k).length ≤ 100000 := by rw [List.length_take]; omega
   generalize l[k] = x at *
   generalize l.take k = acc at *
   clear hq
   have hszr := hbel.out.size
   go_wp2_with (at_builtin; refine wpList_append_own _ rfl _ _ 38 rfl w.heap.size 56 i0 _ 3 40 Tryz.underlying38 hi0 hz0 hz1 hz2 rfl (by decide) _ _ _ rfl ((hown.out.alloc (.cells (enC x).toArray 28)).alloc _) ⟨wr.heap.size + 1, 0, none⟩ 1 1 (enC x) rfl rfl ?d1 ?d2 ?d3 ?d4 ?d5 ?_)
   case d1 =>
    have h := row_cells (C := enC) (wr.alloc (.cells (enC x).toArray 28)) x 56 _ rfl
    rw [World.size_alloc] at h
    exact h
   case d2 => exact enC_one x
   case d3 => unfold maxLen; omega
   case d4 => omega
   case d5 => simp; omega
   intro v7 w7 hown7 hgr7 _
   have hbA := (hbel.out.alloc hbel.out.size (.cells (enC x).toArray 28))
   have hb7 : Below w.heap.size w w7 := (hbA.alloc hbA.size _).grown hgr7 (by simp; omega) (fun k hk => (hown.out.lt k hk).1)
   have HOwn7 : Hid (w7.ownsRow w.heap.size 56 3 v7 (acc ++ [x]).length ((acc ++ [x]).flatMap enC)) := hid (by rw [List.length_append, List.flatMap_append]; simpa using hown7)
   have HB7 := hid hb7
   clear hown7 hgr7 hb7 hbA c0 c1 c2
   go_wp2_with fail
   go_roundw
   case rel => exact ⟨k + 1, by omega, by go_num, by rw [HT.out]; exact HOwn7, HB7⟩
   case measure => simp [intOf]; omega
  ·obtain rfl : k = l.length := by omega
   have hown' := hown.out
   rw [List.take_length] at hown'
   obtain ⟨A6, c6, rfl⟩ := own_form hown'
   have HO6 := hid hown'
   clear hown hown'
   go_wp2_with fail
   go_ret
   exact ⟨A6, c6, rfl, HO6.out, hbel.out⟩
end
end Go.Proofs.YteafcaambnfdoaaGreatDoor
