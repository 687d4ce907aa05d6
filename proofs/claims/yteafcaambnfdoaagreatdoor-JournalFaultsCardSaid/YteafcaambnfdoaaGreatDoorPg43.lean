/-
  Layer 7 and what it stands on, part 43 (RJHas RJClear).
-/
import Derived.Test.YteafcaambnfdoaaGreatDoorPg42
namespace Go.Proofs.YteafcaambnfdoaaGreatDoor
section
open Go Go.RowKit
set_option maxRecDepth 100000
set_option maxHeartbeats 2000000 in
theorem rhas12_calls (w : World) (D : Nat → Prop) (v : Value) (S : FS) (n : ByteArray) (h : StAt w D v S) (hl : S.l.length ≤ 1000) :
  Calls Tryz.prog 71 #[v, .string n] w fun e w' => e = .returned (.bool (hasJ S n)) ∧ Below w.heap.size w w' := by
 obtain ⟨A, c, vs, rfl, hr, ha⟩ := h
 have HLen := Lib.hid (all2_len ha)
 have hvl : vs.length ≤ 1000 := by have := HLen.out; omega
 clear hl
 have hb := (Below.refl _ w).alloc (Nat.le_refl _) (.cells (stC A vs.length c S).toArray 51)
 have hx := BxA.new w 51 (stC A vs.length c S)
 have x0 := hx.c 0 rfl
 have H := Lib.hid (hr.below hb)
 have HA := Lib.hid ha
 have HB := Lib.hid hb
 clear hr ha hb hx
 unfold stV
 go_enter Tryz.func71, Tryz.ntmps71
 obtain ⟨W, hW⟩ : ∃ W, w.alloc (.cells (stC A vs.length c S).toArray 51) = W := ⟨_, rfl⟩
 rw [hW] at H HB x0
 go_wp2_with fail
 clear hW
 go_loopw [5] (fun v5 wr => ∃ k : Nat, k ≤ vs.length ∧ v5 = .int .i64 (k : Int) ∧ Hid (∀ j g, j < k → S.l[j]? = some g → g.name ≠ n) ∧ wr = W) (fun v5 _ => vs.length - (intOf v5).toNat)
 case atStart => exact ⟨0, Nat.zero_le _, rfl, Lib.hid (fun j g hj => by omega), rfl⟩
 case round =>
  obtain ⟨k, hk, rfl, hno, rfl⟩ := hrel
  by_cases hlt : k < vs.length
  ·obtain ⟨g, o, q, rfl, hg, hq, c0, c1, c2⟩ := file_at H.out hlt
   obtain ⟨f, hf, hfr⟩ := all2_get HA.out hq
   have hkl : (k : Int) < (vs.length : Int) := by omega
   have hname := hfr.name
   have HF := Lib.hid hf
   clear hq hf hfr c1 c2
   by_cases hn : q.name = n
   ·have t1 : (q.name.toList == n.toList) = true := by rw [tl_beq]; exact decide_eq_true hn
    have HFd : Hid (hasJ S n = true) := Lib.hid (by unfold hasJ; rw [found_here HF.out (by rw [← hname, hn]) hno.out]; rfl)
    clear hn hname hno
    go_wp2_with fail
    go_ret
    exact ⟨by rw [HFd.out]; rfl, HB.out⟩
   ·have t1 : (q.name.toList == n.toList) = false := by rw [tl_beq]; exact decide_eq_false hn
    have HN : Hid (∀ j g, j < k + 1 → S.l[j]? = some g → g.name ≠ n) := Lib.hid (fun j g hj hg => by
     by_cases e : j = k
     ·subst e
      rw [HF.out] at hg
      injection hg with hg
      rw [← hg, ← hname]
      exact hn
     ·exact hno.out j g (by omega) hg)
    clear hn hname hno
    go_wp2_with fail
    go_roundw
    case rel => exact ⟨k + 1, by omega, by go_num, HN, trivial⟩
    case measure => simp [intOf]; omega
  ·obtain rfl : k = vs.length := by omega
   have HFd : Hid (hasJ S n = false) := Lib.hid (by
    unfold hasJ
    rw [findF_none.2 fun f hf => by
     obtain ⟨j, hj, rfl⟩ := List.mem_iff_getElem.1 hf
     exact hno.out j _ (by have := HLen.out; omega) (List.getElem?_eq_getElem hj)]
    rfl)
   clear hno
   go_wp2_with fail
   go_ret
   exact ⟨by rw [HFd.out]; rfl, HB.out⟩
end
section
open Go Go.RowKit
set_option maxRecDepth 100000
set_option maxHeartbeats 4000000 in
theorem rclear12_calls (w : World) (D : Nat → Prop) (v : Value) (S : FS) (n : ByteArray) (hn : n.size ≤ 137438953472) (h : StAt w D v S) (hS : S.Fit) :
  Calls Tryz.prog 72 #[v, .string n] w fun e w' => ∃ v', e = .returned (.tuple #[v', .int .i64 (clearJ S n).2]) ∧ StAt w' (DW D w) v' (clearJ S n).1 ∧ Below w.heap.size w w' := by
 have hcap := h.cap
 obtain ⟨A, c, vs, rfl, hr, ha⟩ := hcap
 have hb := ((Below.refl _ w).alloc (Nat.le_refl _) (.cells (stC A vs.length c S).toArray 51)).alloc (by simp) (.cells zeroSt.toArray 51)
 have hx := (BxA.new w 51 (stC A vs.length c S)).alloc (.cells zeroSt.toArray 51)
 have hz := bx_new2 w (.cells (stC A vs.length c S).toArray 51) 51 zeroSt
 have hst : StAt ((w.alloc (.cells (stC A vs.length c S).toArray 51)).alloc (.cells zeroSt.toArray 51)) (fun k => D k ∧ k < w.heap.size) (stV A vs.length c S) S := StAt.below ⟨A, c, vs, rfl, hr, ha⟩ hb
 have HSt := Lib.hid hst
 have HR := Lib.hid (hr.below hb)
 have HA := Lib.hid (all2_imp (fun _ _ h => FileR.below h hb) ha)
 have HB := Lib.hid hb
 have HX := Lib.hid hx
 have HZ := Lib.hid hz
 have HS := Lib.hid hS
 obtain ⟨W, hW⟩ : ∃ W, ((w.alloc (.cells (stC A vs.length c S).toArray 51)).alloc (.cells zeroSt.toArray 51)) = W := ⟨_, rfl⟩
 rw [hW] at HSt HR HA HB HX HZ
 have HWs : Hid (W.heap.size = w.heap.size + 1 + 1) := Lib.hid (by rw [← hW]; simp)
 clear hr ha hb hx hz hst hS h
 have HFew : Hid (S.l.length ≤ 1000) := Lib.hid (by have := HS.out.ok.few; omega)
 have HH := Lib.hid (rhas12_calls W _ _ S (otJ n) HSt.out HFew.out)
 unfold stV stC at *
 go_enter Tryz.func72, Tryz.ntmps72
 have x0 := HX.out.c 0 rfl
 have x1 := HX.out.c 1 rfl
 have x2 := HX.out.c 2 rfl
 have x3 := HX.out.c 3 rfl
 have x4 := HX.out.c 4 rfl
 have x5 := HX.out.c 5 rfl
 go_wp2_with fail
 refine HH.out.mono ?_
 rintro e w1 ⟨rfl, hb1⟩
 have HB1 := Lib.hid hb1
 clear x0 x1 x2 x3 x4 x5 hb1 HH hW
 have x0 := (HX.out.below HB1.out).c 0 rfl
 have x1 := (HX.out.below HB1.out).c 1 rfl
 have x2 := (HX.out.below HB1.out).c 2 rfl
 have x3 := (HX.out.below HB1.out).c 3 rfl
 have x4 := (HX.out.below HB1.out).c 4 rfl
 have x5 := (HX.out.below HB1.out).c 5 rfl
 cases hh : hasJ S (otJ n) with
 | false =>
  have HE : Hid (clearJ S n = (S, 0)) := Lib.hid (by unfold clearJ; rw [hh]; rfl)
  clear hh
  have z0 := (HZ.out.below HB1.out).c 0 rfl
  have z1 := (HZ.out.below HB1.out).c 1 rfl
  have z2 := (HZ.out.below HB1.out).c 2 rfl
  have z3 := (HZ.out.below HB1.out).c 3 rfl
  have z4 := (HZ.out.below HB1.out).c 4 rfl
  have z5 := (HZ.out.below HB1.out).c 5 rfl
  have f0 := (HZ.out.below HB1.out).free 0
  have f1 := (HZ.out.below HB1.out).free 1
  have f2 := (HZ.out.below HB1.out).free 2
  have f3 := (HZ.out.below HB1.out).free 3
  have f4 := (HZ.out.below HB1.out).free 4
  have f5 := (HZ.out.below HB1.out).free 5
  go_wp2_with fail
  rw [HE.out]
  exact fin10e (HB.out.trans (HB1.out.mono HB.out.size)) (by omega) (D := fun k => D k ∧ k < w.heap.size) (fun k hk => by have := hk.2; omega) (fun k hk => .inl hk.1) (HZ.out.below HB1.out) (HR.out.below HB1.out) (all2_imp (fun _ _ h => FileR.below h HB1.out) HA.out) rfl rfl _ rfl rfl _ rfl
 | true =>
  have HE : Hid (clearJ S n = doF S ⟨3, otJ n, ⟨#[]⟩, [], 0, []⟩) := Lib.hid (by unfold clearJ; rw [hh]; rfl)
  clear hh
  go_wp2_with fail
  refine (rdo10_calls w1 (fun k => D k ∧ k < w.heap.size) _ S ⟨3, otJ n, ⟨#[]⟩, [], 0, []⟩ none 0 none 0 (HSt.out.below HB1.out) HS.out (show (0 : Int) ≤ 3 by decide) (show (3 : Int) ≤ 8 by decide) (fun hn => absurd hn (Nat.lt_irrefl 0)) (fun _ => rfl) (by simp) (fun hn => absurd hn (Nat.lt_irrefl 0)) (by simp)).mono ?_
  rintro x wd ⟨vd, rfl, hsd, hbd⟩
  obtain ⟨Ad, cd, vsd, rfl, hrd, had⟩ := hsd
  have HBD : Hid (Below w.heap.size w wd) := Lib.hid (HB.out.trans ((HB1.out.trans (hbd.mono HB1.out.size)).mono HB.out.size))
  have HZD := Lib.hid (HZ.out.below (HB1.out.trans (hbd.mono HB1.out.size)))
  have HRD := Lib.hid hrd
  have HAD := Lib.hid had
  clear hrd had hbd
  generalize doF S ⟨3, otJ n, ⟨#[]⟩, [], 0, []⟩ = q at *
  unfold stV
  clear x0 x1 x2 x3 x4 x5
  have z0 := HZD.out.c 0 rfl
  have z1 := HZD.out.c 1 rfl
  have z2 := HZD.out.c 2 rfl
  have z3 := HZD.out.c 3 rfl
  have z4 := HZD.out.c 4 rfl
  have z5 := HZD.out.c 5 rfl
  have f0 := HZD.out.free 0
  have f1 := HZD.out.free 1
  have f2 := HZD.out.free 2
  have f3 := HZD.out.free 3
  have f4 := HZD.out.free 4
  have f5 := HZD.out.free 5
  go_wp2_with fail
  rw [HE.out]
  exact fin10e (HBD.out) (by omega) (D := DW (fun k => D k ∧ k < w.heap.size) w1) (fun k hk => Or.elim hk (fun hk => by have := hk.2; omega) (fun hk => by have h1 := HB1.out.size; have h2 := HWs.out; omega)) (fun k hk => Or.elim hk (fun hk => .inl hk.1) (fun hk => .inr (by have h1 := HB1.out.size; have h2 := HB.out.size; omega))) HZD.out HRD.out HAD.out rfl rfl _ rfl rfl _ rfl
end
end Go.Proofs.YteafcaambnfdoaaGreatDoor
