/-
  keys.first: what the call comes to, in any memory in which the tables lie.
-/
import Derived.Test.YtbkejjpkijjfaaaDoorKEsc
import Derived.Test.YtbkejjpkijjfaaaDoorKSign
import Derived.Test.YtbkejjpkijjfaaaDoorFull
import Derived.Test.YtbkejjpkijjfaaaDoorNext
namespace Go.Proofs.YtbkejjpkijjfaaaDoor
open Go Go.RowKit
set_option maxRecDepth 100000

/-- The table of the bytes below 20 lies where the program's text lays it. -/
def Ctls (w : World) : Prop := ∀ x, x < 32 → w.cell? ⟨0, x, none⟩ = some (.int .i64 ((ctlsL.getD x 0 : Nat) : Int))
theorem ctls_below {w w' : World} (h : Ctls w) (hb : Below w.heap.size w w') : Ctls w' := fun x hx => by
  rw [hb.cell (World.block_lt_of_cell? _ _ (h x hx))]; exact h x hx
/-- Both tables. -/
def Lays (w : World) : Prop := Tabs w ∧ Ctls w
theorem Lays.below {w w' : World} (h : Lays w) (hb : Below w.heap.size w w') : Lays w' := ⟨tabs_below h.1 hb, ctls_below h.2 hb⟩

set_option maxHeartbeats 4000000 in
theorem first_calls4 (A : Option Addr) (c : Nat) (b : List UInt8) (w : World) (hb : Byt w A b) (h1 : 1 ≤ b.length) (hs : b.length ≤ 1099511627776) (hlc : b.length ≤ c) (hm : c ≤ maxLen) (ht : Lays w) :
    Calls Tryd.prog 30 #[.slice A b.length c] w fun e w' => e = .returned (.tuple #[kv (oneL b).1, .int .i64 ((oneL b).2 : Int)]) ∧ Below w.heap.size w w' := by
  have k0 : Below w.heap.size w (w.alloc (.cells #[.int .i64 0, .string ⟨#[]⟩] 44)) := (Below.refl _ w).alloc (Nat.le_refl _) _
  have hB := hb.alloc (.cells #[.int .i64 0, .string ⟨#[]⟩] 44)
  have HE := Lib.hid (esc_calls A c b _ hB h1 hs hlc hm)
  have HW := Lib.hid (whole_calls A c b _ hB (ht.below k0).1)
  have HN := Lib.hid (fun W h => next_calls A c b W h hlc hm)
  have Hct := Lib.hid (ht.below k0).2
  have K0 := Lib.hid k0
  have HB := Lib.hid hB
  have x0 := Bx.new w 44 (.int .i64 0) (.string ⟨#[]⟩)
  have X0 := Lib.hid x0
  obtain ⟨g, o, rfl, hg, hc⟩ := hb.at_ (by omega)
  have c0 := hc 0 (by omega)
  rw [Nat.add_zero] at c0
  have hx := (b.getD 0 0).toNat_lt
  have Hone : Hid (oneL b = if (b.getD 0 0).toNat = 27 then (((escL b).1, []), (escL b).2) else if (b.getD 0 0).toNat < 32 then ((ctlsL.getD (b.getD 0 0).toNat 0, []), 1) else if (b.getD 0 0).toNat = 127 then ((3, []), 1) else if wholeL b = true then (signK (Lib.decodeL b).1, (Lib.decodeL b).2) else ((0, []), 0)) := Lib.hid rfl
  have hnx : nextL b = Lib.decodeL b := by
    have : b ≠ [] := by rintro rfl; simp at h1
    simp [nextL, this]
  rw [hnx] at HN
  have hval := decodeL_valid b
  have hvb : (Lib.decodeL b).1 ≤ 1114111 := by unfold Valid at hval; omega
  clear hc hb ht k0 hB x0 hnx hval
  by_cases h27 : (b.getD 0 0).toNat = 27
  · have Hr : Hid (oneL b = (((escL b).1, []), (escL b).2)) := Lib.hid (by rw [Hone.out, if_pos h27])
    rw [h27] at c0
    clear HW HN Hone h27 hx hvb
    generalize escL b = r at *
    go_enter Tryd.func30, Tryd.ntmps30
    go_wp2_with fail
    refine HE.out.mono ?_
    rintro e w' ⟨rfl, hbel⟩
    have x1 := X0.out.below hbel
    have q0 := x1.c0
    have q1 := x1.c1
    have f0 := x1.f0
    have f1 := x1.f1
    have X1 := Lib.hid x1
    have K1 := Lib.hid (K0.out.trans (hbel.mono K0.out.size))
    clear x1 hbel
    go_wp2
    refine bodyPost_ret (results_bx2 rfl _ _ w.heap.size (.int .i64 (r.1 : Int)) (.string ⟨#[]⟩) 44 rfl ((X1.out.set0 _).set1 _) Tryd.underlying44 (sizeKey _)) rfl ?_
    exact ⟨by rw [Hr.out]; rfl, (K1.out.setCell (p := ⟨w.heap.size, 0, none⟩) (Nat.le_refl _) _).setCell (p := ⟨w.heap.size, 1, none⟩) (Nat.le_refl _) _⟩
  have e27 : (((b.getD 0 0).toNat : Int) == 27) = false := beq_eq_false_iff_ne.2 (by omega)
  by_cases h32 : (b.getD 0 0).toNat < 32
  · have Hr : Hid (oneL b = ((ctlsL.getD (b.getD 0 0).toNat 0, []), 1)) := Lib.hid (by rw [Hone.out, if_neg h27, if_pos h32])
    have d : decide (((b.getD 0 0).toNat : Int) < 32) = true := decide_eq_true (by omega)
    have ck := Hct.out _ h32
    clear HW HN Hone h27 hx hvb HE
    generalize (b.getD 0 0).toNat = x at *
    generalize ctlsL.getD x 0 = r at *
    go_enter Tryd.func30, Tryd.ntmps30
    go_wp2
    refine bodyPost_ret (results_bx2 rfl _ _ w.heap.size (.int .i64 (r : Int)) (.string ⟨#[]⟩) 44 rfl (Bx.new w _ _ _) Tryd.underlying44 (sizeKey _)) rfl ?_
    exact ⟨by rw [Hr.out]; rfl, (Below.refl _ w).alloc (Nat.le_refl _) _⟩
  have d32 : decide (((b.getD 0 0).toNat : Int) < 32) = false := decide_eq_false (by omega)
  by_cases h127 : (b.getD 0 0).toNat = 127
  · have Hr : Hid (oneL b = ((3, []), 1)) := Lib.hid (by rw [Hone.out, if_neg h27, if_neg h32, if_pos h127])
    rw [h127] at c0
    clear HW HN Hone h27 hx hvb HE h127 e27 d32 h32
    go_enter Tryd.func30, Tryd.ntmps30
    go_wp2
    refine bodyPost_ret (results_bx2 rfl _ _ w.heap.size (.int .i64 3) (.string ⟨#[]⟩) 44 rfl (Bx.new w _ _ _) Tryd.underlying44 (sizeKey _)) rfl ?_
    exact ⟨by rw [Hr.out]; rfl, (Below.refl _ w).alloc (Nat.le_refl _) _⟩
  have e127 : (((b.getD 0 0).toNat : Int) == 127) = false := beq_eq_false_iff_ne.2 (by omega)
  cases hwh : wholeL b with
  | true =>
    have Hr : Hid (oneL b = (signK (Lib.decodeL b).1, (Lib.decodeL b).2)) := Lib.hid (by rw [Hone.out, if_neg h27, if_neg h32, if_neg h127, if_pos hwh])
    rw [hwh] at HW
    clear Hone h27 hx HE h32 h127 hwh
    generalize (b.getD 0 0).toNat = x at *
    generalize (Lib.decodeL b).1 = r at *
    generalize (Lib.decodeL b).2 = n at *
    go_enter Tryd.func30, Tryd.ntmps30
    go_wp2_with fail
    refine HW.out.mono ?_
    rintro e w1 ⟨rfl, hb1⟩
    have k1 := K0.out.trans (hb1.mono K0.out.size)
    have B1 := HB.out.below hb1
    have x1 := X0.out.below hb1
    clear hb1 HW
    go_wp2_with fail
    refine (HN.out _ B1).mono ?_
    rintro e w2 ⟨rfl, hb2⟩
    have k2 := k1.trans (hb2.mono k1.size)
    have x2 := x1.below hb2
    clear hb2 k1 B1 x1 HN
    go_wp2_with fail
    refine (signKey_calls r w2 hvb).mono ?_
    rintro e w3 ⟨rfl, hb3⟩
    have k3 := k2.trans (hb3.mono k2.size)
    have x3 := x2.below hb3
    have q0 := x3.c0
    have q1 := x3.c1
    have f0 := x3.f0
    have f1 := x3.f1
    have X3 := Lib.hid x3
    have K3 := Lib.hid k3
    clear hb3 k2 x2 x3 k3
    unfold kv
    generalize signK r = rk at *
    go_wp2
    refine bodyPost_ret (results_bx2 rfl _ _ w.heap.size (.int .i64 (rk.1 : Int)) (.string (bs rk.2)) 44 rfl ((X3.out.set0 _).set1 _) Tryd.underlying44 (sizeKey _)) rfl ?_
    exact ⟨by rw [Hr.out]; rfl, (K3.out.setCell (p := ⟨w.heap.size, 0, none⟩) (Nat.le_refl _) _).setCell (p := ⟨w.heap.size, 1, none⟩) (Nat.le_refl _) _⟩
  | false =>
    have Hr : Hid (oneL b = ((0, []), 0)) := Lib.hid (by rw [Hone.out, if_neg h27, if_neg h32, if_neg h127, if_neg (by simp [hwh])])
    rw [hwh] at HW
    clear Hone h27 hx HE h32 h127 hwh HN hvb
    generalize (b.getD 0 0).toNat = x at *
    go_enter Tryd.func30, Tryd.ntmps30
    go_wp2_with fail
    refine HW.out.mono ?_
    rintro e w1 ⟨rfl, hb1⟩
    have k1 := K0.out.trans (hb1.mono K0.out.size)
    have x1 := X0.out.below hb1
    have q0 := x1.c0
    have q1 := x1.c1
    have f0 := x1.f0
    have f1 := x1.f1
    have X1 := Lib.hid x1
    have K1 := Lib.hid k1
    clear hb1 HW x1 k1
    go_wp2
    refine bodyPost_ret (results_bx2 rfl _ _ w.heap.size (.int .i64 0) (.string ⟨#[]⟩) 44 rfl ((X1.out.set0 _).set1 _) Tryd.underlying44 (sizeKey _)) rfl ?_
    exact ⟨by rw [Hr.out]; rfl, (K1.out.setCell (p := ⟨w.heap.size, 0, none⟩) (Nat.le_refl _) _).setCell (p := ⟨w.heap.size, 1, none⟩) (Nat.le_refl _) _⟩
end Go.Proofs.YtbkejjpkijjfaaaDoor
