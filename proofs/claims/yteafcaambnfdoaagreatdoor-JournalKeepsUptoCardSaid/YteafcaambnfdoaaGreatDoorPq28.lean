/-
  Layer 7 and what it stands on, part 28 (JnCalls).
-/
import Derived.Test.YteafcaambnfdoaaGreatDoorPq27
import Derived.Deep.RegionHeld3
import Derived.Deep.Cut
namespace Go.Proofs.YteafcaambnfdoaaGreatDoor
section
open Go Go.RowKit
open Go.Lib (hid)
set_option maxRecDepth 100000
set_option maxHeartbeats 1000000 in
theorem jother12_calls (w : World) (b jb : Nat) (n : ByteArray) (h : BxA w jb 90 (jnC b n)) (hn : n.size ≤ 1000) :
  Calls Tryz.prog 64 #[.pointer (some ⟨jb, 0, none⟩)] w fun e w' => e = .returned (.string (otJ n)) ∧ Below w.heap.size w w' := by
 have c0 := h.c 0 rfl
 have c1 := h.c 1 rfl
 have HO : Hid (n ++ (⟨#[126]⟩ : ByteArray) = otJ n) := hid rfl
 clear h
 go_enter Tryz.func64, Tryz.ntmps64
 go_wp2_with fail
 go_ret
 exact ⟨by rw [← HO.out]; rfl, Below.refl _ _⟩
theorem jorno12_calls (w : World) (z : Int) : Calls Tryz.prog 55 #[.int .i64 z] w fun e w' => e = .returned (.int .i64 (if z = 101 then 0 else z)) ∧ Below w.heap.size w w' := by
 by_cases h : z = 101
 ·have q : (z == 101) = true := by rw [h]; rfl
  rw [if_pos h]
  clear h
  go_enter Tryz.func55, Tryz.ntmps55
  go_wp2_with fail
  go_ret
  exact ⟨rfl, Below.refl _ _⟩
 ·have q : (z == 101) = false := beq_eq_false_iff_ne.2 h
  rw [if_neg h]
  clear h
  go_enter Tryz.func55, Tryz.ntmps55
  go_wp2_with fail
  go_ret
  exact ⟨rfl, Below.refl _ _⟩
section
variable (w0 w : World) (X Y : Nat → Prop) (b : Nat) (S : FS) (jb : Nat) (n : ByteArray) (h : JX w0 w X Y b S jb n) (hS : S.Fit) (hn : n.size ≤ 1000)
include h hS hn
set_option maxHeartbeats 2000000 in
theorem jremove12_calls : Calls Tryz.prog 47 #[.pointer (some ⟨jb, 0, none⟩)] w fun e w' => e = .returned (.int .i64 (remJ S n).2) ∧ JX w0 w' X Y b (remJ S n).1 jb n ∧ Only (fun k => ¬ X k) w w' := by
 have hj0 := JG.start h
 have hj := hj0.below (Below.refl _ w).drew
 have HJ0 := hid hj
 have KK0 := HJ0.out.cells
 have HXs := hid h.xs
 have HRm : Hid ((if (S.remove (otJ n)).2 = 101 then 0 else (S.remove (otJ n)).2) = (remJ S n).2) := hid rfl
 have HOr := hid (fun y => jorno12_calls y (S.remove (otJ n)).2)
 rw [HRm.out] at HOr
 clear hj hj0 h
 go_enter Tryz.func47, Tryz.ntmps47
 go_upto_region 1 with fail
 refine wp_region_held_drew (S := (fun w' => w'.cell? ⟨jb, 0, none⟩ = some (fp b) ∧ w'.cell? ⟨jb, 1, none⟩ = some (.string n))) (by kernel_rfl) KK0 (fun hHeld => ?_)
 refine tkH 0 ?_
 refine tkH 1 ?_
 refine tkH 2 ?_
 refine tkH 3 ?_
 refine tkH 4 ?_
 refine rdH 5 fun K hK => ?_
 go_simp
 refine (jother12_calls _ b jb n HJ0.out.jx.box hn).mono ?_; rintro e y1 ⟨rfl, hb1⟩; have HJ1 := hid (HJ0.out.below hb1); have KK1 := HJ1.out.cells; clear hb1
 refine hK.out _ _ KK1 (fun hHeld => ?_)
 clear hK K
 refine rdH 6 fun K hK => ?_
 go_simp
 refine (HJ1.out.jx.fx.step (S2 := (S.remove (otJ n)).1) (fun O D hh _ => fremove_calls _ O D b S hh hS (otJ n))).mono ?_; rintro e y2 ⟨rfl, hf2, ho2⟩; have HJ2 := hid (HJ1.out.step hf2 ho2); have KK2 := HJ2.out.cells; clear hf2 ho2
 refine hK.out _ _ KK2 (fun hHeld => ?_)
 clear hK K
 refine rdH 7 fun K hK => ?_
 go_simp
 refine (HOr.out _).mono ?_; rintro e y3 ⟨rfl, hb3⟩; have HJ3 := hid (HJ2.out.below hb3); have KK3 := HJ3.out.cells; clear hb3
 refine hK.out _ _ KK3 (fun hHeld => ?_)
 clear hK K
 refine tkH 8 ?_
 refine wpAnyH_done (by kernel_rfl) ?_ _
 go_wp2_with fail
 go_ret
 exact ⟨rfl, HJ3.out.fin HXs.out⟩
omit hn in
set_option maxHeartbeats 2000000 in
theorem jsync12_calls : Calls Tryz.prog 16 #[.pointer (some ⟨jb, 0, none⟩)] w fun e w' => e = .returned (.int .i64 (syncJ S n).2) ∧ JX w0 w' X Y b (syncJ S n).1 jb n ∧ Only (fun k => ¬ X k) w w' := by
 have hj0 := JG.start h
 have hj := hj0.below (Below.refl _ w).drew
 have HJ0 := hid hj
 have KK0 := HJ0.out.cells
 have HXs := hid h.xs
 have HRm := hid (syncC_is S n)
 have HOr := hid (fun y => jorno12_calls y (S.sync n).2)
 have HR2 := hid (congrArg Prod.snd HRm.out)
 have HR1 := hid (congrArg Prod.fst HRm.out)
 simp only at HR2 HR1
 rw [HR2.out] at HOr
 clear hj hj0 h
 go_enter Tryz.func16, Tryz.ntmps16
 go_upto_region 1 with fail
 refine wp_region_held_drew (S := (fun w' => w'.cell? ⟨jb, 0, none⟩ = some (fp b) ∧ w'.cell? ⟨jb, 1, none⟩ = some (.string n))) (by kernel_rfl) KK0 (fun hHeld => ?_)
 refine tkH 0 ?_
 refine tkH 1 ?_
 refine tkH 2 ?_
 refine tkH 3 ?_
 refine tkH 4 ?_
 refine tkH 5 ?_
 refine tkH 6 ?_
 refine tkH 7 ?_
 refine rdH 8 fun K hK => ?_
 go_simp
 refine (HJ0.out.jx.fx.step (S2 := (S.sync n).1) (fun O D hh _ => fsync_calls _ O D b S hh hS n)).mono ?_; rintro e y2 ⟨rfl, hf2, ho2⟩; have HJ2 := hid (HJ0.out.step hf2 ho2); have KK2 := HJ2.out.cells; clear hf2 ho2
 refine hK.out _ _ KK2 (fun hHeld => ?_)
 clear hK K
 refine rdH 9 fun K hK => ?_
 go_simp
 refine (HOr.out _).mono ?_; rintro e y3 ⟨rfl, hb3⟩; have HJ3 := hid (HJ2.out.below hb3); have KK3 := HJ3.out.cells; clear hb3
 refine hK.out _ _ KK3 (fun hHeld => ?_)
 clear hK K
 refine tkH 10 ?_
 refine wpAnyH_done (by kernel_rfl) ?_ _
 go_wp2_with fail
 go_ret
 rw [← HR1.out]
 exact ⟨rfl, HJ3.out.fin HXs.out⟩
omit hn in
set_option maxHeartbeats 2000000 in
theorem jbytes12_calls : Calls Tryz.prog 49 #[.pointer (some ⟨jb, 0, none⟩)] w fun e w' => ∃ A c, e = .returned (.tuple #[.slice A (S.read n).1.length c, .int .i64 (if (S.read n).2 = 101 then 0 else (S.read n).2)]) ∧ w'.ownsRow w.heap.size 5 1 (.slice A (S.read n).1.length c) (S.read n).1.length (Lib.byteCells (S.read n).1) ∧ Below w.heap.size w w' := by
 have hj0 := JG.start h
 have hj := hj0.below (Below.refl _ w).drew
 have HJ0 := hid hj
 have KK0 := HJ0.out.cells
 obtain ⟨O, D, hat⟩ := hj.jx.fx.at_
 have HRd := hid (fread_calls _ O D b S hat hS n)
 clear hj hj0 h hat
 generalize (S.read n).1 = rb at *
 generalize (S.read n).2 = rz at *
 have HOr := hid (fun y => jorno12_calls y rz)
 generalize (if rz = 101 then 0 else rz) = rz' at *
 go_enter Tryz.func49, Tryz.ntmps49
 go_upto_region 1 with fail
 refine wp_region_held_drew (S := (fun w' => w'.cell? ⟨jb, 0, none⟩ = some (fp b) ∧ w'.cell? ⟨jb, 1, none⟩ = some (.string n))) (by kernel_rfl) KK0 (fun hHeld => ?_)
 refine tkH 0 ?_
 refine tkH 1 ?_
 refine tkH 2 ?_
 refine tkH 3 ?_
 refine tkH 4 ?_
 refine tkH 5 ?_
 refine tkH 6 ?_
 refine tkH 7 ?_
 refine rdH 8 fun K hK => ?_
 go_simp
 refine HRd.out.mono ?_; rintro e y2 ⟨u, rfl, hown2, hb2⟩; have HJ2 := hid (HJ0.out.below hb2); have KK2 := HJ2.out.cells; have HO2 := hid hown2; have HB2 := hid ((Below.refl _ w).drew.trans (hb2.mono (Nat.le_refl _))); obtain ⟨A2, c2, rfl⟩ := own_form hown2; clear hown2 hb2
 refine hK.out _ _ KK2 (fun hHeld => ?_)
 clear hK K
 refine tkH 9 ?_
 refine tkH 10 ?_
 refine tkH 11 ?_
 refine tkH 12 ?_
 refine tkH 13 ?_
 refine wpAnyH_done (by kernel_rfl) ?_ _
 go_wp2_with fail
 refine (HOr.out _).mono ?_
 rintro e y3 ⟨rfl, hb3⟩
 have HB3 := hid (HB2.out.trans (hb3.mono HB2.out.size))
 have HO3 := hid (own_below HO2.out hb3)
 clear hb3
 go_wp2_with fail
 go_ret2
 exact ⟨A2, c2, rfl, HO3.out, HB3.out⟩
end
def amissJ (S : FS) (n : ByteArray) : Int := if S.down then 100 else if n.size < 1 ∨ 16 < n.size then 101 else 0
theorem jamiss12_nil (w : World) (n : ByteArray) : Calls Tryz.prog 45 #[.pointer none, .string n] w fun e w' => e = .returned (.int .i64 1) ∧ Below w.heap.size w w' := by
 go_enter Tryz.func45, Tryz.ntmps45
 go_wp2_with fail
 go_ret
 exact ⟨rfl, Below.refl _ _⟩
set_option maxHeartbeats 2000000 in
theorem jamiss12_calls (w : World) (O D : Nat → Prop) (b : Nat) (S : FS) (h : FileAt w O D b S) (hS : S.Fit) (n : ByteArray) : Calls Tryz.prog 45 #[fp b, .string n] w fun e w' => e = .returned (.int .i64 (amissJ S n)) ∧ Below w.heap.size w w' := by
 have HD := hid (fdown_calls w O D b S h hS)
 have HA : Hid (amissJ S n = if S.down then 100 else if n.size < 1 ∨ 16 < n.size then 101 else 0) := hid rfl
 clear h hS
 generalize amissJ S n = z at *
 generalize S.down = d at *
 go_enter Tryz.func45, Tryz.ntmps45
 go_wp2_with fail
 refine HD.out.mono ?_
 rintro e w1 ⟨rfl, hb1⟩
 have HB1 := hid hb1
 clear hb1 HD
 cases d with
 | true =>
  have hz : z = 100 := by rw [HA.out]; rfl
  subst hz
  go_wp2_with fail
  go_ret
  exact ⟨rfl, HB1.out⟩
 | false =>
  by_cases h0 : n.size < 1
  ·have hz : z = 101 := by rw [HA.out, if_neg (by decide), if_pos (.inl h0)]
   subst hz
   obtain rfl : n = ⟨#[]⟩ := by
    obtain ⟨⟨l⟩⟩ := n
    have : l = [] := List.length_eq_zero_iff.1 (by have : (ByteArray.mk ⟨l⟩).size = l.length := rfl; omega)
    subst this
    rfl
   clear h0
   go_wp2_with fail
   go_ret
   exact ⟨rfl, HB1.out⟩
  ·have hne : (n.toList == []) = false := by
    rw [Lib.toList_data]
    refine beq_eq_false_iff_ne.2 fun e => h0 ?_
    have : n.size = n.data.toList.length := by simp
    rw [this, e]
    decide
   by_cases h1 : 16 < n.size
   ·have hz : z = 101 := by rw [HA.out, if_neg (by decide), if_pos (.inr h1)]
    subst hz
    have q : decide ((16 : Int) < (n.size : Int)) = true := decide_eq_true (by omega)
    clear h0 h1
    go_wp2_with fail
    go_ret
    exact ⟨rfl, HB1.out⟩
   ·have hz : z = 0 := by rw [HA.out, if_neg (by decide), if_neg (by omega)]
    subst hz
    have q : decide ((16 : Int) < (n.size : Int)) = false := decide_eq_false (by omega)
    clear h0 h1
    go_wp2_with fail
    go_ret
    exact ⟨rfl, HB1.out⟩
end
end Go.Proofs.YteafcaambnfdoaaGreatDoor
