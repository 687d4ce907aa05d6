/-
  Layer 7 and what it stands on, part 48 (JS2 JStep).
-/
import Derived.Test.YteafcaambnfdoaaGreatDoorPi44
import Derived.Test.YteafcaambnfdoaaGreatDoorPi47
import Derived.Deep.RegionHeld3
namespace Go.Proofs.YteafcaambnfdoaaGreatDoor
section
open Go Go.RowKit
open Go.Lib (hid)
set_option maxRecDepth 100000
set_option maxHeartbeats 8000000 in
theorem wstep4_calls (w0 W : World) (X Y : Nat → Prop) (wb b jb : Nat) (S : FS) (A : Option Addr) (n c : Nat) (h : WJ w0 W X Y wb b jb S S A n c) (x : OpH) (hx : OphIn w0 x) (m : Nat) (hA : S.At m) (hm : m + 5 * x.l.length + 30 ≤ 99000) (hbl : x.b.length ≤ 6000) (hkl : x.ks.length ≤ 6000) (hll : x.l.length ≤ 300) (ht : LaysR w0) (hk : x.k = 4) :
  Calls Tryz.prog 11 #[.pointer (some ⟨wb, 0, none⟩), .agg (ophC x).toArray] W fun e W' => e = .returned (.bool true) ∧ ∃ X2 Y2 jb2 A2 n2 c2, WJ w0 W' X2 Y2 wb b jb2 (doH S x).1 (doH S x).1 A2 n2 c2 := by
 obtain ⟨xk, ⟨xt, xd, xc⟩, xl, xi, xb, xks, LA, lc, BA, bc, KA, kc⟩ := x
 simp only at hk hm hbl hkl hll
 subst hk
 have hdo : doH S ⟨4, ⟨xt, xd, xc⟩, xl, xi, xb, xks, LA, lc, BA, bc, KA, kc⟩ = (S.arm xi, 0) := rfl
 rw [hdo]
 clear hdo
 have hbA : Below W.heap.size W (W.alloc (.cells (ophC ⟨4, ⟨xt, xd, xc⟩, xl, xi, xb, xks, LA, lc, BA, bc, KA, kc⟩).toArray 33)).drew := ((Below.refl _ W).alloc (Nat.le_refl _) (.cells (ophC ⟨4, ⟨xt, xd, xc⟩, xl, xi, xb, xks, LA, lc, BA, bc, KA, kc⟩).toArray 33)).drew
 have HW1 := hid (h.below hbA)
 have HOb := hid ((BxA.new W 33 (ophC ⟨4, ⟨xt, xd, xc⟩, xl, xi, xb, xks, LA, lc, BA, bc, KA, kc⟩)).below (Below.refl _ _).drew)
 have HXb : Hid (XN X W (W.alloc (.cells (ophC ⟨4, ⟨xt, xd, xc⟩, xl, xi, xb, xks, LA, lc, BA, bc, KA, kc⟩).toArray 33)).drew W.heap.size) := hid (XN.new (by show _ < (W.alloc _).heap.size; simp))
 have HIn := hid hx
 have HAt := hid hA
 have HFt := hid (hA.fit (by omega))
 have HT := hid ht
 have hsb : W.heap.size ≠ wb := fun e => by have := h.wa.lt; omega
 clear hbA h hx hA ht
 have HDa := hid (fun y D v hs => rdo10_calls y D v S ⟨5, ⟨#[]⟩, ⟨#[]⟩, [], xi, []⟩ none 0 none 0 hs HFt.out (by show (0 : Int) ≤ 5; decide) (by show (5 : Int) ≤ 8; decide) (fun hn => absurd hn (Nat.lt_irrefl 0)) (fun _ => rfl) (Nat.zero_le _) (fun hn => absurd hn (Nat.lt_irrefl 0)) (Nat.zero_le _))
 have HCa := hid (HW1.out.wa.fx.step (S2 := S.arm xi) (fun O D hh _ => farm_calls _ O D b S hh HFt.out xi HIn.out.i1 HIn.out.i2))
 have hres : doF S ⟨5, ⟨#[]⟩, ⟨#[]⟩, [], xi, []⟩ = (S.arm xi, 0) := rfl
 simp only [hres] at HDa
 generalize S.arm xi = S6 at HCa HDa ⊢
 clear hres
 go_enter Tryz.func11, Tryz.ntmps11
 have KK0 := (And.intro (HW1.out.wa.box.c 0 rfl) (HOb.out.c 5 rfl))
 go_upto_region 15 with fail
 refine wp_region_held_drew (S := (fun w' => w'.cell? ⟨wb, 0, none⟩ = some (fp b) ∧ w'.cell? ⟨W.heap.size, 5, none⟩ = some (.int .i64 xi))) (by kernel_rfl) KK0 (fun hHeld => ?_)
 refine tkH 0 ?_
 refine tkH 1 ?_
 refine tkH 2 ?_
 refine tkH 3 ?_
 refine tkH 4 ?_
 refine tkH 5 ?_
 refine rdH 6 fun K hK => ?_
 go_simp
 refine HCa.out.mono ?_; rintro e y1 ⟨rfl, hf, ho⟩; have HW2 := hid (HW1.out.turn hf (fun _ h => h) (fun _ h => h) ho); have HOb2 := hid (HOb.out.keep ho (fun hn => hn HXb.out)); have KK1 := (And.intro (HW2.out.wa.box.c 0 rfl) (HOb2.out.c 5 rfl)); clear hf ho HCa
 refine hK.out _ _ KK1 (fun hHeld => ?_)
 clear hK K
 refine wpAnyH_done (by kernel_rfl) ?_ _
 have HW2d := hid (HW2.out.below (Below.refl _ y1).drew)
 have HOb2d := hid (HOb2.out.below (Below.refl _ y1).drew)
 clear KK0 KK1
 have KL0 := (And.intro (HW2d.out.wa.box.c 2 rfl) (And.intro (HW2d.out.wa.box.c 3 rfl) (And.intro (HW2d.out.wa.box.c 4 rfl) (And.intro (HW2d.out.wa.box.c 5 rfl) (And.intro (HW2d.out.wa.box.c 6 rfl) (And.intro (HW2d.out.wa.box.c 7 rfl) (HOb2d.out.c 5 rfl)))))))
 go_upto_region 16 with fail
 refine wp_region_later (S := (fun w' => w'.cell? ⟨wb, 2, none⟩ = some (.slice A n c) ∧ w'.cell? ⟨wb, 3, none⟩ = some (.int .i64 (S.no : Int)) ∧ w'.cell? ⟨wb, 4, none⟩ = some (.int .i64 (S.ops : Int)) ∧ w'.cell? ⟨wb, 5, none⟩ = some (.int .i64 S.fuse) ∧ w'.cell? ⟨wb, 6, none⟩ = some (.int .i64 S.fault) ∧ w'.cell? ⟨wb, 7, none⟩ = some (.bool S.down) ∧ w'.cell? ⟨W.heap.size, 5, none⟩ = some (.int .i64 xi))) 14 (by kernel_rfl) KL0 (fun hHeld => ?_)
 refine tkB 0 ?_
 refine tkB 1 ?_
 refine tkB 2 ?_
 refine tkB 3 ?_
 refine tkB 4 ?_
 refine tkB 5 ?_
 refine tkB 6 ?_
 refine tkB 7 ?_
 refine rdB 8 fun K hK => ?_
 go_simp
 have HDo := hid (HDa.out _ _ _ HW2d.out.wa.st)
 first | unfold stV at HDo | skip
 first | unfold opC at HDo | skip
 refine HDo.out.mono ?_
 rintro e y2 ⟨v2, rfl, hst2, hb2⟩
 obtain ⟨A6, n6, c6, rfl, hst3⟩ := stA_ext (HW2d.out.wa.doc hst2)
 have hw3 := HW2d.out.below hb2
 have hp3 := hw3.put hst3
 have HWq := hid hw3
 have x0 := HWq.out.wa.box.c 0 rfl
 have x1 := HWq.out.wa.box.c 1 rfl
 have x2 := HWq.out.wa.box.c 2 rfl
 have x3 := HWq.out.wa.box.c 3 rfl
 have x4 := HWq.out.wa.box.c 4 rfl
 have x5 := HWq.out.wa.box.c 5 rfl
 have x6 := HWq.out.wa.box.c 6 rfl
 have x7 := HWq.out.wa.box.c 7 rfl
 have e2 := HWq.out.wa.box.free 2
 have e3 := HWq.out.wa.box.free 3
 have e4 := HWq.out.wa.box.free 4
 have e5 := HWq.out.wa.box.free 5
 have e6 := HWq.out.wa.box.free 6
 have e7 := HWq.out.wa.box.free 7
 unfold stV
 have HObq := hid (HOb2d.out.below hb2)
 have q9 := (And.intro (HWq.out.wa.box.c 2 rfl) (And.intro (HWq.out.wa.box.c 3 rfl) (And.intro (HWq.out.wa.box.c 4 rfl) (And.intro (HWq.out.wa.box.c 5 rfl) (And.intro (HWq.out.wa.box.c 6 rfl) (And.intro (HWq.out.wa.box.c 7 rfl) (HObq.out.c 5 rfl)))))))
 obtain ⟨W9, hW9⟩ : ∃ W9, sixW y2 wb (.slice A6 n6 c6) (.int .i64 (S6.no : Int)) (.int .i64 (S6.ops : Int)) (.int .i64 S6.fuse) (.int .i64 S6.fault) (.bool S6.down) = W9 := ⟨_, rfl⟩
 rw [hW9] at hp3
 have HW9 := hid hp3
 unfold sixW at hW9
 clear hst2 hst3 hw3 hp3 hb2 HDo
 refine hK.out _ _ q9 (fun hHeld => ?_)
 clear hK K
 refine tkB 9 ?_
 refine tkB 10 ?_
 refine laterAny_ready (rs := [11, 12]) (by kernel_rfl) (by simp) ?_
 refine AllReadyB.cons (o := ⟨some 97, _, _, _, _, _⟩) rfl (fun K hK => ?_) (AllReadyB.cons (o := ⟨some 98, _, _, _, _, _⟩) rfl (fun K hK => ?_) AllReadyB.nil)
 ·(rw [if_pos (by kernel_rfl)])
  go_simp
  refine hK.out _ _ q9 (fun hHeld => ?_)
  clear hK K
  refine rdB 12 fun K hK => ?_
  go_simp
  refine hK.out _ _ q9 (fun hHeld => ?_)
  clear hK K
  refine tkB 13 ?_
  refine psB 14 fun K hK => ?_
  go_simp
  refine hK.out _ _ ?_
  clear hK K
  refine laterAny_done (by kernel_rfl) ?_
  first | rw [hW9] | skip
  clear hW9 x0 x1 x2 x3 x4 x5 x6 x7 e2 e3 e4 e5 e6 e7
  go_wp2_with fail
  go_ret
  exact ⟨rfl, _, _, _, _, _, _, HW9.out⟩
 ·(rw [if_pos (by kernel_rfl)])
  go_simp
  refine hK.out _ _ q9 (fun hHeld => ?_)
  clear hK K
  refine tkB 13 ?_
  refine laterAny_ready (rs := [11, 14]) (by kernel_rfl) (by simp) ?_
  refine AllReadyB.cons (o := ⟨some 97, _, _, _, _, _⟩) rfl (fun K hK => ?_) (AllReadyB.past (o := ⟨none, _, _, _, _, _⟩) rfl (by kernel_rfl) (fun K hK => ?_) AllReadyB.nil)
  ·(rw [if_pos (by kernel_rfl)])
   go_simp
   refine hK.out _ _ q9 (fun hHeld => ?_)
   clear hK K
   refine psB 14 fun K hK => ?_
   go_simp
   refine hK.out _ _ ?_
   clear hK K
   refine laterAny_done (by kernel_rfl) ?_
   first | rw [hW9] | skip
   clear hW9 x0 x1 x2 x3 x4 x5 x6 x7 e2 e3 e4 e5 e6 e7
   go_wp2_with fail
   go_ret
   exact ⟨rfl, _, _, _, _, _, _, HW9.out⟩
  ·(rw [if_pos (by kernel_rfl)])
   go_simp
   refine hK.out _ _ ?_
   clear hK K
   refine psB 11 fun K hK => ?_
   go_simp
   refine hK.out _ _ ?_
   clear hK K
   refine laterAny_done (by kernel_rfl) ?_
   first | rw [hW9] | skip
   clear hW9 x0 x1 x2 x3 x4 x5 x6 x7 e2 e3 e4 e5 e6 e7
   go_wp2_with fail
   go_ret
   exact ⟨rfl, _, _, _, _, _, _, HW9.out⟩
set_option maxHeartbeats 8000000 in
theorem wstep5_calls (w0 W : World) (X Y : Nat → Prop) (wb b jb : Nat) (S : FS) (A : Option Addr) (n c : Nat) (h : WJ w0 W X Y wb b jb S S A n c) (x : OpH) (hx : OphIn w0 x) (m : Nat) (hA : S.At m) (hm : m + 5 * x.l.length + 30 ≤ 99000) (hbl : x.b.length ≤ 6000) (hkl : x.ks.length ≤ 6000) (hll : x.l.length ≤ 300) (ht : LaysR w0) (hk : x.k = 5) :
  Calls Tryz.prog 11 #[.pointer (some ⟨wb, 0, none⟩), .agg (ophC x).toArray] W fun e W' => e = .returned (.bool true) ∧ ∃ X2 Y2 jb2 A2 n2 c2, WJ w0 W' X2 Y2 wb b jb2 (doH S x).1 (doH S x).1 A2 n2 c2 := by
 obtain ⟨xk, ⟨xt, xd, xc⟩, xl, xi, xb, xks, LA, lc, BA, bc, KA, kc⟩ := x
 simp only at hk hm hbl hkl hll
 subst hk
 have hdo : doH S ⟨5, ⟨xt, xd, xc⟩, xl, xi, xb, xks, LA, lc, BA, bc, KA, kc⟩ = (S.fault_ xi, 0) := rfl
 rw [hdo]
 clear hdo
 have hbA : Below W.heap.size W (W.alloc (.cells (ophC ⟨5, ⟨xt, xd, xc⟩, xl, xi, xb, xks, LA, lc, BA, bc, KA, kc⟩).toArray 33)).drew := ((Below.refl _ W).alloc (Nat.le_refl _) (.cells (ophC ⟨5, ⟨xt, xd, xc⟩, xl, xi, xb, xks, LA, lc, BA, bc, KA, kc⟩).toArray 33)).drew
 have HW1 := hid (h.below hbA)
 have HOb := hid ((BxA.new W 33 (ophC ⟨5, ⟨xt, xd, xc⟩, xl, xi, xb, xks, LA, lc, BA, bc, KA, kc⟩)).below (Below.refl _ _).drew)
 have HXb : Hid (XN X W (W.alloc (.cells (ophC ⟨5, ⟨xt, xd, xc⟩, xl, xi, xb, xks, LA, lc, BA, bc, KA, kc⟩).toArray 33)).drew W.heap.size) := hid (XN.new (by show _ < (W.alloc _).heap.size; simp))
 have HIn := hid hx
 have HAt := hid hA
 have HFt := hid (hA.fit (by omega))
 have HT := hid ht
 have hsb : W.heap.size ≠ wb := fun e => by have := h.wa.lt; omega
 clear hbA h hx hA ht
 have HDa := hid (fun y D v hs => rdo10_calls y D v S ⟨6, ⟨#[]⟩, ⟨#[]⟩, [], xi, []⟩ none 0 none 0 hs HFt.out (by show (0 : Int) ≤ 6; decide) (by show (6 : Int) ≤ 8; decide) (fun hn => absurd hn (Nat.lt_irrefl 0)) (fun _ => rfl) (Nat.zero_le _) (fun hn => absurd hn (Nat.lt_irrefl 0)) (Nat.zero_le _))
 have HCa := hid (HW1.out.wa.fx.step (S2 := S.fault_ xi) (fun O D hh _ => ffault_calls _ O D b S hh HFt.out xi HIn.out.i1 HIn.out.i2))
 have hres : doF S ⟨6, ⟨#[]⟩, ⟨#[]⟩, [], xi, []⟩ = (S.fault_ xi, 0) := rfl
 simp only [hres] at HDa
 generalize S.fault_ xi = S6 at HCa HDa ⊢
 clear hres
 go_enter Tryz.func11, Tryz.ntmps11
 have KK0 := (And.intro (HW1.out.wa.box.c 0 rfl) (HOb.out.c 5 rfl))
 go_upto_region 18 with fail
 refine wp_region_held_drew (S := (fun w' => w'.cell? ⟨wb, 0, none⟩ = some (fp b) ∧ w'.cell? ⟨W.heap.size, 5, none⟩ = some (.int .i64 xi))) (by kernel_rfl) KK0 (fun hHeld => ?_)
 refine tkH 0 ?_
 refine tkH 1 ?_
 refine tkH 2 ?_
 refine tkH 3 ?_
 refine tkH 4 ?_
 refine tkH 5 ?_
 refine rdH 6 fun K hK => ?_
 go_simp
 refine HCa.out.mono ?_; rintro e y1 ⟨rfl, hf, ho⟩; have HW2 := hid (HW1.out.turn hf (fun _ h => h) (fun _ h => h) ho); have HOb2 := hid (HOb.out.keep ho (fun hn => hn HXb.out)); have KK1 := (And.intro (HW2.out.wa.box.c 0 rfl) (HOb2.out.c 5 rfl)); clear hf ho HCa
 refine hK.out _ _ KK1 (fun hHeld => ?_)
 clear hK K
 refine wpAnyH_done (by kernel_rfl) ?_ _
 have HW2d := hid (HW2.out.below (Below.refl _ y1).drew)
 have HOb2d := hid (HOb2.out.below (Below.refl _ y1).drew)
 clear KK0 KK1
 have KL0 := (And.intro (HW2d.out.wa.box.c 2 rfl) (And.intro (HW2d.out.wa.box.c 3 rfl) (And.intro (HW2d.out.wa.box.c 4 rfl) (And.intro (HW2d.out.wa.box.c 5 rfl) (And.intro (HW2d.out.wa.box.c 6 rfl) (And.intro (HW2d.out.wa.box.c 7 rfl) (HOb2d.out.c 5 rfl)))))))
 go_upto_region 19 with fail
 refine wp_region_later (S := (fun w' => w'.cell? ⟨wb, 2, none⟩ = some (.slice A n c) ∧ w'.cell? ⟨wb, 3, none⟩ = some (.int .i64 (S.no : Int)) ∧ w'.cell? ⟨wb, 4, none⟩ = some (.int .i64 (S.ops : Int)) ∧ w'.cell? ⟨wb, 5, none⟩ = some (.int .i64 S.fuse) ∧ w'.cell? ⟨wb, 6, none⟩ = some (.int .i64 S.fault) ∧ w'.cell? ⟨wb, 7, none⟩ = some (.bool S.down) ∧ w'.cell? ⟨W.heap.size, 5, none⟩ = some (.int .i64 xi))) 14 (by kernel_rfl) KL0 (fun hHeld => ?_)
 refine tkB 0 ?_
 refine tkB 1 ?_
 refine tkB 2 ?_
 refine tkB 3 ?_
 refine tkB 4 ?_
 refine tkB 5 ?_
 refine tkB 6 ?_
 refine tkB 7 ?_
 refine rdB 8 fun K hK => ?_
 go_simp
 have HDo := hid (HDa.out _ _ _ HW2d.out.wa.st)
 first | unfold stV at HDo | skip
 first | unfold opC at HDo | skip
 refine HDo.out.mono ?_
 rintro e y2 ⟨v2, rfl, hst2, hb2⟩
 obtain ⟨A6, n6, c6, rfl, hst3⟩ := stA_ext (HW2d.out.wa.doc hst2)
 have hw3 := HW2d.out.below hb2
 have hp3 := hw3.put hst3
 have HWq := hid hw3
 have x0 := HWq.out.wa.box.c 0 rfl
 have x1 := HWq.out.wa.box.c 1 rfl
 have x2 := HWq.out.wa.box.c 2 rfl
 have x3 := HWq.out.wa.box.c 3 rfl
 have x4 := HWq.out.wa.box.c 4 rfl
 have x5 := HWq.out.wa.box.c 5 rfl
 have x6 := HWq.out.wa.box.c 6 rfl
 have x7 := HWq.out.wa.box.c 7 rfl
 have e2 := HWq.out.wa.box.free 2
 have e3 := HWq.out.wa.box.free 3
 have e4 := HWq.out.wa.box.free 4
 have e5 := HWq.out.wa.box.free 5
 have e6 := HWq.out.wa.box.free 6
 have e7 := HWq.out.wa.box.free 7
 unfold stV
 have HObq := hid (HOb2d.out.below hb2)
 have q9 := (And.intro (HWq.out.wa.box.c 2 rfl) (And.intro (HWq.out.wa.box.c 3 rfl) (And.intro (HWq.out.wa.box.c 4 rfl) (And.intro (HWq.out.wa.box.c 5 rfl) (And.intro (HWq.out.wa.box.c 6 rfl) (And.intro (HWq.out.wa.box.c 7 rfl) (HObq.out.c 5 rfl)))))))
 obtain ⟨W9, hW9⟩ : ∃ W9, sixW y2 wb (.slice A6 n6 c6) (.int .i64 (S6.no : Int)) (.int .i64 (S6.ops : Int)) (.int .i64 S6.fuse) (.int .i64 S6.fault) (.bool S6.down) = W9 := ⟨_, rfl⟩
 rw [hW9] at hp3
 have HW9 := hid hp3
 unfold sixW at hW9
 clear hst2 hst3 hw3 hp3 hb2 HDo
 refine hK.out _ _ q9 (fun hHeld => ?_)
 clear hK K
 refine tkB 9 ?_
 refine tkB 10 ?_
 refine laterAny_ready (rs := [11, 12]) (by kernel_rfl) (by simp) ?_
 refine AllReadyB.cons (o := ⟨some 120, _, _, _, _, _⟩) rfl (fun K hK => ?_) (AllReadyB.cons (o := ⟨some 121, _, _, _, _, _⟩) rfl (fun K hK => ?_) AllReadyB.nil)
 ·(rw [if_pos (by kernel_rfl)])
  go_simp
  refine hK.out _ _ q9 (fun hHeld => ?_)
  clear hK K
  refine rdB 12 fun K hK => ?_
  go_simp
  refine hK.out _ _ q9 (fun hHeld => ?_)
  clear hK K
  refine tkB 13 ?_
  refine psB 14 fun K hK => ?_
  go_simp
  refine hK.out _ _ ?_
  clear hK K
  refine laterAny_done (by kernel_rfl) ?_
  first | rw [hW9] | skip
  clear hW9 x0 x1 x2 x3 x4 x5 x6 x7 e2 e3 e4 e5 e6 e7
  go_wp2_with fail
  go_ret
  exact ⟨rfl, _, _, _, _, _, _, HW9.out⟩
 ·(rw [if_pos (by kernel_rfl)])
  go_simp
  refine hK.out _ _ q9 (fun hHeld => ?_)
  clear hK K
  refine tkB 13 ?_
  refine laterAny_ready (rs := [11, 14]) (by kernel_rfl) (by simp) ?_
  refine AllReadyB.cons (o := ⟨some 120, _, _, _, _, _⟩) rfl (fun K hK => ?_) (AllReadyB.past (o := ⟨none, _, _, _, _, _⟩) rfl (by kernel_rfl) (fun K hK => ?_) AllReadyB.nil)
  ·(rw [if_pos (by kernel_rfl)])
   go_simp
   refine hK.out _ _ q9 (fun hHeld => ?_)
   clear hK K
   refine psB 14 fun K hK => ?_
   go_simp
   refine hK.out _ _ ?_
   clear hK K
   refine laterAny_done (by kernel_rfl) ?_
   first | rw [hW9] | skip
   clear hW9 x0 x1 x2 x3 x4 x5 x6 x7 e2 e3 e4 e5 e6 e7
   go_wp2_with fail
   go_ret
   exact ⟨rfl, _, _, _, _, _, _, HW9.out⟩
  ·(rw [if_pos (by kernel_rfl)])
   go_simp
   refine hK.out _ _ ?_
   clear hK K
   refine psB 11 fun K hK => ?_
   go_simp
   refine hK.out _ _ ?_
   clear hK K
   refine laterAny_done (by kernel_rfl) ?_
   first | rw [hW9] | skip
   clear hW9 x0 x1 x2 x3 x4 x5 x6 x7 e2 e3 e4 e5 e6 e7
   go_wp2_with fail
   go_ret
   exact ⟨rfl, _, _, _, _, _, _, HW9.out⟩
end
section
open Go Go.RowKit
theorem wstep12_calls (w0 W : World) (X Y : Nat → Prop) (wb b jb : Nat) (S : FS) (A : Option Addr) (n c : Nat) (h : WJ w0 W X Y wb b jb S S A n c) (x : OpH) (hx : OphIn w0 x) (m : Nat) (hA : S.At m) (hm : m + 5 * x.l.length + 30 ≤ 99000) (hbl : x.b.length ≤ 6000) (hkl : x.ks.length ≤ 6000) (hll : x.l.length ≤ 300) (ht : LaysR w0) :
  Calls Tryz.prog 11 #[.pointer (some ⟨wb, 0, none⟩), .agg (ophC x).toArray] W fun e W' => e = .returned (.bool true) ∧ ∃ X2 Y2 jb2 A2 n2 c2, WJ w0 W' X2 Y2 wb b jb2 (doH S x).1 (doH S x).1 A2 n2 c2 := by
 rcases (show x.k = 0 ∨ x.k = 1 ∨ x.k = 2 ∨ x.k = 3 ∨ x.k = 4 ∨ x.k = 5 ∨ x.k = 6 ∨ x.k = 7 ∨ x.k = 8 ∨ (x.k < 0 ∨ 8 < x.k) by omega) with hk | hk | hk | hk | hk | hk | hk | hk | hk | hk
 ·exact wstep0_calls w0 W X Y wb b jb S A n c h x hx m hA hm hbl hkl hll ht hk
 ·exact wstep1_calls w0 W X Y wb b jb S A n c h x hx m hA hm hbl hkl hll ht hk
 ·exact wstep2_calls w0 W X Y wb b jb S A n c h x hx m hA hm hbl hkl hll ht hk
 ·exact wstep3_calls w0 W X Y wb b jb S A n c h x hx m hA hm hbl hkl hll ht hk
 ·exact wstep4_calls w0 W X Y wb b jb S A n c h x hx m hA hm hbl hkl hll ht hk
 ·exact wstep5_calls w0 W X Y wb b jb S A n c h x hx m hA hm hbl hkl hll ht hk
 ·exact wstep6_calls w0 W X Y wb b jb S A n c h x hx m hA hm hbl hkl hll ht hk
 ·exact wstep7_calls w0 W X Y wb b jb S A n c h x hx m hA hm hbl hkl hll ht hk
 ·exact wstep8_calls w0 W X Y wb b jb S A n c h x hx m hA hm hbl hkl hll ht hk
 ·exact wstepn_calls w0 W X Y wb b jb S A n c h x hx m hA hm hbl hkl hll ht hk
end
end Go.Proofs.YteafcaambnfdoaaGreatDoor
