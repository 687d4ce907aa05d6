/-
  Layer 7 and what it stands on, part 48 (JS2 JStep JWStands).
-/
import Derived.Test.YteafcaambnfdoaaGreatDoorPh44
import Derived.Test.YteafcaambnfdoaaGreatDoorPh47
import Derived.Deep.RegionHeld3
namespace Go.Proofs.YteafcaambnfdoaaGreatDoor
section
open Go Go.RowKit
open Go.Lib (hid)
set_option maxRecDepth 100000
set_option maxHeartbeats 8000000 in
theorem wstep4_calls (w0 W : World) (X Y : Nat → Prop) (wb b jb : Nat) (S : FS) (A : Option Addr) (n c : Nat) (h : WJ w0 W X Y wb b jb S S A n c) (x : OpH) (hx : OphIn w0 x) (m : Nat) (hA : S.At m) (hm : m + 5 * x.l.length + 30 ≤ 99000) (hbl : x.b.length ≤ 6000) (hkl : x.ks.length ≤ 6000) (hll : x.l.length ≤ 300) (ht : LaysR w0) (hk : x.k = 4) :
  Calls Tryz.prog 11 #[.pointer (some ⟨wb, 0, none⟩), .agg (ophC x).toArray] W fun e W' => e = .returned (.bool true) ∧ ∃ X2 Y2 jb2 A2 n2 c2, WJ w0 W' X2 Y2 wb b jb2 (doH S x).1 (doH S x).1 A2 n2 c2 := by
 obtain ⟨xk, ⟨xt, xd, xc⟩, xl, xi, xb, xks, LA, lc, BA, bc, KA, kc⟩ := x
 simp only at hk hm hbl hkl hll
 subst hk
 have hdo : doH S ⟨4, ⟨xt, xd, xc⟩, xl, xi, xb, xks, LA, lc, BA, bc, KA, kc⟩ = (S.arm xi, 0) := rfl
 rw [hdo]
 clear hdo
 have hbA : Below W.heap.size W (W.alloc (.cells (ophC ⟨4, ⟨xt, xd, xc⟩, xl, xi, xb, xks, LA, lc, BA, bc, KA, kc⟩).toArray 33)).drew := ((Below.refl _ W).alloc (Nat.le_refl _) (.cells (ophC ⟨4, ⟨xt, xd, xc⟩, xl, xi, xb, xks, LA, lc, BA, bc, KA, kc⟩).toArray 33)).drew
 have HW1 := hid (h.below hbA)
 have HOb := hid ((BxA.new W 33 (ophC ⟨4, ⟨xt, xd, xc⟩, xl, xi, xb, xks, LA, lc, BA, bc, KA, kc⟩)).below (Below.refl _ _).drew)
 have HXb : Hid (XN X W (W.alloc (.cells (ophC ⟨4, ⟨xt, xd, xc⟩, xl, xi, xb, xks, LA, lc, BA, bc, KA, kc⟩).toArray 33)).drew W.heap.size) := hid (XN.new (by show _ < (W.alloc _).heap.size; simp))
 have HIn := hid hx
 have HAt := hid hA
 have HFt := hid (hA.fit (by omega))
 have HT := hid ht
 have hsb : W.heap.size ≠ wb := fun e => by have := h.wa.lt; omega
 clear hbA h hx hA ht
 have HDa := hid (fun y D v hs => rdo10_calls y D v S ⟨5, ⟨#[]⟩, ⟨#[]⟩, [], xi, []⟩ none 0 none 0 hs HFt.out (by show (0 : Int) ≤ 5; decide) (by show (5 : Int) ≤ 8; decide) (fun hn => absurd hn (Nat.lt_irrefl 0)) (fun _ => rfl) (Nat.zero_le _) (fun hn => absurd hn (Nat.lt_irrefl 0)) (Nat.zero_le _))
 have HCa := hid (HW1.out.wa.fx.step (S2 := S.arm xi) (fun O D hh _ => farm_calls _ O D b S hh HFt.out xi HIn.out.i1 HIn.out.i2))
 have hres : doF S ⟨5, ⟨#[]⟩, ⟨#[]⟩, [], xi, []⟩ = (S.arm xi, 0) := rfl
 simp only [hres] at HDa
 generalize S.arm xi = S6 at HCa HDa ⊢
 clear hres
 go_enter Tryz.func11, Tryz.ntmps11
 have KK0 := (And.intro (HW1.out.wa.box.c 0 rfl) (HOb.out.c 5 rfl))
 go_upto_region 15 with fail
 refine wp_region_held_drew (S := (fun w' => w'.cell? ⟨wb, 0, none⟩ = some (fp b) ∧ w'.cell? ⟨W.heap.size, 5, none⟩ = some (.int .i64 xi))) (by kernel_rfl) KK0 (fun hHeld => ?_)
 refine tkH 0 ?_
 refine tkH 1 ?_
 refine tkH 2 ?_
 refine tkH 3 ?_
 refine tkH 4 ?_
 refine tkH 5 ?_
 refine rdH 6 fun K hK => ?_
 go_simp
 refine HCa.out.mono ?_; rintro e y1 ⟨rfl, hf, ho⟩; have HW2 := hid (HW1.out.turn hf (fun _ h => h) (fun _ h => h) ho); have HOb2 := hid (HOb.out.keep ho (fun hn => hn HXb.out)); have KK1 := (And.intro (HW2.out.wa.box.c 0 rfl) (HOb2.out.c 5 rfl)); clear hf ho HCa
 refine hK.out _ _ KK1 (fun hHeld => ?_)
 clear hK K
 refine wpAnyH_done (by kernel_rfl) ?_ _
 have HW2d := hid (HW2.out.below (Below.refl _ y1).drew)
 have HOb2d := hid (HOb2.out.below (Below.refl _ y1).drew)
 clear KK0 KK1
 have KL0 := (And.intro (HW2d.out.wa.box.c 2 rfl) (And.intro (HW2d.out.wa.box.c 3 rfl) (And.intro (HW2d.out.wa.box.c 4 rfl) (And.intro (HW2d.out.wa.box.c 5 rfl) (And.intro (HW2d.out.wa.box.c 6 rfl) (And.intro (HW2d.out.wa.box.c 7 rfl) (HOb2d.out.c 5 rfl)))))))
 go_upto_region 16 with fail
 refine wp_region_later (S := (fun w' => w'.cell? ⟨wb, 2, none⟩ = some (.slice A n c) ∧ w'.cell? ⟨wb, 3, none⟩ = some (.int .i64 (S.no : Int)) ∧ w'.cell? ⟨wb, 4, none⟩ = some (.int .i64 (S.ops : Int)) ∧ w'.cell? ⟨wb, 5, none⟩ = some (.int .i64 S.fuse) ∧ w'.cell? ⟨wb, 6, none⟩ = some (.int .i64 S.fault) ∧ w'.cell? ⟨wb, 7, none⟩ = some (.bool S.down) ∧ w'.cell? ⟨W.heap.size, 5, none⟩ = some (.int .i64 xi))) 14 (by kernel_rfl) KL0 (fun hHeld => ?_)
 refine tkB 0 ?_
 refine tkB 1 ?_
 refine tkB 2 ?_
 refine tkB 3 ?_
 refine tkB 4 ?_
 refine tkB 5 ?_
 refine tkB 6 ?_
 refine tkB 7 ?_
 refine rdB 8 fun K hK => ?_
 go_simp
 have HDo := hid (HDa.out _ _ _ HW2d.out.wa.st)
 first | unfold stV at HDo | skip
 first | unfold opC at HDo | skip
 refine HDo.out.mono ?_
 rintro e y2 ⟨v2, rfl, hst2, hb2⟩
 obtain ⟨A6, n6, c6, rfl, hst3⟩ := stA_ext (HW2d.out.wa.doc hst2)
 have hw3 := HW2d.out.below hb2
 have hp3 := hw3.put hst3
 have HWq := hid hw3
 have x0 := HWq.out.wa.box.c 0 rfl
 have x1 := HWq.out.wa.box.c 1 rfl
 have x2 := HWq.out.wa.box.c 2 rfl
 have x3 := HWq.out.wa.box.c 3 rfl
 have x4 := HWq.out.wa.box.c 4 rfl
 have x5 := HWq.out.wa.box.c 5 rfl
 have x6 := HWq.out.wa.box.c 6 rfl
 have x7 := HWq.out.wa.box.c 7 rfl
 have e2 := HWq.out.wa.box.free 2
 have e3 := HWq.out.wa.box.free 3
 have e4 := HWq.out.wa.box.free 4
 have e5 := HWq.out.wa.box.free 5
 have e6 := HWq.out.wa.box.free 6
 have e7 := HWq.out.wa.box.free 7
 unfold stV
 have HObq := hid (HOb2d.out.below hb2)
 have q9 := (And.intro (HWq.out.wa.box.c 2 rfl) (And.intro (HWq.out.wa.box.c 3 rfl) (And.intro (HWq.out.wa.box.c 4 rfl) (And.intro (HWq.out.wa.box.c 5 rfl) (And.intro (HWq.out.wa.box.c 6 rfl) (And.intro (HWq.out.wa.box.c 7 rfl) (HObq.out.c 5 rfl)))))))
 obtain ⟨W9, hW9⟩ : ∃ W9, sixW y2 wb (.slice A6 n6 c6) (.int .i64 (S6.no : Int)) (.int .i64 (S6.ops : Int)) (.int .i64 S6.fuse) (.int .i64 S6.fault) (.bool S6.down) = W9 := ⟨_, rfl⟩
 rw [hW9] at hp3
 have HW9 := hid hp3
 unfold sixW at hW9
 clear hst2 hst3 hw3 hp3 hb2 HDo
 refine hK.out _ _ q9 (fun hHeld => ?_)
 clear hK K
 refine tkB 9 ?_
 refine tkB 10 ?_
 refine laterAny_ready (rs := [11, 12]) (by kernel_rfl) (by simp) ?_
 refine AllReadyB.cons (o := ⟨some 97, _, _, _, _, _⟩) rfl (fun K hK => ?_) (AllReadyB.cons (o := ⟨some 98, _, _, _, _, _⟩) rfl (fun K hK => ?_) AllReadyB.nil)
 ·(rw [if_pos (by kernel_rfl)])
  go_simp
  refine hK.out _ _ q9 (fun hHeld => ?_)
  clear hK K
  refine rdB 12 fun K hK => ?_
  go_simp
  refine hK.out _ _ q9 (fun hHeld => ?_)
  clear hK K
  refine tkB 13 ?_
  refine psB 14 fun K hK => ?_
  go_simp
  refine hK.out _ _ ?_
  clear hK K
  refine laterAny_done (by kernel_rfl) ?_
  first | rw [hW9] | skip
  clear hW9 x0 x1 x2 x3 x4 x5 x6 x7 e2 e3 e4 e5 e6 e7
  go_wp2_with fail
  go_ret
  exact ⟨rfl, _, _, _, _, _, _, HW9.out⟩
 ·(rw [if_pos (by kernel_rfl)])
  go_simp
  refine hK.out _ _ q9 (fun hHeld => ?_)
  clear hK K
  refine tkB 13 ?_
  refine laterAny_ready (rs := [11, 14]) (by kernel_rfl) (by simp) ?_
  refine AllReadyB.cons (o := ⟨some 97, _, _, _, _, _⟩) rfl (fun K hK => ?_) (AllReadyB.past (o := ⟨none, _, _, _, _, _⟩) rfl (by kernel_rfl) (fun K hK => ?_) AllReadyB.nil)
  ·(rw [if_pos (by kernel_rfl)])
   go_simp
   refine hK.out _ _ q9 (fun hHeld => ?_)
   clear hK K
   refine psB 14 fun K hK => ?_
   go_simp
   refine hK.out _ _ ?_
   clear hK K
   refine laterAny_done (by kernel_rfl) ?_
   first | rw [hW9] | skip
   clear hW9 x0 x1 x2 x3 x4 x5 x6 x7 e2 e3 e4 e5 e6 e7
   go_wp2_with fail
   go_ret
   exact ⟨rfl, _, _, _, _, _, _, HW9.out⟩
  ·(rw [if_pos (by kernel_rfl)])
   go_simp
   refine hK.out _ _ ?_
   clear hK K
   refine psB 11 fun K hK => ?_
   go_simp
   refine hK.out _ _ ?_
   clear hK K
   refine laterAny_done (by kernel_rfl) ?_
   first | rw [hW9] | skip
   clear hW9 x0 x1 x2 x3 x4 x5 x6 x7 e2 e3 e4 e5 e6 e7
   go_wp2_with fail
   go_ret
   exact ⟨rfl, _, _, _, _, _, _, HW9.out⟩
set_option maxHeartbeats 8000000 in
theorem wstep5_calls (w0 W : World) (X Y : Nat → Prop) (wb b jb : Nat) (S : FS) (A : Option Addr) (n c : Nat) (h : WJ w0 W X Y wb b jb S S A n c) (x : OpH) (hx : OphIn w0 x) (m : Nat) (hA : S.At m) (hm : m + 5 * x.l.length + 30 ≤ 99000) (hbl : x.b.length ≤ 6000) (hkl : x.ks.length ≤ 6000) (hll : x.l.length ≤ 300) (ht : LaysR w0) (hk : x.k = 5) :
  Calls Tryz.prog 11 #[.pointer (some ⟨wb, 0, none⟩), .agg (ophC x).toArray] W fun e W' => e = .returned (.bool true) ∧ ∃ X2 Y2 jb2 A2 n2 c2, WJ w0 W' X2 Y2 wb b jb2 (doH S x).1 (doH S x).1 A2 n2 c2 := by
 obtain ⟨xk, ⟨xt, xd, xc⟩, xl, xi, xb, xks, LA, lc, BA, bc, KA, kc⟩ := x
 simp only at hk hm hbl hkl hll
 subst hk
 have hdo : doH S ⟨5, ⟨xt, xd, xc⟩, xl, xi, xb, xks, LA, lc, BA, bc, KA, kc⟩ = (S.fault_ xi, 0) := rfl
 rw [hdo]
 clear hdo
 have hbA : Below W.heap.size W (W.alloc (.cells (ophC ⟨5, ⟨xt, xd, xc⟩, xl, xi, xb, xks, LA, lc, BA, bc, KA, kc⟩).toArray 33)).drew := ((Below.refl _ W).alloc (Nat.le_refl _) (.cells (ophC ⟨5, ⟨xt, xd, xc⟩, xl, xi, xb, xks, LA, lc, BA, bc, KA, kc⟩).toArray 33)).drew
 have HW1 := hid (h.below hbA)
 have HOb := hid ((BxA.new W 33 (ophC ⟨5, ⟨xt, xd, xc⟩, xl, xi, xb, xks, LA, lc, BA, bc, KA, kc⟩)).below (Below.refl _ _).drew)
 have HXb : Hid (XN X W (W.alloc (.cells (ophC ⟨5, ⟨xt, xd, xc⟩, xl, xi, xb, xks, LA, lc, BA, bc, KA, kc⟩).toArray 33)).drew W.heap.size) := hid (XN.new (by show _ < (W.alloc _).heap.size; simp))
 have HIn := hid hx
 have HAt := hid hA
 have HFt := hid (hA.fit (by omega))
 have HT := hid ht
 have hsb : W.heap.size ≠ wb := fun e => by have := h.wa.lt; omega
 clear hbA h hx hA ht
 have HDa := hid (fun y D v hs => rdo10_calls y D v S ⟨6, ⟨#[]⟩, ⟨#[]⟩, [], xi, []⟩ none 0 none 0 hs HFt.out (by show (0 : Int) ≤ 6; decide) (by show (6 : Int) ≤ 8; decide) (fun hn => absurd hn (Nat.lt_irrefl 0)) (fun _ => rfl) (Nat.zero_le _) (fun hn => absurd hn (Nat.lt_irrefl 0)) (Nat.zero_le _))
 have HCa := hid (HW1.out.wa.fx.step (S2 := S.fault_ xi) (fun O D hh _ => ffault_calls _ O D b S hh HFt.out xi HIn.out.i1 HIn.out.i2))
 have hres : doF S ⟨6, ⟨#[]⟩, ⟨#[]⟩, [], xi, []⟩ = (S.fault_ xi, 0) := rfl
 simp only [hres] at HDa
 generalize S.fault_ xi = S6 at HCa HDa ⊢
 clear hres
 go_enter Tryz.func11, Tryz.ntmps11
 have KK0 := (And.intro (HW1.out.wa.box.c 0 rfl) (HOb.out.c 5 rfl))
 go_upto_region 18 with fail
 refine wp_region_held_drew (S := (fun w' => w'.cell? ⟨wb, 0, none⟩ = some (fp b) ∧ w'.cell? ⟨W.heap.size, 5, none⟩ = some (.int .i64 xi))) (by kernel_rfl) KK0 (fun hHeld => ?_)
 refine tkH 0 ?_
 refine tkH 1 ?_
 refine tkH 2 ?_
 refine tkH 3 ?_
 refine tkH 4 ?_
 refine tkH 5 ?_
 refine rdH 6 fun K hK => ?_
 go_simp
 refine HCa.out.mono ?_; rintro e y1 ⟨rfl, hf, ho⟩; have HW2 := hid (HW1.out.turn hf (fun _ h => h) (fun _ h => h) ho); have HOb2 := hid (HOb.out.keep ho (fun hn => hn HXb.out)); have KK1 := (And.intro (HW2.out.wa.box.c 0 rfl) (HOb2.out.c 5 rfl)); clear hf ho HCa
 refine hK.out _ _ KK1 (fun hHeld => ?_)
 clear hK K
 refine wpAnyH_done (by kernel_rfl) ?_ _
 have HW2d := hid (HW2.out.below (Below.refl _ y1).drew)
 have HOb2d := hid (HOb2.out.below (Below.refl _ y1).drew)
 clear KK0 KK1
 have KL0 := (And.intro (HW2d.out.wa.box.c 2 rfl) (And.intro (HW2d.out.wa.box.c 3 rfl) (And.intro (HW2d.out.wa.box.c 4 rfl) (And.intro (HW2d.out.wa.box.c 5 rfl) (And.intro (HW2d.out.wa.box.c 6 rfl) (And.intro (HW2d.out.wa.box.c 7 rfl) (HOb2d.out.c 5 rfl)))))))
 go_upto_region 19 with fail
 refine wp_region_later (S := (fun w' => w'.cell? ⟨wb, 2, none⟩ = some (.slice A n c) ∧ w'.cell? ⟨wb, 3, none⟩ = some (.int .i64 (S.no : Int)) ∧ w'.cell? ⟨wb, 4, none⟩ = some (.int .i64 (S.ops : Int)) ∧ w'.cell? ⟨wb, 5, none⟩ = some (.int .i64 S.fuse) ∧ w'.cell? ⟨wb, 6, none⟩ = some (.int .i64 S.fault) ∧ w'.cell? ⟨wb, 7, none⟩ = some (.bool S.down) ∧ w'.cell? ⟨W.heap.size, 5, none⟩ = some (.int .i64 xi))) 14 (by kernel_rfl) KL0 (fun hHeld => ?_)
 refine tkB 0 ?_
 refine tkB 1 ?_
 refine tkB 2 ?_
 refine tkB 3 ?_
 refine tkB 4 ?_
 refine tkB 5 ?_
 refine tkB 6 ?_
 refine tkB 7 ?_
 refine rdB 8 fun K hK => ?_
 go_simp
 have HDo := hid (HDa.out _ _ _ HW2d.out.wa.st)
 first | unfold stV at HDo | skip
 first | unfold opC at HDo | skip
 refine HDo.out.mono ?_
 rintro e y2 ⟨v2, rfl, hst2, hb2⟩
 obtain ⟨A6, n6, c6, rfl, hst3⟩ := stA_ext (HW2d.out.wa.doc hst2)
 have hw3 := HW2d.out.below hb2
 have hp3 := hw3.put hst3
 have HWq := hid hw3
 have x0 := HWq.out.wa.box.c 0 rfl
 have x1 := HWq.out.wa.box.c 1 rfl
 have x2 := HWq.out.wa.box.c 2 rfl
 have x3 := HWq.out.wa.box.c 3 rfl
 have x4 := HWq.out.wa.box.c 4 rfl
 have x5 := HWq.out.wa.box.c 5 rfl
 have x6 := HWq.out.wa.box.c 6 rfl
 have x7 := HWq.out.wa.box.c 7 rfl
 have e2 := HWq.out.wa.box.free 2
 have e3 := HWq.out.wa.box.free 3
 have e4 := HWq.out.wa.box.free 4
 have e5 := HWq.out.wa.box.free 5
 have e6 := HWq.out.wa.box.free 6
 have e7 := HWq.out.wa.box.free 7
 unfold stV
 have HObq := hid (HOb2d.out.below hb2)
 have q9 := (And.intro (HWq.out.wa.box.c 2 rfl) (And.intro (HWq.out.wa.box.c 3 rfl) (And.intro (HWq.out.wa.box.c 4 rfl) (And.intro (HWq.out.wa.box.c 5 rfl) (And.intro (HWq.out.wa.box.c 6 rfl) (And.intro (HWq.out.wa.box.c 7 rfl) (HObq.out.c 5 rfl)))))))
 obtain ⟨W9, hW9⟩ : ∃ W9, sixW y2 wb (.slice A6 n6 c6) (.int .i64 (S6.no : Int)) (.int .i64 (S6.ops : Int)) (.int .i64 S6.fuse) (.int .i64 S6.fault) (.bool S6.down) = W9 := ⟨_, rfl⟩
 rw [hW9] at hp3
 have HW9 := hid hp3
 unfold sixW at hW9
 clear hst2 hst3 hw3 hp3 hb2 HDo
 refine hK.out _ _ q9 (fun hHeld => ?_)
 clear hK K
 refine tkB 9 ?_
 refine tkB 10 ?_
 refine laterAny_ready (rs := [11, 12]) (by kernel_rfl) (by simp) ?_
 refine AllReadyB.cons (o := ⟨some 120, _, _, _, _, _⟩) rfl (fun K hK => ?_) (AllReadyB.cons (o := ⟨some 121, _, _, _, _, _⟩) rfl (fun K hK => ?_) AllReadyB.nil)
 ·(rw [if_pos (by kernel_rfl)])
  go_simp
  refine hK.out _ _ q9 (fun hHeld => ?_)
  clear hK K
  refine rdB 12 fun K hK => ?_
  go_simp
  refine hK.out _ _ q9 (fun hHeld => ?_)
  clear hK K
  refine tkB 13 ?_
  refine psB 14 fun K hK => ?_
  go_simp
  refine hK.out _ _ ?_
  clear hK K
  refine laterAny_done (by kernel_rfl) ?_
  first | rw [hW9] | skip
  clear hW9 x0 x1 x2 x3 x4 x5 x6 x7 e2 e3 e4 e5 e6 e7
  go_wp2_with fail
  go_ret
  exact ⟨rfl, _, _, _, _, _, _, HW9.out⟩
 ·(rw [if_pos (by kernel_rfl)])
  go_simp
  refine hK.out _ _ q9 (fun hHeld => ?_)
  clear hK K
  refine tkB 13 ?_
  refine laterAny_ready (rs := [11, 14]) (by kernel_rfl) (by simp) ?_
  refine AllReadyB.cons (o := ⟨some 120, _, _, _, _, _⟩) rfl (fun K hK => ?_) (AllReadyB.past (o := ⟨none, _, _, _, _, _⟩) rfl (by kernel_rfl) (fun K hK => ?_) AllReadyB.nil)
  ·(rw [if_pos (by kernel_rfl)])
   go_simp
   refine hK.out _ _ q9 (fun hHeld => ?_)
   clear hK K
   refine psB 14 fun K hK => ?_
   go_simp
   refine hK.out _ _ ?_
   clear hK K
   refine laterAny_done (by kernel_rfl) ?_
   first | rw [hW9] | skip
   clear hW9 x0 x1 x2 x3 x4 x5 x6 x7 e2 e3 e4 e5 e6 e7
   go_wp2_with fail
   go_ret
   exact ⟨rfl, _, _, _, _, _, _, HW9.out⟩
  ·(rw [if_pos (by kernel_rfl)])
   go_simp
   refine hK.out _ _ ?_
   clear hK K
   refine psB 11 fun K hK => ?_
   go_simp
   refine hK.out _ _ ?_
   clear hK K
   refine laterAny_done (by kernel_rfl) ?_
   first | rw [hW9] | skip
   clear hW9 x0 x1 x2 x3 x4 x5 x6 x7 e2 e3 e4 e5 e6 e7
   go_wp2_with fail
   go_ret
   exact ⟨rfl, _, _, _, _, _, _, HW9.out⟩
end
section
open Go Go.RowKit
theorem wstep12_calls (w0 W : World) (X Y : Nat → Prop) (wb b jb : Nat) (S : FS) (A : Option Addr) (n c : Nat) (h : WJ w0 W X Y wb b jb S S A n c) (x : OpH) (hx : OphIn w0 x) (m : Nat) (hA : S.At m) (hm : m + 5 * x.l.length + 30 ≤ 99000) (hbl : x.b.length ≤ 6000) (hkl : x.ks.length ≤ 6000) (hll : x.l.length ≤ 300) (ht : LaysR w0) :
  Calls Tryz.prog 11 #[.pointer (some ⟨wb, 0, none⟩), .agg (ophC x).toArray] W fun e W' => e = .returned (.bool true) ∧ ∃ X2 Y2 jb2 A2 n2 c2, WJ w0 W' X2 Y2 wb b jb2 (doH S x).1 (doH S x).1 A2 n2 c2 := by
 rcases (show x.k = 0 ∨ x.k = 1 ∨ x.k = 2 ∨ x.k = 3 ∨ x.k = 4 ∨ x.k = 5 ∨ x.k = 6 ∨ x.k = 7 ∨ x.k = 8 ∨ (x.k < 0 ∨ 8 < x.k) by omega) with hk | hk | hk | hk | hk | hk | hk | hk | hk | hk
 ·exact wstep0_calls w0 W X Y wb b jb S A n c h x hx m hA hm hbl hkl hll ht hk
 ·exact wstep1_calls w0 W X Y wb b jb S A n c h x hx m hA hm hbl hkl hll ht hk
 ·exact wstep2_calls w0 W X Y wb b jb S A n c h x hx m hA hm hbl hkl hll ht hk
 ·exact wstep3_calls w0 W X Y wb b jb S A n c h x hx m hA hm hbl hkl hll ht hk
 ·exact wstep4_calls w0 W X Y wb b jb S A n c h x hx m hA hm hbl hkl hll ht hk
 ·exact wstep5_calls w0 W X Y wb b jb S A n c h x hx m hA hm hbl hkl hll ht hk
 ·exact wstep6_calls w0 W X Y wb b jb S A n c h x hx m hA hm hbl hkl hll ht hk
 ·exact wstep7_calls w0 W X Y wb b jb S A n c h x hx m hA hm hbl hkl hll ht hk
 ·exact wstep8_calls w0 W X Y wb b jb S A n c h x hx m hA hm hbl hkl hll ht hk
 ·exact wstepn_calls w0 W X Y wb b jb S A n c h x hx m hA hm hbl hkl hll ht hk
end
section
open Go Go.RowKit
open Go.Lib (hid)
set_option maxRecDepth 100000
set_option maxHeartbeats 8000000 in
theorem wstands12_calls (w0 W : World) (X Y : Nat → Prop) (wb b jb : Nat) (S : FS) (A : Option Addr) (n c : Nat) (h : WJ w0 W X Y wb b jb S S A n c) (hS : S.Fit) (ht : LaysR w0) :
  Calls Tryz.prog 12 #[.pointer (some ⟨wb, 0, none⟩)] W fun e W' => e = .returned (.bool true) ∧ Below W.heap.size W W' := by
 have HFt := hid hS
 have HT := hid ht
 have HV0 := hid h
 have HFx : Hid (∀ y, (∃ O D, FileAt y O D b S) → ∀ nm, Calls Tryz.prog 38 #[fp b, .string nm] y fun e w' => ∃ u, e = .returned (.tuple #[u, .int .i64 (S.read nm).2]) ∧ w'.ownsRow y.heap.size 5 1 u (S.read nm).1.length (Lib.byteCells (S.read nm).1) ∧ Below y.heap.size y w') := hid (fun y hat nm => by
  obtain ⟨O, D, hh⟩ := hat
  exact fread_calls y O D b S hh hS nm)
 have HRx := hid (fun nm y D v hs => rread10_calls y D v S nm hs hS)
 clear h hS ht
 have HBe : Hid (Below W.heap.size W W) := hid (Below.refl _ _)
 go_enter Tryz.func12, Tryz.ntmps12
 go_wp2_with fail
 go_loopw [17] (fun v17 wr => ∃ (k : Nat) (X Y : Nat → Prop), k ≤ 2 ∧ v17 = .int .i64 (k : Int) ∧ Hid (WJ w0 wr X Y wb b jb S S A n c) ∧ Hid (BxA wr W.heap.size 9 [.string hN, .string (otJ hN)]) ∧ Hid (Below W.heap.size W wr)) (fun v17 _ => 2 - (intOf v17).toNat)
 case atStart =>
  have hb := (Below.refl _ W).alloc (Nat.le_refl _) (.cells #[.string hN, .string (otJ hN)] 9)
  exact ⟨0, _, _, Nat.zero_le _, rfl, hid (HV0.out.below hb), hid (BxA.new W 9 [.string hN, .string (otJ hN)]), hid hb⟩
 case round =>
  obtain ⟨k, X, Y, hk, rfl, HV, HBs, HBe⟩ := hrel
  rcases (show k = 0 ∨ k = 1 ∨ k = 2 by omega) with rfl | rfl | rfl
  ·have x0 := HV.out.wa.box.c 0 rfl
   have s0 := HBs.out.c 0 rfl
   have HFr := hid (HFx.out _ HV.out.wa.fx.at_ hN)
   have HRr := hid (HRx.out hN)
   have HLr := hid (read_len HFt.out.ok hN)
   clear HV0
   generalize S.read hN = rd at HFr HRr HLr
   obtain ⟨rl, rz⟩ := rd
   simp only at HFr HRr HLr
   have tz : (rz != rz) = false := bne_self_eq_false _
   go_wp2_with fail
   refine HFr.out.mono ?_
   rintro e w2 ⟨u2, rfl, hown2, hb2⟩
   obtain ⟨B2, d2, rfl⟩ := own_form hown2
   have HY2 := hid (byt_of_own hown2).1
   have HV2 := hid (HV.out.below hb2)
   have HBe2 := hid (HBe.out.trans (hb2.mono HBe.out.size))
   have HB2 := hid (HBs.out.below hb2)
   have HD2 := hid (HRr.out _ _ _ HV2.out.wa.st)
   unfold stV at HD2
   clear hown2 hb2 HFr x0 s0 HV HBs
   obtain ⟨x0, x1, x2, x3, x4, x5, x6, x7⟩ := HV2.out.wa.cells
   go_wp2_with fail
   refine HD2.out.mono ?_
   rintro e w3 ⟨u3, rfl, hown3, hb3⟩
   obtain ⟨B3, d3, rfl⟩ := own_form hown3
   have HV3 := hid (HV2.out.below hb3)
   have HBe3 := hid (HBe2.out.trans (hb3.mono HBe2.out.size))
   have HB3 := hid (HB2.out.below hb3)
   have HEq := hid (beq_calls B2 B3 d2 d3 rl rl w3 (HY2.out.below hb3) (byt_of_own hown3).1)
   rw [decide_eq_true rfl] at HEq
   clear hown3 hb3 HD2 HV2 HB2 HY2 HRr x0 x1 x2 x3 x4 x5 x6 x7
   go_wp2_with fail
   refine HEq.out.mono ?_
   rintro e w4 ⟨rfl, hb4⟩
   have HV4 := hid (HV3.out.below hb4)
   have HBe4 := hid (HBe3.out.trans (hb4.mono HBe3.out.size))
   have HB4 := hid (HB3.out.below hb4)
   clear hb4 HEq HV3 HB3
   go_wp2_with fail
   go_roundw
   case rel => exact ⟨0 + 1, _, _, by omega, by go_num, HV4, HB4, HBe4⟩
   case measure => simp [intOf]
  ·have x0 := HV.out.wa.box.c 0 rfl
   have s0 := HBs.out.c 1 rfl
   have HFr := hid (HFx.out _ HV.out.wa.fx.at_ (otJ hN))
   have HRr := hid (HRx.out (otJ hN))
   have HLr := hid (read_len HFt.out.ok (otJ hN))
   clear HV0
   generalize S.read (otJ hN) = rd at HFr HRr HLr
   obtain ⟨rl, rz⟩ := rd
   simp only at HFr HRr HLr
   have tz : (rz != rz) = false := bne_self_eq_false _
   go_wp2_with fail
   refine HFr.out.mono ?_
   rintro e w2 ⟨u2, rfl, hown2, hb2⟩
   obtain ⟨B2, d2, rfl⟩ := own_form hown2
   have HY2 := hid (byt_of_own hown2).1
   have HV2 := hid (HV.out.below hb2)
   have HBe2 := hid (HBe.out.trans (hb2.mono HBe.out.size))
   have HB2 := hid (HBs.out.below hb2)
   have HD2 := hid (HRr.out _ _ _ HV2.out.wa.st)
   unfold stV at HD2
   clear hown2 hb2 HFr x0 s0 HV HBs
   obtain ⟨x0, x1, x2, x3, x4, x5, x6, x7⟩ := HV2.out.wa.cells
   go_wp2_with fail
   refine HD2.out.mono ?_
   rintro e w3 ⟨u3, rfl, hown3, hb3⟩
   obtain ⟨B3, d3, rfl⟩ := own_form hown3
   have HV3 := hid (HV2.out.below hb3)
   have HBe3 := hid (HBe2.out.trans (hb3.mono HBe2.out.size))
   have HB3 := hid (HB2.out.below hb3)
   have HEq := hid (beq_calls B2 B3 d2 d3 rl rl w3 (HY2.out.below hb3) (byt_of_own hown3).1)
   rw [decide_eq_true rfl] at HEq
   clear hown3 hb3 HD2 HV2 HB2 HY2 HRr x0 x1 x2 x3 x4 x5 x6 x7
   go_wp2_with fail
   refine HEq.out.mono ?_
   rintro e w4 ⟨rfl, hb4⟩
   have HV4 := hid (HV3.out.below hb4)
   have HBe4 := hid (HBe3.out.trans (hb4.mono HBe3.out.size))
   have HB4 := hid (HB3.out.below hb4)
   clear hb4 HEq HV3 HB3
   go_wp2_with fail
   go_roundw
   case rel => exact ⟨1 + 1, _, _, by omega, by go_num, HV4, HB4, HBe4⟩
   case measure => simp [intOf]
  ·have x1 := HV.out.wa.box.c 1 rfl
   have HJr := hid (jread12_calls w0 wr X Y b S jb hN HV.out.j HFt.out HT.out)
   have HRd := hid (HRx.out hN)
   have HLr := hid (read_len HFt.out.ok hN)
   rw [← readC_is] at HJr
   simp only at HJr
   generalize S.read hN = rd at HJr HRd HLr
   obtain ⟨rl, rz⟩ := rd
   simp only at HJr HRd HLr
   have tq : (((if rz = 101 then (0 : Int) else rz) == 100) == (rz == 100)) = true := by
    by_cases h : rz = 101
    ·rw [h]; rfl
    ·rw [if_neg h]; simp
   obtain ⟨ez, hez⟩ : ∃ ez, ez = if rz = 101 then (0 : Int) else rz := ⟨_, rfl⟩
   rw [← hez] at HJr tq
   have HFew := hid (entries_few rl)
   have HRe := hid (fun y A c hb hc => rentries12_calls A c rl y hb hc (by have := HLr.out; omega))
   have HFew2 : Hid ((entriesJ rl).1.length ≤ 65536) := hid (by have := HLr.out; have := HFew.out; omega)
   generalize (entriesJ rl).1 = es at HJr HRe HFew2
   generalize (entriesJ rl).2 = good at HRe
   clear hez HFew HV0
   go_wp2_with fail
   refine HJr.out.mono ?_
   rintro e w2 ⟨A2, c2, rfl, hown2, hb2⟩
   have HR2 := hid (rowT_of_own (C := enC) (R := fun _ => True) hown2 (fun _ _ => trivial))
   have HV2 := hid (HV.out.below hb2)
   have HBe2 := hid (HBe.out.trans (hb2.mono HBe.out.size))
   have HD2 := hid (HRd.out _ _ _ HV2.out.wa.st)
   unfold stV at HD2
   clear hown2 hb2 HJr x1 HV HBs HRd
   obtain ⟨x0, x1, x2, x3, x4, x5, x6, x7⟩ := HV2.out.wa.cells
   go_wp2_with fail
   refine HD2.out.mono ?_
   rintro e w3 ⟨u3, rfl, hown3, hb3⟩
   obtain ⟨B3, d3, rfl⟩ := own_form hown3
   have HV3 := hid (HV2.out.below hb3)
   have HBe3 := hid (HBe2.out.trans (hb3.mono HBe2.out.size))
   have HR3 := hid (HR2.out.below hb3)
   have HE := hid (HRe.out w3 B3 d3 (byt_of_own hown3).1 (byt_of_own hown3).2.2.1)
   clear hown3 hb3 HD2 HV2 HR2 HRe x0 x1 x2 x3 x4 x5 x6 x7
   go_wp2_with fail
   refine HE.out.mono ?_
   rintro e w4 ⟨A4, c4, rfl, hown4, hb4⟩
   have hb5 := hb4.drew
   have HRm := hid ((rowT_of_own (C := enC) (R := fun _ => True) hown4 (fun _ _ => trivial)).below (Below.refl _ w4).drew)
   have HV10 := hid (HV3.out.below hb5)
   have HBf10 := hid (HBe3.out.trans (hb5.mono HBe3.out.size))
   have HOl := hid (old12_calls w4.drew _ A2 c2 es (HR3.out.below hb5) (by have := HFew2.out; omega))
   have HSm : Hid (∀ y A7 c7, RowT enC y (fun _ => True) A7 es → RowT enC y (fun _ => True) A4 es → Calls Tryz.prog 25 #[.slice A7 es.length c7, .slice A4 es.length c4] y fun x w' => x = .returned (.bool true) ∧ Below y.heap.size y w') := hid (fun y A7 c7 h1 h2 => by
    have h := rsame12_calls y _ _ A7 A4 c7 c4 es es h1 h2 (by have := HFew2.out; omega) (by have := HFew2.out; omega)
    rwa [decide_eq_true rfl] at h)
   have HFp : Hid (∀ y, (∃ O D, FileAt y O D b S) → Calls Tryz.prog 20 #[fp b] y fun e w' => e = .returned (.int .i64 (S.pend : Int)) ∧ Below y.heap.size y w') := hid (fun y hat => by
    obtain ⟨O, D, hh⟩ := hat
    exact fpending_calls y O D b S hh HFt.out)
   have HFo : Hid (∀ y, (∃ O D, FileAt y O D b S) → Calls Tryz.prog 17 #[fp b] y fun e w' => e = .returned (.int .i64 (S.ops : Int)) ∧ Below y.heap.size y w') := hid (fun y hat => by
    obtain ⟨O, D, hh⟩ := hat
    exact fops_calls y O D b S hh HFt.out)
   have HDp := hid (fun y D v hs => rpending10_calls y D v S hs (by have := HFt.out.ok.few; omega) (fun f hf => by have := HFt.out.rows f hf; omega))
   unfold stV at HDp
   clear hown4 hb4 hb5 HE HV3 HR3
   have KK10 := (And.intro (HV10.out.wa.box.c 0 rfl) (And.intro (HV10.out.wa.box.c 2 rfl) (And.intro (HV10.out.wa.box.c 3 rfl) (And.intro (HV10.out.wa.box.c 4 rfl) (And.intro (HV10.out.wa.box.c 5 rfl) (And.intro (HV10.out.wa.box.c 6 rfl) (HV10.out.wa.box.c 7 rfl)))))))
   go_upto_region 12 with fail
   refine wp_region_held_drew (S := (fun w' => w'.cell? ⟨wb, 0, none⟩ = some (fp b) ∧ w'.cell? ⟨wb, 2, none⟩ = some (.slice A n c) ∧ w'.cell? ⟨wb, 3, none⟩ = some (.int .i64 (S.no : Int)) ∧ w'.cell? ⟨wb, 4, none⟩ = some (.int .i64 (S.ops : Int)) ∧ w'.cell? ⟨wb, 5, none⟩ = some (.int .i64 S.fuse) ∧ w'.cell? ⟨wb, 6, none⟩ = some (.int .i64 S.fault) ∧ w'.cell? ⟨wb, 7, none⟩ = some (.bool S.down))) (by kernel_rfl) KK10 (fun hHeld => ?_)
   refine tkH 0 ?_
   refine tkH 1 ?_
   refine tkH 2 ?_
   refine tkH 3 ?_
   refine tkH 4 ?_
   refine tkH 5 ?_
   refine tkH 6 ?_
   refine tkH 8 ?_
   refine rdH 7 fun K hK => ?_
   go_simp
   refine (HOl.out).mono ?_; rintro e y11 ⟨A7, c7, rfl, hown, hb⟩; have HV11 := hid (HV10.out.below hb); have HBf11 := hid (HBf10.out.trans (hb.mono HBf10.out.size)); have KK11 := (And.intro (HV11.out.wa.box.c 0 rfl) (And.intro (HV11.out.wa.box.c 2 rfl) (And.intro (HV11.out.wa.box.c 3 rfl) (And.intro (HV11.out.wa.box.c 4 rfl) (And.intro (HV11.out.wa.box.c 5 rfl) (And.intro (HV11.out.wa.box.c 6 rfl) (HV11.out.wa.box.c 7 rfl))))))); have HR7 := hid (rowT_of_own (C := enC) (R := fun _ => True) hown (fun _ _ => trivial)); have HM7 := hid (HRm.out.below hb); clear hown; clear hb
   refine hK.out _ _ KK11 (fun hHeld => ?_)
   clear hK K
   refine rdH 9 fun K hK => ?_
   go_simp
   refine (HSm.out _ _ _ HR7.out HM7.out).mono ?_; rintro e y12 ⟨rfl, hb⟩; have HV12 := hid (HV11.out.below hb); have HBf12 := hid (HBf11.out.trans (hb.mono HBf11.out.size)); have KK12 := (And.intro (HV12.out.wa.box.c 0 rfl) (And.intro (HV12.out.wa.box.c 2 rfl) (And.intro (HV12.out.wa.box.c 3 rfl) (And.intro (HV12.out.wa.box.c 4 rfl) (And.intro (HV12.out.wa.box.c 5 rfl) (And.intro (HV12.out.wa.box.c 6 rfl) (HV12.out.wa.box.c 7 rfl))))))); skip; clear hb
   refine hK.out _ _ KK12 (fun hHeld => ?_)
   clear hK K
   refine tkH 10 ?_
   refine tkH 11 ?_
   refine tkH 12 ?_
   refine tkH 13 ?_
   refine tkH 14 ?_
   refine tkH 15 ?_
   refine tkH 17 ?_
   refine tkH 18 ?_
   refine tkH 19 ?_
   refine tkH 20 ?_
   refine rdH 16 fun K hK => ?_
   go_simp
   refine (HFp.out _ HV12.out.wa.fx.at_).mono ?_; rintro e y13 ⟨rfl, hb⟩; have HV13 := hid (HV12.out.below hb); have HBf13 := hid (HBf12.out.trans (hb.mono HBf12.out.size)); have KK13 := (And.intro (HV13.out.wa.box.c 0 rfl) (And.intro (HV13.out.wa.box.c 2 rfl) (And.intro (HV13.out.wa.box.c 3 rfl) (And.intro (HV13.out.wa.box.c 4 rfl) (And.intro (HV13.out.wa.box.c 5 rfl) (And.intro (HV13.out.wa.box.c 6 rfl) (HV13.out.wa.box.c 7 rfl))))))); skip; clear hb
   refine hK.out _ _ KK13 (fun hHeld => ?_)
   clear hK K
   refine rdH 21 fun K hK => ?_
   go_simp
   refine (HDp.out _ _ _ HV13.out.wa.st).mono ?_; rintro e y14 ⟨rfl, hb⟩; have HV14 := hid (HV13.out.below hb); have HBf14 := hid (HBf13.out.trans (hb.mono HBf13.out.size)); have KK14 := (And.intro (HV14.out.wa.box.c 0 rfl) (And.intro (HV14.out.wa.box.c 2 rfl) (And.intro (HV14.out.wa.box.c 3 rfl) (And.intro (HV14.out.wa.box.c 4 rfl) (And.intro (HV14.out.wa.box.c 5 rfl) (And.intro (HV14.out.wa.box.c 6 rfl) (HV14.out.wa.box.c 7 rfl))))))); skip; clear hb
   refine hK.out _ _ KK14 (fun hHeld => ?_)
   clear hK K
   refine tkH 22 ?_
   refine tkH 23 ?_
   refine tkH 24 ?_
   refine tkH 25 ?_
   refine tkH 26 ?_
   refine tkH 27 ?_
   refine tkH 28 ?_
   refine tkH 30 ?_
   refine tkH 31 ?_
   refine tkH 32 ?_
   refine tkH 33 ?_
   refine tkH 34 ?_
   refine rdH 29 fun K hK => ?_
   go_simp
   refine (HFo.out _ HV14.out.wa.fx.at_).mono ?_; rintro e y15 ⟨rfl, hb⟩; have HV15 := hid (HV14.out.below hb); have HBf15 := hid (HBf14.out.trans (hb.mono HBf14.out.size)); have KK15 := (And.intro (HV15.out.wa.box.c 0 rfl) (And.intro (HV15.out.wa.box.c 2 rfl) (And.intro (HV15.out.wa.box.c 3 rfl) (And.intro (HV15.out.wa.box.c 4 rfl) (And.intro (HV15.out.wa.box.c 5 rfl) (And.intro (HV15.out.wa.box.c 6 rfl) (HV15.out.wa.box.c 7 rfl))))))); skip; clear hb
   refine hK.out _ _ KK15 (fun hHeld => ?_)
   clear hK K
   refine tkH 35 ?_
   refine tkH 36 ?_
   refine tkH 37 ?_
   refine wpAnyH_done (by kernel_rfl) ?_ _
   go_wp2_with fail
   go_ret
   exact ⟨rfl, HBf15.out⟩
end
end Go.Proofs.YteafcaambnfdoaaGreatDoor
