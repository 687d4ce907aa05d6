/-
  Layer 7 and what it stands on, part 31 (RSwap RIns RCutT DocS SnocT DocW).
-/
import Derived.Test.YtoaponaljkhlfaaGreatDoorPz30
import Derived.BigRegion
import Derived.Deep.RegionHeld3
import Derived.OwnWalk
import Derived.Laws.StructEq
import Derived.Deep.Cut
namespace Go.Proofs.YtoaponaljkhlfaaGreatDoor
section
open Go Go.RowKit
open Go.Lib (hid)
set_option maxHeartbeats 4000000 in
theorem rswap_zero (l : List UInt8) (n : Int) (hl : l.length ≤ 137438953472) (w : World) (k : Nat) (hk : k ≤ (cutL (mS l)).length) (hak : mA l n = pos (cutL (mS l)) k) (hz : k = 0) :
  Calls Tryz.prog 60 #[.agg #[.string (bs l), .int .i64 n]] w fun e w' => e = .returned (.tuple #[.agg #[.string (bs (mS l)), .int .i64 (mA l n : Int)], .bool false]) ∧ Below w.heap.size w w' := by
 have HM := hid (fun W => rmake_calls l n hl W)
 have ha := mA_le l n
 have hms := mS_len l
 have hcl := cutL_length (mS l)
 have HC1 := hid (fun W => rcut_calls (mS l) W (by omega))
 have htk : cutL ((mS l).take (mA l n)) = (cutL (mS l)).take k := by
  have h1 := take_pos (cutL (mS l)) k
  rw [cutL_flatten] at h1
  rw [hak, h1, cut_takeK (mS_P l)]
 have HC2 := hid (fun W => rcut_rd ((mS l).take (mA l n)) (by have := take_len_le (mS l) (mA l n); omega) W)
 rw [htk, List.length_take, Nat.min_eq_left hk] at HC2
 have hx := bs_take (mS l) (mA l n)
 clear hak htk
 generalize cutL (mS l) = cs at *
 generalize (mS l).take (mA l n) = y at *
 generalize mA l n = a at *
 generalize mS l = m at *
 have hszm := bs_size m
 have hi0 : (0 : Int) ≤ (a : Int) := by omega
 have hi1 : (a : Int) ≤ (m.length : Int) := by omega
 have k0 : Below w.heap.size w ((w.alloc (.cells #[.string (bs l), .int .i64 n] 28)).alloc (.cells #[.string ⟨#[]⟩, .int .i64 0] 28)) := ((Below.refl _ w).alloc (Nat.le_refl _) _).alloc (by simp) _
 have b0 := (Bx.new w 28 (.string (bs l)) (.int .i64 n)).alloc (.cells #[.string ⟨#[]⟩, .int .i64 0] 28)
 have r0 := Bx.new (w.alloc (.cells #[.string (bs l), .int .i64 n] 28)) 28 (.string ⟨#[]⟩) (.int .i64 0)
 rw [World.size_alloc] at r0
 have c00 := b0.c0
 have c01 := b0.c1
 go_enter Tryz.func60, Tryz.ntmps60
 go_wp2_with fail
 refine (HM.out _).mono ?_
 rintro e w1 ⟨rfl, hb1⟩
 have k1 := k0.trans (hb1.mono k0.size)
 have b1 := b0.below hb1
 have r1 := r0.below hb1
 clear hb1 c00 c01 b0 r0 k0
 have c10 := b1.c0
 have c11 := b1.c1
 have f10 := b1.f0
 have f11 := b1.f1
 have b3 := (b1.set0 (.string (bs m))).set1 (.int .i64 (a : Int))
 have r3 := (r1.other (i := 0) (Nat.succ_ne_self _) (.string (bs m))).other (i := 1) (Nat.succ_ne_self _) (.int .i64 (a : Int))
 have k3 := (k1.setCell (p := ⟨w.heap.size, 0, none⟩) (Nat.le_refl _) (.string (bs m))).setCell (p := ⟨w.heap.size, 1, none⟩) (Nat.le_refl _) (.int .i64 (a : Int))
 have B3 := hid b3
 have R3 := hid r3
 have K3 := hid k3
 have hz3 := r3.lt
 clear b3 r3 k3 b1 r1 k1
 go_wp2_with fail
 refine (HC1.out _).mono ?_
 rintro e w4 ⟨v4, rfl, hown4, hb4⟩
 obtain ⟨A4, c4, rfl⟩ := own_form hown4
 have k4 := K3.out.trans (hb4.mono K3.out.size)
 have b4 := B3.out.below hb4
 have r4 := R3.out.below hb4
 have hown4' := own_less hown4 (show w.heap.size + 2 ≤ _ by have := hz3; omega)
 clear hb4 c10 c11 f10 f11 hown4 hz3
 have c40 := b4.c0
 have c41 := b4.c1
 have Hown4 := hid hown4'
 clear hown4'
 go_wp2_with fail
 refine (HC2.out _).mono ?_
 rintro e w5 ⟨A5, c5, rfl, _, hb5⟩
 have k5 := k4.trans (hb5.mono k4.size)
 have b5 := b4.below hb5
 have r5 := r4.below hb5
 have Hown5 := hid (own_below Hown4.out hb5)
 clear hb5 k4 b4 r4 c40 c41 Hown4
 have K5 := hid k5
 have R5 := hid r5
 have B5 := hid b5
 clear k5 r5 b5
 have hkz : ((k : Int) == 0) = true := by rw [beq_iff_eq]; omega
 clear hz
 have c50 := B5.out.c0
 have c51 := B5.out.c1
 have r50 := R5.out.c0
 have r51 := R5.out.c1
 have q50 := R5.out.f0
 have q51 := R5.out.f1
 go_wp2
 refine bodyPost_ret (results_bx2 rfl _ _ (w.heap.size + 1) (.string (bs m)) (.int .i64 (a : Int)) 28 rfl ((R5.out.set0 _).set1 _) Tryz.underlying28 (sizeRBuf _)) rfl ?_
 exact ⟨rfl, (K5.out.setCell (p := ⟨w.heap.size + 1, 0, none⟩) (Nat.le_succ _) _).setCell (p := ⟨w.heap.size + 1, 1, none⟩) (Nat.le_succ _) _⟩
set_option maxHeartbeats 4000000 in
theorem rswap_few (l : List UInt8) (n : Int) (hl : l.length ≤ 137438953472) (w : World) (k : Nat) (hk : k ≤ (cutL (mS l)).length) (hak : mA l n = pos (cutL (mS l)) k) (hz : ¬ k = 0) (h2 : (cutL (mS l)).length < 2) :
  Calls Tryz.prog 60 #[.agg #[.string (bs l), .int .i64 n]] w fun e w' => e = .returned (.tuple #[.agg #[.string (bs (mS l)), .int .i64 (mA l n : Int)], .bool false]) ∧ Below w.heap.size w w' := by
 have HM := hid (fun W => rmake_calls l n hl W)
 have ha := mA_le l n
 have hms := mS_len l
 have hcl := cutL_length (mS l)
 have HC1 := hid (fun W => rcut_calls (mS l) W (by omega))
 have htk : cutL ((mS l).take (mA l n)) = (cutL (mS l)).take k := by
  have h1 := take_pos (cutL (mS l)) k
  rw [cutL_flatten] at h1
  rw [hak, h1, cut_takeK (mS_P l)]
 have HC2 := hid (fun W => rcut_rd ((mS l).take (mA l n)) (by have := take_len_le (mS l) (mA l n); omega) W)
 rw [htk, List.length_take, Nat.min_eq_left hk] at HC2
 have hx := bs_take (mS l) (mA l n)
 clear hak htk
 generalize cutL (mS l) = cs at *
 generalize (mS l).take (mA l n) = y at *
 generalize mA l n = a at *
 generalize mS l = m at *
 have hszm := bs_size m
 have hi0 : (0 : Int) ≤ (a : Int) := by omega
 have hi1 : (a : Int) ≤ (m.length : Int) := by omega
 have k0 : Below w.heap.size w ((w.alloc (.cells #[.string (bs l), .int .i64 n] 28)).alloc (.cells #[.string ⟨#[]⟩, .int .i64 0] 28)) := ((Below.refl _ w).alloc (Nat.le_refl _) _).alloc (by simp) _
 have b0 := (Bx.new w 28 (.string (bs l)) (.int .i64 n)).alloc (.cells #[.string ⟨#[]⟩, .int .i64 0] 28)
 have r0 := Bx.new (w.alloc (.cells #[.string (bs l), .int .i64 n] 28)) 28 (.string ⟨#[]⟩) (.int .i64 0)
 rw [World.size_alloc] at r0
 have c00 := b0.c0
 have c01 := b0.c1
 go_enter Tryz.func60, Tryz.ntmps60
 go_wp2_with fail
 refine (HM.out _).mono ?_
 rintro e w1 ⟨rfl, hb1⟩
 have k1 := k0.trans (hb1.mono k0.size)
 have b1 := b0.below hb1
 have r1 := r0.below hb1
 clear hb1 c00 c01 b0 r0 k0
 have c10 := b1.c0
 have c11 := b1.c1
 have f10 := b1.f0
 have f11 := b1.f1
 have b3 := (b1.set0 (.string (bs m))).set1 (.int .i64 (a : Int))
 have r3 := (r1.other (i := 0) (Nat.succ_ne_self _) (.string (bs m))).other (i := 1) (Nat.succ_ne_self _) (.int .i64 (a : Int))
 have k3 := (k1.setCell (p := ⟨w.heap.size, 0, none⟩) (Nat.le_refl _) (.string (bs m))).setCell (p := ⟨w.heap.size, 1, none⟩) (Nat.le_refl _) (.int .i64 (a : Int))
 have B3 := hid b3
 have R3 := hid r3
 have K3 := hid k3
 have hz3 := r3.lt
 clear b3 r3 k3 b1 r1 k1
 go_wp2_with fail
 refine (HC1.out _).mono ?_
 rintro e w4 ⟨v4, rfl, hown4, hb4⟩
 obtain ⟨A4, c4, rfl⟩ := own_form hown4
 have k4 := K3.out.trans (hb4.mono K3.out.size)
 have b4 := B3.out.below hb4
 have r4 := R3.out.below hb4
 have hown4' := own_less hown4 (show w.heap.size + 2 ≤ _ by have := hz3; omega)
 clear hb4 c10 c11 f10 f11 hown4 hz3
 have c40 := b4.c0
 have c41 := b4.c1
 have Hown4 := hid hown4'
 clear hown4'
 go_wp2_with fail
 refine (HC2.out _).mono ?_
 rintro e w5 ⟨A5, c5, rfl, _, hb5⟩
 have k5 := k4.trans (hb5.mono k4.size)
 have b5 := b4.below hb5
 have r5 := r4.below hb5
 have Hown5 := hid (own_below Hown4.out hb5)
 clear hb5 k4 b4 r4 c40 c41 Hown4
 have K5 := hid k5
 have R5 := hid r5
 have B5 := hid b5
 clear k5 r5 b5
 have hkz : ((k : Int) == 0) = false := beq_eq_false_iff_ne.2 (by omega)
 have hd2 : decide ((cs.length : Int) < 2) = true := decide_eq_true (by omega)
 clear hz
 have c50 := B5.out.c0
 have c51 := B5.out.c1
 have r50 := R5.out.c0
 have r51 := R5.out.c1
 have q50 := R5.out.f0
 have q51 := R5.out.f1
 go_wp2
 refine bodyPost_ret (results_bx2 rfl _ _ (w.heap.size + 1) (.string (bs m)) (.int .i64 (a : Int)) 28 rfl ((R5.out.set0 _).set1 _) Tryz.underlying28 (sizeRBuf _)) rfl ?_
 exact ⟨rfl, (K5.out.setCell (p := ⟨w.heap.size + 1, 0, none⟩) (Nat.le_succ _) _).setCell (p := ⟨w.heap.size + 1, 1, none⟩) (Nat.le_succ _) _⟩
set_option maxHeartbeats 4000000 in
theorem rswap_n (l : List UInt8) (n : Int) (hl : l.length ≤ 137438953472) (w : World) (k : Nat) (hk : k ≤ (cutL (mS l)).length) (hak : mA l n = pos (cutL (mS l)) k) (i : Nat) (hi : i + 1 < (cutL (mS l)).length) (hki : k = i + 1) :
  Calls Tryz.prog 60 #[.agg #[.string (bs l), .int .i64 n]] w fun e w' => e = .returned (.tuple #[.agg #[.string (bs (swL (cutL (mS l)) (i + 1)).flatten), .int .i64 (onL (swL (cutL (mS l)) (i + 1)).flatten ((((swL (cutL (mS l)) (i + 1)).take (i + 1 + 1)).flatten.length : Nat) : Int) : Int)], .bool true]) ∧ Below w.heap.size w w' := by
 have HM := hid (fun W => rmake_calls l n hl W)
 have ha := mA_le l n
 have hms := mS_len l
 have hcl := cutL_length (mS l)
 have HC1 := hid (fun W => rcut_calls (mS l) W (by omega))
 have htk : cutL ((mS l).take (mA l n)) = (cutL (mS l)).take k := by
  have h1 := take_pos (cutL (mS l)) k
  rw [cutL_flatten] at h1
  rw [hak, h1, cut_takeK (mS_P l)]
 have HC2 := hid (fun W => rcut_rd ((mS l).take (mA l n)) (by have := take_len_le (mS l) (mA l n); omega) W)
 rw [htk, List.length_take, Nat.min_eq_left hk] at HC2
 have hx := bs_take (mS l) (mA l n)
 have hfl : (swL (cutL (mS l)) (i + 1)).flatten.length = (mS l).length := by
  rw [swL_flatten _ (i + 1) (by omega) hi, Nat.add_sub_cancel]
  have e := congrArg List.length (cutL_flatten (mS l))
  have p0 : (mS l).length = pos (cutL (mS l)) (i + 1 + 1) + ((cutL (mS l)).drop (i + 1 + 1)).flatten.length := by
   rw [← e]
   conv => lhs; rw [pos_split (cutL (mS l)) (i + 1 + 1), List.length_append]
   rfl
  have p1 := pos_succ (cutL (mS l)) (i + 1) hi
  have p2 := pos_succ (cutL (mS l)) i (by omega)
  rw [List.flatten_append, List.flatten_append, List.length_append, List.length_append, p0, p1, p2]
  simp [pos]
  omega
 have HO := hid (fun W => ron_calls (swL (cutL (mS l)) (i + 1)).flatten ((((swL (cutL (mS l)) (i + 1)).take (i + 1 + 1)).flatten.length : Nat) : Int) (by omega) W)
 have hsl : (swL (cutL (mS l)) (i + 1)).length = (cutL (mS l)).length := by simp [swL]
 have hTfl := hfl
 clear hak htk
 generalize cutL (mS l) = cs at *
 generalize (mS l).take (mA l n) = y at *
 generalize mA l n = a at *
 generalize mS l = m at *
 have Hsw : Hid (((cellsS (cs.map bs)).set i (.string (bs (cs.getD (i + 1) [])))).set (i + 1) (.string (bs (cs.getD i []))) = cellsS ((swL cs (i + 1)).map bs)) := hid (by simp [cellsS, swL, List.map_set])
 generalize swL cs (i + 1) = T at *
 have hTq : ∀ q, (T.take q).flatten.length ≤ m.length := fun q => by have := pos_le T q; unfold pos at this; omega
 have HTq := hid hTq
 have Hen : Hid (∃ en, en = (T.take (i + 1 + 1)).flatten.length) := hid ⟨_, rfl⟩
 obtain ⟨en, hen⟩ := Hen.out
 rw [← hen] at HO ⊢
 have HEn := hid hen
 have hen2 := hTq (i + 1 + 1)
 rw [← hen] at hen2
 clear Hen hen hTq
 have HZ : Hid (∃ z, z = T.flatten) := hid ⟨_, rfl⟩
 obtain ⟨z, hz⟩ := HZ.out
 rw [← hz] at HO hfl ⊢
 have HZe := hid hz
 clear HZ hz
 generalize onL z (en : Int) = x at *
 have hszm := bs_size m
 have hi0 : (0 : Int) ≤ (a : Int) := by omega
 have hi1 : (a : Int) ≤ (m.length : Int) := by omega
 have k0 : Below w.heap.size w ((w.alloc (.cells #[.string (bs l), .int .i64 n] 28)).alloc (.cells #[.string ⟨#[]⟩, .int .i64 0] 28)) := ((Below.refl _ w).alloc (Nat.le_refl _) _).alloc (by simp) _
 have b0 := (Bx.new w 28 (.string (bs l)) (.int .i64 n)).alloc (.cells #[.string ⟨#[]⟩, .int .i64 0] 28)
 have r0 := Bx.new (w.alloc (.cells #[.string (bs l), .int .i64 n] 28)) 28 (.string ⟨#[]⟩) (.int .i64 0)
 rw [World.size_alloc] at r0
 have c00 := b0.c0
 have c01 := b0.c1
 go_enter Tryz.func60, Tryz.ntmps60
 go_wp2_with fail
 refine (HM.out _).mono ?_
 rintro e w1 ⟨rfl, hb1⟩
 have k1 := k0.trans (hb1.mono k0.size)
 have b1 := b0.below hb1
 have r1 := r0.below hb1
 clear hb1 c00 c01 b0 r0 k0
 have c10 := b1.c0
 have c11 := b1.c1
 have f10 := b1.f0
 have f11 := b1.f1
 have b3 := (b1.set0 (.string (bs m))).set1 (.int .i64 (a : Int))
 have r3 := (r1.other (i := 0) (Nat.succ_ne_self _) (.string (bs m))).other (i := 1) (Nat.succ_ne_self _) (.int .i64 (a : Int))
 have k3 := (k1.setCell (p := ⟨w.heap.size, 0, none⟩) (Nat.le_refl _) (.string (bs m))).setCell (p := ⟨w.heap.size, 1, none⟩) (Nat.le_refl _) (.int .i64 (a : Int))
 have B3 := hid b3
 have R3 := hid r3
 have K3 := hid k3
 have hz3 := r3.lt
 clear b3 r3 k3 b1 r1 k1
 go_wp2_with fail
 refine (HC1.out _).mono ?_
 rintro e w4 ⟨v4, rfl, hown4, hb4⟩
 obtain ⟨A4, c4, rfl⟩ := own_form hown4
 have k4 := K3.out.trans (hb4.mono K3.out.size)
 have b4 := B3.out.below hb4
 have r4 := R3.out.below hb4
 have hown4' := own_less hown4 (show w.heap.size + 2 ≤ _ by have := hz3; omega)
 clear hb4 c10 c11 f10 f11 hown4 hz3
 have c40 := b4.c0
 have c41 := b4.c1
 have Hown4 := hid hown4'
 clear hown4'
 go_wp2_with fail
 refine (HC2.out _).mono ?_
 rintro e w5 ⟨A5, c5, rfl, _, hb5⟩
 have k5 := k4.trans (hb5.mono k4.size)
 have b5 := b4.below hb5
 have r5 := r4.below hb5
 have Hown5 := hid (own_below Hown4.out hb5)
 clear hb5 k4 b4 r4 c40 c41 Hown4
 have K5 := hid k5
 have R5 := hid r5
 have B5 := hid b5
 clear k5 r5 b5
 have c50 := B5.out.c0
 have c51 := B5.out.c1
 subst hki
 have hkz : (((i : Int) + 1) == 0) = false := beq_eq_false_iff_ne.2 (by omega)
 have hd2 : decide ((cs.length : Int) < 2) = false := decide_eq_false (by omega)
 have hke : (((i : Int) + 1) == (cs.length : Int)) = false := beq_eq_false_iff_ne.2 (by omega)
 obtain ⟨g, cap, hv, hg⟩ : ∃ g cap, Value.slice A4 cs.length c4 = .slice (some ⟨g, 0, none⟩) cs.length cap ∧ w.heap.size + 2 ≤ g := by
  rcases Hown5.out.2 with ⟨_, h0⟩ | ⟨g, cap, cur, hv, hb, _⟩
  ·omega
  ·exact ⟨g, cap, hv, hb⟩
 injection hv with hv1 hv2 hv3
 subst hv1; subst hv3
 obtain ⟨ci, fi⟩ := own_cell Hown5.out (i := i) (u := .string (bs (cs.getD i []))) (by simp [cellsS, List.getD, show i < cs.length by omega])
 obtain ⟨cj, fj⟩ := own_cell Hown5.out (i := i + 1) (u := .string (bs (cs.getD (i + 1) []))) (by simp [cellsS, List.getD, hi])
 have Hset := hid (own_set (own_set Hown5.out i (.string (bs (cs.getD (i + 1) [])))) (i + 1) (.string (bs (cs.getD i []))))
 have hi2 : (i : Int) < (cs.length : Int) := by omega
 have hi3 : (i : Int) + 1 < (cs.length : Int) := by omega
 have hi4 : (0 : Int) ≤ (i : Int) + 1 := by omega
 have hw1 : IntKind.i64.wrap ((i : Int) + 1 - 1) = (i : Int) := by rw [show (i : Int) + 1 - 1 = (i : Int) by omega]; exact IntWalk.i64_in _ (by omega)
 rw [Hsw.out] at Hset
 clear Hsw Hown5
 generalize cs.getD i [] = d0 at *
 generalize cs.getD (i + 1) [] = d1 at *
 have K6a := hid (((K5.out.setCell (p := ⟨g, i, none⟩) (show w.heap.size ≤ g by omega) (.string (bs d1))).setCell (p := ⟨g, i + 1, none⟩) (show w.heap.size ≤ g by omega) (.string (bs d0))).drew)
 have R6a := hid (((R5.out.other (i := i) (show w.heap.size + 1 ≠ g by omega) (.string (bs d1))).other (i := i + 1) (show w.heap.size + 1 ≠ g by omega) (.string (bs d0))).drew)
 have O6 := hid Hset.out.drew
 clear K5 R5 B5 Hset
 go_wp2_with fail
 go_region
 generalize ((w5.setCell ⟨g, i, none⟩ (.string (bs d1))).setCell ⟨g, i + 1, none⟩ (.string (bs d0))).drew = W6 at *
 clear ci fi cj fj c50 c51
 go_wp2_with fail
 go_loopw [6, 7, 8] (fun v6 v7 v8 wr => ∃ q : Nat, q ≤ cs.length ∧ v6 = .string (bs (T.take q).flatten) ∧ v7 = .int .i64 (((if i + 1 < q then en else 0 : Nat)) : Int) ∧ v8 = .int .i64 (q : Int) ∧ wr = W6) (fun _ _ v8 _ => cs.length - (intOf v8).toNat)
 case atStart => exact ⟨0, Nat.zero_le _, rfl, by rw [if_neg (by omega)]; rfl, rfl, rfl⟩
 case round =>
  obtain ⟨q, hq, rfl, rfl, rfl, rfl⟩ := hrel
  by_cases hlt : q < cs.length
  ·have cq := (own_cell O6.out (i := q) (u := .string (bs (T.getD q []))) (by simp [cellsS, List.getD, show q < T.length by omega])).1
   have hTn : Hid ((T.take (q + 1)).flatten = (T.take q).flatten ++ T.getD q []) := hid (by
    rw [List.take_succ_eq_append_getElem (show q < T.length by omega), List.flatten_append]
    simp [List.getD, show q < T.length by omega])
   have hlen := HTq.out (q + 1)
   rw [hTn.out, List.length_append] at hlen
   have Hend : Hid (q = i + 1 → en = ((T.take q).flatten ++ T.getD q []).length) := hid fun h => by rw [← hTn.out, HEn.out, h]
   have hap := add_bs Tryz.prog (T.take q).flatten (T.getD q []) (by omega)
   have hszq := bs_size ((T.take q).flatten ++ T.getD q [])
   generalize hsq : (T.take q).flatten = sq at *
   generalize T.getD q [] = tq at *
   generalize hsn : sq ++ tq = sn at *
   have hql : (q : Int) < (cs.length : Int) := by omega
   clear hsq hsn hlen
   by_cases hqi : q = i + 1
   ·have hce : ((q : Int) == (i : Int) + 1) = true := by rw [beq_iff_eq]; omega
    have He := hid (Hend.out hqi)
    have Hqi := hid hqi
    clear hqi Hend
    go_wp2
    go_roundw
    case rel => exact ⟨q + 1, by omega, by rw [hTn.out], by rw [if_pos (by have := Hqi.out; omega), He.out], by go_num, trivial⟩
    case measure => simp [intOf]; omega
   ·have hce : ((q : Int) == (i : Int) + 1) = false := beq_eq_false_iff_ne.2 (by omega)
    have Hqi := hid hqi
    clear hqi Hend
    go_wp2
    go_roundw
    case rel =>
     refine ⟨q + 1, by omega, by rw [hTn.out], ?_, by go_num, trivial⟩
     have := Hqi.out
     by_cases h : i + 1 < q
     ·rw [if_pos h, if_pos (by omega)]
     ·rw [if_neg h, if_neg (by omega)]
    case measure => simp [intOf]; omega
  ·have hqe : T.take q = T := List.take_of_length_le (by omega)
   rw [hqe, ← HZe.out, if_pos (show i + 1 < q by omega)]
   have hd : decide ((q : Int) < (cs.length : Int)) = false := decide_eq_false (by omega)
   clear hqe
   go_wp2_with fail
   refine (HO.out _).mono ?_
   rintro e w9 ⟨rfl, hb9⟩
   have k9 := K6a.out.trans (hb9.mono K6a.out.size)
   have r9 := R6a.out.below hb9
   have c90 := r9.c0
   have c91 := r9.c1
   have f90 := r9.f0
   have f91 := r9.f1
   have K9 := hid k9
   have R9 := hid r9
   clear hb9 r9 k9
   go_wp2
   refine bodyPost_ret (results_bx2 rfl _ _ (w.heap.size + 1) (.string (bs z)) (.int .i64 (x : Int)) 28 rfl ((R9.out.set0 _).set1 _) Tryz.underlying28 (sizeRBuf _)) rfl ?_
   exact ⟨rfl, (K9.out.setCell (p := ⟨w.heap.size + 1, 0, none⟩) (Nat.le_succ _) _).setCell (p := ⟨w.heap.size + 1, 1, none⟩) (Nat.le_succ _) _⟩
set_option maxHeartbeats 4000000 in
theorem rswap_e (l : List UInt8) (n : Int) (hl : l.length ≤ 137438953472) (w : World) (k : Nat) (hk : k ≤ (cutL (mS l)).length) (hak : mA l n = pos (cutL (mS l)) k) (i : Nat) (hi : i + 1 < (cutL (mS l)).length) (hki : k = i + 2) (hke2 : k = (cutL (mS l)).length) :
  Calls Tryz.prog 60 #[.agg #[.string (bs l), .int .i64 n]] w fun e w' => e = .returned (.tuple #[.agg #[.string (bs (swL (cutL (mS l)) (i + 1)).flatten), .int .i64 (onL (swL (cutL (mS l)) (i + 1)).flatten ((((swL (cutL (mS l)) (i + 1)).take (i + 1 + 1)).flatten.length : Nat) : Int) : Int)], .bool true]) ∧ Below w.heap.size w w' := by
 have HM := hid (fun W => rmake_calls l n hl W)
 have ha := mA_le l n
 have hms := mS_len l
 have hcl := cutL_length (mS l)
 have HC1 := hid (fun W => rcut_calls (mS l) W (by omega))
 have htk : cutL ((mS l).take (mA l n)) = (cutL (mS l)).take k := by
  have h1 := take_pos (cutL (mS l)) k
  rw [cutL_flatten] at h1
  rw [hak, h1, cut_takeK (mS_P l)]
 have HC2 := hid (fun W => rcut_rd ((mS l).take (mA l n)) (by have := take_len_le (mS l) (mA l n); omega) W)
 rw [htk, List.length_take, Nat.min_eq_left hk] at HC2
 have hx := bs_take (mS l) (mA l n)
 have hfl : (swL (cutL (mS l)) (i + 1)).flatten.length = (mS l).length := by
  rw [swL_flatten _ (i + 1) (by omega) hi, Nat.add_sub_cancel]
  have e := congrArg List.length (cutL_flatten (mS l))
  have p0 : (mS l).length = pos (cutL (mS l)) (i + 1 + 1) + ((cutL (mS l)).drop (i + 1 + 1)).flatten.length := by
   rw [← e]
   conv => lhs; rw [pos_split (cutL (mS l)) (i + 1 + 1), List.length_append]
   rfl
  have p1 := pos_succ (cutL (mS l)) (i + 1) hi
  have p2 := pos_succ (cutL (mS l)) i (by omega)
  rw [List.flatten_append, List.flatten_append, List.length_append, List.length_append, p0, p1, p2]
  simp [pos]
  omega
 have HO := hid (fun W => ron_calls (swL (cutL (mS l)) (i + 1)).flatten ((((swL (cutL (mS l)) (i + 1)).take (i + 1 + 1)).flatten.length : Nat) : Int) (by omega) W)
 have hsl : (swL (cutL (mS l)) (i + 1)).length = (cutL (mS l)).length := by simp [swL]
 have hTfl := hfl
 clear hak htk
 generalize cutL (mS l) = cs at *
 generalize (mS l).take (mA l n) = y at *
 generalize mA l n = a at *
 generalize mS l = m at *
 have Hsw : Hid (((cellsS (cs.map bs)).set i (.string (bs (cs.getD (i + 1) [])))).set (i + 1) (.string (bs (cs.getD i []))) = cellsS ((swL cs (i + 1)).map bs)) := hid (by simp [cellsS, swL, List.map_set])
 generalize swL cs (i + 1) = T at *
 have hTq : ∀ q, (T.take q).flatten.length ≤ m.length := fun q => by have := pos_le T q; unfold pos at this; omega
 have HTq := hid hTq
 have Hen : Hid (∃ en, en = (T.take (i + 1 + 1)).flatten.length) := hid ⟨_, rfl⟩
 obtain ⟨en, hen⟩ := Hen.out
 rw [← hen] at HO ⊢
 have HEn := hid hen
 have hen2 := hTq (i + 1 + 1)
 rw [← hen] at hen2
 clear Hen hen hTq
 have HZ : Hid (∃ z, z = T.flatten) := hid ⟨_, rfl⟩
 obtain ⟨z, hz⟩ := HZ.out
 rw [← hz] at HO hfl ⊢
 have HZe := hid hz
 clear HZ hz
 generalize onL z (en : Int) = x at *
 have hszm := bs_size m
 have hi0 : (0 : Int) ≤ (a : Int) := by omega
 have hi1 : (a : Int) ≤ (m.length : Int) := by omega
 have k0 : Below w.heap.size w ((w.alloc (.cells #[.string (bs l), .int .i64 n] 28)).alloc (.cells #[.string ⟨#[]⟩, .int .i64 0] 28)) := ((Below.refl _ w).alloc (Nat.le_refl _) _).alloc (by simp) _
 have b0 := (Bx.new w 28 (.string (bs l)) (.int .i64 n)).alloc (.cells #[.string ⟨#[]⟩, .int .i64 0] 28)
 have r0 := Bx.new (w.alloc (.cells #[.string (bs l), .int .i64 n] 28)) 28 (.string ⟨#[]⟩) (.int .i64 0)
 rw [World.size_alloc] at r0
 have c00 := b0.c0
 have c01 := b0.c1
 go_enter Tryz.func60, Tryz.ntmps60
 go_wp2_with fail
 refine (HM.out _).mono ?_
 rintro e w1 ⟨rfl, hb1⟩
 have k1 := k0.trans (hb1.mono k0.size)
 have b1 := b0.below hb1
 have r1 := r0.below hb1
 clear hb1 c00 c01 b0 r0 k0
 have c10 := b1.c0
 have c11 := b1.c1
 have f10 := b1.f0
 have f11 := b1.f1
 have b3 := (b1.set0 (.string (bs m))).set1 (.int .i64 (a : Int))
 have r3 := (r1.other (i := 0) (Nat.succ_ne_self _) (.string (bs m))).other (i := 1) (Nat.succ_ne_self _) (.int .i64 (a : Int))
 have k3 := (k1.setCell (p := ⟨w.heap.size, 0, none⟩) (Nat.le_refl _) (.string (bs m))).setCell (p := ⟨w.heap.size, 1, none⟩) (Nat.le_refl _) (.int .i64 (a : Int))
 have B3 := hid b3
 have R3 := hid r3
 have K3 := hid k3
 have hz3 := r3.lt
 clear b3 r3 k3 b1 r1 k1
 go_wp2_with fail
 refine (HC1.out _).mono ?_
 rintro e w4 ⟨v4, rfl, hown4, hb4⟩
 obtain ⟨A4, c4, rfl⟩ := own_form hown4
 have k4 := K3.out.trans (hb4.mono K3.out.size)
 have b4 := B3.out.below hb4
 have r4 := R3.out.below hb4
 have hown4' := own_less hown4 (show w.heap.size + 2 ≤ _ by have := hz3; omega)
 clear hb4 c10 c11 f10 f11 hown4 hz3
 have c40 := b4.c0
 have c41 := b4.c1
 have Hown4 := hid hown4'
 clear hown4'
 go_wp2_with fail
 refine (HC2.out _).mono ?_
 rintro e w5 ⟨A5, c5, rfl, _, hb5⟩
 have k5 := k4.trans (hb5.mono k4.size)
 have b5 := b4.below hb5
 have r5 := r4.below hb5
 have Hown5 := hid (own_below Hown4.out hb5)
 clear hb5 k4 b4 r4 c40 c41 Hown4
 have K5 := hid k5
 have R5 := hid r5
 have B5 := hid b5
 clear k5 r5 b5
 have c50 := B5.out.c0
 have c51 := B5.out.c1
 subst hki
 have hw0 : IntKind.i64.wrap ((i : Int) + 2 - 1) = (i : Int) + 1 := by rw [show (i : Int) + 2 - 1 = (i : Int) + 1 by omega]; exact IntWalk.i64_in _ (by omega)
 have hkz : (((i : Int) + 2) == 0) = false := beq_eq_false_iff_ne.2 (by omega)
 have hd2 : decide ((cs.length : Int) < 2) = false := decide_eq_false (by omega)
 have hke : (((i : Int) + 2) == (cs.length : Int)) = true := by rw [beq_iff_eq]; omega
 clear hke2
 obtain ⟨g, cap, hv, hg⟩ : ∃ g cap, Value.slice A4 cs.length c4 = .slice (some ⟨g, 0, none⟩) cs.length cap ∧ w.heap.size + 2 ≤ g := by
  rcases Hown5.out.2 with ⟨_, h0⟩ | ⟨g, cap, cur, hv, hb, _⟩
  ·omega
  ·exact ⟨g, cap, hv, hb⟩
 injection hv with hv1 hv2 hv3
 subst hv1; subst hv3
 obtain ⟨ci, fi⟩ := own_cell Hown5.out (i := i) (u := .string (bs (cs.getD i []))) (by simp [cellsS, List.getD, show i < cs.length by omega])
 obtain ⟨cj, fj⟩ := own_cell Hown5.out (i := i + 1) (u := .string (bs (cs.getD (i + 1) []))) (by simp [cellsS, List.getD, hi])
 have Hset := hid (own_set (own_set Hown5.out i (.string (bs (cs.getD (i + 1) [])))) (i + 1) (.string (bs (cs.getD i []))))
 have hi2 : (i : Int) < (cs.length : Int) := by omega
 have hi3 : (i : Int) + 1 < (cs.length : Int) := by omega
 have hi4 : (0 : Int) ≤ (i : Int) + 1 := by omega
 have hw1 : IntKind.i64.wrap ((i : Int) + 1 - 1) = (i : Int) := by rw [show (i : Int) + 1 - 1 = (i : Int) by omega]; exact IntWalk.i64_in _ (by omega)
 rw [Hsw.out] at Hset
 clear Hsw Hown5
 generalize cs.getD i [] = d0 at *
 generalize cs.getD (i + 1) [] = d1 at *
 have K6a := hid (((K5.out.setCell (p := ⟨g, i, none⟩) (show w.heap.size ≤ g by omega) (.string (bs d1))).setCell (p := ⟨g, i + 1, none⟩) (show w.heap.size ≤ g by omega) (.string (bs d0))).drew)
 have R6a := hid (((R5.out.other (i := i) (show w.heap.size + 1 ≠ g by omega) (.string (bs d1))).other (i := i + 1) (show w.heap.size + 1 ≠ g by omega) (.string (bs d0))).drew)
 have O6 := hid Hset.out.drew
 clear K5 R5 B5 Hset
 go_wp2_with fail
 go_region
 generalize ((w5.setCell ⟨g, i, none⟩ (.string (bs d1))).setCell ⟨g, i + 1, none⟩ (.string (bs d0))).drew = W6 at *
 clear ci fi cj fj c50 c51
 go_wp2_with fail
 go_loopw [6, 7, 8] (fun v6 v7 v8 wr => ∃ q : Nat, q ≤ cs.length ∧ v6 = .string (bs (T.take q).flatten) ∧ v7 = .int .i64 (((if i + 1 < q then en else 0 : Nat)) : Int) ∧ v8 = .int .i64 (q : Int) ∧ wr = W6) (fun _ _ v8 _ => cs.length - (intOf v8).toNat)
 case atStart => exact ⟨0, Nat.zero_le _, rfl, by rw [if_neg (by omega)]; rfl, rfl, rfl⟩
 case round =>
  obtain ⟨q, hq, rfl, rfl, rfl, rfl⟩ := hrel
  by_cases hlt : q < cs.length
  ·have cq := (own_cell O6.out (i := q) (u := .string (bs (T.getD q []))) (by simp [cellsS, List.getD, show q < T.length by omega])).1
   have hTn : Hid ((T.take (q + 1)).flatten = (T.take q).flatten ++ T.getD q []) := hid (by
    rw [List.take_succ_eq_append_getElem (show q < T.length by omega), List.flatten_append]
    simp [List.getD, show q < T.length by omega])
   have hlen := HTq.out (q + 1)
   rw [hTn.out, List.length_append] at hlen
   have Hend : Hid (q = i + 1 → en = ((T.take q).flatten ++ T.getD q []).length) := hid fun h => by rw [← hTn.out, HEn.out, h]
   have hap := add_bs Tryz.prog (T.take q).flatten (T.getD q []) (by omega)
   have hszq := bs_size ((T.take q).flatten ++ T.getD q [])
   generalize hsq : (T.take q).flatten = sq at *
   generalize T.getD q [] = tq at *
   generalize hsn : sq ++ tq = sn at *
   have hql : (q : Int) < (cs.length : Int) := by omega
   clear hsq hsn hlen
   by_cases hqi : q = i + 1
   ·have hce : ((q : Int) == (i : Int) + 1) = true := by rw [beq_iff_eq]; omega
    have He := hid (Hend.out hqi)
    have Hqi := hid hqi
    clear hqi Hend
    go_wp2
    go_roundw
    case rel => exact ⟨q + 1, by omega, by rw [hTn.out], by rw [if_pos (by have := Hqi.out; omega), He.out], by go_num, trivial⟩
    case measure => simp [intOf]; omega
   ·have hce : ((q : Int) == (i : Int) + 1) = false := beq_eq_false_iff_ne.2 (by omega)
    have Hqi := hid hqi
    clear hqi Hend
    go_wp2
    go_roundw
    case rel =>
     refine ⟨q + 1, by omega, by rw [hTn.out], ?_, by go_num, trivial⟩
     have := Hqi.out
     by_cases h : i + 1 < q
     ·rw [if_pos h, if_pos (by omega)]
     ·rw [if_neg h, if_neg (by omega)]
    case measure => simp [intOf]; omega
  ·have hqe : T.take q = T := List.take_of_length_le (by omega)
   rw [hqe, ← HZe.out, if_pos (show i + 1 < q by omega)]
   have hd : decide ((q : Int) < (cs.length : Int)) = false := decide_eq_false (by omega)
   clear hqe
   go_wp2_with fail
   refine (HO.out _).mono ?_
   rintro e w9 ⟨rfl, hb9⟩
   have k9 := K6a.out.trans (hb9.mono K6a.out.size)
   have r9 := R6a.out.below hb9
   have c90 := r9.c0
   have c91 := r9.c1
   have f90 := r9.f0
   have f91 := r9.f1
   have K9 := hid k9
   have R9 := hid r9
   clear hb9 r9 k9
   go_wp2
   refine bodyPost_ret (results_bx2 rfl _ _ (w.heap.size + 1) (.string (bs z)) (.int .i64 (x : Int)) 28 rfl ((R9.out.set0 _).set1 _) Tryz.underlying28 (sizeRBuf _)) rfl ?_
   exact ⟨rfl, (K9.out.setCell (p := ⟨w.heap.size + 1, 0, none⟩) (Nat.le_succ _) _).setCell (p := ⟨w.heap.size + 1, 1, none⟩) (Nat.le_succ _) _⟩
theorem rswap_calls (l : List UInt8) (n : Int) (hl : l.length ≤ 137438953472) (w : World) :
  Calls Tryz.prog 60 #[.agg #[.string (bs l), .int .i64 n]] w fun e w' => e = .returned (.tuple #[.agg #[.string (bs (swapR (mS l) (mA l n)).1), .int .i64 ((swapR (mS l) (mA l n)).2.1 : Int)], .bool (swapR (mS l) (mA l n)).2.2]) ∧ Below w.heap.size w w' := by
 obtain ⟨k, hk, hak⟩ := (make_rt l n).2.2
 have hz := swIdx_zero (cutL (mS l)) k hk
 have hm : swMid (mS l) (mA l n) = pos (cutL (mS l)) (swIdx (cutL (mS l)) k) := by rw [hak]; exact swMid_pos (mS l) hk
 have hile : swIdx (cutL (mS l)) k ≤ (cutL (mS l)).length := by unfold swIdx; split <;> omega
 by_cases h0 : swIdx (cutL (mS l)) k = 0
 ·have e : swapR (mS l) (mA l n) = (mS l, mA l n, false) := by
   unfold swapR
   rw [if_pos (by rw [hm, h0]; rfl)]
  rw [e]
  dsimp only
  by_cases hk0 : k = 0
  ·exact rswap_zero l n hl w k hk hak hk0
  ·exact rswap_few l n hl w k hk hak hk0 ((hz.1 h0).resolve_left hk0)
 ·obtain ⟨i, hi⟩ : ∃ i, swIdx (cutL (mS l)) k = i + 1 := ⟨swIdx (cutL (mS l)) k - 1, by omega⟩
  have hne : ¬ (k = 0 ∨ (cutL (mS l)).length < 2) := fun h => h0 (hz.2 h)
  have hlt : i + 1 < (cutL (mS l)).length := by unfold swIdx at hi; split at hi <;> omega
  obtain ⟨e1, e2⟩ := swapR_idx (m := mS l) (i + 1) (by omega) hlt
  have e : swapR (mS l) (mA l n) = ((swL (cutL (mS l)) (i + 1)).flatten, onL (swL (cutL (mS l)) (i + 1)).flatten ((((swL (cutL (mS l)) (i + 1)).take (i + 1 + 1)).flatten.length : Nat) : Int), true) := by
   unfold swapR
   rw [if_neg (by rw [hm, hi]; intro h; have := (pos_eq_zero (cut_full (mS l)) (by omega)).1 h; omega), hm, hi, e1, e2]
  rw [e]
  dsimp only
  by_cases hke : k = (cutL (mS l)).length
  ·exact rswap_e l n hl w k hk hak i hlt (by unfold swIdx at hi; rw [if_pos hke] at hi; omega) hke
  ·exact rswap_n l n hl w k hk hak i hlt (by unfold swIdx at hi; rw [if_neg hke] at hi; exact hi)
end
section
open Go Go.RowKit
open Go.Lib (hid)
set_option maxHeartbeats 4000000 in
theorem rinsert_ok (l s : List UInt8) (n : Int) (hl : l.length ≤ 137438953472) (hs : s.length ≤ 137438953472) (w : World) (h6 : (mS l).length + (plainL s).length ≤ 600) :
  Calls Tryz.prog 69 #[.agg #[.string (bs l), .int .i64 n], .string (bs s)] w fun e w' => e = .returned (.tuple #[.agg #[.string (bs (insS (mS l) (mA l n) (plainL s))), .int .i64 (insA (mS l) (mA l n) (plainL s) : Int)], .bool true]) ∧ Below w.heap.size w w' := by
 have HM := hid (fun W => rmake_calls l n hl W)
 have HP := hid (fun W => rplain_calls s hs W)
 have ha := mA_le l n
 have hil := insS_length (mS l) (mA l n) (plainL s) ha
 have HO := hid (fun W => ron_calls (insS (mS l) (mA l n) (plainL s)) ((mA l n + (plainL s).length : Nat) : Int) (by omega) W)
 have HiA : Hid (onL (insS (mS l) (mA l n) (plainL s)) ((mA l n + (plainL s).length : Nat) : Int) = insA (mS l) (mA l n) (plainL s)) := hid rfl
 have hx1 := bs_take (mS l) (mA l n)
 have hx2 := bs_drop (mS l) (mA l n)
 have hp1 := add_bs Tryz.prog ((mS l).take (mA l n)) (plainL s) (by have := take_len_le (mS l) (mA l n); omega)
 have hp2 : ∀ W : World, (Op.stringOp .add (bs ((mS l).take (mA l n) ++ plainL s)) (bs ((mS l).drop (mA l n)))).run Tryz.prog W = .ok (.string (bs (insS (mS l) (mA l n) (plainL s)))) W :=
  add_bs Tryz.prog ((mS l).take (mA l n) ++ plainL s) ((mS l).drop (mA l n)) (by have := take_len_le (mS l) (mA l n); have := drop_len_le (mS l) (mA l n); rw [List.length_append]; omega)
 rw [HiA.out] at HO
 clear HiA
 generalize insA (mS l) (mA l n) (plainL s) = x at *
 generalize insS (mS l) (mA l n) (plainL s) = whole at *
 generalize (mS l).take (mA l n) ++ plainL s = t3 at *
 generalize (mS l).take (mA l n) = t1 at *
 generalize (mS l).drop (mA l n) = t2 at *
 generalize mA l n = a at *
 generalize mS l = m at *
 generalize plainL s = p at *
 have hszm := bs_size m
 have hszp := bs_size p
 have k0 : Below w.heap.size w ((w.alloc (.cells #[.string (bs l), .int .i64 n] 28)).alloc (.cells #[.string ⟨#[]⟩, .int .i64 0] 28)) := ((Below.refl _ w).alloc (Nat.le_refl _) _).alloc (by simp) _
 have b0 := (Bx.new w 28 (.string (bs l)) (.int .i64 n)).alloc (.cells #[.string ⟨#[]⟩, .int .i64 0] 28)
 have r0 := Bx.new (w.alloc (.cells #[.string (bs l), .int .i64 n] 28)) 28 (.string ⟨#[]⟩) (.int .i64 0)
 rw [World.size_alloc] at r0
 have c00 := b0.c0
 have c01 := b0.c1
 have hi0 : (0 : Int) ≤ (a : Int) := by omega
 have hi1 : (a : Int) ≤ (m.length : Int) := by omega
 have hw1 : IntKind.i64.wrap ((m.length : Int) + (p.length : Int)) = (m.length : Int) + (p.length : Int) := IntWalk.i64_in _ (by omega)
 have hw2 : IntKind.i64.wrap ((a : Int) + (p.length : Int)) = (a : Int) + (p.length : Int) := IntWalk.i64_in _ (by omega)
 have hd6 : decide ((600 : Int) < (m.length : Int) + (p.length : Int)) = false := decide_eq_false (by omega)
 have hcast : ((a + p.length : Nat) : Int) = (a : Int) + (p.length : Int) := by omega
 rw [hcast] at HO
 clear hil hcast
 go_enter Tryz.func69, Tryz.ntmps69
 go_wp2_with fail
 refine (HM.out _).mono ?_
 rintro e w1 ⟨rfl, hb1⟩
 have k1 := k0.trans (hb1.mono k0.size)
 have b1 := b0.below hb1
 have r1 := r0.below hb1
 clear hb1 c00 c01 b0 r0 k0
 have c10 := b1.c0
 have c11 := b1.c1
 have f10 := b1.f0
 have f11 := b1.f1
 have b2 := (b1.set0 (.string (bs m))).set1 (.int .i64 (a : Int))
 have r2 := (r1.other (i := 0) (Nat.succ_ne_self _) (.string (bs m))).other (i := 1) (Nat.succ_ne_self _) (.int .i64 (a : Int))
 have k2 := (k1.setCell (p := ⟨w.heap.size, 0, none⟩) (Nat.le_refl _) (.string (bs m))).setCell (p := ⟨w.heap.size, 1, none⟩) (Nat.le_refl _) (.int .i64 (a : Int))
 have B2 := hid b2
 have R2 := hid r2
 have K2 := hid k2
 clear b1 r1 k1 b2 r2 k2
 go_wp2_with fail
 refine (HP.out _).mono ?_
 rintro e w3 ⟨rfl, hb3⟩
 have k3 := K2.out.trans (hb3.mono K2.out.size)
 have b3 := B2.out.below hb3
 have r3 := R2.out.below hb3
 clear hb3 c10 c11 f10 f11
 have c30 := b3.c0
 have c31 := b3.c1
 have K3 := hid k3
 have R3 := hid r3
 have B3 := hid b3
 clear b3 r3 k3
 go_wp2_with fail
 go_quiet (fail)
 go_wp2_with fail
 refine (HO.out _).mono ?_
 rintro e w5 ⟨rfl, hb5⟩
 have k5 := (bel_drewN K3.out nq).trans (hb5.mono (bel_drewN K3.out nq).size)
 have r5 := (R3.out.drewN nq).below hb5
 have c50 := r5.c0
 have c51 := r5.c1
 have f50 := r5.f0
 have f51 := r5.f1
 have K5 := hid k5
 have R5 := hid r5
 clear hb5 r5 k5
 go_wp2
 refine bodyPost_ret (results_bx2 rfl _ _ (w.heap.size + 1) (.string (bs whole)) (.int .i64 (x : Int)) 28 rfl ((R5.out.set0 _).set1 _) Tryz.underlying28 (sizeRBuf _)) rfl ?_
 exact ⟨rfl, (K5.out.setCell (p := ⟨w.heap.size + 1, 0, none⟩) (Nat.le_succ _) _).setCell (p := ⟨w.heap.size + 1, 1, none⟩) (Nat.le_succ _) _⟩
set_option maxHeartbeats 4000000 in
theorem rinsert_no (l s : List UInt8) (n : Int) (hl : l.length ≤ 137438953472) (hs : s.length ≤ 137438953472) (w : World) (h6 : 600 < (mS l).length + (plainL s).length) :
  Calls Tryz.prog 69 #[.agg #[.string (bs l), .int .i64 n], .string (bs s)] w fun e w' => e = .returned (.tuple #[.agg #[.string (bs (mS l)), .int .i64 (mA l n : Int)], .bool false]) ∧ Below w.heap.size w w' := by
 have HM := hid (fun W => rmake_calls l n hl W)
 have HP := hid (fun W => rplain_calls s hs W)
 have ha := mA_le l n
 have hms := mS_len l
 have hpl := plain_length s
 generalize mA l n = a at *
 generalize mS l = m at *
 generalize plainL s = p at *
 have hszm := bs_size m
 have hszp := bs_size p
 have k0 : Below w.heap.size w ((w.alloc (.cells #[.string (bs l), .int .i64 n] 28)).alloc (.cells #[.string ⟨#[]⟩, .int .i64 0] 28)) := ((Below.refl _ w).alloc (Nat.le_refl _) _).alloc (by simp) _
 have b0 := (Bx.new w 28 (.string (bs l)) (.int .i64 n)).alloc (.cells #[.string ⟨#[]⟩, .int .i64 0] 28)
 have r0 := Bx.new (w.alloc (.cells #[.string (bs l), .int .i64 n] 28)) 28 (.string ⟨#[]⟩) (.int .i64 0)
 rw [World.size_alloc] at r0
 have c00 := b0.c0
 have c01 := b0.c1
 have hw1 : IntKind.i64.wrap ((m.length : Int) + (p.length : Int)) = (m.length : Int) + (p.length : Int) := IntWalk.i64_in _ (by omega)
 have hd6 : decide ((600 : Int) < (m.length : Int) + (p.length : Int)) = true := decide_eq_true (by omega)
 go_enter Tryz.func69, Tryz.ntmps69
 go_wp2_with fail
 refine (HM.out _).mono ?_
 rintro e w1 ⟨rfl, hb1⟩
 have k1 := k0.trans (hb1.mono k0.size)
 have b1 := b0.below hb1
 have r1 := r0.below hb1
 clear hb1 c00 c01 b0 r0 k0
 have c10 := b1.c0
 have c11 := b1.c1
 have f10 := b1.f0
 have f11 := b1.f1
 have b2 := (b1.set0 (.string (bs m))).set1 (.int .i64 (a : Int))
 have r2 := (r1.other (i := 0) (Nat.succ_ne_self _) (.string (bs m))).other (i := 1) (Nat.succ_ne_self _) (.int .i64 (a : Int))
 have k2 := (k1.setCell (p := ⟨w.heap.size, 0, none⟩) (Nat.le_refl _) (.string (bs m))).setCell (p := ⟨w.heap.size, 1, none⟩) (Nat.le_refl _) (.int .i64 (a : Int))
 have B2 := hid b2
 have R2 := hid r2
 have K2 := hid k2
 clear b1 r1 k1 b2 r2 k2
 go_wp2_with fail
 refine (HP.out _).mono ?_
 rintro e w3 ⟨rfl, hb3⟩
 have k3 := K2.out.trans (hb3.mono K2.out.size)
 have b3 := B2.out.below hb3
 have r3 := R2.out.below hb3
 clear hb3 c10 c11 f10 f11
 have c30 := b3.c0
 have c31 := b3.c1
 have K3 := hid k3
 have R3 := hid r3
 have B3 := hid b3
 clear b3 r3 k3
 have r30 := R3.out.c0
 have r31 := R3.out.c1
 have q30 := R3.out.f0
 have q31 := R3.out.f1
 go_wp2
 refine bodyPost_ret (results_bx2 rfl _ _ (w.heap.size + 1) (.string (bs m)) (.int .i64 (a : Int)) 28 rfl ((R3.out.set0 _).set1 _) Tryz.underlying28 (sizeRBuf _)) rfl ?_
 exact ⟨rfl, (K3.out.setCell (p := ⟨w.heap.size + 1, 0, none⟩) (Nat.le_succ _) _).setCell (p := ⟨w.heap.size + 1, 1, none⟩) (Nat.le_succ _) _⟩
end
section
open Go Go.RowKit
open Go.Lib (hid)
set_option maxHeartbeats 4000000 in
theorem rcutT_no (l : List UInt8) (n x y : Int) (hl : l.length ≤ 137438953472) (w : World) (hft : backL (mS l) y ≤ backL (mS l) x) :
  Calls Tryz.prog 100 #[.agg #[.string (bs l), .int .i64 n], .int .i64 x, .int .i64 y] w fun e w' => e = .returned (.tuple #[.agg #[.string (bs (mS l)), .int .i64 (mA l n : Int)], .string ⟨#[]⟩]) ∧ Below w.heap.size w w' := by
 have HM := hid (fun W => rmake_calls l n hl W)
 have ha := mA_le l n
 have hms := mS_len l
 have HB1 := hid (fun W => rback_calls (mS l) x (by omega) W)
 have HB2 := hid (fun W => rback_calls (mS l) y (by omega) W)
 have hf := backL_le (mS l) x
 have ht := backL_le (mS l) y
 generalize backL (mS l) x = f at *
 generalize backL (mS l) y = t at *
 generalize mA l n = a at *
 generalize mS l = m at *
 have k0 : Below w.heap.size w ((w.alloc (.cells #[.string (bs l), .int .i64 n] 28)).alloc (.cells #[.string ⟨#[]⟩, .int .i64 0] 28)) := ((Below.refl _ w).alloc (Nat.le_refl _) _).alloc (by simp) _
 have b0 := (Bx.new w 28 (.string (bs l)) (.int .i64 n)).alloc (.cells #[.string ⟨#[]⟩, .int .i64 0] 28)
 have r0 := Bx.new (w.alloc (.cells #[.string (bs l), .int .i64 n] 28)) 28 (.string ⟨#[]⟩) (.int .i64 0)
 rw [World.size_alloc] at r0
 have c00 := b0.c0
 have c01 := b0.c1
 have hd : decide ((t : Int) ≤ (f : Int)) = true := decide_eq_true (by omega)
 go_enter Tryz.func100, Tryz.ntmps100
 go_wp2_with fail
 refine (HM.out _).mono ?_
 rintro e w1 ⟨rfl, hb1⟩
 have k1 := k0.trans (hb1.mono k0.size)
 have b1 := b0.below hb1
 have r1 := r0.below hb1
 clear hb1 c00 c01 b0 r0 k0
 have c10 := b1.c0
 have c11 := b1.c1
 have f10 := b1.f0
 have f11 := b1.f1
 have b3 := (b1.set0 (.string (bs m))).set1 (.int .i64 (a : Int))
 have r3 := (r1.other (i := 0) (Nat.succ_ne_self _) (.string (bs m))).other (i := 1) (Nat.succ_ne_self _) (.int .i64 (a : Int))
 have k3 := (k1.setCell (p := ⟨w.heap.size, 0, none⟩) (Nat.le_refl _) (.string (bs m))).setCell (p := ⟨w.heap.size, 1, none⟩) (Nat.le_refl _) (.int .i64 (a : Int))
 have B3 := hid b3
 have R3 := hid r3
 have K3 := hid k3
 clear b3 r3 k3 b1 r1 k1
 go_wp2_with fail
 refine (HB1.out _).mono ?_
 rintro e w4 ⟨rfl, hb4⟩
 have k4 := K3.out.trans (hb4.mono K3.out.size)
 have b4 := B3.out.below hb4
 have r4 := R3.out.below hb4
 clear hb4 c10 c11 f10 f11
 have c40 := b4.c0
 have c41 := b4.c1
 go_wp2_with fail
 refine (HB2.out _).mono ?_
 rintro e w5 ⟨rfl, hb5⟩
 have k5 := k4.trans (hb5.mono k4.size)
 have b5 := b4.below hb5
 have r5 := r4.below hb5
 clear hb5 k4 b4 r4 c40 c41
 have c50 := b5.c0
 have c51 := b5.c1
 have K5 := hid k5
 have R5 := hid r5
 have B5 := hid b5
 clear k5 r5 b5
 have r50 := R5.out.c0
 have r51 := R5.out.c1
 have q50 := R5.out.f0
 have q51 := R5.out.f1
 go_wp2
 refine bodyPost_ret (results_bx2 rfl _ _ (w.heap.size + 1) (.string (bs m)) (.int .i64 (a : Int)) 28 rfl ((R5.out.set0 _).set1 _) Tryz.underlying28 (sizeRBuf _)) rfl ?_
 exact ⟨rfl, (K5.out.setCell (p := ⟨w.heap.size + 1, 0, none⟩) (Nat.le_succ _) _).setCell (p := ⟨w.heap.size + 1, 1, none⟩) (Nat.le_succ _) _⟩
set_option maxHeartbeats 4000000 in
theorem rcutT_ok (l : List UInt8) (n x y : Int) (hl : l.length ≤ 137438953472) (w : World) (hft : backL (mS l) x < backL (mS l) y) :
  Calls Tryz.prog 100 #[.agg #[.string (bs l), .int .i64 n], .int .i64 x, .int .i64 y] w fun e w' => e = .returned (.tuple #[.agg #[.string (bs (cutS (mS l) (backL (mS l) x) (backL (mS l) y))), .int .i64 (cutA (mS l) (mA l n) (backL (mS l) x) (backL (mS l) y) : Int)], .string (bs (goneS (mS l) (backL (mS l) x) (backL (mS l) y)))]) ∧ Below w.heap.size w w' := by
 have HM := hid (fun W => rmake_calls l n hl W)
 have ha := mA_le l n
 have hms := mS_len l
 have HB1 := hid (fun W => rback_calls (mS l) x (by omega) W)
 have HB2 := hid (fun W => rback_calls (mS l) y (by omega) W)
 have hf := backL_le (mS l) x
 have ht := backL_le (mS l) y
 generalize backL (mS l) x = f at *
 generalize backL (mS l) y = t at *
 generalize mA l n = a at *
 generalize mS l = m at *
 have hcl := cutS_length m f t (by omega) ht
 have hca := cutAt_le a f t (by omega) (by omega)
 have HB3 := hid (fun W => rback_calls (cutS m f t) ((cutAt a f t : Nat) : Int) (by omega) W)
 have HcA : Hid (backL (cutS m f t) ((cutAt a f t : Nat) : Int) = cutA m a f t) := hid rfl
 rw [HcA.out] at HB3
 have hx1 := bs_take m f
 have hx2 := bs_drop m t
 have hx3 : (bs m).extract f t = bs (goneS m f t) := bs_mid m f t
 have hp1 : ∀ W : World, (Op.stringOp .add (bs (m.take f)) (bs (m.drop t))).run Tryz.prog W = .ok (.string (bs (cutS m f t))) W :=
  add_bs Tryz.prog (m.take f) (m.drop t) (by have := take_len_le m f; have := drop_len_le m t; omega)
 have HAt : Hid (cutAt a f t = if f < a then max f (a - (t - f)) else a) := hid rfl
 clear HcA
 generalize cutA m a f t = ca at *
 generalize cutS m f t = cS at *
 generalize goneS m f t = gS at *
 generalize m.take f = t1 at *
 generalize m.drop t = t2 at *
 generalize cutAt a f t = at' at *
 have hszm := bs_size m
 have hszc := bs_size cS
 have hi0 : (0 : Int) ≤ (f : Int) := by omega
 have hi1 : (f : Int) ≤ (m.length : Int) := by omega
 have hi2 : (0 : Int) ≤ (t : Int) := by omega
 have hi3 : (t : Int) ≤ (m.length : Int) := by omega
 have hi4 : (f : Int) ≤ (t : Int) := by omega
 have k0 : Below w.heap.size w ((w.alloc (.cells #[.string (bs l), .int .i64 n] 28)).alloc (.cells #[.string ⟨#[]⟩, .int .i64 0] 28)) := ((Below.refl _ w).alloc (Nat.le_refl _) _).alloc (by simp) _
 have b0 := (Bx.new w 28 (.string (bs l)) (.int .i64 n)).alloc (.cells #[.string ⟨#[]⟩, .int .i64 0] 28)
 have r0 := Bx.new (w.alloc (.cells #[.string (bs l), .int .i64 n] 28)) 28 (.string ⟨#[]⟩) (.int .i64 0)
 rw [World.size_alloc] at r0
 have c00 := b0.c0
 have c01 := b0.c1
 have hd : decide ((t : Int) ≤ (f : Int)) = false := decide_eq_false (by omega)
 go_enter Tryz.func100, Tryz.ntmps100
 go_wp2_with fail
 refine (HM.out _).mono ?_
 rintro e w1 ⟨rfl, hb1⟩
 have k1 := k0.trans (hb1.mono k0.size)
 have b1 := b0.below hb1
 have r1 := r0.below hb1
 clear hb1 c00 c01 b0 r0 k0
 have c10 := b1.c0
 have c11 := b1.c1
 have f10 := b1.f0
 have f11 := b1.f1
 have b3 := (b1.set0 (.string (bs m))).set1 (.int .i64 (a : Int))
 have r3 := (r1.other (i := 0) (Nat.succ_ne_self _) (.string (bs m))).other (i := 1) (Nat.succ_ne_self _) (.int .i64 (a : Int))
 have k3 := (k1.setCell (p := ⟨w.heap.size, 0, none⟩) (Nat.le_refl _) (.string (bs m))).setCell (p := ⟨w.heap.size, 1, none⟩) (Nat.le_refl _) (.int .i64 (a : Int))
 have B3 := hid b3
 have R3 := hid r3
 have K3 := hid k3
 clear b3 r3 k3 b1 r1 k1
 go_wp2_with fail
 refine (HB1.out _).mono ?_
 rintro e w4 ⟨rfl, hb4⟩
 have k4 := K3.out.trans (hb4.mono K3.out.size)
 have b4 := B3.out.below hb4
 have r4 := R3.out.below hb4
 clear hb4 c10 c11 f10 f11
 have c40 := b4.c0
 have c41 := b4.c1
 go_wp2_with fail
 refine (HB2.out _).mono ?_
 rintro e w5 ⟨rfl, hb5⟩
 have k5 := k4.trans (hb5.mono k4.size)
 have b5 := b4.below hb5
 have r5 := r4.below hb5
 clear hb5 k4 b4 r4 c40 c41
 have c50 := b5.c0
 have c51 := b5.c1
 have K5 := hid k5
 have R5 := hid r5
 have B5 := hid b5
 clear k5 r5 b5
 go_wp2_with fail
 go_quiet (fail)
 have K6a := hid (bel_drewN K5.out nq)
 have B6a := hid (B5.out.drewN nq)
 have R6a := hid (R5.out.drewN nq)
 clear K5 B5 R5
 by_cases hta : t < a
 ·have hdt : decide ((t : Int) < (a : Int)) = true := decide_eq_true (by omega)
  have hw1 : IntKind.i64.wrap ((t : Int) - (f : Int)) = (t : Int) - (f : Int) := IntWalk.i64_in _ (by omega)
  have hw2 : IntKind.i64.wrap ((a : Int) - ((t : Int) - (f : Int))) = (a : Int) - ((t : Int) - (f : Int)) := IntWalk.i64_in _ (by omega)
  have hmx : (a : Int) - ((t : Int) - (f : Int)) = (at' : Int) := by rw [HAt.out, if_pos (by omega)]; omega
  go_wp2_with fail
  generalize w5.drewN nq = W6 at *
  have K6 := hid (K6a.out.drew)
  have B6 := hid (B6a.out.drew)
  have R6 := hid (R6a.out.drew)
  refine wp_region_held_drew (S := (fun w' => w'.cell? ⟨w.heap.size, 0, none⟩ = some (.string (bs m)) ∧ w'.cell? ⟨w.heap.size, 1, none⟩ = some (.int .i64 (a : Int)))) (by kernel_rfl) ⟨B6.out.c0, B6.out.c1⟩ (fun hHeld => ?_)
  refine tkH 0 ?_
  refine tkH 1 ?_
  refine tkH 2 ?_
  refine tkH 5 ?_
  refine tkH 6 ?_
  refine tkH 7 ?_
  refine tkH 8 ?_
  refine tkH 9 ?_
  refine rdH 3 fun K hK => ?_
  go_simp
  (refine (HB3.out _).mono ?_; rintro e w7 ⟨rfl, hb7⟩; have k7 := K6.out.trans (hb7.mono K6.out.size); have b7 := B6.out.below hb7; have r7 := R6.out.below hb7; have r70 := r7.c0; have r71 := r7.c1; have q70 := r7.f0; have q71 := r7.f1)
  refine hK.out _ _ ⟨b7.c0, b7.c1⟩ (fun hHeld => ?_)
  clear hK K
  refine tkH 4 ?_
  refine rdH 10 fun K hK => ?_
  go_simp
  refine hK.out _ _ ⟨((b7.other (i := 0) (Nat.ne_of_lt (Nat.lt_succ_self _)) _).other (i := 1) (Nat.ne_of_lt (Nat.lt_succ_self _)) _).c0, ((b7.other (i := 0) (Nat.ne_of_lt (Nat.lt_succ_self _)) _).other (i := 1) (Nat.ne_of_lt (Nat.lt_succ_self _)) _).c1⟩ (fun hHeld => ?_)
  clear hK K
  refine tkH 11 ?_
  refine wpAnyH_done (by kernel_rfl) ?_ _
  have K7 := hid k7
  have R7 := hid r7
  go_wp2
  refine bodyPost_ret (results_bx2 rfl _ _ (w.heap.size + 1) (.string (bs cS)) (.int .i64 (ca : Int)) 28 rfl ((R7.out.set0 _).set1 _) Tryz.underlying28 (sizeRBuf _)) rfl ?_
  exact ⟨rfl, (K7.out.setCell (p := ⟨w.heap.size + 1, 0, none⟩) (Nat.le_succ _) _).setCell (p := ⟨w.heap.size + 1, 1, none⟩) (Nat.le_succ _) _⟩
 ·have hdt : decide ((t : Int) < (a : Int)) = false := decide_eq_false (by omega)
  by_cases hfa : f < a
  ·have hdf : decide ((f : Int) < (a : Int)) = true := decide_eq_true (by omega)
   obtain rfl : f = at' := by rw [HAt.out, if_pos hfa]; omega
   go_wp2_with fail
   generalize w5.drewN nq = W6 at *
   have K6 := hid (K6a.out.drew)
   have B6 := hid (B6a.out.drew)
   have R6 := hid (R6a.out.drew)
   refine wp_region_held_drew (S := (fun w' => w'.cell? ⟨w.heap.size, 0, none⟩ = some (.string (bs m)) ∧ w'.cell? ⟨w.heap.size, 1, none⟩ = some (.int .i64 (a : Int)))) (by kernel_rfl) ⟨B6.out.c0, B6.out.c1⟩ (fun hHeld => ?_)
   refine tkH 0 ?_
   refine tkH 1 ?_
   refine tkH 2 ?_
   refine tkH 5 ?_
   refine tkH 6 ?_
   refine tkH 7 ?_
   refine tkH 8 ?_
   refine tkH 9 ?_
   refine rdH 3 fun K hK => ?_
   go_simp
   (refine (HB3.out _).mono ?_; rintro e w7 ⟨rfl, hb7⟩; have k7 := K6.out.trans (hb7.mono K6.out.size); have b7 := B6.out.below hb7; have r7 := R6.out.below hb7; have r70 := r7.c0; have r71 := r7.c1; have q70 := r7.f0; have q71 := r7.f1)
   refine hK.out _ _ ⟨b7.c0, b7.c1⟩ (fun hHeld => ?_)
   clear hK K
   refine tkH 4 ?_
   refine rdH 10 fun K hK => ?_
   go_simp
   refine hK.out _ _ ⟨((b7.other (i := 0) (Nat.ne_of_lt (Nat.lt_succ_self _)) _).other (i := 1) (Nat.ne_of_lt (Nat.lt_succ_self _)) _).c0, ((b7.other (i := 0) (Nat.ne_of_lt (Nat.lt_succ_self _)) _).other (i := 1) (Nat.ne_of_lt (Nat.lt_succ_self _)) _).c1⟩ (fun hHeld => ?_)
   clear hK K
   refine tkH 11 ?_
   refine wpAnyH_done (by kernel_rfl) ?_ _
   have K7 := hid k7
   have R7 := hid r7
   go_wp2
   refine bodyPost_ret (results_bx2 rfl _ _ (w.heap.size + 1) (.string (bs cS)) (.int .i64 (ca : Int)) 28 rfl ((R7.out.set0 _).set1 _) Tryz.underlying28 (sizeRBuf _)) rfl ?_
   exact ⟨rfl, (K7.out.setCell (p := ⟨w.heap.size + 1, 0, none⟩) (Nat.le_succ _) _).setCell (p := ⟨w.heap.size + 1, 1, none⟩) (Nat.le_succ _) _⟩
  ·have hdf : decide ((f : Int) < (a : Int)) = false := decide_eq_false (by omega)
   obtain rfl : a = at' := by rw [HAt.out, if_neg hfa]
   go_wp2_with fail
   generalize w5.drewN nq = W6 at *
   have K6 := hid (K6a.out.drew)
   have B6 := hid (B6a.out.drew)
   have R6 := hid (R6a.out.drew)
   refine wp_region_held_drew (S := (fun w' => w'.cell? ⟨w.heap.size, 0, none⟩ = some (.string (bs m)) ∧ w'.cell? ⟨w.heap.size, 1, none⟩ = some (.int .i64 (a : Int)))) (by kernel_rfl) ⟨B6.out.c0, B6.out.c1⟩ (fun hHeld => ?_)
   refine tkH 0 ?_
   refine tkH 1 ?_
   refine tkH 2 ?_
   refine tkH 5 ?_
   refine tkH 6 ?_
   refine tkH 7 ?_
   refine tkH 8 ?_
   refine tkH 9 ?_
   refine rdH 3 fun K hK => ?_
   go_simp
   (refine (HB3.out _).mono ?_; rintro e w7 ⟨rfl, hb7⟩; have k7 := K6.out.trans (hb7.mono K6.out.size); have b7 := B6.out.below hb7; have r7 := R6.out.below hb7; have r70 := r7.c0; have r71 := r7.c1; have q70 := r7.f0; have q71 := r7.f1)
   refine hK.out _ _ ⟨b7.c0, b7.c1⟩ (fun hHeld => ?_)
   clear hK K
   refine tkH 4 ?_
   refine rdH 10 fun K hK => ?_
   go_simp
   refine hK.out _ _ ⟨((b7.other (i := 0) (Nat.ne_of_lt (Nat.lt_succ_self _)) _).other (i := 1) (Nat.ne_of_lt (Nat.lt_succ_self _)) _).c0, ((b7.other (i := 0) (Nat.ne_of_lt (Nat.lt_succ_self _)) _).other (i := 1) (Nat.ne_of_lt (Nat.lt_succ_self _)) _).c1⟩ (fun hHeld => ?_)
   clear hK K
   refine tkH 11 ?_
   refine wpAnyH_done (by kernel_rfl) ?_ _
   have K7 := hid k7
   have R7 := hid r7
   go_wp2
   refine bodyPost_ret (results_bx2 rfl _ _ (w.heap.size + 1) (.string (bs cS)) (.int .i64 (ca : Int)) 28 rfl ((R7.out.set0 _).set1 _) Tryz.underlying28 (sizeRBuf _)) rfl ?_
   exact ⟨rfl, (K7.out.setCell (p := ⟨w.heap.size + 1, 0, none⟩) (Nat.le_succ _) _).setCell (p := ⟨w.heap.size + 1, 1, none⟩) (Nat.le_succ _) _⟩
theorem rcutT_calls (l : List UInt8) (n x y : Int) (hl : l.length ≤ 137438953472) (w : World) :
  Calls Tryz.prog 100 #[.agg #[.string (bs l), .int .i64 n], .int .i64 x, .int .i64 y] w fun e w' => e = .returned (.tuple #[.agg #[.string (bs (cutR (mS l) (mA l n) (backL (mS l) x) (backL (mS l) y)).1), .int .i64 ((cutR (mS l) (mA l n) (backL (mS l) x) (backL (mS l) y)).2.1 : Int)], .string (bs (cutR (mS l) (mA l n) (backL (mS l) x) (backL (mS l) y)).2.2)]) ∧ Below w.heap.size w w' := by
 unfold cutR
 by_cases h : backL (mS l) x < backL (mS l) y
 ·rw [if_pos h]
  dsimp only
  exact rcutT_ok l n x y hl w h
 ·rw [if_neg h]
  dsimp only
  rw [show bs [] = (⟨#[]⟩ : ByteArray) from rfl]
  exact rcutT_no l n x y hl w (by omega)
end
section
open Go Go.RowKit
set_option maxRecDepth 100000
abbrev Bi := List UInt8 × Int
abbrev biV (x : Bi) : Value := .agg #[.string (bs x.1), .int .i64 x.2]
def biC (x : Bi) : List Value := [.string (bs x.1), .int .i64 x.2]
theorem biC_length (x : Bi) : (biC x).length = 2 := rfl
def strC (x : ByteArray) : List Value := [.string x]
theorem strC_length (x : ByteArray) : (strC x).length = 1 := rfl
structure DS where
 now : Bi
 back : List Bi
 forth : List Bi
 opn : Bool
 kills : List ByteArray
 top : Int
 last : Int
 fr : Int
 to_ : Int
structure DS.Ok (d : DS) (B : Nat) : Prop where
 now : d.now.1.length ≤ 600
 back : ∀ x ∈ d.back, x.1.length ≤ 600
 forth : ∀ x ∈ d.forth, x.1.length ≤ 600
 len : d.back.length + d.forth.length ≤ 32
 kills : d.kills.length ≤ 8
 small : ∀ x ∈ d.kills, x.size ≤ B
 top : (d.kills = [] ∧ d.top = 0) ∨ (0 ≤ d.top ∧ d.top < d.kills.length)
structure DR where
 A1 : Option Addr
 c1 : Nat
 A2 : Option Addr
 c2 : Nat
 A3 : Option Addr
 c3 : Nat
def dsC (r : DR) (d : DS) : List Value := [.string (bs d.now.1), .int .i64 d.now.2, .slice r.A1 d.back.length r.c1, .slice r.A2 d.forth.length r.c2, .bool d.opn, .slice r.A3 d.kills.length r.c3, .int .i64 d.top, .int .i64 d.last, .int .i64 d.fr, .int .i64 d.to_]
def dsV (r : DR) (d : DS) : Value := .agg #[.string (bs d.now.1), .int .i64 d.now.2, .slice r.A1 d.back.length r.c1, .slice r.A2 d.forth.length r.c2, .bool d.opn, .slice r.A3 d.kills.length r.c3, .int .i64 d.top, .int .i64 d.last, .int .i64 d.fr, .int .i64 d.to_]
structure RowD {α : Type} (C : α → List Value) (w : World) (D : Nat → Prop) (A : Option Addr) (c : Nat) (ls : List α) : Prop where
 row : RowT C w D A ls
 le : ls.length ≤ c
 max : c ≤ maxLen
 nil : A = none → c = 0
structure DsAt (w : World) (D : Nat → Prop) (r : DR) (d : DS) : Prop where
 lt : ∀ k, D k → k < w.heap.size
 back : RowD biC w D r.A1 r.c1 d.back
 forth : RowD biC w D r.A2 r.c2 d.forth
 kills : RowD strC w D r.A3 r.c3 d.kills
section
variable {α : Type} {C : α → List Value} {w w' : World} {D D' R : Nat → Prop} {A : Option Addr} {c : Nat} {ls : List α} {r : DR} {d : DS}
theorem RowD.keep (h : RowD C w D A c ls) (ho : Only R w w') (hd : ∀ k, D k → ¬ R k) : RowD C w' D A c ls := ⟨h.row.keep ho hd, h.le, h.max, h.nil⟩
theorem RowD.mono (h : RowD C w D A c ls) (hD : ∀ k, D k → D' k) : RowD C w D' A c ls := ⟨h.row.mono hD, h.le, h.max, h.nil⟩
theorem RowD.empty (C : α → List Value) (w : World) (D : Nat → Prop) : RowD C w D none 0 [] := ⟨fun hn => absurd hn (Nat.lt_irrefl 0), Nat.le_refl _, by unfold maxLen; omega, fun _ => rfl⟩
theorem DsAt.keep (h : DsAt w D r d) (ho : Only R w w') (hd : ∀ k, D k → ¬ R k) : DsAt w' D r d := ⟨fun k hk => Nat.lt_of_lt_of_le (h.lt k hk) ho.size, h.back.keep ho hd, h.forth.keep ho hd, h.kills.keep ho hd⟩
theorem DsAt.below (h : DsAt w D r d) (hb : Below w.heap.size w w') : DsAt w' D r d := h.keep (R := fun _ => False) (Only.of_below hb) (fun _ _ h => h)
theorem DsAt.same (h : DsAt w D r d) {d' : DS} (h1 : d'.back = d.back) (h2 : d'.forth = d.forth) (h3 : d'.kills = d.kills) : DsAt w D r d' := ⟨h.lt, by rw [h1]; exact h.back, by rw [h2]; exact h.forth, by rw [h3]; exact h.kills⟩
end
def DsTo (w : World) (D : Nat → Prop) (B : Nat) (w' : World) (r : DR) (d : DS) : Prop := ∃ D', DsAt w' D' r d ∧ d.Ok B ∧ (∀ k, D' k → D k ∨ w.heap.size ≤ k) ∧ Below w.heap.size w w'
theorem szS (W : World) : (sizeOf 32).run Tryz.prog W = .ok 10 W := by simp [sizeOf, typeInfo, go_sem]; kernel_rfl
def ten (W : World) (M : Nat) (v0 v1 v2 v3 v4 v5 v6 v7 v8 v9 : Value) : World := (((((((((W.setCell ⟨M, 0, none⟩ v0).setCell ⟨M, 1, none⟩ v1).setCell ⟨M, 2, none⟩ v2).setCell ⟨M, 3, none⟩ v3).setCell ⟨M, 4, none⟩ v4).setCell ⟨M, 5, none⟩ v5).setCell ⟨M, 6, none⟩ v6).setCell ⟨M, 7, none⟩ v7).setCell ⟨M, 8, none⟩ v8).setCell ⟨M, 9, none⟩ v9
theorem ten_only (W : World) (M : Nat) (v0 v1 v2 v3 v4 v5 v6 v7 v8 v9 : Value) : Only (fun i => i = M) W (ten W M v0 v1 v2 v3 v4 v5 v6 v7 v8 v9) :=
 ((((((((((Only.refl (fun i => i = M) W).set (p := ⟨M, 0, none⟩) (.inl rfl) _).set (p := ⟨M, 1, none⟩) (.inl rfl) _).set (p := ⟨M, 2, none⟩) (.inl rfl) _).set (p := ⟨M, 3, none⟩) (.inl rfl) _).set (p := ⟨M, 4, none⟩) (.inl rfl) _).set (p := ⟨M, 5, none⟩) (.inl rfl) _).set (p := ⟨M, 6, none⟩) (.inl rfl) _).set (p := ⟨M, 7, none⟩) (.inl rfl) _).set (p := ⟨M, 8, none⟩) (.inl rfl) _).set (p := ⟨M, 9, none⟩) (.inl rfl) _
theorem ten_box {W : World} {M : Nat} {t : TypeId} {z0 z1 z2 z3 z4 z5 z6 z7 z8 z9 : Value} (h : BxA W M t [z0, z1, z2, z3, z4, z5, z6, z7, z8, z9]) (v0 v1 v2 v3 v4 v5 v6 v7 v8 v9 : Value) : BxA (ten W M v0 v1 v2 v3 v4 v5 v6 v7 v8 v9) M t [v0, v1, v2, v3, v4, v5, v6, v7, v8, v9] := (((((((((h.set 0 v0).set 1 v1).set 2 v2).set 3 v3).set 4 v4).set 5 v5).set 6 v6).set 7 v7).set 8 v8).set 9 v9
abbrev dsK (r : DR) (d : DS) : List Value := [.string (bs d.now.1), .int .i64 d.now.2, .slice r.A1 d.back.length r.c1, .slice r.A2 d.forth.length r.c2, .bool d.opn, .slice r.A3 d.kills.length r.c3, .int .i64 d.top, .int .i64 d.last, .int .i64 d.fr, .int .i64 d.to_]
abbrev dsZ : List Value := [.string ⟨#[]⟩, .int .i64 0, .slice none 0 0, .slice none 0 0, .bool false, .slice none 0 0, .int .i64 0, .int .i64 0, .int .i64 0, .int .i64 0]
abbrev tenD (W : World) (M : Nat) (r : DR) (d : DS) : World := ten W M (.string (bs d.now.1)) (.int .i64 d.now.2) (.slice r.A1 d.back.length r.c1) (.slice r.A2 d.forth.length r.c2) (.bool d.opn) (.slice r.A3 d.kills.length r.c3) (.int .i64 d.top) (.int .i64 d.last) (.int .i64 d.fr) (.int .i64 d.to_)
theorem ten_onlyD (W : World) (M : Nat) (r : DR) (d : DS) : Only (fun i => i = M) W (tenD W M r d) := ten_only W M _ _ _ _ _ _ _ _ _ _
theorem ten_boxD {W : World} {M : Nat} {t : TypeId} {z0 z1 z2 z3 z4 z5 z6 z7 z8 z9 : Value} (h : BxA W M t [z0, z1, z2, z3, z4, z5, z6, z7, z8, z9]) (r : DR) (d : DS) : BxA (tenD W M r d) M t (dsK r d) := ten_box h _ _ _ _ _ _ _ _ _ _
theorem results_bx10 {P : Program} {fn : Func} {p : Tmp} {ty : TypeId} {fs : Array Field} (h : fn.results = #[.cell p ty]) (tmps : Array Value) (w : World) (g : Nat) (v0 v1 v2 v3 v4 v5 v6 v7 v8 v9 : Value) (t : TypeId)
  (hp : tmps.getD p undef = .pointer (some ⟨g, 0, none⟩)) (hb : BxA w g t [v0, v1, v2, v3, v4, v5, v6, v7, v8, v9]) (hu : P.underlying ty = some (.struct fs)) (hsz : (sizeOf ty).run P w = .ok 10 w) : (results fn tmps).run P w = .ok (.agg #[v0, v1, v2, v3, v4, v5, v6, v7, v8, v9]) w := by
 have hp' : tmps[p]?.getD undef = .pointer (some ⟨g, 0, none⟩) := by simpa using hp
 have c0 := hb.c 0 rfl
 have c1 := hb.c 1 rfl
 have c2 := hb.c 2 rfl
 have c3 := hb.c 3 rfl
 have c4 := hb.c 4 rfl
 have c5 := hb.c 5 rfl
 have c6 := hb.c 6 rfl
 have c7 := hb.c 7 rfl
 have c8 := hb.c 8 rfl
 have c9 := hb.c 9 rfl
 simp [results, h, hp', asAddr, loadVar, isAgg, Sem.run_bind, run_underlying hu, hsz, loadCells, loadCellsFrom, Addr.add, c0, c1, c2, c3, c4, c5, c6, c7, c8, c9, go_sem]
theorem results_bx10' {P : Program} {fn : Func} {p q : Tmp} {ty : TypeId} {fs : Array Field} (h : fn.results = #[.cell p ty, .tmp q]) (tmps : Array Value) (w : World) (g : Nat) (v0 v1 v2 v3 v4 v5 v6 v7 v8 v9 v : Value) (t : TypeId)
  (hp : tmps.getD p undef = .pointer (some ⟨g, 0, none⟩)) (hq : tmps.getD q undef = v) (hb : BxA w g t [v0, v1, v2, v3, v4, v5, v6, v7, v8, v9]) (hu : P.underlying ty = some (.struct fs)) (hsz : (sizeOf ty).run P w = .ok 10 w) : (results fn tmps).run P w = .ok (.tuple #[.agg #[v0, v1, v2, v3, v4, v5, v6, v7, v8, v9], v]) w := by
 have hp' : tmps[p]?.getD undef = .pointer (some ⟨g, 0, none⟩) := by simpa using hp
 have hq' : tmps[q]?.getD undef = v := by simpa using hq
 have c0 := hb.c 0 rfl
 have c1 := hb.c 1 rfl
 have c2 := hb.c 2 rfl
 have c3 := hb.c 3 rfl
 have c4 := hb.c 4 rfl
 have c5 := hb.c 5 rfl
 have c6 := hb.c 6 rfl
 have c7 := hb.c 7 rfl
 have c8 := hb.c 8 rfl
 have c9 := hb.c 9 rfl
 simp [results, h, hp', hq', asAddr, loadVar, isAgg, Sem.run_bind, run_underlying hu, hsz, loadCells, loadCellsFrom, Addr.add, c0, c1, c2, c3, c4, c5, c6, c7, c8, c9, go_sem]
theorem boxes7 (w : World) (r : DR) (d : DS) : ∃ W2, (w.alloc (.cells #[.string (bs d.now.1), .int .i64 d.now.2, .slice r.A1 d.back.length r.c1, .slice r.A2 d.forth.length r.c2, .bool d.opn, .slice r.A3 d.kills.length r.c3, .int .i64 d.top, .int .i64 d.last, .int .i64 d.fr, .int .i64 d.to_] 32)).alloc (.cells #[.string ⟨#[]⟩, .int .i64 0, .slice none 0 0, .slice none 0 0, .bool false, .slice none 0 0, .int .i64 0, .int .i64 0, .int .i64 0, .int .i64 0] 32) = W2 ∧ Below w.heap.size w W2 ∧ W2.heap.size = w.heap.size + 2 ∧
  BxA W2 w.heap.size 32 (dsC r d) ∧ BxA W2 (w.heap.size + 1) 32 [.string ⟨#[]⟩, .int .i64 0, .slice none 0 0, .slice none 0 0, .bool false, .slice none 0 0, .int .i64 0, .int .i64 0, .int .i64 0, .int .i64 0] := by
 refine ⟨_, rfl, ((Below.refl _ w).alloc (Nat.le_refl _) _).alloc (by simp) _, by simp, (BxA.new w _ (dsC r d)).alloc _, ?_⟩
 have := BxA.new (w.alloc (.cells #[.string (bs d.now.1), .int .i64 d.now.2, .slice r.A1 d.back.length r.c1, .slice r.A2 d.forth.length r.c2, .bool d.opn, .slice r.A3 d.kills.length r.c3, .int .i64 d.top, .int .i64 d.last, .int .i64 d.fr, .int .i64 d.to_] 32)) 32 [.string ⟨#[]⟩, .int .i64 0, .slice none 0 0, .slice none 0 0, .bool false, .slice none 0 0, .int .i64 0, .int .i64 0, .int .i64 0, .int .i64 0]
 rwa [World.size_alloc] at this
set_option maxHeartbeats 4000000 in
theorem dmove_calls (w : World) (D : Nat → Prop) (r : DR) (d : DS) (B : Nat) (h : DsAt w D r d) (hok : d.Ok B) (n : Int) :
  Calls Tryz.prog 62 #[dsV r d, .int .i64 n] w fun e w' => ∃ r' d', e = .returned (dsV r' d') ∧ DsTo w D B w' r' d' := by
 obtain ⟨W2, hW2, hB2, hs2, hb0, hb1⟩ := boxes7 w r d
 obtain ⟨W3, hW3⟩ : ∃ W3, (W2.setCell ⟨w.heap.size, 1, none⟩ (.int .i64 n)).setCell ⟨w.heap.size, 4, none⟩ (.bool false) = W3 := ⟨_, rfl⟩
 have hb3 : BxA W3 w.heap.size 32 [.string (bs d.now.1), .int .i64 n, .slice r.A1 d.back.length r.c1, .slice r.A2 d.forth.length r.c2, .bool false, .slice r.A3 d.kills.length r.c3, .int .i64 d.top, .int .i64 d.last, .int .i64 d.fr, .int .i64 d.to_] := by rw [← hW3]; exact (hb0.set 1 _).set 4 _
 have hm3 : BxA W3 (w.heap.size + 1) 32 [.string ⟨#[]⟩, .int .i64 0, .slice none 0 0, .slice none 0 0, .bool false, .slice none 0 0, .int .i64 0, .int .i64 0, .int .i64 0, .int .i64 0] := by rw [← hW3]; exact (hb1.other (by omega) _).other (by omega) _
 have k1 := hb0.c 1 rfl
 have k4 := hb0.c 4 rfl
 have g1 := hb0.free 1
 have g4 := hb0.free 4
 have c0 := hb3.c 0 rfl
 have c1 := hb3.c 1 rfl
 have c2 := hb3.c 2 rfl
 have c3 := hb3.c 3 rfl
 have c4 := hb3.c 4 rfl
 have c5 := hb3.c 5 rfl
 have c6 := hb3.c 6 rfl
 have c7 := hb3.c 7 rfl
 have c8 := hb3.c 8 rfl
 have c9 := hb3.c 9 rfl
 have e0 := hm3.c 0 rfl
 have e1 := hm3.c 1 rfl
 have e2 := hm3.c 2 rfl
 have e3 := hm3.c 3 rfl
 have e4 := hm3.c 4 rfl
 have e5 := hm3.c 5 rfl
 have e6 := hm3.c 6 rfl
 have e7 := hm3.c 7 rfl
 have e8 := hm3.c 8 rfl
 have e9 := hm3.c 9 rfl
 have f0 := hm3.free 0
 have f1 := hm3.free 1
 have f2 := hm3.free 2
 have f3 := hm3.free 3
 have f4 := hm3.free 4
 have f5 := hm3.free 5
 have f6 := hm3.free 6
 have f7 := hm3.free 7
 have f8 := hm3.free 8
 have f9 := hm3.free 9
 have HX := Lib.hid hm3
 have HD := Lib.hid h
 have HO := Lib.hid hok
 have HB : Hid (Below w.heap.size w W3) := Lib.hid (by rw [← hW3]; exact (hB2.setCell (p := ⟨w.heap.size, 1, none⟩) (Nat.le_refl _) _).setCell (p := ⟨w.heap.size, 4, none⟩) (Nat.le_refl _) _)
 clear hb0 hb1 hm3 hb3 hB2 hs2 h hok
 unfold dsV
 go_enter Tryz.func62, Tryz.ntmps62
 go_wp2_with fail
 refine bodyPost_ret (results_bx10 rfl _ _ (w.heap.size + 1) (.string (bs d.now.1)) (.int .i64 n) (.slice r.A1 d.back.length r.c1) (.slice r.A2 d.forth.length r.c2) (.bool false) (.slice r.A3 d.kills.length r.c3) (.int .i64 d.top) (.int .i64 d.last) (.int .i64 d.fr) (.int .i64 d.to_) 32 rfl (ten_box HX.out _ _ _ _ _ _ _ _ _ _) Tryz.underlying32 (szS _)) rfl ?_
 refine ⟨r, ⟨(d.now.1, n), d.back, d.forth, false, d.kills, d.top, d.last, d.fr, d.to_⟩, rfl, D, (HD.out.below (HB.out.trans ((ten_only W3 _ _ _ _ _ _ _ _ _ _ _).below HB.out.size (fun i (hi : i = _) => by omega)))).same rfl rfl rfl, ⟨HO.out.now, HO.out.back, HO.out.forth, HO.out.len, HO.out.kills, HO.out.small, HO.out.top⟩, fun k hk => .inl hk, HB.out.trans ((ten_only W3 _ _ _ _ _ _ _ _ _ _ _).below HB.out.size (fun i (hi : i = _) => by omega))⟩
end
section
open Go Go.RowKit
set_option maxRecDepth 100000
theorem infoB7 : (Tryz.prog.info? 28).map (fun i => (i.zero, i.size, i.bytes)) = some (some (.agg #[.string ⟨#[]⟩, .int .i64 0]), 2, 24) := by kernel_rfl
theorem run_append_R (w : World) (base : Nat) (i : TypeInfo) (hi : Tryz.prog.info? 28 = some i) (hz : i.zero = some (.agg #[.string ⟨#[]⟩, .int .i64 0])) (hsize : i.size = 2) (hby : i.bytes = 24)
  (v : Value) (n : Nat) (xs : List Bi) (hn : n = xs.length) (hown : w.ownsRow base 28 2 v n (xs.flatMap biC)) (A : Option Addr) (m c : Nat) (ms : List Bi) (hm : m = ms.length) (hA : A = none → c = 0) {R : Nat → Prop} (hR : RowT biC w R A ms) (hb : n + m ≤ 1099511627776) (hbase : base ≤ w.heap.size) :
  ∃ v' w', (Builtin.append_ #[29, 29] 29 #[v, .slice A m c]).run Tryz.prog w = .ok v' w' ∧ w'.ownsRow base 28 2 v' (n + m) ((xs ++ ms).flatMap biC) ∧ w.grownBy w' v.ownBlock ∧ (v'.ownBlock = v.ownBlock ∨ v'.ownBlock = some w.heap.size) := by
 subst hm
 rcases A with _ | a
 ·obtain rfl := hA rfl
  have h0 : ms = [] := by
   by_cases hn : 0 < ms.length
   ·obtain ⟨_, _, e, _⟩ := hR hn; cases e
   ·exact List.eq_nil_of_length_eq_zero (by omega)
  subst h0
  exact ⟨v, w, run_append_owned_none (P := Tryz.prog) (w := w) base 29 29 28 i 2 Tryz.underlying29 hi v n (xs.flatMap biC) hown, by simpa using hown, World.grownBy.refl w _, .inl rfl⟩
 ·obtain ⟨v', w', hr, h2, h3, _, h5⟩ := run_append_own_at (P := Tryz.prog) (w := w) base 29 29 28 i _ 2 24 Tryz.underlying29 hi hz hsize hby rfl (by decide) v n (xs.flatMap biC) hown a ms.length c (ms.flatMap biC) (flat_length biC_length ms) (fun j u hj => by
    have hjl := (List.getElem?_eq_some_iff.1 hj).1
    rw [flat_length biC_length] at hjl
    obtain ⟨g, o, e, _, _, hc⟩ := hR (by omega)
    injection e with e
    subst e
    rw [Addr.add_lit]
    exact hc j u hj) (fun u hu => by
    obtain ⟨x, _, hx⟩ := List.mem_flatMap.1 hu
    simp [biC] at hx
    rcases hx with rfl | rfl <;> rfl) (by unfold maxLen; omega) (by omega) hbase
  rw [List.flatMap_append]
  exact ⟨v', w', hr, h2, h3, h5⟩
theorem own_only2 {w w' : World} {base e n : Nat} {v : Value} {xs : List Value} {R : Nat → Prop} (h : w.ownsRow base e 2 v n xs) (ho : Only R w w') (hd : ∀ g, v.ownBlock = some g → ¬ R g) : w'.ownsRow base e 2 v n xs := by
 refine ⟨h.1, ?_⟩
 rcases h.2 with h4 | ⟨g, cap, cur, hv, hg, hh, r⟩
 ·exact .inl h4
 ·exact .inr ⟨g, cap, cur, hv, hg, (ho.block g (Array.getElem?_eq_some_iff.1 hh).1 (hd g (by rw [hv]; rfl))).trans hh, r⟩
def SnocT (w : World) (ls : List Bi) (x : Bi) (A' : Option Addr) (c' : Nat) (w4 : World) : Prop :=
 Below w.heap.size w w4 ∧ RowT biC w4 (fun k => w.heap.size ≤ k ∧ k < w4.heap.size) A' (ls ++ [x]) ∧ ls.length + 1 ≤ c' ∧ c' ≤ maxLen ∧ (A' = none → c' = 0) ∧ ∀ a, A' = some a → w.heap.size ≤ a.block ∧ a.block < w4.heap.size
theorem SnocT.undrew {w : World} {ls : List Bi} {x : Bi} {A' : Option Addr} {c' : Nat} {w4 : World} (h : SnocT w.drew ls x A' c' w4) : SnocT w ls x A' c' w4 := ⟨⟨h.1.os, h.1.tape, h.1.output, h.1.size, h.1.block⟩, h.2⟩
theorem own_zero7 {w : World} {base g e : Nat} (hb : base ≤ g) (h : w.heap[g]? = some (.cells #[] e (0, 0))) : w.ownsRow base e 2 (.slice (some ⟨g, 0, none⟩) 0 0) 0 [] :=
 ⟨rfl, .inr ⟨g, 0, #[], rfl, hb, h, by simp, by unfold maxLen; omega, by simp, by simp⟩⟩
theorem snocT1 (w W1 : World) (ge : Nat) (A : Option Addr) (c : Nat) (ls : List Bi) (hge : w.heap.size ≤ ge) (he : W1.heap[ge]? = some (.cells #[] 28 (0, 0))) (hB : Below w.heap.size w W1) {D : Nat → Prop} (hR : RowT biC w D A ls) (hA : A = none → c = 0) (hl : ls.length ≤ 100000) :
  ∃ v2 w2, (Builtin.append_ #[29, 29] 29 #[.slice (some ⟨ge, 0, none⟩) 0 0, .slice A ls.length c]).run Tryz.prog W1 = .ok v2 w2 ∧ w2.ownsRow w.heap.size 28 2 v2 ls.length (ls.flatMap biC) ∧ Below w.heap.size w w2 ∧ Only (fun k => k = ge) W1 w2 ∧ ∀ g, v2.ownBlock = some g → g = ge ∨ g = W1.heap.size := by
 obtain ⟨i0, hi, hz0, hz1, hz2⟩ := info_parts infoB7
 obtain ⟨v2, w2, hr, ho, hg, hat⟩ := run_append_R W1 w.heap.size i0 hi hz0 hz1 hz2
  (.slice (some ⟨ge, 0, none⟩) 0 0) 0 [] rfl (own_zero7 hge he) A ls.length c ls rfl hA (hR.below hB) (by simp; omega) hB.size
 rw [Nat.zero_add, List.nil_append] at ho
 have hO : Only (fun k => k = ge) W1 w2 := Only.of_grown hg (fun k e => by injection e with e; exact e.symm)
 refine ⟨v2, w2, hr, ho, hB.trans (hO.below hB.size (fun i hi => by omega)), hO, fun g e => ?_⟩
 rcases hat with h | h
 ·rw [h] at e; injection e with e; exact .inl e.symm
 ·rw [h] at e; injection e with e; exact .inr e.symm
theorem snocT2 (w W2 W3 : World) (v2 : Value) (gx : Nat) (ls : List Bi) (x : Bi) (hown : W2.ownsRow w.heap.size 28 2 v2 ls.length (ls.flatMap biC)) (h23 : Below W2.heap.size W2 W3) (hB : Below w.heap.size w W3) (hx : Bx W3 gx 28 (.string (bs x.1)) (.int .i64 x.2)) (hl : ls.length ≤ 100000) :
  ∃ A' c' w4, (Builtin.append_ #[29, 29] 29 #[v2, .slice (some ⟨gx, 0, none⟩) 1 1]).run Tryz.prog W3 = .ok (.slice A' (ls.length + 1) c') w4 ∧ SnocT w ls x A' c' w4 := by
 obtain ⟨i0, hi, hz0, hz1, hz2⟩ := info_parts infoB7
 have ho3 : W3.ownsRow w.heap.size 28 2 v2 ls.length (ls.flatMap biC) := own_only2 hown (Only.of_below (R := fun _ => False) h23) (fun _ _ h => h)
 obtain ⟨v4, w4, hr, ho, hg, _⟩ := run_append_R W3 w.heap.size i0 hi hz0 hz1 hz2
  v2 ls.length ls rfl ho3 (some ⟨gx, 0, none⟩) 1 1 [x] rfl (fun e => by cases e) (R := fun _ => True) (fun _ => ⟨gx, 0, rfl, trivial, hx.lt, fun j v hj => by
   match j, hj with
   | 0, hj => simp [biC] at hj; subst hj; exact hx.c0
   | 1, hj => simp [biC] at hj; subst hj; exact hx.c1
   | j + 2, hj => simp [biC] at hj⟩) (by omega) hB.size
 obtain ⟨A', c', rfl⟩ := own_form ho
 have hv2 : ∀ g, v2.ownBlock = some g → w.heap.size ≤ g := fun g e => (ho3.lt g e).1
 have hlen : ls.length + 1 = (ls ++ [x]).length := by simp
 have hcap : ls.length + 1 ≤ c' ∧ c' ≤ maxLen ∧ (A' = none → c' = 0) := by
  rcases ho.2 with ⟨hv, h0⟩ | ⟨g, cap, cur, hv, _, _, hnc, hcm, _⟩
  ·omega
  ·injection hv with h1 _ h3
   subst h1; subst h3
   exact ⟨hnc, hcm, fun h => by cases h⟩
 refine ⟨A', c', w4, hr, hB.grown hg hB.size (fun k e => hv2 k e), ?_, hcap.1, hcap.2.1, hcap.2.2, fun a e => ?_⟩
 ·have h2 := ho
  rw [hlen] at h2
  exact rowT_of_own h2 (fun g hg => ho.lt g (by rw [hlen]; exact hg))
 ·subst e
  exact ho.lt a.block rfl
theorem snocTA (w : World) (A : Option Addr) (c : Nat) (ls : List Bi) (x : Bi) {D : Nat → Prop} (hR : RowT biC w D A ls) (hA : A = none → c = 0) (hl : ls.length ≤ 100000) :
  ∃ v2 w2, (Builtin.append_ #[29, 29] 29 #[.slice (some ⟨w.heap.size, 0, none⟩) 0 0, .slice A ls.length c]).run Tryz.prog (w.alloc (.cells #[] 28)) = .ok v2 w2 ∧ Below w.heap.size w w2 ∧ ∃ A' c' w4, (Builtin.append_ #[29, 29] 29 #[v2, .slice (some ⟨w2.heap.size, 0, none⟩) 1 1]).run Tryz.prog (w2.alloc (.cells #[.string (bs x.1), .int .i64 x.2] 28)) = .ok (.slice A' (ls.length + 1) c') w4 ∧ SnocT w ls x A' c' w4 := by
 obtain ⟨v2, w2, h1, h2, h3, _⟩ := snocT1 w (w.alloc (.cells #[] 28)) w.heap.size A c ls (Nat.le_refl _) (World.alloc_heap_new w _) ((Below.refl _ w).alloc (Nat.le_refl _) _) hR hA hl
 exact ⟨v2, w2, h1, h3, snocT2 w w2 (w2.alloc (.cells #[.string (bs x.1), .int .i64 x.2] 28)) v2 w2.heap.size ls x h2 ((Below.refl _ w2).alloc (Nat.le_refl _) _) (h3.alloc h3.size _) (Bx.new w2 _ _ _) hl⟩
theorem snocTB (w : World) (A : Option Addr) (c : Nat) (ls : List Bi) (x : Bi) {D : Nat → Prop} (hR : RowT biC w D A ls) (hA : A = none → c = 0) (hl : ls.length ≤ 100000) :
  ∃ v2 w2, (Builtin.append_ #[29, 29] 29 #[.slice (some ⟨w.heap.size, 0, none⟩) 0 0, .slice A ls.length c]).run Tryz.prog ((w.alloc (.cells #[] 28)).alloc (.cells #[.string (bs x.1), .int .i64 x.2] 28)) = .ok v2 w2 ∧ Below w.heap.size w w2 ∧ ∃ A' c' w4, (Builtin.append_ #[29, 29] 29 #[v2, .slice (some ⟨w.heap.size + 1, 0, none⟩) 1 1]).run Tryz.prog w2 = .ok (.slice A' (ls.length + 1) c') w4 ∧ SnocT w ls x A' c' w4 := by
 have hB : Below w.heap.size w ((w.alloc (.cells #[] 28)).alloc (.cells #[.string (bs x.1), .int .i64 x.2] 28)) := ((Below.refl _ w).alloc (Nat.le_refl _) _).alloc (by simp) _
 have hx : Bx ((w.alloc (.cells #[] 28)).alloc (.cells #[.string (bs x.1), .int .i64 x.2] 28)) (w.heap.size + 1) 28 (.string (bs x.1)) (.int .i64 x.2) := by
  have := Bx.new (w.alloc (.cells #[] 28)) 28 (.string (bs x.1)) (.int .i64 x.2)
  rwa [World.size_alloc] at this
 obtain ⟨v2, w2, h1, h2, h3, h4, _⟩ := snocT1 w _ w.heap.size A c ls (Nat.le_refl _) (by
  have := World.alloc_heap_new w (.cells #[] 28)
  exact (((Below.refl (w.alloc (.cells #[] 28)).heap.size _).alloc (Nat.le_refl _) (.cells #[.string (bs x.1), .int .i64 x.2] 28)).block _ (by simp)).trans this) hB hR hA hl
 exact ⟨v2, w2, h1, h3, snocT2 w w2 w2 v2 (w.heap.size + 1) ls x h2 (Below.refl _ _) h3 ((h4.block _ hx.lt (by show ¬ w.heap.size + 1 = w.heap.size; omega)).trans hx) hl⟩
theorem snocTC (w : World) (A : Option Addr) (c : Nat) (ls : List Bi) (x : Bi) {D : Nat → Prop} (hR : RowT biC w D A ls) (hA : A = none → c = 0) (hl : ls.length ≤ 100000) :
  ∃ v2 w2, (Builtin.append_ #[29, 29] 29 #[.slice (some ⟨w.heap.size + 1, 0, none⟩) 0 0, .slice A ls.length c]).run Tryz.prog ((w.alloc (.cells #[.string (bs x.1), .int .i64 x.2] 28)).alloc (.cells #[] 28)) = .ok v2 w2 ∧ Below w.heap.size w w2 ∧ ∃ A' c' w4, (Builtin.append_ #[29, 29] 29 #[v2, .slice (some ⟨w.heap.size, 0, none⟩) 1 1]).run Tryz.prog w2 = .ok (.slice A' (ls.length + 1) c') w4 ∧ SnocT w ls x A' c' w4 := by
 have hB : Below w.heap.size w ((w.alloc (.cells #[.string (bs x.1), .int .i64 x.2] 28)).alloc (.cells #[] 28)) := ((Below.refl _ w).alloc (Nat.le_refl _) _).alloc (by simp) _
 have hx : Bx ((w.alloc (.cells #[.string (bs x.1), .int .i64 x.2] 28)).alloc (.cells #[] 28)) w.heap.size 28 (.string (bs x.1)) (.int .i64 x.2) := (Bx.new w _ _ _).alloc _
 obtain ⟨v2, w2, h1, h2, h3, h4, _⟩ := snocT1 w _ (w.heap.size + 1) A c ls (Nat.le_succ _) (by
  have := World.alloc_heap_new (w.alloc (.cells #[.string (bs x.1), .int .i64 x.2] 28)) (.cells #[] 28)
  rwa [World.size_alloc] at this) hB hR hA hl
 exact ⟨v2, w2, h1, h3, snocT2 w w2 w2 v2 w.heap.size ls x h2 (Below.refl _ _) h3 ((h4.block _ hx.lt (by show ¬ w.heap.size = w.heap.size + 1; omega)).trans hx) hl⟩
end
section
open Go Go.RowKit
open Go.Lib (hid)
set_option maxRecDepth 100000
theorem boxes7b (w : World) (r : DR) (d : DS) (b : Bi) : ∃ W2, ((w.alloc (.cells #[.string (bs d.now.1), .int .i64 d.now.2, .slice r.A1 d.back.length r.c1, .slice r.A2 d.forth.length r.c2, .bool d.opn, .slice r.A3 d.kills.length r.c3, .int .i64 d.top, .int .i64 d.last, .int .i64 d.fr, .int .i64 d.to_] 32)).alloc (.cells #[.string (bs b.1), .int .i64 b.2] 28)).alloc (.cells #[.string ⟨#[]⟩, .int .i64 0, .slice none 0 0, .slice none 0 0, .bool false, .slice none 0 0, .int .i64 0, .int .i64 0, .int .i64 0, .int .i64 0] 32) = W2 ∧ Below w.heap.size w W2 ∧ W2.heap.size = w.heap.size + 3 ∧
  BxA W2 w.heap.size 32 (dsK r d) ∧ Bx W2 (w.heap.size + 1) 28 (.string (bs b.1)) (.int .i64 b.2) ∧ BxA W2 (w.heap.size + 1 + 1) 32 dsZ := by
 refine ⟨_, rfl, (((Below.refl _ w).alloc (Nat.le_refl _) _).alloc (by simp) _).alloc (by simp; omega) _, by simp, ((BxA.new w _ (dsK r d)).alloc _).alloc _, ?_, ?_⟩
 ·have := (Bx.new (w.alloc (.cells #[.string (bs d.now.1), .int .i64 d.now.2, .slice r.A1 d.back.length r.c1, .slice r.A2 d.forth.length r.c2, .bool d.opn, .slice r.A3 d.kills.length r.c3, .int .i64 d.top, .int .i64 d.last, .int .i64 d.fr, .int .i64 d.to_] 32)) 28 (.string (bs b.1)) (.int .i64 b.2)).alloc (.cells #[.string ⟨#[]⟩, .int .i64 0, .slice none 0 0, .slice none 0 0, .bool false, .slice none 0 0, .int .i64 0, .int .i64 0, .int .i64 0, .int .i64 0] 32)
  rwa [World.size_alloc] at this
 ·have := BxA.new ((w.alloc (.cells #[.string (bs d.now.1), .int .i64 d.now.2, .slice r.A1 d.back.length r.c1, .slice r.A2 d.forth.length r.c2, .bool d.opn, .slice r.A3 d.kills.length r.c3, .int .i64 d.top, .int .i64 d.last, .int .i64 d.fr, .int .i64 d.to_] 32)).alloc (.cells #[.string (bs b.1), .int .i64 b.2] 28)) 32 dsZ
  rwa [World.size_alloc, World.size_alloc] at this
set_option maxHeartbeats 4000000 in
theorem dwrite_same (w : World) (D : Nat → Prop) (r : DR) (d : DS) (B : Nat) (h : DsAt w D r d) (hok : d.Ok B) (g : Bool) :
  Calls Tryz.prog 61 #[dsV r d, biV d.now, .bool g] w fun e w' => ∃ r' d', e = .returned (dsV r' d') ∧ DsTo w D B w' r' d' := by
 obtain ⟨W2, hW2, hB2, hs2, hb0, hb1, hb2⟩ := boxes7b w r d d.now
 obtain ⟨q, hq⟩ : ∃ q, (d.opn && g) = q := ⟨_, rfl⟩
 obtain ⟨W3, hW3⟩ : ∃ W3, W2.setCell ⟨w.heap.size, 4, none⟩ (.bool q) = W3 := ⟨_, rfl⟩
 have hb3 : BxA W3 w.heap.size 32 [.string (bs d.now.1), .int .i64 d.now.2, .slice r.A1 d.back.length r.c1, .slice r.A2 d.forth.length r.c2, .bool q, .slice r.A3 d.kills.length r.c3, .int .i64 d.top, .int .i64 d.last, .int .i64 d.fr, .int .i64 d.to_] := by rw [← hW3]; exact hb0.set 4 _
 have hm3 : BxA W3 (w.heap.size + 1 + 1) 32 dsZ := by rw [← hW3]; exact hb2.other (by omega) _
 have k0 := hb0.c 0 rfl
 have k1 := hb0.c 1 rfl
 have k4 := hb0.c 4 rfl
 have g4 := hb0.free 4
 have j0 := hb1.c0
 have j1 := hb1.c1
 have c0 := hb3.c 0 rfl
 have c1 := hb3.c 1 rfl
 have c2 := hb3.c 2 rfl
 have c3 := hb3.c 3 rfl
 have c4 := hb3.c 4 rfl
 have c5 := hb3.c 5 rfl
 have c6 := hb3.c 6 rfl
 have c7 := hb3.c 7 rfl
 have c8 := hb3.c 8 rfl
 have c9 := hb3.c 9 rfl
 have e0 := hm3.c 0 rfl
 have e1 := hm3.c 1 rfl
 have e2 := hm3.c 2 rfl
 have e3 := hm3.c 3 rfl
 have e4 := hm3.c 4 rfl
 have e5 := hm3.c 5 rfl
 have e6 := hm3.c 6 rfl
 have e7 := hm3.c 7 rfl
 have e8 := hm3.c 8 rfl
 have e9 := hm3.c 9 rfl
 have f0 := hm3.free 0
 have f1 := hm3.free 1
 have f2 := hm3.free 2
 have f3 := hm3.free 3
 have f4 := hm3.free 4
 have f5 := hm3.free 5
 have f6 := hm3.free 6
 have f7 := hm3.free 7
 have f8 := hm3.free 8
 have f9 := hm3.free 9
 have HX := hid hm3
 have HD := hid h
 have HO := hid hok
 have HB : Hid (Below w.heap.size w W3) := hid (by rw [← hW3]; exact hB2.setCell (p := ⟨w.heap.size, 4, none⟩) (Nat.le_refl _) _)
 clear hb0 hb1 hb2 hm3 hb3 hB2 hs2 h hok
 unfold dsV biV
 cases hop : d.opn with
 | true =>
  obtain rfl : g = q := by rw [← hq, hop, Bool.true_and]
  rw [hop] at hW2 k4
  clear hq
  go_enter Tryz.func61, Tryz.ntmps61
  go_wp2_with fail
  refine bodyPost_ret (results_bx10 rfl _ _ ((w.heap.size + 1 + 1)) _ _ _ _ _ _ _ _ _ _ 32 rfl (ten_box HX.out _ _ _ _ _ _ _ _ _ _) Tryz.underlying32 (szS _)) rfl ?_
  refine ⟨r, ⟨d.now, d.back, d.forth, g, d.kills, d.top, d.last, d.fr, d.to_⟩, rfl, D, (HD.out.below (HB.out.trans ((ten_only W3 _ _ _ _ _ _ _ _ _ _ _).below HB.out.size (fun i (hi : i = _) => by omega)))).same rfl rfl rfl, ⟨HO.out.now, HO.out.back, HO.out.forth, HO.out.len, HO.out.kills, HO.out.small, HO.out.top⟩, fun k hk => .inl hk, (HB.out.trans ((ten_only W3 _ _ _ _ _ _ _ _ _ _ _).below HB.out.size (fun i (hi : i = _) => by omega)))⟩
 | false =>
  obtain rfl : false = q := by rw [← hq, hop, Bool.false_and]
  rw [hop] at hW2 k4
  clear hq
  go_enter Tryz.func61, Tryz.ntmps61
  go_wp2_with fail
  refine bodyPost_ret (results_bx10 rfl _ _ ((w.heap.size + 1 + 1)) _ _ _ _ _ _ _ _ _ _ 32 rfl (ten_box HX.out _ _ _ _ _ _ _ _ _ _) Tryz.underlying32 (szS _)) rfl ?_
  refine ⟨r, ⟨d.now, d.back, d.forth, false, d.kills, d.top, d.last, d.fr, d.to_⟩, rfl, D, (HD.out.below (HB.out.trans ((ten_only W3 _ _ _ _ _ _ _ _ _ _ _).below HB.out.size (fun i (hi : i = _) => by omega)))).same rfl rfl rfl, ⟨HO.out.now, HO.out.back, HO.out.forth, HO.out.len, HO.out.kills, HO.out.small, HO.out.top⟩, fun k hk => .inl hk, (HB.out.trans ((ten_only W3 _ _ _ _ _ _ _ _ _ _ _).below HB.out.size (fun i (hi : i = _) => by omega)))⟩
theorem equal7 (x y : Bi) (W : World) : (binOp .eql 28 (.agg #[.string (bs x.1), .int .i64 x.2]) (.agg #[.string (bs y.1), .int .i64 y.2])).run Tryz.prog W = .ok (.bool (decide (x = y))) W := by
 obtain ⟨a, n⟩ := x
 obtain ⟨b, m⟩ := y
 have h1 := Tryz.underlying28
 have h2 := Tryz.underlying9
 have h3 := Tryz.underlying3
 rw [run_eql_struct]
 go_simp
 by_cases e1 : a = b <;> by_cases e2 : n = m <;> simp [e1, e2]
theorem cmp_ne7 {x y : Bi} (h : x ≠ y) : ∀ W : World, (binOp .eql 28 (.agg #[.string (bs x.1), .int .i64 x.2]) (.agg #[.string (bs y.1), .int .i64 y.2])).run Tryz.prog W = .ok (.bool false) W := fun W => by
 have e := equal7 x y W
 rw [decide_eq_false h] at e
 exact e
set_option maxHeartbeats 4000000 in
theorem dwrite_open (w : World) (D : Nat → Prop) (r : DR) (d : DS) (B : Nat) (h : DsAt w D r d) (hok : d.Ok B) (b : Bi) (hbl : b.1.length ≤ 600) (hne : b ≠ d.now) (hop : d.opn = true) :
  Calls Tryz.prog 61 #[dsV r d, biV b, .bool true] w fun e w' => ∃ r' d', e = .returned (dsV r' d') ∧ DsTo w D B w' r' d' := by
 obtain ⟨W2, hW2, hB2, hs2, hb0, hb1, hb2⟩ := boxes7b w r d b
 have hcmp := cmp_ne7 hne
 obtain ⟨W3, hW3⟩ : ∃ W3, (((W2.setCell ⟨w.heap.size, 3, none⟩ (.slice none 0 0)).setCell ⟨w.heap.size, 0, none⟩ (.string (bs b.1))).setCell ⟨w.heap.size, 1, none⟩ (.int .i64 b.2)).setCell ⟨w.heap.size, 4, none⟩ (.bool true) = W3 := ⟨_, rfl⟩
 rw [hop] at hW2
 have hb3 : BxA W3 w.heap.size 32 [.string (bs b.1), .int .i64 b.2, .slice r.A1 d.back.length r.c1, .slice none 0 0, .bool true, .slice r.A3 d.kills.length r.c3, .int .i64 d.top, .int .i64 d.last, .int .i64 d.fr, .int .i64 d.to_] := by rw [← hW3]; exact (((hb0.set 3 _).set 0 _).set 1 _).set 4 _
 have hm3 : BxA W3 (w.heap.size + 1 + 1) 32 dsZ := by rw [← hW3]; exact (((hb2.other (by omega) _).other (by omega) _).other (by omega) _).other (by omega) _
 have k0 := hb0.c 0 rfl
 have k1 := hb0.c 1 rfl
 have k2 := hb0.c 2 rfl
 have k3 := hb0.c 3 rfl
 have k4 := hb0.c 4 rfl
 have k5 := hb0.c 5 rfl
 have k6 := hb0.c 6 rfl
 have k7 := hb0.c 7 rfl
 have k8 := hb0.c 8 rfl
 have k9 := hb0.c 9 rfl
 have g0 := hb0.free 0
 have g1 := hb0.free 1
 have g3 := hb0.free 3
 have g4 := hb0.free 4
 have j0 := hb1.c0
 have j1 := hb1.c1
 have c0 := hb3.c 0 rfl
 have c1 := hb3.c 1 rfl
 have c2 := hb3.c 2 rfl
 have c3 := hb3.c 3 rfl
 have c4 := hb3.c 4 rfl
 have c5 := hb3.c 5 rfl
 have c6 := hb3.c 6 rfl
 have c7 := hb3.c 7 rfl
 have c8 := hb3.c 8 rfl
 have c9 := hb3.c 9 rfl
 have e0 := hm3.c 0 rfl
 have e1 := hm3.c 1 rfl
 have e2 := hm3.c 2 rfl
 have e3 := hm3.c 3 rfl
 have e4 := hm3.c 4 rfl
 have e5 := hm3.c 5 rfl
 have e6 := hm3.c 6 rfl
 have e7 := hm3.c 7 rfl
 have e8 := hm3.c 8 rfl
 have e9 := hm3.c 9 rfl
 have f0 := hm3.free 0
 have f1 := hm3.free 1
 have f2 := hm3.free 2
 have f3 := hm3.free 3
 have f4 := hm3.free 4
 have f5 := hm3.free 5
 have f6 := hm3.free 6
 have f7 := hm3.free 7
 have f8 := hm3.free 8
 have f9 := hm3.free 9
 have HX := hid hm3
 have HD := hid h
 have HO := hid hok
 have HB : Hid (Below w.heap.size w W3) := hid (by rw [← hW3]; exact (((hB2.setCell (p := ⟨w.heap.size, 3, none⟩) (Nat.le_refl _) _).setCell (p := ⟨w.heap.size, 0, none⟩) (Nat.le_refl _) _).setCell (p := ⟨w.heap.size, 1, none⟩) (Nat.le_refl _) _).setCell (p := ⟨w.heap.size, 4, none⟩) (Nat.le_refl _) _)
 rw [hop] at k4
 clear hb0 hb1 hb2 hm3 hb3 hB2 hs2 h hok hne
 unfold dsV biV
 rw [hop]
 go_enter Tryz.func61, Tryz.ntmps61
 go_wp2_with fail
 refine bodyPost_ret (results_bx10 rfl _ _ ((w.heap.size + 1 + 1)) _ _ _ _ _ _ _ _ _ _ 32 rfl (ten_box HX.out _ _ _ _ _ _ _ _ _ _) Tryz.underlying32 (szS _)) rfl ?_
 exact ⟨⟨r.A1, r.c1, none, 0, r.A3, r.c3⟩, ⟨b, d.back, [], true, d.kills, d.top, d.last, d.fr, d.to_⟩, rfl, D, ⟨fun k hk => Nat.lt_of_lt_of_le (HD.out.lt k hk) (HB.out.trans ((ten_only W3 _ _ _ _ _ _ _ _ _ _ _).below HB.out.size (fun i (hi : i = _) => by omega))).size, (HD.out.below (HB.out.trans ((ten_only W3 _ _ _ _ _ _ _ _ _ _ _).below HB.out.size (fun i (hi : i = _) => by omega)))).back, RowD.empty _ _ _, (HD.out.below (HB.out.trans ((ten_only W3 _ _ _ _ _ _ _ _ _ _ _).below HB.out.size (fun i (hi : i = _) => by omega)))).kills⟩, ⟨hbl, HO.out.back, (fun _ hx => absurd hx List.not_mem_nil), (by have := HO.out.len; show d.back.length + 0 ≤ 32; omega), HO.out.kills, HO.out.small, HO.out.top⟩, fun k hk => .inl hk, (HB.out.trans ((ten_only W3 _ _ _ _ _ _ _ _ _ _ _).below HB.out.size (fun i (hi : i = _) => by omega)))⟩
end
end Go.Proofs.YtoaponaljkhlfaaGreatDoor
