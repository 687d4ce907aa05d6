/-
  The document's own Swap: what the call comes to.
-/
import Derived.Test.YtifdgaklchihbaaDoorSwaps
import Derived.BigRegion
namespace Go.Proofs.YtifdgaklchihbaaDoor
open Go Go.RowKit

set_option maxHeartbeats 4000000 in
theorem rswap_zero (l : List UInt8) (n : Int) (hl : l.length ≤ 137438953472) (w : World) (k : Nat) (hk : k ≤ (cutL (mS l)).length) (hak : mA l n = pos (cutL (mS l)) k) (hz : k = 0) :
    Calls Tryd.prog 23 #[.agg #[.string (bs l), .int .i64 n]] w fun e w' => e = .returned (.tuple #[.agg #[.string (bs (mS l)), .int .i64 (mA l n : Int)], .bool false]) ∧ Below w.heap.size w w' := by
  have HM := Lib.hid (fun W => rmake_calls l n hl W)
  have ha := mA_le l n
  have hms := mS_len l
  have hcl := cutL_length (mS l)
  have HC1 := Lib.hid (fun W => rcut_calls (mS l) W (by omega))
  have htk : cutL ((mS l).take (mA l n)) = (cutL (mS l)).take k := by
    have h1 := take_pos (cutL (mS l)) k
    rw [cutL_flatten] at h1
    rw [hak, h1, cut_takeK (mS_P l)]
  have HC2 := Lib.hid (fun W => rcut_rd ((mS l).take (mA l n)) (by have := take_len_le (mS l) (mA l n); omega) W)
  rw [htk, List.length_take, Nat.min_eq_left hk] at HC2
  have hx := bs_take (mS l) (mA l n)
  clear hak htk
  generalize cutL (mS l) = cs at *
  generalize (mS l).take (mA l n) = y at *
  generalize mA l n = a at *
  generalize mS l = m at *
  have hszm := bs_size m
  have hi0 : (0 : Int) ≤ (a : Int) := by omega
  have hi1 : (a : Int) ≤ (m.length : Int) := by omega
  have k0 : Below w.heap.size w ((w.alloc (.cells #[.string (bs l), .int .i64 n] 27)).alloc (.cells #[.string ⟨#[]⟩, .int .i64 0] 27)) := ((Below.refl _ w).alloc (Nat.le_refl _) _).alloc (by simp) _
  have b0 := (Bx.new w 27 (.string (bs l)) (.int .i64 n)).alloc (.cells #[.string ⟨#[]⟩, .int .i64 0] 27)
  have r0 := Bx.new (w.alloc (.cells #[.string (bs l), .int .i64 n] 27)) 27 (.string ⟨#[]⟩) (.int .i64 0)
  rw [World.size_alloc] at r0
  have c00 := b0.c0
  have c01 := b0.c1
  go_enter Tryd.func23, Tryd.ntmps23
  go_wp2_with fail
  refine (HM.out _).mono ?_
  rintro e w1 ⟨rfl, hb1⟩
  have k1 := k0.trans (hb1.mono k0.size)
  have b1 := b0.below hb1
  have r1 := r0.below hb1
  clear hb1 c00 c01 b0 r0 k0
  have c10 := b1.c0
  have c11 := b1.c1
  have f10 := b1.f0
  have f11 := b1.f1
  have b3 := (b1.set0 (.string (bs m))).set1 (.int .i64 (a : Int))
  have r3 := (r1.other (i := 0) (Nat.succ_ne_self _) (.string (bs m))).other (i := 1) (Nat.succ_ne_self _) (.int .i64 (a : Int))
  have k3 := (k1.setCell (p := ⟨w.heap.size, 0, none⟩) (Nat.le_refl _) (.string (bs m))).setCell (p := ⟨w.heap.size, 1, none⟩) (Nat.le_refl _) (.int .i64 (a : Int))
  have B3 := Lib.hid b3
  have R3 := Lib.hid r3
  have K3 := Lib.hid k3
  have hz3 := r3.lt
  clear b3 r3 k3 b1 r1 k1
  go_wp2_with fail
  refine (HC1.out _).mono ?_
  rintro e w4 ⟨v4, rfl, hown4, hb4⟩
  obtain ⟨A4, c4, rfl⟩ := own_form hown4
  have k4 := K3.out.trans (hb4.mono K3.out.size)
  have b4 := B3.out.below hb4
  have r4 := R3.out.below hb4
  have hown4' := own_less hown4 (show w.heap.size + 2 ≤ _ by have := hz3; omega)
  clear hb4 c10 c11 f10 f11 hown4 hz3
  have c40 := b4.c0
  have c41 := b4.c1
  have Hown4 := Lib.hid hown4'
  clear hown4'
  go_wp2_with fail
  refine (HC2.out _).mono ?_
  rintro e w5 ⟨A5, c5, rfl, _, hb5⟩
  have k5 := k4.trans (hb5.mono k4.size)
  have b5 := b4.below hb5
  have r5 := r4.below hb5
  have Hown5 := Lib.hid (own_below Hown4.out hb5)
  clear hb5 k4 b4 r4 c40 c41 Hown4
  have K5 := Lib.hid k5
  have R5 := Lib.hid r5
  have B5 := Lib.hid b5
  clear k5 r5 b5
  have hkz : ((k : Int) == 0) = true := by rw [beq_iff_eq]; omega
  clear hz
  have c50 := B5.out.c0
  have c51 := B5.out.c1
  have r50 := R5.out.c0
  have r51 := R5.out.c1
  have q50 := R5.out.f0
  have q51 := R5.out.f1
  go_wp2
  refine bodyPost_ret (results_bx2 rfl _ _ (w.heap.size + 1) (.string (bs m)) (.int .i64 (a : Int)) 27 rfl ((R5.out.set0 _).set1 _) Tryd.underlying27 (sizeRBuf _)) rfl ?_
  exact ⟨rfl, (K5.out.setCell (p := ⟨w.heap.size + 1, 0, none⟩) (Nat.le_succ _) _).setCell (p := ⟨w.heap.size + 1, 1, none⟩) (Nat.le_succ _) _⟩

set_option maxHeartbeats 4000000 in
theorem rswap_few (l : List UInt8) (n : Int) (hl : l.length ≤ 137438953472) (w : World) (k : Nat) (hk : k ≤ (cutL (mS l)).length) (hak : mA l n = pos (cutL (mS l)) k) (hz : ¬ k = 0) (h2 : (cutL (mS l)).length < 2) :
    Calls Tryd.prog 23 #[.agg #[.string (bs l), .int .i64 n]] w fun e w' => e = .returned (.tuple #[.agg #[.string (bs (mS l)), .int .i64 (mA l n : Int)], .bool false]) ∧ Below w.heap.size w w' := by
  have HM := Lib.hid (fun W => rmake_calls l n hl W)
  have ha := mA_le l n
  have hms := mS_len l
  have hcl := cutL_length (mS l)
  have HC1 := Lib.hid (fun W => rcut_calls (mS l) W (by omega))
  have htk : cutL ((mS l).take (mA l n)) = (cutL (mS l)).take k := by
    have h1 := take_pos (cutL (mS l)) k
    rw [cutL_flatten] at h1
    rw [hak, h1, cut_takeK (mS_P l)]
  have HC2 := Lib.hid (fun W => rcut_rd ((mS l).take (mA l n)) (by have := take_len_le (mS l) (mA l n); omega) W)
  rw [htk, List.length_take, Nat.min_eq_left hk] at HC2
  have hx := bs_take (mS l) (mA l n)
  clear hak htk
  generalize cutL (mS l) = cs at *
  generalize (mS l).take (mA l n) = y at *
  generalize mA l n = a at *
  generalize mS l = m at *
  have hszm := bs_size m
  have hi0 : (0 : Int) ≤ (a : Int) := by omega
  have hi1 : (a : Int) ≤ (m.length : Int) := by omega
  have k0 : Below w.heap.size w ((w.alloc (.cells #[.string (bs l), .int .i64 n] 27)).alloc (.cells #[.string ⟨#[]⟩, .int .i64 0] 27)) := ((Below.refl _ w).alloc (Nat.le_refl _) _).alloc (by simp) _
  have b0 := (Bx.new w 27 (.string (bs l)) (.int .i64 n)).alloc (.cells #[.string ⟨#[]⟩, .int .i64 0] 27)
  have r0 := Bx.new (w.alloc (.cells #[.string (bs l), .int .i64 n] 27)) 27 (.string ⟨#[]⟩) (.int .i64 0)
  rw [World.size_alloc] at r0
  have c00 := b0.c0
  have c01 := b0.c1
  go_enter Tryd.func23, Tryd.ntmps23
  go_wp2_with fail
  refine (HM.out _).mono ?_
  rintro e w1 ⟨rfl, hb1⟩
  have k1 := k0.trans (hb1.mono k0.size)
  have b1 := b0.below hb1
  have r1 := r0.below hb1
  clear hb1 c00 c01 b0 r0 k0
  have c10 := b1.c0
  have c11 := b1.c1
  have f10 := b1.f0
  have f11 := b1.f1
  have b3 := (b1.set0 (.string (bs m))).set1 (.int .i64 (a : Int))
  have r3 := (r1.other (i := 0) (Nat.succ_ne_self _) (.string (bs m))).other (i := 1) (Nat.succ_ne_self _) (.int .i64 (a : Int))
  have k3 := (k1.setCell (p := ⟨w.heap.size, 0, none⟩) (Nat.le_refl _) (.string (bs m))).setCell (p := ⟨w.heap.size, 1, none⟩) (Nat.le_refl _) (.int .i64 (a : Int))
  have B3 := Lib.hid b3
  have R3 := Lib.hid r3
  have K3 := Lib.hid k3
  have hz3 := r3.lt
  clear b3 r3 k3 b1 r1 k1
  go_wp2_with fail
  refine (HC1.out _).mono ?_
  rintro e w4 ⟨v4, rfl, hown4, hb4⟩
  obtain ⟨A4, c4, rfl⟩ := own_form hown4
  have k4 := K3.out.trans (hb4.mono K3.out.size)
  have b4 := B3.out.below hb4
  have r4 := R3.out.below hb4
  have hown4' := own_less hown4 (show w.heap.size + 2 ≤ _ by have := hz3; omega)
  clear hb4 c10 c11 f10 f11 hown4 hz3
  have c40 := b4.c0
  have c41 := b4.c1
  have Hown4 := Lib.hid hown4'
  clear hown4'
  go_wp2_with fail
  refine (HC2.out _).mono ?_
  rintro e w5 ⟨A5, c5, rfl, _, hb5⟩
  have k5 := k4.trans (hb5.mono k4.size)
  have b5 := b4.below hb5
  have r5 := r4.below hb5
  have Hown5 := Lib.hid (own_below Hown4.out hb5)
  clear hb5 k4 b4 r4 c40 c41 Hown4
  have K5 := Lib.hid k5
  have R5 := Lib.hid r5
  have B5 := Lib.hid b5
  clear k5 r5 b5
  have hkz : ((k : Int) == 0) = false := beq_eq_false_iff_ne.2 (by omega)
  have hd2 : decide ((cs.length : Int) < 2) = true := decide_eq_true (by omega)
  clear hz
  have c50 := B5.out.c0
  have c51 := B5.out.c1
  have r50 := R5.out.c0
  have r51 := R5.out.c1
  have q50 := R5.out.f0
  have q51 := R5.out.f1
  go_wp2
  refine bodyPost_ret (results_bx2 rfl _ _ (w.heap.size + 1) (.string (bs m)) (.int .i64 (a : Int)) 27 rfl ((R5.out.set0 _).set1 _) Tryd.underlying27 (sizeRBuf _)) rfl ?_
  exact ⟨rfl, (K5.out.setCell (p := ⟨w.heap.size + 1, 0, none⟩) (Nat.le_succ _) _).setCell (p := ⟨w.heap.size + 1, 1, none⟩) (Nat.le_succ _) _⟩

set_option maxHeartbeats 4000000 in
theorem rswap_n (l : List UInt8) (n : Int) (hl : l.length ≤ 137438953472) (w : World) (k : Nat) (hk : k ≤ (cutL (mS l)).length) (hak : mA l n = pos (cutL (mS l)) k) (i : Nat) (hi : i + 1 < (cutL (mS l)).length) (hki : k = i + 1) :
    Calls Tryd.prog 23 #[.agg #[.string (bs l), .int .i64 n]] w fun e w' => e = .returned (.tuple #[.agg #[.string (bs (swL (cutL (mS l)) (i + 1)).flatten), .int .i64 (onL (swL (cutL (mS l)) (i + 1)).flatten ((((swL (cutL (mS l)) (i + 1)).take (i + 1 + 1)).flatten.length : Nat) : Int) : Int)], .bool true]) ∧ Below w.heap.size w w' := by
  have HM := Lib.hid (fun W => rmake_calls l n hl W)
  have ha := mA_le l n
  have hms := mS_len l
  have hcl := cutL_length (mS l)
  have HC1 := Lib.hid (fun W => rcut_calls (mS l) W (by omega))
  have htk : cutL ((mS l).take (mA l n)) = (cutL (mS l)).take k := by
    have h1 := take_pos (cutL (mS l)) k
    rw [cutL_flatten] at h1
    rw [hak, h1, cut_takeK (mS_P l)]
  have HC2 := Lib.hid (fun W => rcut_rd ((mS l).take (mA l n)) (by have := take_len_le (mS l) (mA l n); omega) W)
  rw [htk, List.length_take, Nat.min_eq_left hk] at HC2
  have hx := bs_take (mS l) (mA l n)
  have hfl : (swL (cutL (mS l)) (i + 1)).flatten.length = (mS l).length := by
    rw [swL_flatten _ (i + 1) (by omega) hi, Nat.add_sub_cancel]
    have e := congrArg List.length (cutL_flatten (mS l))
    have p0 : (mS l).length = pos (cutL (mS l)) (i + 1 + 1) + ((cutL (mS l)).drop (i + 1 + 1)).flatten.length := by
      rw [← e]
      conv => lhs; rw [pos_split (cutL (mS l)) (i + 1 + 1), List.length_append]
      rfl
    have p1 := pos_succ (cutL (mS l)) (i + 1) hi
    have p2 := pos_succ (cutL (mS l)) i (by omega)
    rw [List.flatten_append, List.flatten_append, List.length_append, List.length_append, p0, p1, p2]
    simp [pos]
    omega
  have HO := Lib.hid (fun W => ron_calls (swL (cutL (mS l)) (i + 1)).flatten ((((swL (cutL (mS l)) (i + 1)).take (i + 1 + 1)).flatten.length : Nat) : Int) (by omega) W)
  have hsl : (swL (cutL (mS l)) (i + 1)).length = (cutL (mS l)).length := by simp [swL]
  have hTfl := hfl
  clear hak htk
  generalize cutL (mS l) = cs at *
  generalize (mS l).take (mA l n) = y at *
  generalize mA l n = a at *
  generalize mS l = m at *
  have Hsw : Hid (((cellsS (cs.map bs)).set i (.string (bs (cs.getD (i + 1) [])))).set (i + 1) (.string (bs (cs.getD i []))) = cellsS ((swL cs (i + 1)).map bs)) := Lib.hid (by simp [cellsS, swL, List.map_set])
  generalize swL cs (i + 1) = T at *
  have hTq : ∀ q, (T.take q).flatten.length ≤ m.length := fun q => by have := pos_le T q; unfold pos at this; omega
  have HTq := Lib.hid hTq
  have Hen : Hid (∃ en, en = (T.take (i + 1 + 1)).flatten.length) := Lib.hid ⟨_, rfl⟩
  obtain ⟨en, hen⟩ := Hen.out
  rw [← hen] at HO ⊢
  have HEn := Lib.hid hen
  have hen2 := hTq (i + 1 + 1)
  rw [← hen] at hen2
  clear Hen hen hTq
  have HZ : Hid (∃ z, z = T.flatten) := Lib.hid ⟨_, rfl⟩
  obtain ⟨z, hz⟩ := HZ.out
  rw [← hz] at HO hfl ⊢
  have HZe := Lib.hid hz
  clear HZ hz
  generalize onL z (en : Int) = x at *
  have hszm := bs_size m
  have hi0 : (0 : Int) ≤ (a : Int) := by omega
  have hi1 : (a : Int) ≤ (m.length : Int) := by omega
  have k0 : Below w.heap.size w ((w.alloc (.cells #[.string (bs l), .int .i64 n] 27)).alloc (.cells #[.string ⟨#[]⟩, .int .i64 0] 27)) := ((Below.refl _ w).alloc (Nat.le_refl _) _).alloc (by simp) _
  have b0 := (Bx.new w 27 (.string (bs l)) (.int .i64 n)).alloc (.cells #[.string ⟨#[]⟩, .int .i64 0] 27)
  have r0 := Bx.new (w.alloc (.cells #[.string (bs l), .int .i64 n] 27)) 27 (.string ⟨#[]⟩) (.int .i64 0)
  rw [World.size_alloc] at r0
  have c00 := b0.c0
  have c01 := b0.c1
  go_enter Tryd.func23, Tryd.ntmps23
  go_wp2_with fail
  refine (HM.out _).mono ?_
  rintro e w1 ⟨rfl, hb1⟩
  have k1 := k0.trans (hb1.mono k0.size)
  have b1 := b0.below hb1
  have r1 := r0.below hb1
  clear hb1 c00 c01 b0 r0 k0
  have c10 := b1.c0
  have c11 := b1.c1
  have f10 := b1.f0
  have f11 := b1.f1
  have b3 := (b1.set0 (.string (bs m))).set1 (.int .i64 (a : Int))
  have r3 := (r1.other (i := 0) (Nat.succ_ne_self _) (.string (bs m))).other (i := 1) (Nat.succ_ne_self _) (.int .i64 (a : Int))
  have k3 := (k1.setCell (p := ⟨w.heap.size, 0, none⟩) (Nat.le_refl _) (.string (bs m))).setCell (p := ⟨w.heap.size, 1, none⟩) (Nat.le_refl _) (.int .i64 (a : Int))
  have B3 := Lib.hid b3
  have R3 := Lib.hid r3
  have K3 := Lib.hid k3
  have hz3 := r3.lt
  clear b3 r3 k3 b1 r1 k1
  go_wp2_with fail
  refine (HC1.out _).mono ?_
  rintro e w4 ⟨v4, rfl, hown4, hb4⟩
  obtain ⟨A4, c4, rfl⟩ := own_form hown4
  have k4 := K3.out.trans (hb4.mono K3.out.size)
  have b4 := B3.out.below hb4
  have r4 := R3.out.below hb4
  have hown4' := own_less hown4 (show w.heap.size + 2 ≤ _ by have := hz3; omega)
  clear hb4 c10 c11 f10 f11 hown4 hz3
  have c40 := b4.c0
  have c41 := b4.c1
  have Hown4 := Lib.hid hown4'
  clear hown4'
  go_wp2_with fail
  refine (HC2.out _).mono ?_
  rintro e w5 ⟨A5, c5, rfl, _, hb5⟩
  have k5 := k4.trans (hb5.mono k4.size)
  have b5 := b4.below hb5
  have r5 := r4.below hb5
  have Hown5 := Lib.hid (own_below Hown4.out hb5)
  clear hb5 k4 b4 r4 c40 c41 Hown4
  have K5 := Lib.hid k5
  have R5 := Lib.hid r5
  have B5 := Lib.hid b5
  clear k5 r5 b5
  have c50 := B5.out.c0
  have c51 := B5.out.c1
  subst hki
  have hkz : (((i : Int) + 1) == 0) = false := beq_eq_false_iff_ne.2 (by omega)
  have hd2 : decide ((cs.length : Int) < 2) = false := decide_eq_false (by omega)
  have hke : (((i : Int) + 1) == (cs.length : Int)) = false := beq_eq_false_iff_ne.2 (by omega)
  obtain ⟨g, cap, hv, hg⟩ : ∃ g cap, Value.slice A4 cs.length c4 = .slice (some ⟨g, 0, none⟩) cs.length cap ∧ w.heap.size + 2 ≤ g := by
    rcases Hown5.out.2 with ⟨_, h0⟩ | ⟨g, cap, cur, hv, hb, _⟩
    · omega
    · exact ⟨g, cap, hv, hb⟩
  injection hv with hv1 hv2 hv3
  subst hv1; subst hv3
  obtain ⟨ci, fi⟩ := own_cell Hown5.out (i := i) (u := .string (bs (cs.getD i []))) (by simp [cellsS, List.getD, show i < cs.length by omega])
  obtain ⟨cj, fj⟩ := own_cell Hown5.out (i := i + 1) (u := .string (bs (cs.getD (i + 1) []))) (by simp [cellsS, List.getD, hi])
  have Hset := Lib.hid (own_set (own_set Hown5.out i (.string (bs (cs.getD (i + 1) [])))) (i + 1) (.string (bs (cs.getD i []))))
  have hi2 : (i : Int) < (cs.length : Int) := by omega
  have hi3 : (i : Int) + 1 < (cs.length : Int) := by omega
  have hi4 : (0 : Int) ≤ (i : Int) + 1 := by omega
  have hw1 : IntKind.i64.wrap ((i : Int) + 1 - 1) = (i : Int) := by rw [show (i : Int) + 1 - 1 = (i : Int) by omega]; exact IntWalk.i64_in _ (by omega)
  rw [Hsw.out] at Hset
  clear Hsw Hown5
  generalize cs.getD i [] = d0 at *
  generalize cs.getD (i + 1) [] = d1 at *
  have K6a := Lib.hid (((K5.out.setCell (p := ⟨g, i, none⟩) (show w.heap.size ≤ g by omega) (.string (bs d1))).setCell (p := ⟨g, i + 1, none⟩) (show w.heap.size ≤ g by omega) (.string (bs d0))).drew)
  have R6a := Lib.hid (((R5.out.other (i := i) (show w.heap.size + 1 ≠ g by omega) (.string (bs d1))).other (i := i + 1) (show w.heap.size + 1 ≠ g by omega) (.string (bs d0))).drew)
  have O6 := Lib.hid Hset.out.drew
  clear K5 R5 B5 Hset
  go_wp2_with fail
  go_region
  generalize ((w5.setCell ⟨g, i, none⟩ (.string (bs d1))).setCell ⟨g, i + 1, none⟩ (.string (bs d0))).drew = W6 at *
  clear ci fi cj fj c50 c51
  go_wp2_with fail
  go_loopw [6, 7, 8] (fun v6 v7 v8 wr => ∃ q : Nat, q ≤ cs.length ∧ v6 = .string (bs (T.take q).flatten) ∧ v7 = .int .i64 (((if i + 1 < q then en else 0 : Nat)) : Int) ∧ v8 = .int .i64 (q : Int) ∧ wr = W6) (fun _ _ v8 _ => cs.length - (intOf v8).toNat)
  case atStart => exact ⟨0, Nat.zero_le _, rfl, by rw [if_neg (by omega)]; rfl, rfl, rfl⟩
  case round =>
    obtain ⟨q, hq, rfl, rfl, rfl, rfl⟩ := hrel
    by_cases hlt : q < cs.length
    · have cq := (own_cell O6.out (i := q) (u := .string (bs (T.getD q []))) (by simp [cellsS, List.getD, show q < T.length by omega])).1
      have hTn : Hid ((T.take (q + 1)).flatten = (T.take q).flatten ++ T.getD q []) := Lib.hid (by
        rw [List.take_succ_eq_append_getElem (show q < T.length by omega), List.flatten_append]
        simp [List.getD, show q < T.length by omega])
      have hlen := HTq.out (q + 1)
      rw [hTn.out, List.length_append] at hlen
      have Hend : Hid (q = i + 1 → en = ((T.take q).flatten ++ T.getD q []).length) := Lib.hid fun h => by rw [← hTn.out, HEn.out, h]
      have hap := add_bs Tryd.prog (T.take q).flatten (T.getD q []) (by omega)
      have hszq := bs_size ((T.take q).flatten ++ T.getD q [])
      generalize hsq : (T.take q).flatten = sq at *
      generalize T.getD q [] = tq at *
      generalize hsn : sq ++ tq = sn at *
      have hql : (q : Int) < (cs.length : Int) := by omega
      clear hsq hsn hlen
      by_cases hqi : q = i + 1
      · have hce : ((q : Int) == (i : Int) + 1) = true := by rw [beq_iff_eq]; omega
        have He := Lib.hid (Hend.out hqi)
        have Hqi := Lib.hid hqi
        clear hqi Hend
        go_wp2
        go_roundw
        case rel => exact ⟨q + 1, by omega, by rw [hTn.out], by rw [if_pos (by have := Hqi.out; omega), He.out], by go_num, trivial⟩
        case measure => simp [intOf]; omega
      · have hce : ((q : Int) == (i : Int) + 1) = false := beq_eq_false_iff_ne.2 (by omega)
        have Hqi := Lib.hid hqi
        clear hqi Hend
        go_wp2
        go_roundw
        case rel =>
          refine ⟨q + 1, by omega, by rw [hTn.out], ?_, by go_num, trivial⟩
          have := Hqi.out
          by_cases h : i + 1 < q
          · rw [if_pos h, if_pos (by omega)]
          · rw [if_neg h, if_neg (by omega)]
        case measure => simp [intOf]; omega
    · have hqe : T.take q = T := List.take_of_length_le (by omega)
      rw [hqe, ← HZe.out, if_pos (show i + 1 < q by omega)]
      have hd : decide ((q : Int) < (cs.length : Int)) = false := decide_eq_false (by omega)
      clear hqe
      go_wp2_with fail
      refine (HO.out _).mono ?_
      rintro e w9 ⟨rfl, hb9⟩
      have k9 := K6a.out.trans (hb9.mono K6a.out.size)
      have r9 := R6a.out.below hb9
      have c90 := r9.c0
      have c91 := r9.c1
      have f90 := r9.f0
      have f91 := r9.f1
      have K9 := Lib.hid k9
      have R9 := Lib.hid r9
      clear hb9 r9 k9
      go_wp2
      refine bodyPost_ret (results_bx2 rfl _ _ (w.heap.size + 1) (.string (bs z)) (.int .i64 (x : Int)) 27 rfl ((R9.out.set0 _).set1 _) Tryd.underlying27 (sizeRBuf _)) rfl ?_
      exact ⟨rfl, (K9.out.setCell (p := ⟨w.heap.size + 1, 0, none⟩) (Nat.le_succ _) _).setCell (p := ⟨w.heap.size + 1, 1, none⟩) (Nat.le_succ _) _⟩
set_option maxHeartbeats 4000000 in
theorem rswap_e (l : List UInt8) (n : Int) (hl : l.length ≤ 137438953472) (w : World) (k : Nat) (hk : k ≤ (cutL (mS l)).length) (hak : mA l n = pos (cutL (mS l)) k) (i : Nat) (hi : i + 1 < (cutL (mS l)).length) (hki : k = i + 2) (hke2 : k = (cutL (mS l)).length) :
    Calls Tryd.prog 23 #[.agg #[.string (bs l), .int .i64 n]] w fun e w' => e = .returned (.tuple #[.agg #[.string (bs (swL (cutL (mS l)) (i + 1)).flatten), .int .i64 (onL (swL (cutL (mS l)) (i + 1)).flatten ((((swL (cutL (mS l)) (i + 1)).take (i + 1 + 1)).flatten.length : Nat) : Int) : Int)], .bool true]) ∧ Below w.heap.size w w' := by
  have HM := Lib.hid (fun W => rmake_calls l n hl W)
  have ha := mA_le l n
  have hms := mS_len l
  have hcl := cutL_length (mS l)
  have HC1 := Lib.hid (fun W => rcut_calls (mS l) W (by omega))
  have htk : cutL ((mS l).take (mA l n)) = (cutL (mS l)).take k := by
    have h1 := take_pos (cutL (mS l)) k
    rw [cutL_flatten] at h1
    rw [hak, h1, cut_takeK (mS_P l)]
  have HC2 := Lib.hid (fun W => rcut_rd ((mS l).take (mA l n)) (by have := take_len_le (mS l) (mA l n); omega) W)
  rw [htk, List.length_take, Nat.min_eq_left hk] at HC2
  have hx := bs_take (mS l) (mA l n)
  have hfl : (swL (cutL (mS l)) (i + 1)).flatten.length = (mS l).length := by
    rw [swL_flatten _ (i + 1) (by omega) hi, Nat.add_sub_cancel]
    have e := congrArg List.length (cutL_flatten (mS l))
    have p0 : (mS l).length = pos (cutL (mS l)) (i + 1 + 1) + ((cutL (mS l)).drop (i + 1 + 1)).flatten.length := by
      rw [← e]
      conv => lhs; rw [pos_split (cutL (mS l)) (i + 1 + 1), List.length_append]
      rfl
    have p1 := pos_succ (cutL (mS l)) (i + 1) hi
    have p2 := pos_succ (cutL (mS l)) i (by omega)
    rw [List.flatten_append, List.flatten_append, List.length_append, List.length_append, p0, p1, p2]
    simp [pos]
    omega
  have HO := Lib.hid (fun W => ron_calls (swL (cutL (mS l)) (i + 1)).flatten ((((swL (cutL (mS l)) (i + 1)).take (i + 1 + 1)).flatten.length : Nat) : Int) (by omega) W)
  have hsl : (swL (cutL (mS l)) (i + 1)).length = (cutL (mS l)).length := by simp [swL]
  have hTfl := hfl
  clear hak htk
  generalize cutL (mS l) = cs at *
  generalize (mS l).take (mA l n) = y at *
  generalize mA l n = a at *
  generalize mS l = m at *
  have Hsw : Hid (((cellsS (cs.map bs)).set i (.string (bs (cs.getD (i + 1) [])))).set (i + 1) (.string (bs (cs.getD i []))) = cellsS ((swL cs (i + 1)).map bs)) := Lib.hid (by simp [cellsS, swL, List.map_set])
  generalize swL cs (i + 1) = T at *
  have hTq : ∀ q, (T.take q).flatten.length ≤ m.length := fun q => by have := pos_le T q; unfold pos at this; omega
  have HTq := Lib.hid hTq
  have Hen : Hid (∃ en, en = (T.take (i + 1 + 1)).flatten.length) := Lib.hid ⟨_, rfl⟩
  obtain ⟨en, hen⟩ := Hen.out
  rw [← hen] at HO ⊢
  have HEn := Lib.hid hen
  have hen2 := hTq (i + 1 + 1)
  rw [← hen] at hen2
  clear Hen hen hTq
  have HZ : Hid (∃ z, z = T.flatten) := Lib.hid ⟨_, rfl⟩
  obtain ⟨z, hz⟩ := HZ.out
  rw [← hz] at HO hfl ⊢
  have HZe := Lib.hid hz
  clear HZ hz
  generalize onL z (en : Int) = x at *
  have hszm := bs_size m
  have hi0 : (0 : Int) ≤ (a : Int) := by omega
  have hi1 : (a : Int) ≤ (m.length : Int) := by omega
  have k0 : Below w.heap.size w ((w.alloc (.cells #[.string (bs l), .int .i64 n] 27)).alloc (.cells #[.string ⟨#[]⟩, .int .i64 0] 27)) := ((Below.refl _ w).alloc (Nat.le_refl _) _).alloc (by simp) _
  have b0 := (Bx.new w 27 (.string (bs l)) (.int .i64 n)).alloc (.cells #[.string ⟨#[]⟩, .int .i64 0] 27)
  have r0 := Bx.new (w.alloc (.cells #[.string (bs l), .int .i64 n] 27)) 27 (.string ⟨#[]⟩) (.int .i64 0)
  rw [World.size_alloc] at r0
  have c00 := b0.c0
  have c01 := b0.c1
  go_enter Tryd.func23, Tryd.ntmps23
  go_wp2_with fail
  refine (HM.out _).mono ?_
  rintro e w1 ⟨rfl, hb1⟩
  have k1 := k0.trans (hb1.mono k0.size)
  have b1 := b0.below hb1
  have r1 := r0.below hb1
  clear hb1 c00 c01 b0 r0 k0
  have c10 := b1.c0
  have c11 := b1.c1
  have f10 := b1.f0
  have f11 := b1.f1
  have b3 := (b1.set0 (.string (bs m))).set1 (.int .i64 (a : Int))
  have r3 := (r1.other (i := 0) (Nat.succ_ne_self _) (.string (bs m))).other (i := 1) (Nat.succ_ne_self _) (.int .i64 (a : Int))
  have k3 := (k1.setCell (p := ⟨w.heap.size, 0, none⟩) (Nat.le_refl _) (.string (bs m))).setCell (p := ⟨w.heap.size, 1, none⟩) (Nat.le_refl _) (.int .i64 (a : Int))
  have B3 := Lib.hid b3
  have R3 := Lib.hid r3
  have K3 := Lib.hid k3
  have hz3 := r3.lt
  clear b3 r3 k3 b1 r1 k1
  go_wp2_with fail
  refine (HC1.out _).mono ?_
  rintro e w4 ⟨v4, rfl, hown4, hb4⟩
  obtain ⟨A4, c4, rfl⟩ := own_form hown4
  have k4 := K3.out.trans (hb4.mono K3.out.size)
  have b4 := B3.out.below hb4
  have r4 := R3.out.below hb4
  have hown4' := own_less hown4 (show w.heap.size + 2 ≤ _ by have := hz3; omega)
  clear hb4 c10 c11 f10 f11 hown4 hz3
  have c40 := b4.c0
  have c41 := b4.c1
  have Hown4 := Lib.hid hown4'
  clear hown4'
  go_wp2_with fail
  refine (HC2.out _).mono ?_
  rintro e w5 ⟨A5, c5, rfl, _, hb5⟩
  have k5 := k4.trans (hb5.mono k4.size)
  have b5 := b4.below hb5
  have r5 := r4.below hb5
  have Hown5 := Lib.hid (own_below Hown4.out hb5)
  clear hb5 k4 b4 r4 c40 c41 Hown4
  have K5 := Lib.hid k5
  have R5 := Lib.hid r5
  have B5 := Lib.hid b5
  clear k5 r5 b5
  have c50 := B5.out.c0
  have c51 := B5.out.c1
  subst hki
  have hw0 : IntKind.i64.wrap ((i : Int) + 2 - 1) = (i : Int) + 1 := by rw [show (i : Int) + 2 - 1 = (i : Int) + 1 by omega]; exact IntWalk.i64_in _ (by omega)
  have hkz : (((i : Int) + 2) == 0) = false := beq_eq_false_iff_ne.2 (by omega)
  have hd2 : decide ((cs.length : Int) < 2) = false := decide_eq_false (by omega)
  have hke : (((i : Int) + 2) == (cs.length : Int)) = true := by rw [beq_iff_eq]; omega
  clear hke2
  obtain ⟨g, cap, hv, hg⟩ : ∃ g cap, Value.slice A4 cs.length c4 = .slice (some ⟨g, 0, none⟩) cs.length cap ∧ w.heap.size + 2 ≤ g := by
    rcases Hown5.out.2 with ⟨_, h0⟩ | ⟨g, cap, cur, hv, hb, _⟩
    · omega
    · exact ⟨g, cap, hv, hb⟩
  injection hv with hv1 hv2 hv3
  subst hv1; subst hv3
  obtain ⟨ci, fi⟩ := own_cell Hown5.out (i := i) (u := .string (bs (cs.getD i []))) (by simp [cellsS, List.getD, show i < cs.length by omega])
  obtain ⟨cj, fj⟩ := own_cell Hown5.out (i := i + 1) (u := .string (bs (cs.getD (i + 1) []))) (by simp [cellsS, List.getD, hi])
  have Hset := Lib.hid (own_set (own_set Hown5.out i (.string (bs (cs.getD (i + 1) [])))) (i + 1) (.string (bs (cs.getD i []))))
  have hi2 : (i : Int) < (cs.length : Int) := by omega
  have hi3 : (i : Int) + 1 < (cs.length : Int) := by omega
  have hi4 : (0 : Int) ≤ (i : Int) + 1 := by omega
  have hw1 : IntKind.i64.wrap ((i : Int) + 1 - 1) = (i : Int) := by rw [show (i : Int) + 1 - 1 = (i : Int) by omega]; exact IntWalk.i64_in _ (by omega)
  rw [Hsw.out] at Hset
  clear Hsw Hown5
  generalize cs.getD i [] = d0 at *
  generalize cs.getD (i + 1) [] = d1 at *
  have K6a := Lib.hid (((K5.out.setCell (p := ⟨g, i, none⟩) (show w.heap.size ≤ g by omega) (.string (bs d1))).setCell (p := ⟨g, i + 1, none⟩) (show w.heap.size ≤ g by omega) (.string (bs d0))).drew)
  have R6a := Lib.hid (((R5.out.other (i := i) (show w.heap.size + 1 ≠ g by omega) (.string (bs d1))).other (i := i + 1) (show w.heap.size + 1 ≠ g by omega) (.string (bs d0))).drew)
  have O6 := Lib.hid Hset.out.drew
  clear K5 R5 B5 Hset
  go_wp2_with fail
  go_region
  generalize ((w5.setCell ⟨g, i, none⟩ (.string (bs d1))).setCell ⟨g, i + 1, none⟩ (.string (bs d0))).drew = W6 at *
  clear ci fi cj fj c50 c51
  go_wp2_with fail
  go_loopw [6, 7, 8] (fun v6 v7 v8 wr => ∃ q : Nat, q ≤ cs.length ∧ v6 = .string (bs (T.take q).flatten) ∧ v7 = .int .i64 (((if i + 1 < q then en else 0 : Nat)) : Int) ∧ v8 = .int .i64 (q : Int) ∧ wr = W6) (fun _ _ v8 _ => cs.length - (intOf v8).toNat)
  case atStart => exact ⟨0, Nat.zero_le _, rfl, by rw [if_neg (by omega)]; rfl, rfl, rfl⟩
  case round =>
    obtain ⟨q, hq, rfl, rfl, rfl, rfl⟩ := hrel
    by_cases hlt : q < cs.length
    · have cq := (own_cell O6.out (i := q) (u := .string (bs (T.getD q []))) (by simp [cellsS, List.getD, show q < T.length by omega])).1
      have hTn : Hid ((T.take (q + 1)).flatten = (T.take q).flatten ++ T.getD q []) := Lib.hid (by
        rw [List.take_succ_eq_append_getElem (show q < T.length by omega), List.flatten_append]
        simp [List.getD, show q < T.length by omega])
      have hlen := HTq.out (q + 1)
      rw [hTn.out, List.length_append] at hlen
      have Hend : Hid (q = i + 1 → en = ((T.take q).flatten ++ T.getD q []).length) := Lib.hid fun h => by rw [← hTn.out, HEn.out, h]
      have hap := add_bs Tryd.prog (T.take q).flatten (T.getD q []) (by omega)
      have hszq := bs_size ((T.take q).flatten ++ T.getD q [])
      generalize hsq : (T.take q).flatten = sq at *
      generalize T.getD q [] = tq at *
      generalize hsn : sq ++ tq = sn at *
      have hql : (q : Int) < (cs.length : Int) := by omega
      clear hsq hsn hlen
      by_cases hqi : q = i + 1
      · have hce : ((q : Int) == (i : Int) + 1) = true := by rw [beq_iff_eq]; omega
        have He := Lib.hid (Hend.out hqi)
        have Hqi := Lib.hid hqi
        clear hqi Hend
        go_wp2
        go_roundw
        case rel => exact ⟨q + 1, by omega, by rw [hTn.out], by rw [if_pos (by have := Hqi.out; omega), He.out], by go_num, trivial⟩
        case measure => simp [intOf]; omega
      · have hce : ((q : Int) == (i : Int) + 1) = false := beq_eq_false_iff_ne.2 (by omega)
        have Hqi := Lib.hid hqi
        clear hqi Hend
        go_wp2
        go_roundw
        case rel =>
          refine ⟨q + 1, by omega, by rw [hTn.out], ?_, by go_num, trivial⟩
          have := Hqi.out
          by_cases h : i + 1 < q
          · rw [if_pos h, if_pos (by omega)]
          · rw [if_neg h, if_neg (by omega)]
        case measure => simp [intOf]; omega
    · have hqe : T.take q = T := List.take_of_length_le (by omega)
      rw [hqe, ← HZe.out, if_pos (show i + 1 < q by omega)]
      have hd : decide ((q : Int) < (cs.length : Int)) = false := decide_eq_false (by omega)
      clear hqe
      go_wp2_with fail
      refine (HO.out _).mono ?_
      rintro e w9 ⟨rfl, hb9⟩
      have k9 := K6a.out.trans (hb9.mono K6a.out.size)
      have r9 := R6a.out.below hb9
      have c90 := r9.c0
      have c91 := r9.c1
      have f90 := r9.f0
      have f91 := r9.f1
      have K9 := Lib.hid k9
      have R9 := Lib.hid r9
      clear hb9 r9 k9
      go_wp2
      refine bodyPost_ret (results_bx2 rfl _ _ (w.heap.size + 1) (.string (bs z)) (.int .i64 (x : Int)) 27 rfl ((R9.out.set0 _).set1 _) Tryd.underlying27 (sizeRBuf _)) rfl ?_
      exact ⟨rfl, (K9.out.setCell (p := ⟨w.heap.size + 1, 0, none⟩) (Nat.le_succ _) _).setCell (p := ⟨w.heap.size + 1, 1, none⟩) (Nat.le_succ _) _⟩

theorem rswap_calls (l : List UInt8) (n : Int) (hl : l.length ≤ 137438953472) (w : World) :
    Calls Tryd.prog 23 #[.agg #[.string (bs l), .int .i64 n]] w fun e w' => e = .returned (.tuple #[.agg #[.string (bs (swapR (mS l) (mA l n)).1), .int .i64 ((swapR (mS l) (mA l n)).2.1 : Int)], .bool (swapR (mS l) (mA l n)).2.2]) ∧ Below w.heap.size w w' := by
  obtain ⟨k, hk, hak⟩ := (make_rt l n).2.2
  have hz := swIdx_zero (cutL (mS l)) k hk
  have hm : swMid (mS l) (mA l n) = pos (cutL (mS l)) (swIdx (cutL (mS l)) k) := by rw [hak]; exact swMid_pos (mS l) hk
  have hile : swIdx (cutL (mS l)) k ≤ (cutL (mS l)).length := by unfold swIdx; split <;> omega
  by_cases h0 : swIdx (cutL (mS l)) k = 0
  · have e : swapR (mS l) (mA l n) = (mS l, mA l n, false) := by
      unfold swapR
      rw [if_pos (by rw [hm, h0]; rfl)]
    rw [e]
    dsimp only
    by_cases hk0 : k = 0
    · exact rswap_zero l n hl w k hk hak hk0
    · exact rswap_few l n hl w k hk hak hk0 ((hz.1 h0).resolve_left hk0)
  · obtain ⟨i, hi⟩ : ∃ i, swIdx (cutL (mS l)) k = i + 1 := ⟨swIdx (cutL (mS l)) k - 1, by omega⟩
    have hne : ¬ (k = 0 ∨ (cutL (mS l)).length < 2) := fun h => h0 (hz.2 h)
    have hlt : i + 1 < (cutL (mS l)).length := by unfold swIdx at hi; split at hi <;> omega
    obtain ⟨e1, e2⟩ := swapR_idx (m := mS l) (i + 1) (by omega) hlt
    have e : swapR (mS l) (mA l n) = ((swL (cutL (mS l)) (i + 1)).flatten, onL (swL (cutL (mS l)) (i + 1)).flatten ((((swL (cutL (mS l)) (i + 1)).take (i + 1 + 1)).flatten.length : Nat) : Int), true) := by
      unfold swapR
      rw [if_neg (by rw [hm, hi]; intro h; have := (pos_eq_zero (cut_full (mS l)) (by omega)).1 h; omega), hm, hi, e1, e2]
    rw [e]
    dsimp only
    by_cases hke : k = (cutL (mS l)).length
    · exact rswap_e l n hl w k hk hak i hlt (by unfold swIdx at hi; rw [if_pos hke] at hi; omega) hke
    · exact rswap_n l n hl w k hk hak i hlt (by unfold swIdx at hi; rw [if_neg hke] at hi; exact hi)
end Go.Proofs.YtifdgaklchihbaaDoor
