/-
  Layer 7 and what it stands on, part 33 (RBits RNum RRest ROf RFr RFrN RFrS RFrC).
-/
import Derived.Test.YteafcaambnfdoaaGreatDoorPq9
import Derived.Test.YteafcaambnfdoaaGreatDoorPq12
import Derived.Test.YteafcaambnfdoaaGreatDoorPq32
import Derived.OwnWalk
import Derived.IntWalk
import Derived.RegionTactic
import Derived.BigRegion
namespace Go.Proofs.YteafcaambnfdoaaGreatDoor
section
open Go Go.RowKit
open Go.Lib (hid)
set_option maxRecDepth 100000
theorem infoBo : (Tryz.prog.info? 4).map (fun i => (i.zero, i.size, i.bytes)) = some (some (.bool false), 1, 1) := by kernel_rfl
def OwnB (w : World) (base : Nat) (v : Value) (l : List Bool) : Prop := w.ownsRow base 4 1 v l.length (l.map Value.bool)
theorem bitsB_take (x : UInt8) {k : Nat} (hk : k < 8) : (bitsB x).take (k + 1) = (bitsB x).take k ++ [x.toNat.testBit k] := by
 rw [List.take_add_one]
 congr 1
 unfold bitsB
 simp [hk]
theorem bit_div (n k : Nat) : (((n / 2 ^ k : Nat) : Int) % 2 == 1) = n.testBit k := by
 rw [Nat.testBit_eq_decide_div_mod_eq]
 by_cases h : n / 2 ^ k % 2 = 1
 ·rw [decide_eq_true h]; exact beq_iff_eq.2 (by omega)
 ·rw [decide_eq_false h]; exact beq_eq_false_iff_ne.2 (by omega)
theorem bit_cells (w : World) (q : Bool) (t : TypeId) : ∀ (j : Nat) (u : Value), [Value.bool q][j]? = some u → (w.alloc (.cells #[.bool q] t)).cell? (Addr.add ⟨w.heap.size, 0, none⟩ j) = some u := fun j u hj => by
 match j, hj with
 | 0, hj =>
  obtain rfl : Value.bool q = u := by simpa using hj
  rw [Addr.add_lit, Nat.zero_add]; unfold World.cell?; rw [World.alloc_heap_new]; rfl
 | j + 1, hj => simp at hj
theorem bit_one (q : Bool) : ∀ u ∈ [Value.bool q], u.oneCell' = true := by
 intro u hu
 obtain rfl : u = Value.bool q := by simpa using hu
 rfl
theorem bitsL_takeS {l : List UInt8} {i : Nat} (hi : i < l.length) : bitsL (l.take (i + 1)) = bitsL (l.take i) ++ bitsB (l.getD i 0) := by
 rw [List.take_succ_eq_append_getElem hi, bitsL_append, List.getD_eq_getElem?_getD, List.getElem?_eq_getElem hi]
 simp [bitsL]
set_option maxHeartbeats 4000000 in
theorem rbits_calls (A : Option Addr) (c : Nat) (l : List UInt8) (w : World) (hb : Byt w A l) (hl : l.length ≤ 100000) :
  Calls Tryz.prog 145 #[.slice A l.length c] w fun e w' => ∃ v, e = .returned v ∧ OwnB w' w.heap.size v (bitsL l) ∧ Below w.heap.size w w' := by
 obtain ⟨i1, hi1, hy0, hy1, hy2⟩ := info_parts infoBo
 have HB := hid hb
 clear hb
 go_enter Tryz.func145, Tryz.ntmps145
 go_wp2_with fail
 go_loopw [3, 4] (fun v3 v4 wr => ∃ i : Nat, i ≤ l.length ∧ v4 = .int .i64 (i : Int) ∧ Hid (OwnB wr w.heap.size v3 (bitsL (l.take i))) ∧ Hid (Below w.heap.size w wr)) (fun _ v4 _ => l.length - (intOf v4).toNat)
 case atStart => exact ⟨0, Nat.zero_le _, rfl, hid (World.ownsRow_nil _ _ _ _), hid (Below.refl _ _)⟩
 case round =>
  obtain ⟨i, hi, rfl, hown, hbel⟩ := hrel
  by_cases hlt : i < l.length
  ·obtain ⟨g, o, rfl, hg, hc⟩ := (HB.out.below hbel.out).at_ (by omega)
   have c0 := hc i hlt
   have hil : (i : Int) < (l.length : Int) := by omega
   have HTs := hid (bitsL_takeS hlt)
   generalize l.getD i 0 = x at *
   have HW : Hid (wrap64 (x.toNat : Int) = (x.toNat : Int)) := hid (by have := x.toNat_lt; unfold wrap64; omega)
   have HX0 : Hid ((x.toNat / 2 ^ 0 : Nat) = x.toNat) := hid (by simp)
   clear hc
   go_wp2_with fail
   have HSum := hid (True.intro)
   go_loopw [3, 5, 6] (fun v3 v5 v6 wr => ∃ k : Nat, k ≤ 8 ∧ v6 = .int .i64 (k : Int) ∧ v5 = .int .i64 ((x.toNat / 2 ^ k : Nat) : Int) ∧ Hid (OwnB wr w.heap.size v3 (bitsL (l.take i) ++ (bitsB x).take k)) ∧ Hid (Below w.heap.size w wr)) (fun _ _ v6 _ => 8 - (intOf v6).toNat)
   case atStart => exact ⟨0, Nat.zero_le _, rfl, by rw [HX0.out, HW.out], by simpa using hown, hbel⟩
   case round =>
    obtain ⟨k, hk, rfl, rfl, hown2, hbel2⟩ := hrel
    by_cases hk8 : k < 8
    ·have hkl : (k : Int) < 8 := by omega
     have hq := bit_div x.toNat k
     have HTk := hid (bitsB_take x hk8)
     have HDiv : Hid ((x.toNat / 2 ^ k : Nat) / 2 = x.toNat / 2 ^ (k + 1)) := hid (by rw [Nat.div_div_eq_div_mul, Nat.pow_succ])
     have hx256 : (x.toNat / 2 ^ k : Nat) < 256 := Nat.lt_of_le_of_lt (Nat.div_le_self _ _) x.toNat_lt
     have Hlen : Hid ((bitsL (l.take i) ++ (bitsB x).take k).length ≤ 800000) := hid (by
      rw [List.length_append, bitsL_length, List.length_take, List.length_take]; omega)
     have HTk2 : Hid (bitsL (l.take i) ++ (bitsB x).take (k + 1) = (bitsL (l.take i) ++ (bitsB x).take k) ++ [x.toNat.testBit k]) := hid (by rw [HTk.out, List.append_assoc])
     have hz := hbel2.out.size
     clear HTk
     generalize bitsL (l.take i) ++ (bitsB x).take k = acc at *
     generalize x.toNat / 2 ^ k = nk at *
     generalize x.toNat.testBit k = q at *
     go_wp2_with (at_builtin; refine wpList_append_own _ rfl _ _ 31 rfl w.heap.size 4 i1 _ 1 1 Tryz.underlying31 hi1 hy0 hy1 hy2 rfl (by decide) _ _ _ rfl (hown2.out.alloc _) ⟨wr.heap.size, 0, none⟩ 1 1 [Value.bool q] rfl rfl ?d1 ?d2 ?d3 ?d4 ?d5 ?_)
     case d1 => exact bit_cells wr q _
     case d2 => exact bit_one q
     case d3 => have := Hlen.out; unfold maxLen; omega
     case d4 => have := Hlen.out; omega
     case d5 => have := Hlen.out; simp; omega
     intro v' w5 hown5 hgrow _
     have Hown5 := hid hown5
     have hb5 : Below w.heap.size w w5 := (hbel2.out.alloc hz _).grown hgrow (by simp; omega) (fun k hk => (hown2.out.lt k hk).1)
     have HB5 := hid hb5
     clear hown5 hgrow hb5
     go_wp2_with fail
     go_roundw
     case rel => exact ⟨k + 1, by omega, by go_num, by rw [← HDiv.out]; rfl, hid (by unfold OwnB; rw [HTk2.out]; simpa using Hown5.out), HB5⟩
     case measure => simp [intOf]; omega
    ·obtain rfl : k = 8 := by omega
     have HO2 : Hid (OwnB wr w.heap.size u3 (bitsL (l.take (i + 1)))) := hid (by rw [HTs.out, ← List.take_of_length_le (l := bitsB x) (i := 8) (by rw [bitsB_length]; omega)]; exact hown2.out)
     clear hown2 hown
     go_wp2_with fail
     go_roundw
     case rel => exact ⟨i + 1, by omega, by go_num, HO2, hbel2⟩
     case measure => simp [intOf]; omega
  ·obtain rfl : i = l.length := by omega
   have HO2 : Hid (OwnB wr w.heap.size u3 (bitsL l)) := hid (by have := hown.out; rwa [List.take_length] at this)
   clear hown
   go_wp2_with fail
   go_ret
   exact ⟨_, rfl, HO2.out, hbel.out⟩
end
section
open Go Go.RowKit
set_option maxRecDepth 100000
theorem numL_lt : ∀ l : List Bool, numL l < 2 ^ l.length
 | [] => by decide
 | c :: l => by
  have := numL_lt l
  unfold numL
  rw [List.length_cons, Nat.pow_succ]
  have : c.toNat ≤ 1 := Bool.toNat_le c
  omega
theorem numL_drop {l : List Bool} {k : Nat} (hk : k < l.length) : numL (l.drop k) = 2 * numL (l.drop (k + 1)) + (l.getD k false).toNat := by
 rw [List.drop_eq_getElem_cons hk, List.getD_eq_getElem?_getD, List.getElem?_eq_getElem hk]
 rfl
set_option maxHeartbeats 4000000 in
theorem rnumber_calls (A : Option Addr) (c : Nat) (l : List Bool) (w : World) (hl : l.length = 32) (hR : RdV Value.bool w A l) :
  Calls Tryz.prog 147 #[.slice A 32 c] w fun e w' => e = .returned (.int .u32 (numL l : Int)) ∧ w' = w := by
 obtain ⟨g, o, rfl, hg, hc⟩ := hR (by omega)
 have HC := Lib.hid hc
 clear hc hR
 go_enter Tryz.func147, Tryz.ntmps147
 go_wp2_with fail
 go_loopw [3, 4] (fun v3 v4 wr => ∃ k : Nat, k ≤ 32 ∧ v4 = .int .i64 ((k : Int) - 1) ∧ v3 = .int .u32 (numL (l.drop k) : Int) ∧ wr = w) (fun _ v4 _ => (intOf v4 + 1).toNat)
 case atStart => exact ⟨32, Nat.le_refl _, rfl, by rw [List.drop_of_length_le (by omega)]; rfl, rfl⟩
 case round =>
  obtain ⟨k, hk, rfl, rfl, rfl⟩ := hrel
  cases k with
  | zero =>
   rw [List.drop_zero]
   clear HC
   go_wp2_with fail
   go_ret
   exact ⟨rfl, rfl⟩
  | succ k =>
   have HD := Lib.hid (numL_drop (l := l) (k := k) (by omega))
   have hlt : numL (l.drop (k + 1)) < 2 ^ 31 := Nat.lt_of_lt_of_le (numL_lt _) (Nat.pow_le_pow_right (by decide) (by rw [List.length_drop]; omega))
   have c0 : wr.cell? ⟨g, o + k, none⟩ = some (.bool (l.getD k false)) := HC.out k _ (by rw [List.getD_eq_getElem?_getD, List.getElem?_eq_getElem (by omega)]; rfl)
   have hk1 : (((k + 1 : Nat) : Int) - 1) = (k : Int) := by omega
   rw [hk1]
   generalize l.getD k false = q at *
   generalize numL (l.drop (k + 1)) = n at *
   have hw1 : IntKind.u32.wrap ((n : Int) * 2) = (n : Int) * 2 := by rw [IntKind.wrap_u32]; omega
   have hw2 : IntKind.u32.wrap ((n : Int) * 2 + 1) = (n : Int) * 2 + 1 := by rw [IntKind.wrap_u32]; omega
   cases q
   ·go_wp2_with fail
    go_roundw
    case rel => exact ⟨k, by omega, by go_num, by rw [HD.out]; congr 1; simp [Int.mul_comm], trivial⟩
    case measure => simp [intOf]
   ·go_wp2_with fail
    go_roundw
    case rel => exact ⟨k, by omega, by go_num, by rw [HD.out]; congr 1; simp [Int.mul_comm], trivial⟩
    case measure => simp [intOf]
end
section
open Go Go.RowKit
open Go.Lib (hid)
set_option maxRecDepth 100000
def flipK (l : List Bool) (i k : Nat) : List Bool := (powL.take k).foldl (fun l p => l.modify (i + 32 - p) (! ·)) (l.set i false)
theorem flipK_length (l : List Bool) (i : Nat) : ∀ k, (flipK l i k).length = l.length := by
 intro k
 unfold flipK
 generalize powL.take k = P
 have : ∀ (P : List Nat) (m : List Bool), (P.foldl (fun l p => l.modify (i + 32 - p) (! ·)) m).length = m.length := by
  intro P
  induction P with
  | nil => intro m; rfl
  | cons p P ih => intro m; rw [List.foldl_cons, ih, List.length_modify]
 rw [this, List.length_set]
theorem flipK_s (l : List Bool) (i : Nat) {k p : Nat} (h : powL[k]? = some p) : flipK l i (k + 1) = (flipK l i k).modify (i + 32 - p) (! ·) := by
 unfold flipK
 rw [List.take_add_one, h, Option.toList_some, List.foldl_append]
 rfl
theorem modify_set {l : List Bool} {j : Nat} (hj : j < l.length) : l.modify j (! ·) = l.set j (! l.getD j false) := by
 refine List.ext_getElem (by simp) fun i h1 h2 => ?_
 rw [List.getElem_modify, List.getElem_set]
 split
 ·rename_i h; subst h; rw [List.getD_eq_getElem?_getD, List.getElem?_eq_getElem hj]; rfl
 ·rfl
theorem flip_K (l : List Bool) (i : Nat) : flipL l i = flipK l i 14 := rfl
theorem stepsL_s (l : List Bool) (n : Nat) : stepsL l (n + 1) = stepL (stepsL l n) n := by
 unfold stepsL
 rw [List.range_succ, List.foldl_append]
 rfl
theorem stepsL_length (l : List Bool) : ∀ n, (stepsL l n).length = l.length
 | 0 => rfl
 | n + 1 => by
  rw [stepsL_s, stepL]
  split
  ·rw [flip_K, flipK_length, stepsL_length l n]
  ·exact stepsL_length l n
theorem pow_le {k p : Nat} (h : powL[k]? = some p) : p ≤ 26 := by
 have : ∀ x ∈ powL, x ≤ 26 := by decide
 exact this p (List.mem_of_getElem? h)
theorem own_emptyBo (w : World) (base k : Nat) (hk : k = w.heap.size) (hb : base ≤ w.heap.size) : (w.alloc (.cells #[] 4)).ownsRow base 4 1 (.slice (some ⟨k, 0, none⟩) 0 0) 0 [] := by
 subst hk
 exact ⟨rfl, .inr ⟨w.heap.size, 0, #[], rfl, hb, heap_alloc_new w _, by simp, by unfold maxLen; omega, by simp, by simp⟩⟩
theorem pow_cells (w : World) (t : TypeId) {k p : Nat} (h : powL[k]? = some p) : (w.alloc (.cells #[.int .i64 26, .int .i64 23, .int .i64 22, .int .i64 16, .int .i64 12, .int .i64 11, .int .i64 10, .int .i64 8, .int .i64 7, .int .i64 5, .int .i64 4, .int .i64 2, .int .i64 1, .int .i64 0] t)).cell? ⟨w.heap.size, k, none⟩ = some (.int .i64 (p : Int)) := by
 unfold World.cell?
 rw [World.alloc_heap_new]
 show (powL.map (fun (p : Nat) => Value.int .i64 (p : Int))).toArray[k]? = _
 simp [h]
set_option maxHeartbeats 4000000 in
theorem rrest_calls (A : Option Addr) (c : Nat) (l : List Bool) (w : World) (h32 : 32 ≤ l.length) (hl : l.length ≤ 1000000) (hR : RdV Value.bool w A l) :
  Calls Tryz.prog 146 #[.slice A l.length c] w fun e w' => ∃ g c', e = .returned (.slice (some ⟨g, l.length - 32, none⟩) 32 c') ∧ w.heap.size ≤ g ∧ RowW Value.bool w' (fun k => k = g) (some ⟨g, l.length - 32, none⟩) (restL l) ∧ Below w.heap.size w w' := by
 obtain ⟨i1, hi1, hy0, hy1, hy2⟩ := info_parts infoBo
 obtain ⟨g, o, rfl, hg, hc⟩ := hR (by omega)
 have HC := hid hc
 have Hl := hid hl
 clear hc hR hl
 go_enter Tryz.func146, Tryz.ntmps146
 go_wp2_with (at_builtin; refine wpList_append_own _ rfl _ _ 31 rfl (w.heap.size + 1) 4 i1 _ 1 1 Tryz.underlying31 hi1 hy0 hy1 hy2 rfl (by decide) _ _ _ rfl (own_emptyBo _ _ _ ?d6 ?d0) ⟨g, o, none⟩ l.length c (l.map Value.bool) rfl (by rw [List.length_map, Nat.mul_one]) ?d1 ?d2 ?d3 ?d4 ?d5 ?_)
 case d6 => simp
 case d0 => simp
 case d1 =>
  intro j u hj
  rw [List.getElem?_map] at hj
  obtain ⟨x, hx, rfl⟩ := Option.map_eq_some_iff.1 hj
  rw [Addr.add_lit]
  exact Only.cell (R := fun _ => False) (((Only.refl _ w).alloc _).alloc _) (HC.out j x hx) (fun h => h)
 case d2 => intro u hu; obtain ⟨x, _, rfl⟩ := List.mem_map.1 hu; rfl
 case d3 => have := Hl.out; unfold maxLen; omega
 case d4 => have := Hl.out; omega
 case d5 => simp
 intro v' w5 hown5 hgrow _
 have hb5 : Below w.heap.size w w5 := ((((Below.refl _ w).alloc (Nat.le_refl _) _).alloc (by simp) _).grown hgrow (by simp; omega) (fun k hk => by cases hk; simp))
 have HB5 := hid hb5
 have HP5 : Hid (∀ k p : Nat, powL[k]? = some p → w5.cell? ⟨w.heap.size, k, none⟩ = some (.int .i64 (p : Int))) := hid fun k p h => by
  refine Only.cell (R := fun i => i = w.heap.size + 1) (((Only.refl _ _).alloc _).trans (Only.of_grown hgrow (fun k hk => by cases hk; rfl)) (fun i h => .inl h)) (pow_cells w 3 h) (by simp)
 obtain ⟨g5, c5, hv5, hg5, hlt5, hcap5⟩ : ∃ g5 c5, v' = .slice (some ⟨g5, 0, none⟩) l.length c5 ∧ w.heap.size + 1 ≤ g5 ∧ g5 < w5.heap.size ∧ l.length ≤ c5 := by
  rcases hown5.2 with ⟨hv, h0⟩ | ⟨g, cap, cur, hv, hb, hh, hnc, _⟩
  ·omega
  ·exact ⟨g, _, hv, hb, (Array.getElem?_eq_some_iff.1 hh).1, hnc⟩
 subst hv5
 have hW5 : RowW Value.bool w5 (fun k => k = g5) (some ⟨g5, 0, none⟩) l := rowW_of_own hown5 (fun k hk => by cases hk; rfl)
 have HW5 := hid hW5
 clear hown5 hgrow hb5 hW5
 go_wp2_with fail
 go_loopw [5, 6, 7] (fun v5 v6 v7 wr => ∃ i : Nat, i + 32 ≤ l.length ∧ v5 = .int .i64 (i : Int) ∧ Hid (RowW Value.bool wr (fun k => k = g5) (some ⟨g5, 0, none⟩) (stepsL l i)) ∧ Hid (Only (fun k => k = g5) w5 wr)) (fun v5 _ _ _ => l.length - (intOf v5).toNat)
 case atStart => exact ⟨0, by omega, rfl, HW5, hid (Only.refl _ _)⟩
 case round =>
  obtain ⟨i, hi, rfl, hW, hO⟩ := hrel
  have hg5w : g5 < wr.heap.size := Nat.lt_of_lt_of_le hlt5 hO.out.size
  have Hl' := Hl.out
  by_cases hlt : i + 32 < l.length
  ·have hil : (i : Int) + 32 < (l.length : Int) := by omega
   have hgi : (stepsL l i)[i]? = some ((stepsL l i).getD i false) := by
    rw [List.getD_eq_getElem?_getD, List.getElem?_eq_getElem (by rw [stepsL_length]; omega)]; rfl
   have hci : wr.cell? ⟨g5, i, none⟩ = some (.bool ((stepsL l i).getD i false)) ∧ wr.frozen? ⟨g5, i, none⟩ = false := by
    obtain ⟨g', o', e, _, _, hc⟩ := hW.out (by rw [stepsL_length]; omega)
    cases e
    have := hc i _ hgi
    rwa [Nat.zero_add] at this
   obtain ⟨c0, f0⟩ := hci
   have HSt := hid (stepsL_s l i)
   have HLn := hid (stepsL_length l i)
   clear hgi
   generalize stepsL l i = m at *
   by_cases hq : m.getD i false = true
   ·have HS1 : Hid (stepsL l (i + 1) = flipK m i 14) := hid (by rw [HSt.out, stepL, hq]; rfl)
    rw [hq] at c0
    clear hq HSt
    have hX : Hid (RowW Value.bool (wr.setCell ⟨g5, i, none⟩ (.bool false)) (fun k => k = g5) (some ⟨g5, 0, none⟩) (flipK m i 0)) := hid (by
     have := hW.out.set i (by rw [HLn.out]; omega) false
     rwa [Nat.zero_add] at this)
    have hO2 := hid (hO.out.set (p := ⟨g5, i, none⟩) (.inl rfl) (.bool false))
    clear hW hO
    go_wp2_with fail
    go_loopw [6, 7] (fun v6 v7 wq => ∃ k : Nat, k ≤ 14 ∧ v6 = .int .i64 (k : Int) ∧ Hid (RowW Value.bool wq (fun k => k = g5) (some ⟨g5, 0, none⟩) (flipK m i k)) ∧ Hid (Only (fun k => k = g5) w5 wq)) (fun v6 _ _ => 14 - (intOf v6).toNat)
    case atStart => exact ⟨0, by omega, rfl, hX, hO2⟩
    case round =>
     obtain ⟨k, hk, rfl, hW, hO⟩ := hrel
     by_cases hk14 : k < 14
     ·have hkl : (k : Int) < 14 := by omega
      obtain ⟨p, hp⟩ : ∃ p, powL[k]? = some p := ⟨_, List.getElem?_eq_getElem (show k < powL.length from hk14)⟩
      have cp : wr.cell? ⟨w.heap.size, k, none⟩ = some (.int .i64 (p : Int)) := Only.cell hO.out (HP5.out k p hp) (show ¬ (w.heap.size = g5) by omega)
      have hp26 := pow_le hp
      have HF := hid (flipK_s m i hp)
      have HFl := hid (flipK_length m i k)
      clear hp
      obtain ⟨j, hj⟩ : ∃ j, j = i + 32 - p := ⟨_, rfl⟩
      have hji : (i : Int) + 32 - (p : Int) = (j : Int) := by omega
      rw [← hj] at HF
      have hjl : j < m.length := by rw [HLn.out]; omega
      have hcj : wr.cell? ⟨g5, j, none⟩ = some (.bool ((flipK m i k).getD j false)) ∧ wr.frozen? ⟨g5, j, none⟩ = false := by
       obtain ⟨g', o', e, _, _, hc⟩ := hW.out (by rw [HFl.out]; omega)
       cases e
       have := hc j ((flipK m i k).getD j false) (by rw [List.getD_eq_getElem?_getD, List.getElem?_eq_getElem (by rw [HFl.out]; omega)]; rfl)
       rwa [Nat.zero_add] at this
      obtain ⟨c1, f1⟩ := hcj
      have hX2 : Hid (RowW Value.bool (wr.setCell ⟨g5, j, none⟩ (.bool (! (flipK m i k).getD j false))) (fun k => k = g5) (some ⟨g5, 0, none⟩) (flipK m i (k + 1))) := hid (by
       have := hW.out.set j (by rw [HFl.out]; omega) (! (flipK m i k).getD j false)
       rwa [Nat.zero_add, ← modify_set (by rw [HFl.out]; omega), ← HF.out] at this)
      have hO3 := hid (hO.out.set (p := ⟨g5, j, none⟩) (.inl rfl) (.bool (! (flipK m i k).getD j false)))
      have hgw : g5 < wr.heap.size := Nat.lt_of_lt_of_le hlt5 hO.out.size
      clear hW hO HF hj
      generalize (flipK m i k).getD j false = q at *
      go_wp2_with fail
      go_roundw
      case rel => exact ⟨k + 1, by omega, by go_num, hX2, hO3⟩
      case measure => simp [intOf]; omega
     ·obtain rfl : k = 14 := by omega
      go_wp2_with fail
      go_roundw
      case rel => exact ⟨i + 1, by omega, by go_num, by rw [HS1.out]; exact hW, hO⟩
      case measure => simp [intOf]; omega
   ·have HS1 : Hid (stepsL l (i + 1) = m) := hid (by rw [HSt.out, stepL, if_neg hq])
    rw [Bool.not_eq_true] at hq
    rw [hq] at c0
    clear hq HSt
    go_wp2_with fail
    go_roundw
    case rel => exact ⟨i + 1, by omega, by go_num, by rw [HS1.out]; exact hW, hO⟩
    case measure => simp [intOf]; omega
  ·obtain rfl : i = l.length - 32 := by omega
   have hgl : ((l.length - 32 : Nat) : Int) + 32 = (l.length : Int) := by omega
   go_wp2_with fail
   go_ret
   refine ⟨g5, c5 - (l.length - 32), by rw [show l.length - (l.length - 32) = 32 by omega]; rfl, by omega, ?_, HB5.out.trans (hO.out.below (B := w.heap.size) HB5.out.size (fun k hk => by omega)) ⟩
   have := RowW.drop hW.out (l.length - 32)
   rwa [Nat.zero_add] at this
end
section
open Go Go.RowKit
open Go.Lib (hid)
set_option maxRecDepth 100000
theorem wpList_append_gm {P : Program} {w : World} {ops : Array Oper} {rest : List Oper} {o : Oper} {a : Act} {Q : Exit → Act → World → Prop} (hw : Region.wanted o (yielded ops a.tmps) = true) (s x : Operand) (t u : TypeId)
  (ho : o.op = .call { callee := .builtin .append, args := #[s, x], argTypes := #[t, u] }) (v v2 : Value) (hs : a.eval s = v) (hx : a.eval x = v2) {v' : Value} {w' : World}
  (hr : (Builtin.append_ #[t, u] o.type #[v, v2]).run P w = .ok v' w') (h : wpList P ops Q rest (a.put o.dst v') w') : wpList P ops Q (o :: rest) a w := by
 refine wpList_step fun K hK => ?_
 rw [if_pos hw]
 unfold Oper.wp execOp
 simp only [ho, resolve, invoke, builtin, Sem.run_bind, Sem.run_pure, Result.andThen_ok, List.map_toArray, List.map_cons, List.map_nil, hs, hx, hr]
 exact hK _ _ h
def flipP (l : List Bool) (k : Nat) : List Bool := (l.take k).map (! ·) ++ l.drop k
theorem flipP_length (l : List Bool) (k : Nat) : (flipP l k).length = l.length := by unfold flipP; simp; omega
theorem flipP_s (l : List Bool) {k : Nat} (hk : k < l.length) : flipP l (k + 1) = (flipP l k).set k (! (flipP l k).getD k false) := by
 have hlen : ((l.take k).map (! ·)).length = k := by rw [List.length_map, List.length_take]; omega
 have hg : (flipP l k).getD k false = l[k] := by
  unfold flipP
  rw [List.getD_eq_getElem?_getD, List.getElem?_append_right (by omega), hlen, Nat.sub_self, List.getElem?_drop, Nat.add_zero, List.getElem?_eq_getElem hk]
  rfl
 rw [hg]
 unfold flipP
 rw [List.set_append_right _ _ (by omega), hlen, Nat.sub_self, List.drop_eq_getElem_cons hk, List.set_cons_zero, List.take_succ_eq_append_getElem hk, List.map_append, List.append_assoc]
 rfl
theorem flipP_all (l : List Bool) (h : l.length = 32) : flipP l 32 = l.map (! ·) := by
 unfold flipP
 rw [List.take_of_length_le (by omega), List.drop_of_length_le (by omega), List.append_nil]
theorem row_cell {w : World} {R : Nat → Prop} {g o : Nat} {l : List Bool} (h : RowW Value.bool w R (some ⟨g, o, none⟩) l) {k : Nat} (hk : k < l.length) : w.cell? ⟨g, o + k, none⟩ = some (.bool (l.getD k false)) ∧ w.frozen? ⟨g, o + k, none⟩ = false := by
 obtain ⟨g', o', e, _, _, hc⟩ := h (by omega)
 cases e
 exact hc k (l.getD k false) (by rw [List.getD_eq_getElem?_getD, List.getElem?_eq_getElem hk]; rfl)
theorem own_row {w : World} {base : Nat} {v : Value} {l : List Bool} (h : OwnB w base v l) (hn : 0 < l.length) : ∃ g c, v = .slice (some ⟨g, 0, none⟩) l.length c ∧ base ≤ g ∧ g < w.heap.size ∧ RowW Value.bool w (fun k => k = g) (some ⟨g, 0, none⟩) l := by
 have h' : w.ownsRow base 4 1 v l.length (l.map Value.bool) := h
 rcases h'.2 with ⟨hv, h0⟩ | ⟨g, cap, cur, hv, hb, hh, hnc, _⟩
 ·omega
 ·subst hv
  exact ⟨g, cap, rfl, hb, (Array.getElem?_eq_some_iff.1 hh).1, rowW_of_own h' (fun k hk => by cases hk; rfl)⟩
set_option maxHeartbeats 4000000 in
theorem rof_calls (A : Option Addr) (c : Nat) (b : List UInt8) (w : World) (hb : Byt w A b) (hl : b.length ≤ 100000) :
  Calls Tryz.prog 123 #[.slice A b.length c] w fun e w' => e = .returned (.int .u32 ((crcL b).toNat : Int)) ∧ Below w.heap.size w w' := by
 obtain ⟨i1, hi1, hy0, hy1, hy2⟩ := info_parts infoBo
 have HB := hid hb
 clear hb
 go_enter Tryz.func123, Tryz.ntmps123
 go_wp2_with fail
 refine (rbits_calls A c b w HB.out hl).mono ?_
 rintro _ wb ⟨v, rfl, hown, hbel⟩
 obtain ⟨v2, w2, hrun, hown2, hg2⟩ := run_append_make (P := Tryz.prog) wb w.heap.size 31 3 31 4 i1 (.bool false) 1 Tryz.underlying31 Tryz.underlying3 hi1 hy0 hy1 hy2 rfl rfl v (bitsL b).length ((bitsL b).map Value.bool) hown 32 (by rw [bitsL_length]; unfold maxLen; omega) (by rw [bitsL_length]; omega) hbel.size
 have Hr := hid hrun
 have HB2 := hid (below_own hbel hg2 hown (Nat.le_refl _) hbel.size)
 have HOwn : Hid (OwnB w2 w.heap.size v2 (bitsL b ++ List.replicate 32 false)) := hid (by
  unfold OwnB
  rw [List.length_append, List.length_replicate, List.map_append, List.map_replicate]
  exact hown2)
 clear hrun hown hown2 hg2
 have HRef := hid (ref_of b)
 have hL32 : 32 ≤ (bitsL b ++ List.replicate 32 false).length := by simp
 have HL6 : Hid ((bitsL b ++ List.replicate 32 false).length ≤ 1000000) := hid (by rw [List.length_append, bitsL_length, List.length_replicate]; omega)
 generalize bitsL b ++ List.replicate 32 false = L at *
 obtain ⟨g5, c5, hv5, hg5, hlt5, hW5⟩ := own_row HOwn.out (by omega)
 subst hv5
 have HW5 := hid hW5
 have hbs := hbel.size
 clear hW5 HOwn hbel
 go_wp2_with (at_builtin; refine wpList_append_gm (o := ⟨some 8, _, _, _, _, _⟩) (by kernel_rfl) (.tmp 7) _ 31 3 rfl _ _ rfl rfl Hr.out ?_)
 clear Hr
 go_wp2_with fail
 go_loopw [4] (fun v4 wr => ∃ k : Nat, k ≤ 32 ∧ v4 = .int .i64 (k : Int) ∧ Hid (RowW Value.bool wr (fun i => i = g5) (some ⟨g5, 0, none⟩) (flipP L k)) ∧ Hid (Only (fun i => i = g5) w2 wr)) (fun v4 _ => 32 - (intOf v4).toNat)
 case atStart => exact ⟨0, by omega, rfl, by simpa [flipP] using HW5, hid (Only.refl _ _)⟩
 case round =>
  obtain ⟨k, hk, rfl, hW, hO⟩ := hrel
  have hgw : g5 < wr.heap.size := Nat.lt_of_lt_of_le hlt5 hO.out.size
  by_cases hk32 : k < 32
  ·have hkl : (k : Int) < 32 := by omega
   have HF := hid (flipP_s L (k := k) (by omega))
   have HFl := hid (flipP_length L k)
   have hkM : k < (flipP L k).length := by rw [HFl.out]; omega
   obtain ⟨c1, f1⟩ := row_cell hW.out hkM
   have hX2 : Hid (RowW Value.bool (wr.setCell ⟨g5, 0 + k, none⟩ (.bool (! (flipP L k).getD k false))) (fun i => i = g5) (some ⟨g5, 0, none⟩) (flipP L (k + 1))) := hid (by
    rw [HF.out]
    exact hW.out.set k hkM (! (flipP L k).getD k false))
   have hO3 := hid (hO.out.set (p := ⟨g5, 0 + k, none⟩) (.inl rfl) (.bool (! (flipP L k).getD k false)))
   clear hW hO HF HFl hkM
   generalize (flipP L k).getD k false = q at *
   rw [Nat.zero_add] at c1 f1 hX2 hO3
   go_wp2_with fail
   go_roundw
   case rel => exact ⟨k + 1, by omega, by go_num, hX2, hO3⟩
   case measure => simp [intOf]; omega
  ·obtain rfl : k = 32 := by omega
   have HB3 := hid (HB2.out.trans (hO.out.below (B := w.heap.size) HB2.out.size (fun k hk => by omega)))
   have hfl : L.length = (flipP L 32).length := (flipP_length L 32).symm
   have hfr : flip32 L = flipP L 32 := rfl
   rw [hfr] at HRef
   go_wp2_with fail
   rw [hfl]
   refine (rrest_calls (some ⟨g5, 0, none⟩) c5 (flipP L 32) wr (by omega) (by rw [← hfl]; exact HL6.out) hW.out.rd).mono ?_
   rintro _ w6 ⟨g6, c6, rfl, hg6, hW6, hb6⟩
   have hml : (restL (flipP L 32)).length = 32 := by rw [restL_is _ (by omega), rowV_length]
   have hlt6 : g6 < w6.heap.size := by obtain ⟨g', o', e, _, hg, _⟩ := hW6 (by omega); cases e; exact hg
   have HW6 := hid hW6
   have HB6 := hid (HB3.out.trans (hb6.mono HB3.out.size))
   have hwr : w.heap.size ≤ g6 := Nat.le_trans HB3.out.size hg6
   clear hW6 hb6 hW hO HL6 HB HB2 HW5 HB3
   generalize restL (flipP L 32) = M at *
   generalize (flipP L 32).length - 32 = o6 at *
   generalize (flipP L 32).length = n6 at *
   go_wp2_with fail
   go_loopw [5] (fun v5 wr => ∃ k : Nat, k ≤ 32 ∧ v5 = .int .i64 (k : Int) ∧ Hid (RowW Value.bool wr (fun i => i = g6) (some ⟨g6, o6, none⟩) (flipP M k)) ∧ Hid (Only (fun i => i = g6) w6 wr)) (fun v5 _ => 32 - (intOf v5).toNat)
   case atStart => exact ⟨0, by omega, rfl, by simpa [flipP] using HW6, hid (Only.refl _ _)⟩
   case round =>
    obtain ⟨k, hk, rfl, hW, hO⟩ := hrel
    have hgw : g6 < wr.heap.size := Nat.lt_of_lt_of_le hlt6 hO.out.size
    by_cases hk32 : k < 32
    ·have hkl : (k : Int) < 32 := by omega
     have HF := hid (flipP_s M (k := k) (by omega))
     have HFl := hid (flipP_length M k)
     have hkM : k < (flipP M k).length := by rw [HFl.out]; omega
     obtain ⟨c1, f1⟩ := row_cell hW.out hkM
     have hX2 : Hid (RowW Value.bool (wr.setCell ⟨g6, o6 + k, none⟩ (.bool (! (flipP M k).getD k false))) (fun i => i = g6) (some ⟨g6, o6, none⟩) (flipP M (k + 1))) := hid (by
      rw [HF.out]
      exact hW.out.set k hkM (! (flipP M k).getD k false))
     have hO3 := hid (hO.out.set (p := ⟨g6, o6 + k, none⟩) (.inl rfl) (.bool (! (flipP M k).getD k false)))
     clear hW hO HF HFl hkM
     generalize (flipP M k).getD k false = q at *
     go_wp2_with fail
     go_roundw
     case rel => exact ⟨k + 1, by omega, by go_num, hX2, hO3⟩
     case measure => simp [intOf]; omega
    ·obtain rfl : k = 32 := by omega
     have HB7 := hid (HB6.out.trans (hO.out.below (B := w.heap.size) HB6.out.size (fun k hk => by omega)))
     rw [flipP_all M hml, HRef.out] at hW
     go_wp2_with fail
     refine (rnumber_calls (some ⟨g6, o6, none⟩) c6 (rowV (crcL b)) wr (rowV_length _) hW.out.rd).mono ?_
     rintro _ _ ⟨rfl, rfl⟩
     rw [numL_rowV]
     go_wp2_with fail
     go_ret
     exact ⟨rfl, HB7.out⟩
end
section
open Go Go.RowKit
open Go.Lib (hid)
set_option maxRecDepth 100000
theorem info8_11 : ∃ i, Tryz.prog.info? 5 = some i ∧ i.zero = some (.int .u8 0) ∧ i.size = 1 ∧ i.bytes = 1 := by
 obtain ⟨i, h, h2⟩ := Option.map_eq_some_iff.1 info8
 simp only [Prod.mk.injEq] at h2
 exact ⟨i, h, h2.1, h2.2.1, h2.2.2⟩
set_option maxHeartbeats 4000000 in
theorem rnum11_calls (g o c : Nat) (x y : UInt8) (w : World) (c0 : w.cell? ⟨g, o, none⟩ = some (.int .u8 (x.toNat : Int))) (c1 : w.cell? ⟨g, o + 1, none⟩ = some (.int .u8 (y.toNat : Int))) :
  Calls Tryz.prog 124 #[.slice (some ⟨g, o, none⟩) 2 c] w fun e w' => e = .returned (.int .i64 ((x.toNat + 256 * y.toNat : Nat) : Int)) ∧ w' = w := by
 have HC := hid (And.intro c0 c1)
 have hx := x.toNat_lt
 have hy := y.toNat_lt
 clear c0 c1
 go_enter Tryz.func124, Tryz.ntmps124
 go_wp2_with fail
 go_loopw [3, 4] (fun v3 v4 wr => ((v4 = .int .i64 1 ∧ v3 = .int .i64 0) ∨ (v4 = .int .i64 0 ∧ v3 = .int .i64 (y.toNat : Int)) ∨ (v4 = .int .i64 (-1) ∧ v3 = .int .i64 ((x.toNat + 256 * y.toNat : Nat) : Int))) ∧ wr = w) (fun _ v4 _ => (intOf v4 + 1).toNat)
 case atStart => exact ⟨.inl ⟨rfl, rfl⟩, rfl⟩
 case round =>
  obtain ⟨h, rfl⟩ := hrel
  obtain ⟨c0, c1⟩ := HC.out
  rcases h with ⟨rfl, rfl⟩ | ⟨rfl, rfl⟩ | ⟨rfl, rfl⟩
  ·have hw : IntKind.i64.wrap (y.toNat : Int) = (y.toNat : Int) := by rw [IntKind.wrap_i64]; omega
   go_wp2_with fail
   go_roundw
   case rel => exact ⟨.inr (.inl ⟨rfl, by go_num⟩), trivial⟩
   case measure => simp [intOf]
  ·have hw : IntKind.i64.wrap (x.toNat : Int) = (x.toNat : Int) := by rw [IntKind.wrap_i64]; omega
   go_wp2_with fail
   go_roundw
   case rel => exact ⟨.inr (.inr ⟨rfl, by go_num⟩), trivial⟩
   case measure => simp [intOf]
  ·clear HC
   go_wp2_with fail
   go_ret
   exact ⟨rfl, rfl⟩
theorem byt_head (w : World) (p : List UInt8) (hl : p.length ≤ 1000) : Byt (w.alloc (.cells #[.int .u8 ((p.length : Int) % 256), .int .u8 ((p.length : Int) / 256)] 5)) (some ⟨w.heap.size, 0, none⟩) (headF p) := by
 have h := byt_lit w (headF p)
 have e : (Lib.byteCells (headF p)).toArray = #[.int .u8 ((p.length : Int) % 256), .int .u8 ((p.length : Int) / 256)] := by
  unfold headF Lib.byteCells
  have e1 : ((UInt8.ofNat (p.length % 256)).toNat : Int) = (p.length : Int) % 256 := by rw [UInt8.toNat_ofNat']; omega
  have e2 : ((UInt8.ofNat (p.length / 256)).toNat : Int) = (p.length : Int) / 256 := by rw [UInt8.toNat_ofNat']; omega
  simp only [List.map_cons, List.map_nil]
  rw [e1, e2]
 rwa [e] at h
set_option maxHeartbeats 4000000 in
theorem rpack11_calls (A : Option Addr) (c : Nat) (p : List UInt8) (w : World) (hb : Byt w A p) (hA : A = none → c = 0) (hl : p.length ≤ 1000) :
  Calls Tryz.prog 101 #[.slice A p.length c] w fun e w' => ∃ A' c', e = .returned (.tuple #[.slice A' (packF p).length c', .int .i64 0]) ∧ w'.ownsRow w.heap.size 5 1 (.slice A' (packF p).length c') (packF p).length (Lib.byteCells (packF p)) ∧ Below w.heap.size w w' := by
 obtain ⟨i0, hi0, hz0, hz1, hz2⟩ := info8_11
 have HB := hid hb
 have HA := hid hA
 have hl2 : (p.length : Int) ≤ 1000 := by omega
 have hl0 : (0 : Int) ≤ (p.length : Int) := by omega
 have d0 : decide (1000 < (p.length : Int)) = false := decide_eq_false (by omega)
 have ba := (Below.refl _ w).alloc (Nat.le_refl _) (.cells #[.int .u8 ((p.length : Int) % 256), .int .u8 ((p.length : Int) / 256)] 5)
 have hsz : (w.alloc (.cells #[.int .u8 ((p.length : Int) % 256), .int .u8 ((p.length : Int) / 256)] 5)).heap.size = w.heap.size + 1 := World.size_alloc _ _
 have hh := byt_head w p hl
 obtain ⟨W, hW⟩ : ∃ W, w.alloc (.cells #[.int .u8 ((p.length : Int) % 256), .int .u8 ((p.length : Int) / 256)] 5) = W := ⟨_, rfl⟩
 rw [hW] at ba hsz hh
 have HSz := hid hsz
 have HBa := hid ba
 have HH := hid hh
 have HBW := hid (hb.below ba)
 clear hb hA ba hsz hh
 go_enter Tryz.func101, Tryz.ntmps101
 go_wp2_with (at_builtin; refine wpList_append_byt _ rfl _ _ 30 rfl W.heap.size i0 Tryz.underlying30 hi0 hz0 hz1 hz2 (.slice (some ⟨W.heap.size, 0, none⟩) 0 0) [] rfl ?own (some ⟨w.heap.size, 0, none⟩) 2 (headF p) rfl (fun h => by cases h) ?byt (by simp [headF]) ?base ?_)
 case own => exact own_empty W W.heap.size (Nat.le_refl _)
 case byt => exact HH.out.alloc _
 case base => simp
 intro v1 w1 hown1 hgr1 _
 have hb1 : Below W.heap.size W w1 := ((Below.refl _ W).alloc (Nat.le_refl _) _).grown hgr1 (by simp) (fun k hk => Nat.le_of_eq (Option.some.inj hk))
 have HO1 := hid hown1
 have HB1 := hid hb1
 have HP1 := hid (HBW.out.below hb1)
 clear hown1 hgr1 hb1
 go_wp2_with (at_builtin; refine wpList_append_byt _ rfl _ _ 30 rfl W.heap.size i0 Tryz.underlying30 hi0 hz0 hz1 hz2 v1 (headF p) rfl HO1.out A c p rfl HA.out HP1.out (by simp [headF]; omega) HB1.out.size ?_)
 intro v2 w2 hown2 hgr2 _
 have hb2 : Below W.heap.size W w2 := below_own HB1.out hgr2 HO1.out (Nat.le_refl _) HB1.out.size
 obtain ⟨A2, c2, rfl⟩ := own_form hown2
 have hof := rof_calls A2 c2 (headF p ++ p) w2 (byt_of_own (n := (headF p ++ p).length) (by rw [List.length_append]; exact hown2)).1 (by simp [headF]; omega)
 rw [List.length_append] at hof
 have HOf := hid hof
 clear hof
 have HB2 := hid hb2
 clear hown2 hgr2 hb2 HO1 HP1 HB1
 go_wp2_with fail
 refine HOf.out.mono ?_
 rintro e w3 ⟨rfl, hb3⟩
 have HB3 : Hid (Below W.heap.size W w3) := hid (HB2.out.trans (hb3.mono HB2.out.size))
 have HH3 := hid (HH.out.below HB3.out)
 clear hb3 HOf HB2
 obtain ⟨s, hs⟩ : ∃ s, s = crcL (headF p ++ p) := ⟨_, rfl⟩
 rw [← hs]
 have HS := hid hs
 clear hs
 go_wp2_with (at_builtin; refine wpList_append_byt _ rfl _ _ 30 rfl W.heap.size i0 Tryz.underlying30 hi0 hz0 hz1 hz2 (.slice (some ⟨w3.heap.size, 0, none⟩) 0 0) [] rfl ?own (some ⟨w.heap.size, 0, none⟩) 2 (headF p) rfl (fun h => by cases h) ?byt (by simp [headF]) ?base ?_)
 case own => exact own_empty w3 W.heap.size HB3.out.size
 case byt => exact HH3.out.alloc _
 case base => have := HB3.out.size; simp; omega
 intro v4 w4 hown4 hgr4 _
 have hb4 : Below W.heap.size W w4 := (HB3.out.alloc HB3.out.size _).grown hgr4 (by have := HB3.out.size; simp; omega) (fun k hk => by have h1 := Option.some.inj hk; rw [← h1]; exact HB3.out.size)
 have HO4 := hid hown4
 have HB4 := hid hb4
 clear hown4 hgr4 hb4 HH3 HB3
 go_wp2_with fail
 go_loopw [5, 6, 7] (fun v5 v6 v7 wr => ∃ k : Nat, k ≤ 4 ∧ v7 = .int .i64 (k : Int) ∧ v5 = .int .u32 ((s.toNat / 256 ^ k : Nat) : Int) ∧ Hid (wr.ownsRow W.heap.size 5 1 v6 (headF p ++ (bl4 s).take k).length (Lib.byteCells (headF p ++ (bl4 s).take k))) ∧ Hid (Below W.heap.size W wr)) (fun _ _ v7 _ => 4 - (intOf v7).toNat)
 case atStart => exact ⟨0, by omega, rfl, by simp, by simpa using HO4, HB4⟩
 case round =>
  obtain ⟨k, hk, rfl, rfl, HOk, HBk⟩ := hrel
  clear HO4 HB4
  by_cases hlt : k < 4
  ·have hkl : (k : Int) < 4 := by omega
   have hlt4 : s.toNat / 256 ^ k < 4294967296 := Nat.lt_of_le_of_lt (Nat.div_le_self _ _) s.isLt
   have HTk : Hid (headF p ++ (bl4 s).take (k + 1) = (headF p ++ (bl4 s).take k) ++ [UInt8.ofNat (s.toNat / 256 ^ k % 256)]) := hid (by
    rw [List.append_assoc]
    rcases (by omega : k = 0 ∨ k = 1 ∨ k = 2 ∨ k = 3) with rfl | rfl | rfl | rfl <;> rfl)
   have hln : (headF p ++ (bl4 s).take k).length ≤ 100 := by rw [List.length_append, headF_length, List.length_take]; omega
   have HDiv : Hid (s.toNat / 256 ^ k / 256 = s.toNat / 256 ^ (k + 1)) := hid (by rw [Nat.div_div_eq_div_mul, Nat.pow_succ])
   generalize s.toNat / 256 ^ k = q at *
   generalize headF p ++ (bl4 s).take k = acc at *
   have hlit : Hid (Byt (wr.alloc (.cells #[.int .u8 ((q : Int) % 256)] 5)) (some ⟨wr.heap.size, 0, none⟩) [UInt8.ofNat (q % 256)]) := hid (by
    have h := byt_lit wr [UInt8.ofNat (q % 256)]
    have e : (Lib.byteCells [UInt8.ofNat (q % 256)]).toArray = #[.int .u8 ((q : Int) % 256)] := by
     unfold Lib.byteCells
     have e1 : ((UInt8.ofNat (q % 256)).toNat : Int) = (q : Int) % 256 := by rw [UInt8.toNat_ofNat']; omega
     simp only [List.map_cons, List.map_nil]
     rw [e1]
    rwa [e] at h)
   go_wp2_with (at_builtin; refine wpList_append_byt _ rfl _ _ 30 rfl W.heap.size i0 Tryz.underlying30 hi0 hz0 hz1 hz2 u6 acc rfl (HOk.out.alloc _) (some ⟨wr.heap.size, 0, none⟩) 1 [UInt8.ofNat (q % 256)] rfl (fun h => by cases h) hlit.out (by simp only [List.length_singleton]; omega) (by have := HBk.out.size; simp; omega) ?_)
   intro v5 w5 hown5 hgr5 _
   have hb5 : Below W.heap.size W w5 := below_own (HBk.out.alloc HBk.out.size _) hgr5 (HOk.out.alloc _) (Nat.le_refl _) (by have := HBk.out.size; simp; omega)
   have HO5 : Hid (w5.ownsRow W.heap.size 5 1 v5 (headF p ++ (bl4 s).take (k + 1)).length (Lib.byteCells (headF p ++ (bl4 s).take (k + 1)))) := hid (by rw [HTk.out, List.length_append]; exact hown5)
   have HB5 := hid hb5
   clear hown5 hgr5 hb5 hlit hln
   go_wp2_with fail
   go_roundw
   case rel => exact ⟨k + 1, by omega, by go_num, by rw [← HDiv.out]; go_num, HO5, HB5⟩
   case measure => simp [intOf]; omega
  ·obtain rfl : k = 4 := by omega
   have HOk' : Hid (wr.ownsRow W.heap.size 5 1 u6 (headF p ++ bl4 s).length (Lib.byteCells (headF p ++ bl4 s))) := HOk
   clear HOk
   have HPk := hid (HBW.out.below HBk.out)
   have hpk : packF p = (headF p ++ bl4 s) ++ p := by unfold packF; rw [← HS.out, List.append_assoc]
   have hln : (headF p ++ bl4 s).length = 6 := rfl
   generalize headF p ++ bl4 s = acc at *
   have HPF := hid hpk
   go_wp2_with (at_builtin; refine wpList_append_byt _ rfl _ _ 30 rfl W.heap.size i0 Tryz.underlying30 hi0 hz0 hz1 hz2 u6 acc rfl HOk'.out A c p rfl HA.out HPk.out (by omega) HBk.out.size ?_)
   intro v7 w7 hown7 hgr7 _
   have hb7 : Below W.heap.size W w7 := below_own HBk.out hgr7 HOk'.out (Nat.le_refl _) HBk.out.size
   have hown8 : w7.ownsRow W.heap.size 5 1 v7 (acc ++ p).length (Lib.byteCells (acc ++ p)) := by rw [List.length_append, hln]; exact hown7
   obtain ⟨A7, c7, rfl⟩ := own_form hown8
   have HR := hid (And.intro (own_less hown8 HBa.out.size) (HBa.out.trans (hb7.mono HBa.out.size)))
   clear hown7 hgr7 hb7 hown8 HOk' HPk hpk hln
   go_wp2_with fail
   go_ret2
   rw [HPF.out]
   exact ⟨_, _, rfl, HR.out.1, HR.out.2⟩
end
section
open Go Go.RowKit
open Go.Lib (hid)
set_option maxRecDepth 100000
theorem run_load (A : Option Addr) (n c k : Nat) (h : 6 + k ≤ c) :
  ∀ W : World, (Instr.slice 30 (.slice A n c) (some (.int .i64 6)) (some (.int .i64 (6 + (k : Int)))) none).run Tryz.prog W = .ok (.slice (dropA A c 6) k (c - 6)) W := by
 intro W
 have he : Tryz.prog.elem 30 = 5 := by kernel_rfl
 have hu : Tryz.prog.underlying 30 = some (.slice (Tryz.prog.elem 30)) := by rw [he]; exact Tryz.underlying30
 rw [run_slice_lh (w := W) 30 A n c hu .i64 .i64 6 (6 + (k : Int)) (by omega) (by omega) (by omega), he, Tryz.sizeOf5]
 simp [sliced, dropA, Result.andThen]
 omega
theorem byt_load {w : World} {A : Option Addr} {c : Nat} {b : List UInt8} (hb : Byt w A b) (hc : b.length ≤ c) : Byt w (dropA A c 6) (loadF b) := (hb.drop c 6 hc).take _
end
section
open Go Go.RowKit
open Go.Lib (hid)
set_option maxRecDepth 100000
structure Sb where
 A : Option Addr
 l : List UInt8
 c : Nat
def sbV (s : Sb) : Value := .slice s.A s.l.length s.c
def sbC (s : Sb) : List Value := [sbV s]
theorem infoSb : (Tryz.prog.info? 30).map (fun i => (i.zero, i.size, i.bytes)) = some (some (.slice none 0 0), 1, 24) := by kernel_rfl
theorem infoSb' : ∃ i, Tryz.prog.info? 30 = some i ∧ i.zero = some (.slice none 0 0) ∧ i.size = 1 ∧ i.bytes = 24 := by
 obtain ⟨i, h, h2⟩ := Option.map_eq_some_iff.1 infoSb
 simp only [Prod.mk.injEq] at h2
 exact ⟨i, h, h2.1, h2.2.1, h2.2.2⟩
theorem flat_sb (ss : List Sb) : ss.flatMap sbC = ss.map sbV := by
 induction ss with
 | nil => rfl
 | cons s t ih => rw [List.flatMap_cons, ih]; rfl
theorem own_none {w : World} {base : Nat} {e : TypeId} {size : Nat} {A : Option Addr} {n c : Nat} {k : Nat} {xs : List Value} (h : w.ownsRow base e size (.slice A n c) k xs) : A = none → c = 0 := fun hA => by
 rcases h.2 with ⟨hv, _⟩ | ⟨g, cap, cur, hv, _⟩
 ·injection hv
 ·injection hv with h1; rw [hA] at h1; cases h1
theorem sb_cell (w : World) (v : Value) : ∀ (j : Nat) (u : Value), [v][j]? = some u → (w.alloc (.cells #[v] 30)).cell? (Addr.add ⟨w.heap.size, 0, none⟩ j) = some u := fun j u hj => by
 match j, hj with
 | 0, hj =>
  obtain rfl : v = u := by simpa using hj
  rw [Addr.add_lit, Nat.zero_add]; unfold World.cell?; rw [World.alloc_heap_new]; rfl
 | j + 1, hj => simp at hj
end
section
open Go Go.RowKit
open Go.Lib (hid)
set_option maxRecDepth 100000
def RdBc (w : World) (A : Option Addr) (ls : List (List UInt8)) : Prop := 0 < ls.length → ∃ g o, A = some ⟨g, o, none⟩ ∧ g < w.heap.size ∧ ∀ i l, ls[i]? = some l → ∃ Ai ci, w.cell? ⟨g, o + i, none⟩ = some (.slice Ai l.length ci) ∧ Byt w Ai l ∧ (Ai = none → ci = 0) ∧ l.length ≤ ci
theorem RdBc.below {w w' : World} {A : Option Addr} {ls : List (List UInt8)} (h : RdBc w A ls) (hb : Below w.heap.size w w') : RdBc w' A ls := fun hn => by
 obtain ⟨g, o, e, hg, hc⟩ := h hn
 refine ⟨g, o, e, Nat.lt_of_lt_of_le hg hb.size, fun i l hi => ?_⟩
 obtain ⟨Ai, ci, h1, h2, h3⟩ := hc i l hi
 exact ⟨Ai, ci, (hb.cell (p := ⟨g, o + i, none⟩) hg).trans h1, h2.below hb, h3⟩
theorem rdBc_own {w : World} {base : Nat} {A : Option Addr} {n c : Nat} {ss : List Sb} (h : w.ownsRow base 30 1 (.slice A n c) ss.length (ss.map sbV)) (hB : ∀ s ∈ ss, Byt w s.A s.l ∧ (s.A = none → s.c = 0) ∧ s.l.length ≤ s.c) : RdBc w A (ss.map Sb.l) := fun hn => by
 rw [List.length_map] at hn
 obtain ⟨g, o, e, _, hg, hc⟩ := rowT_of_own (C := sbC) (R := fun _ => True) (by rw [flat_sb]; exact h) (fun _ _ => trivial) hn
 refine ⟨g, o, e, hg, fun i l hi => ?_⟩
 rw [List.getElem?_map] at hi
 obtain ⟨s, hs, rfl⟩ := Option.map_eq_some_iff.1 hi
 have hv := hc i (sbV s) (by rw [flat_sb, List.getElem?_map, hs]; rfl)
 have hm := List.mem_of_getElem? hs
 exact ⟨s.A, s.c, hv, (hB s hm).1, (hB s hm).2⟩
set_option maxHeartbeats 8000000 in
theorem rnext12_calls (A : Option Addr) (c : Nat) (b : List UInt8) (w : World) (hb : Byt w A b) (hc : b.length ≤ c) (hl : b.length ≤ 100000) :
  Calls Tryz.prog 107 #[.slice A b.length c] w fun e w' => ∃ A' c', e = .returned (.tuple #[.slice A' (nextF b).1.length c', .int .i64 ((nextF b).2 : Int), .int .i64 (errF b)]) ∧ (∀ W : World, Byt W A b → Byt W A' (nextF b).1) ∧ (A' = none → c' = 0) ∧ (nextF b).1.length ≤ c' ∧ Below w.heap.size w w' := by
 have hlz : (b.length : Int) ≤ 100000 := by omega
 by_cases h6 : b.length < 6
 ·have hno : ¬ okF b := ok_short h6
  have he : errF b = 110 := by unfold errF; rw [if_neg (fun h => by have := h.1; omega)]
  have hn : nextF b = ([], 0) := by unfold nextF; rw [if_neg hno]
  have d0 : decide ((b.length : Int) < 6) = true := decide_eq_true (by omega)
  rw [he, hn]
  clear he hn hno
  go_enter Tryz.func107, Tryz.ntmps107
  go_wp2_with fail
  go_ret3
  exact ⟨none, 0, rfl, fun _ _ => Byt.nil_ _ _, fun _ => rfl, Nat.le_refl _, Below.refl _ _⟩
 ·have d0 : decide ((b.length : Int) < 6) = false := decide_eq_false (by omega)
  obtain ⟨g, o, rfl, hg, hcell⟩ := hb.at_ (by omega)
  have c0 := hcell 0 (by omega)
  have c1 := hcell 1 (by omega)
  rw [Nat.add_zero] at c0
  have HNum := hid (rnum11_calls g o c (b.getD 0 0) (b.getD 1 0) w c0 c1)
  rw [show (b.getD 0 0).toNat + 256 * (b.getD 1 0).toNat = numF b from rfl] at HNum
  have hn64 : numF b < 65536 := by unfold numF; have := (b.getD 0 0).toNat_lt; have := (b.getD 1 0).toNat_lt; omega
  have hc2 : 6 ≤ c := by omega
  have HB := hid hb
  clear hcell c0 c1 hb
  by_cases h1 : 1000 < numF b
  ·have hno : ¬ okF b := fun h => by have := h.1.2.1; omega
   have he : errF b = 110 := by unfold errF; rw [if_neg (fun h => by have := h.2.1; omega)]
   have hn : nextF b = ([], 0) := by unfold nextF; rw [if_neg hno]
   have d1 : decide (1000 < (numF b : Int)) = true := decide_eq_true (by omega)
   rw [he, hn]
   clear he hn hno
   generalize numF b = nf at *
   go_enter Tryz.func107, Tryz.ntmps107
   go_wp2_with fail
   refine HNum.out.mono ?_
   rintro e w1 ⟨rfl, rfl⟩
   go_wp2_with fail
   go_ret3
   exact ⟨none, 0, rfl, fun _ _ => Byt.nil_ _ _, fun _ => rfl, Nat.le_refl _, Below.refl _ _⟩
  ·have d1 : decide (1000 < (numF b : Int)) = false := decide_eq_false (by omega)
   have hsub : IntKind.i64.wrap ((b.length : Int) - 6) = (b.length : Int) - 6 := IntWalk.i64_in _ (by omega)
   by_cases h2 : b.length - 6 < numF b
   ·have hno : ¬ okF b := fun h => by have := h.1.2.2; omega
    have he : errF b = 110 := by unfold errF; rw [if_neg (fun h => by have := h.2.2; omega)]
    have hn : nextF b = ([], 0) := by unfold nextF; rw [if_neg hno]
    have d2 : decide ((b.length : Int) - 6 < (numF b : Int)) = true := decide_eq_true (by omega)
    rw [he, hn]
    clear he hn hno
    generalize numF b = nf at *
    go_enter Tryz.func107, Tryz.ntmps107
    go_wp2_with fail
    refine HNum.out.mono ?_
    rintro e w1 ⟨rfl, rfl⟩
    go_wp2_with fail
    refine HNum.out.mono ?_
    rintro e w1 ⟨rfl, rfl⟩
    go_wp2_with fail
    go_ret3
    exact ⟨none, 0, rfl, fun _ _ => Byt.nil_ _ _, fun _ => rfl, Nat.le_refl _, Below.refl _ _⟩
   ·have hform : formF b := ⟨by omega, by omega, by omega⟩
    have d2 : decide ((b.length : Int) - 6 < (numF b : Int)) = false := decide_eq_false (by omega)
    have hln := loadF_length hform
    have hbl := byt_load HB.out hc
    have hdn : dropA (some ⟨g, o, none⟩) c 6 = none → c - 6 = 0 := fun h => by unfold dropA at h; split at h <;> cases h
    have HPk := hid (rpack11_calls (dropA (some ⟨g, o, none⟩) c 6) (c - 6) (loadF b) w hbl hdn (by omega))
    have HLoad := hid hbl
    have HDn := hid hdn
    have HForm := hid hform
    rw [hln] at HPk
    have HLn := hid hln
    have hb6 : numF b + 6 ≤ b.length := by have := hform.2.2; have := hform.1; omega
    have HTake := hid (HB.out.take (6 + numF b))
    have htl : (b.take (6 + numF b)).length = 6 + numF b := by rw [List.length_take]; omega
    have HTl := hid htl
    have hrun := run_load (some ⟨g, o, none⟩) b.length c (numF b) (by omega)
    have hz1 : (6 : Int) ≤ 6 + (numF b : Int) := by omega
    have hz2 : 6 + (numF b : Int) ≤ (c : Int) := by omega
    clear hform hln hbl h1 h2 hdn htl
    generalize hdA : dropA (some ⟨g, o, none⟩) c 6 = DA at *
    have hnx : (if packF (loadF b) = b.take (6 + numF b) then errF b = 0 ∧ nextF b = (loadF b, 6 + numF b) else errF b = 111 ∧ nextF b = ([], 0)) := by
     unfold errF nextF okF
     simp only [HForm.out, if_true, true_and]
     split
     ·exact ⟨rfl, rfl⟩
     ·exact ⟨rfl, rfl⟩
    by_cases hok : packF (loadF b) = b.take (6 + numF b)
    ·rw [if_pos hok] at hnx
     rw [hnx.1, hnx.2]
     clear hnx
     have HOk := hid hok
     clear hok
     go_enter Tryz.func107, Tryz.ntmps107
     go_wp2_with fail
     refine HNum.out.mono ?_
     rintro e w1 ⟨rfl, rfl⟩
     go_wp2_with fail
     refine HNum.out.mono ?_
     rintro e w1 ⟨rfl, rfl⟩
     go_wp2_with fail
     refine HNum.out.mono ?_
     rintro e w1 ⟨rfl, rfl⟩
     go_wp2_with fail
     refine HPk.out.mono ?_
     rintro e w2 ⟨A2, c2, rfl, hown2, hb2⟩
     have hb2' := (byt_of_own hown2).1
     have e1 := conv_strE hb2'.drew c2
     have e2 := conv_strE (HTake.out.below hb2).drew c
     rw [← HOk.out] at e2
     have hpl : (packF (loadF b)).length = 6 + numF b := by rw [packF_length, HLn.out]
     rw [hpl] at e1 e2
     rw [hpl]
     have HR := hid (And.intro (HLoad.out.below hb2) hb2)
     clear hown2 hb2 hb2' hpl
     go_wp2_with fail
     go_region
     go_wp2_with fail
     go_ret3
     rw [HLn.out]
     exact ⟨DA, c - 6, rfl, fun W hW => by rw [← hdA]; exact byt_load hW hc, HDn.out, by omega, HR.out.2.drew⟩
    ·rw [if_neg hok] at hnx
     rw [hnx.1, hnx.2]
     clear hnx
     have HOk := hid hok
     clear hok
     go_enter Tryz.func107, Tryz.ntmps107
     go_wp2_with fail
     refine HNum.out.mono ?_
     rintro e w1 ⟨rfl, rfl⟩
     go_wp2_with fail
     refine HNum.out.mono ?_
     rintro e w1 ⟨rfl, rfl⟩
     go_wp2_with fail
     refine HNum.out.mono ?_
     rintro e w1 ⟨rfl, rfl⟩
     go_wp2_with fail
     refine HPk.out.mono ?_
     rintro e w2 ⟨A2, c2, rfl, hown2, hb2⟩
     have hb2' := (byt_of_own hown2).1
     have e1 := conv_strE hb2'.drew c2
     have e2 := conv_strE (HTake.out.below hb2).drew c
     have hpl : (packF (loadF b)).length = 6 + numF b := by rw [packF_length, HLn.out]
     rw [hpl] at e1
     rw [HTl.out] at e2
     rw [hpl]
     have t1 : (packF (loadF b) == b.take (6 + numF b)) = false := by simpa using HOk.out
     have HR := hid hb2
     clear hown2 hb2 hb2' hpl
     generalize packF (loadF b) = pk at *
     generalize b.take (6 + numF b) = tk at *
     go_wp2_with fail
     go_region
     go_wp2_with fail
     go_ret3
     exact ⟨none, 0, rfl, fun _ _ => Byt.nil_ _ _, fun _ => rfl, Nat.le_refl _, HR.out.drew⟩
set_option maxHeartbeats 8000000 in
theorem rscan12_calls (A : Option Addr) (c : Nat) (b : List UInt8) (w : World) (hb : Byt w A b) (hc : b.length ≤ c) (hl : b.length ≤ 100000) :
  Calls Tryz.prog 84 #[.slice A b.length c] w fun e w' => ∃ A' c', e = .returned (.tuple #[.slice A' (scanF b).1.length c', .int .i64 ((scanF b).2 : Int)]) ∧ RdBc w' A' (scanF b).1 ∧ (A' = none → c' = 0) ∧ Below w.heap.size w w' := by
 obtain ⟨i0, hi0, hz0, hz1, hz2⟩ := infoSb'
 have HB := hid hb
 have HC := hid hc
 clear hb hc
 go_enter Tryz.func84, Tryz.ntmps84
 go_wp2_with fail
 go_loopw [4, 5] (fun v4 v5 wr => ∃ (n : Nat) (ss : List Sb), v5 = .int .i64 (n : Int) ∧ Hid (ScanTo b n (ss.map Sb.l)) ∧ Hid (wr.ownsRow w.heap.size 30 1 v4 ss.length (ss.map sbV)) ∧ Hid (∀ s ∈ ss, Byt w s.A s.l ∧ (s.A = none → s.c = 0) ∧ s.l.length ≤ s.c) ∧ Hid (6 * ss.length ≤ n) ∧ Hid (Below w.heap.size w wr)) (fun _ v5 _ => b.length - (intOf v5).toNat)
 case atStart => exact ⟨0, [], rfl, hid (ScanTo.zero b), hid (World.ownsRow_nil _ _ _ _), hid (fun s hs => by cases hs), hid (by simp), hid (Below.refl _ _)⟩
 case round =>
  obtain ⟨n, ss, rfl, hst, hown, hrd, hsm, hbel⟩ := hrel
  have hnl := hst.out.le
  have hcut := run_cut A c b n hnl
  have hdl : (b.drop n).length = b.length - n := List.length_drop
  have HNx := hid (rnext12_calls (dropA A c n) (c - n) (b.drop n) wr ((HB.out.below hbel.out).drop c n HC.out) (by have := HC.out; omega) (by omega))
  rw [hdl] at HNx hcut
  have HNl := hid hnl
  have HDl := hid hdl
  have hn64 : (n : Int) ≤ 100000 := by omega
  by_cases hok : okF (b.drop n)
  ·have hn1 : nextF (b.drop n) = (loadF (b.drop n), 6 + numF (b.drop n)) := by unfold nextF; rw [if_pos hok]
   have he1 : errF (b.drop n) = 0 := err_ok.2 hok
   rw [hn1, he1] at HNx
   have HSt := hid (hst.out.step hok)
   have hf := hok.1.2.1
   have HF := hid (And.intro hok.1.2.2 hok.1.1)
   generalize numF (b.drop n) = nf at *
   generalize hld : loadF (b.drop n) = ld at *
   clear hn1 he1 hdl hnl hok
   go_wp2_with fail
   refine HNx.out.mono ?_
   rintro e w5 ⟨A5, c5, rfl, hby, hno, hcap, hb5⟩
   have HS5 : Hid (∀ s ∈ ss ++ [(⟨A5, ld, c5⟩ : Sb)], Byt w s.A s.l ∧ (s.A = none → s.c = 0) ∧ s.l.length ≤ s.c) := hid (fun s hs => by
    rcases List.mem_append.1 hs with h | h
    ·exact hrd.out s h
    ·obtain rfl := List.mem_singleton.1 h
     exact ⟨hby w (HB.out.drop c n HC.out), hno, hcap⟩)
   have HB5 : Hid (Below w.heap.size w w5) := hid (hbel.out.trans (hb5.mono hbel.out.size))
   have HOwn5 := hid (show w5.ownsRow w.heap.size 30 1 u4 ss.length (ss.map sbV) from own_below hown.out hb5)
   clear hby hno hcap hb5 HNx hcut
   have hsl : ss.length ≤ 100000 := by have := hsm.out; have := HNl.out; omega
   have hwr : IntKind.i64.wrap ((n : Int) + (6 + (nf : Int))) = (n : Int) + (6 + (nf : Int)) := IntWalk.i64_in _ (by omega)
   go_wp2_with (at_builtin; refine wpList_append_own _ rfl _ _ 131 rfl w.heap.size 30 i0 _ 1 24 Tryz.underlying131 hi0 hz0 hz1 hz2 rfl (by decide) _ _ _ rfl (HOwn5.out.alloc _) ⟨w5.heap.size, 0, none⟩ 1 1 [.slice A5 ld.length c5] rfl rfl ?d1 ?d2 ?d3 ?d4 ?d5 ?_)
   case d1 => exact sb_cell w5 _
   case d2 => intro u hu; obtain rfl := List.mem_singleton.1 hu; rfl
   case d3 => unfold maxLen; omega
   case d4 => omega
   case d5 => have := HB5.out.size; simp; omega
   intro v7 w7 hown7 hgr7 _
   have hb7 : Below w.heap.size w w7 := (HB5.out.alloc HB5.out.size _).grown hgr7 (by have := HB5.out.size; simp; omega) (fun k hk => (HOwn5.out.lt k hk).1)
   have HOwn7 : Hid (w7.ownsRow w.heap.size 30 1 v7 (ss ++ [(⟨A5, ld, c5⟩ : Sb)]).length ((ss ++ [(⟨A5, ld, c5⟩ : Sb)]).map sbV)) := hid (by rw [List.map_append, List.length_append]; exact hown7)
   have HB7 := hid hb7
   clear hown7 hgr7 hb7
   go_wp2_with fail
   go_roundw
   case rel => exact ⟨n + (6 + nf), ss ++ [⟨A5, ld, c5⟩], by go_num, hid (by rw [List.map_append]; exact HSt.out), HOwn7, HS5, hid (by rw [List.length_append, List.length_singleton]; have := hsm.out; omega), HB7⟩
   case measure => have := HF.out; have := HDl.out; simp [intOf]; omega
  ·have hn1 : nextF (b.drop n) = ([], 0) := by unfold nextF; rw [if_neg hok]
   have he1 : ¬ errF (b.drop n) = 0 := fun h => hok (err_ok.1 h)
   rw [hn1] at HNx
   have HFin := hid (hst.out.fin hok)
   generalize errF (b.drop n) = er at *
   have t1 : (er == 0) = false := by simpa using he1
   have t2 : (er != 0) = true := by simpa using he1
   clear hn1 he1 hok hdl hnl
   go_wp2_with fail
   refine HNx.out.mono ?_
   rintro e w5 ⟨A5, c5, rfl, _, _, _, hb5⟩
   have HB5 : Hid (Below w.heap.size w w5) := hid (hbel.out.trans (hb5.mono hbel.out.size))
   have hown5 := own_below hown.out hb5
   obtain ⟨A6, c6, rfl⟩ := own_form hown5
   have HR : Hid (RdBc w5 A6 (ss.map Sb.l) ∧ (A6 = none → c6 = 0)) := hid ⟨rdBc_own hown5 (fun s hs => ⟨(hrd.out s hs).1.below HB5.out, (hrd.out s hs).2⟩), own_none hown5⟩
   clear hb5 hown5 HNx hcut
   go_wp2_with fail
   go_ret2
   rw [HFin.out]
   exact ⟨A6, c6, by simp, HR.out.1, HR.out.2, HB5.out⟩
end
end Go.Proofs.YteafcaambnfdoaaGreatDoor
