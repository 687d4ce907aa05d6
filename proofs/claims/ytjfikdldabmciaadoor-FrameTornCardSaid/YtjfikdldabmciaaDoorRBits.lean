/-
  The document's bits, row, number (layer 9).
-/
import Derived.Test.YtjfikdldabmciaaDoorCrcMath
import Derived.Test.YtjfikdldabmciaaDoorApMake
import Derived.Test.YtjfikdldabmciaaDoorMem
import Derived.Test.YtjfikdldabmciaaDoorRowW
import Derived.Test.YtjfikdldabmciaaDoorRowB
import Derived.OwnWalk
import Derived.IntWalk
namespace Go.Proofs.YtjfikdldabmciaaDoor
open Go Go.RowKit
set_option maxRecDepth 100000

theorem infoBo : (Tryd.prog.info? 4).map (fun i => (i.zero, i.size, i.bytes)) = some (some (.bool false), 1, 1) := by kernel_rfl
/-- A row of bits that a call owns. -/
def OwnB (w : World) (base : Nat) (v : Value) (l : List Bool) : Prop := w.ownsRow base 4 1 v l.length (l.map Value.bool)
theorem bitsB_take (x : UInt8) {k : Nat} (hk : k < 8) : (bitsB x).take (k + 1) = (bitsB x).take k ++ [x.toNat.testBit k] := by
  rw [List.take_add_one]
  congr 1
  unfold bitsB
  simp [hk]
theorem bit_div (n k : Nat) : (((n / 2 ^ k : Nat) : Int) % 2 == 1) = n.testBit k := by
  rw [Nat.testBit_eq_decide_div_mod_eq]
  by_cases h : n / 2 ^ k % 2 = 1
  · rw [decide_eq_true h]; exact beq_iff_eq.2 (by omega)
  · rw [decide_eq_false h]; exact beq_eq_false_iff_ne.2 (by omega)
theorem bit_cells (w : World) (q : Bool) (t : TypeId) : ∀ (j : Nat) (u : Value), [Value.bool q][j]? = some u → (w.alloc (.cells #[.bool q] t)).cell? (Addr.add ⟨w.heap.size, 0, none⟩ j) = some u := fun j u hj => by
  match j, hj with
  | 0, hj => obtain rfl : Value.bool q = u := by simpa using hj
             rw [Addr.add_lit, Nat.zero_add]; unfold World.cell?; rw [World.alloc_heap_new]; rfl
  | j + 1, hj => simp at hj
theorem bit_one (q : Bool) : ∀ u ∈ [Value.bool q], u.oneCell' = true := by
  intro u hu
  obtain rfl : u = Value.bool q := by simpa using hu
  rfl
theorem bitsL_takeS {l : List UInt8} {i : Nat} (hi : i < l.length) : bitsL (l.take (i + 1)) = bitsL (l.take i) ++ bitsB (l.getD i 0) := by
  rw [List.take_succ_eq_append_getElem hi, bitsL_append, List.getD_eq_getElem?_getD, List.getElem?_eq_getElem hi]
  simp [bitsL]
set_option maxHeartbeats 4000000 in
theorem rbits_calls (A : Option Addr) (c : Nat) (l : List UInt8) (w : World) (hb : Byt w A l) (hl : l.length ≤ 100000) :
    Calls Tryd.prog 29 #[.slice A l.length c] w fun e w' => ∃ v, e = .returned v ∧ OwnB w' w.heap.size v (bitsL l) ∧ Below w.heap.size w w' := by
  obtain ⟨i1, hi1, hy0, hy1, hy2⟩ := info_parts infoBo
  have HB := Lib.hid hb
  clear hb
  go_enter Tryd.func29, Tryd.ntmps29
  go_wp2_with fail
  go_loopw [3, 4] (fun v3 v4 wr => ∃ i : Nat, i ≤ l.length ∧ v4 = .int .i64 (i : Int) ∧ Hid (OwnB wr w.heap.size v3 (bitsL (l.take i))) ∧ Hid (Below w.heap.size w wr)) (fun _ v4 _ => l.length - (intOf v4).toNat)
  case atStart => exact ⟨0, Nat.zero_le _, rfl, Lib.hid (World.ownsRow_nil _ _ _ _), Lib.hid (Below.refl _ _)⟩
  case round =>
    obtain ⟨i, hi, rfl, hown, hbel⟩ := hrel
    by_cases hlt : i < l.length
    · obtain ⟨g, o, rfl, hg, hc⟩ := (HB.out.below hbel.out).at_ (by omega)
      have c0 := hc i hlt
      have hil : (i : Int) < (l.length : Int) := by omega
      have HTs := Lib.hid (bitsL_takeS hlt)
      generalize l.getD i 0 = x at *
      have HW : Hid (wrap64 (x.toNat : Int) = (x.toNat : Int)) := Lib.hid (by have := x.toNat_lt; unfold wrap64; omega)
      have HX0 : Hid ((x.toNat / 2 ^ 0 : Nat) = x.toNat) := Lib.hid (by simp)
      clear hc
      go_wp2_with fail
      have HSum := Lib.hid (True.intro)
      go_loopw [3, 5, 6] (fun v3 v5 v6 wr => ∃ k : Nat, k ≤ 8 ∧ v6 = .int .i64 (k : Int) ∧ v5 = .int .i64 ((x.toNat / 2 ^ k : Nat) : Int) ∧ Hid (OwnB wr w.heap.size v3 (bitsL (l.take i) ++ (bitsB x).take k)) ∧ Hid (Below w.heap.size w wr)) (fun _ _ v6 _ => 8 - (intOf v6).toNat)
      case atStart => exact ⟨0, Nat.zero_le _, rfl, by rw [HX0.out, HW.out], by simpa using hown, hbel⟩
      case round =>
        obtain ⟨k, hk, rfl, rfl, hown2, hbel2⟩ := hrel
        by_cases hk8 : k < 8
        · have hkl : (k : Int) < 8 := by omega
          have hq := bit_div x.toNat k
          have HTk := Lib.hid (bitsB_take x hk8)
          have HDiv : Hid ((x.toNat / 2 ^ k : Nat) / 2 = x.toNat / 2 ^ (k + 1)) := Lib.hid (by rw [Nat.div_div_eq_div_mul, Nat.pow_succ])
          have hx256 : (x.toNat / 2 ^ k : Nat) < 256 := Nat.lt_of_le_of_lt (Nat.div_le_self _ _) x.toNat_lt
          have Hlen : Hid ((bitsL (l.take i) ++ (bitsB x).take k).length ≤ 800000) := Lib.hid (by
            rw [List.length_append, bitsL_length, List.length_take, List.length_take]; omega)
          have HTk2 : Hid (bitsL (l.take i) ++ (bitsB x).take (k + 1) = (bitsL (l.take i) ++ (bitsB x).take k) ++ [x.toNat.testBit k]) := Lib.hid (by rw [HTk.out, List.append_assoc])
          have hz := hbel2.out.size
          clear HTk
          generalize bitsL (l.take i) ++ (bitsB x).take k = acc at *
          generalize x.toNat / 2 ^ k = nk at *
          generalize x.toNat.testBit k = q at *
          go_wp2_with (at_builtin; refine wpList_append_own _ rfl _ _ 54 rfl w.heap.size 4 i1 _ 1 1 Tryd.underlying54 hi1 hy0 hy1 hy2 rfl (by decide) _ _ _ rfl (hown2.out.alloc _) ⟨wr.heap.size, 0, none⟩ 1 1 [Value.bool q] rfl rfl ?d1 ?d2 ?d3 ?d4 ?d5 ?_)
          case d1 => exact bit_cells wr q _
          case d2 => exact bit_one q
          case d3 => have := Hlen.out; unfold maxLen; omega
          case d4 => have := Hlen.out; omega
          case d5 => have := Hlen.out; simp; omega
          intro v' w5 hown5 hgrow _
          have Hown5 := Lib.hid hown5
          have hb5 : Below w.heap.size w w5 := (hbel2.out.alloc hz _).grown hgrow (by simp; omega) (fun k hk => (hown2.out.lt k hk).1)
          have HB5 := Lib.hid hb5
          clear hown5 hgrow hb5
          go_wp2_with fail
          go_roundw
          case rel => exact ⟨k + 1, by omega, by go_num, by rw [← HDiv.out]; rfl, Lib.hid (by unfold OwnB; rw [HTk2.out]; simpa using Hown5.out), HB5⟩
          case measure => simp [intOf]; omega
        · obtain rfl : k = 8 := by omega
          have HO2 : Hid (OwnB wr w.heap.size u3 (bitsL (l.take (i + 1)))) := Lib.hid (by rw [HTs.out, ← List.take_of_length_le (l := bitsB x) (i := 8) (by rw [bitsB_length]; omega)]; exact hown2.out)
          clear hown2 hown
          go_wp2_with fail
          go_roundw
          case rel => exact ⟨i + 1, by omega, by go_num, HO2, hbel2⟩
          case measure => simp [intOf]; omega
    · obtain rfl : i = l.length := by omega
      have HO2 : Hid (OwnB wr w.heap.size u3 (bitsL l)) := Lib.hid (by have := hown.out; rwa [List.take_length] at this)
      clear hown
      go_wp2_with fail
      go_ret
      exact ⟨_, rfl, HO2.out, hbel.out⟩
end Go.Proofs.YtjfikdldabmciaaDoor
