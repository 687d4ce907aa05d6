/-
  Package frame: Pack (layer 11).
-/
import Derived.Test.YtjfikdldabmciaaDoorFrCat
namespace Go.Proofs.YtjfikdldabmciaaDoor
open Go Go.RowKit
set_option maxRecDepth 100000

set_option maxHeartbeats 2000000 in
theorem fpack11_long (A : Option Addr) (c : Nat) (p : List UInt8) (w : World) (hl : 1000 < p.length) :
    Calls Tryd.prog 10 #[.slice A p.length c] w fun e w' => e = .returned (.tuple #[.slice none 0 0, .int .i64 112]) ∧ Below w.heap.size w w' := by
  have d0 : decide (1000 < (p.length : Int)) = true := decide_eq_true (by omega)
  clear hl
  go_enter Tryd.func10, Tryd.ntmps10
  go_wp2_with fail
  go_ret2
  exact ⟨rfl, Below.refl _ _⟩
/-- The three rows that a frame is put together of. -/
def partsP (p : List UInt8) : List (List UInt8) := [headF p, bl4 (crcL (headF p ++ p)), p]
theorem partsP_flat (p : List UInt8) : (partsP p).flatten = packF p := by unfold partsP packF; simp
theorem bl4_cells (s : BitVec 32) : (Lib.byteCells (bl4 s)) = [.int .u8 (byV s 0 : Int), .int .u8 (byV s 1 : Int), .int .u8 (byV s 2 : Int), .int .u8 (byV s 3 : Int)] := by
  unfold bl4 Lib.byteCells
  simp only [List.map_cons, List.map_nil, by_nat]
theorem byt_bl4 {w : World} {g : Nat} {s : BitVec 32} (h : BxA w g 40 [.int .u8 (byV s 0 : Int), .int .u8 (byV s 1 : Int), .int .u8 (byV s 2 : Int), .int .u8 (byV s 3 : Int)]) : Byt w (some ⟨g, 0, none⟩) (bl4 s) := by
  rw [← bl4_cells] at h
  refine Byt.mk_ fun i hi => ?_
  have := h.c i (v := .int .u8 (((bl4 s).getD i 0).toNat : Int)) (by simp [Lib.byteCells, hi, List.getD])
  rw [Nat.zero_add]
  exact this
set_option maxHeartbeats 4000000 in
theorem fpack11_calls (A : Option Addr) (c : Nat) (p : List UInt8) (w : World) (hb : Byt w A p) (hA : A = none → c = 0) (hl : p.length ≤ 1000) (ht : LaysR w) :
    Calls Tryd.prog 10 #[.slice A p.length c] w fun e w' => ∃ A' c', e = .returned (.tuple #[.slice A' (packF p).length c', .int .i64 0]) ∧ w'.ownsRow w.heap.size 5 1 (.slice A' (packF p).length c') (packF p).length (Lib.byteCells (packF p)) ∧ Below w.heap.size w w' := by
  have d0 : decide (1000 < (p.length : Int)) = false := decide_eq_false (by omega)
  have hshr : (p.length : Int) / 2 ^ 8 = (p.length : Int) / 256 := rfl
  have hm : (p.length : Int) / 256 % 256 = (p.length : Int) / 256 := by omega
  obtain ⟨W1, hW1⟩ : ∃ W1, w.alloc (.cells #[.int .u8 ((p.length : Int) % 256), .int .u8 ((p.length : Int) / 256)] 5) = W1 := ⟨_, rfl⟩
  have hb1 : Below w.heap.size w W1 := by rw [← hW1]; exact (Below.refl _ w).alloc (Nat.le_refl _) _
  have hh1 : Byt W1 (some ⟨w.heap.size, 0, none⟩) (headF p) := by rw [← hW1]; exact byt_head w p hl
  have hs1 : W1.heap.size = w.heap.size + 1 := by rw [← hW1]; simp
  have HS := Lib.hid (sumof11_calls (some ⟨w.heap.size, 0, none⟩) A 2 c (headF p) p W1 hh1 (hb.below hb1) (by rw [headF_length]; omega) (by omega) (ht.on hb1))
  rw [headF_length] at HS
  have HB := Lib.hid hb
  have HB1 := Lib.hid hb1
  have HH := Lib.hid hh1
  have HA := Lib.hid hA
  have HL := Lib.hid hl
  have HP := Lib.hid (partsP_flat p)
  clear hb hb1 hh1 hA hl ht
  go_enter Tryd.func10, Tryd.ntmps10
  go_wp2_with fail
  clear hW1 hshr hm d0
  refine HS.out.mono ?_
  rintro e w2 ⟨rfl, hb2⟩
  have HB2 := Lib.hid (HB1.out.trans (hb2.mono (by omega)))
  have HH2 := Lib.hid (HH.out.below hb2)
  have hz2 := hb2.size
  have HY := Lib.hid (sbytes_calls (crcL (headF p ++ p)) w2)
  clear hb2 HS HB1 HH
  go_wp2_with fail
  refine HY.out.mono ?_
  rintro e w3 ⟨rfl, hb3⟩
  have HB3 := Lib.hid (HB2.out.trans (hb3.mono HB2.out.size))
  have HH3 := Lib.hid (HH2.out.below hb3)
  have hz3 := hb3.size
  clear hb3 HY HB2 HH2
  go_wp2_with fail
  obtain ⟨W4, hW4⟩ : ∃ W4, w3.alloc (.cells #[.int .u8 (byV (crcL (headF p ++ p)) 0 : Int), .int .u8 (byV (crcL (headF p ++ p)) 1 : Int), .int .u8 (byV (crcL (headF p ++ p)) 2 : Int), .int .u8 (byV (crcL (headF p ++ p)) 3 : Int)] 40) = W4 := ⟨_, rfl⟩
  have hb4 : Below w3.heap.size w3 W4 := by rw [← hW4]; exact (Below.refl _ w3).alloc (Nat.le_refl _) _
  have hy4 : Byt W4 (some ⟨w3.heap.size, 0, none⟩) (bl4 (crcL (headF p ++ p))) := by rw [← hW4]; exact byt_bl4 (BxA.new w3 40 _)
  have hs4 : W4.heap.size = w3.heap.size + 1 := by rw [← hW4]; simp
  have HB4 := Lib.hid (HB3.out.trans (hb4.mono HB3.out.size))
  have HH4 := Lib.hid (HH3.out.below hb4)
  rw [hW4]
  clear hW4 hb4 HB3 HH3
  generalize hq : bl4 (crcL (headF p ++ p)) = q at *
  have hq4 : q.length = 4 := by rw [← hq]; rfl
  have e5 : #[Value.slice (some ⟨w.heap.size, 0, none⟩) 2 2, .slice (some ⟨w3.heap.size, 0, none⟩) 4 4, .slice A p.length c] = [Value.slice (some ⟨w.heap.size, 0, none⟩) 2 2, .slice (some ⟨w3.heap.size, 0, none⟩) 4 4, .slice A p.length c].toArray := rfl
  obtain ⟨W5, hW5⟩ : ∃ W5, W4.alloc (.cells #[.slice (some ⟨w.heap.size, 0, none⟩) 2 2, .slice (some ⟨w3.heap.size, 0, none⟩) 4 4, .slice A p.length c] 22) = W5 := ⟨_, rfl⟩
  have hb5 : Below W4.heap.size W4 W5 := by rw [← hW5]; exact (Below.refl _ W4).alloc (Nat.le_refl _) _
  have hx5 : BxA W5 (w3.heap.size + 1) 22 [.slice (some ⟨w.heap.size, 0, none⟩) 2 2, .slice (some ⟨w3.heap.size, 0, none⟩) 4 4, .slice A p.length c] := by rw [← hW5, ← hs4, e5]; exact BxA.new W4 22 _
  have HB5 := Lib.hid (HB4.out.trans (hb5.mono HB4.out.size))
  have HH5 := Lib.hid (HH4.out.below hb5)
  have hy5 := hy4.below hb5
  have hd : RdBs W5 (some ⟨w3.heap.size + 1, 0, none⟩) (partsP p) := fun _ => ⟨_, _, rfl, hx5.lt, fun i l hi => by
    unfold partsP at hi
    rw [hq] at hi
    match i, hi with
    | 0, hi =>
      obtain rfl : headF p = l := by simpa using hi
      exact ⟨_, _, hx5.c 0 rfl, HH5.out, fun h => by cases h⟩
    | 1, hi =>
      obtain rfl : q = l := by simpa using hi
      exact ⟨_, _, by rw [hq4]; exact hx5.c 1 rfl, hy5, fun h => by cases h⟩
    | 2, hi =>
      obtain rfl : p = l := by simpa using hi
      exact ⟨_, _, hx5.c 2 rfl, HB.out.below HB5.out, HA.out⟩
    | i + 3, hi => simp at hi⟩
  have HC := Lib.hid (concat11_calls (some ⟨w3.heap.size + 1, 0, none⟩) 3 (partsP p) W5 hd (by rw [HP.out, packF_length]; have := HL.out; omega) (by show 3 ≤ 1000; omega))
  rw [HP.out, show (partsP p).length = 3 from rfl] at HC
  rw [hW5]
  clear hW5 hb5 hx5 hy5 hd e5 hy4 HB4 HH4 hq hq4 HP
  refine HC.out.mono ?_
  rintro e w6 ⟨A6, c6, rfl, hown6, hb6⟩
  have HB6 := Lib.hid (HB5.out.trans (hb6.mono HB5.out.size))
  have HO6 := Lib.hid (own_less hown6 HB5.out.size)
  clear hown6 hb6 HC
  go_wp2_with fail
  go_ret2
  exact ⟨A6, c6, rfl, HO6.out, HB6.out⟩
end Go.Proofs.YtjfikdldabmciaaDoor
