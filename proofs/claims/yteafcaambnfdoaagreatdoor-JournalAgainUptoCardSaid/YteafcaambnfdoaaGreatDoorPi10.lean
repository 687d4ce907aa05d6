/-
  Layer 7 and what it stands on, part 10 (RefA RefB RefNext).
-/
import Derived.Test.YteafcaambnfdoaaGreatDoorPi7
import Derived.Test.YteafcaambnfdoaaGreatDoorChecked
import Derived.Deep.QuietTactic
import Derived.BigQuiet
import Derived.OwnWalk
namespace Go.Proofs.YteafcaambnfdoaaGreatDoor
section
open Go Go.RowKit
open Go.Lib (hid)
set_option maxHeartbeats 1000000 in
theorem low_calls (A : Option Addr) (c : Nat) (l : List UInt8) (k : Nat) (w : World) (hb : Byt w A l) (hm : l.length ≤ maxLen) (hk : k ≤ 3) :
  Calls Tryz.prog 141 #[.slice A l.length c, .int .i64 (k : Int)] w fun e w' => e = .returned (.int .i64 (lowL l k)) ∧ w = w' := by
 unfold maxLen at hm
 unfold lowL
 by_cases hlt : k < l.length
 ·obtain ⟨b, o, rfl, _, hc⟩ := hb.at_ (by omega)
  have hck := hc k hlt
  have hu := (l.getD k 0).toNat_lt
  clear hc hb
  generalize (l.getD k 0).toNat = y at *
  generalize l.length = n at *
  have hd : decide ((n : Int) ≤ (k : Int)) = false := decide_eq_false (by omega)
  have hd' : decide (n ≤ k) = false := decide_eq_false (by omega)
  by_cases h1 : y < 128
  ·rw [if_neg (by omega)]
   have e1 : decide ((y : Int) < 128) = true := decide_eq_true (by omega)
   go_enter Tryz.func141, Tryz.ntmps141
   go_wp2
   go_ret
   exact ⟨rfl, rfl⟩
  ·by_cases h2 : 191 < y
   ·rw [if_neg (by omega)]
    have e1 : decide ((y : Int) < 128) = false := decide_eq_false (by omega)
    have e2 : decide ((191 : Int) < (y : Int)) = true := decide_eq_true (by omega)
    go_enter Tryz.func141, Tryz.ntmps141
    go_wp2
    go_ret
    exact ⟨rfl, rfl⟩
   ·rw [if_pos (by omega)]
    have e1 : decide ((y : Int) < 128) = false := decide_eq_false (by omega)
    have e2 : decide ((191 : Int) < (y : Int)) = false := decide_eq_false (by omega)
    go_enter Tryz.func141, Tryz.ntmps141
    go_wp2
    go_ret
    exact ⟨rfl, rfl⟩
 ·rw [if_neg (by omega)]
  have hd : decide ((l.length : Int) ≤ (k : Int)) = true := decide_eq_true (by omega)
  clear hb
  go_enter Tryz.func141, Tryz.ntmps141
  go_wp2
  go_ret
  exact ⟨rfl, rfl⟩
set_option maxHeartbeats 2000000 in
theorem begins_calls (A B : Option Addr) (c d : Nat) (l p : List UInt8) (w : World) (hb : Byt w A l) (hp : Byt w B p) (hm : l.length ≤ maxLen) (hm2 : p.length ≤ maxLen) :
  Calls Tryz.prog 142 #[.slice A l.length c, .slice B p.length d] w fun e w' => e = .returned (.bool (begL l p)) ∧ Below w.heap.size w w' := by
 unfold maxLen at hm hm2
 by_cases h0 : p.length = 0
 ·have e1 : begL l p = false := decide_eq_false (by omega)
  rw [e1, h0]
  clear hb hp
  go_enter Tryz.func142, Tryz.ntmps142
  go_wp2
  go_ret
  exact ⟨rfl, Below.refl _ _⟩
 ·have hz : ((p.length : Int) == 0) = false := beq_eq_false_iff_ne.2 (by omega)
  by_cases hlt : l.length < p.length
  ·have e1 : begL l p = false := decide_eq_false (by omega)
   rw [e1]
   clear hb hp
   have e2 : decide ((l.length : Int) < (p.length : Int)) = true := decide_eq_true (by omega)
   go_enter Tryz.func142, Tryz.ntmps142
   go_wp2
   go_ret
   exact ⟨rfl, Below.refl _ _⟩
  ·obtain ⟨b, o, rfl, _, hc⟩ := hb.at_ (by omega)
   obtain ⟨b2, o2, rfl, _, hc2⟩ := hp.at_ (by omega)
   clear hb hp
   have Hc := hid hc
   have Hc2 := hid hc2
   clear hc hc2
   have hp0 : 0 < p.length := by omega
   have hpl : p.length ≤ l.length := by omega
   have e2 : decide ((l.length : Int) < (p.length : Int)) = false := decide_eq_false (by omega)
   have e3 : decide (l.length < p.length) = false := decide_eq_false (by omega)
   go_enter Tryz.func142, Tryz.ntmps142
   go_wp2_with fail
   go_loopw [5] (fun i wr => ∃ k n : Nat, k ≤ p.length ∧ i = .int .i64 (k : Int) ∧ wr = w.drewN n ∧ Hid (∀ i, i < k → (l.getD i 0).toNat = (p.getD i 0).toNat)) (fun i _ => p.length - (intOf i).toNat)
   case atStart => exact ⟨0, 0, by omega, rfl, rfl, hid (fun i hi => by omega)⟩
   case round =>
    obtain ⟨k, n, hk, rfl, rfl, hall⟩ := hrel
    clear e2 e3
    by_cases hkp : k < p.length
    ·have ck := Hc.out k (by omega)
     have ck2 := Hc2.out k hkp
     have hkl : k < l.length := by omega
     have hall' : Hid (((l.getD k 0).toNat = (p.getD k 0).toNat) → ∀ i, i < k + 1 → (l.getD i 0).toNat = (p.getD i 0).toNat) := by
      refine hid fun he i hi => ?_
      by_cases hik : i < k
      ·exact hall.out i hik
      ·obtain rfl : i = k := by omega
       exact he
     have hno : Hid (¬ ((l.getD k 0).toNat = (p.getD k 0).toNat) → begL l p = false) := by
      refine hid fun he => decide_eq_false fun h => he (h.2.2 k hkp)
     generalize (l.getD k 0).toNat = x at *
     generalize (p.getD k 0).toNat = y at *
     by_cases hxy : x = y
     ·have hne : ((x : Int) != (y : Int)) = false := by simp [hxy]
      have Hxy := hid hxy
      clear hxy
      go_wp2_with fail
      go_quiet (fail)
      go_wp2
      go_roundw
      case rel => exact ⟨k + 1, _, by omega, by go_num, rfl, hid (hall'.out Hxy.out)⟩
      case measure => simp [intOf]; omega
     ·have hne : ((x : Int) != (y : Int)) = true := by simp; omega
      have Hxy := hid hxy
      clear hxy
      go_wp2_with fail
      go_quiet (fail)
      go_wp2
      go_ret
      exact ⟨by rw [hno.out Hxy.out]; rfl, bel_drewN (bel_drewN (Below.refl _ _) _) _⟩
    ·go_wp2
     go_ret
     obtain rfl : k = p.length := by omega
     have e1 : begL l p = true := decide_eq_true ⟨hp0, hpl, hall.out⟩
     exact ⟨by rw [e1]; rfl, bel_drewN (Below.refl _ _) _⟩
end
section
open Go Go.RowKit
def Told (w w' : World) (e : Ending) (l : List UInt8) : Prop := ∃ A d, e = .returned (.slice A l.length d) ∧ Byt w' A l ∧ (A = none → d = 0) ∧ l.length ≤ d ∧ d ≤ maxLen ∧ Below w.heap.size w w'
theorem told_nil (w : World) : Told w w (.returned (.slice none 0 0)) [] := ⟨none, 0, rfl, Byt.nil_ _ _, fun _ => rfl, by simp, by unfold maxLen; omega, Below.refl _ _⟩
theorem told_cells (w : World) (l : List UInt8) (n : Nat) (cs : List Value) (hc : Lib.byteCells l = cs) (hn : cs.length = n) (h4 : n ≤ 4) : Told w (w.alloc (.cells cs.toArray 5)) (.returned (.slice (some ⟨w.heap.size, 0, none⟩) n n)) l := by
 subst hc
 rw [Lib.byteCells_length] at hn
 subst hn
 exact ⟨_, _, rfl, byt_lit w l, (fun h => by cases h), Nat.le_refl _, by unfold maxLen; omega, (Below.refl _ _).alloc (Nat.le_refl _) _⟩
set_option maxHeartbeats 2000000 in
theorem bytes_calls (r : Int) (w : World) (h0 : -9223372036854775808 ≤ r) (h1 : r ≤ 9223372036854775807) :
  Calls Tryz.prog 99 #[.int .i64 r] w fun e w' => Told w w' e (bytesL r) := by
 by_cases a : r < 0
 ·have e : bytesL r = [] := by simp [bytesL, a]
  rw [e]
  go_enter Tryz.func99, Tryz.ntmps99
  go_wp2
  go_ret
  exact told_nil w
 by_cases b : 1114111 < r
 ·have e : bytesL r = [] := by simp [bytesL, b]
  rw [e]
  go_enter Tryz.func99, Tryz.ntmps99
  go_wp2
  go_ret
  exact told_nil w
 by_cases c : 55296 ≤ r ∧ r ≤ 57343
 ·have e : bytesL r = [] := by simp [bytesL, c]
  rw [e]
  obtain ⟨c1, c2⟩ := c
  go_enter Tryz.func99, Tryz.ntmps99
  go_wp2
  go_ret
  exact told_nil w
 have e : bytesL r = Lib.encodeRune r := by simp only [bytesL]; rw [if_neg (by omega)]
 rw [e]
 clear e
 have hr : 0 ≤ r := by omega
 have hr2 : r ≤ 1114111 := by omega
 by_cases d : r < 128
 ·have hcs : Lib.byteCells (Lib.encodeRune r) = [.int .u8 r] := by rw [Lib.byteCells_encodeRune]; simp [Lib.runeCells, Lib.encodeRuneZ_one hr (by omega)]
  have T := Lib.hid (told_cells w _ 1 _ hcs rfl (by omega))
  clear hcs
  go_enter Tryz.func99, Tryz.ntmps99
  go_wp2
  go_ret
  exact T.out
 by_cases d2 : r < 2048
 ·have hcs : Lib.byteCells (Lib.encodeRune r) = [.int .u8 (192 + r / 64), .int .u8 (128 + r % 64)] := by rw [Lib.byteCells_encodeRune]; simp [Lib.runeCells, Lib.encodeRuneZ_two (r := r) (by omega) (by omega)]
  have T := Lib.hid (told_cells w _ 2 _ hcs rfl (by omega))
  clear hcs
  go_enter Tryz.func99, Tryz.ntmps99
  go_wp2
  go_ret
  exact T.out
 by_cases d3 : r < 65536
 ·have hcs : Lib.byteCells (Lib.encodeRune r) = [.int .u8 (224 + r / 4096), .int .u8 (128 + r / 64 % 64), .int .u8 (128 + r % 64)] := by rw [Lib.byteCells_encodeRune]; simp [Lib.runeCells, Lib.encodeRuneZ_three (r := r) (by omega)]
  have T := Lib.hid (told_cells w _ 3 _ hcs rfl (by omega))
  clear hcs
  by_cases d4 : r < 55296
  ·clear c
   go_enter Tryz.func99, Tryz.ntmps99
   go_wp2
   go_ret
   exact T.out
  ·have d5 : 57343 < r := by omega
   clear c
   go_enter Tryz.func99, Tryz.ntmps99
   go_wp2
   go_ret
   exact T.out
 ·have hcs : Lib.byteCells (Lib.encodeRune r) = [.int .u8 (240 + r / 262144), .int .u8 (128 + r / 4096 % 64), .int .u8 (128 + r / 64 % 64), .int .u8 (128 + r % 64)] := by rw [Lib.byteCells_encodeRune]; simp [Lib.runeCells, Lib.encodeRuneZ_four (r := r) (by omega) (by omega)]
  have T := Lib.hid (told_cells w _ 4 _ hcs rfl (by omega))
  clear hcs
  have d5 : 57343 < r := by omega
  clear c
  go_enter Tryz.func99, Tryz.ntmps99
  go_wp2
  go_ret
  exact T.out
end
section
open Go Go.RowKit
open Go.Lib (hid)
def ToldNext (w w' : World) (e : Ending) (l : List UInt8) : Prop := e = .returned (.tuple #[.int .i64 ((nextL l).1 : Int), .int .i64 ((nextL l).2 : Int)]) ∧ Below w.heap.size w w'
set_option maxHeartbeats 4000000 in
set_option maxRecDepth 100000 in
theorem rnext_calls (A : Option Addr) (c : Nat) (l : List UInt8) (w : World) (hb : Byt w A l) (hm : l.length ≤ maxLen) :
  Calls Tryz.prog 117 #[.slice A l.length c] w fun e w' => ToldNext w w' e l := by
 by_cases hl : l.length = 0
 ·obtain rfl : l = [] := List.eq_nil_of_length_eq_zero hl
  clear hb hm
  go_enter Tryz.func117, Tryz.ntmps117
  go_wp2
  go_ret2
  exact ⟨rfl, Below.refl _ _⟩
 have hz : ((l.length : Int) == 0) = false := beq_eq_false_iff_ne.2 (by omega)
 obtain ⟨b, o, rfl, _, hc⟩ := hb.at_ (by omega)
 have c0 := hc 0 (by omega)
 rw [Nat.add_zero] at c0
 have hu := (l.getD 0 0).toNat_lt
 have hl0 : 0 < l.length := by omega
 clear hc
 by_cases ha : (l.getD 0 0).toNat < 128
 ·have hn := hid (next_ascii l hl0 ha)
  generalize hx : (l.getD 0 0).toNat = x at *
  clear hx hb
  go_enter Tryz.func117, Tryz.ntmps117
  go_wp2
  go_ret2
  exact ⟨by rw [hn.out]; rfl, Below.refl _ _⟩
 have low1 := fun W (h : Byt W (some ⟨b, o, none⟩) l) => low_calls (some ⟨b, o, none⟩) c l 1 W h hm (by omega)
 have low2 := fun W (h : Byt W (some ⟨b, o, none⟩) l) => low_calls (some ⟨b, o, none⟩) c l 2 W h hm (by omega)
 have low3 := fun W (h : Byt W (some ⟨b, o, none⟩) l) => low_calls (some ⟨b, o, none⟩) c l 3 W h hm (by omega)
 have L1 := hid low1
 have L2 := hid low2
 have L3 := hid low3
 clear low1 low2 low3
 have hy1 := lowL_bound l 1
 have hy2 := lowL_bound l 2
 have hy3 := lowL_bound l 3
 have e2 : Hid (cand2 l = 64 * (((l.getD 0 0).toNat : Int) - 192) + lowL l 1) := hid rfl
 have e3 : Hid (cand3 l = 4096 * (((l.getD 0 0).toNat : Int) - 224) + 64 * lowL l 1 + lowL l 2) := hid rfl
 have e4 : Hid (cand4 l = 262144 * (((l.getD 0 0).toNat : Int) - 240) + 4096 * lowL l 1 + 64 * lowL l 2 + lowL l 3) := hid rfl
 have M1 := hid (next_cont l hl0)
 have M2 := hid (two_yes l)
 have M3 := hid (two_no l hl0)
 have M4 := hid (three_yes l)
 have M5 := hid (three_no l hl0)
 have M6 := hid (four_yes l)
 have M7 := hid (four_no l hl0)
 generalize hx : (l.getD 0 0).toNat = x at *
 generalize lowL l 1 = y1 at *
 generalize lowL l 2 = y2 at *
 generalize lowL l 3 = y3 at *
 clear hx
 go_enter Tryz.func117, Tryz.ntmps117
 go_wp2_with fail
 refine (L1.out _ hb).mono ?_
 rintro e w' ⟨rfl, rfl⟩
 go_wp2_with fail
 refine (L1.out _ hb).mono ?_
 rintro e w' ⟨rfl, rfl⟩
 go_wp2_with fail
 refine (L2.out _ hb).mono ?_
 rintro e w' ⟨rfl, rfl⟩
 go_wp2_with fail
 refine (L1.out _ hb).mono ?_
 rintro e w' ⟨rfl, rfl⟩
 go_wp2_with fail
 refine (L2.out _ hb).mono ?_
 rintro e w' ⟨rfl, rfl⟩
 go_wp2_with fail
 refine (L3.out _ hb).mono ?_
 rintro e w' ⟨rfl, rfl⟩
 by_cases h1 : x < 192
 ·go_wp2
  go_ret2
  exact ⟨by rw [M1.out (by omega) h1]; rfl, Below.refl _ _⟩
 by_cases h2 : x < 224
 ·have M2' := hid (M2.out (by omega) h2)
  have M3' := hid (M3.out (by omega) h2)
  clear M1 M2 M3 M4 M5 M6 M7 L1 L2 L3
  go_wp2_with fail
  refine (bytes_calls _ _ (by omega) (by omega)).mono ?_
  rw [← e2.out]
  rintro e w1 ⟨A1, d1, rfl, hB1, _, _, _, hb1⟩
  have hpm : (bytesL (cand2 l)).length ≤ maxLen := by have := bytesL_length (cand2 l); unfold maxLen; omega
  cases hbe : begL l (bytesL (cand2 l)) with
  | false =>
   have hn := hid (M3'.out hbe)
   have hcon := begins_calls (some ⟨b, o, none⟩) A1 c d1 l (bytesL (cand2 l)) w1 (hb.below hb1) hB1 hm hpm
   rw [hbe] at hcon
   have Hcon := hid hcon
   clear hcon hbe hpm hB1 M2' M3' c0
   generalize (bytesL (cand2 l)).length = np at *
   go_wp2_with fail
   refine Hcon.out.mono ?_
   rintro e w2 ⟨rfl, hb2⟩
   have k2 : Below w.heap.size w w2 := hb1.trans (hb2.mono hb1.size)
   clear hb2 hb1
   go_wp2
   go_ret2
   exact ⟨by rw [hn.out]; rfl, k2⟩
  | true =>
   obtain ⟨hlen, hpos, hnx⟩ := M2'.out hbe
   have hn := hid hnx
   have hcon := begins_calls (some ⟨b, o, none⟩) A1 c d1 l (bytesL (cand2 l)) w1 (hb.below hb1) hB1 hm hpm
   rw [hbe] at hcon
   have Hcon := hid hcon
   have Hlen := hid hlen
   clear hcon hbe hpm hB1 M2' M3' c0 hnx hlen
   go_wp2_with fail
   refine Hcon.out.mono ?_
   rintro e w2 ⟨rfl, hb2⟩
   have k2 : Below w.heap.size w w2 := hb1.trans (hb2.mono hb1.size)
   clear hb2 hb1
   go_wp2_with fail
   refine (bytes_calls (cand2 l) _ (by have := e2.out; omega) (by have := e2.out; omega)).mono ?_
   simp only [Told, Hlen.out]
   rintro e w3 ⟨A3, d3, rfl, _, _, _, _, hb3⟩
   have k3 : Below w.heap.size w w3 := k2.trans (hb3.mono k2.size)
   clear hb3 k2 Hlen
   go_wp2
   go_ret2
   have hv : ((cand2 l).toNat : Int) = cand2 l := Int.toNat_of_nonneg hpos
   exact ⟨by rw [hn.out]; simp only [hv]; rfl, k3⟩
 by_cases h3 : x < 240
 ·have M2' := hid (M4.out (by omega) h3)
  have M3' := hid (M5.out (by omega) h3)
  clear M1 M2 M3 M4 M5 M6 M7 L1 L3
  by_cases hy : y2 < 0
  ·have hn := hid (M3'.out (.inl hy))
   go_wp2_with fail
   refine (L2.out _ hb).mono ?_
   rintro e w' ⟨rfl, rfl⟩
   go_wp2
   go_ret2
   exact ⟨by rw [hn.out]; rfl, Below.refl _ _⟩
  have hyp : 0 ≤ y2 := by omega
  go_wp2_with fail
  refine (L2.out _ hb).mono ?_
  rintro e w' ⟨rfl, rfl⟩
  go_wp2_with fail
  refine (bytes_calls _ _ (by omega) (by omega)).mono ?_
  rw [← e3.out]
  rintro e w1 ⟨A1, d1, rfl, hB1, _, _, _, hb1⟩
  have hpm : (bytesL (cand3 l)).length ≤ maxLen := by have := bytesL_length (cand3 l); unfold maxLen; omega
  cases hbe : begL l (bytesL (cand3 l)) with
  | false =>
   have hn := hid (M3'.out (.inr hbe))
   have hcon := begins_calls (some ⟨b, o, none⟩) A1 c d1 l (bytesL (cand3 l)) w1 (hb.below hb1) hB1 hm hpm
   rw [hbe] at hcon
   have Hcon := hid hcon
   clear hcon hbe hpm hB1 M2' M3' c0
   generalize (bytesL (cand3 l)).length = np at *
   go_wp2_with fail
   refine Hcon.out.mono ?_
   rintro e w2 ⟨rfl, hb2⟩
   have k2 : Below w.heap.size w w2 := hb1.trans (hb2.mono hb1.size)
   clear hb2 hb1
   go_wp2
   go_ret2
   exact ⟨by rw [hn.out]; rfl, k2⟩
  | true =>
   obtain ⟨hlen, hpos, hnx⟩ := M2'.out hyp hbe
   have hn := hid hnx
   have hcon := begins_calls (some ⟨b, o, none⟩) A1 c d1 l (bytesL (cand3 l)) w1 (hb.below hb1) hB1 hm hpm
   rw [hbe] at hcon
   have Hcon := hid hcon
   have Hlen := hid hlen
   clear hcon hbe hpm hB1 M2' M3' c0 hnx hlen
   go_wp2_with fail
   refine Hcon.out.mono ?_
   rintro e w2 ⟨rfl, hb2⟩
   have k2 : Below w.heap.size w w2 := hb1.trans (hb2.mono hb1.size)
   clear hb2 hb1
   go_wp2_with fail
   refine (bytes_calls (cand3 l) _ (by have := e3.out; omega) (by have := e3.out; omega)).mono ?_
   simp only [Told, Hlen.out]
   rintro e w3 ⟨A3, d3, rfl, _, _, _, _, hb3⟩
   have k3 : Below w.heap.size w w3 := k2.trans (hb3.mono k2.size)
   clear hb3 k2 Hlen
   go_wp2
   go_ret2
   have hv : ((cand3 l).toNat : Int) = cand3 l := Int.toNat_of_nonneg hpos
   exact ⟨by rw [hn.out]; simp only [hv]; rfl, k3⟩
 by_cases h4 : x < 248
 ·have M2' := hid (M6.out (by omega) h4)
  have M3' := hid (M7.out (by omega))
  clear M1 M2 M3 M4 M5 M6 M7 L1 L2
  by_cases hy : y3 < 0
  ·have hn := hid (M3'.out fun _ => .inl hy)
   go_wp2_with fail
   refine (L3.out _ hb).mono ?_
   rintro e w' ⟨rfl, rfl⟩
   go_wp2
   go_ret2
   exact ⟨by rw [hn.out]; rfl, Below.refl _ _⟩
  have hyp : 0 ≤ y3 := by omega
  go_wp2_with fail
  refine (L3.out _ hb).mono ?_
  rintro e w' ⟨rfl, rfl⟩
  go_wp2_with fail
  refine (bytes_calls _ _ (by omega) (by omega)).mono ?_
  rw [← e4.out]
  rintro e w1 ⟨A1, d1, rfl, hB1, _, _, _, hb1⟩
  have hpm : (bytesL (cand4 l)).length ≤ maxLen := by have := bytesL_length (cand4 l); unfold maxLen; omega
  cases hbe : begL l (bytesL (cand4 l)) with
  | false =>
   have hn := hid (M3'.out fun _ => .inr hbe)
   have hcon := begins_calls (some ⟨b, o, none⟩) A1 c d1 l (bytesL (cand4 l)) w1 (hb.below hb1) hB1 hm hpm
   rw [hbe] at hcon
   have Hcon := hid hcon
   clear hcon hbe hpm hB1 M2' M3' c0
   generalize (bytesL (cand4 l)).length = np at *
   go_wp2_with fail
   refine Hcon.out.mono ?_
   rintro e w2 ⟨rfl, hb2⟩
   have k2 : Below w.heap.size w w2 := hb1.trans (hb2.mono hb1.size)
   clear hb2 hb1
   go_wp2
   go_ret2
   exact ⟨by rw [hn.out]; rfl, k2⟩
  | true =>
   obtain ⟨hlen, hpos, hnx⟩ := M2'.out hyp hbe
   have hn := hid hnx
   have hcon := begins_calls (some ⟨b, o, none⟩) A1 c d1 l (bytesL (cand4 l)) w1 (hb.below hb1) hB1 hm hpm
   rw [hbe] at hcon
   have Hcon := hid hcon
   have Hlen := hid hlen
   clear hcon hbe hpm hB1 M2' M3' c0 hnx hlen
   go_wp2_with fail
   refine Hcon.out.mono ?_
   rintro e w2 ⟨rfl, hb2⟩
   have k2 : Below w.heap.size w w2 := hb1.trans (hb2.mono hb1.size)
   clear hb2 hb1
   go_wp2_with fail
   refine (bytes_calls (cand4 l) _ (by have := e4.out; omega) (by have := e4.out; omega)).mono ?_
   simp only [Told, Hlen.out]
   rintro e w3 ⟨A3, d3, rfl, _, _, _, _, hb3⟩
   have k3 : Below w.heap.size w w3 := k2.trans (hb3.mono k2.size)
   clear hb3 k2 Hlen
   go_wp2
   go_ret2
   have hv : ((cand4 l).toNat : Int) = cand4 l := Int.toNat_of_nonneg hpos
   exact ⟨by rw [hn.out]; simp only [hv]; rfl, k3⟩
 ·have hn := hid (M7.out (by omega) fun h => absurd h h4)
  clear M1 M2 M3 M4 M5 M6 M7 L1 L2 L3
  go_wp2
  go_ret2
  exact ⟨by rw [hn.out]; rfl, Below.refl _ _⟩
end
end Go.Proofs.YteafcaambnfdoaaGreatDoor
