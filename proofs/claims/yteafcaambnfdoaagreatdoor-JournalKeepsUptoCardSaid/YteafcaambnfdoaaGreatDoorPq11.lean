/-
  Layer 7 and what it stands on, part 11 (RefRunes RPlain).
-/
import Derived.Test.YteafcaambnfdoaaGreatDoorPq9
import Derived.Test.YteafcaambnfdoaaGreatDoorPq10
namespace Go.Proofs.YteafcaambnfdoaaGreatDoor
section
open Go Go.RowKit
open Go.Lib (hid)
def RunesL (w : World) (l0 : List UInt8) (v0 v3 : Value) (wr : World) (A : Option Addr) (c : Nat) (l : List UInt8) (acc : List Nat) : Prop :=
 v0 = .slice A l.length c ∧ l.length ≤ c ∧ c ≤ maxLen ∧ Byt w A l ∧ wr.ownsRow w.heap.size 3 1 v3 acc.length (cells64 acc) ∧ Below w.heap.size w wr ∧ acc.length + l.length ≤ l0.length ∧ acc ++ runes l = runes l0
set_option maxHeartbeats 4000000 in
theorem rrunes_calls (A : Option Addr) (c : Nat) (l0 : List UInt8) (w : World) (hb : Byt w A l0) (hlc : l0.length ≤ c) (hcm : c ≤ maxLen) (hl1 : l0.length ≤ 1099511627776) :
  Calls Tryz.prog 97 #[.slice A l0.length c] w fun e w' => ∃ v, e = .returned v ∧ w'.ownsRow w.heap.size 3 1 v (runes l0).length (cells64 (runes l0)) ∧ Below w.heap.size w w' := by
 obtain ⟨i1, hi1, hy0, hy1, hy2⟩ := info_parts info64
 go_enter Tryz.func97, Tryz.ntmps97
 go_wp2_with fail
 go_loopw [0, 3] (fun v0 v3 wr => ∃ A c l acc, RunesL w l0 v0 v3 wr A c l acc) (fun v0 _ _ => match v0 with | .slice _ n _ => n | _ => 0)
 case atStart => exact ⟨A, c, l0, [], rfl, hlc, hcm, hb, World.ownsRow_nil _ _ _ _, Below.refl _ _, by simp, by simp⟩
 case round =>
  clear hb hlc hcm
  obtain ⟨A, c, l, acc, rfl, hlc, hcm, hB, hown, hbel, hlen, hru⟩ := hrel
  have Hru := hid hru
  clear hru
  have hcm' : c ≤ 9223372036854775807 := by unfold maxLen at hcm; omega
  by_cases hp : 0 < l.length
  ·have hne : l ≠ [] := List.length_pos_iff.1 hp
   have hwd := Lib.decodeL_width l
   have hle := Lib.decodeL_le l hne
   have hnx : nextL l = Lib.decodeL l := by simp [nextL, hne]
   have Hst := hid (runes_step l hne)
   have hcon := rnext_calls A c l wr (hB.below hbel) (by omega)
   unfold ToldNext at hcon
   rw [hnx] at hcon
   have Hcon := hid hcon
   have Hown := hid hown
   clear hcon hnx hne hown
   have hpos : decide ((0 : Int) < (l.length : Int)) = true := decide_eq_true (by omega)
   go_wp2_with fail
   refine Hcon.out.mono ?_
   rintro e w3 ⟨rfl, hb3⟩
   have hbel3 : Below w.heap.size w w3 := hbel.trans (hb3.mono hbel.size)
   have hown3 : w3.ownsRow w.heap.size 3 1 u3 acc.length (cells64 acc) := own_below (w := wr) Hown.out hb3
   have hw3 : w.heap.size ≤ w3.heap.size := hbel3.size
   have hsl := run_cut A c l (Lib.decodeL l).2 hle
   have Hown3 := hid hown3
   clear hown3 hb3 hbel Hown Hcon
   go_wp2_with (at_builtin; refine wpList_append_own _ rfl _ _ 145 rfl w.heap.size 3 i1 (.int .i64 0) 1 8 Tryz.underlying145 hi1 hy0 hy1 hy2 rfl (by decide) _ _ _ rfl (Hown3.out.alloc _) ⟨w3.heap.size, 0, none⟩ 1 1 [.int .i64 ((Lib.decodeL l).1 : Int)] rfl rfl ?c1 ?c2 ?c3 ?c4 ?c5 ?_)
   case c1 =>
    intro j u hj
    match j, hj with
    | 0, hj => simp at hj; subst hj; simp [Addr.add]
   case c2 => intro u hu; simp at hu; subst hu; rfl
   case c3 => unfold maxLen; omega
   case c4 => omega
   case c5 => simp; omega
   intro v' w5 hown5 hgrow _
   have Hown5 := hid hown5
   have hb5 : Below w.heap.size w w5 := (hbel3.alloc hw3 _).grown hgrow (by simp; omega) (fun k hk => (Hown3.out.lt k hk).1)
   clear hown5 hgrow
   go_wp2_with fail
   refine ⟨⟨dropA A c (Lib.decodeL l).2, c - (Lib.decodeL l).2, l.drop (Lib.decodeL l).2, acc ++ [(Lib.decodeL l).1], ?_, ?_, ?_, hB.drop c _ hlc, ?_, hb5, ?_, ?_⟩, ?_⟩
   ·simp
   ·simp; omega
   ·unfold maxLen at hcm ⊢; omega
   ·rw [cells64_snoc]; simpa using Hown5.out
   ·simp; omega
   ·rw [← Hru.out, Hst.out]; simp
   ·show l.length - (Lib.decodeL l).2 < l.length
    omega
  ·obtain rfl : l = [] := List.eq_nil_of_length_eq_zero (by omega)
   have hr : acc = runes l0 := by have := Hru.out; rwa [runes_nil, List.append_nil] at this
   subst hr
   have Hown := hid hown
   clear hown
   go_wp2
   go_ret
   exact ⟨_, rfl, Hown.out, hbel⟩
end
section
open Go Go.RowKit
open Go.Lib (hid)
theorem bytes_valid (r : Nat) (h : Valid r) : bytesL (r : Int) = Lib.encodeRune (r : Int) := by
 unfold Valid at h
 simp only [bytesL]
 rw [if_neg (by omega)]
theorem plTake (rs : List Nat) (k : Nat) (h : k < rs.length) : encL ((rs.take (k + 1)).flatMap plR) = encL ((rs.take k).flatMap plR) ++ encL (plR (rs.getD k 0)) := by
 rw [List.take_succ_eq_append_getElem h, List.flatMap_append, encL_append]
 have e : rs.getD k 0 = rs[k] := by simp [List.getD, h]
 rw [e]
 simp
theorem plTake_length (rs : List Nat) (k : Nat) : (encL ((rs.take k).flatMap plR)).length ≤ 4 * rs.length := by
 have h1 := encL_length ((rs.take k).flatMap plR)
 have h2 : ∀ xs : List Nat, (xs.flatMap plR).length ≤ xs.length := by
  intro xs
  induction xs with
  | nil => simp
  | cons r t ih =>
   have : (plR r).length ≤ 1 := by
    unfold plR
    split
    ·simp
    ·split <;> simp
   rw [List.flatMap_cons, List.length_append, List.length_cons]
   omega
 have h3 := h2 (rs.take k)
 rw [List.length_take] at h3
 omega
def PlainAt (w1 : World) (rs : List Nat) (v3 v5 : Value) (wr : World) (k : Nat) : Prop :=
 k ≤ rs.length ∧ v5 = .int .i64 (k : Int) ∧ wr.ownsRow w1.heap.size 5 1 v3 (encL ((rs.take k).flatMap plR)).length (Lib.byteCells (encL ((rs.take k).flatMap plR))) ∧ Below w1.heap.size w1 wr
set_option maxHeartbeats 4000000 in
theorem rplain_calls (l : List UInt8) (hl1 : l.length ≤ 137438953472) (w : World) :
  Calls Tryz.prog 67 #[.string (bs l)] w fun e w' => e = .returned (.string (bs (plainL l))) ∧ Below w.heap.size w w' := by
 obtain ⟨i0, hi, hz0, hz1, hz2⟩ := info_parts info8
 have hrl := runes_length l
 have hval := hid (runes_valid l)
 have hsz := bs_size l
 have hcl : Hid (plainL l = encL ((runes l).flatMap plR)) := hid rfl
 have hs6 := Lib.run_convert_string_bytes (P := Tryz.prog) w 9 30 5 (bs l) Tryz.underlying9 Tryz.underlying30 Tryz.underlying5
 have kw := below_bytes w 5 ⟨l.toArray⟩
 have Hcon := hid (rrunes_calls _ (grownCap w l.length 0 5) l _ (byt_bytes w l) (grownCap_ge w l.length 0 5) (grownCap_le_maxLen w l.length 0 5 (by unfold maxLen; omega)) (by omega))
 have Hkw := hid kw
 clear kw
 generalize runes l = rs at *
 generalize plainL l = pl at *
 go_enter Tryz.func67, Tryz.ntmps67
 go_wp2_with fail
 refine Hcon.out.mono ?_
 rintro e w1 ⟨v1, rfl, hown1, hb1⟩
 obtain ⟨A1, c1, rfl⟩ := own_form hown1
 obtain ⟨hR, _, _, hm1⟩ := rd64_of_own hown1
 have HR := hid hR
 have Hb1 := hid (Hkw.out.trans (hb1.mono Hkw.out.size))
 have hw1 := Hb1.out.size
 clear hown1 hR Hcon hb1 hs6
 have hm1' : rs.length ≤ 9223372036854775807 := by omega
 go_wp2_with fail
 go_loopw [3, 5] (fun v3 v5 wr => ∃ k, PlainAt w1 rs v3 v5 wr k) (fun _ v5 _ => rs.length - (intOf v5).toNat)
 case atStart => exact ⟨0, by omega, rfl, World.ownsRow_nil _ _ _ _, Below.refl _ _⟩
 case round =>
  obtain ⟨k, hk, rfl, hown, hbel⟩ := hrel
  have Hown := hid hown
  clear hown
  by_cases hlt : k < rs.length
  ·obtain ⟨g, o, rfl, hg, hc⟩ := (HR.out.below hbel) (by omega)
   have ck := hc k hlt
   have hsn := plTake rs k hlt
   have hle4 := plTake_length rs k
   have hvk : Valid (rs.getD k 0) := by
    have : rs.getD k 0 = rs[k] := by simp [List.getD, hlt]
    rw [this]; exact hval.out _ (List.getElem_mem hlt)
   have hbe := bytes_valid _ hvk
   have hr4 := Lib.runeCells_le ((rs.getD k 0 : Nat) : Int)
   rw [Lib.runeCells_length] at hr4
   have hvb : rs.getD k 0 ≤ 1114111 := by unfold Valid at hvk; omega
   have Hsn := hid hsn
   have Hbe := hid hbe
   clear hc hsn hbe hvk
   generalize encL ((rs.take k).flatMap plR) = acc at *
   generalize rs.getD k 0 = y at *
   have Hstep : Hid (∀ (ey : List UInt8), ey = encL (plR y) → ∀ v' w4, w4.ownsRow w1.heap.size 5 1 v' (acc ++ ey).length (Lib.byteCells (acc ++ ey)) → Below w1.heap.size w1 w4 → PlainAt w1 rs v' (.int .i64 ((k + 1 : Nat) : Int)) w4 (k + 1)) := hid fun ey he v' w4 h1 h2 =>
    ⟨by omega, rfl, by rw [Hsn.out, ← he]; exact h1, h2⟩
   by_cases h9 : y = 9 ∨ y = 10 ∨ y = 13
   ·have Hpl : Hid (([32] : List UInt8) = encL (plR y)) := hid (by unfold plR; rw [if_pos h9]; decide +kernel)
    have Hb32 : Hid (bytesL 32 = [32]) := hid (by decide +kernel)
    have Hc : Hid (ctlL 32 = false) := hid (by decide)
    rcases h9 with rfl | rfl | rfl
    all_goals
     go_wp2_with fail
     refine (rctl_calls 32 _).mono ?_
     rw [Hc.out]
     rintro e w2 ⟨rfl, rfl⟩
     go_wp2_with fail
     refine (bytes_calls 32 _ (by omega) (by omega)).mono ?_
     rw [Hb32.out]
     rintro e w3 ⟨A3, d3, rfl, hB3, hA3, _, _, hb3⟩
     have hbel3 : Below w1.heap.size w1 w3 := hbel.trans (hb3.mono hbel.size)
     have hown3 : w3.ownsRow w1.heap.size 5 1 u3 acc.length (Lib.byteCells acc) := own_below (w := wr) Hown.out hb3
     have Hown3 := hid hown3
     have hw3 := hbel3.size
     clear hown3 hb3 hbel Hown Hbe
     go_wp2_with (at_builtin; refine wpList_append_byt _ rfl _ _ 30 rfl w1.heap.size i0 Tryz.underlying30 hi hz0 hz1 hz2 u3 acc rfl Hown3.out A3 d3 [32] rfl hA3 hB3 (by simp; omega) hw3 ?_)
     intro v' w4 hown4 hgr4 _
     have hb4 : Below w1.heap.size w1 w4 := hbel3.grown hgr4 hw3 (fun k hk => (Hown3.out.lt k hk).1)
     have Hat := hid (Hstep.out _ Hpl.out v' w4 (by rw [List.length_append]; exact hown4) hb4)
     clear hown4 hgr4
     go_wp2
     go_roundw
     case rel => exact ⟨k + 1, Hat.out⟩
     case measure => simp [intOf]; omega
   ·have e9 : ((y : Int) == 9) = false := beq_eq_false_iff_ne.2 (by omega)
    have e10 : ((y : Int) == 10) = false := beq_eq_false_iff_ne.2 (by omega)
    have e13 : ((y : Int) == 13) = false := beq_eq_false_iff_ne.2 (by omega)
    cases hc : ctlL (y : Int) with
    | true =>
     have Hpl : Hid (([] : List UInt8) = encL (plR y)) := hid (by unfold plR; rw [if_neg h9, if_pos hc]; rfl)
     have Hc := hid hc
     clear hc h9
     go_wp2_with fail
     refine (rctl_calls (y : Int) _).mono ?_
     rw [Hc.out]
     rintro e w2 ⟨rfl, rfl⟩
     have Hat := hid (Hstep.out _ Hpl.out u3 wr (by simpa using Hown.out) hbel)
     go_wp2
     go_roundw
     case rel => exact ⟨k + 1, Hat.out⟩
     case measure => simp [intOf]; omega
    | false =>
     have Hpl : Hid (Lib.encodeRune (y : Int) = encL (plR y)) := hid (by unfold plR; rw [if_neg h9, if_neg (by simp [hc])]; simp [encL])
     have Hc := hid hc
     clear hc h9
     generalize Lib.encodeRune (y : Int) = ey at *
     go_wp2_with fail
     refine (rctl_calls (y : Int) _).mono ?_
     rw [Hc.out]
     rintro e w2 ⟨rfl, rfl⟩
     go_wp2_with fail
     refine (bytes_calls _ _ (by omega) (by omega)).mono ?_
     rw [Hbe.out]
     rintro e w3 ⟨A3, d3, rfl, hB3, hA3, _, _, hb3⟩
     have hbel3 : Below w1.heap.size w1 w3 := hbel.trans (hb3.mono hbel.size)
     have hown3 : w3.ownsRow w1.heap.size 5 1 u3 acc.length (Lib.byteCells acc) := own_below (w := wr) Hown.out hb3
     have Hown3 := hid hown3
     have hw3 := hbel3.size
     clear hown3 hb3 hbel Hown Hbe
     go_wp2_with (at_builtin; refine wpList_append_byt _ rfl _ _ 30 rfl w1.heap.size i0 Tryz.underlying30 hi hz0 hz1 hz2 u3 acc rfl Hown3.out A3 d3 ey rfl hA3 hB3 (by omega) hw3 ?_)
     intro v' w4 hown4 hgr4 _
     have hb4 : Below w1.heap.size w1 w4 := hbel3.grown hgr4 hw3 (fun k hk => (Hown3.out.lt k hk).1)
     have Hat := hid (Hstep.out _ Hpl.out v' w4 (by rw [List.length_append]; exact hown4) hb4)
     clear hown4 hgr4
     go_wp2
     go_roundw
     case rel => exact ⟨k + 1, Hat.out⟩
     case measure => simp [intOf]; omega
  ·obtain rfl : k = rs.length := by omega
   have ho := Hown.out
   rw [List.take_length, ← hcl.out] at ho
   obtain ⟨A5, c5, rfl⟩ := own_form ho
   obtain ⟨hB5, hn5, _, _⟩ := byt_of_own (l := pl) ho
   have hcv := hB5.convert (P := Tryz.prog) c5 30 5 9 Tryz.underlying30 Tryz.underlying5 Tryz.underlying9 pl.length rfl
   have hbf := hid (Hb1.out.trans (hbel.mono hw1))
   clear ho hB5 Hown
   go_wp2
   go_ret
   exact ⟨rfl, hbf.out⟩
end
end Go.Proofs.YteafcaambnfdoaaGreatDoor
