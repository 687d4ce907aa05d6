/-
  Layer 7 and what it stands on, part 13 (RAbbr RName TrimL).
-/
import Derived.Test.YthifdojbbbnpaaaDoorPa9
import Derived.Test.YthifdojbbbnpaaaDoorPa12
import Derived.Outline
import Derived.OwnWalk
namespace Go.Proofs.YthifdojbbbnpaaaDoor
section
open Go Go.RowKit
set_option maxRecDepth 100000
/-- A pair's cells. -/
def prC (p : PR) : List Value := [.string p.1, .string p.2]
theorem prC_length (p : PR) : (prC p).length = 2 := rfl
theorem infoPr : (Tryd.prog.info? 37).map (fun i => (i.zero, i.size, i.bytes)) = some (some (.agg #[.string ⟨#[]⟩, .string ⟨#[]⟩]), 2, 32) := by kernel_rfl
theorem pr_at {w : World} {R : Nat → Prop} {A : Option Addr} {l : List PR} (h : RowT prC w R A l) {k : Nat} (hk : k < l.length) : ∃ g o q, A = some ⟨g, o, none⟩ ∧ g < w.heap.size ∧ l[k]? = some q ∧ w.cell? ⟨g, o + k * 2, none⟩ = some (.string q.1) ∧ w.cell? ⟨g, o + k * 2 + 1, none⟩ = some (.string q.2) := by
  obtain ⟨g, o, e, _, hg, hc⟩ := h (by omega)
  have hq : l[k]? = some l[k] := List.getElem?_eq_getElem hk
  refine ⟨g, o, l[k], e, hg, hq, ?_, ?_⟩
  · have := hc (k * 2 + 0) _ (flat_get prC_length hq (j := 0) rfl)
    simpa using this
  · have := hc (k * 2 + 1) _ (flat_get prC_length hq (j := 1) rfl)
    rw [Nat.add_assoc]
    exact this
theorem pr_cells (w : World) (q : PR) (t : TypeId) : ∀ (j : Nat) (u : Value), (prC q)[j]? = some u → (w.alloc (.cells #[.string q.1, .string q.2] t)).cell? (Addr.add ⟨w.heap.size, 0, none⟩ j) = some u := fun j u hj => by
  have h := BxA.new w t (prC q)
  rw [Addr.add_lit, Nat.zero_add]
  exact h.c j hj
theorem prC_one (q : PR) : ∀ u ∈ prC q, u.oneCell' = true := by
  intro u hu
  rcases List.mem_cons.1 hu with rfl | hu
  · rfl
  · rcases List.mem_cons.1 hu with rfl | hu
    · rfl
    · cases hu
set_option maxHeartbeats 1000000 in
theorem rget_calls (w : World) (R : Nat → Prop) (A : Option Addr) (c : Nat) (l : List PR) (h : RowT prC w R A l) (hl : l.length ≤ 100000) (n : ByteArray) :
    Calls Tryd.prog 19 #[.slice A l.length c, .string n] w fun e w' => e = .returned (.tuple #[.string ((getP l n).getD ⟨#[]⟩), .bool (getP l n).isSome]) ∧ Below w.heap.size w w' := by
  have H := Lib.hid h
  clear h
  go_enter Tryd.func19, Tryd.ntmps19
  go_wp2_with fail
  go_loopw [6] (fun v6 wr => ∃ k : Nat, k ≤ l.length ∧ v6 = .int .i64 (k : Int) ∧ Hid (getP l n = getP (l.drop k) n) ∧ Below w.heap.size w wr) (fun v6 _ => l.length - (intOf v6).toNat)
  case atStart => exact ⟨0, Nat.zero_le _, rfl, Lib.hid rfl, Below.refl _ _⟩
  case round =>
    obtain ⟨k, hk, rfl, hG, hbel⟩ := hrel
    by_cases hlt : k < l.length
    · obtain ⟨g, o, q, rfl, hg, hq, c0, c1⟩ := pr_at (H.out.below hbel) hlt
      have HD := Lib.hid (getP_drop hq n)
      have hkl : (k : Int) < (l.length : Int) := by omega
      have HB := Lib.hid hbel
      clear hq hbel
      by_cases hn : q.1 = n
      · have t1 : (q.1.toList == n.toList) = true := by rw [tl_beq]; exact decide_eq_true hn
        have HR : Hid (getP l n = some q.2) := Lib.hid (by rw [hG.out, HD.out, if_pos hn])
        clear hG HD hn
        go_wp2_with fail
        go_ret2
        exact ⟨by rw [HR.out]; rfl, HB.out⟩
      · have t1 : (q.1.toList == n.toList) = false := by rw [tl_beq]; exact decide_eq_false hn
        have HG2 : Hid (getP l n = getP (l.drop (k + 1)) n) := Lib.hid (by rw [hG.out, HD.out, if_neg hn])
        clear hG HD hn
        go_wp2_with fail
        go_roundw
        case rel => exact ⟨k + 1, by omega, by go_num, HG2, HB.out⟩
        case measure => simp [intOf]; omega
    · obtain rfl : k = l.length := by omega
      have HR : Hid (getP l n = none) := Lib.hid (by rw [hG.out, List.drop_length]; rfl)
      have HB := Lib.hid hbel
      clear hG hbel
      go_wp2_with fail
      go_ret2
      exact ⟨by rw [HR.out]; rfl, HB.out⟩
set_option maxHeartbeats 2000000 in
theorem rdrop_calls (w : World) (R : Nat → Prop) (A : Option Addr) (c : Nat) (l : List PR) (h : RowT prC w R A l) (hl : l.length ≤ 100000) (n : ByteArray) :
    Calls Tryd.prog 21 #[.slice A l.length c, .string n] w fun e w' => ∃ v, e = .returned v ∧ w'.ownsRow w.heap.size 37 2 v (dropR l n).length ((dropR l n).flatMap prC) ∧ Below w.heap.size w w' := by
  have H := Lib.hid h
  clear h
  obtain ⟨i1, hi1, hy0, hy1, hy2⟩ := info_parts infoPr
  go_enter Tryd.func21, Tryd.ntmps21
  go_wp2_with fail
  go_loopw [5, 6] (fun v5 v6 wr => ∃ k : Nat, k ≤ l.length ∧ v6 = .int .i64 (k : Int) ∧ wr.ownsRow w.heap.size 37 2 v5 (dropR (l.take k) n).length ((dropR (l.take k) n).flatMap prC) ∧ Below w.heap.size w wr) (fun _ v6 _ => l.length - (intOf v6).toNat)
  case atStart => exact ⟨0, Nat.zero_le _, rfl, World.ownsRow_nil _ _ _ _, Below.refl _ _⟩
  case round =>
    obtain ⟨k, hk, rfl, hown, hbel⟩ := hrel
    by_cases hlt : k < l.length
    · obtain ⟨g, o, q, rfl, hg, hq, c0, c1⟩ := pr_at (H.out.below hbel) hlt
      have HD := Lib.hid (drop_step n hq)
      have hkl : (k : Int) < (l.length : Int) := by omega
      have Hlen : Hid ((dropR (l.take k) n).length ≤ k) := Lib.hid (by have := drop_length_le (l.take k) n; rw [List.length_take] at this; omega)
      have HB := Lib.hid hbel
      have HO := Lib.hid hown
      have hz := hbel.size
      clear hq hbel hown
      by_cases hn : q.1 = n
      · have t1 : (q.1.toList == n.toList) = true := by rw [tl_beq]; exact decide_eq_true hn
        have HO2 : Hid (wr.ownsRow w.heap.size 37 2 u5 (dropR (l.take (k + 1)) n).length ((dropR (l.take (k + 1)) n).flatMap prC)) := Lib.hid (by rw [HD.out, if_pos hn]; exact HO.out)
        clear HD hn HO Hlen
        go_wp2_with fail
        go_roundw
        case rel => exact ⟨k + 1, by omega, by go_num, HO2.out, HB.out⟩
        case measure => simp [intOf]; omega
      · have t1 : (q.1.toList == n.toList) = false := by rw [tl_beq]; exact decide_eq_false hn
        have HD2 : Hid (dropR (l.take (k + 1)) n = dropR (l.take k) n ++ [q]) := Lib.hid (by rw [HD.out, if_neg hn])
        clear HD hn
        generalize dropR (l.take k) n = acc at *
        go_wp2_with (at_builtin; refine wpList_append_own _ rfl _ _ 28 rfl w.heap.size 37 i1 _ 2 32 Tryd.underlying28 hi1 hy0 hy1 hy2 rfl (by decide) _ _ _ rfl (HO.out.alloc _) ⟨wr.heap.size, 0, none⟩ 1 1 (prC q) rfl rfl ?d1 ?d2 ?d3 ?d4 ?d5 ?_)
        case d1 => exact pr_cells wr q _
        case d2 => exact prC_one q
        case d3 => have := Hlen.out; unfold maxLen; omega
        case d4 => have := Hlen.out; omega
        case d5 => have := Hlen.out; simp; omega
        intro v' w5 hown5 hgrow _
        have Hown5 := Lib.hid hown5
        have hb5 : Below w.heap.size w w5 := (HB.out.alloc hz _).grown hgrow (by simp; omega) (fun k hk => (HO.out.lt k hk).1)
        have HB5 := Lib.hid hb5
        clear hown5 hgrow hb5
        go_wp2_with fail
        go_roundw
        case rel => exact ⟨k + 1, by omega, by go_num, by rw [HD2.out, List.length_append, List.flatMap_append]; simpa using Hown5.out, HB5.out⟩
        case measure => simp [intOf]; omega
    · obtain rfl : k = l.length := by omega
      rw [List.take_length] at hown
      have HO := Lib.hid hown
      have HB := Lib.hid hbel
      clear hown hbel
      go_wp2_with fail
      go_ret
      exact ⟨_, rfl, HO.out, HB.out⟩
end
section
open Go Go.RowKit
set_option maxRecDepth 100000
theorem nameB_bs (x : List UInt8) : nameB (bs x) = (decide (1 ≤ x.length) && decide (x.length ≤ 20) && decide (plainL x = x) && decide ((32 : UInt8) ∉ x)) := by
  unfold nameB
  rw [bl_bs, bs_size]
theorem bs_get (x : List UInt8) {k : Nat} (h : k < (bs x).size) : (bs x)[k]'h = x[k]'(by rw [← bs_size]; exact h) := rfl
set_option maxHeartbeats 1000000 in
theorem rnamed_calls (x : List UInt8) (hx : x.length ≤ 137438953472) (w : World) :
    Calls Tryd.prog 39 #[.string (bs x)] w fun e w' => e = .returned (.bool (nameB (bs x))) ∧ Below w.heap.size w w' := by
  rw [nameB_bs]
  have HP := Lib.hid (fun W => rplain_calls x hx W)
  have hsz := bs_size x
  by_cases h1 : 1 ≤ x.length
  · by_cases h2 : x.length ≤ 20
    · by_cases h3 : plainL x = x
      · have q1 : ¬ ((x.length : Int) < 1) := by omega
        have q2 : ¬ ((20 : Int) < (x.length : Int)) := by omega
        have q3 : (x == x) = true := beq_self_eq_true _
        rw [decide_eq_true h1, decide_eq_true h2, decide_eq_true h3, Bool.true_and, Bool.true_and, Bool.true_and]
        have H3 := Lib.hid h3
        clear h3
        go_enter Tryd.func39, Tryd.ntmps39
        go_wp2_with fail
        refine (HP.out _).mono ?_
        rintro e w1 ⟨rfl, hb1⟩
        rw [H3.out]
        have HB1 := Lib.hid hb1
        clear hb1 HP
        go_wp2_with fail
        go_loopw [3] (fun v3 wr => ∃ k : Nat, k ≤ x.length ∧ v3 = .int .i64 (k : Int) ∧ wr = w1 ∧ Hid ((32 : UInt8) ∉ x.take k)) (fun v3 _ => x.length - (intOf v3).toNat)
        case atStart => exact ⟨0, Nat.zero_le _, rfl, rfl, Lib.hid (by simp)⟩
        case round =>
          obtain ⟨k, hk, rfl, rfl, hT⟩ := hrel
          by_cases hlt : k < x.length
          · have hkl : (k : Int) < (x.length : Int) := by omega
            have hg : x[k]? = some x[k] := List.getElem?_eq_getElem hlt
            by_cases h32 : x[k] = 32
            · have t32 : ∀ h : k < (bs x).size, ((((bs x)[k]'h).toNat : Int) == 32) = true := fun h => by rw [bs_get x h, h32]; rfl
              have HT : Hid (decide ((32 : UInt8) ∉ x) = false) := Lib.hid (decide_eq_false (fun e => e (by rw [← h32]; exact List.getElem_mem hlt)))
              clear hT h32 hg
              go_wp2_with fail
              go_ret
              exact ⟨by rw [HT.out]; rfl, HB1.out⟩
            · have t32 : ∀ h : k < (bs x).size, ((((bs x)[k]'h).toNat : Int) == 32) = false := fun h => by
                rw [bs_get x h]
                exact beq_eq_false_iff_ne.2 (fun e => h32 (UInt8.toNat_inj.1 (by rw [show (32 : UInt8).toNat = 32 from rfl]; omega)))
              have HT : Hid ((32 : UInt8) ∉ x.take (k + 1)) := Lib.hid (by
                rw [List.take_add_one, hg]
                intro e
                rcases List.mem_append.1 e with e | e
                · exact hT.out e
                · have e2 : (32 : UInt8) = x[k] := by simpa using e
                  exact h32 e2.symm)
              clear hT h32 hg
              go_wp2_with fail
              go_roundw
              case rel => exact ⟨k + 1, by omega, by go_num, trivial, HT⟩
              case measure => simp [intOf]; omega
          · obtain rfl : k = x.length := by omega
            rw [List.take_length] at hT
            have HT : Hid (decide ((32 : UInt8) ∉ x) = true) := Lib.hid (decide_eq_true hT.out)
            clear hT
            go_wp2_with fail
            go_ret
            exact ⟨by rw [HT.out]; rfl, HB1.out⟩
      · have q1 : ¬ ((x.length : Int) < 1) := by omega
        have q2 : ¬ ((20 : Int) < (x.length : Int)) := by omega
        have q3 : (plainL x == x) = false := beq_eq_false_iff_ne.2 h3
        rw [decide_eq_true h1, decide_eq_true h2, decide_eq_false h3, Bool.true_and, Bool.true_and, Bool.false_and]
        clear h3
        go_enter Tryd.func39, Tryd.ntmps39
        go_wp2_with fail
        refine (HP.out _).mono ?_
        rintro e w1 ⟨rfl, hb1⟩
        have HB1 := Lib.hid hb1
        clear hb1 HP
        go_wp2_with fail
        go_ret
        exact ⟨rfl, HB1.out⟩
    · have q1 : ¬ ((x.length : Int) < 1) := by omega
      have q2 : decide ((20 : Int) < (x.length : Int)) = true := decide_eq_true (by omega)
      rw [decide_eq_false h2, Bool.and_false, Bool.false_and, Bool.false_and]
      clear h2
      go_enter Tryd.func39, Tryd.ntmps39
      go_wp2_with fail
      go_ret
      exact ⟨rfl, Below.refl _ _⟩
  · have q1 : decide ((x.length : Int) < 1) = true := decide_eq_true (by omega)
    rw [decide_eq_false h1, Bool.false_and, Bool.false_and, Bool.false_and]
    clear h1
    go_enter Tryd.func39, Tryd.ntmps39
    go_wp2_with fail
    go_ret
    exact ⟨rfl, Below.refl _ _⟩
end
section
open Go Go.RowKit
set_option maxRecDepth 100000
set_option maxHeartbeats 1000000 in
theorem trimByte_calls (x : List UInt8) (w : World) :
    Calls Tryd.prog 34 #[.string (bs x), .int .u8 32] w fun e w' => e = .returned (.string (bs (x.dropWhile fun c => c == 32))) ∧ Below w.heap.size w w' := by
  go_enter Tryd.func34, Tryd.ntmps34
  go_wp2_with fail
  go_loopw [0] (fun v0 wr => ∃ y : List UInt8, v0 = .string (bs y) ∧ wr = w ∧ y.length ≤ x.length ∧ Hid ((x.dropWhile fun c => c == 32) = (y.dropWhile fun c => c == 32))) (fun v0 _ => match v0 with | .string s => s.size | _ => 0)
  case atStart => exact ⟨x, rfl, rfl, Nat.le_refl _, Lib.hid rfl⟩
  case round =>
    obtain ⟨y, rfl, rfl, hy, hD⟩ := hrel
    have hsz := bs_size y
    cases y with
    | nil =>
      have q1 : ((bs ([] : List UInt8)).size : Int) = 0 := rfl
      have HR : Hid ((x.dropWhile fun c => c == 32) = []) := hD
      clear hD
      go_wp2_with fail
      go_ret
      exact ⟨by rw [HR.out]; rfl, Below.refl _ _⟩
    | cons a y =>
      have hpos : (0 : Int) < ((bs (a :: y)).size : Int) := by rw [hsz]; simp
      have hpos2 : 0 < (bs (a :: y)).size := by rw [hsz]; simp
      have hg : ∀ h : 0 < (bs (a :: y)).size, (bs (a :: y))[0]'h = a := fun h => bs_get (a :: y) h
      have hdr := bs_drop (a :: y) 1
      rw [← hsz] at hdr
      by_cases ha : a = 32
      · have t32 : ∀ h : 0 < (bs (a :: y)).size, ((((bs (a :: y))[0]'h).toNat : Int) == 32) = true := fun h => by rw [hg h, ha]; rfl
        have HD2 : Hid ((x.dropWhile fun c => c == 32) = (y.dropWhile fun c => c == 32)) := Lib.hid (by rw [hD.out, List.dropWhile_cons, if_pos (by rw [ha]; rfl)])
        have hsz2 := bs_size y
        have hlen : y.length ≤ x.length := by simp at hy; omega
        have Hm : Hid ((bs y).size < (bs (a :: y)).size) := Lib.hid (by rw [hsz, hsz2]; simp)
        have hdr2 : (bs (a :: y)).extract 1 (y.length + 1) = bs y := by rw [hsz] at hdr; exact hdr
        clear hD hdr hg ha hy hsz
        go_wp2_with fail
        go_roundw
        case rel => exact ⟨y, rfl, trivial, hlen, HD2⟩
        case measure => exact Hm.out
      · have t32 : ∀ h : 0 < (bs (a :: y)).size, ((((bs (a :: y))[0]'h).toNat : Int) == 32) = false := fun h => by
          rw [hg h]
          exact beq_eq_false_iff_ne.2 (fun e => ha (UInt8.toNat_inj.1 (by rw [show (32 : UInt8).toNat = 32 from rfl]; omega)))
        have HR : Hid ((x.dropWhile fun c => c == 32) = a :: y) := Lib.hid (by rw [hD.out, List.dropWhile_cons, if_neg (by simpa using ha)])
        clear hD hdr hg ha
        go_wp2_with fail
        go_ret
        exact ⟨by rw [HR.out]; rfl, Below.refl _ _⟩
set_option maxHeartbeats 1000000 in
theorem trimLeft_calls (x : List UInt8) (w : World) :
    Calls Tryd.prog 18 #[.string (bs x), .string ⟨#[32]⟩] w fun e w' => e = .returned (.string (bs (x.dropWhile fun c => c == 32))) ∧ Below w.heap.size w w' := by
  have HT := Lib.hid (trimByte_calls x w)
  cases x with
  | nil =>
    have q1 : ((bs ([] : List UInt8)).toList == (⟨#[]⟩ : ByteArray).toList) = true := beq_self_eq_true _
    go_enter Tryd.func18, Tryd.ntmps18
    go_wp2_with fail
    go_ret
    exact ⟨rfl, Below.refl _ _⟩
  | cons a y =>
    have q1 : ((bs (a :: y)).toList == (⟨#[]⟩ : ByteArray).toList) = false := by
      rw [Lib.toList_data, Lib.toList_data]
      exact beq_eq_false_iff_ne.2 (fun e => by cases e)
    go_enter Tryd.func18, Tryd.ntmps18
    go_wp2_with fail
    refine HT.out.mono ?_
    rintro e w1 ⟨rfl, hb⟩
    have HB := Lib.hid hb
    clear hb HT
    go_wp2_with fail
    go_ret
    exact ⟨rfl, HB.out⟩
end
end Go.Proofs.YthifdojbbbnpaaaDoor
