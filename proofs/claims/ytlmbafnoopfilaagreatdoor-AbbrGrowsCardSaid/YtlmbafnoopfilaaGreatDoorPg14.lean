/-
  Layer 7 and what it stands on, part 14 (RAbbr RName TrimL RefCut).
-/
import Derived.Test.YtlmbafnoopfilaaGreatDoorPg10
import Derived.Test.YtlmbafnoopfilaaGreatDoorPg13
import Derived.Outline
import Derived.OwnWalk
import Derived.Laws.Rows
import Derived.BigRegion
import Derived.Laws.Concat
import Derived.RangeFuncBox
namespace Go.Proofs.YtlmbafnoopfilaaGreatDoor
section
open Go Go.RowKit
set_option maxRecDepth 100000
/-- A pair's cells. -/
def prC (p : PR) : List Value := [.string p.1, .string p.2]
theorem prC_length (p : PR) : (prC p).length = 2 := rfl
theorem infoPr : (Tryz.prog.info? 76).map (fun i => (i.zero, i.size, i.bytes)) = some (some (.agg #[.string ⟨#[]⟩, .string ⟨#[]⟩]), 2, 32) := by kernel_rfl
theorem pr_at {w : World} {R : Nat → Prop} {A : Option Addr} {l : List PR} (h : RowT prC w R A l) {k : Nat} (hk : k < l.length) : ∃ g o q, A = some ⟨g, o, none⟩ ∧ g < w.heap.size ∧ l[k]? = some q ∧ w.cell? ⟨g, o + k * 2, none⟩ = some (.string q.1) ∧ w.cell? ⟨g, o + k * 2 + 1, none⟩ = some (.string q.2) := by
  obtain ⟨g, o, e, _, hg, hc⟩ := h (by omega)
  have hq : l[k]? = some l[k] := List.getElem?_eq_getElem hk
  refine ⟨g, o, l[k], e, hg, hq, ?_, ?_⟩
  · have := hc (k * 2 + 0) _ (flat_get prC_length hq (j := 0) rfl)
    simpa using this
  · have := hc (k * 2 + 1) _ (flat_get prC_length hq (j := 1) rfl)
    rw [Nat.add_assoc]
    exact this
theorem pr_cells (w : World) (q : PR) (t : TypeId) : ∀ (j : Nat) (u : Value), (prC q)[j]? = some u → (w.alloc (.cells #[.string q.1, .string q.2] t)).cell? (Addr.add ⟨w.heap.size, 0, none⟩ j) = some u := fun j u hj => by
  have h := BxA.new w t (prC q)
  rw [Addr.add_lit, Nat.zero_add]
  exact h.c j hj
theorem prC_one (q : PR) : ∀ u ∈ prC q, u.oneCell' = true := by
  intro u hu
  rcases List.mem_cons.1 hu with rfl | hu
  · rfl
  · rcases List.mem_cons.1 hu with rfl | hu
    · rfl
    · cases hu
set_option maxHeartbeats 1000000 in
theorem rget_calls (w : World) (R : Nat → Prop) (A : Option Addr) (c : Nat) (l : List PR) (h : RowT prC w R A l) (hl : l.length ≤ 100000) (n : ByteArray) :
    Calls Tryz.prog 14 #[.slice A l.length c, .string n] w fun e w' => e = .returned (.tuple #[.string ((getP l n).getD ⟨#[]⟩), .bool (getP l n).isSome]) ∧ Below w.heap.size w w' := by
  have H := Lib.hid h
  clear h
  go_enter Tryz.func14, Tryz.ntmps14
  go_wp2_with fail
  go_loopw [6] (fun v6 wr => ∃ k : Nat, k ≤ l.length ∧ v6 = .int .i64 (k : Int) ∧ Hid (getP l n = getP (l.drop k) n) ∧ Below w.heap.size w wr) (fun v6 _ => l.length - (intOf v6).toNat)
  case atStart => exact ⟨0, Nat.zero_le _, rfl, Lib.hid rfl, Below.refl _ _⟩
  case round =>
    obtain ⟨k, hk, rfl, hG, hbel⟩ := hrel
    by_cases hlt : k < l.length
    · obtain ⟨g, o, q, rfl, hg, hq, c0, c1⟩ := pr_at (H.out.below hbel) hlt
      have HD := Lib.hid (getP_drop hq n)
      have hkl : (k : Int) < (l.length : Int) := by omega
      have HB := Lib.hid hbel
      clear hq hbel
      by_cases hn : q.1 = n
      · have t1 : (q.1.toList == n.toList) = true := by rw [tl_beq]; exact decide_eq_true hn
        have HR : Hid (getP l n = some q.2) := Lib.hid (by rw [hG.out, HD.out, if_pos hn])
        clear hG HD hn
        go_wp2_with fail
        go_ret2
        exact ⟨by rw [HR.out]; rfl, HB.out⟩
      · have t1 : (q.1.toList == n.toList) = false := by rw [tl_beq]; exact decide_eq_false hn
        have HG2 : Hid (getP l n = getP (l.drop (k + 1)) n) := Lib.hid (by rw [hG.out, HD.out, if_neg hn])
        clear hG HD hn
        go_wp2_with fail
        go_roundw
        case rel => exact ⟨k + 1, by omega, by go_num, HG2, HB.out⟩
        case measure => simp [intOf]; omega
    · obtain rfl : k = l.length := by omega
      have HR : Hid (getP l n = none) := Lib.hid (by rw [hG.out, List.drop_length]; rfl)
      have HB := Lib.hid hbel
      clear hG hbel
      go_wp2_with fail
      go_ret2
      exact ⟨by rw [HR.out]; rfl, HB.out⟩
set_option maxHeartbeats 2000000 in
theorem rdrop_calls (w : World) (R : Nat → Prop) (A : Option Addr) (c : Nat) (l : List PR) (h : RowT prC w R A l) (hl : l.length ≤ 100000) (n : ByteArray) :
    Calls Tryz.prog 16 #[.slice A l.length c, .string n] w fun e w' => ∃ v, e = .returned v ∧ w'.ownsRow w.heap.size 76 2 v (dropR l n).length ((dropR l n).flatMap prC) ∧ Below w.heap.size w w' := by
  have H := Lib.hid h
  clear h
  obtain ⟨i1, hi1, hy0, hy1, hy2⟩ := info_parts infoPr
  go_enter Tryz.func16, Tryz.ntmps16
  go_wp2_with fail
  go_loopw [5, 6] (fun v5 v6 wr => ∃ k : Nat, k ≤ l.length ∧ v6 = .int .i64 (k : Int) ∧ wr.ownsRow w.heap.size 76 2 v5 (dropR (l.take k) n).length ((dropR (l.take k) n).flatMap prC) ∧ Below w.heap.size w wr) (fun _ v6 _ => l.length - (intOf v6).toNat)
  case atStart => exact ⟨0, Nat.zero_le _, rfl, World.ownsRow_nil _ _ _ _, Below.refl _ _⟩
  case round =>
    obtain ⟨k, hk, rfl, hown, hbel⟩ := hrel
    by_cases hlt : k < l.length
    · obtain ⟨g, o, q, rfl, hg, hq, c0, c1⟩ := pr_at (H.out.below hbel) hlt
      have HD := Lib.hid (drop_step n hq)
      have hkl : (k : Int) < (l.length : Int) := by omega
      have Hlen : Hid ((dropR (l.take k) n).length ≤ k) := Lib.hid (by have := drop_length_le (l.take k) n; rw [List.length_take] at this; omega)
      have HB := Lib.hid hbel
      have HO := Lib.hid hown
      have hz := hbel.size
      clear hq hbel hown
      by_cases hn : q.1 = n
      · have t1 : (q.1.toList == n.toList) = true := by rw [tl_beq]; exact decide_eq_true hn
        have HO2 : Hid (wr.ownsRow w.heap.size 76 2 u5 (dropR (l.take (k + 1)) n).length ((dropR (l.take (k + 1)) n).flatMap prC)) := Lib.hid (by rw [HD.out, if_pos hn]; exact HO.out)
        clear HD hn HO Hlen
        go_wp2_with fail
        go_roundw
        case rel => exact ⟨k + 1, by omega, by go_num, HO2.out, HB.out⟩
        case measure => simp [intOf]; omega
      · have t1 : (q.1.toList == n.toList) = false := by rw [tl_beq]; exact decide_eq_false hn
        have HD2 : Hid (dropR (l.take (k + 1)) n = dropR (l.take k) n ++ [q]) := Lib.hid (by rw [HD.out, if_neg hn])
        clear HD hn
        generalize dropR (l.take k) n = acc at *
        go_wp2_with (at_builtin; refine wpList_append_own _ rfl _ _ 30 rfl w.heap.size 76 i1 _ 2 32 Tryz.underlying30 hi1 hy0 hy1 hy2 rfl (by decide) _ _ _ rfl (HO.out.alloc _) ⟨wr.heap.size, 0, none⟩ 1 1 (prC q) rfl rfl ?d1 ?d2 ?d3 ?d4 ?d5 ?_)
        case d1 => exact pr_cells wr q _
        case d2 => exact prC_one q
        case d3 => have := Hlen.out; unfold maxLen; omega
        case d4 => have := Hlen.out; omega
        case d5 => have := Hlen.out; simp; omega
        intro v' w5 hown5 hgrow _
        have Hown5 := Lib.hid hown5
        have hb5 : Below w.heap.size w w5 := (HB.out.alloc hz _).grown hgrow (by simp; omega) (fun k hk => (HO.out.lt k hk).1)
        have HB5 := Lib.hid hb5
        clear hown5 hgrow hb5
        go_wp2_with fail
        go_roundw
        case rel => exact ⟨k + 1, by omega, by go_num, by rw [HD2.out, List.length_append, List.flatMap_append]; simpa using Hown5.out, HB5.out⟩
        case measure => simp [intOf]; omega
    · obtain rfl : k = l.length := by omega
      rw [List.take_length] at hown
      have HO := Lib.hid hown
      have HB := Lib.hid hbel
      clear hown hbel
      go_wp2_with fail
      go_ret
      exact ⟨_, rfl, HO.out, HB.out⟩
end
section
open Go Go.RowKit
set_option maxRecDepth 100000
theorem nameB_bs (x : List UInt8) : nameB (bs x) = (decide (1 ≤ x.length) && decide (x.length ≤ 20) && decide (plainL x = x) && decide ((32 : UInt8) ∉ x)) := by
  unfold nameB
  rw [bl_bs, bs_size]
theorem bs_get (x : List UInt8) {k : Nat} (h : k < (bs x).size) : (bs x)[k]'h = x[k]'(by rw [← bs_size]; exact h) := rfl
set_option maxHeartbeats 1000000 in
theorem rnamed_calls (x : List UInt8) (hx : x.length ≤ 137438953472) (w : World) :
    Calls Tryz.prog 32 #[.string (bs x)] w fun e w' => e = .returned (.bool (nameB (bs x))) ∧ Below w.heap.size w w' := by
  rw [nameB_bs]
  have HP := Lib.hid (fun W => rplain_calls x hx W)
  have hsz := bs_size x
  by_cases h1 : 1 ≤ x.length
  · by_cases h2 : x.length ≤ 20
    · by_cases h3 : plainL x = x
      · have q1 : ¬ ((x.length : Int) < 1) := by omega
        have q2 : ¬ ((20 : Int) < (x.length : Int)) := by omega
        have q3 : (x == x) = true := beq_self_eq_true _
        rw [decide_eq_true h1, decide_eq_true h2, decide_eq_true h3, Bool.true_and, Bool.true_and, Bool.true_and]
        have H3 := Lib.hid h3
        clear h3
        go_enter Tryz.func32, Tryz.ntmps32
        go_wp2_with fail
        refine (HP.out _).mono ?_
        rintro e w1 ⟨rfl, hb1⟩
        rw [H3.out]
        have HB1 := Lib.hid hb1
        clear hb1 HP
        go_wp2_with fail
        go_loopw [3] (fun v3 wr => ∃ k : Nat, k ≤ x.length ∧ v3 = .int .i64 (k : Int) ∧ wr = w1 ∧ Hid ((32 : UInt8) ∉ x.take k)) (fun v3 _ => x.length - (intOf v3).toNat)
        case atStart => exact ⟨0, Nat.zero_le _, rfl, rfl, Lib.hid (by simp)⟩
        case round =>
          obtain ⟨k, hk, rfl, rfl, hT⟩ := hrel
          by_cases hlt : k < x.length
          · have hkl : (k : Int) < (x.length : Int) := by omega
            have hg : x[k]? = some x[k] := List.getElem?_eq_getElem hlt
            by_cases h32 : x[k] = 32
            · have t32 : ∀ h : k < (bs x).size, ((((bs x)[k]'h).toNat : Int) == 32) = true := fun h => by rw [bs_get x h, h32]; rfl
              have HT : Hid (decide ((32 : UInt8) ∉ x) = false) := Lib.hid (decide_eq_false (fun e => e (by rw [← h32]; exact List.getElem_mem hlt)))
              clear hT h32 hg
              go_wp2_with fail
              go_ret
              exact ⟨by rw [HT.out]; rfl, HB1.out⟩
            · have t32 : ∀ h : k < (bs x).size, ((((bs x)[k]'h).toNat : Int) == 32) = false := fun h => by
                rw [bs_get x h]
                exact beq_eq_false_iff_ne.2 (fun e => h32 (UInt8.toNat_inj.1 (by rw [show (32 : UInt8).toNat = 32 from rfl]; omega)))
              have HT : Hid ((32 : UInt8) ∉ x.take (k + 1)) := Lib.hid (by
                rw [List.take_add_one, hg]
                intro e
                rcases List.mem_append.1 e with e | e
                · exact hT.out e
                · have e2 : (32 : UInt8) = x[k] := by simpa using e
                  exact h32 e2.symm)
              clear hT h32 hg
              go_wp2_with fail
              go_roundw
              case rel => exact ⟨k + 1, by omega, by go_num, trivial, HT⟩
              case measure => simp [intOf]; omega
          · obtain rfl : k = x.length := by omega
            rw [List.take_length] at hT
            have HT : Hid (decide ((32 : UInt8) ∉ x) = true) := Lib.hid (decide_eq_true hT.out)
            clear hT
            go_wp2_with fail
            go_ret
            exact ⟨by rw [HT.out]; rfl, HB1.out⟩
      · have q1 : ¬ ((x.length : Int) < 1) := by omega
        have q2 : ¬ ((20 : Int) < (x.length : Int)) := by omega
        have q3 : (plainL x == x) = false := beq_eq_false_iff_ne.2 h3
        rw [decide_eq_true h1, decide_eq_true h2, decide_eq_false h3, Bool.true_and, Bool.true_and, Bool.false_and]
        clear h3
        go_enter Tryz.func32, Tryz.ntmps32
        go_wp2_with fail
        refine (HP.out _).mono ?_
        rintro e w1 ⟨rfl, hb1⟩
        have HB1 := Lib.hid hb1
        clear hb1 HP
        go_wp2_with fail
        go_ret
        exact ⟨rfl, HB1.out⟩
    · have q1 : ¬ ((x.length : Int) < 1) := by omega
      have q2 : decide ((20 : Int) < (x.length : Int)) = true := decide_eq_true (by omega)
      rw [decide_eq_false h2, Bool.and_false, Bool.false_and, Bool.false_and]
      clear h2
      go_enter Tryz.func32, Tryz.ntmps32
      go_wp2_with fail
      go_ret
      exact ⟨rfl, Below.refl _ _⟩
  · have q1 : decide ((x.length : Int) < 1) = true := decide_eq_true (by omega)
    rw [decide_eq_false h1, Bool.false_and, Bool.false_and, Bool.false_and]
    clear h1
    go_enter Tryz.func32, Tryz.ntmps32
    go_wp2_with fail
    go_ret
    exact ⟨rfl, Below.refl _ _⟩
end
section
open Go Go.RowKit
set_option maxRecDepth 100000
set_option maxHeartbeats 1000000 in
theorem trimByte_calls (x : List UInt8) (w : World) :
    Calls Tryz.prog 34 #[.string (bs x), .int .u8 32] w fun e w' => e = .returned (.string (bs (x.dropWhile fun c => c == 32))) ∧ Below w.heap.size w w' := by
  go_enter Tryz.func34, Tryz.ntmps34
  go_wp2_with fail
  go_loopw [0] (fun v0 wr => ∃ y : List UInt8, v0 = .string (bs y) ∧ wr = w ∧ y.length ≤ x.length ∧ Hid ((x.dropWhile fun c => c == 32) = (y.dropWhile fun c => c == 32))) (fun v0 _ => match v0 with | .string s => s.size | _ => 0)
  case atStart => exact ⟨x, rfl, rfl, Nat.le_refl _, Lib.hid rfl⟩
  case round =>
    obtain ⟨y, rfl, rfl, hy, hD⟩ := hrel
    have hsz := bs_size y
    cases y with
    | nil =>
      have q1 : ((bs ([] : List UInt8)).size : Int) = 0 := rfl
      have HR : Hid ((x.dropWhile fun c => c == 32) = []) := hD
      clear hD
      go_wp2_with fail
      go_ret
      exact ⟨by rw [HR.out]; rfl, Below.refl _ _⟩
    | cons a y =>
      have hpos : (0 : Int) < ((bs (a :: y)).size : Int) := by rw [hsz]; simp
      have hpos2 : 0 < (bs (a :: y)).size := by rw [hsz]; simp
      have hg : ∀ h : 0 < (bs (a :: y)).size, (bs (a :: y))[0]'h = a := fun h => bs_get (a :: y) h
      have hdr := bs_drop (a :: y) 1
      rw [← hsz] at hdr
      by_cases ha : a = 32
      · have t32 : ∀ h : 0 < (bs (a :: y)).size, ((((bs (a :: y))[0]'h).toNat : Int) == 32) = true := fun h => by rw [hg h, ha]; rfl
        have HD2 : Hid ((x.dropWhile fun c => c == 32) = (y.dropWhile fun c => c == 32)) := Lib.hid (by rw [hD.out, List.dropWhile_cons, if_pos (by rw [ha]; rfl)])
        have hsz2 := bs_size y
        have hlen : y.length ≤ x.length := by simp at hy; omega
        have Hm : Hid ((bs y).size < (bs (a :: y)).size) := Lib.hid (by rw [hsz, hsz2]; simp)
        have hdr2 : (bs (a :: y)).extract 1 (y.length + 1) = bs y := by rw [hsz] at hdr; exact hdr
        clear hD hdr hg ha hy hsz
        go_wp2_with fail
        go_roundw
        case rel => exact ⟨y, rfl, trivial, hlen, HD2⟩
        case measure => exact Hm.out
      · have t32 : ∀ h : 0 < (bs (a :: y)).size, ((((bs (a :: y))[0]'h).toNat : Int) == 32) = false := fun h => by
          rw [hg h]
          exact beq_eq_false_iff_ne.2 (fun e => ha (UInt8.toNat_inj.1 (by rw [show (32 : UInt8).toNat = 32 from rfl]; omega)))
        have HR : Hid ((x.dropWhile fun c => c == 32) = a :: y) := Lib.hid (by rw [hD.out, List.dropWhile_cons, if_neg (by simpa using ha)])
        clear hD hdr hg ha
        go_wp2_with fail
        go_ret
        exact ⟨by rw [HR.out]; rfl, Below.refl _ _⟩
set_option maxHeartbeats 1000000 in
theorem trimLeft_calls (x : List UInt8) (w : World) :
    Calls Tryz.prog 18 #[.string (bs x), .string ⟨#[32]⟩] w fun e w' => e = .returned (.string (bs (x.dropWhile fun c => c == 32))) ∧ Below w.heap.size w w' := by
  have HT := Lib.hid (trimByte_calls x w)
  cases x with
  | nil =>
    have q1 : ((bs ([] : List UInt8)).toList == (⟨#[]⟩ : ByteArray).toList) = true := beq_self_eq_true _
    go_enter Tryz.func18, Tryz.ntmps18
    go_wp2_with fail
    go_ret
    exact ⟨rfl, Below.refl _ _⟩
  | cons a y =>
    have q1 : ((bs (a :: y)).toList == (⟨#[]⟩ : ByteArray).toList) = false := by
      rw [Lib.toList_data, Lib.toList_data]
      exact beq_eq_false_iff_ne.2 (fun e => by cases e)
    go_enter Tryz.func18, Tryz.ntmps18
    go_wp2_with fail
    refine HT.out.mono ?_
    rintro e w1 ⟨rfl, hb⟩
    have HB := Lib.hid hb
    clear hb HT
    go_wp2_with fail
    go_ret
    exact ⟨rfl, HB.out⟩
end
section
open Go Go.RowKit
/-- What stands at a round's head: l is left, and what was told is right so far. -/
def CutOk (l0 l : List UInt8) (ls : List (List UInt8)) : Prop := (ls = [] ∧ l = l0) ∨ ∃ done cur, ls = done ++ [cur] ∧ done ++ cutFrom cur l = cutL l0
theorem CutOk.zero {l0 l : List UInt8} {done : List (List UInt8)} {cur : List UInt8} (h : CutOk l0 l (done ++ [cur])) (hl : l ≠ []) (hz : ofL ((Lib.decodeL l).1 : Int) = 0) : CutOk l0 (l.drop (Lib.decodeL l).2) (done ++ [cur ++ l.take (Lib.decodeL l).2]) := by
  rcases h with ⟨h, _⟩ | ⟨d, c, h1, h2⟩
  · simp at h
  · obtain ⟨rfl, h3⟩ := List.append_inj' h1 rfl
    obtain rfl : cur = c := by simpa using h3
    exact .inr ⟨done, _, rfl, by rw [← cutFrom_zero _ _ hl hz]; exact h2⟩
theorem CutOk.new {l0 l : List UInt8} {ls : List (List UInt8)} (h : CutOk l0 l ls) (hl : l ≠ []) (hz : ofL ((Lib.decodeL l).1 : Int) ≠ 0 ∨ ls = []) : CutOk l0 (l.drop (Lib.decodeL l).2) (ls ++ [l.take (Lib.decodeL l).2]) := by
  refine .inr ⟨ls, _, rfl, ?_⟩
  rcases h with ⟨rfl, rfl⟩ | ⟨d, c, rfl, h2⟩
  · rw [List.nil_append, ← cutL_from _ hl]
  · have hz' : ofL ((Lib.decodeL l).1 : Int) ≠ 0 := by
      rcases hz with hz | hz
      · exact hz
      · simp at hz
    rw [cutFrom_new _ _ hl hz'] at h2
    rw [← h2]; simp
theorem CutOk.done {l0 : List UInt8} {ls : List (List UInt8)} (h : CutOk l0 [] ls) : ls = cutL l0 := by
  rcases h with ⟨rfl, rfl⟩ | ⟨d, c, rfl, h2⟩
  · rfl
  · rw [cutFrom_nil] at h2; exact h2
theorem cutFrom_flatten (cur l : List UInt8) : (cutFrom cur l).flatten = cur ++ l := by
  unfold cutFrom
  rw [List.flatten_cons, cutL_flatten, List.append_assoc, List.take_append_drop]
theorem CutOk.len {l0 l : List UInt8} {done : List (List UInt8)} {cur : List UInt8} (h : CutOk l0 l (done ++ [cur])) : cur.length + l.length ≤ l0.length := by
  rcases h with ⟨h, _⟩ | ⟨d, c, h1, h2⟩
  · simp at h
  · obtain ⟨rfl, h3⟩ := List.append_inj' h1 rfl
    obtain rfl : cur = c := by simpa using h3
    have := congrArg (fun x => x.flatten.length) h2
    simp only [List.flatten_append, cutFrom_flatten, cutL_flatten, List.length_append] at this
    omega
set_option maxRecDepth 100000 in
set_option maxHeartbeats 4000000 in
theorem rcut_calls (l0 : List UInt8) (w : World) (hl0 : l0.length ≤ 1099511627776) :
    Calls Tryz.prog 72 #[.string (bs l0)] w fun e w' => ∃ v, e = .returned v ∧ w'.ownsRow w.heap.size 9 1 v (cutL l0).length (cellsS ((cutL l0).map bs)) ∧ Below w.heap.size w w' := by
  obtain ⟨i0, hi, hz0, hz1, hz2⟩ := info_parts infoS
  go_enter Tryz.func72, Tryz.ntmps72
  go_wp2_with fail
  go_loopw [0, 3] (fun v0 v3 wr => ∃ (l : List UInt8) (ls : List (List UInt8)), v0 = .string (bs l) ∧ wr.ownsRow w.heap.size 9 1 v3 ls.length (cellsS (ls.map bs)) ∧ Below w.heap.size w wr ∧ ls.length + l.length ≤ l0.length ∧ Hid (CutOk l0 l ls)) (fun v0 _ _ => strLen v0)
  case atStart => exact ⟨l0, [], rfl, World.ownsRow_nil _ _ _ _, Below.refl _ _, by simp, Lib.hid (.inl ⟨rfl, rfl⟩)⟩
  case round =>
    obtain ⟨l, ls, rfl, hown, hbel, hlen, hok⟩ := hrel
    have hsz := bs_size l
    by_cases hl : l = []
    · subst hl
      have He := Lib.hid hok.out.done
      have Hown := Lib.hid hown
      clear hown hok
      go_wp2
      go_ret
      rw [← He.out]
      exact ⟨_, rfl, Hown.out, hbel⟩
    · have hlp : 0 < l.length := List.length_pos_iff.2 hl
      have hwd := Lib.decodeL_width l
      have hle := Lib.decodeL_le l hl
      have hnx : nextL l = Lib.decodeL l := by simp [nextL, hl]
      have hs6 := Lib.run_convert_string_bytes (P := Tryz.prog) wr 9 87 5 (bs l) Tryz.underlying9 Tryz.underlying87 Tryz.underlying5
      have kw := below_bytes wr 5 (bs l)
      have hcon := rnext_calls (some ⟨wr.heap.size, 0, none⟩) (grownCap wr l.length 0 5) l _ (byt_bytes wr l) (by unfold maxLen; omega)
      unfold ToldNext at hcon
      rw [hnx] at hcon
      have Hcon := Lib.hid hcon
      have hof := Lib.hid (fun W => rof_calls ((Lib.decodeL l).1 : Int) W)
      have hpos : decide ((0 : Int) < (l.length : Int)) = true := decide_eq_true (by omega)
      obtain ⟨A, c, rfl⟩ := own_form hown
      have Hown := Lib.hid hown
      clear hown hcon hnx
      go_wp2_with fail
      refine Hcon.out.mono ?_
      rintro e w1 ⟨rfl, hb1⟩
      have k1 : Below wr.heap.size wr w1 := kw.trans (hb1.mono kw.size)
      have hb : Below w.heap.size w w1 := hbel.trans (k1.mono hbel.size)
      have hown1 := own_below Hown.out k1
      clear hb1 hs6 Hcon
      have hex := bs_take l (Lib.decodeL l).2
      have hdx := bs_drop l (Lib.decodeL l).2
      have hw1 := hb.size
      by_cases hz : ofL ((Lib.decodeL l).1 : Int) = 0
      · have hof' := Lib.hid (hof.out w1)
        rw [hz] at hof'
        by_cases hls : ls = []
        · subst hls
          have hok' := Lib.hid (hok.out.new hl (.inr rfl))
          have Hown1 := Lib.hid hown1
          clear hok hof hz hown1
          go_wp2_with fail
          refine hof'.out.mono ?_
          rintro e w2 ⟨rfl, rfl⟩
          go_wp2_with (at_builtin; refine wpList_append_own _ rfl _ _ 47 rfl w.heap.size 9 i0 (.string ⟨#[]⟩) 1 16 Tryz.underlying47 hi hz0 hz1 hz2 rfl (by decide) _ _ _ rfl (Hown1.out.alloc _) ⟨w1.heap.size, 0, none⟩ 1 1 [.string (bs (l.take (Lib.decodeL l).2))] rfl rfl ?c1 ?c2 ?c3 ?c4 ?c5 ?_)
          case c1 => exact cell_one_new _ _ _
          case c2 => simp [Value.oneCell']
          case c3 => unfold maxLen; omega
          case c4 => omega
          case c5 => simp; omega
          intro v' w3 hown3 hgrow _
          have hb3 : Below w.heap.size w w3 := (hb.alloc hw1 _).grown hgrow (by simp; omega) (fun k hk => (Hown1.out.lt k hk).1)
          have Hown3 := Lib.hid hown3
          clear hown3 hgrow
          go_wp2
          go_roundw
          case rel => exact ⟨l.drop (Lib.decodeL l).2, [] ++ [l.take (Lib.decodeL l).2], rfl, by simpa [cellsS] using Hown3.out, hb3, by simp; omega, hok'.out⟩
          case measure => simp only [strLen, bs_size, List.length_drop]; omega
        · obtain ⟨done, cur, rfl⟩ : ∃ done cur, ls = done ++ [cur] := ⟨ls.dropLast, ls.getLast hls, (List.dropLast_concat_getLast hls).symm⟩
          have hok' := Lib.hid (hok.out.zero hl hz)
          have hl1 : (done ++ [cur]).length = done.length + 1 := by simp
          rw [hl1] at hown1 hlen ⊢
          obtain ⟨g, cap, hv⟩ := ownsRow_succ hown1
          injection hv with hv1 hv2 hv3
          subst hv1; subst hv3
          obtain ⟨hce, hfr⟩ := own_cell hown1 (i := done.length) (u := .string (bs cur)) (by simp [cellsS])
          have hset := Lib.hid (own_set hown1 done.length (.string (bs (cur ++ l.take (Lib.decodeL l).2))))
          have hgl : w.heap.size ≤ g := (hown1.lt g rfl).1
          have hcl := hok.out.len
          have hap := add_bs Tryz.prog cur (l.take (Lib.decodeL l).2) (by rw [List.length_take]; omega)
          clear hok hof hz hown1 hls hl1 Hown
          go_wp2_with fail
          refine hof'.out.mono ?_
          rintro e w2 ⟨rfl, rfl⟩
          go_wp2_with fail
          go_region
          go_wp2
          go_roundw
          case rel =>
            refine ⟨l.drop (Lib.decodeL l).2, done ++ [cur ++ l.take (Lib.decodeL l).2], rfl, ?_, (hb.setCell (p := ⟨g, done.length, none⟩) hgl _).drew, by simp; omega, hok'.out⟩
            have h := hset.out
            have e : (cellsS ((done ++ [cur]).map bs)).set done.length (.string (bs (cur ++ l.take (Lib.decodeL l).2))) = cellsS ((done ++ [cur ++ l.take (Lib.decodeL l).2]).map bs) := by simp [cellsS]
            rw [e] at h
            have e2 : (done ++ [cur ++ l.take (Lib.decodeL l).2]).length = done.length + 1 := by simp
            rw [e2]
            exact h
          case measure => simp only [strLen, bs_size, List.length_drop]; omega
      · have hok' := Lib.hid (hok.out.new hl (.inl hz))
        have hof' := Lib.hid (hof.out w1)
        have hne : (((ofL ((Lib.decodeL l).1 : Int) : Nat) : Int) == 0) = false := beq_eq_false_iff_ne.2 (by omega)
        have Hown1 := Lib.hid hown1
        clear hok hof hz hown1
        generalize ofL ((Lib.decodeL l).1 : Int) = y at *
        go_wp2_with fail
        refine hof'.out.mono ?_
        rintro e w2 ⟨rfl, rfl⟩
        go_wp2_with (at_builtin; refine wpList_append_own _ rfl _ _ 47 rfl w.heap.size 9 i0 (.string ⟨#[]⟩) 1 16 Tryz.underlying47 hi hz0 hz1 hz2 rfl (by decide) _ _ _ rfl (Hown1.out.alloc _) ⟨w1.heap.size, 0, none⟩ 1 1 [.string (bs (l.take (Lib.decodeL l).2))] rfl rfl ?c1 ?c2 ?c3 ?c4 ?c5 ?_)
        case c1 => exact cell_one_new _ _ _
        case c2 => simp [Value.oneCell']
        case c3 => unfold maxLen; omega
        case c4 => omega
        case c5 => simp; omega
        intro v' w3 hown3 hgrow _
        have hb3 : Below w.heap.size w w3 := (hb.alloc hw1 _).grown hgrow (by simp; omega) (fun k hk => (Hown1.out.lt k hk).1)
        have Hown3 := Lib.hid hown3
        clear hown3 hgrow
        go_wp2
        go_roundw
        case rel => exact ⟨l.drop (Lib.decodeL l).2, ls ++ [l.take (Lib.decodeL l).2], rfl, by simpa [cellsS] using Hown3.out, hb3, by simp; omega, hok'.out⟩
        case measure => simp only [strLen, bs_size, List.length_drop]; omega
end
end Go.Proofs.YtlmbafnoopfilaaGreatDoor
