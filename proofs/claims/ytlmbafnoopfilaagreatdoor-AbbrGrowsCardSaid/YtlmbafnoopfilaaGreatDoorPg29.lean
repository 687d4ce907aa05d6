/-
  Layer 7 and what it stands on, part 29 (RSet).
-/
import Derived.Test.YtlmbafnoopfilaaGreatDoorPg14
import Derived.Laws.Cover1
namespace Go.Proofs.YtlmbafnoopfilaaGreatDoor
section
open Go Go.RowKit
set_option maxRecDepth 100000
/-- The slice that the document's Set answers: the old one, or a row of its own. -/
def SetTo (w w' : World) (A : Option Addr) (c : Nat) (l l' : List PR) (v : Value) : Prop := (v = .slice A l.length c ∧ l' = l) ∨ w'.ownsRow w.heap.size 76 2 v l'.length (l'.flatMap prC)
section
variable (w : World) (R : Nat → Prop) (A : Option Addr) (c : Nat) (l : List PR) (h : RowT prC w R A l) (hl : l.length ≤ 1000) (n : ByteArray) (t : List UInt8) (hn : n.size ≤ 137438953472) (ht : t.length ≤ 137438953472)
include h hl hn ht
set_option maxHeartbeats 4000000 in
theorem rset_calls :
    Calls Tryz.prog 15 #[.slice A l.length c, .string n, .string (bs t)] w fun e w' => ∃ v, e = .returned (.tuple #[v, .int .i64 (setR l n (bs t)).2]) ∧ SetTo w w' A c l (setR l n (bs t)).1 v ∧ Below w.heap.size w w' := by
  have H := Lib.hid h
  have HP := Lib.hid (fun W => rplain_calls t ht W)
  have HN : Hid (∀ W, Calls Tryz.prog 32 #[.string n] W fun e w' => e = .returned (.bool (nameB n)) ∧ Below W.heap.size W w') := Lib.hid (fun W => by
    have := rnamed_calls (bl n) (by unfold bl; simpa using hn) W
    rwa [bs_bl] at this)
  obtain ⟨i1, hi1, hy0, hy1, hy2⟩ := info_parts infoPr
  have HE : Hid (setR l n (bs t) = if nameB n = false then (l, 80) else if 100 < (plainL t).length then (l, 30) else if (dropR l n).length = l.length ∧ 16 ≤ l.length then (l, 81) else (insR (n, bs (plainL t)) (dropR l n), 0)) := Lib.hid (by unfold setR; rw [bl_bs])
  have hsz := bs_size (plainL t)
  generalize setR l n (bs t) = res at *
  generalize plainL t = p at *
  clear h
  go_enter Tryz.func15, Tryz.ntmps15
  go_wp2_with fail
  refine (HP.out _).mono ?_
  rintro e w1 ⟨rfl, hb1⟩
  have HB1 := Lib.hid hb1
  clear hb1 HP
  go_wp2_with fail
  refine (HN.out _).mono ?_
  rintro e w2 ⟨rfl, hb2⟩
  have HB2 := Lib.hid (HB1.out.trans (hb2.mono HB1.out.size))
  clear hb2 HN HB1
  cases hnm : nameB n with
  | false =>
    have HR : Hid (res = (l, 80)) := Lib.hid (by rw [HE.out, if_pos hnm])
    clear HE hnm
    go_wp2_with fail
    go_ret2
    exact ⟨_, by rw [HR.out]; rfl, .inl ⟨rfl, by rw [HR.out]⟩, HB2.out⟩
  | true =>
    rw [hnm, if_neg (by simp)] at HE
    clear hnm
    by_cases h100 : 100 < p.length
    · have q1 : decide ((100 : Int) < (p.length : Int)) = true := decide_eq_true (by omega)
      have HR : Hid (res = (l, 30)) := Lib.hid (by rw [HE.out, if_pos h100])
      clear HE h100
      go_wp2_with fail
      go_ret2
      exact ⟨_, by rw [HR.out]; rfl, .inl ⟨rfl, by rw [HR.out]⟩, HB2.out⟩
    · have q1 : ¬ ((100 : Int) < (p.length : Int)) := by omega
      rw [if_neg h100] at HE
      clear h100
      go_wp2_with fail
      refine (rdrop_calls w2 R A c l (H.out.below HB2.out) (by omega) n).mono ?_
      rintro e w3 ⟨v, rfl, hown, hb3⟩
      obtain ⟨A3, c3, rfl⟩ := own_form hown
      have HB3 := Lib.hid (HB2.out.trans (hb3.mono HB2.out.size))
      have HOwn := Lib.hid (own_less hown HB2.out.size)
      have Hrl := Lib.hid (drop_length_le l n)
      have Hnm := Lib.hid (not_mem_drop l n)
      clear hown hb3 HB2
      generalize dropR l n = r at *
      by_cases hfull : r.length = l.length ∧ 16 ≤ l.length
      · have q2 : ((r.length : Int) == (l.length : Int)) = true := by rw [hfull.1]; exact beq_self_eq_true _
        have q3 : decide ((16 : Int) ≤ (l.length : Int)) = true := decide_eq_true (by omega)
        have HR : Hid (res = (l, 81)) := Lib.hid (by rw [HE.out, if_pos hfull])
        clear HE hfull
        go_wp2_with fail
        go_ret2
        exact ⟨_, by rw [HR.out]; rfl, .inl ⟨rfl, by rw [HR.out]⟩, HB3.out⟩
      · rw [if_neg hfull] at HE
        have hfork : (((r.length : Int) == (l.length : Int)) = true ∧ ¬ ((16 : Int) ≤ (l.length : Int))) ∨ ((r.length : Int) == (l.length : Int)) = false := by
          by_cases he : r.length = l.length
          · exact .inl ⟨by rw [he]; exact beq_self_eq_true _, by omega⟩
          · exact .inr (beq_eq_false_iff_ne.2 (by omega))
        have HRow := Lib.hid (rowT_of_own (C := prC) (R := fun _ => True) HOwn.out (fun _ _ => trivial))
        have HIE := Lib.hid (insK_end (n, bs p) r)
        have hr1000 : r.length ≤ 1000 := by have := Hrl.out; omega
        clear hfull HOwn H
        rcases hfork with ⟨q2, q3⟩ | q2
        all_goals
          go_wp2_with fail
          go_loopw [9, 10, 11] (fun v9 v10 v11 wr => ∃ k : Nat, k ≤ r.length ∧ v11 = .int .i64 (k : Int) ∧ v10 = .bool ((r.take k).any fun x => gtB x.1 n) ∧ wr.ownsRow w3.heap.size 76 2 v9 (insK (n, bs p) r k).length ((insK (n, bs p) r k).flatMap prC) ∧ Below w3.heap.size w3 wr) (fun _ _ v11 _ => r.length - (intOf v11).toNat)
          case atStart => exact ⟨0, Nat.zero_le _, rfl, rfl, World.ownsRow_nil _ _ _ _, Below.refl _ _⟩
          case round =>
            obtain ⟨k, hk, rfl, rfl, hown, hbel⟩ := hrel
            have HO := Lib.hid hown
            have HB := Lib.hid hbel
            clear hown hbel
            by_cases hlt : k < r.length
            · obtain ⟨g, o, q, rfl, hg, hq, c03, c13⟩ := pr_at HRow.out hlt
              have c0 : wr.cell? ⟨g, o + k * 2, none⟩ = some (.string q.1) := (HB.out.cell (p := ⟨g, o + k * 2, none⟩) hg).trans c03
              have c1 : wr.cell? ⟨g, o + k * 2 + 1, none⟩ = some (.string q.2) := (HB.out.cell (p := ⟨g, o + k * 2 + 1, none⟩) hg).trans c13
              have C03 := Lib.hid c03
              have C13 := Lib.hid c13
              clear c03 c13
              obtain ⟨hs, ha⟩ := insK_step (p := (n, bs p)) hq
              have hkl : (k : Int) < (r.length : Int) := by omega
              have Hlen : Hid ((insK (n, bs p) r k).length ≤ 2000) := Lib.hid (by
                have h1 := insK_length (n, bs p) r k
                have h2 := Hrl.out
                omega)
              have t2 : (q.1.toList == n.toList) = false := by rw [tl_beq]; exact decide_eq_false (Hnm.out q (List.mem_of_getElem? hq))
              have hgt : gtB q.1 n = !(Op.bytesLess q.1.toList n.toList) := by unfold gtB; rw [t2, Bool.or_false]
              dsimp only at hs ha
              rw [hgt] at hs ha
              clear hgt hq HRow HIE
              generalize insK (n, bs p) r k = acc at *
              cases hd : (r.take k).any fun x => gtB x.1 n with
              | true =>
                rw [hd] at hs ha
                have HA : Hid (((r.take (k + 1)).any fun x => gtB x.1 n) = true) := Lib.hid (by rw [ha]; rfl)
                have HS : Hid (insK (n, bs p) r (k + 1) = acc ++ [q]) := Lib.hid (by rw [hs, if_neg (by simp)])
                clear hs ha hd
                go_wp2_with (at_builtin; refine wpList_append_own _ rfl _ _ 30 rfl w3.heap.size 76 i1 _ 2 32 Tryz.underlying30 hi1 hy0 hy1 hy2 rfl (by decide) _ _ _ rfl (HO.out.alloc _) ⟨wr.heap.size, 0, none⟩ 1 1 (prC q) rfl rfl ?d1 ?d2 ?d3 ?d4 ?d5 ?_)
                case d1 => exact pr_cells wr q _
                case d2 => exact prC_one q
                case d3 => have := Hlen.out; unfold maxLen; omega
                case d4 => have := Hlen.out; omega
                case d5 => have := Hlen.out; have := HB.out.size; simp; omega
                intro v' w5 hown5 hgrow _
                have hb5 : Below w3.heap.size w3 w5 := (HB.out.alloc HB.out.size _).grown hgrow (by simp; have := HB.out.size; omega) (fun k hk => (HO.out.lt k hk).1)
                have HB5 := Lib.hid hb5
                have HO5 := Lib.hid hown5
                clear hown5 hgrow hb5
                go_wp2_with fail
                go_roundw
                case rel => exact ⟨k + 1, by omega, by go_num, by rw [HA.out], by rw [HS.out, List.length_append, List.flatMap_append]; simpa using HO5.out, HB5.out⟩
                case measure => simp [intOf]; omega
              | false =>
                rw [hd] at hs ha
                clear hd
                cases t1 : Op.bytesLess q.1.toList n.toList with
                | true =>
                  rw [t1] at hs ha
                  have HA : Hid (((r.take (k + 1)).any fun x => gtB x.1 n) = false) := Lib.hid (by rw [ha]; rfl)
                  have HS : Hid (insK (n, bs p) r (k + 1) = acc ++ [q]) := Lib.hid (by rw [hs, if_neg (by simp)])
                  clear hs ha
                  go_wp2_with (at_builtin; refine wpList_append_own _ rfl _ _ 30 rfl w3.heap.size 76 i1 _ 2 32 Tryz.underlying30 hi1 hy0 hy1 hy2 rfl (by decide) _ _ _ rfl (HO.out.alloc _) ⟨wr.heap.size, 0, none⟩ 1 1 (prC q) rfl rfl ?d1 ?d2 ?d3 ?d4 ?d5 ?_)
                  case d1 => exact pr_cells wr q _
                  case d2 => exact prC_one q
                  case d3 => have := Hlen.out; unfold maxLen; omega
                  case d4 => have := Hlen.out; omega
                  case d5 => have := Hlen.out; have := HB.out.size; simp; omega
                  intro v' w5 hown5 hgrow _
                  have hb5 : Below w3.heap.size w3 w5 := (HB.out.alloc HB.out.size _).grown hgrow (by simp; have := HB.out.size; omega) (fun k hk => (HO.out.lt k hk).1)
                  have HB5 := Lib.hid hb5
                  have HO5 := Lib.hid hown5
                  clear hown5 hgrow hb5
                  go_wp2_with fail
                  go_roundw
                  case rel => exact ⟨k + 1, by omega, by go_num, by rw [HA.out], by rw [HS.out, List.length_append, List.flatMap_append]; simpa using HO5.out, HB5.out⟩
                  case measure => simp [intOf]; omega
                | false =>
                  rw [t1] at hs ha
                  have HA : Hid (((r.take (k + 1)).any fun x => gtB x.1 n) = true) := Lib.hid (by rw [ha]; rfl)
                  have HS : Hid (insK (n, bs p) r (k + 1) = (acc ++ [(n, bs p)]) ++ [q]) := Lib.hid (by rw [hs, if_pos (by simp)])
                  clear hs ha
                  go_wp2_with (at_builtin; refine wpList_append_own _ rfl _ _ 30 rfl w3.heap.size 76 i1 _ 2 32 Tryz.underlying30 hi1 hy0 hy1 hy2 rfl (by decide) _ _ _ rfl (HO.out.alloc _) ⟨wr.heap.size, 0, none⟩ 1 1 (prC (n, bs p)) rfl rfl ?d1 ?d2 ?d3 ?d4 ?d5 ?_)
                  case d1 => exact pr_cells wr (n, bs p) _
                  case d2 => exact prC_one (n, bs p)
                  case d3 => have := Hlen.out; unfold maxLen; omega
                  case d4 => have := Hlen.out; omega
                  case d5 => have := Hlen.out; have := HB.out.size; simp; omega
                  intro v' w5 hown5 hgrow _
                  have hb5 : Below w3.heap.size w3 w5 := (HB.out.alloc HB.out.size _).grown hgrow (by simp; have := HB.out.size; omega) (fun k hk => (HO.out.lt k hk).1)
                  have HB5 := Lib.hid hb5
                  have HO5 := Lib.hid hown5
                  have HO5' : Hid (w5.ownsRow w3.heap.size 76 2 v' (acc ++ [(n, bs p)]).length ((acc ++ [(n, bs p)]).flatMap prC)) := Lib.hid (by rw [List.length_append, List.flatMap_append]; simpa using hown5)
                  have Hlen5 : Hid ((acc ++ [(n, bs p)]).length ≤ 2001) := Lib.hid (by have := Hlen.out; simp; omega)
                  clear hown5 hgrow hb5 HO5 HO HB Hlen
                  have e0 : w5.cell? ⟨g, o + k * 2, none⟩ = some (.string q.1) := (HB5.out.cell (p := ⟨g, o + k * 2, none⟩) hg).trans C03.out
                  have e1 : w5.cell? ⟨g, o + k * 2 + 1, none⟩ = some (.string q.2) := (HB5.out.cell (p := ⟨g, o + k * 2 + 1, none⟩) hg).trans C13.out
                  clear c0 c1
                  generalize acc ++ [(n, bs p)] = acc2 at *
                  have Hlen := Hlen5
                  go_wp2_with (at_builtin; refine wpList_append_own _ rfl _ _ 30 rfl w3.heap.size 76 i1 _ 2 32 Tryz.underlying30 hi1 hy0 hy1 hy2 rfl (by decide) _ _ _ rfl (HO5'.out.alloc _) ⟨w5.heap.size, 0, none⟩ 1 1 (prC q) rfl rfl ?d1 ?d2 ?d3 ?d4 ?d5 ?_)
                  case d1 => exact pr_cells w5 q _
                  case d2 => exact prC_one q
                  case d3 => have := Hlen.out; unfold maxLen; omega
                  case d4 => have := Hlen.out; omega
                  case d5 => have := Hlen.out; have := HB5.out.size; simp; omega
                  intro v'' w6 hown5 hgrow _
                  have hb5 : Below w3.heap.size w3 w6 := (HB5.out.alloc HB5.out.size _).grown hgrow (by simp; have := HB5.out.size; omega) (fun k hk => (HO5'.out.lt k hk).1)
                  have HB6 := Lib.hid hb5
                  have HO6 := Lib.hid hown5
                  clear hown5 hgrow hb5
                  go_wp2_with fail
                  go_roundw
                  case rel => exact ⟨k + 1, by omega, by go_num, by rw [HA.out], by rw [HS.out, List.length_append, List.flatMap_append]; simpa using HO6.out, HB6.out⟩
                  case measure => simp [intOf]; omega
            · obtain rfl : k = r.length := by omega
              rw [List.take_length]
              have Hlen : Hid ((insK (n, bs p) r r.length).length ≤ 2000) := Lib.hid (by
                have h1 := insK_length (n, bs p) r r.length
                have h2 := Hrl.out
                omega)
              have HIE2 := HIE.out
              generalize insK (n, bs p) r r.length = acc at *
              cases hd : r.any fun x => gtB x.1 n with
              | true =>
                rw [hd, if_pos rfl] at HIE2
                have HR : Hid (res = (acc, 0)) := Lib.hid (by rw [HE.out, HIE2])
                clear HIE2 hd
                go_wp2_with fail
                go_ret2
                exact ⟨_, by rw [HR.out]; rfl, .inr (by rw [HR.out]; exact own_less HO.out HB3.out.size), HB3.out.trans (HB.out.mono HB3.out.size)⟩
              | false =>
                rw [hd, if_neg (by simp)] at HIE2
                have HR : Hid (res = (acc ++ [(n, bs p)], 0)) := Lib.hid (by rw [HE.out, HIE2])
                clear HIE2 hd
                go_wp2_with (at_builtin; refine wpList_append_own _ rfl _ _ 30 rfl w3.heap.size 76 i1 _ 2 32 Tryz.underlying30 hi1 hy0 hy1 hy2 rfl (by decide) _ _ _ rfl (HO.out.alloc _) ⟨wr.heap.size, 0, none⟩ 1 1 (prC (n, bs p)) rfl rfl ?d1 ?d2 ?d3 ?d4 ?d5 ?_)
                case d1 => exact pr_cells wr (n, bs p) _
                case d2 => exact prC_one (n, bs p)
                case d3 => have := Hlen.out; unfold maxLen; omega
                case d4 => have := Hlen.out; omega
                case d5 => have := Hlen.out; have := HB.out.size; simp; omega
                intro v' w5 hown5 hgrow _
                have hb5 : Below w3.heap.size w3 w5 := (HB.out.alloc HB.out.size _).grown hgrow (by simp; have := HB.out.size; omega) (fun k hk => (HO.out.lt k hk).1)
                have HB5 := Lib.hid hb5
                have HO5 := Lib.hid hown5
                clear hown5 hgrow hb5
                go_wp2_with fail
                go_ret2
                exact ⟨_, by rw [HR.out]; rfl, .inr (by rw [HR.out]; refine own_less ?_ HB3.out.size; rw [List.length_append, List.flatMap_append]; simpa using HO5.out), HB3.out.trans (HB5.out.mono HB3.out.size)⟩
end
end
end Go.Proofs.YtlmbafnoopfilaaGreatDoor
