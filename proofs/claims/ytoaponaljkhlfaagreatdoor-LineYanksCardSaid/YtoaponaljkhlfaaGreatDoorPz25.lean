/-
  Layer 7 and what it stands on, part 25 (RefCut).
-/
import Derived.Test.YtoaponaljkhlfaaGreatDoorPz17
import Derived.Test.YtoaponaljkhlfaaGreatDoorPz23
import Derived.Laws.Rows
import Derived.BigRegion
import Derived.Laws.Concat
import Derived.RangeFuncBox
namespace Go.Proofs.YtoaponaljkhlfaaGreatDoor
section
open Go Go.RowKit
open Go.Lib (hid)
def CutOk (l0 l : List UInt8) (ls : List (List UInt8)) : Prop := (ls = [] ∧ l = l0) ∨ ∃ done cur, ls = done ++ [cur] ∧ done ++ cutFrom cur l = cutL l0
theorem CutOk.zero {l0 l : List UInt8} {done : List (List UInt8)} {cur : List UInt8} (h : CutOk l0 l (done ++ [cur])) (hl : l ≠ []) (hz : ofL ((Lib.decodeL l).1 : Int) = 0) : CutOk l0 (l.drop (Lib.decodeL l).2) (done ++ [cur ++ l.take (Lib.decodeL l).2]) := by
 rcases h with ⟨h, _⟩ | ⟨d, c, h1, h2⟩
 ·simp at h
 ·obtain ⟨rfl, h3⟩ := List.append_inj' h1 rfl
  obtain rfl : cur = c := by simpa using h3
  exact .inr ⟨done, _, rfl, by rw [← cutFrom_zero _ _ hl hz]; exact h2⟩
theorem CutOk.new {l0 l : List UInt8} {ls : List (List UInt8)} (h : CutOk l0 l ls) (hl : l ≠ []) (hz : ofL ((Lib.decodeL l).1 : Int) ≠ 0 ∨ ls = []) : CutOk l0 (l.drop (Lib.decodeL l).2) (ls ++ [l.take (Lib.decodeL l).2]) := by
 refine .inr ⟨ls, _, rfl, ?_⟩
 rcases h with ⟨rfl, rfl⟩ | ⟨d, c, rfl, h2⟩
 ·rw [List.nil_append, ← cutL_from _ hl]
 ·have hz' : ofL ((Lib.decodeL l).1 : Int) ≠ 0 := by
   rcases hz with hz | hz
   ·exact hz
   ·simp at hz
  rw [cutFrom_new _ _ hl hz'] at h2
  rw [← h2]; simp
theorem CutOk.done {l0 : List UInt8} {ls : List (List UInt8)} (h : CutOk l0 [] ls) : ls = cutL l0 := by
 rcases h with ⟨rfl, rfl⟩ | ⟨d, c, rfl, h2⟩
 ·rfl
 ·rw [cutFrom_nil] at h2; exact h2
theorem cutFrom_flatten (cur l : List UInt8) : (cutFrom cur l).flatten = cur ++ l := by
 unfold cutFrom
 rw [List.flatten_cons, cutL_flatten, List.append_assoc, List.take_append_drop]
theorem CutOk.len {l0 l : List UInt8} {done : List (List UInt8)} {cur : List UInt8} (h : CutOk l0 l (done ++ [cur])) : cur.length + l.length ≤ l0.length := by
 rcases h with ⟨h, _⟩ | ⟨d, c, h1, h2⟩
 ·simp at h
 ·obtain ⟨rfl, h3⟩ := List.append_inj' h1 rfl
  obtain rfl : cur = c := by simpa using h3
  have := congrArg (fun x => x.flatten.length) h2
  simp only [List.flatten_append, cutFrom_flatten, cutL_flatten, List.length_append] at this
  omega
set_option maxRecDepth 100000 in
set_option maxHeartbeats 4000000 in
theorem rcut_calls (l0 : List UInt8) (w : World) (hl0 : l0.length ≤ 1099511627776) :
  Calls Tryz.prog 102 #[.string (bs l0)] w fun e w' => ∃ v, e = .returned v ∧ w'.ownsRow w.heap.size 9 1 v (cutL l0).length (cellsS ((cutL l0).map bs)) ∧ Below w.heap.size w w' := by
 obtain ⟨i0, hi, hz0, hz1, hz2⟩ := info_parts infoS
 go_enter Tryz.func102, Tryz.ntmps102
 go_wp2_with fail
 go_loopw [0, 3] (fun v0 v3 wr => ∃ (l : List UInt8) (ls : List (List UInt8)), v0 = .string (bs l) ∧ wr.ownsRow w.heap.size 9 1 v3 ls.length (cellsS (ls.map bs)) ∧ Below w.heap.size w wr ∧ ls.length + l.length ≤ l0.length ∧ Hid (CutOk l0 l ls)) (fun v0 _ _ => strLen v0)
 case atStart => exact ⟨l0, [], rfl, World.ownsRow_nil _ _ _ _, Below.refl _ _, by simp, hid (.inl ⟨rfl, rfl⟩)⟩
 case round =>
  obtain ⟨l, ls, rfl, hown, hbel, hlen, hok⟩ := hrel
  have hsz := bs_size l
  by_cases hl : l = []
  ·subst hl
   have He := hid hok.out.done
   have Hown := hid hown
   clear hown hok
   go_wp2
   go_ret
   rw [← He.out]
   exact ⟨_, rfl, Hown.out, hbel⟩
  ·have hlp : 0 < l.length := List.length_pos_iff.2 hl
   have hwd := Lib.decodeL_width l
   have hle := Lib.decodeL_le l hl
   have hnx : nextL l = Lib.decodeL l := by simp [nextL, hl]
   have hs6 := Lib.run_convert_string_bytes (P := Tryz.prog) wr 9 81 5 (bs l) Tryz.underlying9 Tryz.underlying81 Tryz.underlying5
   have kw := below_bytes wr 5 (bs l)
   have hcon := rnext_calls (some ⟨wr.heap.size, 0, none⟩) (grownCap wr l.length 0 5) l _ (byt_bytes wr l) (by unfold maxLen; omega)
   unfold ToldNext at hcon
   rw [hnx] at hcon
   have Hcon := hid hcon
   have hof := hid (fun W => rof_calls ((Lib.decodeL l).1 : Int) W)
   have hpos : decide ((0 : Int) < (l.length : Int)) = true := decide_eq_true (by omega)
   obtain ⟨A, c, rfl⟩ := own_form hown
   have Hown := hid hown
   clear hown hcon hnx
   go_wp2_with fail
   refine Hcon.out.mono ?_
   rintro e w1 ⟨rfl, hb1⟩
   have k1 : Below wr.heap.size wr w1 := kw.trans (hb1.mono kw.size)
   have hb : Below w.heap.size w w1 := hbel.trans (k1.mono hbel.size)
   have hown1 := own_below Hown.out k1
   clear hb1 hs6 Hcon
   have hex := bs_take l (Lib.decodeL l).2
   have hdx := bs_drop l (Lib.decodeL l).2
   have hw1 := hb.size
   by_cases hz : ofL ((Lib.decodeL l).1 : Int) = 0
   ·have hof' := hid (hof.out w1)
    rw [hz] at hof'
    by_cases hls : ls = []
    ·subst hls
     have hok' := hid (hok.out.new hl (.inr rfl))
     have Hown1 := hid hown1
     clear hok hof hz hown1
     go_wp2_with fail
     refine hof'.out.mono ?_
     rintro e w2 ⟨rfl, rfl⟩
     go_wp2_with (at_builtin; refine wpList_append_own _ rfl _ _ 30 rfl w.heap.size 9 i0 (.string ⟨#[]⟩) 1 16 Tryz.underlying30 hi hz0 hz1 hz2 rfl (by decide) _ _ _ rfl (Hown1.out.alloc _) ⟨w1.heap.size, 0, none⟩ 1 1 [.string (bs (l.take (Lib.decodeL l).2))] rfl rfl ?c1 ?c2 ?c3 ?c4 ?c5 ?_)
     case c1 => exact cell_one_new _ _ _
     case c2 => simp [Value.oneCell']
     case c3 => unfold maxLen; omega
     case c4 => omega
     case c5 => simp; omega
     intro v' w3 hown3 hgrow _
     have hb3 : Below w.heap.size w w3 := (hb.alloc hw1 _).grown hgrow (by simp; omega) (fun k hk => (Hown1.out.lt k hk).1)
     have Hown3 := hid hown3
     clear hown3 hgrow
     go_wp2
     go_roundw
     case rel => exact ⟨l.drop (Lib.decodeL l).2, [] ++ [l.take (Lib.decodeL l).2], rfl, by simpa [cellsS] using Hown3.out, hb3, by simp; omega, hok'.out⟩
     case measure => simp only [strLen, bs_size, List.length_drop]; omega
    ·obtain ⟨done, cur, rfl⟩ : ∃ done cur, ls = done ++ [cur] := ⟨ls.dropLast, ls.getLast hls, (List.dropLast_concat_getLast hls).symm⟩
     have hok' := hid (hok.out.zero hl hz)
     have hl1 : (done ++ [cur]).length = done.length + 1 := by simp
     rw [hl1] at hown1 hlen ⊢
     obtain ⟨g, cap, hv⟩ := ownsRow_succ hown1
     injection hv with hv1 hv2 hv3
     subst hv1; subst hv3
     obtain ⟨hce, hfr⟩ := own_cell hown1 (i := done.length) (u := .string (bs cur)) (by simp [cellsS])
     have hset := hid (own_set hown1 done.length (.string (bs (cur ++ l.take (Lib.decodeL l).2))))
     have hgl : w.heap.size ≤ g := (hown1.lt g rfl).1
     have hcl := hok.out.len
     have hap := add_bs Tryz.prog cur (l.take (Lib.decodeL l).2) (by rw [List.length_take]; omega)
     clear hok hof hz hown1 hls hl1 Hown
     go_wp2_with fail
     refine hof'.out.mono ?_
     rintro e w2 ⟨rfl, rfl⟩
     go_wp2_with fail
     go_region
     go_wp2
     go_roundw
     case rel =>
      refine ⟨l.drop (Lib.decodeL l).2, done ++ [cur ++ l.take (Lib.decodeL l).2], rfl, ?_, (hb.setCell (p := ⟨g, done.length, none⟩) hgl _).drew, by simp; omega, hok'.out⟩
      have h := hset.out
      have e : (cellsS ((done ++ [cur]).map bs)).set done.length (.string (bs (cur ++ l.take (Lib.decodeL l).2))) = cellsS ((done ++ [cur ++ l.take (Lib.decodeL l).2]).map bs) := by simp [cellsS]
      rw [e] at h
      have e2 : (done ++ [cur ++ l.take (Lib.decodeL l).2]).length = done.length + 1 := by simp
      rw [e2]
      exact h
     case measure => simp only [strLen, bs_size, List.length_drop]; omega
   ·have hok' := hid (hok.out.new hl (.inl hz))
    have hof' := hid (hof.out w1)
    have hne : (((ofL ((Lib.decodeL l).1 : Int) : Nat) : Int) == 0) = false := beq_eq_false_iff_ne.2 (by omega)
    have Hown1 := hid hown1
    clear hok hof hz hown1
    generalize ofL ((Lib.decodeL l).1 : Int) = y at *
    go_wp2_with fail
    refine hof'.out.mono ?_
    rintro e w2 ⟨rfl, rfl⟩
    go_wp2_with (at_builtin; refine wpList_append_own _ rfl _ _ 30 rfl w.heap.size 9 i0 (.string ⟨#[]⟩) 1 16 Tryz.underlying30 hi hz0 hz1 hz2 rfl (by decide) _ _ _ rfl (Hown1.out.alloc _) ⟨w1.heap.size, 0, none⟩ 1 1 [.string (bs (l.take (Lib.decodeL l).2))] rfl rfl ?c1 ?c2 ?c3 ?c4 ?c5 ?_)
    case c1 => exact cell_one_new _ _ _
    case c2 => simp [Value.oneCell']
    case c3 => unfold maxLen; omega
    case c4 => omega
    case c5 => simp; omega
    intro v' w3 hown3 hgrow _
    have hb3 : Below w.heap.size w w3 := (hb.alloc hw1 _).grown hgrow (by simp; omega) (fun k hk => (Hown1.out.lt k hk).1)
    have Hown3 := hid hown3
    clear hown3 hgrow
    go_wp2
    go_roundw
    case rel => exact ⟨l.drop (Lib.decodeL l).2, ls ++ [l.take (Lib.decodeL l).2], rfl, by simpa [cellsS] using Hown3.out, hb3, by simp; omega, hok'.out⟩
    case measure => simp only [strLen, bs_size, List.length_drop]; omega
end
end Go.Proofs.YtoaponaljkhlfaaGreatDoor
