/-
  Layer 7 and what it stands on, part 13 (AllS).
-/
import Derived.Test.YtoaponaljkhlfaaGreatDoorPz11
import Derived.Test.YtoaponaljkhlfaaGreatDoorPz12
import Derived.RangeFuncNested
import Derived.RangeFuncBound
import Derived.RangeFuncCalls
import Derived.RangeFuncLeaves
import Derived.Shelf.Abstract
import Derived.Shelf.RegionOpen
import Derived.OwnWalkIn
import Derived.TacticsInMore
import Derived.LoopNIn
import Derived.LoopIn
import Derived.WalkSpells
namespace Go.Proofs.YtoaponaljkhlfaaGreatDoor
section
open Go Go.RowKit Go.Shelf
open Go.Lib (hid)
attribute [local go_sem] Oper.semAt_some
set_option maxRecDepth 100000
set_option maxHeartbeats 1000000 in
theorem all_inS (n b : Nat) (w : World) :
  CallsIn Fence.wide n Tryz.prog 36 #[.pointer (some ⟨b, 0, none⟩)] w fun e w' => e = .returned (.func (.func 89) #[] #[.pointer (some ⟨w.heap.size, 0, none⟩)]) ∧ w' = w.alloc (.cells #[.pointer (some ⟨b, 0, none⟩)] 57) := by
 refine callsIn_of_wp Tryz.func36 rfl trivial ?_ rfl
 simp only [Tryz.ntmps36, List.size_toArray, List.length_cons, List.length_nil, Nat.reduceAdd, Nat.reduceSub, Array.replicate_succ, Array.replicate_zero, List.push_toArray, List.append_toArray, List.nil_append, List.cons_append]
 gi_wp2
 go_ret
 exact ⟨rfl, rfl⟩
set_option maxHeartbeats 4000000 in
theorem all_stopsS (n : Nat) (hn : 1 ≤ n) (Bn n₀ : Nat) (w : World) (R : Nat → Prop) (b : Nat) (s : RS ByteArray) (h : RingS w R b s) (hR : ∀ k, R k → k < n₀) (hB : Boxed w Bn 57 (.pointer (some ⟨b, 0, none⟩))) :
  SeqStopsK Fence.wide n Tryz.prog 89 #[.pointer (some ⟨Bn, 0, none⟩)] (fun x : OfL s.l => #[Value.int .i64 (x.1.1 : Int), Value.string x.1.2]) (Below n₀) (fun ys => valsL ys = told s.l) (fun pre => valsL pre <+: told s.l) s.l.length w := fun l J Jx W hW hJ _ hY h0 => by
 have hB' : Boxed W Bn 57 (.pointer (some ⟨b, 0, none⟩)) := (hW.block Bn hB.lt).trans hB
 have cB := hB'.cell
 obtain ⟨A, c, hb, hown, hin, hrd, hlc, hcm, hA⟩ := (h.below hW).open_
 have c1 := Bx3.c1 hb
 have hln := h.ok.len
 have hle := h.ok.le
 have HY := hid hY
 have Hrd := hid hrd
 have Hn0 : Hid (∀ g, (Value.slice A s.l.length c).ownBlock = some g → g < n₀) := hid fun g hg => hR g (hin g hg)
 clear hB' hb hown hin hY hrd h hB hA hR
 refine callsIn_of_wp Tryz.func89 rfl trivial ?_ rfl
 simp only [Tryz.ntmps89, List.size_toArray, List.length_cons, List.length_nil, Nat.reduceAdd, Nat.reduceSub, Array.replicate_succ, Array.replicate_zero, List.push_toArray, List.append_toArray, List.nil_append, List.cons_append]
 gi_wp2
 gi_loopw [10] (fun v10 wr => ∃ (k : Nat) (pre : List (OfL s.l)), k ≤ s.l.length ∧ v10 = .int .i64 (k : Int) ∧ Hid (valsL pre = (told s.l).take k) ∧ J pre wr ∧ Below n₀ W wr) (fun v10 _ => s.l.length - (intOf v10).toNat)
 case atStart => exact ⟨0, [], Nat.zero_le _, rfl, hid rfl, h0, Below.refl _ _⟩
 case round =>
  obtain ⟨k, pre, hk, rfl, hpre, hj, hbel⟩ := hrel
  have hpl : pre.length = k := by rw [← valsL_length, hpre.out, List.length_take, told_length]; omega
  by_cases hlt : k < s.l.length
  ·obtain ⟨g, o, rfl, hg, hc⟩ := Hrd.out.at_ (by omega)
   have hgn : g < n₀ := Hn0.out g rfl
   obtain ⟨x, hx⟩ : ∃ x, s.l[k]? = some x := ⟨_, List.getElem?_eq_getElem hlt⟩
   have ck : wr.cell? ⟨g, o + k, none⟩ = some (Value.string x) := (hbel.cell (p := ⟨g, o + k, none⟩) hgn).trans (hc k x hx)
   obtain ⟨fn, tmps, assign, body, hy, hYR⟩ := HY.out pre ⟨(k, x), hx⟩ wr hj (by omega)
   have Hnew : Hid (valsL (pre ++ [⟨(k, x), hx⟩]) = (told s.l).take (k + 1)) := hid (by rw [valsL_snoc, hpre.out, told_take s.l k x hx])
   have HR := hid hYR
   dsimp only at hy
   clear hpl hc hYR hpre
   have hkn : (k : Int) < (s.l.length : Int) := by omega
   gi_wp2
   refine HR.out.mono ?_
   rintro e W3 (⟨rfl, hJ3, hk3⟩ | ⟨rfl, hJx3⟩)
   ·gi_wp2
    go_roundw
    case rel => exact ⟨k + 1, _, by omega, by go_num, Hnew, hJ3, hbel.trans hk3⟩
    case measure => simp [intOf]; omega
   ·gi_wp2
    refine bodyPost_ret (results_none rfl _ _ _) rfl ?_
    exact ⟨⟨_, rfl⟩, .inr ⟨_, by rw [Hnew.out]; exact List.take_prefix _ _, hJx3⟩⟩
  ·obtain rfl : k = s.l.length := by omega
   gi_wp2
   go_end0
   exact ⟨⟨_, rfl⟩, .inl ⟨pre, by rw [hpre.out, ← told_length, List.take_length], hj⟩⟩
end
end Go.Proofs.YtoaponaljkhlfaaGreatDoor
