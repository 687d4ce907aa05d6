/-
  What package frame stands on: a copy of bytes, room for bytes, rows of bytes put together (layer 11).
-/
import Derived.Test.YtjfikdldabmciaaDoorRFrS
import Derived.Test.YtjfikdldabmciaaDoorSumBR
import Derived.Test.YtjfikdldabmciaaDoorApMake
import Derived.Lib.SliceRun
namespace Go.Proofs.YtjfikdldabmciaaDoor
open Go Go.RowKit
set_option maxRecDepth 100000

theorem packsF_ge (l : List (List UInt8)) : 6 * l.length ≤ (packsF l).length := by
  induction l with
  | nil => simp
  | cons p l ih =>
    have e : (packsF (p :: l)).length = 6 + p.length + (packsF l).length := by unfold packsF; rw [List.map_cons, List.flatten_cons, List.length_append, packF_length]
    rw [e, List.length_cons]
    omega
theorem RdBs.at11 {w : World} {A : Option Addr} {ls : List (List UInt8)} (h : RdBs w A ls) {k : Nat} (hk : k < ls.length) : ∃ g o Ai ci, A = some ⟨g, o, none⟩ ∧ w.cell? ⟨g, o + k, none⟩ = some (.slice Ai (ls.getD k []).length ci) ∧ Byt w Ai (ls.getD k []) ∧ (Ai = none → ci = 0) := by
  obtain ⟨g, o, e, _, hc⟩ := h (by omega)
  obtain ⟨Ai, ci, h1, h2, h3⟩ := hc k ls[k] (List.getElem?_eq_getElem hk)
  have hd : ls.getD k [] = ls[k] := by simp [List.getD, hk]
  rw [hd]
  exact ⟨g, o, Ai, ci, e, h1, h2, h3⟩
theorem nil_of {w : World} {l : List UInt8} (h : Byt w none l) : l = [] := by
  by_cases hn : 0 < l.length
  · obtain ⟨_, _, e, _⟩ := h.at_ hn
    cases e
  · exact List.eq_nil_of_length_eq_zero (by omega)
theorem own_head11 {w : World} {base : Nat} {e : TypeId} {A : Option Addr} {n c : Nat} {xs : List Value} (h : w.ownsRow base e 1 (.slice A n c) n xs) : w.ownsRow base e 1 (.slice A 0 c) 0 [] := by
  refine ⟨rfl, ?_⟩
  rcases h.2 with ⟨hv, h0⟩ | ⟨g, cap, cur, hv, hb, hh, hnc, hcm, hcs, htk⟩
  · injection hv with h1 h2 h3
    subst h1; subst h3
    exact .inl ⟨rfl, rfl⟩
  · injection hv with h1 h2 h3
    subst h1; subst h3
    exact .inr ⟨g, _, cur, rfl, hb, hh, Nat.zero_le _, hcm, hcs, by simp⟩
set_option maxHeartbeats 4000000 in
theorem clone11_calls (A : Option Addr) (c : Nat) (l : List UInt8) (w : World) (hl : Byt w A l) (hA : A = none → c = 0) (hb : l.length ≤ 1000000) :
    Calls Tryd.prog 23 #[.slice A l.length c] w fun e w' => ∃ A' c', e = .returned (.slice A' l.length c') ∧ w'.ownsRow w.heap.size 5 1 (.slice A' l.length c') l.length (Lib.byteCells l) ∧ Below w.heap.size w w' := by
  obtain ⟨i0, hi0, hz0, hz1, hz2⟩ := info8_11
  have q : ∀ (w : World) (a : Option Addr) (n c n' c' : Nat), (binOp .eql 22 (.slice a n c) (.slice none n' c')).run Tryd.prog w = .ok (.bool a.isNone) w := fun w a n c n' c' => Lib.run_eql_slice_nil w _ _ a n c n' c' Tryd.underlying22
  cases A with
  | none =>
    obtain rfl := hA rfl
    obtain rfl := nil_of hl
    clear hl hA hb
    go_enter Tryd.func23, Tryd.ntmps23
    go_wp2_with fail
    go_ret
    exact ⟨none, 0, rfl, World.ownsRow_nil _ _ _ _, Below.refl _ _⟩
  | some a =>
    have HL := Lib.hid hl
    have HN := Lib.hid hb
    clear hl hA hb
    go_enter Tryd.func23, Tryd.ntmps23
    go_wp2_with (at_builtin; refine wpList_append_byt _ rfl _ _ 22 rfl w.heap.size i0 Tryd.underlying22 hi0 hz0 hz1 hz2 (.slice (some ⟨w.heap.size, 0, none⟩) 0 0) [] rfl ?own (some a) c l rfl (fun h => by cases h) ?byt (by have := HN.out; simp; omega) ?base ?_)
    case own => exact own_empty w w.heap.size (Nat.le_refl _)
    case byt => exact HL.out.alloc _
    case base => simp
    intro v1 w1 hown1 hgr1 _
    have hb1 : Below w.heap.size w w1 := ((Below.refl _ w).alloc (Nat.le_refl _) _).grown hgr1 (by simp) (fun k hk => Nat.le_of_eq (Option.some.inj hk))
    obtain ⟨A1, c1, rfl⟩ := own_form hown1
    have HO1 := Lib.hid hown1
    have HB1 := Lib.hid hb1
    clear hown1 hgr1 hb1
    go_wp2_with fail
    go_ret
    exact ⟨A1, c1, rfl, HO1.out, HB1.out⟩
set_option maxHeartbeats 4000000 in
/-- slices.Grow of nothing: a row with room. -/
theorem grow11_calls (n : Nat) (w : World) (hb : n ≤ 1000000) :
    Calls Tryd.prog 28 #[.slice none 0 0, .int .i64 (n : Int)] w fun e w' => ∃ A' c', e = .returned (.slice A' 0 c') ∧ w'.ownsRow w.heap.size 5 1 (.slice A' 0 c') 0 [] ∧ Below w.heap.size w w' := by
  obtain ⟨i0, hi0, hz0, hz1, hz2⟩ := info8_11
  obtain ⟨v2, w2, r2, o2, g2⟩ := run_append_make (P := Tryd.prog) w w.heap.size 22 3 22 5 i0 (.int .u8 0) 1 Tryd.underlying22 Tryd.underlying3 hi0 hz0 hz1 hz2 rfl rfl (.slice none 0 0) 0 [] (World.ownsRow_nil _ _ _ _) n (by unfold maxLen; omega) (by omega) (Nat.le_refl _)
  obtain ⟨A2, c2, rfl⟩ := own_form o2
  have HR := Lib.hid r2
  have HO : Hid (w2.ownsRow w.heap.size 5 1 (.slice A2 0 c2) 0 []) := Lib.hid (own_head11 (n := n) (by have h := o2; rw [Nat.zero_add] at h; exact h))
  have HB : Hid (Below w.heap.size w w2) := Lib.hid ((Below.refl _ w).grown g2 (Nat.le_refl _) (fun k hk => by cases hk))
  have hnn : ¬ ((n : Int) < 0) := by omega
  clear r2 o2 g2
  by_cases h0 : 0 < n
  · have d0 : decide (0 < (n : Int)) = true := decide_eq_true (by omega)
    go_enter Tryd.func28, Tryd.ntmps28
    go_wp2_with (at_builtin; refine Lib.wpList_append_run _ rfl _ _ _ _ rfl _ _ rfl rfl _ _ HR.out ?_)
    go_ret
    exact ⟨A2, c2, by simp, HO.out, HB.out⟩
  · obtain rfl : n = 0 := by omega
    clear h0
    go_enter Tryd.func28, Tryd.ntmps28
    go_wp2_with fail
    go_ret
    exact ⟨none, 0, rfl, World.ownsRow_nil _ _ _ _, Below.refl _ _⟩
set_option maxHeartbeats 2000000 in
theorem sumof11_calls (A B : Option Addr) (c d : Nat) (x y : List UInt8) (w : World) (hx : Byt w A x) (hy : Byt w B y) (hlx : x.length ≤ 100000) (hly : y.length ≤ 100000) (ht : LaysR w) :
    Calls Tryd.prog 18 #[.slice A x.length c, .slice B y.length d] w fun e w' => e = .returned (.int .u32 ((crcL (x ++ y)).toNat : Int)) ∧ Below w.heap.size w w' := by
  have H1 := Lib.hid (sof_callsR A c x w hx hlx ht)
  have H2 := Lib.hid (fun W (hb : Below w.heap.size w W) => sadd_callsR (crcL x) B d y W (hy.below hb) hly (ht.on hb))
  rw [show addL (crcL x) y = crcL (x ++ y) from addL_crc x y] at H2
  clear hx hy ht
  go_enter Tryd.func18, Tryd.ntmps18
  go_wp2_with fail
  refine H1.out.mono ?_
  rintro e w1 ⟨rfl, hb1⟩
  have H3 := Lib.hid (H2.out w1 hb1)
  have HB1 := Lib.hid hb1
  clear hb1 H1 H2
  go_wp2_with fail
  refine H3.out.mono ?_
  rintro e w2 ⟨rfl, hb2⟩
  have HB2 := Lib.hid (HB1.out.trans (hb2.mono HB1.out.size))
  clear hb2 H3
  go_wp2_with fail
  go_ret
  exact ⟨rfl, HB2.out⟩
end Go.Proofs.YtjfikdldabmciaaDoor
