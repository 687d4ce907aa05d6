/-
  The document's Of and Shift (layer 9).
-/
import Derived.Test.YtjfikdldabmciaaDoorRNum
import Derived.Test.YtjfikdldabmciaaDoorRRest
namespace Go.Proofs.YtjfikdldabmciaaDoor
open Go Go.RowKit
set_option maxRecDepth 100000

theorem wpList_append_gm {P : Program} {w : World} {ops : Array Oper} {rest : List Oper} {o : Oper} {a : Act} {Q : Exit → Act → World → Prop} (hw : Region.wanted o (yielded ops a.tmps) = true) (s x : Operand) (t u : TypeId)
    (ho : o.op = .call { callee := .builtin .append, args := #[s, x], argTypes := #[t, u] }) (v v2 : Value) (hs : a.eval s = v) (hx : a.eval x = v2) {v' : Value} {w' : World}
    (hr : (Builtin.append_ #[t, u] o.type #[v, v2]).run P w = .ok v' w') (h : wpList P ops Q rest (a.put o.dst v') w') : wpList P ops Q (o :: rest) a w := by
  refine wpList_step fun K hK => ?_
  rw [if_pos hw]
  unfold Oper.wp execOp
  simp only [ho, resolve, invoke, builtin, Sem.run_bind, Sem.run_pure, Result.andThen_ok, List.map_toArray, List.map_cons, List.map_nil, hs, hx, hr]
  exact hK _ _ h
def flipP (l : List Bool) (k : Nat) : List Bool := (l.take k).map (! ·) ++ l.drop k
theorem flipP_length (l : List Bool) (k : Nat) : (flipP l k).length = l.length := by unfold flipP; simp; omega
theorem flipP_s (l : List Bool) {k : Nat} (hk : k < l.length) : flipP l (k + 1) = (flipP l k).set k (! (flipP l k).getD k false) := by
  have hlen : ((l.take k).map (! ·)).length = k := by rw [List.length_map, List.length_take]; omega
  have hg : (flipP l k).getD k false = l[k] := by
    unfold flipP
    rw [List.getD_eq_getElem?_getD, List.getElem?_append_right (by omega), hlen, Nat.sub_self, List.getElem?_drop, Nat.add_zero, List.getElem?_eq_getElem hk]
    rfl
  rw [hg]
  unfold flipP
  rw [List.set_append_right _ _ (by omega), hlen, Nat.sub_self, List.drop_eq_getElem_cons hk, List.set_cons_zero, List.take_succ_eq_append_getElem hk, List.map_append, List.append_assoc]
  rfl
theorem flipP_all (l : List Bool) (h : l.length = 32) : flipP l 32 = l.map (! ·) := by
  unfold flipP
  rw [List.take_of_length_le (by omega), List.drop_of_length_le (by omega), List.append_nil]
theorem row_cell {w : World} {R : Nat → Prop} {g o : Nat} {l : List Bool} (h : RowW Value.bool w R (some ⟨g, o, none⟩) l) {k : Nat} (hk : k < l.length) : w.cell? ⟨g, o + k, none⟩ = some (.bool (l.getD k false)) ∧ w.frozen? ⟨g, o + k, none⟩ = false := by
  obtain ⟨g', o', e, _, _, hc⟩ := h (by omega)
  cases e
  exact hc k (l.getD k false) (by rw [List.getD_eq_getElem?_getD, List.getElem?_eq_getElem hk]; rfl)
/-- An owned row has an address. -/
theorem own_row {w : World} {base : Nat} {v : Value} {l : List Bool} (h : OwnB w base v l) (hn : 0 < l.length) : ∃ g c, v = .slice (some ⟨g, 0, none⟩) l.length c ∧ base ≤ g ∧ g < w.heap.size ∧ RowW Value.bool w (fun k => k = g) (some ⟨g, 0, none⟩) l := by
  have h' : w.ownsRow base 4 1 v l.length (l.map Value.bool) := h
  rcases h'.2 with ⟨hv, h0⟩ | ⟨g, cap, cur, hv, hb, hh, hnc, _⟩
  · omega
  · subst hv
    exact ⟨g, cap, rfl, hb, (Array.getElem?_eq_some_iff.1 hh).1, rowW_of_own h' (fun k hk => by cases hk; rfl)⟩
set_option maxHeartbeats 4000000 in
theorem rof_calls (A : Option Addr) (c : Nat) (b : List UInt8) (w : World) (hb : Byt w A b) (hl : b.length ≤ 100000) :
    Calls Tryd.prog 21 #[.slice A b.length c] w fun e w' => e = .returned (.int .u32 ((crcL b).toNat : Int)) ∧ Below w.heap.size w w' := by
  obtain ⟨i1, hi1, hy0, hy1, hy2⟩ := info_parts infoBo
  have HB := Lib.hid hb
  clear hb
  go_enter Tryd.func21, Tryd.ntmps21
  go_wp2_with fail
  refine (rbits_calls A c b w HB.out hl).mono ?_
  rintro _ wb ⟨v, rfl, hown, hbel⟩
  obtain ⟨v2, w2, hrun, hown2, hg2⟩ := run_append_make (P := Tryd.prog) wb w.heap.size 54 3 54 4 i1 (.bool false) 1 Tryd.underlying54 Tryd.underlying3 hi1 hy0 hy1 hy2 rfl rfl v (bitsL b).length ((bitsL b).map Value.bool) hown 32 (by rw [bitsL_length]; unfold maxLen; omega) (by rw [bitsL_length]; omega) hbel.size
  have Hr := Lib.hid hrun
  have HB2 := Lib.hid (below_own hbel hg2 hown (Nat.le_refl _) hbel.size)
  have HOwn : Hid (OwnB w2 w.heap.size v2 (bitsL b ++ List.replicate 32 false)) := Lib.hid (by
    unfold OwnB
    rw [List.length_append, List.length_replicate, List.map_append, List.map_replicate]
    exact hown2)
  clear hrun hown hown2 hg2
  have HRef := Lib.hid (ref_of b)
  have hL32 : 32 ≤ (bitsL b ++ List.replicate 32 false).length := by simp
  have HL6 : Hid ((bitsL b ++ List.replicate 32 false).length ≤ 1000000) := Lib.hid (by rw [List.length_append, bitsL_length, List.length_replicate]; omega)
  generalize bitsL b ++ List.replicate 32 false = L at *
  obtain ⟨g5, c5, hv5, hg5, hlt5, hW5⟩ := own_row HOwn.out (by omega)
  subst hv5
  have HW5 := Lib.hid hW5
  have hbs := hbel.size
  clear hW5 HOwn hbel
  go_wp2_with (at_builtin; refine wpList_append_gm (o := ⟨some 8, _, _, _, _, _⟩) (by kernel_rfl) (.tmp 7) _ 54 3 rfl _ _ rfl rfl Hr.out ?_)
  clear Hr
  go_wp2_with fail
  go_loopw [4] (fun v4 wr => ∃ k : Nat, k ≤ 32 ∧ v4 = .int .i64 (k : Int) ∧ Hid (RowW Value.bool wr (fun i => i = g5) (some ⟨g5, 0, none⟩) (flipP L k)) ∧ Hid (Only (fun i => i = g5) w2 wr)) (fun v4 _ => 32 - (intOf v4).toNat)
  case atStart => exact ⟨0, by omega, rfl, by simpa [flipP] using HW5, Lib.hid (Only.refl _ _)⟩
  case round =>
    obtain ⟨k, hk, rfl, hW, hO⟩ := hrel
    have hgw : g5 < wr.heap.size := Nat.lt_of_lt_of_le hlt5 hO.out.size
    by_cases hk32 : k < 32
    · have hkl : (k : Int) < 32 := by omega
      have HF := Lib.hid (flipP_s L (k := k) (by omega))
      have HFl := Lib.hid (flipP_length L k)
      have hkM : k < (flipP L k).length := by rw [HFl.out]; omega
      obtain ⟨c1, f1⟩ := row_cell hW.out hkM
      have hX2 : Hid (RowW Value.bool (wr.setCell ⟨g5, 0 + k, none⟩ (.bool (! (flipP L k).getD k false))) (fun i => i = g5) (some ⟨g5, 0, none⟩) (flipP L (k + 1))) := Lib.hid (by
        rw [HF.out]
        exact hW.out.set k hkM (! (flipP L k).getD k false))
      have hO3 := Lib.hid (hO.out.set (p := ⟨g5, 0 + k, none⟩) (.inl rfl) (.bool (! (flipP L k).getD k false)))
      clear hW hO HF HFl hkM
      generalize (flipP L k).getD k false = q at *
      rw [Nat.zero_add] at c1 f1 hX2 hO3
      go_wp2_with fail
      go_roundw
      case rel => exact ⟨k + 1, by omega, by go_num, hX2, hO3⟩
      case measure => simp [intOf]; omega
    · obtain rfl : k = 32 := by omega
      have HB3 := Lib.hid (HB2.out.trans (hO.out.below (B := w.heap.size) HB2.out.size (fun k hk => by omega)))
      have hfl : L.length = (flipP L 32).length := (flipP_length L 32).symm
      have hfr : flip32 L = flipP L 32 := rfl
      rw [hfr] at HRef
      go_wp2_with fail
      rw [hfl]
      refine (rrest_calls (some ⟨g5, 0, none⟩) c5 (flipP L 32) wr (by omega) (by rw [← hfl]; exact HL6.out) hW.out.rd).mono ?_
      rintro _ w6 ⟨g6, c6, rfl, hg6, hW6, hb6⟩
      have hml : (restL (flipP L 32)).length = 32 := by rw [restL_is _ (by omega), rowV_length]
      have hlt6 : g6 < w6.heap.size := by obtain ⟨g', o', e, _, hg, _⟩ := hW6 (by omega); cases e; exact hg
      have HW6 := Lib.hid hW6
      have HB6 := Lib.hid (HB3.out.trans (hb6.mono HB3.out.size))
      have hwr : w.heap.size ≤ g6 := Nat.le_trans HB3.out.size hg6
      clear hW6 hb6 hW hO HL6 HB HB2 HW5 HB3
      generalize restL (flipP L 32) = M at *
      generalize (flipP L 32).length - 32 = o6 at *
      generalize (flipP L 32).length = n6 at *
      go_wp2_with fail
      go_loopw [5] (fun v5 wr => ∃ k : Nat, k ≤ 32 ∧ v5 = .int .i64 (k : Int) ∧ Hid (RowW Value.bool wr (fun i => i = g6) (some ⟨g6, o6, none⟩) (flipP M k)) ∧ Hid (Only (fun i => i = g6) w6 wr)) (fun v5 _ => 32 - (intOf v5).toNat)
      case atStart => exact ⟨0, by omega, rfl, by simpa [flipP] using HW6, Lib.hid (Only.refl _ _)⟩
      case round =>
        obtain ⟨k, hk, rfl, hW, hO⟩ := hrel
        have hgw : g6 < wr.heap.size := Nat.lt_of_lt_of_le hlt6 hO.out.size
        by_cases hk32 : k < 32
        · have hkl : (k : Int) < 32 := by omega
          have HF := Lib.hid (flipP_s M (k := k) (by omega))
          have HFl := Lib.hid (flipP_length M k)
          have hkM : k < (flipP M k).length := by rw [HFl.out]; omega
          obtain ⟨c1, f1⟩ := row_cell hW.out hkM
          have hX2 : Hid (RowW Value.bool (wr.setCell ⟨g6, o6 + k, none⟩ (.bool (! (flipP M k).getD k false))) (fun i => i = g6) (some ⟨g6, o6, none⟩) (flipP M (k + 1))) := Lib.hid (by
            rw [HF.out]
            exact hW.out.set k hkM (! (flipP M k).getD k false))
          have hO3 := Lib.hid (hO.out.set (p := ⟨g6, o6 + k, none⟩) (.inl rfl) (.bool (! (flipP M k).getD k false)))
          clear hW hO HF HFl hkM
          generalize (flipP M k).getD k false = q at *
          go_wp2_with fail
          go_roundw
          case rel => exact ⟨k + 1, by omega, by go_num, hX2, hO3⟩
          case measure => simp [intOf]; omega
        · obtain rfl : k = 32 := by omega
          have HB7 := Lib.hid (HB6.out.trans (hO.out.below (B := w.heap.size) HB6.out.size (fun k hk => by omega)))
          rw [flipP_all M hml, HRef.out] at hW
          go_wp2_with fail
          refine (rnumber_calls (some ⟨g6, o6, none⟩) c6 (rowV (crcL b)) wr (rowV_length _) hW.out.rd).mono ?_
          rintro _ _ ⟨rfl, rfl⟩
          rw [numL_rowV]
          go_wp2_with fail
          go_ret
          exact ⟨rfl, HB7.out⟩
end Go.Proofs.YtjfikdldabmciaaDoor
