/-
  Rows of bytes, put together (layer 11).
-/
import Derived.Test.YtjfikdldabmciaaDoorFrLib
namespace Go.Proofs.YtjfikdldabmciaaDoor
open Go Go.RowKit
set_option maxRecDepth 100000

theorem flat_take_succ {ls : List (List UInt8)} {k : Nat} (hk : k < ls.length) : (ls.take (k + 1)).flatten = (ls.take k).flatten ++ ls.getD k [] := by
  have hd : ls.getD k [] = ls[k] := by simp [List.getD, hk]
  rw [hd]
  exact flat_succ (List.getElem?_eq_getElem hk)
theorem flat_take_le (ls : List (List UInt8)) (k : Nat) : (ls.take k).flatten.length ≤ ls.flatten.length := by
  conv => rhs; rw [← List.take_append_drop k ls, List.flatten_append, List.length_append]
  omega
def flatF (ls : List (List UInt8)) (k : Nat) : List UInt8 := (ls.take k).flatten
set_option maxHeartbeats 4000000 in
theorem concat11_calls (A : Option Addr) (c : Nat) (ls : List (List UInt8)) (w : World) (h : RdBs w A ls) (hn : ls.flatten.length ≤ 1000000) (hl : ls.length ≤ 1000) :
    Calls Tryd.prog 20 #[.slice A ls.length c] w fun e w' => ∃ A' c', e = .returned (.slice A' ls.flatten.length c') ∧ w'.ownsRow w.heap.size 5 1 (.slice A' ls.flatten.length c') ls.flatten.length (Lib.byteCells ls.flatten) ∧ Below w.heap.size w w' := by
  obtain ⟨i0, hi0, hz0, hz1, hz2⟩ := info8_11
  have H := Lib.hid h
  have HF : Hid (∀ k, (flatF ls k).length ≤ 1000000) := Lib.hid fun k => by unfold flatF; have := flat_take_le ls k; omega
  have HS : Hid (∀ k, k < ls.length → flatF ls (k + 1) = flatF ls k ++ ls.getD k []) := Lib.hid fun k hk => flat_take_succ hk
  have hall : flatF ls ls.length = ls.flatten := by unfold flatF; rw [List.take_length]
  have h0 : flatF ls 0 = [] := rfl
  rw [← hall]
  have H0 := Lib.hid h0
  clear h hn hall h0
  generalize hff : flatF ls = ff at *
  clear hff
  go_enter Tryd.func20, Tryd.ntmps20
  go_wp2_with fail
  go_loopw [3, 5, 11] (fun v3 v5 v11 wr => ∃ k : Nat, k ≤ ls.length ∧ v11 = .int .i64 (k : Int) ∧ v3 = .int .i64 ((ff k).length : Int) ∧ wr = w) (fun _ _ v11 _ => ls.length - (intOf v11).toNat)
  case atStart => exact ⟨0, Nat.zero_le _, rfl, by rw [H0.out]; rfl, rfl⟩
  case round =>
    obtain ⟨k, hk, rfl, rfl, rfl⟩ := hrel
    by_cases hlt : k < ls.length
    · obtain ⟨g1, o1, Ai, ci, rfl, hcell, hby, hno⟩ := H.out.at11 hlt
      have hkl : (k : Int) < (ls.length : Int) := by omega
      have hs := HS.out k hlt
      have hf1 := HF.out (k + 1)
      rw [hs, List.length_append] at hf1
      have HSk : Hid ((ff (k + 1)).length = (ff k).length + (ls.getD k []).length) := Lib.hid (by rw [hs, List.length_append])
      generalize ls.getD k [] = p at *
      generalize (ff k).length = q at *
      have hw1 : IntKind.i64.wrap ((q : Int) + (p.length : Int)) = (q : Int) + (p.length : Int) := IntWalk.i64_in _ (by omega)
      have hng : decide ((q : Int) + (p.length : Int) < 0) = false := decide_eq_false (by omega)
      clear hs hby hno
      go_wp2_with fail
      go_roundw
      case rel => exact ⟨k + 1, by omega, by go_num, by rw [HSk.out]; go_num, trivial⟩
      case measure => simp [intOf]; omega
    · obtain rfl : k = ls.length := by omega
      obtain ⟨wo, rfl⟩ : ∃ wo, wo = wr := ⟨wr, rfl⟩
      have HG := Lib.hid (grow11_calls (ff ls.length).length wo (HF.out _))
      clear hlt
      go_wp2_with fail
      refine HG.out.mono ?_
      rintro e w1 ⟨A1, c1, rfl, hown1, hb1⟩
      have HB1 := Lib.hid hb1
      have HO1 : Hid (w1.ownsRow wo.heap.size 5 1 (.slice A1 0 c1) (ff 0).length (Lib.byteCells (ff 0))) := Lib.hid (by rw [H0.out]; exact hown1)
      clear hown1 hb1 HG
      go_wp2_with fail
      go_loopw [6, 8, 27] (fun v6 v8 v27 wq => ∃ k : Nat, k ≤ ls.length ∧ v27 = .int .i64 (k : Int) ∧ Hid (wq.ownsRow wo.heap.size 5 1 v6 (ff k).length (Lib.byteCells (ff k))) ∧ Hid (Below wo.heap.size wo wq)) (fun _ _ v27 _ => ls.length - (intOf v27).toNat)
      case atStart => exact ⟨0, Nat.zero_le _, rfl, HO1, HB1⟩
      case round =>
        obtain ⟨k, hk2, rfl, hown, hbl⟩ := hrel
        by_cases hlt : k < ls.length
        · obtain ⟨g1, o1, Ai, ci, rfl, hcell, hby, hno⟩ := (H.out.below hbl.out).at11 hlt
          have hkl : (k : Int) < (ls.length : Int) := by omega
          have hs := HS.out k hlt
          have hf1 := HF.out (k + 1)
          rw [hs, List.length_append] at hf1
          have HSk : Hid (ff (k + 1) = ff k ++ ls.getD k []) := Lib.hid hs
          have HBy := Lib.hid hby
          have HNo := Lib.hid hno
          have HL1 := Lib.hid hf1
          generalize ls.getD k [] = p at *
          generalize hfk : ff k = fk at *
          clear hs hby hno hf1 hfk
          go_wp2_with (at_builtin; refine wpList_append_byt _ rfl _ _ 22 rfl wo.heap.size i0 Tryd.underlying22 hi0 hz0 hz1 hz2 u6 fk rfl hown.out Ai ci p rfl HNo.out HBy.out (by have := HL1.out; omega) hbl.out.size ?_)
          intro v' w' hown' hgr' _
          have HB' : Hid (Below wo.heap.size wo w') := Lib.hid (below_own hbl.out hgr' hown.out (Nat.le_refl _) hbl.out.size)
          have HO' : Hid (w'.ownsRow wo.heap.size 5 1 v' (ff (k + 1)).length (Lib.byteCells (ff (k + 1)))) := Lib.hid (by rw [HSk.out, List.length_append]; exact hown')
          clear hown' hgr'
          go_wp2_with fail
          go_roundw
          case rel => exact ⟨k + 1, by omega, by go_num, HO', HB'⟩
          case measure => simp [intOf]; omega
        · obtain rfl : k = ls.length := by omega
          obtain ⟨A2, c2, rfl⟩ := own_form hown.out
          go_wp2_with fail
          go_ret
          exact ⟨A2, c2, rfl, hown.out, hbl.out⟩
end Go.Proofs.YtjfikdldabmciaaDoor
