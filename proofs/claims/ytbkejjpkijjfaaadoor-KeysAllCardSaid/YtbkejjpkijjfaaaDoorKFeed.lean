/-
  A decoder's Feed: what the call comes to, in any memory in which the tables lie.
-/
import Derived.Test.YtbkejjpkijjfaaaDoorKPut
namespace Go.Proofs.YtbkejjpkijjfaaaDoor
open Go Go.RowKit
set_option maxRecDepth 100000

theorem run_append_K {P : Program} (w : World) (base base2 : Nat) (t ty : TypeId) (i : TypeInfo) (ht : P.underlying t = some (.slice 44)) (hi : P.info? 44 = some i) (hz : i.zero = some (.agg #[.int .i64 0, .string ⟨#[]⟩])) (hsize : i.size = 2) (hby : i.bytes = 24)
    (v v2 : Value) (rs ms : List KV) (hown : w.ownsRow base 44 2 v rs.length (cellsK rs)) (hown2 : w.ownsRow base2 44 2 v2 ms.length (cellsK ms)) (hb : rs.length + ms.length ≤ 1099511627776) (hbase : base ≤ w.heap.size) :
    ∃ v' w', (Builtin.append_ #[t, t] ty #[v, v2]).run P w = .ok v' w' ∧ w'.ownsRow base 44 2 v' (rs ++ ms).length (cellsK (rs ++ ms)) ∧ w.grownBy w' v.ownBlock := by
  rw [cellsK_append, List.length_append]
  rcases hown2.2 with ⟨rfl, h0⟩ | ⟨g, cap, cur, rfl, _⟩
  · obtain rfl : ms = [] := List.eq_nil_of_length_eq_zero h0
    exact ⟨v, w, run_append_owned_none (P := P) (w := w) base t ty 44 i 2 ht hi v rs.length (cellsK rs) hown, by simpa [cellsK] using hown, World.grownBy.refl w _⟩
  · obtain ⟨v', w', hr, h2, h3, _⟩ := run_append_own_at (P := P) w base t ty 44 i _ 2 24 ht hi hz hsize hby rfl (by decide) v rs.length (cellsK rs) hown ⟨g, 0, none⟩ ms.length cap (cellsK ms) (cellsK_length ms) (fun j u hu => hown2.cells (g := g) rfl j u hu) (cellsK_one ms) (by unfold maxLen; omega) (by omega) hbase
    exact ⟨v', w', hr, h2, h3⟩

/-- What stands at a round's head of Feed. -/
def FeedAt4 (w : World) (g : Nat) (d : Dec) (b : List UInt8) (v5 v10 : Value) (wr : World) (k : Nat) (acc : List KV) (dk : Dec) : Prop :=
  k ≤ b.length ∧ v10 = .int .i64 (k : Int) ∧ wr.ownsRow w.heap.size 44 2 v5 acc.length (cellsK acc) ∧ DecAt wr g dk ∧ dk.Ok ∧ w.grownBy wr (some g) ∧ acc.length ≤ 20 * k ∧
    (acc ++ (feedD dk (b.drop k)).1, (feedD dk (b.drop k)).2) = feedD d b

set_option maxHeartbeats 4000000 in
theorem feed_calls4 (g : Nat) (d : Dec) (A : Option Addr) (c : Nat) (b : List UInt8) (w : World) (h : DecAt w g d) (hok : d.Ok) (hL : Lays w) (hfar : Far g) (hb : Byt w A b) (hne : 0 < b.length → ∀ ad, A = some ad → ad.block ≠ g) (hbl : b.length ≤ 1000000000) :
    Calls Tryd.prog 21 #[.pointer (some ⟨g, 0, none⟩), .slice A b.length c] w (Told4 w g (feedD d b)) := by
  obtain ⟨i1, hi1, hy0, hy1, hy2⟩ := info_parts infoK
  have hlt := h.lt
  have H := Lib.hid h
  have Hb := Lib.hid hb
  have Hne := Lib.hid hne
  clear h hb hne
  go_enter Tryd.func21, Tryd.ntmps21
  go_wp2_with fail
  go_loopw [5, 10] (fun v5 v10 wr => ∃ k acc dk, FeedAt4 w g d b v5 v10 wr k acc dk) (fun _ v10 _ => b.length - (intOf v10).toNat)
  case atStart => exact ⟨0, [], d, by omega, rfl, World.ownsRow_nil _ _ _ _, H.out, hok, World.grownBy.refl w _, by simp, by simp⟩
  case round =>
    obtain ⟨k, acc, dk, hk, rfl, hown, hD, hokk, hg, hal, hf⟩ := hrel
    have Hf := Lib.hid hf
    have Hown := Lib.hid hown
    have HG := Lib.hid hg
    have hsz := hg.size
    clear hf hown hg
    by_cases hlt2 : k < b.length
    · obtain ⟨gb, o, rfl, hgb, hc⟩ := Hb.out.at_ (by omega)
      have hx : wr.cell? ⟨gb, o + k, none⟩ = some (.int .u8 ((b.getD k 0).toNat : Int)) := by
        rw [World.cell?_of_block (HG.out.block gb hgb (fun e => Hne.out (by omega) _ rfl (by injection e)))]; exact hc k hlt2
      have hdrop : b.drop k = b.getD k 0 :: b.drop (k + 1) := by
        rw [List.drop_eq_getElem_cons hlt2]
        simp [List.getD, hlt2]
      have hf2 := Hf.out
      rw [hdrop] at hf2
      simp only [feedD] at hf2
      have Hf2 := Lib.hid hf2
      have hcnt := put_count dk (b.getD k 0) hokk
      have HP := Lib.hid (put_calls4 g dk (b.getD k 0) wr hD hokk (hL.grown hfar HG.out) hfar)
      have hok2 := put_ok dk (b.getD k 0) hokk
      clear hc hdrop hf2 hD Hf
      generalize b.getD k 0 = x at *
      generalize putD dk x = r at *
      go_wp2_with fail
      refine HP.out.mono ?_
      rintro e w2 ⟨v, rfl, hown2, hD2, hg2⟩
      have hown1 : w2.ownsRow w.heap.size 44 2 u5 acc.length (cellsK acc) := own_kept (w := wr) Hown.out hg2 (fun gg hgg e => by injection e with e; have := (Hown.out.lt gg hgg).1; omega)
      have hz2 := hg2.size
      obtain ⟨v3, w3, hrun, hown3, hg3⟩ := run_append_K (P := Tryd.prog) w2 w.heap.size wr.heap.size 36 36 i1 Tryd.underlying36 hi1 hy0 hy1 hy2 u5 v acc r.1 hown1 hown2 (by omega) (by omega)
      have hD3 : DecAt w3 g r.2 := hD2.keep (hg3.block g hD2.lt (fun e => by have := (hown1.lt g e.symm).1; omega))
      have hg13 : w.grownBy w3 (some g) := by
        have a := grown_trans HG.out hg2
        exact ⟨hg3.os.trans a.os, hg3.tape.trans a.tape, hg3.output.trans a.output, Nat.le_trans a.size hg3.size, fun i hi hn => (hg3.block i (Nat.lt_of_lt_of_le hi a.size) (fun e => by have := (hown1.lt i e.symm).1; omega)).trans (a.block i hi hn)⟩
      have Hrun := Lib.hid hrun
      have Hown3 := Lib.hid hown3
      have HD3 := Lib.hid hD3
      have HG3 := Lib.hid hg13
      clear hown2 hD2 hg2 hown1 hrun hown3 hg3 hD3 hg13 HP hx
      go_wp2_with (at_builtin; refine wpList_append_g (by rfl) _ _ 36 rfl _ _ rfl rfl Hrun.out ?_)
      go_roundw
      case rel => exact ⟨k + 1, acc ++ r.1, r.2, by omega, by go_num, Hown3.out, HD3.out, hok2, HG3.out, by rw [List.length_append]; omega, by rw [← Hf2.out, List.append_assoc]⟩
      case measure => simp [intOf]; omega
    · have hd0 : b.drop k = [] := List.drop_eq_nil_of_le (by omega)
      have hf2 := Hf.out
      rw [hd0] at hf2
      simp only [feedD, List.append_nil] at hf2
      have Hf2 := Lib.hid hf2
      have HD := Lib.hid hD
      clear hf2 hd0 hD
      go_wp2
      go_ret
      rw [← Hf2.out]
      exact ⟨_, rfl, Hown.out, HD.out, HG.out⟩
end Go.Proofs.YtbkejjpkijjfaaaDoor
