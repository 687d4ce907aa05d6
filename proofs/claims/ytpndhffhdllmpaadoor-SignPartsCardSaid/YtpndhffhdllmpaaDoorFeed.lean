/-
  A feed's Put, Flush and Waits.
-/
import Derived.Test.YtpndhffhdllmpaaDoorRowB
import Derived.Test.YtpndhffhdllmpaaDoorRunes
import Derived.Test.YtpndhffhdllmpaaDoorFull
import Derived.Lib.ConvBytes
import Derived.ArgAppend
import Derived.Deep.Upon
namespace Go.Proofs.YtpndhffhdllmpaaDoor
open Go Go.RowKit

/-- A feed at block b in which s waits. -/
def FeedAt (w : World) (b : Nat) (s : List UInt8) : Prop := w.heap[b]? = some (.cells #[.string ⟨s.toArray⟩] 39 (0, 0))
theorem FeedAt.cell {w : World} {b : Nat} {s : List UInt8} (h : FeedAt w b s) : w.cell? ⟨b, 0, none⟩ = some (.string ⟨s.toArray⟩) := by
  unfold FeedAt at h; simp [World.cell?, h]
theorem FeedAt.free {w : World} {b : Nat} {s : List UInt8} (h : FeedAt w b s) : w.frozen? ⟨b, 0, none⟩ = false := by
  unfold FeedAt at h; simp [World.frozen?, h]
theorem FeedAt.lt {w : World} {b : Nat} {s : List UInt8} (h : FeedAt w b s) : b < w.heap.size := World.block_lt_of_cell? _ _ h.cell
theorem FeedAt.set_ {w : World} {b : Nat} {s : List UInt8} (h : FeedAt w b s) (t : List UInt8) : FeedAt (w.setCell ⟨b, 0, none⟩ (.string ⟨t.toArray⟩)) b t := by
  unfold FeedAt at h ⊢
  simp [World.setCell, Array.getElem?_modify, h]
theorem FeedAt.below {w w' : World} {b : Nat} {s : List UInt8} {B : Nat} (h : FeedAt w b s) (hb : Below B w w') (hB : b < B) : FeedAt w' b s := (hb.block b hB).trans h

set_option maxHeartbeats 1000000 in
theorem waits_calls (b : Nat) (s : List UInt8) (w : World) (h : FeedAt w b s) :
    Calls Tryd.prog 22 #[.pointer (some ⟨b, 0, none⟩)] w fun e w' => e = .returned (.bool (decide (0 < s.length))) ∧ w = w' := by
  have hc := h.cell
  clear h
  cases s with
  | nil =>
    go_enter Tryd.func22, Tryd.ntmps22
    go_wp2
    go_ret
    exact ⟨rfl, rfl⟩
  | cons x t =>
    go_enter Tryd.func22, Tryd.ntmps22
    go_wp2
    go_ret
    exact ⟨by simp, rfl⟩

set_option maxHeartbeats 1000000 in
theorem flush_calls (b : Nat) (s : List UInt8) (w : World) (h : FeedAt w b s) (hs : s.length ≤ 1000000) :
    Calls Tryd.prog 23 #[.pointer (some ⟨b, 0, none⟩)] w fun e w' => ∃ v, e = .returned v ∧ w'.ownsRow w.heap.size 21 1 v (runes s).length (cells32 (runes s)) ∧ FeedAt w' b [] ∧ w.grownBy w' (some b) := by
  have hc := h.cell
  have hlt := h.lt
  have H := Lib.hid h
  clear h
  have hcv := Lib.run_convert_string_bytes (P := Tryd.prog) w 9 22 5 ⟨s.toArray⟩ Tryd.underlying9 Tryd.underlying22 Tryd.underlying5
  go_enter Tryd.func23, Tryd.ntmps23
  go_wp2_with fail
  refine (runes_calls _ _ s _ (byt_bytes w s) (by omega)).mono ?_
  rintro e w1 ⟨v, rfl, hown, hb1⟩
  have hb2 := (below_bytes w 5 ⟨s.toArray⟩)
  have hz : w.heap.size < (Lib.bytesWorld w 5 ⟨s.toArray⟩).heap.size := by rw [Lib.bytesWorld_size]; omega
  have hb3 : Below w.heap.size w w1 := hb2.trans (hb1.mono (by omega))
  have h1 : FeedAt w1 b s := H.out.below hb3 hlt
  have hc1 := h1.cell
  have hf1 := h1.free
  have H1 := Lib.hid h1
  have Hown := Lib.hid hown
  have Hb3 := Lib.hid hb3
  clear h1 hown hb1 hb2 hb3 hcv hc
  go_wp2
  go_ret
  have hown := own_less Hown.out (base' := w.heap.size) (by omega)
  exact ⟨_, rfl, own_setCell hown (by omega) _, H1.out.set_ [], grown_set (grown_of_below Hb3.out) _⟩

end Go.Proofs.YtpndhffhdllmpaaDoor
