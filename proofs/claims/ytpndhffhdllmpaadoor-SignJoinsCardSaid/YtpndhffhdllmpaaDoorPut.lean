/-
  A feed's Put.
-/
import Derived.Test.YtpndhffhdllmpaaDoorRowB
import Derived.Test.YtpndhffhdllmpaaDoorFeed
namespace Go.Proofs.YtpndhffhdllmpaaDoor
open Go Go.RowKit

/-- What stands at a round's head of Put: l waits, acc was told. -/
def PutAt (w2 : World) (l0 : List UInt8) (v5 v6 : Value) (wr : World) (A : Option Addr) (c : Nat) (l : List UInt8) (acc : List Nat) : Prop :=
  v5 = .slice A l.length c ∧ l.length ≤ c ∧ c ≤ maxLen ∧ Byt w2 A l ∧ wr.ownsRow w2.heap.size 21 1 v6 acc.length (cells32 acc) ∧ Below w2.heap.size w2 wr ∧ acc.length + l.length ≤ l0.length ∧ (acc ++ (feedL l).1, (feedL l).2) = feedL l0

set_option maxHeartbeats 2000000 in
theorem put_calls (b : Nat) (s : List UInt8) (x : UInt8) (w : World) (h : FeedAt w b s) (hs : s.length ≤ 1000000) (ht : Tabs w) :
    Calls Tryd.prog 21 #[.pointer (some ⟨b, 0, none⟩), .int .u8 (x.toNat : Int)] w fun e w' => ∃ v, e = .returned v ∧ w'.ownsRow w.heap.size 21 1 v (feedL (s ++ [x])).1.length (cells32 (feedL (s ++ [x])).1) ∧ FeedAt w' b (feedL (s ++ [x])).2 ∧ w.grownBy w' (some b) := by
  obtain ⟨i0, hi, hz0, hz1, hz2⟩ := info_parts info8
  have hc := h.cell
  have hlt := h.lt
  have H := Lib.hid h
  clear h
  have hcv := Lib.run_convert_string_bytes (P := Tryd.prog) w 9 22 5 ⟨s.toArray⟩ Tryd.underlying9 Tryd.underlying22 Tryd.underlying5
  have hz := Lib.bytesWorld_size w 5 ⟨s.toArray⟩
  have Hz := Lib.hid hz
  clear hz
  have hcap := grownCap_ge w s.length 0 5
  have hcap2 := grownCap_le_maxLen w s.length 0 5 (by unfold maxLen; omega)
  go_enter Tryd.func21, Tryd.ntmps21
  go_wp2_with (at_builtin; refine wpList_append_byte _ rfl _ _ 22 rfl i0 Tryd.underlying22 hi hz0 hz1 hz2 w.heap.size (grownCap w s.length 0 5) s rfl ((byt_bytes w s).alloc _) hcap2 (Lib.bytesWorld w 5 ⟨s.toArray⟩).heap.size x rfl ?c1 ?c2 (by omega) ?_)
  case c1 => simp
  case c2 =>
    intro hr
    have hn := Lib.bytesWorld_at_new w 5 ⟨s.toArray⟩
    have hsz : (Lib.bytesCells w 5 ⟨s.toArray⟩).size = grownCap w s.length 0 5 := by
      simp [Lib.bytesCells, ByteArray.size]; omega
    have hn2 : ((Lib.bytesWorld w 5 ⟨s.toArray⟩).alloc (.cells #[.int .u8 (x.toNat : Int)] 5)).heap[w.heap.size]? = some (.cells (Lib.bytesCells w 5 ⟨s.toArray⟩) 5 ((Lib.bytesCells w 5 ⟨s.toArray⟩).size, (Lib.bytesCells w 5 ⟨s.toArray⟩).size + 1)) := by
      rw [Below.heap_alloc _ _ _ (by rw [Hz.out]; omega)]; exact hn
    constructor
    · simp only [World.cell?, hn2]
      simp [hsz]; omega
    · simp only [World.frozen?, hn2]
      simp [hsz]; omega
  intro A c w2 hB hlc hcm hgr
  have hb2 : Below w.heap.size w w2 := by
    have h1 := (below_bytes w 5 ⟨s.toArray⟩).alloc (by rw [Hz.out]; omega) (.cells #[.int .u8 (x.toNat : Int)] 5)
    exact h1.grown hgr (by simp [Hz.out]; omega) (fun k hk => by injection hk with hk; omega)
  have hw2 : w.heap.size < w2.heap.size := by
    have := hgr.size
    simp [Hz.out] at this
    omega
  have ht2 : Tabs w2 := tabs_below ht hb2
  have hF2 : FeedAt w2 b s := H.out.below hb2 hlt
  have hl0 : (s ++ [x]).length = s.length + 1 := by simp
  clear hgr hcv hcap hcap2 hc
  have HF2 := Lib.hid hF2
  have Hb2 := Lib.hid hb2
  clear hF2 hb2
  rw [← hl0] at hlc ⊢
  have hl1 : (s ++ [x]).length ≤ 1000001 := by omega
  clear hl0
  generalize hl0e : s ++ [x] = l0 at *
  have Hl0 := Lib.hid hl0e
  clear hl0e
  clear hs
  obtain ⟨i1, hi1, hy0, hy1, hy2⟩ := info_parts info32
  go_wp2_with fail
  go_loopw [5, 6] (fun v5 v6 wr => ∃ A c l acc, PutAt w2 l0 v5 v6 wr A c l acc) (fun v5 _ _ => match v5 with | .slice _ n _ => n | _ => 0)
  case atStart => exact ⟨A, c, l0, [], rfl, hlc, hcm, hB, World.ownsRow_nil _ _ _ _, Below.refl _ _, by simp, by simp⟩
  case round =>
    clear hB hlc hcm
    obtain ⟨A, c, l, acc, rfl, hlc, hcm, hB, hown, hbel, hlen, hfeed⟩ := hrel
    have Hfeed := Lib.hid hfeed
    clear hfeed
    have hBr : Byt wr A l := hB.below hbel
    have htr : Tabs wr := tabs_below ht2 hbel
    cases hwh : wholeL l with
    | true =>
      have hwd := Lib.decodeL_width l
      have hne : l ≠ [] := wholeL_pos hwh
      have hle := Lib.decodeL_le l hne
      have hnx : nextL l = Lib.decodeL l := by simp [nextL, hne]
      have Hst := Lib.hid (feedL_step l hwh)
      have hcon := whole_calls A c l wr hBr htr
      rw [hwh] at hcon
      have Hcon := Lib.hid hcon
      have Hwh := Lib.hid hwh
      have Hnx := Lib.hid hnx
      clear hcon hwh hnx
      go_wp2_with fail
      refine Hcon.out.mono ?_
      rintro e w3 ⟨rfl, hb3⟩
      have hbel3 : Below w2.heap.size w2 w3 := hbel.trans (hb3.mono hbel.size)
      have hown3 : w3.ownsRow w2.heap.size 21 1 u6 acc.length (cells32 acc) := own_below (w := wr) hown hb3
      clear hBr htr
      go_wp2_with fail
      refine (next_calls A c l w3 (hB.below hbel3) hlc hcm).mono ?_
      rw [Hnx.out]
      rintro e w4 ⟨rfl, hb4⟩
      have hbel4 : Below w2.heap.size w2 w4 := hbel3.trans (hb4.mono hbel3.size)
      have hown4 : w4.ownsRow w2.heap.size 21 1 u6 acc.length (cells32 acc) := own_below hown3 hb4
      have hw4 : w2.heap.size ≤ w4.heap.size := hbel4.size
      clear hbel3 hown3 hb3 hb4 hown hbel
      have hsl := run_cut A c l (Lib.decodeL l).2 hle
      have Hown4 := Lib.hid hown4
      clear hown4
      go_wp2_with (at_builtin; refine wpList_append_own _ rfl _ _ 29 rfl w2.heap.size 21 i1 (.int .i32 0) 1 4 Tryd.underlying29 hi1 hy0 hy1 hy2 rfl (by decide) _ _ _ rfl (Hown4.out.alloc _) ⟨w4.heap.size, 0, none⟩ 1 1 [.int .i32 ((Lib.decodeL l).1 : Int)] rfl rfl ?c1 ?c2 ?c3 ?c4 ?c5 ?_)
      case c1 =>
        intro j u hj
        match j, hj with
        | 0, hj => simp at hj; subst hj; simp [Addr.add]
      case c2 => intro u hu; simp at hu; subst hu; rfl
      case c3 => unfold maxLen; omega
      case c4 => omega
      case c5 => simp; omega
      intro v' w5 hown5 hgrow _
      have Hown5 := Lib.hid hown5
      have hb5 : Below w2.heap.size w2 w5 := (hbel4.alloc hw4 _).grown hgrow (by simp; omega) (fun k hk => (Hown4.out.lt k hk).1)
      clear hown5 hgrow
      go_wp2_with fail
      refine ⟨⟨dropA A c (Lib.decodeL l).2, c - (Lib.decodeL l).2, l.drop (Lib.decodeL l).2, acc ++ [(Lib.decodeL l).1], ?_, ?_, ?_, hB.drop c _ hlc, ?_, hb5, ?_, ?_⟩, ?_⟩
      · simp
      · simp; omega
      · unfold maxLen at hcm ⊢; omega
      · rw [cells32_snoc]; simpa using Hown5.out
      · simp; omega
      · rw [← Hfeed.out, Hst.out]; simp
      · show l.length - (Lib.decodeL l).2 < l.length
        omega
    | false =>
      have Hst := Lib.hid (feedL_stop l hwh)
      have hcon := whole_calls A c l wr hBr htr
      rw [hwh] at hcon
      have Hcon := Lib.hid hcon
      have Hwh := Lib.hid hwh
      clear hcon hwh
      go_wp2_with fail
      refine Hcon.out.mono ?_
      rintro e w3 ⟨rfl, hb3⟩
      have hbel3 : Below w2.heap.size w2 w3 := hbel.trans (hb3.mono hbel.size)
      have hown3 : w3.ownsRow w2.heap.size 21 1 u6 acc.length (cells32 acc) := own_below (w := wr) hown hb3
      have hconv := (hB.below hbel3).convert (P := Tryd.prog) c 22 5 9 Tryd.underlying22 Tryd.underlying5 Tryd.underlying9 l.length rfl
      have hF3 : FeedAt w3 b s := HF2.out.below hbel3 (by omega)
      have hc3 := hF3.cell
      have hf3 := hF3.free
      have HF3 := Lib.hid hF3
      have hg3 : w.grownBy w3 (some b) := grown_of_below (Hb2.out.trans (hbel3.mono (by omega)))
      have Hg3 := Lib.hid hg3
      have Hown3 := Lib.hid hown3
      clear hF3 hg3 hBr htr hown hbel hb3 hown3
      go_wp2
      go_ret
      have hfe := Hfeed.out
      rw [Hst.out] at hfe
      simp only [List.append_nil] at hfe
      rw [Hl0.out, ← hfe]
      exact ⟨_, rfl, own_setCell (own_less Hown3.out (by omega)) (by omega) _, HF3.out.set_ l, grown_set Hg3.out _⟩
end Go.Proofs.YtpndhffhdllmpaaDoor
