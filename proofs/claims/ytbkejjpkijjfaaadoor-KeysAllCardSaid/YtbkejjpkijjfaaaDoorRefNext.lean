/-
  The document's own Next.
-/
import Derived.Test.YtbkejjpkijjfaaaDoorRefB
namespace Go.Proofs.YtbkejjpkijjfaaaDoor
open Go Go.RowKit

/-- What is told of the first sign. -/
def ToldNext (w w' : World) (e : Ending) (l : List UInt8) : Prop := e = .returned (.tuple #[.int .i64 ((nextL l).1 : Int), .int .i64 ((nextL l).2 : Int)]) ∧ Below w.heap.size w w'

set_option maxHeartbeats 4000000 in
set_option maxRecDepth 100000 in
theorem rnext_calls (A : Option Addr) (c : Nat) (l : List UInt8) (w : World) (hb : Byt w A l) (hm : l.length ≤ maxLen) :
    Calls Tryd.prog 35 #[.slice A l.length c] w fun e w' => ToldNext w w' e l := by
  by_cases hl : l.length = 0
  · obtain rfl : l = [] := List.eq_nil_of_length_eq_zero hl
    clear hb hm
    go_enter Tryd.func35, Tryd.ntmps35
    go_wp2
    go_ret2
    exact ⟨rfl, Below.refl _ _⟩
  have hz : ((l.length : Int) == 0) = false := beq_eq_false_iff_ne.2 (by omega)
  obtain ⟨b, o, rfl, _, hc⟩ := hb.at_ (by omega)
  have c0 := hc 0 (by omega)
  rw [Nat.add_zero] at c0
  have hu := (l.getD 0 0).toNat_lt
  have hl0 : 0 < l.length := by omega
  clear hc
  by_cases ha : (l.getD 0 0).toNat < 128
  · have hn := Lib.hid (next_ascii l hl0 ha)
    generalize hx : (l.getD 0 0).toNat = x at *
    clear hx hb
    go_enter Tryd.func35, Tryd.ntmps35
    go_wp2
    go_ret2
    exact ⟨by rw [hn.out]; rfl, Below.refl _ _⟩
  have low1 := fun W (h : Byt W (some ⟨b, o, none⟩) l) => low_calls (some ⟨b, o, none⟩) c l 1 W h hm (by omega)
  have low2 := fun W (h : Byt W (some ⟨b, o, none⟩) l) => low_calls (some ⟨b, o, none⟩) c l 2 W h hm (by omega)
  have low3 := fun W (h : Byt W (some ⟨b, o, none⟩) l) => low_calls (some ⟨b, o, none⟩) c l 3 W h hm (by omega)
  have L1 := Lib.hid low1
  have L2 := Lib.hid low2
  have L3 := Lib.hid low3
  clear low1 low2 low3
  have hy1 := lowL_bound l 1
  have hy2 := lowL_bound l 2
  have hy3 := lowL_bound l 3
  have e2 : Hid (cand2 l = 64 * (((l.getD 0 0).toNat : Int) - 192) + lowL l 1) := Lib.hid rfl
  have e3 : Hid (cand3 l = 4096 * (((l.getD 0 0).toNat : Int) - 224) + 64 * lowL l 1 + lowL l 2) := Lib.hid rfl
  have e4 : Hid (cand4 l = 262144 * (((l.getD 0 0).toNat : Int) - 240) + 4096 * lowL l 1 + 64 * lowL l 2 + lowL l 3) := Lib.hid rfl
  have M1 := Lib.hid (next_cont l hl0)
  have M2 := Lib.hid (two_yes l)
  have M3 := Lib.hid (two_no l hl0)
  have M4 := Lib.hid (three_yes l)
  have M5 := Lib.hid (three_no l hl0)
  have M6 := Lib.hid (four_yes l)
  have M7 := Lib.hid (four_no l hl0)
  generalize hx : (l.getD 0 0).toNat = x at *
  generalize lowL l 1 = y1 at *
  generalize lowL l 2 = y2 at *
  generalize lowL l 3 = y3 at *
  clear hx
  go_enter Tryd.func35, Tryd.ntmps35
  go_wp2_with fail
  refine (L1.out _ hb).mono ?_
  rintro e w' ⟨rfl, rfl⟩
  go_wp2_with fail
  refine (L1.out _ hb).mono ?_
  rintro e w' ⟨rfl, rfl⟩
  go_wp2_with fail
  refine (L2.out _ hb).mono ?_
  rintro e w' ⟨rfl, rfl⟩
  go_wp2_with fail
  refine (L1.out _ hb).mono ?_
  rintro e w' ⟨rfl, rfl⟩
  go_wp2_with fail
  refine (L2.out _ hb).mono ?_
  rintro e w' ⟨rfl, rfl⟩
  go_wp2_with fail
  refine (L3.out _ hb).mono ?_
  rintro e w' ⟨rfl, rfl⟩
  by_cases h1 : x < 192
  · go_wp2
    go_ret2
    exact ⟨by rw [M1.out (by omega) h1]; rfl, Below.refl _ _⟩
  by_cases h2 : x < 224
  · have M2' := Lib.hid (M2.out (by omega) h2)
    have M3' := Lib.hid (M3.out (by omega) h2)
    clear M1 M2 M3 M4 M5 M6 M7 L1 L2 L3
    go_wp2_with fail
    refine (bytes_calls _ _ (by omega) (by omega)).mono ?_
    rw [← e2.out]
    rintro e w1 ⟨A1, d1, rfl, hB1, _, _, _, hb1⟩
    have hpm : (bytesL (cand2 l)).length ≤ maxLen := by have := bytesL_length (cand2 l); unfold maxLen; omega
    cases hbe : begL l (bytesL (cand2 l)) with
    | false =>
      have hn := Lib.hid (M3'.out hbe)
      have hcon := begins_calls (some ⟨b, o, none⟩) A1 c d1 l (bytesL (cand2 l)) w1 (hb.below hb1) hB1 hm hpm
      rw [hbe] at hcon
      have Hcon := Lib.hid hcon
      clear hcon hbe hpm hB1 M2' M3' c0
      generalize (bytesL (cand2 l)).length = np at *
      go_wp2_with fail
      refine Hcon.out.mono ?_
      rintro e w2 ⟨rfl, hb2⟩
      have k2 : Below w.heap.size w w2 := hb1.trans (hb2.mono hb1.size)
      clear hb2 hb1
      go_wp2
      go_ret2
      exact ⟨by rw [hn.out]; rfl, k2⟩
    | true =>
      obtain ⟨hlen, hpos, hnx⟩ := M2'.out hbe
      have hn := Lib.hid hnx
      have hcon := begins_calls (some ⟨b, o, none⟩) A1 c d1 l (bytesL (cand2 l)) w1 (hb.below hb1) hB1 hm hpm
      rw [hbe] at hcon
      have Hcon := Lib.hid hcon
      have Hlen := Lib.hid hlen
      clear hcon hbe hpm hB1 M2' M3' c0 hnx hlen
      go_wp2_with fail
      refine Hcon.out.mono ?_
      rintro e w2 ⟨rfl, hb2⟩
      have k2 : Below w.heap.size w w2 := hb1.trans (hb2.mono hb1.size)
      clear hb2 hb1
      go_wp2_with fail
      refine (bytes_calls (cand2 l) _ (by have := e2.out; omega) (by have := e2.out; omega)).mono ?_
      simp only [Told, Hlen.out]
      rintro e w3 ⟨A3, d3, rfl, _, _, _, _, hb3⟩
      have k3 : Below w.heap.size w w3 := k2.trans (hb3.mono k2.size)
      clear hb3 k2 Hlen
      go_wp2
      go_ret2
      have hv : ((cand2 l).toNat : Int) = cand2 l := Int.toNat_of_nonneg hpos
      exact ⟨by rw [hn.out]; simp only [hv]; rfl, k3⟩
  by_cases h3 : x < 240
  · have M2' := Lib.hid (M4.out (by omega) h3)
    have M3' := Lib.hid (M5.out (by omega) h3)
    clear M1 M2 M3 M4 M5 M6 M7 L1 L3
    by_cases hy : y2 < 0
    · have hn := Lib.hid (M3'.out (.inl hy))
      go_wp2_with fail
      refine (L2.out _ hb).mono ?_
      rintro e w' ⟨rfl, rfl⟩
      go_wp2
      go_ret2
      exact ⟨by rw [hn.out]; rfl, Below.refl _ _⟩
    have hyp : 0 ≤ y2 := by omega
    go_wp2_with fail
    refine (L2.out _ hb).mono ?_
    rintro e w' ⟨rfl, rfl⟩
    go_wp2_with fail
    refine (bytes_calls _ _ (by omega) (by omega)).mono ?_
    rw [← e3.out]
    rintro e w1 ⟨A1, d1, rfl, hB1, _, _, _, hb1⟩
    have hpm : (bytesL (cand3 l)).length ≤ maxLen := by have := bytesL_length (cand3 l); unfold maxLen; omega
    cases hbe : begL l (bytesL (cand3 l)) with
    | false =>
      have hn := Lib.hid (M3'.out (.inr hbe))
      have hcon := begins_calls (some ⟨b, o, none⟩) A1 c d1 l (bytesL (cand3 l)) w1 (hb.below hb1) hB1 hm hpm
      rw [hbe] at hcon
      have Hcon := Lib.hid hcon
      clear hcon hbe hpm hB1 M2' M3' c0
      generalize (bytesL (cand3 l)).length = np at *
      go_wp2_with fail
      refine Hcon.out.mono ?_
      rintro e w2 ⟨rfl, hb2⟩
      have k2 : Below w.heap.size w w2 := hb1.trans (hb2.mono hb1.size)
      clear hb2 hb1
      go_wp2
      go_ret2
      exact ⟨by rw [hn.out]; rfl, k2⟩
    | true =>
      obtain ⟨hlen, hpos, hnx⟩ := M2'.out hyp hbe
      have hn := Lib.hid hnx
      have hcon := begins_calls (some ⟨b, o, none⟩) A1 c d1 l (bytesL (cand3 l)) w1 (hb.below hb1) hB1 hm hpm
      rw [hbe] at hcon
      have Hcon := Lib.hid hcon
      have Hlen := Lib.hid hlen
      clear hcon hbe hpm hB1 M2' M3' c0 hnx hlen
      go_wp2_with fail
      refine Hcon.out.mono ?_
      rintro e w2 ⟨rfl, hb2⟩
      have k2 : Below w.heap.size w w2 := hb1.trans (hb2.mono hb1.size)
      clear hb2 hb1
      go_wp2_with fail
      refine (bytes_calls (cand3 l) _ (by have := e3.out; omega) (by have := e3.out; omega)).mono ?_
      simp only [Told, Hlen.out]
      rintro e w3 ⟨A3, d3, rfl, _, _, _, _, hb3⟩
      have k3 : Below w.heap.size w w3 := k2.trans (hb3.mono k2.size)
      clear hb3 k2 Hlen
      go_wp2
      go_ret2
      have hv : ((cand3 l).toNat : Int) = cand3 l := Int.toNat_of_nonneg hpos
      exact ⟨by rw [hn.out]; simp only [hv]; rfl, k3⟩
  by_cases h4 : x < 248
  · have M2' := Lib.hid (M6.out (by omega) h4)
    have M3' := Lib.hid (M7.out (by omega))
    clear M1 M2 M3 M4 M5 M6 M7 L1 L2
    by_cases hy : y3 < 0
    · have hn := Lib.hid (M3'.out fun _ => .inl hy)
      go_wp2_with fail
      refine (L3.out _ hb).mono ?_
      rintro e w' ⟨rfl, rfl⟩
      go_wp2
      go_ret2
      exact ⟨by rw [hn.out]; rfl, Below.refl _ _⟩
    have hyp : 0 ≤ y3 := by omega
    go_wp2_with fail
    refine (L3.out _ hb).mono ?_
    rintro e w' ⟨rfl, rfl⟩
    go_wp2_with fail
    refine (bytes_calls _ _ (by omega) (by omega)).mono ?_
    rw [← e4.out]
    rintro e w1 ⟨A1, d1, rfl, hB1, _, _, _, hb1⟩
    have hpm : (bytesL (cand4 l)).length ≤ maxLen := by have := bytesL_length (cand4 l); unfold maxLen; omega
    cases hbe : begL l (bytesL (cand4 l)) with
    | false =>
      have hn := Lib.hid (M3'.out fun _ => .inr hbe)
      have hcon := begins_calls (some ⟨b, o, none⟩) A1 c d1 l (bytesL (cand4 l)) w1 (hb.below hb1) hB1 hm hpm
      rw [hbe] at hcon
      have Hcon := Lib.hid hcon
      clear hcon hbe hpm hB1 M2' M3' c0
      generalize (bytesL (cand4 l)).length = np at *
      go_wp2_with fail
      refine Hcon.out.mono ?_
      rintro e w2 ⟨rfl, hb2⟩
      have k2 : Below w.heap.size w w2 := hb1.trans (hb2.mono hb1.size)
      clear hb2 hb1
      go_wp2
      go_ret2
      exact ⟨by rw [hn.out]; rfl, k2⟩
    | true =>
      obtain ⟨hlen, hpos, hnx⟩ := M2'.out hyp hbe
      have hn := Lib.hid hnx
      have hcon := begins_calls (some ⟨b, o, none⟩) A1 c d1 l (bytesL (cand4 l)) w1 (hb.below hb1) hB1 hm hpm
      rw [hbe] at hcon
      have Hcon := Lib.hid hcon
      have Hlen := Lib.hid hlen
      clear hcon hbe hpm hB1 M2' M3' c0 hnx hlen
      go_wp2_with fail
      refine Hcon.out.mono ?_
      rintro e w2 ⟨rfl, hb2⟩
      have k2 : Below w.heap.size w w2 := hb1.trans (hb2.mono hb1.size)
      clear hb2 hb1
      go_wp2_with fail
      refine (bytes_calls (cand4 l) _ (by have := e4.out; omega) (by have := e4.out; omega)).mono ?_
      simp only [Told, Hlen.out]
      rintro e w3 ⟨A3, d3, rfl, _, _, _, _, hb3⟩
      have k3 : Below w.heap.size w w3 := k2.trans (hb3.mono k2.size)
      clear hb3 k2 Hlen
      go_wp2
      go_ret2
      have hv : ((cand4 l).toNat : Int) = cand4 l := Int.toNat_of_nonneg hpos
      exact ⟨by rw [hn.out]; simp only [hv]; rfl, k3⟩
  · have hn := Lib.hid (M7.out (by omega) fun h => absurd h h4)
    clear M1 M2 M3 M4 M5 M6 M7 L1 L2 L3
    go_wp2
    go_ret2
    exact ⟨by rw [hn.out]; rfl, Below.refl _ _⟩
end Go.Proofs.YtbkejjpkijjfaaaDoor
