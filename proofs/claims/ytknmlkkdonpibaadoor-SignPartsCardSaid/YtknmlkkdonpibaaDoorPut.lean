/-
  A feed's Put.
-/
import Derived.Test.YtknmlkkdonpibaaDoorFeed
namespace Go.Proofs.YtknmlkkdonpibaaDoor
open Go Go.RowKit

theorem info8 : (Tryd.prog.info? 5).map (fun i => (i.zero, i.size, i.bytes)) = some (some (.int .u8 0), 1, 1) := by kernel_rfl

theorem byt_cells {w : World} {b o : Nat} {l : List UInt8} (h : Byt w (some ⟨b, o, none⟩) l) : ∀ j u, (Lib.byteCells l)[j]? = some u → w.cell? ⟨b, o + j, none⟩ = some u := by
  intro j u hu
  have hj : j < l.length := by
    have := (List.getElem?_eq_some_iff.1 hu).1
    simpa [Lib.byteCells_length] using this
  obtain ⟨b', o', e, _, hc⟩ := h.at_ (by omega)
  injection e with e
  injection e with e1 e2
  subst e1; subst e2
  rw [hc j hj]
  simp [Lib.byteCells, hj] at hu
  rw [← hu]
  simp [List.getD, hj]

theorem byt_of_own {w : World} {base : Nat} {A : Option Addr} {n c : Nat} {l : List UInt8} (h : w.ownsRow base 5 1 (.slice A n c) l.length (Lib.byteCells l)) : Byt w A l ∧ n = l.length ∧ l.length ≤ c ∧ c ≤ maxLen := by
  rcases h.2 with ⟨hv, h0⟩ | ⟨g, cap, cur, hv, _, hh, hnc, hcm, hcs, htk⟩
  · injection hv with h1 h2 h3
    subst h1; subst h2; subst h3
    obtain rfl : l = [] := List.eq_nil_of_length_eq_zero h0
    exact ⟨Byt.nil_ _ _, rfl, by simp, by unfold maxLen; omega⟩
  · injection hv with h1 h2 h3
    subst h1; subst h2; subst h3
    refine ⟨Byt.mk_ fun i hi => ?_, rfl, hnc, hcm⟩
    have := h.cells (g := g) rfl i (.int .u8 ((l.getD i 0).toNat : Int)) (by simp [Lib.byteCells, hi, List.getD])
    rw [Addr.add_lit] at this
    exact this

section
variable {P : Program} (w : World)
/-- One byte behind a row of bytes: there was room for it, or a new row was made. -/
theorem wpList_append_byte {ops : Array Oper} {rest : List Oper} {o : Oper} {a : Act} {Q : Exit → Act → World → Prop}
    (hg : o.guard = none) (s x : Operand) (t : TypeId) (hop : o.op = Op.call { callee := Callee.builtin Builtin.append, args := #[s, x], argTypes := #[t, t] })
    (i : TypeInfo) (h1 : P.underlying t = some (.slice 5)) (h2 : P.info? 5 = some i) (h3 : i.zero = some (.int .u8 0)) (h4 : i.size = 1) (h5 : i.bytes = 1)
    (g cap : Nat) (l : List UInt8) (hs : a.eval s = .slice (some ⟨g, 0, none⟩) l.length cap) (hl : Byt w (some ⟨g, 0, none⟩) l) (hcm : cap ≤ maxLen)
    (k : Nat) (u : UInt8) (hx : a.eval x = .slice (some ⟨k, 0, none⟩) 1 1) (hk : w.cell? ⟨k, 0, none⟩ = some (.int .u8 (u.toNat : Int)))
    (hspare : l.length + 1 ≤ cap → (w.cell? ⟨g, l.length, none⟩).isSome = true ∧ w.frozen? ⟨g, l.length, none⟩ = false)
    (hb : l.length + 1 ≤ 140737488355328)
    (h : ∀ A c w', Byt w' A (l ++ [u]) → l.length + 1 ≤ c → c ≤ maxLen → w.grownBy w' (some g) → wpList P ops Q rest (a.put o.dst (.slice A (l.length + 1) c)) w') :
    wpList P ops Q (o :: rest) a w := by
  refine wpList_append_arg w hg s x t hop 5 i (.int .u8 0) 1 1 h1 h2 h3 h4 h5 rfl (by decide) g 0 l.length cap (Lib.byteCells l) hs (by rw [Lib.byteCells_length]; omega) (by simpa using byt_cells hl)
    ⟨k, 0, none⟩ 1 1 [.int .u8 (u.toNat : Int)] hx rfl ?_ (by simp [Value.oneCell']) ?_ (by unfold maxLen; omega) (by omega) ?_ ?_
  · intro j v hj
    match j, hj with
    | 0, hj => simp at hj; subst hj; simpa [Addr.add] using hk
  · intro hr j hj
    obtain rfl : j = 0 := by simpa using hj
    simpa using hspare hr
  · intro hr
    refine h (some ⟨g, 0, none⟩) cap _ ?_ hr hcm ?_
    · have hin : (w.setCells g (0 + l.length * 1) [.int .u8 (u.toNat : Int)]).cell? ⟨g, l.length, none⟩ = some (.int .u8 (u.toNat : Int)) := by
        have := World.cell?_setCells_in g [.int .u8 (u.toNat : Int)] (0 + l.length * 1) w (by intro j hj; obtain rfl : j = 0 := by simpa using hj
                                                                                              simpa using (hspare hr).1) 0 (by simp)
        simpa using this
      refine Byt.mk_ fun i hi => ?_
      rw [List.length_append] at hi
      simp at hi
      by_cases hlt : i < l.length
      · rw [World.cell?_setCells_out g _ _ w ⟨g, 0 + i, none⟩ (fun _ _ => .inl (by show 0 + i < _; omega))]
        obtain ⟨b', o', e, _, hc⟩ := hl.at_ (by omega)
        injection e with e
        injection e with e1 e2
        subst e1; subst e2
        rw [hc i hlt]
        simp [List.getD, List.getElem?_append, hlt]
      · obtain rfl : i = l.length := by omega
        rw [show (⟨g, 0 + l.length, none⟩ : Addr) = ⟨g, l.length, none⟩ by rw [Nat.zero_add], hin]
        simp [List.getD]
    · refine ⟨World.os_setCells _ _ _ _, ?_, World.output_setCells _ _ _ _, ?_, fun i hi hne => World.heap_setCells_other w g _ _ hi (by rintro rfl; exact hne rfl)⟩
      · simp [World.setCells]
      · simp [World.setCells]
  · intro hr v' w' hown hgr
    obtain ⟨A, n, c, rfl⟩ : ∃ A n c, v' = .slice A n c := by
      rcases hown.2 with ⟨hv, _⟩ | ⟨_, _, _, hv, _⟩ <;> exact ⟨_, _, _, hv⟩
    have e : Lib.byteCells l ++ [.int .u8 (u.toNat : Int)] = Lib.byteCells (l ++ [u]) := by simp [Lib.byteCells]
    rw [e] at hown
    obtain ⟨hB, hn, hlc', hcm'⟩ := byt_of_own (l := l ++ [u]) (by simpa using hown)
    have hn' : n = l.length + 1 := by simpa using hn
    subst hn'
    exact h A c w' hB (by simpa using hlc') hcm' ⟨hgr.os, hgr.tape, hgr.output, hgr.size, fun i hi _ => hgr.block i hi (by simp)⟩
end

/-- What stands at a round's head of Put: l waits, acc was told. -/
def PutAt (w2 : World) (l0 : List UInt8) (v5 v6 : Value) (wr : World) (A : Option Addr) (c : Nat) (l : List UInt8) (acc : List Nat) : Prop :=
  v5 = .slice A l.length c ∧ l.length ≤ c ∧ c ≤ maxLen ∧ Byt w2 A l ∧ wr.ownsRow w2.heap.size 21 1 v6 acc.length (cells32 acc) ∧ Below w2.heap.size w2 wr ∧ acc.length + l.length ≤ l0.length ∧ (acc ++ (feedL l).1, (feedL l).2) = feedL l0

theorem run_cut (A : Option Addr) (c : Nat) (l : List UInt8) (k : Nat) (hk : k ≤ l.length) :
    ∀ W : World, (Instr.slice 22 (.slice A l.length c) (some (.int .i64 (k : Int))) none none).run Tryd.prog W = .ok (.slice (dropA A c k) (l.drop k).length (c - k)) W := by
  intro W
  have he : Tryd.prog.elem 22 = 5 := by kernel_rfl
  have hu : Tryd.prog.underlying 22 = some (.slice (Tryd.prog.elem 22)) := by rw [he]; exact Tryd.underlying22
  rw [run_slice_l W 22 A l.length c hu .i64 (k : Int) (by omega) (by omega), he, Tryd.sizeOf5]
  simp [sliced, dropA, Result.andThen]

theorem drop_len (l : List UInt8) (k : Nat) : (l.drop k).length = l.length - k := List.length_drop

set_option maxHeartbeats 2000000 in
theorem put_calls (b : Nat) (s : List UInt8) (x : UInt8) (w : World) (h : FeedAt w b s) (hs : s.length ≤ 1000000) (ht : Tabs w) :
    Calls Tryd.prog 21 #[.pointer (some ⟨b, 0, none⟩), .int .u8 (x.toNat : Int)] w fun e w' => ∃ v, e = .returned v ∧ w'.ownsRow w.heap.size 21 1 v (feedL (s ++ [x])).1.length (cells32 (feedL (s ++ [x])).1) ∧ FeedAt w' b (feedL (s ++ [x])).2 ∧ w.grownBy w' (some b) := by
  obtain ⟨i0, hi, hz0, hz1, hz2⟩ := info_parts info8
  have hc := h.cell
  have hlt := h.lt
  have H := Lib.hid h
  clear h
  have hcv := Lib.run_convert_string_bytes (P := Tryd.prog) w 9 22 5 ⟨s.toArray⟩ Tryd.underlying9 Tryd.underlying22 Tryd.underlying5
  have hz := Lib.bytesWorld_size w 5 ⟨s.toArray⟩
  have Hz := Lib.hid hz
  clear hz
  have hcap := grownCap_ge w s.length 0 5
  have hcap2 := grownCap_le_maxLen w s.length 0 5 (by unfold maxLen; omega)
  go_enter Tryd.func21, Tryd.ntmps21
  go_wp2_with (at_builtin; refine wpList_append_byte _ rfl _ _ 22 rfl i0 Tryd.underlying22 hi hz0 hz1 hz2 w.heap.size (grownCap w s.length 0 5) s rfl ((byt_bytes w s).alloc _) hcap2 (Lib.bytesWorld w 5 ⟨s.toArray⟩).heap.size x rfl ?c1 ?c2 (by omega) ?_)
  case c1 => simp
  case c2 =>
    intro hr
    have hn := Lib.bytesWorld_at_new w 5 ⟨s.toArray⟩
    have hsz : (Lib.bytesCells w 5 ⟨s.toArray⟩).size = grownCap w s.length 0 5 := by
      simp [Lib.bytesCells, ByteArray.size]; omega
    have hn2 : ((Lib.bytesWorld w 5 ⟨s.toArray⟩).alloc (.cells #[.int .u8 (x.toNat : Int)] 5)).heap[w.heap.size]? = some (.cells (Lib.bytesCells w 5 ⟨s.toArray⟩) 5 ((Lib.bytesCells w 5 ⟨s.toArray⟩).size, (Lib.bytesCells w 5 ⟨s.toArray⟩).size + 1)) := by
      rw [Below.heap_alloc _ _ _ (by rw [Hz.out]; omega)]; exact hn
    constructor
    · simp only [World.cell?, hn2]
      simp [hsz]; omega
    · simp only [World.frozen?, hn2]
      simp [hsz]; omega
  intro A c w2 hB hlc hcm hgr
  have hb2 : Below w.heap.size w w2 := by
    have h1 := (below_bytes w 5 ⟨s.toArray⟩).alloc (by rw [Hz.out]; omega) (.cells #[.int .u8 (x.toNat : Int)] 5)
    exact h1.grown hgr (by simp [Hz.out]; omega) (fun k hk => by injection hk with hk; omega)
  have hw2 : w.heap.size < w2.heap.size := by
    have := hgr.size
    simp [Hz.out] at this
    omega
  have ht2 : Tabs w2 := tabs_below ht hb2
  have hF2 : FeedAt w2 b s := H.out.below hb2 hlt
  have hl0 : (s ++ [x]).length = s.length + 1 := by simp
  clear hgr hcv hcap hcap2 hc
  have HF2 := Lib.hid hF2
  have Hb2 := Lib.hid hb2
  clear hF2 hb2
  rw [← hl0] at hlc ⊢
  have hl1 : (s ++ [x]).length ≤ 1000001 := by omega
  clear hl0
  generalize hl0e : s ++ [x] = l0 at *
  have Hl0 := Lib.hid hl0e
  clear hl0e
  clear hs
  obtain ⟨i1, hi1, hy0, hy1, hy2⟩ := info_parts info32
  go_wp2_with fail
  go_loopw [5, 6] (fun v5 v6 wr => ∃ A c l acc, PutAt w2 l0 v5 v6 wr A c l acc) (fun v5 _ _ => match v5 with | .slice _ n _ => n | _ => 0)
  case atStart => exact ⟨A, c, l0, [], rfl, hlc, hcm, hB, World.ownsRow_nil _ _ _ _, Below.refl _ _, by simp, by simp⟩
  case round =>
    clear hB hlc hcm
    obtain ⟨A, c, l, acc, rfl, hlc, hcm, hB, hown, hbel, hlen, hfeed⟩ := hrel
    have Hfeed := Lib.hid hfeed
    clear hfeed
    have hBr : Byt wr A l := hB.below hbel
    have htr : Tabs wr := tabs_below ht2 hbel
    cases hwh : wholeL l with
    | true =>
      have hwd := Lib.decodeL_width l
      have hne : l ≠ [] := wholeL_pos hwh
      have hle := Lib.decodeL_le l hne
      have hnx : nextL l = Lib.decodeL l := by simp [nextL, hne]
      have Hst := Lib.hid (feedL_step l hwh)
      have hcon := whole_calls A c l wr hBr htr
      rw [hwh] at hcon
      have Hcon := Lib.hid hcon
      have Hwh := Lib.hid hwh
      have Hnx := Lib.hid hnx
      clear hcon hwh hnx
      go_wp2_with fail
      refine Hcon.out.mono ?_
      rintro e w3 ⟨rfl, hb3⟩
      have hbel3 : Below w2.heap.size w2 w3 := hbel.trans (hb3.mono hbel.size)
      have hown3 : w3.ownsRow w2.heap.size 21 1 u6 acc.length (cells32 acc) := own_below (w := wr) hown hb3
      clear hBr htr
      go_wp2_with fail
      refine (next_calls A c l w3 (hB.below hbel3) hlc hcm).mono ?_
      rw [Hnx.out]
      rintro e w4 ⟨rfl, hb4⟩
      have hbel4 : Below w2.heap.size w2 w4 := hbel3.trans (hb4.mono hbel3.size)
      have hown4 : w4.ownsRow w2.heap.size 21 1 u6 acc.length (cells32 acc) := own_below hown3 hb4
      have hw4 : w2.heap.size ≤ w4.heap.size := hbel4.size
      clear hbel3 hown3 hb3 hb4 hown hbel
      have hsl := run_cut A c l (Lib.decodeL l).2 hle
      have Hown4 := Lib.hid hown4
      clear hown4
      go_wp2_with (at_builtin; refine wpList_append_own _ rfl _ _ 29 rfl w2.heap.size 21 i1 (.int .i32 0) 1 4 Tryd.underlying29 hi1 hy0 hy1 hy2 rfl (by decide) _ _ _ rfl (Hown4.out.alloc _) ⟨w4.heap.size, 0, none⟩ 1 1 [.int .i32 ((Lib.decodeL l).1 : Int)] rfl rfl ?c1 ?c2 ?c3 ?c4 ?c5 ?_)
      case c1 =>
        intro j u hj
        match j, hj with
        | 0, hj => simp at hj; subst hj; simp [Addr.add]
      case c2 => intro u hu; simp at hu; subst hu; rfl
      case c3 => unfold maxLen; omega
      case c4 => omega
      case c5 => simp; omega
      intro v' w5 hown5 hgrow _
      have Hown5 := Lib.hid hown5
      have hb5 : Below w2.heap.size w2 w5 := (hbel4.alloc hw4 _).grown hgrow (by simp; omega) (fun k hk => (Hown4.out.lt k hk).1)
      clear hown5 hgrow
      go_wp2_with fail
      refine ⟨⟨dropA A c (Lib.decodeL l).2, c - (Lib.decodeL l).2, l.drop (Lib.decodeL l).2, acc ++ [(Lib.decodeL l).1], ?_, ?_, ?_, hB.drop c _ hlc, ?_, hb5, ?_, ?_⟩, ?_⟩
      · simp
      · simp; omega
      · unfold maxLen at hcm ⊢; omega
      · rw [cells32_snoc]; simpa using Hown5.out
      · simp; omega
      · rw [← Hfeed.out, Hst.out]; simp
      · show l.length - (Lib.decodeL l).2 < l.length
        omega
    | false =>
      have Hst := Lib.hid (feedL_stop l hwh)
      have hcon := whole_calls A c l wr hBr htr
      rw [hwh] at hcon
      have Hcon := Lib.hid hcon
      have Hwh := Lib.hid hwh
      clear hcon hwh
      go_wp2_with fail
      refine Hcon.out.mono ?_
      rintro e w3 ⟨rfl, hb3⟩
      have hbel3 : Below w2.heap.size w2 w3 := hbel.trans (hb3.mono hbel.size)
      have hown3 : w3.ownsRow w2.heap.size 21 1 u6 acc.length (cells32 acc) := own_below (w := wr) hown hb3
      have hconv := (hB.below hbel3).convert (P := Tryd.prog) c 22 5 9 Tryd.underlying22 Tryd.underlying5 Tryd.underlying9 l.length rfl
      have hF3 : FeedAt w3 b s := HF2.out.below hbel3 (by omega)
      have hc3 := hF3.cell
      have hf3 := hF3.free
      have HF3 := Lib.hid hF3
      have hg3 : w.grownBy w3 (some b) := grown_of_below (Hb2.out.trans (hbel3.mono (by omega)))
      have Hg3 := Lib.hid hg3
      have Hown3 := Lib.hid hown3
      clear hF3 hg3 hBr htr hown hbel hb3 hown3
      go_wp2
      go_ret
      have hfe := Hfeed.out
      rw [Hst.out] at hfe
      simp only [List.append_nil] at hfe
      rw [Hl0.out, ← hfe]
      exact ⟨_, rfl, own_setCell (own_less Hown3.out (by omega)) (by omega) _, HF3.out.set_ l, grown_set Hg3.out _⟩
end Go.Proofs.YtknmlkkdonpibaaDoor
