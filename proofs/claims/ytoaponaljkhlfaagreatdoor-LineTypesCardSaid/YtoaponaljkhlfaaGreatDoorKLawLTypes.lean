/-
  LineTypes (layer 7).
-/
import Derived.Test.YtoaponaljkhlfaaGreatDoorPt39
import Derived.Test.YtoaponaljkhlfaaGreatDoorPt40
namespace Go.Proofs.YtoaponaljkhlfaaGreatDoor
open Go Go.RowKit
set_option maxRecDepth 100000

theorem neT (x : ByteArray) (n : Int) (W : World) : (binOp .neq 43 (.agg #[.string x, .int .i64 n]) (.agg #[.string x, .int .i64 n])).run Tryz.prog W = .ok (.bool false) W := by
  have h1 := Tryz.underlying43
  have h2 := Tryz.underlying9
  have h3 := Tryz.underlying3
  rw [run_neq_struct]
  go_simp
/-- Where a line stands with the beginning of a text typed. -/
structure TypAt (l : List UInt8) (pos : Nat) (s : LN) : Prop where
  buf : s.buf.2 = s.buf.1.length
  rest : s.buf.1 ++ plainL (l.drop pos) = plainL l
  ring : s.ring.l = []
theorem plain_sign (r : Nat) (h : Valid r) : plainL (Lib.encodeRune (r : Int)) = encL (plR r) := by
  unfold plainL
  rw [show Lib.encodeRune (r : Int) = encL [r] by simp [encL], runes_enc [r] (fun x hx => by rw [List.mem_singleton.1 hx]; exact h)]
  simp
theorem TypAt.step {s : ByteArray} (hl : s.size ≤ 150) {pos : Nat} {st : LN} (h : TypAt (bl s) pos st) (hp : pos < s.size) :
    TypAt (bl s) (pos + (Utf8.decode s pos).2) (st.key 1 (Lib.encodeRune ((Utf8.decode s pos).1 : Int))) := by
  have hr := runes_drop s pos hp
  have hv : Valid (Utf8.decode s pos).1 := runes_valid ((bl s).drop pos) _ (by show _ ∈ runes (s.data.toList.drop pos); rw [hr]; exact List.mem_cons_self)
  have hpl : plainL ((bl s).drop pos) = plainL (Lib.encodeRune ((Utf8.decode s pos).1 : Int)) ++ plainL ((bl s).drop (pos + (Utf8.decode s pos).2)) := by
    rw [plain_sign _ hv]
    show plainL (s.data.toList.drop pos) = _ ++ plainL (s.data.toList.drop _)
    unfold plainL
    rw [hr, List.flatMap_cons, encL_append]
  have hlen : (plainL (bl s)).length ≤ 600 := by
    have h1 := plain_length (bl s)
    have h2 : (bl s).length = s.size := by unfold bl; simp
    omega
  have h3 := h.rest
  rw [hpl] at h3
  have hfit : st.buf.1.length + (plainL (Lib.encodeRune ((Utf8.decode s pos).1 : Int))).length ≤ 600 := by
    have := congrArg List.length h3
    rw [List.length_append, List.length_append] at this
    omega
  obtain ⟨k1, k2⟩ := LN.ins_end (s := st) (l := st.buf.1) (Prod.ext rfl h.buf) (Lib.encodeRune ((Utf8.decode s pos).1 : Int)) hfit
  refine ⟨?_, ?_, ?_⟩
  · rw [k1]
  · rw [k1, List.append_assoc]
    exact h3
  · rw [k2]; exact h.ring
theorem TypAt.done {s : ByteArray} {st : LN} (h : TypAt (bl s) s.size st) : st.buf = (plainL (bl s), (plainL (bl s)).length) := by
  have h1 := h.rest
  have h2 : (bl s).length = s.size := by unfold bl; simp
  rw [← h2, List.drop_length, show plainL [] = [] from rfl, List.append_nil] at h1
  exact Prod.ext h1 (by rw [h.buf, h1])
/-- .. and with some of its clusters gone again. -/
structure LN.BspAt (p : List UInt8) (pos : Nat) (s : LN) : Prop where
  at_ : ∃ m, m ≤ (cutL p).length ∧ m ≤ (runes (p.drop pos)).length ∧ s.buf = (((cutL p).take m).flatten, ((cutL p).take m).flatten.length)
  ring : s.ring.l = []
theorem LN.BspAt.start {p : List UInt8} (hp : PlainP p) {s : LN} (hb : s.buf = (p, p.length)) (hr : s.ring.l = []) : LN.BspAt p 0 s := by
  refine ⟨⟨(cutL p).length, Nat.le_refl _, LN.cut_runes _ p (Nat.le_refl _) hp, ?_⟩, hr⟩
  rw [List.take_length, cutL_flatten]
  exact hb
theorem LN.BspAt.step {p : List UInt8} (hp : PlainP p) {pos : Nat} {s : LN} (h : LN.BspAt p pos s) (hlt : pos < (bs p).size) : LN.BspAt p (pos + (Utf8.decode (bs p) pos).2) (s.key 3 []) := by
  obtain ⟨m, h1, h2, h3⟩ := h.at_
  obtain ⟨k1, k2⟩ := LN.bsp hp m h1 h3
  have hr := runes_drop (bs p) pos hlt
  rw [show (bs p).data.toList = p from rfl] at hr
  refine ⟨⟨m - 1, by omega, ?_, k1⟩, by rw [k2]; exact h.ring⟩
  rw [hr, List.length_cons] at h2
  omega
theorem LN.BspAt.done {p : List UInt8} {s : LN} (h : LN.BspAt p p.length s) : s.buf = ([], 0) := by
  obtain ⟨m, h1, h2, h3⟩ := h.at_
  rw [List.drop_length] at h2
  have : m = 0 := Nat.le_zero.1 h2
  subst this
  rw [h3]
  rfl

set_option maxHeartbeats 8000000 in
theorem ltypes_calls (s : ByteArray) (w : World) (hsp : Spans w) :
    Calls Tryz.prog 6 #[.string s] w fun e w' => e = .returned (.bool true) ∧ Below w.heap.size w w' := by
  have HS := Lib.hid hsp
  by_cases hn : 150 < s.size
  · have Hal := Lib.hid (lalive_calls w hsp)
    have d1 : (150 : Int) < (s.size : Int) := by omega
    clear hsp hn
    go_enter Tryz.func6, Tryz.ntmps6
    go_wp2_with fail
    refine Hal.out.mono ?_
    rintro e w2 ⟨rfl, hb⟩
    go_wp2_with fail
    go_ret
    exact ⟨rfl, hb⟩
  · have d1 : ¬ (150 : Int) < (s.size : Int) := by omega
    have hs150 : s.size ≤ 150 := by omega
    clear hsp hn
    go_enter Tryz.func6, Tryz.ntmps6
    go_wp2_with fail
    refine (new_callsL w HS.out).mono ?_
    rintro e w1 ⟨b, rfl, hi⟩
    have HI : Hid (LnX w w1 (fun _ => False) b LN.new dr0 ds0 0 1000) := Lib.hid (LnX.start hi (LN.new_sm 1000))
    have HT0 : Hid (TypAt (bl s) 0 LN.new) := Lib.hid ⟨rfl, rfl, rfl⟩
    clear hi
    go_wp2_with fail
    go_loopw [5] (fun _ wr => ∃ pos st, pos ≤ s.size ∧ wr.heap[w1.heap.size]? = some (.stringIter s pos) ∧ Hid (LnX w wr (fun k => k = w1.heap.size) b st dr0 ds0 0 1000) ∧ Hid (TypAt (bl s) pos st)) (fun _ wr => s.size - wr.iterPos w1.heap.size)
    case atStart => exact ⟨0, LN.new, Nat.zero_le _, World.iter_heap w1 _ 0, Lib.hid (HI.out.new (below_iter w1 _ 0) (fun k (hk : k = w1.heap.size) => ⟨by omega, by rw [hk]; exact (Array.getElem?_eq_some_iff.1 (World.iter_heap w1 s 0)).1⟩)), HT0⟩
    case round =>
      clear HI HT0
      obtain ⟨pos, st, hle, hit, hX, hT⟩ := hrel
      by_cases hp : pos < s.size
      · have hnx : ∀ ty, (Instr.next (.pointer (some ⟨w1.heap.size, 0, none⟩)) true ty).run Tryz.prog wr = _ := fun ty => Lib.run_next_any_at wr w1.heap.size s pos ty hit hp
        have hst := hT.out.step hs150 hp
        have hdec := decode_in s pos hp
        have hwd := Lib.width_pos s pos
        have H2 := Lib.hid (hX.out.store (M := w1.heap.size) rfl (only_iter wr w1.heap.size s (pos + (Utf8.decode s pos).2)))
        have hit2 := Lib.iterAt_heap wr w1.heap.size s pos (pos + (Utf8.decode s pos).2) hit
        have He : Hid (Utf8.encode ((Utf8.decode s pos).1 : Int) = bs (Lib.encodeRune ((Utf8.decode s pos).1 : Int))) := Lib.hid (encode_enc _)
        have Hle : Hid ((Lib.encodeRune ((Utf8.decode s pos).1 : Int)).length ≤ 100000) := Lib.hid (by have := encL_length [(Utf8.decode s pos).1]; simp [encL] at this; omega)
        have Hit := Lib.hid hit
        have Hit2 := Lib.hid hit2
        have HT := Lib.hid hst
        clear hit hit2 hX hT hst
        generalize (Utf8.decode s pos).1 = r at *
        generalize (Utf8.decode s pos).2 = dn at *
        go_wp2_with fail
        rw [He.out]
        refine (H2.out.line (C' := 1000) (LN.key_sm0 H2.out.sm 1 _ rfl) (fun O F hl => key_callsL _ O F b _ hl (spans_below HS.out H2.out.bel) 1 _ Hle.out (H2.out.sm.mono (by decide)))).mono ?_
        rintro e w2 ⟨rfl, hx, ho⟩
        have hit3 : w2.heap[w1.heap.size]? = some (.stringIter s (pos + dn)) := (ho.block _ (by exact (Array.getElem?_eq_some_iff.1 Hit2.out).1) (fun h => h rfl)).trans Hit2.out
        have HX := Lib.hid hx
        have Hit3 := Lib.hid hit3
        clear hx hit3 ho
        go_wp2_with fail
        go_roundw
        case rel => exact ⟨pos + dn, _, by omega, Hit3.out, HX, HT⟩
        case measure =>
          rw [iterPos_of Hit3.out, iterPos_of Hit.out]
          omega
      · have hnx : ∀ ty, (Instr.next (.pointer (some ⟨w1.heap.size, 0, none⟩)) true ty).run Tryz.prog wr = _ := fun ty => Lib.run_next_end_at wr w1.heap.size s pos ty hit hp
        obtain rfl : pos = s.size := by omega
        have hbuf := hT.out.done
        have Hrg := Lib.hid hT.out.ring
        have hpp := plain_P (bl s)
        have hpl : (plainL (bl s)).length ≤ 600 := by
          have h1 := plain_length (bl s)
          have h2 : (bl s).length = s.size := by unfold bl; simp
          omega
        have HP : Hid (∀ W, Calls Tryz.prog 19 #[.string s] W fun e w' => e = .returned (.string (bs (plainL (bl s)))) ∧ Below W.heap.size W w') := Lib.hid (fun W => by
          have := plain_calls (bl s) (by have h2 : (bl s).length = s.size := by { unfold bl; simp }; omega) W
          rwa [bs_bl] at this)
        generalize plainL (bl s) = p at *
        have HPP := Lib.hid hpp
        have HBf := Lib.hid hbuf
        have HM : Hid (∀ W, Calls Tryz.prog 20 #[.string (bs p), .int .i64 0] W fun e w' => e = .returned (.agg #[.string (bs p), .int .i64 (mA p 0 : Int)]) ∧ Below W.heap.size W w') := Lib.hid (fun W => by
          have := rmake_calls p 0 (Nat.le_trans hpl (by decide)) W
          rwa [mS_of hpp hpl] at this)
        have HX : Hid (LnX w wr (fun _ => False) b st dr0 ds0 0 1000) := Lib.hid (hX.out.out (fun _ h => h.elim))
        have hsz := bs_size p
        clear hX hT hit hpp hbuf
        go_wp2_with fail
        refine (HP.out wr).mono ?_
        rintro e w3 ⟨rfl, hb3⟩
        have HX3 := Lib.hid (HX.out.below hb3)
        clear hb3 HX HP
        go_wp2_with fail
        refine (HX3.out.rd (fun O F hl => buf_callsL w3 O F b st hl (spans_below HS.out HX3.out.bel))).mono ?_
        rintro e w4 ⟨rfl, hx, _⟩
        rw [HBf.out]
        have HX4 := Lib.hid hx
        have q1 := neT (bs p) (p.length : Int)
        clear hx HX3
        go_wp2_with fail
        refine (HM.out w4).mono ?_
        rintro e w5 ⟨rfl, hb5⟩
        have HX5 := Lib.hid (HX4.out.below hb5)
        have fr := field_rbuf0 (.string (bs p)) (.int .i64 (mA p 0 : Int))
        have HB0 := Lib.hid (LN.BspAt.start HPP.out HBf.out Hrg.out)
        clear hb5 HX4 q1 HM
        generalize mA p 0 = ma at *
        go_wp2_with fail
        go_loopw [37] (fun _ wr => ∃ pos st, pos ≤ (bs p).size ∧ wr.heap[w5.heap.size]? = some (.stringIter (bs p) pos) ∧ Hid (LnX w wr (fun k => k = w5.heap.size) b st dr0 ds0 0 1000) ∧ Hid (LN.BspAt p pos st)) (fun _ wr => (bs p).size - wr.iterPos w5.heap.size)
        case atStart => exact ⟨0, st, Nat.zero_le _, World.iter_heap w5 _ 0, Lib.hid (HX5.out.new (below_iter w5 _ 0) (fun k (hk : k = w5.heap.size) => ⟨by omega, by rw [hk]; exact (Array.getElem?_eq_some_iff.1 (World.iter_heap w5 (bs p) 0)).1⟩)), HB0⟩
        case round =>
          clear HX5 HB0
          obtain ⟨pos, st, hle, hit, hX, hB⟩ := hrel
          by_cases hp : pos < (bs p).size
          · have hnx : ∀ ty, (Instr.next (.pointer (some ⟨w5.heap.size, 0, none⟩)) true ty).run Tryz.prog wr = _ := fun ty => Lib.run_next_any_at wr w5.heap.size (bs p) pos ty hit hp
            have hst := hB.out.step HPP.out hp
            have hdec := decode_in (bs p) pos hp
            have hwd := Lib.width_pos (bs p) pos
            have H2 := Lib.hid (hX.out.store (M := w5.heap.size) rfl (only_iter wr w5.heap.size (bs p) (pos + (Utf8.decode (bs p) pos).2)))
            have hit2 := Lib.iterAt_heap wr w5.heap.size (bs p) pos (pos + (Utf8.decode (bs p) pos).2) hit
            have Hit := Lib.hid hit
            have Hit2 := Lib.hid hit2
            have HB := Lib.hid hst
            clear hit hit2 hX hB hst
            generalize (Utf8.decode (bs p) pos).1 = r at *
            generalize (Utf8.decode (bs p) pos).2 = dn at *
            go_wp2_with fail
            refine (H2.out.line (C' := 1000) (LN.key_sm0 H2.out.sm 3 [] rfl) (fun O F hl => key_callsL _ O F b _ hl (spans_below HS.out H2.out.bel) 3 [] (by decide) (H2.out.sm.mono (by decide)))).mono ?_
            rintro e w7 ⟨rfl, hx, ho⟩
            have hit3 : w7.heap[w5.heap.size]? = some (.stringIter (bs p) (pos + dn)) := (ho.block _ (by exact (Array.getElem?_eq_some_iff.1 Hit2.out).1) (fun h => h rfl)).trans Hit2.out
            have HX := Lib.hid hx
            have Hit3 := Lib.hid hit3
            clear hx hit3 ho
            go_wp2_with fail
            go_roundw
            case rel => exact ⟨pos + dn, _, by omega, Hit3.out, HX, HB⟩
            case measure =>
              rw [iterPos_of Hit3.out, iterPos_of Hit.out]
              omega
          · have hnx : ∀ ty, (Instr.next (.pointer (some ⟨w5.heap.size, 0, none⟩)) true ty).run Tryz.prog wr = _ := fun ty => Lib.run_next_end_at wr w5.heap.size (bs p) pos ty hit hp
            obtain rfl : pos = (bs p).size := by omega
            rw [hsz] at hB
            have Hbf := Lib.hid hB.out.done
            have Hrg := Lib.hid hB.out.ring
            have HX : Hid (LnX w wr (fun _ => False) b st dr0 ds0 0 1000) := Lib.hid (hX.out.out (fun _ h => h.elim))
            clear hX hB hit
            go_wp2_with fail
            refine (lalive_calls wr (spans_below HS.out HX.out.bel)).mono ?_
            rintro e w8 ⟨rfl, hb8⟩
            have HX8 := Lib.hid (HX.out.below hb8)
            clear hb8 HX
            go_wp2_with fail
            refine (HX8.out.rd (fun O F hl => buf_callsL w8 O F b st hl (spans_below HS.out HX8.out.bel))).mono ?_
            rintro e w9 ⟨rfl, hx, _⟩
            rw [Hbf.out]
            rw [show bs (([] : List UInt8), 0).1 = ({ data := #[] } : ByteArray) from rfl]
            have HX9 := Lib.hid hx
            have q2 := eqT ({ data := #[] } : ByteArray) 0
            clear hx HX8
            go_wp2_with fail
            refine (HX9.out.rd (E := fun e w' => ∃ A c, e = .returned (.slice A st.ring.l.length c) ∧ RdV Value.string w' A st.ring.l) (fun O F hl => (kills_callsL w9 O F b st hl (spans_below HS.out HX9.out.bel)).mono (fun _ _ hh => by obtain ⟨A, c, e1, e2, e3⟩ := hh; exact ⟨⟨A, c, e1, e2⟩, e3⟩))).mono ?_
            rintro e w10 ⟨⟨A, c, rfl, _⟩, hx, _⟩
            rw [Hrg.out]
            have HX10 := Lib.hid hx
            clear hx HX9
            go_wp2_with fail
            go_ret
            exact ⟨rfl, HX10.out.bel⟩
end Go.Proofs.YtoaponaljkhlfaaGreatDoor
