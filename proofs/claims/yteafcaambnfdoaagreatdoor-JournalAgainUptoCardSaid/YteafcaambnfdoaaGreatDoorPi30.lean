/-
  Layer 7 and what it stands on, part 30 (WByte Plains).
-/
import Derived.Test.YteafcaambnfdoaaGreatDoorPi29
import Derived.Lib.FrozenHead2
namespace Go.Proofs.YteafcaambnfdoaaGreatDoor
section
open Go Go.RowKit
set_option maxHeartbeats 2000000 in
set_option maxRecDepth 100000 in
theorem writeByte_calls (B b : Nat) (bs : List Value) (c : Int) (w : World) (h : Lib.IsBuilderF 172 5 B b bs w) (hlen : bs.length + 1 ≤ 140737488355328) (hBw : B ≤ w.heap.size) :
  Calls Tryz.prog 119 #[.pointer (some ⟨b, 0, none⟩), .int .u8 c] w fun e w' => e = .returned .nilIface ∧
   (Lib.BuilderAtF 172 5 B b (.pointer (some ⟨b, 0, none⟩)) (bs ++ [.int .u8 c]) w' ∧ Below B w w' ∧ Lib.OthersKept 5 (some b) w w') := by
 obtain ⟨i0, hi, hz0, hz1, hz2⟩ := info_parts info8
 have hcc := copyCheck_calls B b bs w h
 have HC := Lib.hid hcc
 clear hcc h
 go_enter Tryz.func119, Tryz.ntmps119
 go_wp2_with fail
 refine HC.out.mono ?_
 rintro e w1 ⟨rfl, h1, hb1, hk1⟩
 obtain ⟨hB, v, hbk, hown, hne⟩ := h1
 have c0 : w1.cell? ⟨b, 0, none⟩ = some (.pointer (some ⟨b, 0, none⟩)) := by rw [Lib.cell_of_heap hbk]; rfl
 have c1 : w1.cell? ⟨b, 1, none⟩ = some v := by rw [Lib.cell_of_heap hbk]; rfl
 go_wp2_with (at_builtin; refine wpList_append_ownF _ rfl _ _ 30 rfl B 5 i0 (.int .u8 0) 1 1 Tryz.underlying30 hi hz0 hz1 hz2 rfl (by decide) _ _ _ rfl (hown.alloc _) ⟨w1.heap.size, 0, none⟩ 1 1 [.int .u8 c] rfl rfl ?c1 ?c2 ?c3 ?c4 ?c5 ?_)
 case c1 =>
  intro j u hj
  match j, hj with
  | 0, hj => simp at hj; subst hj; simp [Addr.add]
 case c2 => intro u hu; simp at hu; subst hu; rfl
 case c3 => unfold maxLen; omega
 case c4 => omega
 case c5 => have := hb1.size; simp; omega
 intro v' w2 hown' hgrow _
 have hlt : b < w1.heap.size := by
  rcases Nat.lt_or_ge b w1.heap.size with h' | h'
  ·exact h'
  ·simp [Array.getElem?_eq_none h'] at hbk
 have hb2 : w2.heap[b]? = some (.cells #[.pointer (some ⟨b, 0, none⟩), v] 172 (0, 0)) := by
  rw [hgrow.block b (by simp; omega) (fun e => hne e.symm), Lib.alloc_old w1 _ b hlt]
  exact hbk
 have d0 : w2.cell? ⟨b, 0, none⟩ = some (.pointer (some ⟨b, 0, none⟩)) := by rw [Lib.cell_of_heap hb2]; rfl
 have d1 : w2.cell? ⟨b, 1, none⟩ = some v := by rw [Lib.cell_of_heap hb2]; rfl
 have f1 : w2.frozen? ⟨b, 1, none⟩ = false := Lib.frozen_of_heap hb2 1
 obtain ⟨g, cap, rfl⟩ : ∃ g cap, v' = .slice (some ⟨g, 0, none⟩) (bs.length + 1) cap := by
  rcases hown'.2 with ⟨_, h0⟩ | ⟨g, cap, cur, fz, hv, _⟩
  ·omega
  ·exact ⟨g, cap, hv⟩
 go_wp2
 go_ret
 refine ⟨rfl, ?_, ?_, ((hk1.alloc _).grown hgrow (Lib.ownsRowF_kind (hown.alloc _))).setCell ⟨b, 1, none⟩ rfl _⟩
 ·exact Lib.BuilderAtF.put (T := 172) (e := 5) hB hb2 (bs' := bs ++ [.int .u8 c]) (by simpa using hown') (by decide)
 ·exact ((hb1.alloc (by have := hb1.size; omega) _).grown hgrow (by have := hb1.size; simp; omega) (fun k hk => (hown.lt k hk).1)).setCell (p := ⟨b, 1, none⟩) hB _
end
section
open Go Go.RowKit
open Go.Lib (hid)
def plTail (l : List UInt8) : List UInt8 := encL ((runes l).flatMap plR)
theorem plTail_nil : plTail [] = [] := rfl
theorem plTail_drop (s : ByteArray) (pos : Nat) (h : pos < s.size) : plTail (s.data.toList.drop pos) = encL (plR (Utf8.decode s pos).1) ++ plTail (s.data.toList.drop (pos + (Utf8.decode s pos).2)) := by
 unfold plTail
 rw [runes_drop s pos h, List.flatMap_cons, encL_append]
theorem plTail_clean (l : List UInt8) : plTail (cleanL l) = plainL l := by
 unfold plTail plainL
 rw [runes_clean]
theorem encL_one (r : Nat) : encL [r] = Lib.encodeRune (r : Int) := by simp [encL]
theorem enc_blank : Lib.encodeRune ((32 : Nat) : Int) = [32] := by decide +kernel
set_option maxHeartbeats 4000000 in
set_option maxRecDepth 100000 in
theorem plain_calls (l : List UInt8) (hl : l.length ≤ 137438953472) (w : World) :
  Calls Tryz.prog 100 #[.string (bs l)] w fun e w' => e = .returned (.string (bs (plainL l))) ∧ Below w.heap.size w w' := by
 have hs6 := Lib.run_convert_string_bytes (P := Tryz.prog) (w.alloc (.cells #[.pointer none, .slice none 0 0] 172)) 9 30 5 (bs l) Tryz.underlying9 Tryz.underlying30 Tryz.underlying5
 have hcap := grownCap_ge (w.alloc (.cells #[.pointer none, .slice none 0 0] 172)) l.length 0 5
 have kw := below_bytes (w.alloc (.cells #[.pointer none, .slice none 0 0] 172)) 5 ⟨l.toArray⟩
 have hsz := bs_size l
 have hby := byt_bytes (w.alloc (.cells #[.pointer none, .slice none 0 0] 172)) l
 rw [World.size_alloc] at hby
 have Hcl := hid (clean_calls (some ⟨w.heap.size + 1, 0, none⟩) (grownCap (w.alloc (.cells #[.pointer none, .slice none 0 0] 172)) l.length 0 5) l _ hby (by omega))
 clear hby
 have hfb : (w.alloc (.cells #[.pointer none, .slice none 0 0] 172)).heap[w.heap.size]? = some (.cells #[.pointer none, .slice none 0 0] 172 (0, 0)) := heap_alloc_new w _
 have hk0 : Below w.heap.size w (w.alloc (.cells #[.pointer none, .slice none 0 0] 172)) := (Below.refl _ w).alloc (Nat.le_refl _) _
 have hwz : (w.alloc (.cells #[.pointer none, .slice none 0 0] 172)).heap.size = w.heap.size + 1 := by simp
 have htl := hid (plTail_clean l)
 have hcln := clean_length l
 have Hfb := hid hfb
 have Hk0 := hid hk0
 have Hkw := hid kw
 have Hwz := hid hwz
 clear hfb hk0 kw hwz hcap
 generalize cleanL l = cl at *
 generalize plainL l = pl at *
 go_enter Tryz.func100, Tryz.ntmps100
 go_wp2_with fail
 refine Hcl.out.mono ?_
 rintro e w1 ⟨rfl, hb1⟩
 have k1 := Hkw.out.trans (hb1.mono Hkw.out.size)
 have hB1 : Below w.heap.size w w1 := Hk0.out.trans (k1.mono Hk0.out.size)
 have hfb1 : w1.heap[w.heap.size]? = some (.cells #[.pointer none, .slice none 0 0] 172 (0, 0)) := (k1.block _ (by rw [Hwz.out]; omega)).trans Hfb.out
 have hsz1 : w.heap.size < w1.heap.size := by have := k1.size; rw [Hwz.out] at this; omega
 have Hfb1 := hid hfb1
 have HB1 := hid hB1
 clear hb1 k1 hfb1 hB1 Hfb Hk0 Hkw Hwz Hcl hs6
 have hbs : (⟨cl.toArray⟩ : ByteArray) = bs cl := rfl
 rw [hbs]
 have hcs := bs_size cl
 have Hcd : Hid ((bs cl).data.toList = cl) := hid rfl
 generalize bs cl = s at *
 go_wp2_with fail
 go_loopw [] (fun wr => ∃ (pos : Nat) (acc : List UInt8), Lib.IsBuilderF 172 5 w.heap.size w.heap.size (Lib.byteCells acc) wr ∧ wr.heap[w1.heap.size]? = some (.stringIter s pos) ∧ Below w.heap.size w wr ∧ Hid (acc ++ plTail (s.data.toList.drop pos) = pl) ∧ acc.length ≤ 4 * pos) (fun wr => s.size - wr.iterPos w1.heap.size)
 case atStart =>
  refine ⟨0, [], Lib.IsBuilderF.alloc (.inl ?_) _, World.iter_heap w1 s 0, HB1.out.alloc HB1.out.size _, hid ?_, by simp⟩
  ·exact Lib.BuilderAtF.of ⟨Nat.le_refl _, .slice none 0 0, Hfb1.out, World.ownsRow_nil _ _ _ _, by simp [Value.ownBlock]⟩
  ·rw [Hcd.out, List.drop_zero, htl.out]; rfl
 case round =>
  obtain ⟨pos, acc, hI, hit, hbw, hacc, hal⟩ := hrel
  have hszw : w1.heap.size < wr.heap.size := (Array.getElem?_eq_some_iff.1 hit).1
  by_cases hp : pos < s.size
  ·have hnx : ∀ ty, (Instr.next (.pointer (some ⟨w1.heap.size, 0, none⟩)) true ty).run Tryz.prog wr = _ := fun ty => Lib.run_next_any_at wr w1.heap.size s pos ty hit hp
   have hwd := Lib.width_pos s pos
   have hd1 := decode_le s pos
   have hI2 := hI.iterAt hit (pos + (Utf8.decode s pos).2)
   have hit2 := Lib.iterAt_heap wr w1.heap.size s pos (pos + (Utf8.decode s pos).2) hit
   have hbw2 := Lib.below_iterAt hbw (k := w1.heap.size) (by omega) s (pos + (Utf8.decode s pos).2)
   have hsz2 : w.heap.size ≤ (wr.iterAt w1.heap.size s (pos + (Utf8.decode s pos).2)).heap.size := by rw [Lib.iterAt_size]; omega
   have hst := hid (plTail_drop s pos hp)
   have hdi := decode_in s pos hp
   have Hm0 := hid (show wr.iterPos w1.heap.size = pos from iterPos_of hit)
   have Hit2 := hid hit2
   have Hbw2 := hid hbw2
   have Hsz2 := hid hsz2
   clear hit2 hbw2 hsz2 hI hbw hit
   generalize hr : (Utf8.decode s pos).1 = r at *
   generalize hz : (Utf8.decode s pos).2 = z at *
   by_cases h9 : r = 9 ∨ r = 10 ∨ r = 13
   ·have Hpl : Hid (plR r = [32]) := hid (by unfold plR; rw [if_pos h9])
    have HW := hid (writeByte_calls w.heap.size w.heap.size (Lib.byteCells acc) 32 _ hI2 (by rw [Lib.byteCells_length]; omega) Hsz2.out)
    clear hI2
    have hrel' : ∀ W1, Lib.BuilderAtF 172 5 w.heap.size w.heap.size (.pointer (some ⟨w.heap.size, 0, none⟩)) (Lib.byteCells acc ++ [.int .u8 32]) W1 → Below w.heap.size (wr.iterAt w1.heap.size s (pos + z)) W1 → Lib.OthersKept 5 (some w.heap.size) (wr.iterAt w1.heap.size s (pos + z)) W1 →
      ∃ (pos' : Nat) (acc' : List UInt8), Lib.IsBuilderF 172 5 w.heap.size w.heap.size (Lib.byteCells acc') W1 ∧ W1.heap[w1.heap.size]? = some (.stringIter s pos') ∧ Below w.heap.size w W1 ∧ Hid (acc' ++ plTail (s.data.toList.drop pos') = pl) ∧ acc'.length ≤ 4 * pos' := by
     intro W1 h1 b1 k1
     refine ⟨pos + z, acc ++ [32], .inr (by simpa [Lib.byteCells] using h1), k1.iter Hit2.out (by omega), Hbw2.out.trans b1, hid ?_, by simp; omega⟩
     rw [← hacc.out, hst.out, Hpl.out, encL_one, enc_blank, List.append_assoc]
    have Hrel' := hid hrel'
    clear hrel'
    rcases h9 with rfl | rfl | rfl
    ·go_wp2_with fail
     refine HW.out.mono ?_
     rintro e W1 ⟨rfl, h1, b1, k1⟩
     go_wp2
     go_roundw
     case rel => exact Hrel'.out W1 h1 b1 k1
     case measure => rw [Hm0.out, iterPos_of (k1.iter Hit2.out (by omega))]; omega
    ·go_wp2_with fail
     refine HW.out.mono ?_
     rintro e W1 ⟨rfl, h1, b1, k1⟩
     go_wp2
     go_roundw
     case rel => exact Hrel'.out W1 h1 b1 k1
     case measure => rw [Hm0.out, iterPos_of (k1.iter Hit2.out (by omega))]; omega
    ·go_wp2_with fail
     refine HW.out.mono ?_
     rintro e W1 ⟨rfl, h1, b1, k1⟩
     go_wp2
     go_roundw
     case rel => exact Hrel'.out W1 h1 b1 k1
     case measure => rw [Hm0.out, iterPos_of (k1.iter Hit2.out (by omega))]; omega
   ·have e9 : ((r : Int) == 9) = false := beq_eq_false_iff_ne.2 (by omega)
    have e10 : ((r : Int) == 10) = false := beq_eq_false_iff_ne.2 (by omega)
    have e13 : ((r : Int) == 13) = false := beq_eq_false_iff_ne.2 (by omega)
    have HC := hid (fun W => ctl_calls (r : Int) W (by omega) (by omega))
    cases hc : ctlL (r : Int) with
    | true =>
     have Hpl : Hid (plR r = []) := hid (by unfold plR; rw [if_neg h9, if_pos hc])
     have HI2 := hid hI2
     rw [hc] at HC
     clear hI2 h9 hc
     go_wp2_with fail
     refine (HC.out _).mono ?_
     rintro e W1 ⟨rfl, rfl⟩
     go_wp2
     go_roundw
     case rel =>
      refine ⟨pos + z, acc, HI2.out, Hit2.out, Hbw2.out, hid ?_, by omega⟩
      rw [← hacc.out, hst.out, Hpl.out]; rfl
     case measure => rw [Hm0.out, iterPos_of Hit2.out]; omega
    | false =>
     have Hpl : Hid (plR r = [r]) := hid (by unfold plR; rw [if_neg h9, if_neg (by simp [hc])])
     have HW := hid (writeRune_calls w.heap.size w.heap.size (Lib.byteCells acc) (r : Int) (by omega) (by omega) _ hI2 (by rw [Lib.byteCells_length]; omega) Hsz2.out)
     rw [hc] at HC
     clear hI2 h9 hc
     go_wp2_with fail
     refine (HC.out _).mono ?_
     rintro e W0 ⟨rfl, rfl⟩
     go_wp2_with fail
     refine HW.out.mono ?_
     rintro e W1 ⟨rfl, h1, b1, k1⟩
     go_wp2
     go_roundw
     case rel =>
      have hl4 := Lib.runeCells_le (r : Int)
      rw [Lib.runeCells_length] at hl4
      refine ⟨pos + z, acc ++ Lib.encodeRune (r : Int), .inr ?_, k1.iter Hit2.out (by omega), Hbw2.out.trans b1, hid ?_, by simp; omega⟩
      ·rw [Lib.byteCells_append, Lib.byteCells_encodeRune]; exact h1
      ·rw [← hacc.out, hst.out, Hpl.out, encL_one, List.append_assoc]
     case measure => rw [Hm0.out, iterPos_of (k1.iter Hit2.out (by omega))]; omega
  ·have hnx : ∀ ty, (Instr.next (.pointer (some ⟨w1.heap.size, 0, none⟩)) true ty).run Tryz.prog wr = _ := fun ty => Lib.run_next_end_at wr w1.heap.size s pos ty hit hp
   have HS := hid (Tryz.Builder_String_any_k w.heap.size w.heap.size acc _ hI (by omega))
   have h0 : s.data.toList.drop pos = [] := List.drop_eq_nil_of_le (by rw [← Lib.size_eq]; omega)
   have ha := hacc.out
   rw [h0, plTail_nil, List.append_nil] at ha
   have Ha := hid ha
   have Hbw := hid hbw
   clear hacc ha h0 hI hbw
   go_wp2_with fail
   refine HS.out.mono ?_
   rintro e W1 ⟨rfl, _, b1, _⟩
   go_wp2
   go_ret
   exact ⟨by rw [← Ha.out]; rfl, Hbw.out.trans b1⟩
end
end Go.Proofs.YteafcaambnfdoaaGreatDoor
