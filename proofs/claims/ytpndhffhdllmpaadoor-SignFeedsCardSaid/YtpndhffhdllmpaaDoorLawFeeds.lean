/-
  The walk of SignFeeds.
-/
import Derived.Test.YtpndhffhdllmpaaDoorTail
namespace Go.Proofs.YtpndhffhdllmpaaDoor
open Go Go.RowKit

/-- What stands at the head of a round of SignFeeds: i bytes have come, acc was told, s waits. -/
def FeedsAt (w : World) (b : List UInt8) (v4 v5 v19 : Value) (wr : World) (i : Nat) (acc : List Nat) (s : List UInt8) (A : Option Addr) (c : Nat) : Prop :=
  i ≤ b.length ∧ v19 = .int .i64 (i : Int) ∧ v5 = .slice A s.length c ∧ s.length ≤ 3 ∧ Tail wr (w.heap.size + 1) A c s ∧ wr.ownsRow (w.heap.size + 1) 21 1 v4 acc.length (cells32 acc) ∧
    FeedAt wr w.heap.size s ∧ Below w.heap.size w wr ∧ w.heap.size < wr.heap.size ∧ acc ++ runes (s ++ b.drop i) = runes b
/-- .. of a round of its inner loop: l waits yet, k signs were held. -/
def HeldAt (w2 : World) (base : Nat) (gl : List Nat) (sp : List UInt8) (v5 v9 : Value) (wr : World) (A : Option Addr) (c : Nat) (l : List UInt8) (k : Nat) : Prop :=
  v5 = .slice A l.length c ∧ v9 = .int .i64 (k : Int) ∧ l.length ≤ 4 ∧ k ≤ gl.length ∧ Tail w2 base A c l ∧ Below w2.heap.size w2 wr ∧ gl.drop k = (feedL l).1 ∧ (feedL l).2 = sp

theorem feed_kept {w w' : World} {B0 : Nat} {s : List UInt8} {row : Option Nat} (h : FeedAt w B0 s) (hg : w.grownBy w' row) (hr : ∀ g, row = some g → B0 < g) : FeedAt w' B0 s :=
  (hg.block B0 h.lt (fun e => by have := hr B0 e.symm; omega)).trans h
theorem tail_kept {w w' : World} {base : Nat} {A : Option Addr} {c : Nat} {s : List UInt8} {row : Option Nat} (h : Tail w base A c s) (hg : w.grownBy w' row) (hr : ∀ g, rowOf A = some g → row ≠ some g) : Tail w' base A c s :=
  h.keep fun g hgA hlt => hg.block g hlt (fun e => hr g hgA e.symm)
theorem own_kept {w w' : World} {base : Nat} {e : TypeId} {size : Nat} {v : Value} {n : Nat} {xs : List Value} {row : Option Nat} (h : w.ownsRow base e size v n xs) (hg : w.grownBy w' row) (hr : ∀ g, v.ownBlock = some g → row ≠ some g) : w'.ownsRow base e size v n xs := by
  refine h.kept hg ?_
  cases hv : v.ownBlock with
  | none => exact .inl rfl
  | some g => exact .inr (fun e => hr g hv e.symm)

set_option maxHeartbeats 8000000 in
set_option maxRecDepth 100000 in
theorem lfeeds_calls (A0 : Option Addr) (c0 : Nat) (b : List UInt8) (w : World) (hb : Byt w A0 b) (hlc : b.length ≤ c0) (hm : c0 ≤ maxLen) (ht : Tabs w) :
    Calls Tryd.prog 6 #[.slice A0 b.length c0] w fun e w' => e = .returned (.bool true) ∧ Below w.heap.size w w' := by
  by_cases hbig : 1000 < b.length
  · have hcon := Lib.hid (alive_calls w ht)
    clear hb ht hm
    go_enter Tryd.func6, Tryd.ntmps6
    go_wp2_with fail
    refine hcon.out.mono ?_
    rintro e w' ⟨rfl, h⟩
    go_wp2
    go_ret
    exact ⟨rfl, h⟩
  obtain ⟨i0, hi, hz0, hz1, hz2⟩ := info_parts info8
  obtain ⟨i1, hi1, hy0, hy1, hy2⟩ := info_parts info32
  have Hb := Lib.hid hb
  have Hm := Lib.hid hm
  have hrlen := runes_length b
  have Hrg := Lib.hid (runes_getD b)
  clear hb hm
  go_enter Tryd.func6, Tryd.ntmps6
  go_wp2_with fail
  go_loopw [4, 5, 19] (fun v4 v5 v19 wr => ∃ i acc s A c, FeedsAt w b v4 v5 v19 wr i acc s A c) (fun _ _ v19 _ => b.length - (intOf v19).toNat)
  case atStart =>
    exact ⟨0, [], [], none, 0, by omega, rfl, rfl, by simp, Tail.nil_ _ _, World.ownsRow_nil _ _ _ _, heap_alloc_new w _, (Below.refl _ _).alloc (Nat.le_refl _) _, by simp, by simp⟩
  case round =>
    obtain ⟨i, acc, s, A, c, hib, rfl, rfl, hs3, hT, hO, hF, hbel, hsz, hacc⟩ := hrel
    have haccl : acc.length ≤ b.length := by
      have := congrArg List.length hacc
      rw [List.length_append] at this
      omega
    have Hacc := Lib.hid hacc
    have HO := Lib.hid hO
    clear hacc hO
    obtain ⟨wo, rfl⟩ : ∃ wo : World, wo = wr := ⟨_, rfl⟩
    by_cases hlt : i < b.length
    · obtain ⟨bb, oo, rfl, hbb, hcc⟩ := Hb.out.at_ (by omega)
      have hx : wo.cell? ⟨bb, oo + i, none⟩ = some (.int .u8 ((b.getD i 0).toNat : Int)) := by rw [hbel.cell (p := ⟨bb, oo + i, none⟩) hbb]; exact hcc i hlt
      clear hcc
      have hdrop : b.drop i = b.getD i 0 :: b.drop (i + 1) := by
        rw [List.drop_eq_getElem_cons hlt]
        simp [List.getD, hlt]
      have Hdrop := Lib.hid hdrop
      clear hdrop
      generalize b.getD i 0 = x at *
      -- the byte, behind what waits
      have hT0 : Tail (wo.alloc (.cells #[.int .u8 (x.toNat : Int)] 5)) (w.heap.size + 1) A c s := hT.below ((Below.refl _ _).alloc (Nat.le_refl _) _)
      obtain ⟨A1, c1, w1, hrun1, hT1, hg1⟩ := run_append_tail (P := Tryd.prog) (wo.alloc (.cells #[.int .u8 (x.toNat : Int)] 5)) (w.heap.size + 1) 22 22 i0 Tryd.underlying22 hi hz0 hz1 hz2 A c s hT0 wo.heap.size x (by simp) (by omega) (by simp; omega)
      have hrow : ∀ g, rowOf A = some g → w.heap.size + 1 ≤ g := fun g hg => (hT.row g hg).1
      have hF1 : FeedAt w1 w.heap.size s := feed_kept (w := wo.alloc (.cells #[.int .u8 (x.toNat : Int)] 5)) ((Below.heap_alloc wo _ _ hF.lt).trans hF) hg1 (fun g hg => by have := hrow g hg; omega)
      have hO1 : w1.ownsRow (w.heap.size + 1) 21 1 u4 acc.length (cells32 acc) := own_kept (HO.out.alloc _) hg1 (fun g hg e => own_tail_ne hT HO.out g e hg)
      have hb1 : Below w.heap.size w w1 := (hbel.alloc (by omega) _).grown hg1 (by simp; omega) (fun g hg => by have := hrow g hg; omega)
      have hsz1 : w.heap.size < w1.heap.size := by have := hg1.size; simp at this; omega
      have hl0 : (s ++ [x]).length = s.length + 1 := by simp
      rw [← hl0] at hrun1
      have hl4 : (s ++ [x]).length ≤ 4 := by omega
      have Hrun1 := Lib.hid hrun1
      have hfs := feed_short (s ++ [x])
      have hfl := feed_length (s ++ [x])
      have Hru : Hid (acc ++ (feedL (s ++ [x])).1 ++ runes ((feedL (s ++ [x])).2 ++ b.drop (i + 1)) = runes b) := by
        refine Lib.hid ?_
        rw [List.append_assoc, ← feed_runes, ← Hacc.out, Hdrop.out]
        simp
      have Hput := Lib.hid (put_calls w.heap.size s x w1 hF1 (by omega) (tabs_below ht hb1))
      clear hrun1 hT hT0 hF hg1 hF1 hl0 Hdrop Hacc HO hrow
      generalize s ++ [x] = l0 at *
      generalize hgl : (feedL l0).1 = gl at *
      generalize hsp : (feedL l0).2 = sp at *
      have Hgl := Lib.hid hgl
      have Hsp := Lib.hid hsp
      clear hgl hsp
      go_wp2_with (at_builtin; refine wpList_append_g (o := ⟨some 26, _, _, _, _, _⟩) (by rfl) (.tmp 23) (.tmp 25) 22 rfl _ _ rfl rfl Hrun1.out ?_)
      refine Hput.out.mono ?_
      rintro e w2 ⟨v8, rfl, hO8, hF2, hg2⟩
      have hT2 : Tail w2 (w.heap.size + 1) A1 c1 l0 := tail_kept hT1 hg2 (fun g hg e => by injection e with e; have := (hT1.row g hg).1; omega)
      have hO2 : w2.ownsRow (w.heap.size + 1) 21 1 u4 acc.length (cells32 acc) := own_kept hO1 hg2 (fun g hg e => by injection e with e; have := (hO1.lt g hg).1; omega)
      have hb2 : Below w.heap.size w w2 := hb1.grown hg2 hb1.size (fun g hg => by injection hg with hg; omega)
      have hsz2 : w.heap.size < w2.heap.size := by have := hg2.size; omega
      obtain ⟨A8, c8, rfl⟩ := own_form hO8
      obtain ⟨hR8, _, _, _⟩ := rd32_of_own hO8
      have HO8 := Lib.hid hO8
      have HR8 := Lib.hid hR8
      have HO2 := Lib.hid hO2
      have HF2 := Lib.hid hF2
      have HT2 := Lib.hid hT2
      have Hb2 := Lib.hid hb2
      clear hO8 hR8 hO2 hF2 hT2 hg2 hO1 hT1 hb1 Hput Hrun1 hx hbel
      go_wp2_with fail
      go_loopw [5, 9] (fun v5 v9 wr => ∃ A c l k, HeldAt w2 (w.heap.size + 1) gl sp v5 v9 wr A c l k) (fun v5 _ _ => match v5 with | .slice _ n _ => n | _ => 0)
      case atStart => exact ⟨A1, c1, l0, 0, rfl, rfl, hl4, by omega, HT2.out, Below.refl _ _, by rw [Hgl.out]; rfl, Hsp.out⟩
      case round =>
        obtain ⟨A, c, l, k, rfl, rfl, hll, hkg, hT, hbi, hdr, hfs2⟩ := hrel
        have hBl : Byt wr A l := (hT.2.2.1).below hbi
        have hlcl := hT.1
        have HT := Lib.hid hT
        have Hdr := Lib.hid hdr
        have Hfs2 := Lib.hid hfs2
        have hcon := rwhole_calls A c l wr hBl
        clear hT hdr hfs2
        cases hwh : wholeL l with
        | true =>
          rw [hwh] at hcon
          have hne : l ≠ [] := wholeL_pos hwh
          have hwd := Lib.decodeL_width l
          have hle := Lib.decodeL_le l hne
          have hst := feedL_step l hwh
          have hval := decodeL_valid l
          have hvb : (Lib.decodeL l).1 ≤ 1114111 := by unfold Valid at hval; omega
          have hcons : gl.drop k = (Lib.decodeL l).1 :: (feedL (l.drop (Lib.decodeL l).2)).1 := by rw [Hdr.out, hst]
          have hsp2 : (feedL (l.drop (Lib.decodeL l).2)).2 = sp := by rw [← Hfs2.out, hst]
          have hkl : k < gl.length := by
            rcases Nat.lt_or_ge k gl.length with h | h
            · exact h
            · rw [List.drop_eq_nil_of_le h] at hcons; cases hcons
          have hgk : gl.getD k 0 = (Lib.decodeL l).1 := by
            rw [List.drop_eq_getElem_cons hkl] at hcons
            injection hcons with h1 _
            simp [List.getD, hkl, h1]
          have hdr2 : gl.drop (k + 1) = (feedL (l.drop (Lib.decodeL l).2)).1 := by
            rw [List.drop_eq_getElem_cons hkl] at hcons
            injection hcons
          obtain ⟨g8, o8, hA8, hg8, hc8⟩ := HR8.out (by omega)
          have hck : w2.cell? ⟨g8, o8 + k, none⟩ = some (.int .i32 (((Lib.decodeL l).1 : Nat) : Int)) := by rw [hc8 k hkl, hgk]
          subst hA8
          have hnx : nextL l = Lib.decodeL l := by simp [nextL, hne]
          have Hcon := Lib.hid hcon
          have Hdr2 := Lib.hid hdr2
          have Hsp2 := Lib.hid hsp2
          have Hck := Lib.hid hck
          have Hnx := Lib.hid hnx
          have hsl := run_cut A c l (Lib.decodeL l).2 hle
          have hm9 : l.length ≤ maxLen := by unfold maxLen; omega
          have hge : decide ((gl.length : Int) ≤ (k : Int)) = false := decide_eq_false (by omega)
          have hge' : decide (gl.length ≤ k) = false := decide_eq_false (by omega)
          clear hcon hst hval hcons hdr2 hsp2 hck hnx hne hwh hgk hc8 hBl
          go_wp2_with fail
          refine Hcon.out.mono ?_
          rintro e w3 ⟨rfl, hb3⟩
          have hbi3 : Below w2.heap.size w2 w3 := hbi.trans (hb3.mono hbi.size)
          have hcon4 := rnext_calls A c l w3 ((HT.out.2.2.1).below hbi3) hm9
          unfold ToldNext at hcon4
          rw [Hnx.out] at hcon4
          have Hcon4 := Lib.hid hcon4
          clear hb3 hbi Hcon hcon4
          go_wp2_with fail
          refine Hcon4.out.mono ?_
          rintro e w4 ⟨rfl, hb4⟩
          have hbi4 : Below w2.heap.size w2 w4 := hbi3.trans (hb4.mono hbi3.size)
          have hck4 : w4.cell? ⟨g8, o8 + k, none⟩ = some (.int .i32 (((Lib.decodeL l).1 : Nat) : Int)) := by rw [hbi4.cell (p := ⟨g8, o8 + k, none⟩) hg8]; exact Hck.out
          have HT' := Lib.hid (HT.out.cut (Lib.decodeL l).2 hle)
          clear hb4 hbi3 Hcon4
          have hyy : ((((Lib.decodeL l).1 : Nat) : Int) != (((Lib.decodeL l).1 : Nat) : Int)) = false := by simp
          go_wp2_with fail
          refine ⟨⟨dropA A c (Lib.decodeL l).2, c - (Lib.decodeL l).2, l.drop (Lib.decodeL l).2, k + 1, ?_, by go_num, ?_, by omega, HT'.out, hbi4, Hdr2.out, Hsp2.out⟩, ?_⟩
          · simp
          · rw [List.length_drop]; omega
          · show l.length - (Lib.decodeL l).2 < l.length
            omega
        | false =>
          rw [hwh] at hcon
          have hst := feedL_stop l hwh
          have hls : l = sp := by rw [← Hfs2.out, hst]
          have hkg2 : k = gl.length := by
            have := congrArg List.length Hdr.out
            rw [hst, List.length_drop] at this
            simp at this
            omega
          subst hls
          subst hkg2
          have Hcon := Lib.hid hcon
          clear hcon hst hwh hBl Hdr Hfs2 hkg Hsp Hgl
          go_wp2_with fail
          refine Hcon.out.mono ?_
          rintro e w3 ⟨rfl, hb3⟩
          have hbi3 : Below w2.heap.size w2 w3 := hbi.trans (hb3.mono hbi.size)
          have hF3 : FeedAt w3 w.heap.size l := HF2.out.below hbi3 (by omega)
          have hO3 : w3.ownsRow (w.heap.size + 1) 21 1 u4 acc.length (cells32 acc) := own_below HO2.out hbi3
          have hO83 := own_below HO8.out hbi3
          have hT3 : Tail w3 (w.heap.size + 1) A c l := HT.out.below hbi3
          have hb03 : Below w.heap.size w w3 := Hb2.out.trans (hbi3.mono (by omega))
          have hsz3 := hbi3.size
          obtain ⟨v4', w4, hrun4, hO4, hg4⟩ := run_append_32 (P := Tryd.prog) w3 (w.heap.size + 1) _ 29 29 i1 Tryd.underlying29 hi1 hy0 hy1 hy2 u4 (.slice A8 gl.length c8) acc gl hO3 hO83 (by omega) (by omega)
          have hT4 : Tail w4 (w.heap.size + 1) A c l := tail_kept hT3 hg4 (fun g hg e => own_tail_ne hT3 hO3 g hg e)
          have hF4 : FeedAt w4 w.heap.size l := feed_kept hF3 hg4 (fun g hg => by have := (hO3.lt g hg).1; omega)
          have hb4 : Below w.heap.size w w4 := hb03.grown hg4 (by omega) (fun g hg => by have := (hO3.lt g hg).1; omega)
          have hsz4 : w.heap.size < w4.heap.size := by have := hg4.size; omega
          have Hrun4 := Lib.hid hrun4
          have HO4 := Lib.hid hO4
          have HT4 := Lib.hid hT4
          have HF4 := Lib.hid hF4
          have hwt := waits_calls w.heap.size l w3 hF3
          clear hb3 hbi Hcon hF3 hO3 hO83 hT3 hrun4 hO4 hg4 hT4 hF4 hb03
          have hgg : ((gl.length : Int) != (gl.length : Int)) = false := by simp
          have haccl4 : (acc ++ gl).length ≤ 2000 := by rw [List.length_append]; omega
          by_cases hl0 : l = []
          · subst hl0
            have hwt : Calls Tryd.prog 22 #[.pointer (some ⟨w.heap.size, 0, none⟩)] w3 fun e w' => e = .returned (.bool false) ∧ w3 = w' := hwt
            have Hwt := Lib.hid hwt
            clear hwt
            go_wp2_with fail
            refine Hwt.out.mono ?_
            rintro e w3' ⟨rfl, rfl⟩
            go_wp2_with (at_builtin; refine wpList_append_g (o := ⟨some 72, _, _, _, _, _⟩) (by rfl) (.tmp 70) (.tmp 71) 29 rfl _ _ rfl rfl Hrun4.out ?_)
            go_roundw
            case rel => exact ⟨i + 1, acc ++ gl, _, A, c, by omega, by go_num, rfl, hfs, HT4.out, HO4.out, HF4.out, hb4, hsz4, Hru.out⟩
            case measure => simp [intOf]; omega
          · have hpos : 0 < l.length := List.length_pos_iff.2 hl0
            rw [decide_eq_true hpos] at hwt
            have Hwt := Lib.hid hwt
            clear hwt
            go_wp2_with fail
            refine Hwt.out.mono ?_
            rintro e w3' ⟨rfl, rfl⟩
            go_wp2_with (at_builtin; refine wpList_append_g (o := ⟨some 72, _, _, _, _, _⟩) (by rfl) (.tmp 70) (.tmp 71) 29 rfl _ _ rfl rfl Hrun4.out ?_)
            go_roundw
            case rel => exact ⟨i + 1, acc ++ gl, _, A, c, by omega, by go_num, rfl, hfs, HT4.out, HO4.out, HF4.out, hb4, hsz4, Hru.out⟩
            case measure => simp [intOf]; omega
    · have hd0 : b.drop i = [] := List.drop_eq_nil_of_le (by omega)
      have hac := Hacc.out
      rw [hd0, List.append_nil] at hac
      have hsl := runes_length s
      have Hsg := Lib.hid (runes_getD s)
      have C1 := Lib.hid (flush_calls w.heap.size s wo hF (by omega))
      have C2 := Lib.hid (fun W (h : Tail W (w.heap.size + 1) A c s) => rrunes_calls A c s W h.2.2.1 h.1 h.2.1 (by omega))
      have C3 := Lib.hid (fun W (h : Below w.heap.size w W) => rrunes_calls A0 c0 b W (Hb.out.below h) hlc Hm.out (by omega))
      have Hac := Lib.hid hac
      have HT := Lib.hid hT
      clear hac hd0 Hacc hT hF
      generalize runes s = rs at *
      generalize runes b = rb at *
      go_wp2_with fail
      refine C1.out.mono ?_
      rintro e w1 ⟨v12, rfl, hO12, hF1, hg1⟩
      have hT1 : Tail w1 (w.heap.size + 1) A c s := tail_kept HT.out hg1 (fun g hg e => by injection e with e; have := (HT.out.row g hg).1; omega)
      have hO1 : w1.ownsRow (w.heap.size + 1) 21 1 u4 acc.length (cells32 acc) := own_kept HO.out hg1 (fun g hg e => by injection e with e; have := (HO.out.lt g hg).1; omega)
      have hb1 : Below w.heap.size w w1 := hbel.grown hg1 hbel.size (fun g hg => by injection hg with hg; omega)
      have hsz1 : w.heap.size < w1.heap.size := by have := hg1.size; omega
      obtain ⟨A12, c12, rfl⟩ := own_form hO12
      obtain ⟨hR12, _, _, _⟩ := rd32_of_own hO12
      have HO12 := Lib.hid hO12
      have HO1 := Lib.hid hO1
      have HF1 := Lib.hid hF1
      clear hO12 hO1 hg1 HT HO hbel C1 hF1
      go_wp2_with fail
      refine (C2.out _ hT1).mono ?_
      rintro e w2 ⟨v77, rfl, hO77, hb2⟩
      obtain ⟨A77, c77, rfl⟩ := own_form hO77
      obtain ⟨hS77, _, _, _⟩ := rd64_of_own hO77
      have hR2 := hR12.below hb2
      clear hO77 hT1 hR12
      go_wp2_with fail
      refine (same_calls A12 A77 c12 c77 rs _ hR2 hS77 (by unfold maxLen; omega) Hsg.out).mono ?_
      rintro e w3 ⟨rfl, hb3⟩
      have k3 : Below w1.heap.size w1 w3 := hb2.trans (hb3.mono hb2.size)
      have hwt : Calls Tryd.prog 22 #[.pointer (some ⟨w.heap.size, 0, none⟩)] w3 fun e w' => e = .returned (.bool false) ∧ w3 = w' := waits_calls w.heap.size [] w3 (HF1.out.below k3 hsz1)
      have Hwt := Lib.hid hwt
      clear hwt hb2 hb3 hR2 hS77
      go_wp2_with fail
      refine Hwt.out.mono ?_
      rintro e w3' ⟨rfl, rfl⟩
      have kw3 : Below w.heap.size w w3 := hb1.trans (k3.mono (by omega))
      go_wp2_with fail
      refine (alive_calls _ (tabs_below ht kw3)).mono ?_
      rintro e w4 ⟨rfl, hb4⟩
      have k4 : Below w1.heap.size w1 w4 := k3.trans (hb4.mono k3.size)
      have kw4 : Below w.heap.size w w4 := kw3.trans (hb4.mono kw3.size)
      have hO4 : w4.ownsRow (w.heap.size + 1) 21 1 u4 acc.length (cells32 acc) := own_below HO1.out k4
      have hO124 := own_below HO12.out k4
      have hsz4 := k4.size
      obtain ⟨v87, w5, hrun5, hO5, hg5⟩ := run_append_32 (P := Tryd.prog) w4 (w.heap.size + 1) _ 29 29 i1 Tryd.underlying29 hi1 hy0 hy1 hy2 u4 (.slice A12 rs.length c12) acc rs hO4 hO124 (by omega) (by omega)
      have kw5 : Below w.heap.size w w5 := below_own kw4 hg5 hO4 (by omega) kw4.size
      rw [Hac.out] at hO5
      have Hrun5 := Lib.hid hrun5
      clear hrun5 hg5 hO4 hO124 hb4 k3 k4 kw3 kw4 Hwt
      go_wp2_with (at_builtin; refine wpList_append_g (o := ⟨some 87, _, _, _, _, _⟩) (by rfl) (.tmp 85) (.tmp 86) 29 rfl _ _ rfl rfl Hrun5.out ?_)
      refine (C3.out _ kw5).mono ?_
      rintro e w6 ⟨v89, rfl, hO89, hb6⟩
      have kw6 : Below w.heap.size w w6 := kw5.trans (hb6.mono kw5.size)
      have hO56 := own_below hO5 hb6
      obtain ⟨A87, c87, rfl⟩ := own_form hO56
      obtain ⟨hR87, _, _, _⟩ := rd32_of_own hO56
      obtain ⟨A89, c89, rfl⟩ := own_form hO89
      obtain ⟨hS89, _, _, _⟩ := rd64_of_own hO89
      clear hO5 hO56 hO89 hb6 kw5 Hrun5
      go_wp2_with fail
      refine (same_calls A87 A89 c87 c89 rb _ hR87 hS89 (by unfold maxLen; omega) Hrg.out).mono ?_
      rintro e w7 ⟨rfl, hb7⟩
      have kw7 : Below w.heap.size w w7 := kw6.trans (hb7.mono kw6.size)
      clear hb7 kw6 hR87 hS89
      go_wp2_with fail
      go_ret
      exact ⟨rfl, kw7⟩
end Go.Proofs.YtpndhffhdllmpaaDoor
