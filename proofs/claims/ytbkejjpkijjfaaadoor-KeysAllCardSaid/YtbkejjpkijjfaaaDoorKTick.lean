/-
  keys.signKeys and a decoder's Tick: what the calls come to, in any memory.
-/
import Derived.Test.YtbkejjpkijjfaaaDoorKFeed
import Derived.Test.YtbkejjpkijjfaaaDoorRunes
import Derived.Deep.Cut
namespace Go.Proofs.YtbkejjpkijjfaaaDoor
open Go Go.RowKit
set_option maxRecDepth 100000

theorem map_take_snoc (rs : List Nat) (k : Nat) (h : k < rs.length) : (rs.take (k + 1)).map signK = (rs.take k).map signK ++ [signK (rs.getD k 0)] := by
  rw [List.take_succ_eq_append_getElem h, List.map_append]
  simp [List.getD, h]
/-- What stands at a round's head of signKeys. -/
def SkAt (w1 : World) (rs : List Nat) (v3 v9 : Value) (wr : World) (k : Nat) : Prop :=
  k ≤ rs.length ∧ v9 = .int .i64 (k : Int) ∧ wr.ownsRow w1.heap.size 44 2 v3 k (cellsK ((rs.take k).map signK)) ∧ Below w1.heap.size w1 wr

set_option maxHeartbeats 4000000 in
theorem signKeys_calls (A : Option Addr) (c : Nat) (b : List UInt8) (w : World) (hb : Byt w A b) (hl : b.length ≤ 1000000) :
    Calls Tryd.prog 27 #[.slice A b.length c] w fun e w' => ∃ v, e = .returned v ∧ w'.ownsRow w.heap.size 44 2 v ((runes b).map signK).length (cellsK ((runes b).map signK)) ∧ Below w.heap.size w w' := by
  obtain ⟨i1, hi1, hy0, hy1, hy2⟩ := info_parts infoK
  have HR := Lib.hid (runes_calls A c b w hb (by omega))
  have hrl := runes_length b
  have hg := Lib.hid (runes_getD b)
  clear hb
  generalize b.length = bn at *
  generalize runes b = rs at *
  go_enter Tryd.func27, Tryd.ntmps27
  go_wp2_with fail
  refine HR.out.mono ?_
  rintro e w1 ⟨v, rfl, hown, hb1⟩
  obtain ⟨A1, c1, rfl⟩ := own_form hown
  obtain ⟨hR, _, _, hm1⟩ := rd32_of_own hown
  have HRd := Lib.hid hR
  have Hb1 := Lib.hid hb1
  have hz1 := hb1.size
  clear hown hR hb1 HR hm1
  go_wp2_with fail
  go_loopw [3, 9] (fun v3 v9 wr => ∃ k, SkAt w1 rs v3 v9 wr k) (fun _ v9 _ => rs.length - (intOf v9).toNat)
  case atStart => exact ⟨0, by omega, rfl, World.ownsRow_nil _ _ _ _, Below.refl _ _⟩
  case round =>
    obtain ⟨k, hk, rfl, hown, hbel⟩ := hrel
    have Hown := Lib.hid hown
    clear hown
    by_cases hlt : k < rs.length
    · obtain ⟨gb, o, rfl, hgb, hc⟩ := (HRd.out.below hbel) (by omega)
      have ck := hc k hlt
      have hvb := hg.out k
      have hsn := Lib.hid (map_take_snoc rs k hlt)
      clear hc
      generalize rs.getD k 0 = r at *
      generalize (rs.take k).map signK = acc at *
      go_wp2_with fail
      refine (signKey_calls r wr hvb).mono ?_
      rintro e w2 ⟨rfl, hb2⟩
      have hbel2 := hbel.trans (hb2.mono hbel.size)
      have hown2 : w2.ownsRow w1.heap.size 44 2 u3 k (cellsK acc) := own_below (w := wr) Hown.out hb2
      have hz2 := hbel2.size
      have Hown2 := Lib.hid hown2
      clear hown2 hb2 hbel Hown
      unfold kv
      go_wp2_with (at_builtin; refine wpList_append_own _ rfl _ _ 36 rfl w1.heap.size 44 i1 _ 2 24 Tryd.underlying36 hi1 hy0 hy1 hy2 rfl (by decide) _ _ _ rfl (Hown2.out.alloc _) ⟨w2.heap.size, 0, none⟩ 1 1 (cellsK [signK r]) rfl rfl ?d1 ?d2 ?d3 ?d4 ?d5 ?_)
      case d1 => exact key_cells _ (signK r) _ rfl
      case d2 => exact cellsK_one _
      case d3 => unfold maxLen; omega
      case d4 => omega
      case d5 => simp; omega
      intro v' w5 hown5 hgrow _
      have Hown5 := Lib.hid hown5
      have hb5 : Below w1.heap.size w1 w5 := (hbel2.alloc hz2 _).grown hgrow (by simp; omega) (fun k hk => (Hown2.out.lt k hk).1)
      clear hown5 hgrow
      go_wp2
      go_roundw
      case rel => exact ⟨k + 1, by omega, by go_num, by rw [hsn.out, cellsK_append]; exact Hown5.out, hb5⟩
      case measure => simp [intOf]; omega
    · obtain rfl : k = rs.length := by omega
      have ho := Hown.out
      rw [List.take_length] at ho
      have Ho := Lib.hid ho
      clear ho Hown
      go_wp2
      go_ret
      exact ⟨_, rfl, own_less (by rw [List.length_map]; exact Ho.out) hz1, Hb1.out.trans (hbel.mono hz1)⟩

theorem byt_other {w : World} {b o g i : Nat} {l : List UInt8} (h : Byt w (some ⟨b, o, none⟩) l) (hne : b ≠ g) (v : Value) : Byt (w.setCell ⟨g, i, none⟩ v) (some ⟨b, o, none⟩) l := by
  by_cases hn : 0 < l.length
  · obtain ⟨b', o', e, _, hc⟩ := h.at_ hn
    injection e with e
    injection e with e1 e2
    subst e1; subst e2
    exact Byt.mk_ fun j hj => by rw [World.cell?_of_block (Below.heap_setCell w ⟨g, i, none⟩ v b hne)]; exact hc j hj
  · obtain rfl : l = [] := List.eq_nil_of_length_eq_zero (by omega)
    exact Byt.nil_ _ _

set_option maxHeartbeats 1000000 in
theorem tick_told (g : Nat) (d : Dec) (w : World) (h : DecAt w g d) (hok : d.Ok) (hw : d.w ≠ []) (hp : d.w ≠ pasteB) (ht : d.t = true) :
    Calls Tryd.prog 15 #[.pointer (some ⟨g, 0, none⟩)] w (Told4 w g (tickD d)) := by
  have HW' : Hid (Calls Tryd.prog 18 #[.pointer (some ⟨g, 0, none⟩)] w fun e w' => e = .returned (.bool true) ∧ w = w') := Lib.hid (by have := waits_calls4 g d w h; rwa [decide_eq_true hw] at this)
  have HP' : Hid (Calls Tryd.prog 19 #[.pointer (some ⟨g, 0, none⟩)] w fun e w' => e = .returned (.bool false) ∧ w = w') := Lib.hid (by have := pasting_calls g d w h; rwa [decide_eq_false hp] at this)
  have c3 := h.c3
  have hlt := h.lt
  have Hr : Hid (tickD d = (if (d.w.getD 0 0).toNat ≠ 27 then (runes d.w).map signK else if d.w.length = 1 then [(27, [])] else [(0, [])], Dec.zero)) := Lib.hid (by
    unfold tickD; rw [if_neg (fun hh => hh.elim hw hp), if_neg (by simp [ht])])
  rw [ht] at c3
  have c0 := h.c0
  have hcv := Lib.run_convert_string_bytes (P := Tryd.prog) w 9 27 5 (bs d.w) Tryd.underlying9 Tryd.underlying27 Tryd.underlying5
  have hsz := bs_size d.w
  have hbb := below_bytes w 5 (bs d.w)
  have hB := h.below hbb hlt
  have b0 := hB.c0
  have b1 := hB.c1
  have b2 := hB.c2
  have b3 := hB.c3
  have e0 := hB.free 0
  have e1 := hB.free 1
  have e2 := hB.free 2
  have e3 := hB.free 3
  have hby0 := byt_bytes w d.w
  have hne : w.heap.size ≠ g := by omega
  have hby : Byt (zeroW (Lib.bytesWorld w 5 (bs d.w)) g) (some ⟨w.heap.size, 0, none⟩) d.w := byt_other (byt_other (byt_other (byt_other hby0 hne _) hne _) hne _) hne _
  have hpos : 0 < d.w.length := List.length_pos_iff.2 hw
  obtain ⟨b', o', e', hbl, hcc⟩ := hby.at_ hpos
  injection e' with e'
  injection e' with e1' e2'
  subst e1'; subst e2'
  have cx := hcc 0 hpos
  simp only [Nat.add_zero] at cx
  have hxl := (d.w.getD 0 0).toNat_lt
  have hDZ := dec_zero hB
  have hGZ : w.grownBy (zeroW (Lib.bytesWorld w 5 (bs d.w)) g) (some g) := grown_trans (grown_below hbb) (grown_zero _ _)
  have HDZ := Lib.hid hDZ
  have HGZ := Lib.hid hGZ
  have hlw := hok.1
  have HSK := Lib.hid (signKeys_calls _ (grownCap w d.w.length 0 5) d.w _ hby (by omega))
  clear h hw hp ht hbb hB hby0 hby hcc hDZ hGZ hbl hok
  by_cases hx : (d.w.getD 0 0).toNat = 27
  · have hnb : (((d.w.getD 0 0).toNat : Int) != 27) = false := by rw [hx]; rfl
    clear HSK
    by_cases h1 : d.w.length = 1
    · rw [Hr.out, if_neg (fun h => h hx), if_pos h1]
      have h1b : ((d.w.length : Int) == 1) = true := by rw [h1]; rfl
      clear Hr hx h1 hlw hne
      generalize (d.w.getD 0 0).toNat = x at *
      go_enter Tryd.func15, Tryd.ntmps15
      go_wp2_with fail
      refine HW'.out.mono ?_
      rintro e w1 ⟨rfl, rfl⟩
      go_wp2_with fail
      refine HP'.out.mono ?_
      rintro e w1 ⟨rfl, rfl⟩
      go_upto_region 8 with (fail)
      clear b0 b1 b2 b3 e0 e1 e2 e3 c0 c3 hcv HW' HP'
      change Code.wp _ _ _ _ (zeroW (Lib.bytesWorld w 5 (bs d.w)) g)
      generalize zeroW (Lib.bytesWorld w 5 (bs d.w)) g = W at *
      generalize d.w.length = n at *
      go_wp2
      go_ret
      exact told_one (k := (27, [])) HDZ.out HGZ.out
    · rw [Hr.out, if_neg (fun h => h hx), if_neg h1]
      have h1b : ((d.w.length : Int) == 1) = false := beq_eq_false_iff_ne.2 (by omega)
      clear Hr hx h1 hlw hne
      generalize (d.w.getD 0 0).toNat = x at *
      go_enter Tryd.func15, Tryd.ntmps15
      go_wp2_with fail
      refine HW'.out.mono ?_
      rintro e w1 ⟨rfl, rfl⟩
      go_wp2_with fail
      refine HP'.out.mono ?_
      rintro e w1 ⟨rfl, rfl⟩
      go_upto_region 8 with (fail)
      clear b0 b1 b2 b3 e0 e1 e2 e3 c0 c3 hcv HW' HP'
      change Code.wp _ _ _ _ (zeroW (Lib.bytesWorld w 5 (bs d.w)) g)
      generalize zeroW (Lib.bytesWorld w 5 (bs d.w)) g = W at *
      generalize d.w.length = n at *
      go_wp2
      go_ret
      exact told_one (k := (0, [])) HDZ.out HGZ.out
  · have hnb : (((d.w.getD 0 0).toNat : Int) != 27) = true := bne_iff_ne.2 (by omega)
    rw [Hr.out, if_pos hx]
    have hm : (runes d.w).length ≤ d.w.length := runes_length _
    clear Hr hx
    generalize (runes d.w).map signK = rk at *
    generalize (d.w.getD 0 0).toNat = x at *
    go_enter Tryd.func15, Tryd.ntmps15
    go_wp2_with fail
    refine HW'.out.mono ?_
    rintro e w1 ⟨rfl, rfl⟩
    go_wp2_with fail
    refine HP'.out.mono ?_
    rintro e w1 ⟨rfl, rfl⟩
    go_upto_region 8 with (fail)
    clear b0 b1 b2 b3 e0 e1 e2 e3 c0 c3 hcv HW' HP'
    change Code.wp _ _ _ _ (zeroW (Lib.bytesWorld w 5 (bs d.w)) g)
    generalize zeroW (Lib.bytesWorld w 5 (bs d.w)) g = W at *
    generalize d.w.length = n at *
    go_wp2_with fail
    refine HSK.out.mono ?_
    rintro e w2 ⟨v, rfl, hown, hb2⟩
    have hD2 := HDZ.out.below hb2 (by have := HDZ.out.lt; exact this)
    have hG2 := grown_trans HGZ.out (grown_below (r := some g) hb2)
    have Hown := Lib.hid hown
    have HD2 := Lib.hid hD2
    have HG2 := Lib.hid hG2
    have hzz := HGZ.out.size
    clear hown hb2 hD2 hG2 HSK HDZ HGZ cx
    go_wp2
    go_ret
    exact ⟨_, rfl, own_less Hown.out hzz, HD2.out, HG2.out⟩

set_option maxHeartbeats 4000000 in
theorem tick_calls4 (g : Nat) (d : Dec) (w : World) (h : DecAt w g d) (hok : d.Ok) :
    Calls Tryd.prog 15 #[.pointer (some ⟨g, 0, none⟩)] w (Told4 w g (tickD d)) := by
  have HW := Lib.hid (waits_calls4 g d w h)
  have HP := Lib.hid (pasting_calls g d w h)
  have hlt := h.lt
  by_cases hw : d.w = []
  · have hr : tickD d = ([], d) := by unfold tickD; rw [if_pos (.inl hw)]
    rw [hr]
    have HW' : Hid (Calls Tryd.prog 18 #[.pointer (some ⟨g, 0, none⟩)] w fun e w' => e = .returned (.bool false) ∧ w = w') := Lib.hid (by have := HW.out; rwa [decide_eq_false (by simp [hw])] at this)
    have H := Lib.hid h
    clear h hw hr HP HW
    go_enter Tryd.func15, Tryd.ntmps15
    go_wp2_with fail
    refine HW'.out.mono ?_
    rintro e w1 ⟨rfl, rfl⟩
    go_wp2
    go_ret
    exact told_none H.out (World.grownBy.refl _ _)
  have HW' : Hid (Calls Tryd.prog 18 #[.pointer (some ⟨g, 0, none⟩)] w fun e w' => e = .returned (.bool true) ∧ w = w') := Lib.hid (by have := HW.out; rwa [decide_eq_true hw] at this)
  by_cases hp : d.w = pasteB
  · have hr : tickD d = ([], d) := by unfold tickD; rw [if_pos (.inr hp)]
    rw [hr]
    have HP' : Hid (Calls Tryd.prog 19 #[.pointer (some ⟨g, 0, none⟩)] w fun e w' => e = .returned (.bool true) ∧ w = w') := Lib.hid (by have := HP.out; rwa [decide_eq_true hp] at this)
    have H := Lib.hid h
    clear h hw hr HP HW hp
    go_enter Tryd.func15, Tryd.ntmps15
    go_wp2_with fail
    refine HW'.out.mono ?_
    rintro e w1 ⟨rfl, rfl⟩
    go_wp2_with fail
    refine HP'.out.mono ?_
    rintro e w1 ⟨rfl, rfl⟩
    go_wp2
    go_ret
    exact told_none H.out (World.grownBy.refl _ _)
  have HP' : Hid (Calls Tryd.prog 19 #[.pointer (some ⟨g, 0, none⟩)] w fun e w' => e = .returned (.bool false) ∧ w = w') := Lib.hid (by have := HP.out; rwa [decide_eq_false hp] at this)
  have c3 := h.c3
  have f3 := h.free 3
  cases ht : d.t with
  | false =>
    have hr : tickD d = ([], ⟨d.w, d.p, d.e, true⟩) := by unfold tickD; rw [if_neg (fun hh => hh.elim hw hp), if_pos ht]
    rw [hr]
    rw [ht] at c3
    have HS : Hid (DecAt (w.setCell ⟨g, 3, none⟩ (.bool true)) g ⟨d.w, d.p, d.e, true⟩) := Lib.hid (h.set_ 3 _ (d' := ⟨d.w, d.p, d.e, true⟩) rfl)
    clear h hw hr HP HW hp ht
    go_enter Tryd.func15, Tryd.ntmps15
    go_wp2_with fail
    refine HW'.out.mono ?_
    rintro e w1 ⟨rfl, rfl⟩
    go_wp2_with fail
    refine HP'.out.mono ?_
    rintro e w1 ⟨rfl, rfl⟩
    go_wp2
    go_ret
    exact told_none HS.out (grown_cell _ _ _ _)
  | true => exact tick_told g d w h hok hw hp ht
end Go.Proofs.YtbkejjpkijjfaaaDoor
