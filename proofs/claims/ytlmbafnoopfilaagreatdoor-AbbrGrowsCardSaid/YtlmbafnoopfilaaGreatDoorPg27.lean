/-
  Layer 7 and what it stands on, part 27 (TabNames).
-/
import Derived.Test.YtlmbafnoopfilaaGreatDoorPg25
import Derived.Test.YtlmbafnoopfilaaGreatDoorPg26
import Derived.Test.YtlmbafnoopfilaaGreatDoorIter
namespace Go.Proofs.YtlmbafnoopfilaaGreatDoor
section
open Go Go.RowKit
set_option maxRecDepth 100000
/-- A sorted row of names as a row that reads. -/
theorem names_rd {w' : World} {base : Nat} {v : Value} {ss : List (List UInt8)} {l : List PR} (hr : Rising l) (hp : ss.Perm (l.map fun p => bl p.1))
    (hown : w'.ownsRow base 9 1 v ss.length ((ss.mergeSort (fun x y => decide (x ≤ y))).map encStr)) : ∃ A c, v = .slice A l.length c ∧ RdV Value.string w' A (l.map Prod.fst) := by
  have hs : ss.mergeSort (fun x y => decide (x ≤ y)) = l.map fun p => bl p.1 := sort_rising (List.pairwise_map.2 hr) hp
  have hlen : ss.length = l.length := by rw [hp.length_eq, List.length_map]
  have hrow : (ss.mergeSort (fun x y => decide (x ≤ y))).map encStr = (l.map Prod.fst).map Value.string := by
    rw [hs, List.map_map, List.map_map]
    refine List.map_congr_left fun p _ => ?_
    show encStr (bl p.1) = Value.string p.1
    rw [encStr]
    rfl
  rw [hrow, hlen] at hown
  obtain ⟨A, c, rfl⟩ := own_form hown
  have h2 := rdV_of_own (ls := l.map Prod.fst) (by rw [List.length_map]; exact hown)
  exact ⟨A, c, rfl, h2.1⟩
section
variable (w : World) (O : Nat → Prop) (b : Nat) (l : List PR) (h : TabAt w O b l)
include h
set_option maxHeartbeats 1000000 in
theorem tnames_calls :
    Calls Tryz.prog 12 #[.pointer (some ⟨b, 0, none⟩)] w fun e w' => ∃ A c, e = .returned (.slice A l.length c) ∧ RdV Value.string w' A (l.map Prod.fst) ∧ Below w.heap.size w w' := by
  rcases h.is with ⟨rfl, hb⟩ | ⟨m, ps, hb, _, _, hm, hp⟩
  · have HK : Hid (Calls Tryz.prog 30 #[.map none] w fun e w' => e = .returned (.func (.func 52) #[] #[.pointer (some ⟨w.heap.size, 0, none⟩)]) ∧ w' = w.alloc (.cells #[.map none] 27)) := Lib.hid (callsIn_wide.1 (Tryz.maps_Keys_30 none w))
    have HS := Lib.hid (callsIn_wide.1 (Tryz.slices_Sorted_keys_nil_29_30 w))
    have c0 := hb.c 0 rfl
    have hbel : Below w.heap.size w (w.alloc (.cells #[.map none] 27)) := (Below.refl _ w).alloc (Nat.le_refl _) _
    have HB := Lib.hid hbel
    clear h hb hbel
    go_enter Tryz.func12, Tryz.ntmps12
    go_wp2_with fail
    refine HK.out.mono ?_
    rintro e w1 ⟨rfl, rfl⟩
    clear HK
    go_wp2_with fail
    refine HS.out.mono ?_
    rintro e w2 ⟨v, ss, rfl, rfl, hown, hnil, hb2⟩
    have HB2 := Lib.hid (HB.out.trans (hb2.mono HB.out.size))
    obtain ⟨A, c, rfl, hR⟩ := names_rd (l := []) List.Pairwise.nil (List.Perm.refl _) hown
    have HR := Lib.hid hR
    clear hown hnil hb2 HS HB hR
    go_wp2_with fail
    go_ret
    exact ⟨A, c, rfl, HR.out, HB2.out⟩
  · have hl := h.len
    have hpl := hp.length_eq
    obtain ⟨D, hD, hper, hsz⟩ := hm.owns (P := Tryz.prog) Tryz.underlying9 (fun p hp' => by have := (h.small p (hp.mem_iff.1 hp')).1; unfold maxLen; omega) (by unfold maxLen; omega)
    have HK : Hid (Calls Tryz.prog 30 #[.map (some m)] w fun e w' => e = .returned (.func (.func 52) #[] #[.pointer (some ⟨w.heap.size, 0, none⟩)]) ∧ w' = w.alloc (.cells #[.map (some m)] 27)) := Lib.hid (callsIn_wide.1 (Tryz.maps_Keys_30 (some m) w))
    have HS := Lib.hid (callsIn_wide.1 (Tryz.slices_Sorted_keys_29_30 m ps.length D _ w hD (by unfold maxLen; omega) (by omega)))
    have c0 := hb.c 0 rfl
    have HPer : Hid ((strKeys D).Perm (l.map fun p => bl p.1)) := Lib.hid (hper.trans (hp.map _))
    have HRis := Lib.hid h.rising
    have hbel : Below w.heap.size w (w.alloc (.cells #[.map (some m)] 27)) := (Below.refl _ w).alloc (Nat.le_refl _) _
    have HB := Lib.hid hbel
    clear h hb hbel hm hp hl hpl hD hper hsz
    go_enter Tryz.func12, Tryz.ntmps12
    go_wp2_with fail
    refine HK.out.mono ?_
    rintro e w1 ⟨rfl, rfl⟩
    clear HK
    go_wp2_with fail
    refine HS.out.mono ?_
    rintro e w2 ⟨v, ss, rfl, hS, hown, hnil, hb2⟩
    have HB2 := Lib.hid (HB.out.trans (hb2.mono HB.out.size))
    obtain ⟨A, c, rfl, hR⟩ := names_rd HRis.out (hS.trans HPer.out) hown
    have HR := Lib.hid hR
    clear hown hnil hb2 HS HB hR hS HPer
    go_wp2_with fail
    go_ret
    exact ⟨A, c, rfl, HR.out, HB2.out⟩
end
end
end Go.Proofs.YtlmbafnoopfilaaGreatDoor
