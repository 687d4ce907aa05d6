/-
  Layer 7 and what it stands on, part 47 (FileNames).
-/
import Derived.Test.YteafcaambnfdoaaGreatDoorPg19
import Derived.Test.YteafcaambnfdoaaGreatDoorPg46
import Derived.Test.YteafcaambnfdoaaGreatDoorIter
namespace Go.Proofs.YteafcaambnfdoaaGreatDoor
section
open Go Go.RowKit
set_option maxRecDepth 100000
theorem Cs.names {l : List FileF} {no : Nat} {qs : List QF} {ws : List WrF} (h : Cs l no (qs.map QF.cf) ws) : (qs.map QF.n).Perm (l.map FileF.name) := by
 obtain ⟨ls, rs, h1, h2, _⟩ := h
 have h3 := congrArg (List.map CF.n) h2
 rw [List.map_map, List.map_map] at h3
 have h4 : qs.map QF.n = ls.map FileF.name := h3
 rw [h4]
 exact h1.map _
theorem names_own {w' : World} {base : Nat} {v : Value} {ss : List (List UInt8)} {l : List FileF} (hr : RisF l) (hp : ss.Perm (l.map fun f => bl f.name))
  (hown : w'.ownsRow base 9 1 v ss.length ((ss.mergeSort (fun x y => decide (x ≤ y))).map encStr)) : w'.ownsRow base 9 1 v l.length (l.map fun f => .string f.name) := by
 have hs : ss.mergeSort (fun x y => decide (x ≤ y)) = l.map fun f => bl f.name := sort_rising (List.pairwise_map.2 hr) hp
 have hlen : ss.length = l.length := by rw [hp.length_eq, List.length_map]
 have hrow : (ss.mergeSort (fun x y => decide (x ≤ y))).map encStr = l.map fun f => Value.string f.name := by
  rw [hs, List.map_map]
  refine List.map_congr_left fun f _ => ?_
  show encStr (bl f.name) = Value.string f.name
  rw [encStr]
  rfl
 rw [hrow, hlen] at hown
 exact hown
set_option maxHeartbeats 1000000 in
theorem fnames_at (w : World) (lab : Lab) (b : Nat) (S : FS) (h : FAt w lab b S) (hS : S.Fit) : Calls Tryz.prog 15 #[fp b] w fun e w' => ∃ u, e = .returned u ∧ w'.ownsRow w.heap.size 9 1 u S.l.length (S.l.map fun f => .string f.name) ∧ Below w.heap.size w w' := by
 obtain ⟨m, A, c, ws, qs, am, fl, h1, h2, _⟩ := h
 obtain ⟨ps, hm, hp⟩ := h1.fm.map
 have hlen := h2.len
 rw [List.length_map] at hlen
 have hfew := hS.ok.few
 have hpl := hp.length_eq
 rw [List.length_map] at hpl
 have hnp : (ps.map Prod.fst).Perm (S.l.map FileF.name) := by
  have h3 := hp.map Prod.fst
  rw [List.map_map] at h3
  exact h3.trans h2.names
 have hns : ∀ p ∈ ps, p.1.size ≤ maxLen := fun p hp' => by
  have := hnp.mem_iff.1 (List.mem_map_of_mem (f := Prod.fst) hp')
  obtain ⟨f, hf, e⟩ := List.mem_map.1 this
  have hn := hS.ok.nam f hf
  unfold nameF at hn
  simp only [Bool.and_eq_true, decide_eq_true_eq] at hn
  rw [← e]
  unfold maxLen
  omega
 obtain ⟨D, hD, hper, hsz⟩ := hm.owns (P := Tryz.prog) Tryz.underlying9 hns (by unfold maxLen; omega)
 have HK : Hid (Calls Tryz.prog 54 #[.map (some m)] w fun e w' => e = .returned (.func (.func 92) #[] #[.pointer (some ⟨w.heap.size, 0, none⟩)]) ∧ w' = w.alloc (.cells #[.map (some m)] 85)) := Lib.hid (callsIn_wide.1 (Tryz.maps_Keys_54 (some m) w))
 have HS := Lib.hid (callsIn_wide.1 (Tryz.slices_Sorted_keys_53_54 m ps.length D _ w hD (by unfold maxLen; omega) (by omega)))
 have c0 := h1.box.c 0 rfl
 have HPer : Hid ((strKeys D).Perm (S.l.map fun f => bl f.name)) := Lib.hid (hper.trans (by
  have := hnp.map bl
  rw [List.map_map, List.map_map] at this
  exact this))
 have HRis := Lib.hid hS.ok.ris
 have hbel : Below w.heap.size w (w.alloc (.cells #[.map (some m)] 85)) := (Below.refl _ w).alloc (Nat.le_refl _) _
 have HB := Lib.hid hbel
 clear h1 h2 hbel hm hp hpl hD hper hsz hlen hfew hnp hns hS
 go_enter Tryz.func15, Tryz.ntmps15
 go_wp2_with fail
 refine HK.out.mono ?_
 rintro e w1 ⟨rfl, rfl⟩
 clear HK
 go_wp2_with fail
 refine HS.out.mono ?_
 rintro e w2 ⟨v, ss, rfl, hS, hown, hnil, hb2⟩
 have HR := Lib.hid (own_less (names_own HRis.out (hS.trans HPer.out) hown) HB.out.size)
 have HB2 := Lib.hid (HB.out.trans (hb2.mono HB.out.size))
 clear hown hnil hb2 HS HB hS HPer
 go_wp2_with fail
 go_ret
 exact ⟨v, rfl, HR.out, HB2.out⟩
end
end Go.Proofs.YteafcaambnfdoaaGreatDoor
