/-
  Layer 7 and what it stands on, part 16 (ArgGen).
-/
import Derived.Test.YteafcaambnfdoaaGreatDoorPq15
import Derived.Deep.Slices
import Derived.SizedLaws
import Derived.SliceStrings
namespace Go.Proofs.YteafcaambnfdoaaGreatDoor
section
open Go Go.RowKit Go.ChangeShapes Go.WideShapes Go.ChangeAt Go.ChangeMaps Go.Deep
set_option maxRecDepth 100000
theorem spot_none10 {W : World} {a : Addr} {v : Value} (h : W.cell? a = some v) : a.spot = none := by
 unfold World.cell? at h
 split at h
 ·split at h
  ·cases h
  ·rename_i hs
   cases hh : a.spot with
   | none => rfl
   | some x => rw [hh] at hs; exact absurd rfl hs
 ·cases h
theorem cellsI10 : Tryz.prog.cellsOf 3 = 1 := by kernel_rfl
theorem cellsS10 : Tryz.prog.cellsOf 9 = 1 := by kernel_rfl
theorem weight_slice {H : Type} {enc : TypeId × Value → H} {W : World} {e ty : TypeId} {m : Nat} {b : Value} {x : DataW H × List MemPlace} (hu : Tryz.prog.underlying ty = some (.slice e)) (hb : 1 ≤ Tryz.prog.bytesOf e)
  (h : DataW.trod enc Tryz.prog W 0 (fun _ => true) true m ty [b] = some x) (hw : ∀ k ∈ x.1.weights Tryz.prog ty, k ≤ reachBytes) : ∃ A k c, b = .slice A k c ∧ k ≤ reachBytes := by
 rcases Go.Deep.open_slice hu h with ⟨hcs, _⟩ | ⟨a, len', cap', m', n, D, Pl, hcs, _, hl, hm, hmm, hx, _⟩
 ·exact ⟨_, _, _, by simpa using hcs, Nat.zero_le _⟩
 ·refine ⟨_, _, _, by simpa using hcs, ?_⟩
  have hd : x.1 = .slice ((List.range len').map D) ((List.range (m' - len')).map fun j => D (len' + j)) := congrArg Prod.fst hx
  have := hw ((((List.range len').map D).length + ((List.range (m' - len')).map fun j => D (len' + j)).length) * Tryz.prog.bytesOf e) (by
   rw [hd]
   simp only [DataW.weights, hu]
   exact List.mem_cons_self)
  simp only [List.length_map, List.length_range] at this
  have h2 : len' ≤ (len' + (m' - len')) * Tryz.prog.bytesOf e := Nat.le_trans (Nat.le_add_right _ _) (Nat.le_mul_of_pos_right _ hb)
  omega
theorem weightsAll_mem10 {H : Type} {P : Program} {e : TypeId} : ∀ {ds : List (DataW H)} {d : DataW H}, d ∈ ds → ∀ n ∈ d.weights P e, n ∈ DataW.weightsAll P e ds
 | [], _, h, _, _ => by cases h
 | x :: xs, d, h, n, hn => by
  simp only [DataW.weightsAll]
  rcases List.mem_cons.1 h with rfl | h
  ·exact List.mem_append_left _ hn
  ·exact List.mem_append_right _ (weightsAll_mem10 h n hn)
end
end Go.Proofs.YteafcaambnfdoaaGreatDoor
