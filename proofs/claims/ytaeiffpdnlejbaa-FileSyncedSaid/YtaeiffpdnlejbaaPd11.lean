/-
  Layer 7 and what it stands on, part 11 (FileDown).
-/
import Derived.Test.YtaeiffpdnlejbaaPd10
namespace Go.Proofs.Ytaeiffpdnlejbaa
section
open Go
/-- It was armed for the n-th op, when there had been none. -/
structure FS.Armed (n : Int) (S : FS) : Prop where
  down : S.down = (decide (0 ≤ n) && decide (n < S.ops))
  fuse : S.down = false → S.fuse = if 0 ≤ n then n - S.ops else -1
theorem FS.Armed.new (n : Int) : (FS.new.arm n).Armed n := by
  refine ⟨?_, fun _ => ?_⟩
  · show false = (decide (0 ≤ n) && decide (n < ((0 : Nat) : Int)))
    rcases Int.lt_or_le n 0 with h | h
    · rw [decide_eq_false (by omega : ¬0 ≤ n)]; rfl
    · rw [decide_eq_false (by omega : ¬n < ((0 : Nat) : Int)), Bool.and_false]
  · show max n (-1) = if 0 ≤ n then n - ((0 : Nat) : Int) else -1
    split <;> omega
theorem FS.Armed.count {n : Int} {S : FS} (h : S.Armed n) (hd : S.down = false) : S.count.Armed n := by
  have h1 := h.down
  have h2 := h.fuse hd
  rw [hd] at h1
  refine ⟨?_, fun hc => ?_⟩
  · show (S.down || decide (S.fuse = 0)) = (decide (0 ≤ n) && decide (n < ((S.ops + 1 : Nat) : Int)))
    rw [hd, Bool.false_or]
    by_cases hn : 0 ≤ n
    · rw [if_pos hn] at h2
      rw [decide_eq_true hn, Bool.true_and] at h1 ⊢
      have h3 := of_decide_eq_false h1.symm
      rw [decide_eq_decide]
      omega
    · rw [if_neg hn] at h2
      rw [decide_eq_false hn, Bool.false_and, h2]
      rfl
  · have hc2 : (S.down || decide (S.fuse = 0)) = false := hc
    rw [hd, Bool.false_or] at hc2
    have h3 := of_decide_eq_false hc2
    show (if 0 ≤ S.fuse then S.fuse - 1 else S.fuse) = if 0 ≤ n then n - ((S.ops + 1 : Nat) : Int) else -1
    by_cases hn : 0 ≤ n
    · rw [if_pos hn] at h2
      rw [decide_eq_true hn, Bool.true_and] at h1
      have h4 := of_decide_eq_false h1.symm
      rw [if_pos hn, if_pos (by omega)]
      omega
    · rw [if_neg hn] at h2 ⊢
      rw [if_neg (by omega), h2]
/-- What a call of a file that is there leaves, and says. -/
theorem FS.Armed.known {n : Int} {S : FS} (h : S.Armed n) (hd : S.down = false) (m : ByteArray) (ok : Bool) (g : FileF → List FileF) :
    (S.known m ok g).1.Armed n ∧ (S.known m ok g).1.down = decide ((S.known m ok g).2 = 100) := by
  have hc := h.count hd
  unfold FS.known
  rw [if_neg (by rw [hd]; decide)]
  split
  · exact ⟨h, hd⟩
  · split
    · exact ⟨h, hd⟩
    · split
      · rename_i h1
        exact ⟨hc, h1⟩
      · rename_i h1
        exact ⟨⟨hc.down, hc.fuse⟩, by simpa using h1⟩
theorem FS.Armed.write {n : Int} {S : FS} (h : S.Armed n) (hd : S.down = false) (m : ByteArray) (x : List UInt8) :
    (S.write m x).1.Armed n ∧ (S.write m x).1.down = decide ((S.write m x).2 = 100) := by
  have hc : S.burn.count.Armed n := FS.Armed.count (S := S.burn) ⟨h.down, h.fuse⟩ hd
  unfold FS.write
  rw [if_neg (by rw [hd]; decide)]
  split
  · exact ⟨h, hd⟩
  · split
    · exact ⟨h, hd⟩
    · split
      · refine ⟨hc, ?_⟩
        simp only
        cases S.burn.count.down <;> rfl
      · refine ⟨⟨hc.down, hc.fuse⟩, ?_⟩
        show S.burn.count.down = _
        simp only
        cases S.burn.count.down <;> rfl
theorem FS.Armed.does {n : Int} {S : FS} (h : S.Armed n) (o : OpF) (h0 : 0 ≤ o.k) (h4 : o.k ≤ 4) :
    (doF S o).1.Armed n ∧ (S.down = true → doF S o = (S, 100)) ∧ (S.down = false → (doF S o).1.down = decide ((doF S o).2 = 100)) := by
  have hall : ∀ r : FS × Int, (S.down = true → r = (S, 100)) → (S.down = false → r.1.Armed n ∧ r.1.down = decide (r.2 = 100)) → r.1.Armed n ∧ (S.down = true → r = (S, 100)) ∧ (S.down = false → r.1.down = decide (r.2 = 100)) := fun r h1 h2 => by
    refine ⟨?_, h1, fun hd => (h2 hd).2⟩
    cases hd : S.down with
    | true => rw [h1 hd]; exact h
    | false => exact (h2 hd).1
  unfold doF
  repeat' split
  · omega
  · omega
  · omega
  · omega
  · exact hall _ (fun hd => by unfold FS.write; rw [if_pos hd]) fun hd => h.write hd _ _
  · exact hall _ (fun hd => by unfold FS.sync FS.known; rw [if_pos hd]) fun hd => h.known hd _ _ _
  · exact hall _ (fun hd => by unfold FS.rename FS.known; rw [if_pos hd]) fun hd => h.known hd _ _ _
  · exact hall _ (fun hd => by unfold FS.remove FS.known; rw [if_pos hd]) fun hd => h.known hd _ _ _
  · exact hall _ (fun hd => by unfold FS.cut FS.known; rw [if_pos hd]) fun hd => h.known hd _ _ _
/-- The law's alive: the file system's states. -/
def al2 : FS := holeS [[1], [2]] 2 (-1)
theorem al_write1 : FS.new.write nA [1] = (holeS [[1]] 1 (-1), 0) := by
  rw [hole_new, hole_write _ _ _ _ (by decide)]
  rfl
theorem al_write2 : (holeS [[1]] 1 (-1)).write nA [2] = (al2, 0) := by
  rw [hole_write _ _ _ _ (by decide)]
  rfl
theorem al_crash : (al2.crash [false, true]).read nA = ([0, 2], 0) := by
  unfold al2
  rw [hole_crash]
  rfl
theorem al_read : al2.read nA = ([1, 2], 0) := hole_read _ _ _ (by simp)
theorem al_fault : (al2.fault_ 0).write nA [] = (holeS [[1], [2]] 3 (-1), 102) := by
  show (holeS [[1], [2]] 2 0).write nA [] = _
  rw [hole_write _ _ _ _ (by decide)]
  rfl
def alB (b : List UInt8) (row : List PartF) (ops : Nat) : FS := ⟨[⟨nB, b, row⟩], 2, ops, -1, -1, false⟩
theorem al_rename : (holeS [[1], [2]] 3 (-1)).rename nA nB = (alB [] [⟨0, 0, [1]⟩, ⟨1, 1, [2]⟩] 4, 0) := by rfl
theorem al_cut : (alB [] [⟨0, 0, [1]⟩, ⟨1, 1, [2]⟩] 4).cut nB 1 = (alB [1] [] 5, 0) := by rfl
theorem al_remove : (alB [1] [] 5).remove nB = (⟨[], 2, 6, -1, -1, false⟩, 0) := by rfl
theorem al_sync : ((al2.crash [false, true]).arm 0).sync nA = ((FS.mk [⟨nA, [0, 2], []⟩] 2 3 (-1) (-1) true), 100) := by rfl
end
end Go.Proofs.Ytaeiffpdnlejbaa
