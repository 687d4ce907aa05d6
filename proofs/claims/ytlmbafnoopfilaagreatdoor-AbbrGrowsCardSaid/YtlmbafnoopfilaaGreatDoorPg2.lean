/-
  Layer 7 and what it stands on, part 2 (TextMake SwapMath).
-/
import Derived.Test.YtlmbafnoopfilaaGreatDoorPg1
namespace Go.Proofs.YtlmbafnoopfilaaGreatDoor
section
open Go
/-- Back to a bound, on to a bound. -/
def backL (l : List UInt8) (n : Int) : Nat := pos (cutL l) (bk (cutL l) n)
def onL (l : List UInt8) (n : Int) : Nat := pos (cutL l) (ok (cutL l) n)
theorem backL_le (l : List UInt8) (n : Int) : backL l n ≤ l.length := by
  have := pos_le (cutL l) (bk (cutL l) n)
  rwa [cutL_flatten] at this
theorem backL_all (l : List UInt8) (n : Int) (h : (l.length : Int) ≤ n) : backL l n = l.length := by
  unfold backL
  rw [bk_all _ _ (by rw [cutL_flatten]; exact h), pos_all _ _ (Nat.le_refl _), cutL_flatten]
theorem backL_bound (l : List UInt8) (n : Int) (h : 0 ≤ n) : (backL l n : Int) ≤ n := by
  rcases (bk_spec (cutL l) n).1 with h1 | h1
  · unfold backL; rw [h1, pos_zero]; omega
  · exact h1
/-- A bound of a text. -/
def IsB (l : List UInt8) (n : Nat) : Prop := ∃ k, k ≤ (cutL l).length ∧ n = pos (cutL l) k
theorem isB_back (l : List UInt8) (n : Int) : IsB l (backL l n) := ⟨_, bk_le _ _, rfl⟩
theorem isB_on (l : List UInt8) (n : Int) : IsB l (onL l n) := ⟨_, ok_le _ _, rfl⟩
theorem isB_zero (l : List UInt8) : IsB l 0 := ⟨0, Nat.zero_le _, rfl⟩
theorem isB_all (l : List UInt8) : IsB l l.length := ⟨_, Nat.le_refl _, by rw [pos_all _ _ (Nat.le_refl _), cutL_flatten]⟩
theorem IsB.le {l : List UInt8} {n : Nat} (h : IsB l n) : n ≤ l.length := by
  obtain ⟨k, _, rfl⟩ := h
  have := pos_le (cutL l) k
  rwa [cutL_flatten] at this
theorem IsB.back {l : List UInt8} {n : Nat} (h : IsB l n) : backL l (n : Int) = n := by
  obtain ⟨k, hk, rfl⟩ := h
  unfold backL
  rw [bk_pos (cut_full l) hk]
theorem IsB.on {l : List UInt8} {n : Nat} (h : IsB l n) : onL l (n : Int) = n := by
  obtain ⟨k, hk, rfl⟩ := h
  unfold onL
  rw [ok_pos (cut_full l) hk]
theorem boundsL_pos (l : List UInt8) : boundsL l = (List.range ((cutL l).length + 1)).map (pos (cutL l)) := by
  refine List.ext_getElem (by simp [boundsL, bnd_length]) fun i h1 h2 => ?_
  have hi : i ≤ (cutL l).length := by
    have : (boundsL l).length = (cutL l).length + 1 := bnd_length _ _
    omega
  have h := bnd_getD 0 (cutL l) i hi
  rw [Nat.zero_add] at h
  have h3 : (bnd 0 (cutL l)).getD i 0 = (boundsL l)[i] := by
    rw [List.getD_eq_getElem?_getD, show (bnd 0 (cutL l))[i]? = some (boundsL l)[i] from List.getElem?_eq_getElem h1]
    rfl
  rw [← h3, h]
  simp [pos]
theorem isB_mem (l : List UInt8) (n : Nat) : n ∈ boundsL l ↔ IsB l n := by
  rw [boundsL_pos, List.mem_map]
  constructor
  · rintro ⟨k, hk, rfl⟩
    exact ⟨k, by have := List.mem_range.1 hk; omega, rfl⟩
  · rintro ⟨k, hk, rfl⟩
    exact ⟨k, List.mem_range.2 (by omega), rfl⟩
theorem IsB.take_P {l : List UInt8} {n : Nat} (h : IsB l n) (hp : PlainP l) : PlainP (l.take n) := by
  obtain ⟨k, _, rfl⟩ := h
  have := take_pos (cutL l) k
  rw [cutL_flatten] at this
  rw [this]; exact P_take hp k
theorem IsB.drop_P {l : List UInt8} {n : Nat} (h : IsB l n) (hp : PlainP l) : PlainP (l.drop n) := by
  obtain ⟨k, _, rfl⟩ := h
  have := drop_pos (cutL l) k
  rw [cutL_flatten] at this
  rw [this]; exact P_drop hp k
/-- The line of a text, and the cursor's place in it. -/
def mS (l : List UInt8) : List UInt8 := (plainL l).take (backL (plainL l) 600)
def mA (l : List UInt8) (n : Int) : Nat := backL (mS l) n
theorem mS_P (l : List UInt8) : PlainP (mS l) := (isB_back _ _).take_P (plain_P l)
theorem mS_len (l : List UInt8) : (mS l).length ≤ 600 := by
  have := backL_bound (plainL l) 600 (by omega)
  unfold mS
  rw [List.length_take]
  omega
theorem mA_le (l : List UInt8) (n : Int) : mA l n ≤ (mS l).length := backL_le _ _
/-- What it is to be a right line. -/
def Rt (l : List UInt8) (n : Nat) : Prop := PlainP l ∧ l.length ≤ 600 ∧ IsB l n
theorem make_rt (l : List UInt8) (n : Int) : Rt (mS l) (mA l n) := ⟨mS_P l, mS_len l, isB_back _ _⟩
theorem mS_of {l : List UInt8} (h : PlainP l) (h2 : l.length ≤ 600) : mS l = l := by
  unfold mS
  rw [h.plain, backL_all l 600 (by omega), List.take_length]
theorem Rt.make {l : List UInt8} {n : Nat} (h : Rt l n) : mS l = l ∧ mA l (n : Int) = n := by
  have h1 := mS_of h.1 h.2.1
  exact ⟨h1, by unfold mA; rw [h1]; exact h.2.2.back⟩
/-- More in a line. -/
def insS (l : List UInt8) (a : Nat) (p : List UInt8) : List UInt8 := l.take a ++ p ++ l.drop a
def insA (l : List UInt8) (a : Nat) (p : List UInt8) : Nat := onL (insS l a p) ((a + p.length : Nat) : Int)
theorem insS_length (l : List UInt8) (a : Nat) (p : List UInt8) (h : a ≤ l.length) : (insS l a p).length = l.length + p.length := by
  unfold insS
  simp only [List.length_append, List.length_take, List.length_drop]
  omega
theorem ins_rt {l : List UInt8} {a : Nat} {p : List UInt8} (h : Rt l a) (hp : PlainP p) (hl : l.length + p.length ≤ 600) : Rt (insS l a p) (insA l a p) :=
  ⟨((h.2.2.take_P h.1).append hp).append (h.2.2.drop_P h.1), by rw [insS_length _ _ _ h.2.2.le]; exact hl, isB_on _ _⟩
/-- Less in a line. -/
def cutS (l : List UInt8) (f t : Nat) : List UInt8 := l.take f ++ l.drop t
def cutAt (a f t : Nat) : Nat := if f < a then max f (a - (t - f)) else a
def cutA (l : List UInt8) (a f t : Nat) : Nat := backL (cutS l f t) (cutAt a f t : Int)
def goneS (l : List UInt8) (f t : Nat) : List UInt8 := (l.drop f).take (t - f)
theorem cutS_length (l : List UInt8) (f t : Nat) (h : f ≤ t) (ht : t ≤ l.length) : (cutS l f t).length + (t - f) = l.length := by
  unfold cutS
  simp only [List.length_append, List.length_take, List.length_drop]
  omega
theorem cut_rt {l : List UInt8} {a f t : Nat} (h : Rt l a) (hf : IsB l f) (ht : IsB l t) (hft : f < t) : Rt (cutS l f t) (cutA l a f t) :=
  ⟨(hf.take_P h.1).append (ht.drop_P h.1), by have := cutS_length l f t (by omega) ht.le; have := h.2.1; omega, isB_back _ _⟩
/-- What a cut leaves, and takes. -/
def cutR (m : List UInt8) (a : Nat) (f t : Nat) : List UInt8 × Nat × List UInt8 := if f < t then (cutS m f t, cutA m a f t, goneS m f t) else (m, a, [])
/-- Steps. -/
def prvL (l : List UInt8) (a : Nat) : Nat := backL l ((a : Int) - 1)
def nxtL (l : List UInt8) (a : Nat) : Nat := onL l ((a : Int) + 1)
/-- Is a cluster a word's? -/
def wordR (r : Int) : Bool := decide ((97 ≤ r ∧ r ≤ 122) ∨ (65 ≤ r ∧ r ≤ 90) ∨ (48 ≤ r ∧ r ≤ 57) ∨ r = 95 ∨ 128 ≤ r)
def wordL (c : List UInt8) : Bool := wordR ((nextL c).1 : Int)
/-- How many clusters there are up to the end of the first word. -/
def skipN (w : Bool) : List (List UInt8) → Nat
  | [] => 0
  | c :: cs => if wordL c = w then skipN w cs + 1 else 0
def thrK (cs : List (List UInt8)) : Nat := skipN false cs + skipN true (cs.drop (skipN false cs))
def thrL (cs : List (List UInt8)) : Nat := pos cs (thrK cs)
/-- Words' ends. -/
def wlL (l : List UInt8) (a : Nat) : Nat := a - thrL (cutL (l.take a)).reverse
def wrL (l : List UInt8) (a : Nat) : Nat := a + thrL (cutL (l.drop a))
/-- Two clusters in each other's places: the bounds of the two. -/
def swS (l : List UInt8) (f m t : Nat) : List UInt8 := l.take f ++ goneS l m t ++ goneS l f m ++ l.drop t
end
section
open Go
/-- The place between the two. -/
def swMid (m : List UInt8) (a : Nat) : Nat := if a = m.length then prvL m a else a
/-- What Swap answers: the text, the place, whether. -/
def swapR (m : List UInt8) (a : Nat) : List UInt8 × Nat × Bool :=
  if swMid m a = 0 then (m, a, false)
  else (swS m (prvL m (swMid m a)) (swMid m a) (nxtL m (swMid m a)), onL (swS m (prvL m (swMid m a)) (swMid m a) (nxtL m (swMid m a))) (nxtL m (swMid m a) : Int), true)
/-- The two by their numbers: k of the clusters are ahead of the cursor. -/
def swIdx (cs : List (List UInt8)) (k : Nat) : Nat := if k = cs.length then k - 1 else k
/-- The clusters, two of them in each other's places. -/
def swL (cs : List (List UInt8)) (j : Nat) : List (List UInt8) := (cs.set (j - 1) (cs.getD j [])).set j (cs.getD (j - 1) [])
end
end Go.Proofs.YtlmbafnoopfilaaGreatDoor
