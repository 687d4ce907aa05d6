/-
  Lines over lists alone: Make, Insert, Cut, Prev, Next, words and Swap. No program is named here.
-/
import Derived.Test.YtifdgaklchihbaaDoorTextMath
namespace Go.Proofs.YtifdgaklchihbaaDoor
open Go

/-- Back to a bound, on to a bound. -/
def backL (l : List UInt8) (n : Int) : Nat := pos (cutL l) (bk (cutL l) n)
def onL (l : List UInt8) (n : Int) : Nat := pos (cutL l) (ok (cutL l) n)
theorem backL_le (l : List UInt8) (n : Int) : backL l n ≤ l.length := by
  have := pos_le (cutL l) (bk (cutL l) n)
  rwa [cutL_flatten] at this
theorem onL_le (l : List UInt8) (n : Int) : onL l n ≤ l.length := by
  have := pos_le (cutL l) (ok (cutL l) n)
  rwa [cutL_flatten] at this
theorem backL_all (l : List UInt8) (n : Int) (h : (l.length : Int) ≤ n) : backL l n = l.length := by
  unfold backL
  rw [bk_all _ _ (by rw [cutL_flatten]; exact h), pos_all _ _ (Nat.le_refl _), cutL_flatten]
theorem backL_bound (l : List UInt8) (n : Int) (h : 0 ≤ n) : (backL l n : Int) ≤ n := by
  rcases (bk_spec (cutL l) n).1 with h1 | h1
  · unfold backL; rw [h1, pos_zero]; omega
  · exact h1
/-- A bound of a text. -/
def IsB (l : List UInt8) (n : Nat) : Prop := ∃ k, k ≤ (cutL l).length ∧ n = pos (cutL l) k
theorem isB_back (l : List UInt8) (n : Int) : IsB l (backL l n) := ⟨_, bk_le _ _, rfl⟩
theorem isB_on (l : List UInt8) (n : Int) : IsB l (onL l n) := ⟨_, ok_le _ _, rfl⟩
theorem isB_zero (l : List UInt8) : IsB l 0 := ⟨0, Nat.zero_le _, rfl⟩
theorem isB_all (l : List UInt8) : IsB l l.length := ⟨_, Nat.le_refl _, by rw [pos_all _ _ (Nat.le_refl _), cutL_flatten]⟩
theorem IsB.le {l : List UInt8} {n : Nat} (h : IsB l n) : n ≤ l.length := by
  obtain ⟨k, _, rfl⟩ := h
  have := pos_le (cutL l) k
  rwa [cutL_flatten] at this
theorem IsB.back {l : List UInt8} {n : Nat} (h : IsB l n) : backL l (n : Int) = n := by
  obtain ⟨k, hk, rfl⟩ := h
  unfold backL
  rw [bk_pos (cut_full l) hk]
theorem IsB.on {l : List UInt8} {n : Nat} (h : IsB l n) : onL l (n : Int) = n := by
  obtain ⟨k, hk, rfl⟩ := h
  unfold onL
  rw [ok_pos (cut_full l) hk]
theorem isB_iff (l : List UInt8) (n : Nat) : IsB l n ↔ backL l (n : Int) = n := ⟨IsB.back, fun h => h ▸ isB_back l _⟩
theorem boundsL_pos (l : List UInt8) : boundsL l = (List.range ((cutL l).length + 1)).map (pos (cutL l)) := by
  refine List.ext_getElem (by simp [boundsL, bnd_length]) fun i h1 h2 => ?_
  have hi : i ≤ (cutL l).length := by
    have : (boundsL l).length = (cutL l).length + 1 := bnd_length _ _
    omega
  have h := bnd_getD 0 (cutL l) i hi
  rw [Nat.zero_add] at h
  have h3 : (bnd 0 (cutL l)).getD i 0 = (boundsL l)[i] := by
    rw [List.getD_eq_getElem?_getD, show (bnd 0 (cutL l))[i]? = some (boundsL l)[i] from List.getElem?_eq_getElem h1]
    rfl
  rw [← h3, h]
  simp [pos]
theorem isB_mem (l : List UInt8) (n : Nat) : n ∈ boundsL l ↔ IsB l n := by
  rw [boundsL_pos, List.mem_map]
  constructor
  · rintro ⟨k, hk, rfl⟩
    exact ⟨k, by have := List.mem_range.1 hk; omega, rfl⟩
  · rintro ⟨k, hk, rfl⟩
    exact ⟨k, List.mem_range.2 (by omega), rfl⟩
theorem IsB.take_P {l : List UInt8} {n : Nat} (h : IsB l n) (hp : PlainP l) : PlainP (l.take n) := by
  obtain ⟨k, _, rfl⟩ := h
  have := take_pos (cutL l) k
  rw [cutL_flatten] at this
  rw [this]; exact P_take hp k
theorem IsB.drop_P {l : List UInt8} {n : Nat} (h : IsB l n) (hp : PlainP l) : PlainP (l.drop n) := by
  obtain ⟨k, _, rfl⟩ := h
  have := drop_pos (cutL l) k
  rw [cutL_flatten] at this
  rw [this]; exact P_drop hp k
/-- A text between two bounds. -/
theorem IsB.mid_P {l : List UInt8} {m n : Nat} (h : IsB l m) (h2 : IsB l n) (hp : PlainP l) (hmn : m ≤ n) : PlainP ((l.drop m).take (n - m)) := by
  obtain ⟨j, hj, rfl⟩ := h
  obtain ⟨k, hk, rfl⟩ := h2
  have hjk : j ≤ k := by
    refine Classical.byContradiction fun hc => ?_
    have := pos_lt (cut_full l) (show k < j by omega) hj
    omega
  have h1 := take_pos (cutL l) k
  rw [cutL_flatten] at h1
  have h3 : (l.drop (pos (cutL l) j)).take (pos (cutL l) k - pos (cutL l) j) = (l.take (pos (cutL l) k)).drop (pos (cutL l) j) := by
    rw [List.drop_take]
  rw [h3, h1]
  have h4 : pos (cutL l) j = pos ((cutL l).take k) j := by unfold pos; rw [List.take_take, Nat.min_eq_left hjk]
  rw [h4, drop_pos]
  exact flat_P _ fun c hc => cut_P l hp c (List.mem_of_mem_take (List.mem_of_mem_drop hc))

/-- The line of a text, and the cursor's place in it. -/
def mS (l : List UInt8) : List UInt8 := (plainL l).take (backL (plainL l) 600)
def mA (l : List UInt8) (n : Int) : Nat := backL (mS l) n
theorem mS_P (l : List UInt8) : PlainP (mS l) := (isB_back _ _).take_P (plain_P l)
theorem mS_len (l : List UInt8) : (mS l).length ≤ 600 := by
  have := backL_bound (plainL l) 600 (by omega)
  unfold mS
  rw [List.length_take]
  omega
theorem mA_le (l : List UInt8) (n : Int) : mA l n ≤ (mS l).length := backL_le _ _
/-- What it is to be a right line. -/
def Rt (l : List UInt8) (n : Nat) : Prop := PlainP l ∧ l.length ≤ 600 ∧ IsB l n
theorem make_rt (l : List UInt8) (n : Int) : Rt (mS l) (mA l n) := ⟨mS_P l, mS_len l, isB_back _ _⟩
theorem mS_of {l : List UInt8} (h : PlainP l) (h2 : l.length ≤ 600) : mS l = l := by
  unfold mS
  rw [h.plain, backL_all l 600 (by omega), List.take_length]
theorem mS_mS (l : List UInt8) : mS (mS l) = mS l := mS_of (mS_P l) (mS_len l)
theorem Rt.make {l : List UInt8} {n : Nat} (h : Rt l n) : mS l = l ∧ mA l (n : Int) = n := by
  have h1 := mS_of h.1 h.2.1
  exact ⟨h1, by unfold mA; rw [h1]; exact h.2.2.back⟩

/-- More in a line. -/
def insS (l : List UInt8) (a : Nat) (p : List UInt8) : List UInt8 := l.take a ++ p ++ l.drop a
def insA (l : List UInt8) (a : Nat) (p : List UInt8) : Nat := onL (insS l a p) ((a + p.length : Nat) : Int)
theorem insS_length (l : List UInt8) (a : Nat) (p : List UInt8) (h : a ≤ l.length) : (insS l a p).length = l.length + p.length := by
  unfold insS
  simp only [List.length_append, List.length_take, List.length_drop]
  omega
theorem ins_rt {l : List UInt8} {a : Nat} {p : List UInt8} (h : Rt l a) (hp : PlainP p) (hl : l.length + p.length ≤ 600) : Rt (insS l a p) (insA l a p) :=
  ⟨((h.2.2.take_P h.1).append hp).append (h.2.2.drop_P h.1), by rw [insS_length _ _ _ h.2.2.le]; exact hl, isB_on _ _⟩

/-- Less in a line. -/
def cutS (l : List UInt8) (f t : Nat) : List UInt8 := l.take f ++ l.drop t
def cutAt (a f t : Nat) : Nat := if f < a then max f (a - (t - f)) else a
def cutA (l : List UInt8) (a f t : Nat) : Nat := backL (cutS l f t) (cutAt a f t : Int)
def goneS (l : List UInt8) (f t : Nat) : List UInt8 := (l.drop f).take (t - f)
theorem cutS_length (l : List UInt8) (f t : Nat) (h : f ≤ t) (ht : t ≤ l.length) : (cutS l f t).length + (t - f) = l.length := by
  unfold cutS
  simp only [List.length_append, List.length_take, List.length_drop]
  omega
theorem cut_rt {l : List UInt8} {a f t : Nat} (h : Rt l a) (hf : IsB l f) (ht : IsB l t) (hft : f < t) : Rt (cutS l f t) (cutA l a f t) :=
  ⟨(hf.take_P h.1).append (ht.drop_P h.1), by have := cutS_length l f t (by omega) ht.le; have := h.2.1; omega, isB_back _ _⟩

/-- Steps. -/
def prvL (l : List UInt8) (a : Nat) : Nat := backL l ((a : Int) - 1)
def nxtL (l : List UInt8) (a : Nat) : Nat := onL l ((a : Int) + 1)
theorem prvL_pos (l : List UInt8) {k : Nat} (hk : k ≤ (cutL l).length) : prvL l (pos (cutL l) k) = pos (cutL l) (k - 1) := by
  unfold prvL backL
  rw [bk_prev (cut_full l) hk]
theorem nxtL_pos (l : List UInt8) {k : Nat} (hk : k ≤ (cutL l).length) : nxtL l (pos (cutL l) k) = pos (cutL l) (min (k + 1) (cutL l).length) := by
  unfold nxtL onL
  rw [ok_next (cut_full l) hk]
theorem prvL_nat (l : List UInt8) (a : Nat) : prvL l a = backL l ((a : Int) - 1) := rfl

/-- Is a cluster a word's? -/
def wordR (r : Int) : Bool := decide ((97 ≤ r ∧ r ≤ 122) ∨ (65 ≤ r ∧ r ≤ 90) ∨ (48 ≤ r ∧ r ≤ 57) ∨ r = 95 ∨ 128 ≤ r)
def wordL (c : List UInt8) : Bool := wordR ((nextL c).1 : Int)
/-- How many clusters there are up to the end of the first word. -/
def skipN (w : Bool) : List (List UInt8) → Nat
  | [] => 0
  | c :: cs => if wordL c = w then skipN w cs + 1 else 0
def thrK (cs : List (List UInt8)) : Nat := skipN false cs + skipN true (cs.drop (skipN false cs))
def thrL (cs : List (List UInt8)) : Nat := pos cs (thrK cs)
theorem skipN_le (w : Bool) : ∀ cs : List (List UInt8), skipN w cs ≤ cs.length
  | [] => Nat.le_refl _
  | c :: cs => by
    have := skipN_le w cs
    unfold skipN
    split <;> simp <;> omega
theorem thrK_le (cs : List (List UInt8)) : thrK cs ≤ cs.length := by
  have h1 := skipN_le false cs
  have h2 := skipN_le true (cs.drop (skipN false cs))
  rw [List.length_drop] at h2
  unfold thrK; omega
theorem thrK_pos (cs : List (List UInt8)) (h : cs ≠ []) : 0 < thrK cs := by
  obtain ⟨c, t, rfl⟩ : ∃ c t, cs = c :: t := by cases cs <;> simp_all
  unfold thrK
  cases hw : wordL c
  · have : 0 < skipN false (c :: t) := by unfold skipN; rw [if_pos hw]; omega
    omega
  · have h0 : skipN false (c :: t) = 0 := by unfold skipN; rw [if_neg (by simp [hw])]
    rw [h0, List.drop_zero]
    unfold skipN
    rw [if_pos hw]; omega
/-- Words' ends. -/
def wlL (l : List UInt8) (a : Nat) : Nat := a - thrL (cutL (l.take a)).reverse
def wrL (l : List UInt8) (a : Nat) : Nat := a + thrL (cutL (l.drop a))
theorem wrL_pos {l : List UInt8} {k : Nat} : wrL l (pos (cutL l) k) = pos (cutL l) (k + thrK ((cutL l).drop k)) := by
  have h1 := drop_pos (cutL l) k
  rw [cutL_flatten] at h1
  unfold wrL thrL
  rw [h1, cut_dropK]
  unfold pos
  rw [List.take_add, List.flatten_append, List.length_append]
theorem wlL_pos {l : List UInt8} (h : PlainP l) {k : Nat} (hk : k ≤ (cutL l).length) : wlL l (pos (cutL l) k) = pos (cutL l) (k - thrK ((cutL l).take k).reverse) := by
  have h1 := take_pos (cutL l) k
  rw [cutL_flatten] at h1
  unfold wlL thrL
  rw [h1, cut_takeK h]
  generalize hm : thrK ((cutL l).take k).reverse = m
  have hm2 : m ≤ k := by
    have := thrK_le ((cutL l).take k).reverse
    rw [List.length_reverse, List.length_take] at this
    omega
  have e : pos (cutL l) k = pos (cutL l) (k - m) + pos ((cutL l).take k).reverse m := by
    have e1 : ((cutL l).take k) = (cutL l).take (k - m) ++ ((cutL l).take k).drop (k - m) := by
      conv => lhs; rw [← List.take_append_drop (k - m) ((cutL l).take k), List.take_take, Nat.min_eq_left (by omega)]
    have e2 : pos ((cutL l).take k).reverse m = (((cutL l).take k).drop (k - m)).flatten.length := by
      unfold pos
      rw [List.take_reverse, List.length_take, Nat.min_eq_left hk]
      generalize ((cutL l).take k).drop (k - m) = xs
      rw [List.length_flatten, List.length_flatten, List.map_reverse, List.sum_reverse]
    rw [e2]
    unfold pos
    conv => lhs; rw [e1, List.flatten_append, List.length_append]
  omega

/-- Two clusters in each other's places: the bounds of the two. -/
def swS (l : List UInt8) (f m t : Nat) : List UInt8 := l.take f ++ goneS l m t ++ goneS l f m ++ l.drop t
theorem goneS_length (l : List UInt8) (f t : Nat) (h : t ≤ l.length) : (goneS l f t).length = t - f := by
  unfold goneS; rw [List.length_take, List.length_drop]; omega
theorem swS_length (l : List UInt8) (f m t : Nat) (h : f ≤ m) (h2 : m ≤ t) (h3 : t ≤ l.length) : (swS l f m t).length = l.length := by
  unfold swS
  simp only [List.length_append, goneS_length l m t h3, goneS_length l f m (by omega), List.length_take, List.length_drop]
  omega
theorem sw_rt {l : List UInt8} {f m t : Nat} (hp : PlainP l) (hl : l.length ≤ 600) (hf : IsB l f) (hm : IsB l m) (ht : IsB l t) (h1 : f ≤ m) (h2 : m ≤ t) : Rt (swS l f m t) (onL (swS l f m t) (t : Int)) :=
  ⟨(((hf.take_P hp).append (hm.mid_P ht hp h2)).append (hf.mid_P hm hp h1)).append (ht.drop_P hp), by rw [swS_length l f m t h1 h2 ht.le]; exact hl, isB_on _ _⟩

/-- Texts put together: how many clusters. -/
theorem join_or {a y : List UInt8} (ha : PlainP a) : cutL (a ++ y) = cutL a ++ cutL y ∨ (cutL (a ++ y)).length + 1 = (cutL a).length + (cutL y).length := by
  by_cases h0 : a = []
  · subst h0; exact .inl (by simp [cutL_nil])
  · by_cases hy : Wid y
    · exact .inl (cut_join ha hy)
    · have h1 : y ≠ [] := fun h => hy (.inl h)
      have h2 : ofL ((Lib.decodeL y).1 : Int) = 0 := Classical.byContradiction fun h => hy (.inr h)
      obtain ⟨init, lst, c, rest, e1, e2, e3⟩ := cut_join_zero a y (by rw [ha.clean]; exact h0) h1 h2
      rw [ha.clean] at e1 e3
      refine .inr ?_
      rw [e1, e2, e3]
      simp only [List.length_append, List.length_cons, List.length_nil]
      omega
theorem join_le {a y : List UInt8} (ha : PlainP a) : (cutL (a ++ y)).length ≤ (cutL a).length + (cutL y).length := by
  rcases join_or (y := y) ha with h | h
  · rw [h, List.length_append]; exact Nat.le_refl _
  · omega
theorem cut_two {l : List UInt8} (h : PlainP l) {a : Nat} (ha : IsB l a) : cutL l = cutL (l.take a) ++ cutL (l.drop a) := by
  obtain ⟨k, hk, rfl⟩ := ha
  have h1 := take_pos (cutL l) k
  have h2 := drop_pos (cutL l) k
  rw [cutL_flatten] at h1 h2
  rw [h1, h2, cut_dropK, cut_takeK h, List.take_append_drop]
theorem isB_of_split {l : List UInt8} {a y : List UInt8} (_ : l = a ++ y) (h : cutL l = cutL a ++ cutL y) : IsB l a.length := by
  refine ⟨(cutL a).length, by rw [h, List.length_append]; omega, ?_⟩
  unfold pos
  rw [h, List.take_left, cutL_flatten]
/-- What was put in has bounds at its ends, if it has as many clusters as before. -/
theorem ins_isB {l : List UInt8} {a : Nat} {p : List UInt8} (h : Rt l a) (hp : PlainP p) (hc : (cutL (insS l a p)).length = (cutL l).length + (cutL p).length) : IsB (insS l a p) a := by
  have hl := h.2.2.le
  have e1 : insS l a p = l.take a ++ (p ++ l.drop a) := by unfold insS; rw [List.append_assoc]
  have e2 := congrArg List.length (cut_two h.1 h.2.2)
  rw [List.length_append] at e2
  have h3 := join_le (y := l.drop a) hp
  rcases join_or (y := p ++ l.drop a) (h.2.2.take_P h.1) with h4 | h4
  · have h5 := isB_of_split e1 (by rw [e1]; exact h4)
    rwa [List.length_take, Nat.min_eq_left hl] at h5
  · rw [← e1] at h4
    omega
theorem cut_ins {l : List UInt8} {a : Nat} {p : List UInt8} (hl : a ≤ l.length) : cutS (insS l a p) a (a + p.length) = l ∧ goneS (insS l a p) a (a + p.length) = p := by
  have e1 : insS l a p = l.take a ++ (p ++ l.drop a) := by unfold insS; rw [List.append_assoc]
  have e0 : (l.take a).length = a := by rw [List.length_take, Nat.min_eq_left hl]
  have t1 : (insS l a p).take a = l.take a := by rw [e1, List.take_append_of_le_length (by omega), List.take_of_length_le (by omega)]
  have d1 : (insS l a p).drop a = p ++ l.drop a := by rw [e1, List.drop_append_of_le_length (by omega), List.drop_of_length_le (by omega), List.nil_append]
  constructor
  · unfold cutS
    rw [t1, ← List.drop_drop, d1, List.drop_left, List.take_append_drop]
  · unfold goneS
    rw [d1, Nat.add_sub_cancel_left, List.take_left]
theorem ins_cut {l : List UInt8} {a t : Nat} (hat : a ≤ t) (ht : t ≤ l.length) : insS (cutS l a t) a (goneS l a t) = l := by
  have e0 : (l.take a).length = a := by rw [List.length_take]; omega
  unfold insS cutS
  rw [List.take_append_of_le_length (by omega), List.drop_append_of_le_length (by omega), List.take_of_length_le (by omega), List.drop_of_length_le (by omega), List.nil_append]
  unfold goneS
  have : (l.drop a).take (t - a) ++ l.drop t = l.drop a := by
    rw [show l.drop t = (l.drop a).drop (t - a) by rw [List.drop_drop]; congr 1; omega, List.take_append_drop]
  rw [List.append_assoc, this, List.take_append_drop]
end Go.Proofs.YtifdgaklchihbaaDoor
