/-
  Polynomials times polynomials, and their rests (layer 9): for a Shift that squares. And a step by a table of a few of the lowest bits. Numbers alone.
-/
import Derived.Test.YtjfikdldabmciaaDoorCrcMath
namespace Go.Proofs.YtjfikdldabmciaaDoor
set_option maxRecDepth 100000

/-- k steps at once: by the table of the k lowest bits. -/
theorem stp_low (k : Nat) (hk : k ≤ 32) (s : BitVec 32) : stpN k s = stpN k (s &&& BitVec.ofNat 32 (2 ^ k - 1)) ^^^ (s >>> k) := by
  have h : s = (s &&& BitVec.ofNat 32 (2 ^ k - 1)) ^^^ ((s >>> k) <<< k) := by
    apply BitVec.eq_of_getLsbD_eq
    intro i hi
    rw [BitVec.getLsbD_xor, BitVec.getLsbD_and, BitVec.getLsbD_shiftLeft, BitVec.getLsbD_ushiftRight, BitVec.getLsbD_ofNat, Nat.testBit_two_pow_sub_one]
    by_cases h8 : i < k
    · simp [h8, hi]
    · simp [h8, hi, show k + (i - k) = i by omega]
  conv => lhs; rw [h, stpN_xor]
  rw [stpN_shl k (s >>> k) hk (by rw [BitVec.toNat_ushiftRight, Nat.shiftRight_eq_div_pow]; have := s.isLt; exact Nat.div_lt_of_lt_mul (by rw [← Nat.pow_add, show k + (32 - k) = 32 by omega]; exact this))]
/-- The polynomial 1. -/
def oneP : BitVec 32 := 0x80000000#32
def mulK (a b : BitVec 32) (k : Nat) : BitVec 32 := (List.range k).foldl (fun p i => if a.getLsbD (31 - i) then p ^^^ stpN i b else p) 0#32
/-- What a times b leaves. -/
def mulP (a b : BitVec 32) : BitVec 32 := mulK a b 32
theorem mulK_s (a b : BitVec 32) (k : Nat) : mulK a b (k + 1) = if a.getLsbD (31 - k) then mulK a b k ^^^ stpN k b else mulK a b k := by
  unfold mulK
  rw [List.range_succ, List.foldl_append]
  rfl
theorem mulK_z (a b : BitVec 32) : mulK a b 0 = 0#32 := rfl
theorem one_at : ∀ i : Fin 32, ∀ j : Fin 32, (stpN i oneP).getLsbD j = decide (j.val = 31 - i.val) := by decide +kernel
theorem mulK_one (a : BitVec 32) : ∀ k, k ≤ 32 → ∀ j, j < 32 → (mulK a oneP k).getLsbD j = (decide (31 - j < k) && a.getLsbD j)
  | 0, _, j, _ => by rw [mulK_z]; simp
  | k + 1, hk, j, hj => by
    have ih := mulK_one a k (by omega) j hj
    have h1 := one_at ⟨k, by omega⟩ ⟨j, hj⟩
    simp only at h1
    rw [mulK_s]
    cases hb : a.getLsbD (31 - k)
    · rw [if_neg (by simp), ih]
      by_cases e : 31 - j = k
      · have : 31 - k = j := by omega
        rw [this] at hb
        rw [hb, Bool.and_false, Bool.and_false]
      · rw [show decide (31 - j < k) = decide (31 - j < k + 1) from decide_eq_decide.2 ⟨fun h => by omega, fun h => by omega⟩]
    · rw [if_pos rfl, BitVec.getLsbD_xor, ih, h1]
      by_cases e : j = 31 - k
      · subst e
        rw [hb]
        simp [show 31 - (31 - k) = k by omega]
      · rw [decide_eq_false e, Bool.xor_false, show decide (31 - j < k) = decide (31 - j < k + 1) from decide_eq_decide.2 ⟨fun h => by omega, fun h => by omega⟩]
theorem mulP_one (a : BitVec 32) : mulP a oneP = a := by
  apply BitVec.eq_of_getLsbD_eq
  intro j hj
  unfold mulP
  rw [mulK_one a 32 (by omega) j hj, decide_eq_true (by omega), Bool.true_and]
/-- What is linear and lets a step through is a product. -/
theorem mul_span (f : BitVec 32 → BitVec 32) (hx : ∀ a b, f (a ^^^ b) = f a ^^^ f b) (hs : ∀ a, f (stp a) = stp (f a)) (b : BitVec 32) : f b = mulP b (f oneP) := by
  have h0 : f 0#32 = 0#32 := by
    have := hx 0#32 0#32
    rw [BitVec.xor_self, BitVec.xor_self] at this
    exact this
  have hn : ∀ n a, f (stpN n a) = stpN n (f a) := by
    intro n
    induction n with
    | zero => intro a; rfl
    | succ n ih => intro a; rw [stpN_s, ih, hs, ← stpN_s]
  have hk : ∀ k, f (mulK b oneP k) = mulK b (f oneP) k := by
    intro k
    induction k with
    | zero => exact h0
    | succ k ih =>
      rw [mulK_s, mulK_s]
      split
      · rw [hx, ih, hn]
      · exact ih
  have := hk 32
  rw [show mulK b oneP 32 = b from mulP_one b] at this
  exact this
theorem mulP_xor (a b c : BitVec 32) : mulP a (b ^^^ c) = mulP a b ^^^ mulP a c := by
  have : ∀ k, mulK a (b ^^^ c) k = mulK a b k ^^^ mulK a c k := by
    intro k
    induction k with
    | zero => rw [mulK_z, mulK_z, mulK_z, BitVec.xor_self]
    | succ k ih =>
      rw [mulK_s, mulK_s, mulK_s]
      split
      · rw [ih, stpN_xor, BitVec.xor_assoc, BitVec.xor_assoc]
        congr 1
        rw [← BitVec.xor_assoc, BitVec.xor_comm (mulK a c k), BitVec.xor_assoc]
      · exact ih
  exact this 32
theorem mulP_stp (a b : BitVec 32) : mulP a (stp b) = stp (mulP a b) := by
  have : ∀ k, mulK a (stp b) k = stp (mulK a b k) := by
    intro k
    induction k with
    | zero => rw [mulK_z, mulK_z, stp_zero]
    | succ k ih =>
      rw [mulK_s, mulK_s]
      split
      · rw [ih, stp_xor, ← stpN_s, stpN_succ]
      · exact ih
  exact this 32
theorem mulP_comm (a b : BitVec 32) : mulP a b = mulP b a := by
  rw [mul_span (mulP a) (mulP_xor a) (mulP_stp a) b, mulP_one]
theorem mulP_stpN (n : Nat) (b : BitVec 32) : mulP (stpN n oneP) b = stpN n b := by
  rw [mulP_comm, show mulP b (stpN n oneP) = stpN n (mulP b oneP) from by
    induction n with
    | zero => rfl
    | succ n ih => rw [stpN_succ, mulP_stp, ih, ← stpN_succ], mulP_one]
theorem mulP_assoc (a b c : BitVec 32) : mulP (mulP a b) c = mulP a (mulP b c) := by
  have h := mul_span (fun a => mulP (mulP a b) c) (fun x y => by
    show mulP (mulP (x ^^^ y) b) c = mulP (mulP x b) c ^^^ mulP (mulP y b) c
    rw [mulP_comm (x ^^^ y), mulP_xor, mulP_comm b x, mulP_comm b y, mulP_comm _ c, mulP_xor, mulP_comm c, mulP_comm c]) (fun x => by
    show mulP (mulP (stp x) b) c = stp (mulP (mulP x b) c)
    rw [mulP_comm (stp x), mulP_stp, mulP_comm b x, mulP_comm _ c, mulP_stp, mulP_comm c]) a
  rw [h]
  congr 1
  show mulP (mulP oneP b) c = mulP b c
  rw [mulP_comm oneP, mulP_one]
/-- x^(8 n). -/
def xN (n : Nat) : BitVec 32 := stpN (8 * n) oneP
theorem xN_mul (m n : Nat) : mulP (xN m) (xN n) = xN (m + n) := by
  unfold xN
  rw [mulP_stpN, ← stpN_add]
  congr 1
  omega
theorem shfL_mul (s : BitVec 32) (n : Nat) : shfL s n = mulP (xN n) s := by
  unfold shfL xN
  rw [mulP_stpN]
end Go.Proofs.YtjfikdldabmciaaDoor
