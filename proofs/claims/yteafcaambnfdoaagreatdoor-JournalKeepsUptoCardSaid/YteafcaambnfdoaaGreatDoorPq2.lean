/-
  Layer 7 and what it stands on, part 2 (CrcMath MulMath ToldMath RingMath LogMath).
-/
namespace Go.Proofs.YteafcaambnfdoaaGreatDoor
section
def stp (s : BitVec 32) : BitVec 32 := if s.getLsbD 0 then (s >>> 1) ^^^ 0xEDB88320#32 else s >>> 1
theorem stp_xor (a b : BitVec 32) : stp (a ^^^ b) = stp a ^^^ stp b := by
 unfold stp
 have hs : (a ^^^ b) >>> 1 = (a >>> 1) ^^^ (b >>> 1) := by
  ext i hi; simp
 rw [BitVec.getLsbD_xor, hs]
 cases a.getLsbD 0 <;> cases b.getLsbD 0 <;> simp <;> ext i hi <;> simp [Bool.xor_comm, Bool.xor_left_comm]
theorem stp_zero : stp 0#32 = 0#32 := by decide
def stpN : Nat → BitVec 32 → BitVec 32
 | 0, s => s
 | n + 1, s => stpN n (stp s)
theorem stpN_s (n : Nat) (s : BitVec 32) : stpN (n + 1) s = stpN n (stp s) := rfl
theorem stpN_xor : ∀ (n : Nat) (a b : BitVec 32), stpN n (a ^^^ b) = stpN n a ^^^ stpN n b
 | 0, _, _ => rfl
 | n + 1, a, b => by unfold stpN; rw [stp_xor, stpN_xor n]
theorem stpN_zero : ∀ n : Nat, stpN n 0#32 = 0#32
 | 0 => rfl
 | n + 1 => by unfold stpN; rw [stp_zero, stpN_zero n]
theorem stpN_add : ∀ (m n : Nat) (s : BitVec 32), stpN (m + n) s = stpN n (stpN m s)
 | 0, n, s => by rw [Nat.zero_add]; rfl
 | m + 1, n, s => by rw [show m + 1 + n = (m + n) + 1 by omega, stpN_s, stpN_s, stpN_add m n]
theorem stpN_succ (n : Nat) (s : BitVec 32) : stpN (n + 1) s = stp (stpN n s) := by rw [stpN_add]; rfl
def lowB (c : Bool) : BitVec 32 := if c then 1#32 else 0#32
def topB (c : Bool) : BitVec 32 := if c then 0x80000000#32 else 0#32
theorem top_low (c : Bool) : stpN 32 (topB c) = stp (lowB c) := by cases c <;> decide +kernel
def inA (s : BitVec 32) (l : List Bool) : BitVec 32 := l.foldl (fun s c => stp s ^^^ topB c) s
def inD (s : BitVec 32) (l : List Bool) : BitVec 32 := l.foldl (fun s c => stp (s ^^^ lowB c)) s
theorem inA_D : ∀ (l : List Bool) (s : BitVec 32), stpN 32 (inA s l) = inD (stpN 32 s) l
 | [], _ => rfl
 | c :: l, s => by
  show stpN 32 (inA (stp s ^^^ topB c) l) = inD (stp (stpN 32 s ^^^ lowB c)) l
  rw [inA_D l, stpN_xor, top_low, stp_xor, ← stpN_succ]
  rfl
theorem inD_xor : ∀ (l : List Bool) (s t : BitVec 32), inD (s ^^^ t) l = inD s l ^^^ stpN l.length t
 | [], _, _ => rfl
 | c :: l, s, t => by
  show inD (stp (s ^^^ t ^^^ lowB c)) l = inD (stp (s ^^^ lowB c)) l ^^^ stpN l.length (stp t)
  rw [show s ^^^ t ^^^ lowB c = s ^^^ lowB c ^^^ t by rw [BitVec.xor_assoc, BitVec.xor_comm t, ← BitVec.xor_assoc], stp_xor, inD_xor l]
theorem inA_xor : ∀ (l : List Bool) (s t : BitVec 32), inA (s ^^^ t) l = inA s l ^^^ stpN l.length t
 | [], _, _ => rfl
 | c :: l, s, t => by
  show inA (stp (s ^^^ t) ^^^ topB c) l = inA (stp s ^^^ topB c) l ^^^ stpN l.length (stp t)
  rw [stp_xor, show stp s ^^^ stp t ^^^ topB c = stp s ^^^ topB c ^^^ stp t by rw [BitVec.xor_assoc, BitVec.xor_comm (stp t), ← BitVec.xor_assoc], inA_xor l]
theorem inA_append (s : BitVec 32) (a b : List Bool) : inA s (a ++ b) = inA (inA s a) b := List.foldl_append ..
theorem inD_append (s : BitVec 32) (a b : List Bool) : inD s (a ++ b) = inD (inD s a) b := List.foldl_append ..
theorem inA_zeros : ∀ (n : Nat) (s : BitVec 32), inA s (List.replicate n false) = stpN n s
 | 0, _ => rfl
 | n + 1, s => by
  show inA (stp s ^^^ topB false) (List.replicate n false) = stpN n (stp s)
  rw [inA_zeros n]
  simp [topB]
def numL : List Bool → Nat
 | [] => 0
 | c :: l => 2 * numL l + c.toNat
def wv (l : List Bool) : BitVec 32 := BitVec.ofNat 32 (numL l)
theorem num_bit : ∀ (l : List Bool) (i : Nat), (numL l).testBit i = l.getD i false
 | [], i => by unfold numL; simp
 | c :: l, 0 => by
  unfold numL
  rw [Nat.testBit_zero]
  cases c <;> simp <;> omega
 | c :: l, i + 1 => by
  unfold numL
  rw [Nat.testBit_succ, show (2 * numL l + c.toNat) / 2 = numL l by cases c <;> simp <;> omega, num_bit l i]
  rfl
theorem wv_bit (l : List Bool) (i : Nat) (hi : i < 32) : (wv l).getLsbD i = l.getD i false := by
 unfold wv
 rw [BitVec.getLsbD_ofNat, num_bit]
 simp [hi]
def rowV (s : BitVec 32) : List Bool := (List.range 32).map fun i => s.getLsbD i
theorem rowV_length (s : BitVec 32) : (rowV s).length = 32 := by unfold rowV; simp
theorem wv_rowV (s : BitVec 32) : wv (rowV s) = s := by
 apply BitVec.eq_of_getLsbD_eq
 intro i hi
 rw [wv_bit _ _ hi]
 unfold rowV
 simp [List.getD, hi]
theorem rowV_wv (l : List Bool) (h : l.length = 32) : rowV (wv l) = l := by
 apply List.ext_getElem?
 intro i
 by_cases hi : i < 32
 ·have h1 : (rowV (wv l))[i]? = some ((wv l).getLsbD i) := by unfold rowV; simp [hi]
  rw [h1, wv_bit _ _ hi, List.getD_eq_getElem?_getD, List.getElem?_eq_getElem (by omega)]
  rfl
 ·rw [List.getElem?_eq_none (by rw [rowV_length]; omega), List.getElem?_eq_none (by omega)]
def powL : List Nat := [26, 23, 22, 16, 12, 11, 10, 8, 7, 5, 4, 2, 1, 0]
def flipL (l : List Bool) (i : Nat) : List Bool := powL.foldl (fun l p => l.modify (i + 32 - p) (! ·)) (l.set i false)
def stepL (l : List Bool) (i : Nat) : List Bool := if l.getD i false then flipL l i else l
def polyB : List Bool := rowV 0xEDB88320#32
theorem win_step (c d : Bool) (w : List Bool) (h : w.length = 31) : stp (wv (c :: w)) ^^^ topB d = wv (List.zipWith (fun a b => a ^^ (c && b)) (w ++ [d]) polyB) := by
 have hp : ∀ i, i < 32 → polyB.getD i false = (0xEDB88320#32).getLsbD i := fun i hi => by
  unfold polyB rowV
  simp [List.getD, hi]
 apply BitVec.eq_of_getLsbD_eq
 intro i hi
 rw [BitVec.getLsbD_xor, wv_bit _ _ hi]
 have h0 : (wv (c :: w)).getLsbD 0 = c := by rw [wv_bit _ _ (by omega)]; rfl
 have hsh : ((wv (c :: w)) >>> 1).getLsbD i = w.getD i false := by
  rw [BitVec.getLsbD_ushiftRight]
  by_cases h1 : i < 31
  ·rw [wv_bit _ _ (by omega), Nat.add_comm]; rfl
  ·rw [BitVec.getLsbD_of_ge _ _ (by omega), List.getD_eq_getElem?_getD, List.getElem?_eq_none (by omega)]; rfl
 have htop : (topB d).getLsbD i = (decide (i = 31) && d) := by
  unfold topB
  cases d
  ·simp
  ·rw [if_pos rfl, Bool.and_true]
   have : ∀ j : Fin 32, (0x80000000#32).getLsbD j = decide (j.val = 31) := by decide
   exact this ⟨i, hi⟩
 have hstp : (stp (wv (c :: w))).getLsbD i = (w.getD i false ^^ (c && (0xEDB88320#32).getLsbD i)) := by
  unfold stp
  rw [h0]
  cases c
  ·rw [if_neg (by simp), hsh]; simp
  ·rw [if_pos rfl, BitVec.getLsbD_xor, hsh]; simp
 rw [hstp, htop, ← hp i hi]
 have hpl : polyB.length = 32 := rowV_length _
 rw [List.getD_eq_getElem?_getD (l := List.zipWith _ _ _), List.getElem?_zipWith]
 have e2 : polyB[i]? = some (polyB.getD i false) := by rw [List.getD_eq_getElem?_getD, List.getElem?_eq_getElem (by omega)]; rfl
 rw [e2]
 by_cases h1 : i < 31
 ·have e1 : (w ++ [d])[i]? = some (w.getD i false) := by rw [List.getElem?_append_left (by omega), List.getD_eq_getElem?_getD, List.getElem?_eq_getElem (by omega)]; rfl
  rw [e1, decide_eq_false (by omega)]
  simp
 ·obtain rfl : i = 31 := by omega
  have e1 : (w ++ [d])[31]? = some d := by rw [List.getElem?_append_right (by omega), h]; rfl
  have e3 : w.getD 31 false = false := by rw [List.getD_eq_getElem?_getD, List.getElem?_eq_none (by omega)]; rfl
  rw [e1, e3, decide_eq_true rfl]
  simp [Bool.xor_comm]
theorem modify_pre {α : Type} (f : α → α) : ∀ (z m : List α) (j : Nat), (z ++ m).modify (z.length + j) f = z ++ m.modify j f
 | [], m, j => by simp
 | a :: z, m, j => by
  rw [List.cons_append, List.length_cons, show z.length + 1 + j = z.length + j + 1 by omega, List.modify_succ_cons, modify_pre f z m j]
  rfl
theorem thirty {w : List Bool} (h : w.length = 31) : ∃ a b c d e f g i j k l m n o p q r s t u v x y z a1 a2 a3 a4 a5 a6 a7, w = [a, b, c, d, e, f, g, i, j, k, l, m, n, o, p, q, r, s, t, u, v, x, y, z, a1, a2, a3, a4, a5, a6, a7] := by
 match w, h with
 | [a, b, c, d, e, f, g, i, j, k, l, m, n, o, p, q, r, s, t, u, v, x, y, z, a1, a2, a3, a4, a5, a6, a7], _ => exact ⟨a, b, c, d, e, f, g, i, j, k, l, m, n, o, p, q, r, s, t, u, v, x, y, z, a1, a2, a3, a4, a5, a6, a7, rfl⟩
theorem polyB_is : polyB = [false, false, false, false, false, true, false, false, true, true, false, false, false, false, false, true, false, false, false, true, true, true, false, true, true, false, true, true, false, true, true, true] := by decide +kernel
theorem flip_win (z r w : List Bool) (d : Bool) (h : w.length = 31) : flipL (z ++ (true :: w ++ d :: r)) z.length = z ++ (false :: List.zipWith (fun a b => a ^^ (true && b)) (w ++ [d]) polyB ++ r) := by
 obtain ⟨b1, b2, b3, b4, b5, b6, b7, b8, b9, b10, b11, b12, b13, b14, b15, b16, b17, b18, b19, b20, b21, b22, b23, b24, b25, b26, b27, b28, b29, b30, b31, rfl⟩ := thirty h
 have hset : ∀ m : List Bool, (z ++ m).set z.length false = z ++ m.set 0 false := fun m => by simp
 have hidx : ∀ p : Nat, p ≤ 32 → z.length + 32 - p = z.length + (32 - p) := fun p hp => by omega
 unfold flipL powL
 simp only [List.foldl_cons, List.foldl_nil]
 rw [hset]
 simp only [hidx _ (by decide : (26:Nat) ≤ 32), hidx _ (by decide : (23:Nat) ≤ 32), hidx _ (by decide : (22:Nat) ≤ 32), hidx _ (by decide : (16:Nat) ≤ 32), hidx _ (by decide : (12:Nat) ≤ 32), hidx _ (by decide : (11:Nat) ≤ 32), hidx _ (by decide : (10:Nat) ≤ 32), hidx _ (by decide : (8:Nat) ≤ 32), hidx _ (by decide : (7:Nat) ≤ 32), hidx _ (by decide : (5:Nat) ≤ 32), hidx _ (by decide : (4:Nat) ≤ 32), hidx _ (by decide : (2:Nat) ≤ 32), hidx _ (by decide : (1:Nat) ≤ 32), hidx _ (by decide : (0:Nat) ≤ 32), modify_pre]
 rw [polyB_is]
 simp [List.modify_succ_cons]
theorem step_win (z r w : List Bool) (c d : Bool) (h : w.length = 31) (hz : z = List.replicate z.length false) :
  stepL (z ++ (c :: w ++ d :: r)) z.length = List.replicate (z.length + 1) false ++ (rowV (stp (wv (c :: w)) ^^^ topB d) ++ r) := by
 have hlen : (List.zipWith (fun a b => a ^^ (c && b)) (w ++ [d]) polyB).length = 32 := by
  rw [List.length_zipWith, List.length_append, h, show polyB.length = 32 from rowV_length _]
  rfl
 rw [win_step c d w h, rowV_wv _ hlen]
 have hget : (z ++ (c :: w ++ d :: r)).getD z.length false = c := by
  rw [List.getD_eq_getElem?_getD, List.getElem?_append_right (Nat.le_refl _), Nat.sub_self]
  rfl
 have hz2 : ∀ m : List Bool, z ++ (false :: m) = List.replicate (z.length + 1) false ++ m := fun m => by
  rw [List.replicate_succ', ← hz, List.append_assoc]
  rfl
 unfold stepL
 rw [hget]
 cases c with
 | true =>
  rw [if_pos rfl, flip_win z r w d h, ← hz2]
  rfl
 | false =>
  rw [if_neg (by simp), ← hz2]
  congr 1
  show false :: (w ++ d :: r) = false :: _
  congr 1
  have : ∀ (u p : List Bool), u.length ≤ p.length → List.zipWith (fun a b => a ^^ (false && b)) u p = u := fun u => by
   induction u with
   | nil => intro p _; rfl
   | cons a u ih => intro p hp; cases p with
    | nil => simp at hp
    | cons b p => rw [List.zipWith_cons_cons, ih p (by simpa using hp)]; simp
  rw [this _ _ (by rw [List.length_append, h, show polyB.length = 32 from rowV_length _]; simp)]
  simp
def stepsL (l : List Bool) (n : Nat) : List Bool := (List.range n).foldl stepL l
theorem steps_win (l : List Bool) : ∀ n, n + 32 ≤ l.length → stepsL l n = List.replicate n false ++ (rowV (inA (wv (l.take 32)) ((l.drop 32).take n)) ++ l.drop (32 + n))
 | 0, h => by
  show l = _
  rw [List.replicate_zero, List.nil_append, List.take_zero, show inA (wv (l.take 32)) [] = wv (l.take 32) from rfl, rowV_wv _ (by rw [List.length_take]; omega), Nat.add_zero, List.take_append_drop]
 | n + 1, h => by
  unfold stepsL
  rw [List.range_succ, List.foldl_append]
  show stepL (stepsL l n) n = _
  rw [steps_win l n (by omega)]
  have hd : l.drop (32 + n) = l[32 + n] :: l.drop (32 + (n + 1)) := List.drop_eq_getElem_cons (by omega)
  have ht : (l.drop 32).take (n + 1) = (l.drop 32).take n ++ [l[32 + n]] := by
   rw [List.take_add_one, List.getElem?_drop, List.getElem?_eq_getElem (by omega)]
   rfl
  have hi : inA (wv (l.take 32)) ((l.drop 32).take (n + 1)) = stp (inA (wv (l.take 32)) ((l.drop 32).take n)) ^^^ topB l[32 + n] := by rw [ht, inA_append]; rfl
  rw [hi, hd]
  generalize inA (wv (l.take 32)) ((l.drop 32).take n) = s
  obtain ⟨c, w, hcw⟩ : ∃ c w, rowV s = c :: w := by
   cases hr : rowV s with
   | nil => have := rowV_length s; rw [hr] at this; cases this
   | cons c w => exact ⟨c, w, rfl⟩
  have hw : w.length = 31 := by have := rowV_length s; rw [hcw] at this; simpa using this
  have hs : s = wv (c :: w) := by rw [← hcw, wv_rowV]
  have := step_win (List.replicate n false) (l.drop (32 + (n + 1))) w c l[32 + n] hw (by simp)
  rw [List.length_replicate, ← hs, ← hcw] at this
  exact this
def restL (l : List Bool) : List Bool := (stepsL l (l.length - 32)).drop (l.length - 32)
theorem restL_is (l : List Bool) (h : 32 ≤ l.length) : restL l = rowV (inA (wv (l.take 32)) (l.drop 32)) := by
 unfold restL
 rw [steps_win l _ (by omega), show 32 + (l.length - 32) = l.length by omega, List.drop_length, List.append_nil, List.drop_append_of_le_length (by simp), List.take_of_length_le (l := l.drop 32) (by simp)]
 simp
def bitsB (x : UInt8) : List Bool := (List.range 8).map fun k => x.toNat.testBit k
def bitsL (l : List UInt8) : List Bool := l.flatMap bitsB
theorem bitsB_length (x : UInt8) : (bitsB x).length = 8 := by unfold bitsB; simp
theorem bitsL_length (l : List UInt8) : (bitsL l).length = 8 * l.length := by
 induction l with
 | nil => rfl
 | cons x l ih => show (bitsB x ++ bitsL l).length = _; rw [List.length_append, ih, bitsB_length, List.length_cons]; omega
theorem bitsL_append (a b : List UInt8) : bitsL (a ++ b) = bitsL a ++ bitsL b := by unfold bitsL; rw [List.flatMap_append]
theorem stp_shl (y : BitVec 32) (h : y.toNat < 2 ^ 31) : stp (y <<< 1) = y := by
 unfold stp
 have h0 : (y <<< 1).getLsbD 0 = false := by simp
 rw [h0, if_neg (by simp)]
 apply BitVec.eq_of_getLsbD_eq
 intro i hi
 simp
 intro hb
 have : ¬ i = 31 := fun e => by
  subst e
  rw [← BitVec.testBit_toNat, Nat.testBit_lt_two_pow h] at hb
  cases hb
 omega
theorem wv_cons (c : Bool) (l : List Bool) : wv (c :: l) = lowB c ^^^ (wv l <<< 1) := by
 apply BitVec.eq_of_getLsbD_eq
 intro i hi
 rw [wv_bit _ _ hi, BitVec.getLsbD_xor]
 cases i with
 | zero => cases c <;> simp [lowB]
 | succ i =>
  have : (lowB c).getLsbD (i + 1) = false := by cases c <;> simp [lowB]
  rw [this, Bool.false_xor, BitVec.getLsbD_shiftLeft]
  have hw := wv_bit l i (by omega)
  have e : i + 1 - 1 = i := by omega
  rw [e, hw]
  simp [hi]
theorem wv_lt (l : List Bool) (n : Nat) (h : l.length ≤ n) : (wv l).toNat < 2 ^ n := by
 have h1 : ∀ l : List Bool, numL l < 2 ^ l.length := by
  intro l
  induction l with
  | nil => unfold numL; simp
  | cons c l ih => unfold numL; rw [List.length_cons, Nat.pow_succ]; cases c <;> simp <;> omega
 unfold wv
 rw [BitVec.toNat_ofNat]
 have h2 := h1 l
 have h3 : 2 ^ l.length ≤ 2 ^ n := Nat.pow_le_pow_right (by decide) h
 exact Nat.lt_of_le_of_lt (Nat.mod_le _ _) (by omega)
theorem inD_few : ∀ l : List Bool, l.length ≤ 32 → inD 0#32 l = stpN l.length (wv l)
 | [], _ => rfl
 | c :: l, h => by
  rw [List.length_cons] at h
  show inD (stp (0#32 ^^^ lowB c)) l = stpN (l.length + 1) (wv (c :: l))
  have e : stp (0#32 ^^^ lowB c) = 0#32 ^^^ stp (lowB c) := by rw [BitVec.zero_xor, BitVec.zero_xor]
  rw [e, inD_xor, inD_few l (by omega), wv_cons, stpN_xor, stpN_s, stpN_s, stp_shl _ (wv_lt l 31 (by omega)), BitVec.xor_comm]
def fdB (s : BitVec 32) (x : UInt8) : BitVec 32 := stpN 8 (s ^^^ BitVec.ofNat 32 x.toNat)
def fdL (s : BitVec 32) (l : List UInt8) : BitVec 32 := l.foldl fdB s
theorem wv_byte (x : UInt8) : wv (bitsB x) = BitVec.ofNat 32 x.toNat := by
 apply BitVec.eq_of_getLsbD_eq
 intro i hi
 rw [wv_bit _ _ hi, BitVec.getLsbD_ofNat]
 simp only [hi, decide_true, Bool.true_and]
 unfold bitsB
 by_cases h : i < 8
 ·simp [List.getD, h]
 ·have : x.toNat.testBit i = false := Nat.testBit_lt_two_pow (Nat.lt_of_lt_of_le x.toNat_lt (Nat.pow_le_pow_right (by decide) (by omega : 8 ≤ i)))
  rw [this, List.getD_eq_getElem?_getD, List.getElem?_eq_none (by simp; omega)]
  rfl
theorem inD_byte (s : BitVec 32) (x : UInt8) : inD s (bitsB x) = fdB s x := by
 have h := inD_xor (bitsB x) 0#32 s
 rw [BitVec.zero_xor, inD_few _ (by rw [bitsB_length]; omega), bitsB_length, wv_byte] at h
 rw [h]
 unfold fdB
 rw [stpN_xor, BitVec.xor_comm]
theorem inD_bytes : ∀ (l : List UInt8) (s : BitVec 32), inD s (bitsL l) = fdL s l
 | [], _ => rfl
 | x :: l, s => by
  show inD s (bitsB x ++ bitsL l) = fdL (fdB s x) l
  rw [inD_append, inD_byte, inD_bytes l]
theorem fdL_append (s : BitVec 32) (a b : List UInt8) : fdL s (a ++ b) = fdL (fdL s a) b := List.foldl_append ..
theorem fdL_xor (l : List UInt8) (s t : BitVec 32) : fdL (s ^^^ t) l = fdL s l ^^^ stpN (8 * l.length) t := by
 rw [← inD_bytes, inD_xor, inD_bytes, bitsL_length]
def crcL (l : List UInt8) : BitVec 32 := ~~~ fdL (~~~ 0#32) l
def addL (s : BitVec 32) (l : List UInt8) : BitVec 32 := ~~~ fdL (~~~ s) l
def shfL (s : BitVec 32) (n : Nat) : BitVec 32 := stpN (8 * n) s
theorem not_xor (s : BitVec 32) : ~~~ s = s ^^^ ~~~ 0#32 := by
 apply BitVec.eq_of_getLsbD_eq
 intro i hi
 rw [BitVec.getLsbD_xor, BitVec.getLsbD_not, BitVec.getLsbD_not, BitVec.getLsbD_zero]
 simp [hi]
theorem addL_zero (l : List UInt8) : addL 0#32 l = crcL l := rfl
theorem addL_crc (a b : List UInt8) : addL (crcL a) b = crcL (a ++ b) := by
 unfold addL crcL
 rw [BitVec.not_not, fdL_append]
theorem shfL_zero (s : BitVec 32) : shfL s 0 = s := rfl
theorem wv_not (l : List Bool) (h : l.length = 32) : wv (l.map (! ·)) = wv l ^^^ ~~~ 0#32 := by
 apply BitVec.eq_of_getLsbD_eq
 intro i hi
 rw [BitVec.getLsbD_xor, wv_bit _ _ hi, wv_bit _ _ hi, BitVec.getLsbD_not, BitVec.getLsbD_zero, List.getD_eq_getElem?_getD, List.getD_eq_getElem?_getD, List.getElem?_map, List.getElem?_eq_getElem (by omega)]
 simp [hi]
theorem inA_snoc (s : BitVec 32) (l : List Bool) (c : Bool) : inA s (l ++ [c]) = stp (inA s l) ^^^ topB c := by rw [inA_append]; rfl
theorem inA_few : ∀ (n : Nat) (l : List Bool), l.length = n → n ≤ 32 → ∀ i, i < 32 → (inA 0#32 l).getLsbD i = (decide (32 - n ≤ i) && l.getD (i - (32 - n)) false)
 | 0, l, h, _, i, hi => by
  obtain rfl := List.length_eq_zero_iff.1 h
  show (0#32).getLsbD i = _
  simp
 | n + 1, l, h, hn, i, hi => by
  obtain ⟨m, c, rfl⟩ : ∃ m c, l = m ++ [c] := by
   rcases List.eq_nil_or_concat l with rfl | ⟨m, c, rfl⟩
   ·cases h
   ·exact ⟨m, c, by rw [List.concat_eq_append]⟩
  have hm : m.length = n := by rw [List.length_append] at h; simpa using h
  rw [inA_snoc]
  have ih := inA_few n m hm (by omega)
  have h0 : (inA 0#32 m).getLsbD 0 = false := by
   rw [ih 0 (by omega), decide_eq_false (by omega), Bool.false_and]
  have hst : stp (inA 0#32 m) = inA 0#32 m >>> 1 := by
   unfold stp
   rw [h0, if_neg (by simp)]
  have htop : (topB c).getLsbD i = (decide (i = 31) && c) := by
   unfold topB
   cases c
   ·simp
   ·rw [if_pos rfl, Bool.and_true]
    have : ∀ j : Fin 32, (0x80000000#32).getLsbD j = decide (j.val = 31) := by decide
    exact this ⟨i, hi⟩
  rw [hst, BitVec.getLsbD_xor, BitVec.getLsbD_ushiftRight, htop]
  by_cases h31 : i = 31
  ·subst h31
   rw [BitVec.getLsbD_of_ge _ _ (by omega), Bool.false_xor, decide_eq_true rfl, Bool.true_and, decide_eq_true (by omega), Bool.true_and, show 31 - (32 - (n + 1)) = n by omega, List.getD_eq_getElem?_getD, List.getElem?_append_right (by omega), hm, Nat.sub_self]
   rfl
  ·rw [decide_eq_false h31, Bool.false_and, Bool.xor_false, ih (1 + i) (by omega), show 1 + i - (32 - n) = i - (32 - (n + 1)) by omega]
   by_cases h2 : 32 - n ≤ 1 + i
   ·rw [decide_eq_true h2, decide_eq_true (by omega), Bool.true_and, Bool.true_and, List.getD_eq_getElem?_getD, List.getD_eq_getElem?_getD, List.getElem?_append_left (by omega)]
   ·rw [decide_eq_false h2, decide_eq_false (by omega), Bool.false_and, Bool.false_and]
theorem inA_whole (l : List Bool) (h : l.length = 32) : inA 0#32 l = wv l := by
 apply BitVec.eq_of_getLsbD_eq
 intro i hi
 rw [inA_few 32 l h (Nat.le_refl _) i hi, wv_bit _ _ hi]
 simp
theorem inA_take (l : List Bool) (h : 32 ≤ l.length) : inA (wv (l.take 32)) (l.drop 32) = inA 0#32 l := by
 conv => rhs; rw [← List.take_append_drop 32 l, inA_append]
 rw [inA_whole _ (by rw [List.length_take]; omega)]
def flip32 (l : List Bool) : List Bool := (l.take 32).map (! ·) ++ l.drop 32
theorem flip32_length (l : List Bool) : (flip32 l).length = l.length := by unfold flip32; simp; omega
theorem rowV_not (v : BitVec 32) : (rowV v).map (! ·) = rowV (~~~ v) := by
 unfold rowV
 rw [List.map_map]
 refine List.map_congr_left fun i hi => ?_
 have : i < 32 := List.mem_range.1 hi
 simp [this]
theorem numL_rowV (v : BitVec 32) : numL (rowV v) = v.toNat := by
 have h := wv_rowV v
 have h2 : numL (rowV v) < 2 ^ 32 := by
  have h1 : ∀ l : List Bool, numL l < 2 ^ l.length := by
   intro l
   induction l with
   | nil => unfold numL; simp
   | cons c l ih => unfold numL; rw [List.length_cons, Nat.pow_succ]; cases c <;> simp <;> omega
  have := h1 (rowV v)
  rwa [rowV_length] at this
 have h3 := congrArg BitVec.toNat h
 unfold wv at h3
 rw [BitVec.toNat_ofNat, Nat.mod_eq_of_lt h2] at h3
 exact h3
theorem ref_of (b : List UInt8) : (restL (flip32 (bitsL b ++ List.replicate 32 false))).map (! ·) = rowV (crcL b) := by
 have hlen : (bitsL b ++ List.replicate 32 false).length = 8 * b.length + 32 := by rw [List.length_append, bitsL_length, List.length_replicate]
 rw [restL_is _ (by rw [flip32_length, hlen]; omega), rowV_not]
 congr 1
 unfold crcL
 congr 1
 have ht : (flip32 (bitsL b ++ List.replicate 32 false)).take 32 = ((bitsL b ++ List.replicate 32 false).take 32).map (! ·) := by
  unfold flip32
  rw [List.take_left' (by simp)]
 have hd : (flip32 (bitsL b ++ List.replicate 32 false)).drop 32 = (bitsL b ++ List.replicate 32 false).drop 32 := by
  unfold flip32
  rw [List.drop_left' (by simp)]
 rw [ht, hd, wv_not _ (by rw [List.length_take, hlen]; omega), inA_xor, inA_take _ (by omega), inA_append, inA_zeros, inA_D, stpN_zero, inD_bytes, List.length_drop, hlen, show 8 * b.length + 32 - 32 = 8 * b.length by omega]
 have := fdL_xor b 0#32 (~~~ 0#32)
 rw [BitVec.zero_xor] at this
 exact this.symm
theorem stpN_shl : ∀ (k : Nat) (y : BitVec 32), k ≤ 32 → y.toNat < 2 ^ (32 - k) → stpN k (y <<< k) = y
 | 0, y, _, _ => by simp [stpN]
 | k + 1, y, hk, h => by
  have h1 : y <<< (k + 1) = (y <<< k) <<< 1 := by
   rw [← BitVec.shiftLeft_add]
  have h2 : (y <<< k).toNat < 2 ^ 31 := by
   rw [BitVec.toNat_shiftLeft, Nat.shiftLeft_eq]
   have h3 : y.toNat * 2 ^ k < 2 ^ (32 - (k + 1)) * 2 ^ k := Nat.mul_lt_mul_of_pos_right h (Nat.two_pow_pos k)
   rw [← Nat.pow_add, show 32 - (k + 1) + k = 31 by omega] at h3
   exact Nat.lt_of_le_of_lt (Nat.mod_le _ _) h3
  rw [h1, stpN_s, stp_shl _ h2]
  exact stpN_shl k y (by omega) (Nat.lt_of_lt_of_le h (Nat.pow_le_pow_right (by decide) (by omega)))
end
section
set_option maxRecDepth 100000
theorem stp_low (k : Nat) (hk : k ≤ 32) (s : BitVec 32) : stpN k s = stpN k (s &&& BitVec.ofNat 32 (2 ^ k - 1)) ^^^ (s >>> k) := by
 have h : s = (s &&& BitVec.ofNat 32 (2 ^ k - 1)) ^^^ ((s >>> k) <<< k) := by
  apply BitVec.eq_of_getLsbD_eq
  intro i hi
  rw [BitVec.getLsbD_xor, BitVec.getLsbD_and, BitVec.getLsbD_shiftLeft, BitVec.getLsbD_ushiftRight, BitVec.getLsbD_ofNat, Nat.testBit_two_pow_sub_one]
  by_cases h8 : i < k
  ·simp [h8, hi]
  ·simp [h8, hi, show k + (i - k) = i by omega]
 conv => lhs; rw [h, stpN_xor]
 rw [stpN_shl k (s >>> k) hk (by rw [BitVec.toNat_ushiftRight, Nat.shiftRight_eq_div_pow]; have := s.isLt; exact Nat.div_lt_of_lt_mul (by rw [← Nat.pow_add, show k + (32 - k) = 32 by omega]; exact this))]
def oneP : BitVec 32 := 0x80000000#32
def mulK (a b : BitVec 32) (k : Nat) : BitVec 32 := (List.range k).foldl (fun p i => if a.getLsbD (31 - i) then p ^^^ stpN i b else p) 0#32
def mulP (a b : BitVec 32) : BitVec 32 := mulK a b 32
theorem mulK_z (a b : BitVec 32) : mulK a b 0 = 0#32 := rfl
def xN (n : Nat) : BitVec 32 := stpN (8 * n) oneP
end
section
set_option maxRecDepth 100000
def turn1 (b : List UInt8) (a : Nat) : List UInt8 := b.set (a / 8) (b.getD (a / 8) 0 ^^^ UInt8.ofNat (2 ^ (a % 8)))
def turnsL (b : List UInt8) (n : Nat) (mask : BitVec 32) (k : Nat) : List UInt8 := (List.range k).foldl (fun c j => if mask.getLsbD j then turn1 c (n + j) else c) b
end
section
structure RS (α : Type) where
 lim : Nat
 l : List α
 i : Nat
def chL {α : Type} (f : α → α) : List α → List α
 | [] => []
 | x :: t => f x :: t
def limOf (n : Int) : Nat := (max 1 (min n 64)).toNat
namespace RS
variable {α : Type}
structure Ok (s : RS α) : Prop where
 pos : 1 ≤ s.lim
 le : s.lim ≤ 64
 len : s.l.length ≤ s.lim
 at_ : s.i < s.l.length ∨ (s.i = 0 ∧ s.l = [])
def new (n : Int) : RS α := ⟨limOf n, [], 0⟩
def push (s : RS α) (x : α) : RS α := ⟨s.lim, x :: s.l.take (s.lim - 1), 0⟩
def change (s : RS α) (f : α → α) : RS α := ⟨s.lim, chL f s.l, 0⟩
def turn (s : RS α) : RS α := ⟨s.lim, s.l, if s.i + 1 < s.l.length then s.i + 1 else 0⟩
def home (s : RS α) : RS α := ⟨s.lim, s.l, 0⟩
def turns (s : RS α) : Nat → RS α
 | 0 => s
 | k + 1 => (s.turns k).turn
def met (s : RS α) (d : α) (k : Nat) : List α := (List.range k).map fun j => s.l.getD ((s.i + (j + 1)) % s.l.length) d
end RS
structure OpD where
 k : Int
 t : ByteArray
def OpD.none_ : OpD := ⟨0, ⟨#[]⟩⟩
def doR (s : RS ByteArray) (o : OpD) : RS ByteArray :=
 if o.k = 0 then s.push o.t else if o.k = 1 then s.change (· ++ o.t) else if o.k = 2 then s.turn else if o.k = 3 then s.home else s
def runR (s : RS ByteArray) (os : List OpD) : RS ByteArray := os.foldl doR s
end
section
structure LS (α : Type) where
 lim : Nat
 back : List α
 now : α
 forth : List α
 opn : Int
def limL (n : Int) : Nat := (max 1 (min n 256)).toNat
def lastN {α : Type} (n : Nat) (l : List α) : List α := l.drop (l.length - n)
namespace LS
variable {α : Type}
structure Ok (s : LS α) : Prop where
 pos : 1 ≤ s.lim
 le : s.lim ≤ 256
 len : s.back.length + s.forth.length ≤ s.lim
 opn : 0 ≤ s.opn
def new (x : α) (n : Int) : LS α := ⟨limL n, [], x, [], 0⟩
def put (s : LS α) (x : α) (g : Int) : LS α :=
 ⟨s.lim, if g ≤ 0 ∨ g ≠ s.opn then lastN s.lim (s.back ++ [s.now]) else s.back, x, [], if 0 < g then g else 0⟩
def does [DecidableEq α] (s : LS α) (x : α) (g : Int) : LS α := if x = s.now then s else s.put x g
def move (s : LS α) (x : α) : LS α := ⟨s.lim, s.back, x, s.forth, s.opn⟩
def brk (s : LS α) : LS α := ⟨s.lim, s.back, s.now, s.forth, 0⟩
def undo (s : LS α) : LS α := if s.back = [] then s else ⟨s.lim, s.back.dropLast, s.back.getLastD s.now, s.forth ++ [s.now], 0⟩
def redo (s : LS α) : LS α := if s.forth = [] then s else ⟨s.lim, s.back ++ [s.now], s.forth.getLastD s.now, s.forth.dropLast, 0⟩
def undos (s : LS α) : Nat → LS α
 | 0 => s
 | k + 1 => (s.undos k).undo
def redos (s : LS α) : Nat → LS α
 | 0 => s
 | k + 1 => (s.redos k).redo
def singles [DecidableEq α] (s : LS α) (l : List α) : LS α := l.foldl (fun s x => s.does x 0) s
def grouped [DecidableEq α] (s : LS α) (g : Int) (l : List α) : LS α := l.foldl (fun s x => s.does x g) s
end LS
structure OpU where
 k : Int
 t : ByteArray
 g : Int
def OpU.none_ : OpU := ⟨0, ⟨#[]⟩, 0⟩
def doU (s : LS ByteArray) (o : OpU) : LS ByteArray :=
 if o.k = 0 then s.does o.t o.g else if o.k = 1 then s.move o.t else if o.k = 2 then s.brk else if o.k = 3 then s.undo else if o.k = 4 then s.redo else s
def didU (s : LS ByteArray) (o : OpU) : Bool :=
 if o.k = 0 then decide (o.t ≠ s.now) else if o.k = 3 then decide (s.back ≠ []) else if o.k = 4 then decide (s.forth ≠ []) else false
def runU (s : LS ByteArray) (os : List OpU) : LS ByteArray := os.foldl doU s
end
end Go.Proofs.YteafcaambnfdoaaGreatDoor
