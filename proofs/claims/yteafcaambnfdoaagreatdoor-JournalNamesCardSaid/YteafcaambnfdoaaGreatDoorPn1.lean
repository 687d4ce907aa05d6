/-
  Layer 7 and what it stands on, part 1 (CrcMath MulMath ToldMath RingMath LogMath).
-/
namespace Go.Proofs.YteafcaambnfdoaaGreatDoor
section
/-- One step: times x, and the rest. -/
def stp (s : BitVec 32) : BitVec 32 := if s.getLsbD 0 then (s >>> 1) ^^^ 0xEDB88320#32 else s >>> 1
theorem stp_xor (a b : BitVec 32) : stp (a ^^^ b) = stp a ^^^ stp b := by
  unfold stp
  have hs : (a ^^^ b) >>> 1 = (a >>> 1) ^^^ (b >>> 1) := by
    ext i hi; simp
  rw [BitVec.getLsbD_xor, hs]
  cases a.getLsbD 0 <;> cases b.getLsbD 0 <;> simp <;> ext i hi <;> simp [Bool.xor_comm, Bool.xor_left_comm]
def stpN : Nat → BitVec 32 → BitVec 32
  | 0, s => s
  | n + 1, s => stpN n (stp s)
theorem stpN_s (n : Nat) (s : BitVec 32) : stpN (n + 1) s = stpN n (stp s) := rfl
theorem stpN_xor : ∀ (n : Nat) (a b : BitVec 32), stpN n (a ^^^ b) = stpN n a ^^^ stpN n b
  | 0, _, _ => rfl
  | n + 1, a, b => by unfold stpN; rw [stp_xor, stpN_xor n]
theorem stpN_add : ∀ (m n : Nat) (s : BitVec 32), stpN (m + n) s = stpN n (stpN m s)
  | 0, n, s => by rw [Nat.zero_add]; rfl
  | m + 1, n, s => by rw [show m + 1 + n = (m + n) + 1 by omega, stpN_s, stpN_s, stpN_add m n]
/-- A bit, at the place of x^31 (the lowest), and at that of x^0 (the highest). -/
def lowB (c : Bool) : BitVec 32 := if c then 1#32 else 0#32
def topB (c : Bool) : BitVec 32 := if c then 0x80000000#32 else 0#32
/-- Bits come in behind; bits come in at the front. -/
def inA (s : BitVec 32) (l : List Bool) : BitVec 32 := l.foldl (fun s c => stp s ^^^ topB c) s
def inD (s : BitVec 32) (l : List Bool) : BitVec 32 := l.foldl (fun s c => stp (s ^^^ lowB c)) s
/-- 32 bits as a number, the first one the lowest; and back. -/
def numL : List Bool → Nat
  | [] => 0
  | c :: l => 2 * numL l + c.toNat
def wv (l : List Bool) : BitVec 32 := BitVec.ofNat 32 (numL l)
def rowV (s : BitVec 32) : List Bool := (List.range 32).map fun i => s.getLsbD i
/-- The polynomial's powers, the greatest ahead. -/
def powL : List Nat := [26, 23, 22, 16, 12, 11, 10, 8, 7, 5, 4, 2, 1, 0]
def flipL (l : List Bool) (i : Nat) : List Bool := powL.foldl (fun l p => l.modify (i + 32 - p) (! ·)) (l.set i false)
def stepL (l : List Bool) (i : Nat) : List Bool := if l.getD i false then flipL l i else l
def polyB : List Bool := rowV 0xEDB88320#32
def stepsL (l : List Bool) (n : Nat) : List Bool := (List.range n).foldl stepL l
/-- What is left: the last 32 bits. -/
def restL (l : List Bool) : List Bool := (stepsL l (l.length - 32)).drop (l.length - 32)
/-- Bytes, as bits: each one's lowest first. -/
def bitsB (x : UInt8) : List Bool := (List.range 8).map fun k => x.toNat.testBit k
def bitsL (l : List UInt8) : List Bool := l.flatMap bitsB
theorem stp_shl (y : BitVec 32) (h : y.toNat < 2 ^ 31) : stp (y <<< 1) = y := by
  unfold stp
  have h0 : (y <<< 1).getLsbD 0 = false := by simp
  rw [h0, if_neg (by simp)]
  apply BitVec.eq_of_getLsbD_eq
  intro i hi
  simp
  intro hb
  have : ¬ i = 31 := fun e => by
    subst e
    rw [← BitVec.testBit_toNat, Nat.testBit_lt_two_pow h] at hb
    cases hb
  omega
/-- A byte comes in. -/
def fdB (s : BitVec 32) (x : UInt8) : BitVec 32 := stpN 8 (s ^^^ BitVec.ofNat 32 x.toNat)
def fdL (s : BitVec 32) (l : List UInt8) : BitVec 32 := l.foldl fdB s
theorem fdL_append (s : BitVec 32) (a b : List UInt8) : fdL s (a ++ b) = fdL (fdL s a) b := List.foldl_append ..
/-- The sum of bytes. -/
def crcL (l : List UInt8) : BitVec 32 := ~~~ fdL (~~~ 0#32) l
def addL (s : BitVec 32) (l : List UInt8) : BitVec 32 := ~~~ fdL (~~~ s) l
def shfL (s : BitVec 32) (n : Nat) : BitVec 32 := stpN (8 * n) s
theorem not_xor (s : BitVec 32) : ~~~ s = s ^^^ ~~~ 0#32 := by
  apply BitVec.eq_of_getLsbD_eq
  intro i hi
  rw [BitVec.getLsbD_xor, BitVec.getLsbD_not, BitVec.getLsbD_not, BitVec.getLsbD_zero]
  simp [hi]
theorem addL_crc (a b : List UInt8) : addL (crcL a) b = crcL (a ++ b) := by
  unfold addL crcL
  rw [BitVec.not_not, fdL_append]
/-- The document's sum: the first 32 bits turned, what is left, turned. -/
def flip32 (l : List Bool) : List Bool := (l.take 32).map (! ·) ++ l.drop 32
/-- Eight steps at once: by the table of the lowest byte. -/
theorem stpN_shl : ∀ (k : Nat) (y : BitVec 32), k ≤ 32 → y.toNat < 2 ^ (32 - k) → stpN k (y <<< k) = y
  | 0, y, _, _ => by simp [stpN]
  | k + 1, y, hk, h => by
    have h1 : y <<< (k + 1) = (y <<< k) <<< 1 := by
      rw [← BitVec.shiftLeft_add]
    have h2 : (y <<< k).toNat < 2 ^ 31 := by
      rw [BitVec.toNat_shiftLeft, Nat.shiftLeft_eq]
      have h3 : y.toNat * 2 ^ k < 2 ^ (32 - (k + 1)) * 2 ^ k := Nat.mul_lt_mul_of_pos_right h (Nat.two_pow_pos k)
      rw [← Nat.pow_add, show 32 - (k + 1) + k = 31 by omega] at h3
      exact Nat.lt_of_le_of_lt (Nat.mod_le _ _) h3
    rw [h1, stpN_s, stp_shl _ h2]
    exact stpN_shl k y (by omega) (Nat.lt_of_lt_of_le h (Nat.pow_le_pow_right (by decide) (by omega)))
end
section
set_option maxRecDepth 100000
/-- k steps at once: by the table of the k lowest bits. -/
theorem stp_low (k : Nat) (hk : k ≤ 32) (s : BitVec 32) : stpN k s = stpN k (s &&& BitVec.ofNat 32 (2 ^ k - 1)) ^^^ (s >>> k) := by
  have h : s = (s &&& BitVec.ofNat 32 (2 ^ k - 1)) ^^^ ((s >>> k) <<< k) := by
    apply BitVec.eq_of_getLsbD_eq
    intro i hi
    rw [BitVec.getLsbD_xor, BitVec.getLsbD_and, BitVec.getLsbD_shiftLeft, BitVec.getLsbD_ushiftRight, BitVec.getLsbD_ofNat, Nat.testBit_two_pow_sub_one]
    by_cases h8 : i < k
    · simp [h8, hi]
    · simp [h8, hi, show k + (i - k) = i by omega]
  conv => lhs; rw [h, stpN_xor]
  rw [stpN_shl k (s >>> k) hk (by rw [BitVec.toNat_ushiftRight, Nat.shiftRight_eq_div_pow]; have := s.isLt; exact Nat.div_lt_of_lt_mul (by rw [← Nat.pow_add, show k + (32 - k) = 32 by omega]; exact this))]
/-- The polynomial 1. -/
def oneP : BitVec 32 := 0x80000000#32
def mulK (a b : BitVec 32) (k : Nat) : BitVec 32 := (List.range k).foldl (fun p i => if a.getLsbD (31 - i) then p ^^^ stpN i b else p) 0#32
/-- What a times b leaves. -/
def mulP (a b : BitVec 32) : BitVec 32 := mulK a b 32
/-- x^(8 n). -/
def xN (n : Nat) : BitVec 32 := stpN (8 * n) oneP
end
section
set_option maxRecDepth 100000
def turn1 (b : List UInt8) (a : Nat) : List UInt8 := b.set (a / 8) (b.getD (a / 8) 0 ^^^ UInt8.ofNat (2 ^ (a % 8)))
/-- What bytes are when each bit that the mask tells, of the first k, is turned, from the bit n on. -/
def turnsL (b : List UInt8) (n : Nat) (mask : BitVec 32) (k : Nat) : List UInt8 := (List.range k).foldl (fun c j => if mask.getLsbD j then turn1 c (n + j) else c) b
end
section
structure RS (α : Type) where
  lim : Nat
  l : List α
  i : Nat
/-- f of the first one. -/
def chL {α : Type} (f : α → α) : List α → List α
  | [] => []
  | x :: t => f x :: t
theorem chL_length {α : Type} (f : α → α) (l : List α) : (chL f l).length = l.length := by cases l <;> rfl
def limOf (n : Int) : Nat := (max 1 (min n 64)).toNat
theorem limOf_le (n : Int) : limOf n ≤ 64 := by unfold limOf; omega
theorem limOf_pos (n : Int) : 1 ≤ limOf n := by unfold limOf; omega
namespace RS
variable {α : Type}
structure Ok (s : RS α) : Prop where
  pos : 1 ≤ s.lim
  le : s.lim ≤ 64
  len : s.l.length ≤ s.lim
  at_ : s.i < s.l.length ∨ (s.i = 0 ∧ s.l = [])
def new (n : Int) : RS α := ⟨limOf n, [], 0⟩
def push (s : RS α) (x : α) : RS α := ⟨s.lim, x :: s.l.take (s.lim - 1), 0⟩
def change (s : RS α) (f : α → α) : RS α := ⟨s.lim, chL f s.l, 0⟩
def turn (s : RS α) : RS α := ⟨s.lim, s.l, if s.i + 1 < s.l.length then s.i + 1 else 0⟩
def home (s : RS α) : RS α := ⟨s.lim, s.l, 0⟩
theorem Ok.new (n : Int) : (RS.new n : RS α).Ok := ⟨limOf_pos n, limOf_le n, Nat.zero_le _, .inr ⟨rfl, rfl⟩⟩
theorem Ok.push {s : RS α} (h : s.Ok) (x : α) : (s.push x).Ok := ⟨h.pos, h.le, by
  have := h.pos
  show (x :: s.l.take (s.lim - 1)).length ≤ s.lim
  rw [List.length_cons, List.length_take]; omega, .inl (by show 0 < (x :: s.l.take (s.lim - 1)).length; simp)⟩
theorem Ok.change {s : RS α} (h : s.Ok) (f : α → α) : (s.change f).Ok := ⟨h.pos, h.le, by show (chL f s.l).length ≤ s.lim; rw [chL_length]; exact h.len, by
  show 0 < (chL f s.l).length ∨ (0 = 0 ∧ chL f s.l = [])
  cases s.l with
  | nil => exact .inr ⟨rfl, rfl⟩
  | cons x t => exact .inl (by simp [chL])⟩
theorem Ok.turn {s : RS α} (h : s.Ok) : s.turn.Ok := ⟨h.pos, h.le, h.len, by
  show (if s.i + 1 < s.l.length then s.i + 1 else 0) < s.l.length ∨ _
  rcases h.at_ with h1 | h1
  · left; split <;> omega
  · right
    refine ⟨?_, h1.2⟩
    show (if s.i + 1 < s.l.length then s.i + 1 else 0) = 0
    rw [h1.2]; simp⟩
theorem Ok.home {s : RS α} (h : s.Ok) : s.home.Ok := ⟨h.pos, h.le, h.len, by
  rcases h.at_ with h1 | h1
  · exact .inl (by show 0 < s.l.length; omega)
  · exact .inr ⟨rfl, h1.2⟩⟩
/-- Some turns. -/
def turns (s : RS α) : Nat → RS α
  | 0 => s
  | k + 1 => (s.turns k).turn
theorem Ok.turns {s : RS α} (h : s.Ok) : ∀ k, (s.turns k).Ok
  | 0 => h
  | k + 1 => (Ok.turns h k).turn
/-- The things on which the first k turns stand. -/
def met (s : RS α) (d : α) (k : Nat) : List α := (List.range k).map fun j => s.l.getD ((s.i + (j + 1)) % s.l.length) d
end RS
/-- A call of the document's script. -/
structure OpD where
  k : Int
  t : ByteArray
def OpD.none_ : OpD := ⟨0, ⟨#[]⟩⟩
def doR (s : RS ByteArray) (o : OpD) : RS ByteArray :=
  if o.k = 0 then s.push o.t else if o.k = 1 then s.change (· ++ o.t) else if o.k = 2 then s.turn else if o.k = 3 then s.home else s
def runR (s : RS ByteArray) (os : List OpD) : RS ByteArray := os.foldl doR s
end
section
structure LS (α : Type) where
  lim : Nat
  back : List α
  now : α
  forth : List α
  opn : Int
def limL (n : Int) : Nat := (max 1 (min n 256)).toNat
theorem limL_le (n : Int) : limL n ≤ 256 := by unfold limL; omega
theorem limL_pos (n : Int) : 1 ≤ limL n := by unfold limL; omega
/-- The last n. -/
def lastN {α : Type} (n : Nat) (l : List α) : List α := l.drop (l.length - n)
theorem lastN_length {α : Type} (n : Nat) (l : List α) : (lastN n l).length = min n l.length := by unfold lastN; rw [List.length_drop]; omega
namespace LS
variable {α : Type}
structure Ok (s : LS α) : Prop where
  pos : 1 ≤ s.lim
  le : s.lim ≤ 256
  len : s.back.length + s.forth.length ≤ s.lim
  opn : 0 ≤ s.opn
def new (x : α) (n : Int) : LS α := ⟨limL n, [], x, [], 0⟩
/-- Do, where the state is another one. -/
def put (s : LS α) (x : α) (g : Int) : LS α :=
  ⟨s.lim, if g ≤ 0 ∨ g ≠ s.opn then lastN s.lim (s.back ++ [s.now]) else s.back, x, [], if 0 < g then g else 0⟩
def does [DecidableEq α] (s : LS α) (x : α) (g : Int) : LS α := if x = s.now then s else s.put x g
def move (s : LS α) (x : α) : LS α := ⟨s.lim, s.back, x, s.forth, s.opn⟩
def brk (s : LS α) : LS α := ⟨s.lim, s.back, s.now, s.forth, 0⟩
def undo (s : LS α) : LS α := if s.back = [] then s else ⟨s.lim, s.back.dropLast, s.back.getLastD s.now, s.forth ++ [s.now], 0⟩
def redo (s : LS α) : LS α := if s.forth = [] then s else ⟨s.lim, s.back ++ [s.now], s.forth.getLastD s.now, s.forth.dropLast, 0⟩
theorem Ok.new (x : α) (n : Int) : (LS.new x n).Ok := ⟨limL_pos n, limL_le n, Nat.zero_le _, Int.le_refl 0⟩
theorem Ok.put {s : LS α} (h : s.Ok) (x : α) (g : Int) : (s.put x g).Ok := by
  have := h.len
  refine ⟨h.pos, h.le, ?_, ?_⟩
  · show (if g ≤ 0 ∨ g ≠ s.opn then lastN s.lim (s.back ++ [s.now]) else s.back).length + 0 ≤ s.lim
    split
    · rw [lastN_length]; omega
    · omega
  · show 0 ≤ (if 0 < g then g else 0)
    split <;> omega
theorem Ok.does [DecidableEq α] {s : LS α} (h : s.Ok) (x : α) (g : Int) : (s.does x g).Ok := by
  unfold LS.does
  split
  · exact h
  · exact h.put x g
theorem Ok.move {s : LS α} (h : s.Ok) (x : α) : (s.move x).Ok := ⟨h.pos, h.le, h.len, h.opn⟩
theorem Ok.brk {s : LS α} (h : s.Ok) : s.brk.Ok := ⟨h.pos, h.le, h.len, Int.le_refl 0⟩
theorem Ok.undo {s : LS α} (h : s.Ok) : s.undo.Ok := by
  have := h.len
  unfold LS.undo
  split
  · exact h
  · rename_i hb
    have hn : 0 < s.back.length := List.length_pos_iff.2 hb
    exact ⟨h.pos, h.le, by show s.back.dropLast.length + (s.forth ++ [s.now]).length ≤ s.lim; simp; omega, Int.le_refl 0⟩
theorem Ok.redo {s : LS α} (h : s.Ok) : s.redo.Ok := by
  have := h.len
  unfold LS.redo
  split
  · exact h
  · rename_i hb
    have hn : 0 < s.forth.length := List.length_pos_iff.2 hb
    exact ⟨h.pos, h.le, by show (s.back ++ [s.now]).length + s.forth.dropLast.length ≤ s.lim; simp; omega, Int.le_refl 0⟩
theorem undo_some {s : LS α} {b : List α} {y : α} (h : s.back = b ++ [y]) : s.undo = ⟨s.lim, b, y, s.forth ++ [s.now], 0⟩ := by
  unfold LS.undo
  rw [if_neg (by rw [h]; simp), h]; simp
theorem redo_some {s : LS α} {f : List α} {y : α} (h : s.forth = f ++ [y]) : s.redo = ⟨s.lim, s.back ++ [s.now], y, f, 0⟩ := by
  unfold LS.redo
  rw [if_neg (by rw [h]; simp), h]; simp
/-- Some undos, and redos. -/
def undos (s : LS α) : Nat → LS α
  | 0 => s
  | k + 1 => (s.undos k).undo
def redos (s : LS α) : Nat → LS α
  | 0 => s
  | k + 1 => (s.redos k).redo
theorem Ok.undos {s : LS α} (h : s.Ok) : ∀ k, (s.undos k).Ok
  | 0 => h
  | k + 1 => (Ok.undos h k).undo
theorem Ok.redos {s : LS α} (h : s.Ok) : ∀ k, (s.redos k).Ok
  | 0 => h
  | k + 1 => (Ok.redos h k).redo
/-- A row of states, each done in a group of its own. -/
def singles [DecidableEq α] (s : LS α) (l : List α) : LS α := l.foldl (fun s x => s.does x 0) s
/-- A row of states, all done in one group. -/
def grouped [DecidableEq α] (s : LS α) (g : Int) (l : List α) : LS α := l.foldl (fun s x => s.does x g) s
end LS
/-- A call of the document's script. -/
structure OpU where
  k : Int
  t : ByteArray
  g : Int
def OpU.none_ : OpU := ⟨0, ⟨#[]⟩, 0⟩
def doU (s : LS ByteArray) (o : OpU) : LS ByteArray :=
  if o.k = 0 then s.does o.t o.g else if o.k = 1 then s.move o.t else if o.k = 2 then s.brk else if o.k = 3 then s.undo else if o.k = 4 then s.redo else s
/-- Was there something to do? -/
def didU (s : LS ByteArray) (o : OpU) : Bool :=
  if o.k = 0 then decide (o.t ≠ s.now) else if o.k = 3 then decide (s.back ≠ []) else if o.k = 4 then decide (s.forth ≠ []) else false
def runU (s : LS ByteArray) (os : List OpU) : LS ByteArray := os.foldl doU s
end
end Go.Proofs.YteafcaambnfdoaaGreatDoor
