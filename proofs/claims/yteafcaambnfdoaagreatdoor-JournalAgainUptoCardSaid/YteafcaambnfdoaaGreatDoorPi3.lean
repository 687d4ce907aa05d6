/-
  Layer 7 and what it stands on, part 3 (Row0 U32 Nib SumD0 SumLR SumBMath FrameMath).
-/
import Derived.Test.YteafcaambnfdoaaGreatDoorPi2
import Derived.Test.YteafcaambnfdoaaGreatDoorChecked
import Derived.Lib.Hide
import Derived.Lib.OthersKept
import Derived.WalkKit
import Derived.BigCall
import Derived.Deep.Draws
import Derived.Outline
import Derived.WalkSmall
import Derived.Deep.Upon
import Derived.Laws.BitsAllLaws
import Derived.IntWalk
namespace Go.Proofs.YteafcaambnfdoaaGreatDoor
section
open Go Go.RowKit
theorem own_less {w : World} {base base' : Nat} {e : TypeId} {size : Nat} {v : Value} {n : Nat} {xs : List Value} (h : w.ownsRow base e size v n xs) (hb : base' ≤ base) : w.ownsRow base' e size v n xs := by
 refine ⟨h.1, ?_⟩
 rcases h.2 with h2 | ⟨g, cap, cur, a, b, c, d⟩
 ·exact .inl h2
 ·exact .inr ⟨g, cap, cur, a, by omega, c, d⟩
theorem own_setCell {w : World} {base : Nat} {e : TypeId} {size : Nat} {v : Value} {n : Nat} {xs : List Value} (h : w.ownsRow base e size v n xs) {a : Addr} (ha : a.block < base) (u : Value) : (w.setCell a u).ownsRow base e size v n xs := ownsRow_setCell_below h ha u
theorem grown_of_below {a w : World} {row : Option Nat} (h : Below a.heap.size a w) : a.grownBy w row := ⟨h.os, h.tape, h.output, h.size, fun i hi _ => h.block i hi⟩
theorem own_below {w w' : World} {base : Nat} {e : TypeId} {size : Nat} {v : Value} {n : Nat} {xs : List Value} (h : w.ownsRow base e size v n xs) (hb : Below w.heap.size w w') : w'.ownsRow base e size v n xs :=
 h.kept (row := none) (grown_of_below hb) (by
  cases hv : v.ownBlock with
  | none => exact .inl rfl
  | some k => exact .inr (by simp))
theorem own_form {w : World} {base : Nat} {e : TypeId} {size : Nat} {v : Value} {n : Nat} {xs : List Value} (h : w.ownsRow base e size v n xs) : ∃ A c, v = .slice A n c := by
 rcases h.2 with ⟨hv, h0⟩ | ⟨g, cap, cur, hv, _⟩
 ·exact ⟨none, 0, by rw [hv, h0]⟩
 ·exact ⟨_, _, hv⟩
theorem wpList_append_g {P : Program} {w : World} {ops : Array Oper} {rest : List Oper} {o : Oper} {a : Act} {Q : Exit → Act → World → Prop} (hw : Region.wanted o (yielded ops a.tmps) = true) (s x : Operand) (t : TypeId)
  (ho : o.op = .call { callee := .builtin .append, args := #[s, x], argTypes := #[t, t] }) (v v2 : Value) (hs : a.eval s = v) (hx : a.eval x = v2) {v' : Value} {w' : World}
  (hr : (Builtin.append_ #[t, t] o.type #[v, v2]).run P w = .ok v' w') (h : wpList P ops Q rest (a.put o.dst v') w') : wpList P ops Q (o :: rest) a w := by
 refine wpList_step fun K hK => ?_
 rw [if_pos hw]
 unfold Oper.wp execOp
 simp only [ho, resolve, invoke, builtin, Sem.run_bind, Sem.run_pure, Result.andThen_ok, List.map_toArray, List.map_cons, List.map_nil, hs, hx, hr]
 exact hK _ _ h
theorem below_own {B : Nat} {a w w' : World} {base : Nat} {e : TypeId} {size : Nat} {v : Value} {n : Nat} {xs : List Value} (h : Below B a w) (hg : w.grownBy w' v.ownBlock) (hown : w.ownsRow base e size v n xs) (hb : B ≤ base) (hB : B ≤ w.heap.size) : Below B a w' :=
 h.grown hg hB (fun k hk => Nat.le_trans hb (hown.lt k hk).1)
theorem step_append_g {P : Program} {w : World} {ops : Array Oper} {o : Oper} {a : Act} {K : Act → World → Prop} {Q : Exit → Act → World → Prop} {E : Prop} (hw : Region.wanted o (yielded ops a.tmps) = true) (s x : Operand) (t : TypeId)
  (ho : o.op = .call { callee := .builtin .append, args := #[s, x], argTypes := #[t, t] }) (v v2 : Value) (hs : a.eval s = v) (hx : a.eval x = v2) {v' : Value} {w' : World}
  (hr : (Builtin.append_ #[t, t] o.type #[v, v2]).run P w = .ok v' w') (h : K (a.put o.dst v') w') : if Region.wanted o (yielded ops a.tmps) = true then Oper.wp P o a w K Q else E := by
 rw [if_pos hw]
 unfold Oper.wp execOp
 simp only [ho, resolve, invoke, builtin, Sem.run_bind, Sem.run_pure, Result.andThen_ok, List.map_toArray, List.map_cons, List.map_nil, hs, hx, hr]
 exact h
end
section
open Go Go.RowKit
set_option maxRecDepth 100000
theorem u32_xor_bv (a b : BitVec 32) : bits .xor .u32 (a.toNat : Int) (b.toNat : Int) = ((a ^^^ b).toNat : Int) := by
 rw [u32_xor_nat _ _ a.isLt b.isLt, BitVec.toNat_xor]
theorem u32_shr (a : BitVec 32) (k : Nat) : (a.toNat : Int) / 2 ^ k = ((a >>> k).toNat : Int) := by
 rw [BitVec.toNat_ushiftRight, Nat.shiftRight_eq_div_pow]
 simp
theorem u32_shr4 (a : BitVec 32) : (a.toNat : Int) / (16 : Int) = ((a >>> 4).toNat : Int) := u32_shr a 4
theorem u32_not (s : BitVec 32) : bits .xor .u32 IntKind.u32.max (s.toNat : Int) = ((~~~ s).toNat : Int) := by
 have h := u32_xor_bv (~~~ 0#32) s
 rw [show (((~~~ 0#32 : BitVec 32).toNat : Nat) : Int) = IntKind.u32.max from rfl] at h
 rw [h, BitVec.xor_comm, ← not_xor]
theorem u32_or_add (a b k : Nat) (ha : a < 2 ^ k) (hb : a + 2 ^ k * b < 4294967296) : bits .or .u32 (a : Int) ((b : Int) * ((2 ^ k : Nat) : Int)) = ((a + 2 ^ k * b : Nat) : Int) := by
 have e1 : (b : Int) * ((2 ^ k : Nat) : Int) = ((2 ^ k * b : Nat) : Int) := by rw [Int.natCast_mul, Int.mul_comm]
 rw [e1, u32_or_nat _ _ (by omega) (by omega), Nat.or_comm, ← Nat.two_pow_add_eq_or_of_lt ha, Nat.add_comm]
def lowX (c : BitVec 32) (x : UInt8) : Nat := c.toNat % 256 ^^^ x.toNat
theorem fdL_succ (n : BitVec 32) {b : List UInt8} {i : Nat} (hi : i < b.length) : fdL n (b.take (i + 1)) = fdB (fdL n (b.take i)) (b.getD i 0) := by
 rw [List.take_succ_eq_append_getElem hi, fdL_append, List.getD_eq_getElem?_getD, List.getElem?_eq_getElem hi]
 rfl
end
section
open Go Go.RowKit
set_option maxRecDepth 100000
theorem u32_and_low (s : BitVec 32) (k : Nat) (hk : k ≤ 31) : bits .and .u32 (s.toNat : Int) ((2 ^ k - 1 : Nat) : Int) = ((s.toNat % 2 ^ k : Nat) : Int) := by
 have h1 : 2 ^ k ≤ 2 ^ 31 := Nat.pow_le_pow_right (by decide) hk
 rw [u32_and_nat _ _ s.isLt (by omega), Nat.and_two_pow_sub_one_eq_mod]
theorem u32_and15 (s : BitVec 32) : bits .and .u32 (s.toNat : Int) 15 = ((s.toNat % 16 : Nat) : Int) := u32_and_low s 4 (by decide)
theorem low_bv (s : BitVec 32) (k : Nat) : BitVec.ofNat 32 (s.toNat % 2 ^ k) = s &&& BitVec.ofNat 32 (2 ^ k - 1) := by
 apply BitVec.eq_of_getLsbD_eq
 intro i hi
 rw [BitVec.getLsbD_ofNat, BitVec.getLsbD_and, BitVec.getLsbD_ofNat, Nat.testBit_mod_two_pow, Nat.testBit_two_pow_sub_one]
 by_cases h : i < k
 ·simp [h, hi, BitVec.getLsbD]
 ·simp [h]
theorem stp_tab (k : Nat) (hk : k ≤ 32) (s : BitVec 32) : stpN k (BitVec.ofNat 32 (s.toNat % 2 ^ k)) ^^^ (s >>> k) = stpN k s := by
 rw [low_bv, ← stp_low k hk]
theorem stp_tab' (k : Nat) (hk : k ≤ 32) (s : BitVec 32) : (s >>> k) ^^^ stpN k (BitVec.ofNat 32 (s.toNat % 2 ^ k)) = stpN k s := by
 rw [BitVec.xor_comm, stp_tab k hk]
theorem stpN_two (m n : Nat) (s : BitVec 32) : stpN n (stpN m s) = stpN (m + n) s := (stpN_add m n s).symm
theorem fdB_nib (c : BitVec 32) (x : UInt8) : stpN 4 (stpN 4 (c ^^^ BitVec.ofNat 32 x.toNat)) = fdB c x := by
 rw [stpN_two]
 rfl
end
section
open Go Go.RowKit
set_option maxRecDepth 100000
def u32V (v : BitVec 32) : Value := .int .u32 (v.toNat : Int)
def byV (s : BitVec 32) (k : Nat) : Nat := s.toNat / 256 ^ k % 256
def readN (b : List UInt8) : Nat := (b.getD 0 0).toNat + 256 * (b.getD 1 0).toNat + 65536 * (b.getD 2 0).toNat + 16777216 * (b.getD 3 0).toNat
def shfI (s : BitVec 32) (n : Int) : BitVec 32 := if n < 0 ∨ 1048576 < n then 0#32 else shfL s n.toNat
def joinI (a b : BitVec 32) (n : Int) : BitVec 32 := if n < 0 ∨ 1048576 < n then 0#32 else shfL a n.toNat ^^^ b
def fours : List (BitVec 32) := [0x00000000#32, 0x1db71064#32, 0x3b6e20c8#32, 0x26d930ac#32, 0x76dc4190#32, 0x6b6b51f4#32, 0x4db26158#32, 0x5005713c#32, 0xedb88320#32, 0xf00f9344#32, 0xd6d6a3e8#32, 0xcb61b38c#32, 0x9b64c2b0#32, 0x86d3d2d4#32, 0xa00ae278#32, 0xbdbdf21c#32]
def pows : List (BitVec 32) := [0x00800000#32, 0x00008000#32, 0xedb88320#32, 0xb1e6b092#32, 0xa06a2517#32, 0xed627dae#32, 0x88d14467#32, 0xd7bbfe6a#32, 0xec447f11#32, 0x8e7ea170#32, 0x6427800e#32, 0x4d47bae0#32, 0x09fe548f#32, 0x83852d0f#32, 0x30362f1a#32, 0x7b5a9cc3#32, 0x31fec169#32, 0x9fec022a#32, 0x6c8dedc4#32, 0x15d6874d#32, 0x5fde7a4e#32]
theorem four_at : ∀ i : Fin 16, fours.getD i 0 = stpN 4 (BitVec.ofNat 32 i.val) := by decide +kernel
def shK (s : BitVec 32) (m k : Nat) : BitVec 32 := mulP (xN (m % 2 ^ k)) s
end
section
open Go Go.RowKit
def LaysR (w : World) : Prop := ∀ i, i < 16 → w.cell? ⟨0, i, none⟩ = some (.int .u32 ((stpN 4 (BitVec.ofNat 32 i)).toNat : Int))
theorem LaysR.below {w w' : World} (h : LaysR w) {n : Nat} (hn : w.heap.size ≤ n) (hb : Below n w w') : LaysR w' :=
 fun i hi => by rw [hb.cell (Nat.lt_of_lt_of_le (World.block_lt_of_cell? _ _ (h i hi)) hn)]; exact h i hi
theorem LaysR.on {w w' : World} (h : LaysR w) (hb : Below w.heap.size w w') : LaysR w' := h.below (Nat.le_refl _) hb
end
section
open Go
set_option maxRecDepth 100000
def bl4 (s : BitVec 32) : List UInt8 := [UInt8.ofNat (byV s 0), UInt8.ofNat (byV s 1), UInt8.ofNat (byV s 2), UInt8.ofNat (byV s 3)]
theorem byV_lt (s : BitVec 32) (k : Nat) : byV s k < 256 := Nat.mod_lt _ (by decide)
theorem by_nat (s : BitVec 32) (k : Nat) : (UInt8.ofNat (byV s k)).toNat = byV s k := by
 rw [UInt8.toNat_ofNat']
 exact Nat.mod_eq_of_lt (byV_lt s k)
theorem read_bl4 (s : BitVec 32) (l : List UInt8) : readN (bl4 s ++ l) = s.toNat := by
 unfold readN bl4
 simp only [List.cons_append, List.nil_append, List.getD_cons_zero, List.getD_cons_succ, by_nat]
 unfold byV
 have := s.isLt
 omega
theorem readN_lt (l : List UInt8) : readN l < 4294967296 := by
 unfold readN
 have h0 := (l.getD 0 0).toNat_lt
 have h1 := (l.getD 1 0).toNat_lt
 have h2 := (l.getD 2 0).toNat_lt
 have h3 := (l.getD 3 0).toNat_lt
 omega
theorem read_nat (l : List UInt8) : (BitVec.ofNat 32 (readN l)).toNat = readN l := by
 rw [BitVec.toNat_ofNat]
 exact Nat.mod_eq_of_lt (readN_lt l)
theorem by_read (l : List UInt8) : byV (BitVec.ofNat 32 (readN l)) 0 = (l.getD 0 0).toNat ∧ byV (BitVec.ofNat 32 (readN l)) 1 = (l.getD 1 0).toNat ∧ byV (BitVec.ofNat 32 (readN l)) 2 = (l.getD 2 0).toNat ∧ byV (BitVec.ofNat 32 (readN l)) 3 = (l.getD 3 0).toNat := by
 unfold byV
 rw [read_nat]
 unfold readN
 have h0 := (l.getD 0 0).toNat_lt
 have h1 := (l.getD 1 0).toNat_lt
 have h2 := (l.getD 2 0).toNat_lt
 have h3 := (l.getD 3 0).toNat_lt
 omega
end
section
open Go
def headF (p : List UInt8) : List UInt8 := [UInt8.ofNat (p.length % 256), UInt8.ofNat (p.length / 256)]
def packF (p : List UInt8) : List UInt8 := headF p ++ (bl4 (crcL (headF p ++ p)) ++ p)
def numF (b : List UInt8) : Nat := (b.getD 0 0).toNat + 256 * (b.getD 1 0).toNat
def loadF (b : List UInt8) : List UInt8 := (b.drop 6).take (numF b)
def formF (b : List UInt8) : Prop := 6 ≤ b.length ∧ numF b ≤ 1000 ∧ numF b ≤ b.length - 6
instance (b : List UInt8) : Decidable (formF b) := by unfold formF; infer_instance
def okF (b : List UInt8) : Prop := formF b ∧ packF (loadF b) = b.take (6 + numF b)
instance (b : List UInt8) : Decidable (okF b) := by unfold okF; infer_instance
def errF (b : List UInt8) : Int := if formF b then if packF (loadF b) = b.take (6 + numF b) then 0 else 111 else 110
def nextF (b : List UInt8) : List UInt8 × Nat := if okF b then (loadF b, 6 + numF b) else ([], 0)
theorem err_ok {b : List UInt8} : errF b = 0 ↔ okF b := by
 unfold errF okF
 split
 ·rename_i h
  split
  ·rename_i h2; exact ⟨fun _ => ⟨h, h2⟩, fun _ => rfl⟩
  ·rename_i h2; exact ⟨fun e => absurd e (by decide), fun e => absurd e.2 h2⟩
 ·rename_i h; exact ⟨fun e => absurd e (by decide), fun e => absurd e.1 h⟩
theorem bl4_length (s : BitVec 32) : (bl4 s).length = 4 := rfl
theorem headF_length (p : List UInt8) : (headF p).length = 2 := rfl
theorem packF_length (p : List UInt8) : (packF p).length = 6 + p.length := by
 unfold packF
 rw [List.length_append, List.length_append, headF_length, bl4_length]
 omega
theorem numF_head (p r : List UInt8) (h : p.length ≤ 1000) : numF (headF p ++ r) = p.length := by
 unfold numF headF
 show (UInt8.ofNat (p.length % 256)).toNat + 256 * (UInt8.ofNat (p.length / 256)).toNat = _
 rw [UInt8.toNat_ofNat', UInt8.toNat_ofNat']
 omega
theorem headF_num (b q : List UInt8) (h : 2 ≤ b.length) (hq : q.length = numF b) : headF q = b.take 2 := by
 cases b with
 | nil => simp at h
 | cons x b =>
  cases b with
  | nil => simp at h
  | cons y b =>
   unfold headF
   rw [hq]
   unfold numF
   show [UInt8.ofNat ((x.toNat + 256 * y.toNat) % 256), UInt8.ofNat ((x.toNat + 256 * y.toNat) / 256)] = [x, y]
   have h1 := x.toNat_lt
   have h2 := y.toNat_lt
   have e1 : (x.toNat + 256 * y.toNat) % 256 = x.toNat := by omega
   have e2 : (x.toNat + 256 * y.toNat) / 256 = y.toNat := by omega
   rw [e1, e2]
   simp
theorem loadF_length {b : List UInt8} (h : formF b) : (loadF b).length = numF b := by
 unfold loadF
 rw [List.length_take, List.length_drop]
 exact Nat.min_eq_left h.2.2
theorem ok_sum {b : List UInt8} (h : formF b) : packF (loadF b) = b.take (6 + numF b) ↔ crcL (b.take 2 ++ loadF b) = BitVec.ofNat 32 (readN (b.drop 2)) := by
 have h2 : headF (loadF b) = b.take 2 := headF_num b _ (by have := h.1; omega) (loadF_length h)
 have hb : b = b.take 2 ++ ((b.drop 2).take 4 ++ b.drop 6) := by
  have e1 := (List.take_append_drop 2 b).symm
  have e2 := (List.take_append_drop 4 (b.drop 2)).symm
  rw [List.drop_drop] at e2
  rw [← e2]
  exact e1
 have h4 : ((b.drop 2).take 4).length = 4 := by
  rw [List.length_take, List.length_drop]
  have := h.1
  omega
 have hl2 : (b.take 2).length = 2 := by rw [List.length_take]; have := h.1; omega
 have ht' : ∀ n, b.take (6 + n) = b.take 2 ++ ((b.drop 2).take 4 ++ (b.drop 6).take n) := fun n => by
  conv => lhs; rw [hb]
  rw [show 6 + n = (b.take 2).length + (4 + n) by rw [hl2]; omega, List.take_length_add_append, show 4 + n = ((b.drop 2).take 4).length + n by rw [h4], List.take_length_add_append]
 have ht : b.take (6 + numF b) = b.take 2 ++ ((b.drop 2).take 4 ++ loadF b) := ht' _
 have hr : readN (b.drop 2) = readN ((b.drop 2).take 4) := by
  have hl : 4 ≤ (b.drop 2).length := by rw [List.length_drop]; have := h.1; omega
  unfold readN
  simp [List.getD]
 rw [ht]
 unfold packF
 rw [h2, hr]
 generalize (b.drop 2).take 4 = q at *
 generalize crcL (b.take 2 ++ loadF b) = s
 constructor
 ·intro e
  have e1 := List.append_cancel_left e
  have e2 : bl4 s = q := List.append_inj_left e1 (by rw [bl4_length, h4])
  rw [← e2]
  have := read_bl4 s []
  rw [List.append_nil] at this
  rw [this]
  simp
 ·intro e
  subst e
  congr 2
  match q, h4 with
  | [x0, x1, x2, x3], _ =>
   obtain ⟨y0, y1, y2, y3⟩ := by_read [x0, x1, x2, x3]
   unfold bl4
   rw [y0, y1, y2, y3]
   simp
theorem take_pack (p r : List UInt8) : (packF p ++ r).take (6 + p.length) = packF p := by
 rw [← packF_length p, List.take_left]
theorem num_pack (p r : List UInt8) (h : p.length ≤ 1000) : numF (packF p ++ r) = p.length := by
 unfold packF
 rw [List.append_assoc]
 exact numF_head p _ h
theorem load_pack (p r : List UInt8) (h : p.length ≤ 1000) : loadF (packF p ++ r) = p := by
 unfold loadF
 rw [num_pack p r h]
 have e : packF p ++ r = (headF p ++ bl4 (crcL (headF p ++ p))) ++ (p ++ r) := by unfold packF; simp
 rw [e, show 6 = (headF p ++ bl4 (crcL (headF p ++ p))).length from rfl, List.drop_left, List.take_left]
theorem form_pack (p r : List UInt8) (h : p.length ≤ 1000) : formF (packF p ++ r) := by
 have := packF_length p
 refine ⟨by rw [List.length_append]; omega, by rw [num_pack p r h]; exact h, by rw [num_pack p r h, List.length_append]; omega⟩
theorem ok_pack (p r : List UInt8) (h : p.length ≤ 1000) : okF (packF p ++ r) := ⟨form_pack p r h, by rw [load_pack p r h, num_pack p r h, take_pack]⟩
theorem ok_split {b : List UInt8} (h : okF b) : b = packF (loadF b) ++ b.drop (6 + numF b) ∧ (loadF b).length = numF b ∧ (loadF b).length ≤ 1000 := by
 refine ⟨?_, loadF_length h.1, by rw [loadF_length h.1]; exact h.1.2.1⟩
 rw [h.2, List.take_append_drop]
def scanN : Nat → List UInt8 → List (List UInt8) × Nat
 | 0, _ => ([], 0)
 | f + 1, b => if okF b then (loadF b :: (scanN f (b.drop (6 + numF b))).1, 6 + numF b + (scanN f (b.drop (6 + numF b))).2) else ([], 0)
def scanF (b : List UInt8) : List (List UInt8) × Nat := scanN b.length b
theorem scanN_fuel : ∀ (f g : Nat) (b : List UInt8), b.length ≤ f → b.length ≤ g → scanN f b = scanN g b
 | 0, 0, _, _, _ => rfl
 | 0, g + 1, b, h, _ => by
  have hb : ¬ okF b := fun h1 => by have := h1.1.1; omega
  unfold scanN
  rw [if_neg hb]
 | f + 1, 0, b, _, h => by
  have hb : ¬ okF b := fun h1 => by have := h1.1.1; omega
  unfold scanN
  rw [if_neg hb]
 | f + 1, g + 1, b, h1, h2 => by
  by_cases hb : okF b
  ·have hl := hb.1.1
   have e := scanN_fuel f g (b.drop (6 + numF b)) (by rw [List.length_drop]; omega) (by rw [List.length_drop]; omega)
   unfold scanN
   rw [if_pos hb, if_pos hb, e]
  ·unfold scanN
   rw [if_neg hb, if_neg hb]
theorem scan_no {b : List UInt8} (h : ¬ okF b) : scanF b = ([], 0) := by
 unfold scanF
 cases hb : b.length with
 | zero => rfl
 | succ n => unfold scanN; rw [if_neg h]
theorem scan_ok {b : List UInt8} (h : okF b) : scanF b = (loadF b :: (scanF (b.drop (6 + numF b))).1, 6 + numF b + (scanF (b.drop (6 + numF b))).2) := by
 have hl := h.1.1
 have e : scanF b = scanN (b.length - 1 + 1) b := by unfold scanF; rw [show b.length - 1 + 1 = b.length by omega]
 rw [e]
 unfold scanN
 rw [if_pos h, scanN_fuel (b.length - 1) (b.drop (6 + numF b)).length _ (by rw [List.length_drop]; omega) (Nat.le_refl _)]
 rfl
structure ScanTo (b : List UInt8) (n : Nat) (l : List (List UInt8)) : Prop where
 le : n ≤ b.length
 fst : (scanF b).1 = l ++ (scanF (b.drop n)).1
 snd : (scanF b).2 = n + (scanF (b.drop n)).2
theorem ScanTo.zero (b : List UInt8) : ScanTo b 0 [] := ⟨Nat.zero_le _, rfl, by rw [List.drop_zero, Nat.zero_add]⟩
theorem ScanTo.step {b : List UInt8} {n : Nat} {l : List (List UInt8)} (h : ScanTo b n l) (ho : okF (b.drop n)) : ScanTo b (n + (6 + numF (b.drop n))) (l ++ [loadF (b.drop n)]) := by
 obtain ⟨h1, h2, h3⟩ := h
 have hl := ho.1.2.2
 have hl1 := ho.1.1
 rw [List.length_drop] at hl hl1
 rw [scan_ok ho] at h2 h3
 rw [List.drop_drop] at h2 h3
 exact ⟨by omega, by rw [h2, List.append_assoc]; rfl, by rw [h3]; omega⟩
theorem ScanTo.fin {b : List UInt8} {n : Nat} {l : List (List UInt8)} (h : ScanTo b n l) (ho : ¬ okF (b.drop n)) : scanF b = (l, n) := by
 obtain ⟨h1, h2, h3⟩ := h
 rw [scan_no ho] at h2 h3
 exact Prod.ext (by rw [h2, List.append_nil]) h3
def packsF (l : List (List UInt8)) : List UInt8 := (l.map packF).flatten
theorem scan_packs : ∀ (l : List (List UInt8)) (t : List UInt8), (∀ p ∈ l, p.length ≤ 1000) → scanF (packsF l ++ t) = (l ++ (scanF t).1, (packsF l).length + (scanF t).2)
 | [], t, _ => by unfold packsF; simp
 | p :: l, t, h => by
  have e : packsF (p :: l) ++ t = packF p ++ (packsF l ++ t) := by unfold packsF; simp
  have hp := h p List.mem_cons_self
  have hd : (packF p ++ (packsF l ++ t)).drop (6 + p.length) = packsF l ++ t := by rw [← packF_length p, List.drop_left]
  rw [e, scan_ok (ok_pack p _ hp), load_pack p _ hp, num_pack p _ hp, hd, scan_packs l t (fun q hq => h q (List.mem_cons_of_mem _ hq))]
  have e2 : (packsF (p :: l)).length = 6 + p.length + (packsF l).length := by unfold packsF; rw [List.map_cons, List.flatten_cons, List.length_append, packF_length]
  rw [e2]
  simp only [List.cons_append]
  congr 1
  omega
theorem ok_short {b : List UInt8} (h : b.length < 6) : ¬ okF b := fun h1 => by have := h1.1.1; omega
theorem scanN_is : ∀ (f : Nat) (b : List UInt8), b = packsF (scanN f b).1 ++ b.drop (scanN f b).2 ∧ (scanN f b).2 = (packsF (scanN f b).1).length ∧ ∀ p ∈ (scanN f b).1, p.length ≤ 1000
 | 0, b => ⟨by simp [scanN, packsF], by simp [scanN, packsF], fun p hp => (by cases hp)⟩
 | f + 1, b => by
  by_cases h : okF b
  ·obtain ⟨h1, h2, h3⟩ := scanN_is f (b.drop (6 + numF b))
   obtain ⟨k1, k2, k3⟩ := ok_split h
   unfold scanN
   rw [if_pos h]
   have e : packsF (loadF b :: (scanN f (b.drop (6 + numF b))).1) = packF (loadF b) ++ packsF (scanN f (b.drop (6 + numF b))).1 := by unfold packsF; rw [List.map_cons, List.flatten_cons]
   simp only
   have hdd : ∀ k, b.drop (6 + numF b + k) = (b.drop (6 + numF b)).drop k := fun k => by rw [List.drop_drop]
   rw [e, hdd, List.append_assoc, ← h1, List.length_append, packF_length, k2, ← h2]
   refine ⟨k1, rfl, fun p hp => ?_⟩
   rcases List.mem_cons.1 hp with rfl | hp
   ·exact k3
   ·exact h3 p hp
  ·unfold scanN
   rw [if_neg h]
   exact ⟨by simp [packsF], by simp [packsF], fun p hp => (by cases hp)⟩
theorem scan_is (b : List UInt8) : b = packsF (scanF b).1 ++ b.drop (scanF b).2 ∧ (scanF b).2 = (packsF (scanF b).1).length ∧ ∀ p ∈ (scanF b).1, p.length ≤ 1000 := scanN_is _ b
end
end Go.Proofs.YteafcaambnfdoaaGreatDoor
