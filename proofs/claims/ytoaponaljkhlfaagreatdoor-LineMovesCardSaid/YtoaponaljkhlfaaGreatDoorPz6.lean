/-
  Layer 7 and what it stands on, part 6 (WidthC Width Bs LineMath LnSize LAliveMath Next BackM RowS RowI RefWC RefW LnUndoMath LnLawM).
-/
import Derived.Test.YtoaponaljkhlfaaGreatDoorPz3
import Derived.Test.YtoaponaljkhlfaaGreatDoorPz4
import Derived.Test.YtoaponaljkhlfaaGreatDoorPz5
import Derived.Laws.Rows
import Derived.Laws.Concat
import Derived.Test.YtoaponaljkhlfaaGreatDoorChecked
import Derived.Outline
namespace Go.Proofs.YtoaponaljkhlfaaGreatDoor
section
open Go Go.RowKit
set_option maxHeartbeats 1000000 in
theorem ctl_calls (r : Int) (w : World) (hr0 : -2147483648 ≤ r) (hr1 : r ≤ 2147483647) :
  Calls Tryz.prog 45 #[.int .i32 r] w fun e w' => e = .returned (.bool (ctlL r)) ∧ w = w' := by
 by_cases h1 : r < 32
 ·have e : ctlL r = true := decide_eq_true (.inl h1)
  rw [e]
  go_enter Tryz.func45, Tryz.ntmps45
  go_wp2
  go_ret
  exact ⟨rfl, rfl⟩
 by_cases h2 : 127 ≤ r
 ·by_cases h3 : r ≤ 159
  ·have e : ctlL r = true := decide_eq_true (.inr ⟨h2, h3⟩)
   rw [e]
   go_enter Tryz.func45, Tryz.ntmps45
   go_wp2
   go_ret
   exact ⟨rfl, rfl⟩
  ·have e : ctlL r = false := decide_eq_false (by omega)
   rw [e]
   go_enter Tryz.func45, Tryz.ntmps45
   go_wp2
   go_ret
   exact ⟨rfl, rfl⟩
 ·have e : ctlL r = false := decide_eq_false (by omega)
  rw [e]
  go_enter Tryz.func45, Tryz.ntmps45
  go_wp2
  go_ret
  exact ⟨rfl, rfl⟩
end
section
open Go Go.RowKit
set_option maxRecDepth 100000
def spanCells : Array Value := (spansL.flatMap fun x => [Value.int .i32 x.1, Value.int .i32 x.2.1, Value.int .i64 (x.2.2 : Int)]).toArray
def Spans (w : World) : Prop := ∃ t fr, w.heap[0]? = some (.cells spanCells t fr)
theorem spans_below {w w' : World} (h : Spans w) (hb : Below w.heap.size w w') : Spans w' := by
 obtain ⟨t, fr, h⟩ := h
 exact ⟨t, fr, (hb.block _ (Array.getElem?_eq_some_iff.1 h).1).trans h⟩
def spanAt (k : Nat) : Int × Int × Nat := spansL.getD k (0, 0, 0)
theorem span_index (k : Nat) (hk : k < 17) : ∀ W : World, (Instr.index 154 (.agg spanCells) (.int .i64 (k : Int))).run Tryz.prog W = .ok (.agg #[.int .i32 (spanAt k).1, .int .i32 (spanAt k).2.1, .int .i64 ((spanAt k).2.2 : Int)]) W := by
 have h : k = 0 ∨ k = 1 ∨ k = 2 ∨ k = 3 ∨ k = 4 ∨ k = 5 ∨ k = 6 ∨ k = 7 ∨ k = 8 ∨ k = 9 ∨ k = 10 ∨ k = 11 ∨ k = 12 ∨ k = 13 ∨ k = 14 ∨ k = 15 ∨ k = 16 := by omega
 rcases h with rfl | rfl | rfl | rfl | rfl | rfl | rfl | rfl | rfl | rfl | rfl | rfl | rfl | rfl | rfl | rfl | rfl <;> exact fun W => by kernel_rfl
theorem span_bounds (k : Nat) (hk : k < 17) : 0 ≤ (spanAt k).1 ∧ (spanAt k).1 ≤ 2147483647 ∧ 0 ≤ (spanAt k).2.1 ∧ (spanAt k).2.1 ≤ 2147483647 ∧ (spanAt k).2.2 ≤ 2 := by
 have h : k = 0 ∨ k = 1 ∨ k = 2 ∨ k = 3 ∨ k = 4 ∨ k = 5 ∨ k = 6 ∨ k = 7 ∨ k = 8 ∨ k = 9 ∨ k = 10 ∨ k = 11 ∨ k = 12 ∨ k = 13 ∨ k = 14 ∨ k = 15 ∨ k = 16 := by omega
 rcases h with rfl | rfl | rfl | rfl | rfl | rfl | rfl | rfl | rfl | rfl | rfl | rfl | rfl | rfl | rfl | rfl | rfl <;> decide
theorem of_drop (k : Nat) (hk : k < 17) (r : Int) : ofF (spansL.drop k) r = if (spanAt k).1 ≤ r ∧ r ≤ (spanAt k).2.1 then (spanAt k).2.2 else ofF (spansL.drop (k + 1)) r := by
 have hl : spansL.length = 17 := rfl
 have hk' : k < spansL.length := by rw [hl]; exact hk
 rw [List.drop_eq_getElem_cons hk']
 have e : spanAt k = spansL[k] := by simp [spanAt, List.getD, hk']
 rw [e]; rfl
set_option maxHeartbeats 2000000 in
theorem of_calls (r : Int) (w : World) (hs : Spans w) :
  Calls Tryz.prog 120 #[.int .i32 r] w fun e w' => e = .returned (.int .i64 (ofL r : Int)) ∧ Below w.heap.size w w' := by
 obtain ⟨t, fr, hh⟩ := hs
 go_enter Tryz.func120, Tryz.ntmps120
 go_wp2_with (refine wpList_load_row rfl _ _ rfl 0 rfl t spanCells fr _ hh Tryz.underlying154 rfl (by kernel_rfl) ?_)
 go_loopw [6] (fun i wr => ∃ k : Nat, k ≤ 17 ∧ i = .int .i64 (k : Int) ∧ Below w.heap.size w wr ∧ Hid (ofF (spansL.drop k) r = ofL r)) (fun i _ => 17 - (intOf i).toNat)
 case atStart => exact ⟨0, by omega, rfl, Below.refl _ _, Lib.hid rfl⟩
 case round =>
  obtain ⟨k, hk, rfl, hb, hof⟩ := hrel
  by_cases hlt : k < 17
  ·have hix := span_index k hlt
   have hbo := span_bounds k hlt
   have hd := of_drop k hlt r
   have Hd := Lib.hid hd
   clear hd
   generalize spanAt k = x at *
   obtain ⟨lo, hi, c⟩ := x
   simp only at hix hbo
   by_cases h1 : lo ≤ r
   ·by_cases h2 : r ≤ hi
    ·go_wp2
     go_ret
     refine ⟨?_, hb.alloc hb.size _⟩
     have e := Hd.out
     rw [if_pos ⟨h1, h2⟩, hof.out] at e
     rw [e]; rfl
    ·go_wp2
     go_roundw
     case rel =>
      refine ⟨k + 1, by omega, by go_num, hb.alloc hb.size _, Lib.hid ?_⟩
      have e := Hd.out
      rw [if_neg (fun h => h2 h.2), hof.out] at e
      exact e.symm
     case measure => simp [intOf]; omega
   ·go_wp2
    go_roundw
    case rel =>
     refine ⟨k + 1, by omega, by go_num, hb.alloc hb.size _, Lib.hid ?_⟩
     have e := Hd.out
     rw [if_neg (fun h => h1 h.1), hof.out] at e
     exact e.symm
    case measure => simp [intOf]; omega
  ·obtain rfl : k = 17 := by omega
   go_wp2
   go_ret
   have e := hof.out
   refine ⟨?_, hb⟩
   rw [← e]; rfl
end
section
open Go Go.RowKit
abbrev bs (l : List UInt8) : ByteArray := ⟨l.toArray⟩
theorem bs_size (l : List UInt8) : (bs l).size = l.length := by simp [ByteArray.size]
theorem bs_take (l : List UInt8) (n : Nat) : (bs l).extract 0 n = bs (l.take n) := by rw [Lib.extract_eq]; simp
theorem bs_drop (l : List UInt8) (n : Nat) : (bs l).extract n l.length = bs (l.drop n) := by
 rw [Lib.extract_eq, List.take_of_length_le (by simp)]
theorem bs_append (a b : List UInt8) : bs a ++ bs b = bs (a ++ b) := by
 apply ByteArray.ext
 rw [ByteArray.data_append]
 simp
theorem own_set {w : World} {base : Nat} {e : TypeId} {g n cap : Nat} {xs : List Value} (h : w.ownsRow base e 1 (.slice (some ⟨g, 0, none⟩) n cap) n xs) (i : Nat) (u : Value) :
  (w.setCell ⟨g, i, none⟩ u).ownsRow base e 1 (.slice (some ⟨g, 0, none⟩) n cap) n (xs.set i u) := by
 refine ⟨by rw [List.length_set]; exact h.1, ?_⟩
 rcases h.2 with ⟨hv, _⟩ | ⟨g', cap', cur, hv, hb, hh, hnc, hcm, hcs, htk⟩
 ·cases hv
 ·injection hv with h1 h2 h3
  injection h1 with h1
  injection h1 with h1
  subst h1; subst h3
  refine .inr ⟨g, cap, cur.setIfInBounds i u, rfl, hb, heap_setCell_same w g i cur e u hh, hnc, hcm, by simpa using hcs, ?_⟩
  rw [Array.toList_setIfInBounds, ← htk]
  rw [List.take_set, Nat.mul_one]
theorem own_cell {w : World} {base : Nat} {e : TypeId} {g n cap : Nat} {xs : List Value} (h : w.ownsRow base e 1 (.slice (some ⟨g, 0, none⟩) n cap) n xs) {i : Nat} {u : Value} (hu : xs[i]? = some u) : w.cell? ⟨g, i, none⟩ = some u ∧ w.frozen? ⟨g, i, none⟩ = false := by
 have h1 := h.cells (g := g) rfl i u hu
 rw [Addr.add_lit] at h1
 refine ⟨by simpa using h1, ?_⟩
 rcases h.2 with ⟨hv, _⟩ | ⟨g', cap', cur, hv, hb, hh, _⟩
 ·cases hv
 ·injection hv with h1 h2 h3
  injection h1 with h1
  injection h1 with h1
  subst h1
  simp [World.frozen?, hh]
theorem add_bs (P : Program) (a b : List UInt8) (h : a.length + b.length ≤ 9223372036854775807) (W : World) : (Op.stringOp .add (bs a) (bs b)).run P W = .ok (.string (bs (a ++ b))) W := by
 have h1 := run_string_add_sum (P := P) (w := W) (bs a) (bs b) (by rw [bs_size, bs_size]; exact h)
 rw [bs_append] at h1
 exact h1
def strLen : Value → Nat
 | .string s => s.size
 | _ => 0
end
section
open Go
abbrev Bf := List UInt8 × Nat
inductive Lst where
 | none
 | kill
 | yank (f t : Nat)
deriving DecidableEq
structure LN where
 log : LS Bf
 ring : RS ByteArray
 last : Lst
def bl (x : ByteArray) : List UInt8 := x.data.toList
theorem bs_bl (x : ByteArray) : bs (bl x) = x := by unfold bs bl; simp
theorem bl_bs (l : List UInt8) : bl (bs l) = l := by unfold bs bl; simp
def wrG (l : LS Bf) (b : Bf) (g : Int) : LS Bf := if g = 0 then (l.does b 0).brk else l.does b g
def mvL (l : LS Bf) (a : Nat) : LS Bf := (l.move (l.now.1, a)).brk
def fits (b : Bf) (p : List UInt8) : Prop := b.1.length + p.length ≤ 600
instance (b : Bf) (p : List UInt8) : Decidable (fits b p) := by unfold fits; infer_instance
def insB (b : Bf) (p : List UInt8) : Bf := (insS b.1 b.2 p, insA b.1 b.2 p)
def wordT (t : List UInt8) : Bool := decide (plainL t ≠ []) && decide (wrL (mS (plainL t ++ [32])) (mA (plainL t ++ [32]) 0) = (plainL t).length)
namespace LN
def new : LN := ⟨LS.new ([], 0) 32, RS.new 8, .none⟩
def buf (s : LN) : Bf := s.log.now
def put (s : LN) (b : Bf) (g : Int) : LN := ⟨wrG s.log b g, s.ring, .none⟩
def ins (s : LN) (t : List UInt8) (g : Int) : LN := if fits s.buf (plainL t) then s.put (insB s.buf (plainL t)) g else ⟨s.log, s.ring, .none⟩
def cut (s : LN) (f t : Nat) : LN := s.put ((cutR s.buf.1 s.buf.2 f t).1, (cutR s.buf.1 s.buf.2 f t).2.1) 0
def gone (s : LN) (f t : Nat) : List UInt8 := (cutR s.buf.1 s.buf.2 f t).2.2
def move (s : LN) (a : Nat) : LN := ⟨mvL s.log a, s.ring, .none⟩
def swap (s : LN) : LN := if (swapR s.buf.1 s.buf.2).2.2 then s.put ((swapR s.buf.1 s.buf.2).1, (swapR s.buf.1 s.buf.2).2.1) 0 else ⟨s.log, s.ring, .none⟩
def onto (ahead : Bool) (g x : ByteArray) : ByteArray := if ahead then g ++ x else x ++ g
def killed (r : RS ByteArray) (was : Lst) (ahead : Bool) (g : List UInt8) : RS ByteArray :=
 if g = [] then r else if was = .kill ∧ r.l ≠ [] then r.change (onto ahead (bs g)) else r.push (bs g)
def kill (s : LN) (f t : Nat) (ahead : Bool) : LN := ⟨(s.cut f t).log, killed s.ring s.last ahead (s.gone f t), .kill⟩
def yankAt (log : LS Bf) (r : RS ByteArray) (b : Bf) (x : ByteArray) (no : Lst) : LN :=
 if fits b (plainL (bl x)) then ⟨wrG log (insB b (plainL (bl x))) 0, r, .yank b.2 (insB b (plainL (bl x))).2⟩ else ⟨log, r, no⟩
def yank (s : LN) : LN := match s.ring.l with
 | [] => ⟨s.log, s.ring.home, .none⟩
 | x :: _ => yankAt s.log s.ring.home s.buf x .none
def pop (s : LN) : LN := match s.last with
 | .yank f t => yankAt s.log s.ring.turn ((cutR s.buf.1 s.buf.2 (backL s.buf.1 f) (backL s.buf.1 t)).1, (cutR s.buf.1 s.buf.2 (backL s.buf.1 f) (backL s.buf.1 t)).2.1) (s.ring.l.getD s.ring.turn.i ⟨#[]⟩) (.yank f t)
 | _ => ⟨s.log, s.ring, .none⟩
def undo (s : LN) : LN := ⟨s.log.undo, s.ring, .none⟩
def redo (s : LN) : LN := ⟨s.log.redo, s.ring, .none⟩
def set (s : LN) (t : List UInt8) : LN := s.put (mS t, (mS t).length) 0
def change (s : LN) (t : List UInt8) (n : Int) : LN := s.put (mS t, mA t n) 0
def canAdd (s : LN) (t : List UInt8) : Bool := decide (fits s.buf (plainL t)) && decide (plainL t ≠ [])
def add (s : LN) (t : List UInt8) : LN := if s.canAdd t then s.put (insB (s.buf.1, s.buf.1.length) (plainL t)) 0 else ⟨s.log.brk, s.ring, .none⟩
def clear (s : LN) : LN := ⟨LS.new ([], 0) 32, s.ring, .none⟩
def known (k : Int) : Bool := decide (k = 1 ∨ (3 ≤ k ∧ k ≤ 18) ∨ k = 24 ∨ k = 26)
def key (s : LN) (k : Int) (t : List UInt8) : LN :=
 if k = 1 then s.ins t (if wordT t then 1 else 0)
 else if k = 26 then s.ins t 0
 else if k = 3 then s.cut (prvL s.buf.1 s.buf.2) s.buf.2
 else if k = 4 then s.cut s.buf.2 (nxtL s.buf.1 s.buf.2)
 else if k = 24 then s.swap
 else if k = 5 then s.move (prvL s.buf.1 s.buf.2)
 else if k = 6 then s.move (nxtL s.buf.1 s.buf.2)
 else if k = 7 then s.move 0
 else if k = 8 then s.move s.buf.1.length
 else if k = 9 then s.move (wlL s.buf.1 s.buf.2)
 else if k = 10 then s.move (wrL s.buf.1 s.buf.2)
 else if k = 11 then s.kill s.buf.2 s.buf.1.length false
 else if k = 12 then s.kill 0 s.buf.2 true
 else if k = 13 then s.kill (wlL s.buf.1 s.buf.2) s.buf.2 true
 else if k = 14 then s.kill s.buf.2 (wrL s.buf.1 s.buf.2) false
 else if k = 15 then s.yank
 else if k = 16 then s.pop
 else if k = 17 then s.undo
 else if k = 18 then s.redo
 else s
def RtL (l : LS Bf) : Prop := Rt l.now.1 l.now.2 ∧ (∀ b ∈ l.back, Rt b.1 b.2) ∧ ∀ b ∈ l.forth, Rt b.1 b.2
structure Ok (s : LN) : Prop where
 log : s.log.Ok
 lim : s.log.lim = 32
 rt : RtL s.log
 ring : s.ring.Ok
 rlim : s.ring.lim = 8
end LN
def SmR (r : RS ByteArray) (B : Nat) : Prop := ∀ x ∈ r.l, x.size ≤ B
namespace LN
theorem RtL.new : RtL (LS.new ([], 0) 32) := ⟨⟨PlainP.nil, Nat.zero_le _, isB_zero _⟩, ⟨fun _ hb => absurd hb List.not_mem_nil, fun _ hb => absurd hb List.not_mem_nil⟩⟩
theorem RtL.does {l : LS Bf} (h : RtL l) {b : Bf} (hb : Rt b.1 b.2) (g : Int) : RtL (l.does b g) := by
 unfold LS.does
 split
 ·exact h
 ·refine ⟨hb, fun c hc => ?_, fun c hc => by cases hc⟩
  have hc' : c ∈ (if g ≤ 0 ∨ g ≠ l.opn then lastN l.lim (l.back ++ [l.now]) else l.back) := hc
  split at hc'
  ·rcases List.mem_append.1 (List.mem_of_mem_drop hc') with h1 | h1
   ·exact h.2.1 c h1
   ·rw [List.mem_singleton.1 h1]; exact h.1
  ·exact h.2.1 c hc'
theorem RtL.brk {l : LS Bf} (h : RtL l) : RtL l.brk := h
theorem RtL.move {l : LS Bf} (h : RtL l) {b : Bf} (hb : Rt b.1 b.2) : RtL (l.move b) := ⟨hb, h.2.1, h.2.2⟩
theorem RtL.undo {l : LS Bf} (h : RtL l) : RtL l.undo := by
 by_cases hb : l.back = []
 ·rw [show l.undo = l by unfold LS.undo; rw [if_pos hb]]; exact h
 ·obtain ⟨r, y, hr⟩ : ∃ r y, l.back = r ++ [y] := ⟨_, _, (List.dropLast_concat_getLast hb).symm⟩
  rw [LS.undo_some hr]
  refine ⟨h.2.1 y (by rw [hr]; simp), fun c hc => h.2.1 c (by rw [hr]; exact List.mem_append_left _ hc), fun c hc => ?_⟩
  rcases List.mem_append.1 hc with h1 | h1
  ·exact h.2.2 c h1
  ·rw [List.mem_singleton.1 h1]; exact h.1
theorem RtL.redo {l : LS Bf} (h : RtL l) : RtL l.redo := by
 by_cases hb : l.forth = []
 ·rw [show l.redo = l by unfold LS.redo; rw [if_pos hb]]; exact h
 ·obtain ⟨r, y, hr⟩ : ∃ r y, l.forth = r ++ [y] := ⟨_, _, (List.dropLast_concat_getLast hb).symm⟩
  rw [LS.redo_some hr]
  refine ⟨h.2.2 y (by rw [hr]; simp), fun c hc => ?_, fun c hc => h.2.2 c (by rw [hr]; exact List.mem_append_left _ hc)⟩
  rcases List.mem_append.1 hc with h1 | h1
  ·exact h.2.1 c h1
  ·rw [List.mem_singleton.1 h1]; exact h.1
theorem does_lim (l : LS Bf) (b : Bf) (g : Int) : (l.does b g).lim = l.lim := by
 unfold LS.does
 split <;> rfl
theorem undo_lim (l : LS Bf) : l.undo.lim = l.lim := by
 unfold LS.undo
 split <;> rfl
theorem redo_lim (l : LS Bf) : l.redo.lim = l.lim := by
 unfold LS.redo
 split <;> rfl
theorem Ok.new : LN.new.Ok := ⟨LS.Ok.new _ _, rfl, RtL.new, RS.Ok.new _, rfl⟩
theorem insB_rt {b : Bf} (hb : Rt b.1 b.2) {p : List UInt8} (hp : PlainP p) (hf : fits b p) : Rt (insB b p).1 (insB b p).2 := ins_rt hb hp hf
theorem cutR_rt {b : Bf} (hb : Rt b.1 b.2) {f t : Nat} (hf : IsB b.1 f) (ht : IsB b.1 t) : Rt (cutR b.1 b.2 f t).1 (cutR b.1 b.2 f t).2.1 := by
 unfold cutR
 split
 ·exact cut_rt hb hf ht (by assumption)
 ·exact hb
end LN
end
section
open Go
theorem SmR.mono {r : RS ByteArray} {A B : Nat} (h : SmR r A) (hb : A ≤ B) : SmR r B := fun x hx => Nat.le_trans (h x hx) hb
theorem SmR.push {r : RS ByteArray} {B : Nat} (h : SmR r B) {x : ByteArray} (hx : x.size ≤ B) : SmR (r.push x) B := by
 intro y hy
 have hy' : y ∈ x :: r.l.take (r.lim - 1) := hy
 rcases List.mem_cons.1 hy' with h1 | h1
 ·rw [h1]; exact hx
 ·exact h y (List.mem_of_mem_take h1)
theorem SmR.change {r : RS ByteArray} {B C : Nat} (h : SmR r B) (hb : B ≤ C) {f : ByteArray → ByteArray} (hf : ∀ x, x.size ≤ B → (f x).size ≤ C) : SmR (r.change f) C := by
 intro y hy
 have hy' : y ∈ chL f r.l := hy
 unfold chL at hy'
 split at hy'
 ·cases hy'
 ·rename_i x l hl
  rcases List.mem_cons.1 hy' with h1 | h1
  ·rw [h1]; exact hf x (h x (by rw [hl]; exact List.mem_cons_self))
  ·exact Nat.le_trans (h y (by rw [hl]; exact List.mem_cons_of_mem _ h1)) hb
theorem onto_size (ahead : Bool) (g x : ByteArray) : (LN.onto ahead g x).size = g.size + x.size := by
 unfold LN.onto
 split
 ·exact ByteArray.size_append
 ·rw [ByteArray.size_append, Nat.add_comm]
namespace LN
theorem gone_le {s : LN} (h : s.Ok) (f t : Nat) : (s.gone f t).length ≤ 600 := by
 unfold gone cutR
 have := h.rt.1.2.1
 split
 ·have h2 : s.buf.1.length ≤ 600 := this
  have h3 : (goneS s.buf.1 f t).length ≤ s.buf.1.length := by
   unfold goneS
   rw [List.length_take, List.length_drop]
   omega
  exact Nat.le_trans h3 h2
 ·exact Nat.zero_le _
theorem killed_sm {r : RS ByteArray} {B : Nat} (h : SmR r B) (was : Lst) (ahead : Bool) {g : List UInt8} (hg : g.length ≤ 600) : SmR (killed r was ahead g) (B + 600) := by
 unfold killed
 split
 ·exact h.mono (Nat.le_add_right _ _)
 ·split
  ·refine h.change (Nat.le_add_right _ _) fun x hx => ?_
   rw [onto_size, bs_size]
   omega
  ·exact (h.mono (Nat.le_add_right _ _)).push (by rw [bs_size]; omega)
theorem kill_sm {s : LN} (h : s.Ok) {B : Nat} (hs : SmR s.ring B) (f t : Nat) (ahead : Bool) : SmR (s.kill f t ahead).ring (B + 600) := killed_sm hs s.last ahead (gone_le h f t)
theorem ins_ring (s : LN) (t : List UInt8) (g : Int) : (s.ins t g).ring = s.ring := by
 unfold ins
 split <;> rfl
theorem swap_ring (s : LN) : s.swap.ring = s.ring := by
 unfold swap
 split <;> rfl
theorem yankAt_ring (log : LS Bf) (r : RS ByteArray) (b : Bf) (x : ByteArray) (no : Lst) : (yankAt log r b x no).ring = r := by
 unfold yankAt
 split <;> rfl
theorem yank_l (s : LN) : s.yank.ring.l = s.ring.l := by
 unfold yank
 split
 ·rfl
 ·rw [yankAt_ring]; rfl
theorem pop_l (s : LN) : s.pop.ring.l = s.ring.l := by
 unfold pop
 split
 ·rw [yankAt_ring]; rfl
 ·rfl
def kills (k : Int) : Bool := decide (11 ≤ k ∧ k ≤ 14)
theorem ite_as {c : Prop} [Decidable c] {a b : LN} (P : LN → Prop) (ha : c → P a) (hb : ¬ c → P b) : P (if c then a else b) := by
 split
 ·exact ha (by assumption)
 ·exact hb (by assumption)
theorem key_as (P : LN → Prop) (s : LN) (k : Int) (t : List UInt8)
  (h1 : k = 1 → P (s.ins t (if wordT t then 1 else 0))) (h26 : k = 26 → P (s.ins t 0)) (h3 : k = 3 → P (s.cut (prvL s.buf.1 s.buf.2) s.buf.2)) (h4 : k = 4 → P (s.cut s.buf.2 (nxtL s.buf.1 s.buf.2)))
  (h24 : k = 24 → P s.swap) (h5 : k = 5 → P (s.move (prvL s.buf.1 s.buf.2))) (h6 : k = 6 → P (s.move (nxtL s.buf.1 s.buf.2))) (h7 : k = 7 → P (s.move 0)) (h8 : k = 8 → P (s.move s.buf.1.length))
  (h9 : k = 9 → P (s.move (wlL s.buf.1 s.buf.2))) (h10 : k = 10 → P (s.move (wrL s.buf.1 s.buf.2))) (h11 : k = 11 → P (s.kill s.buf.2 s.buf.1.length false)) (h12 : k = 12 → P (s.kill 0 s.buf.2 true))
  (h13 : k = 13 → P (s.kill (wlL s.buf.1 s.buf.2) s.buf.2 true)) (h14 : k = 14 → P (s.kill s.buf.2 (wrL s.buf.1 s.buf.2) false)) (h15 : k = 15 → P s.yank) (h16 : k = 16 → P s.pop) (h17 : k = 17 → P s.undo) (h18 : k = 18 → P s.redo)
  (h : known k = false → P s) : P (s.key k t) := by
 unfold key
 refine ite_as P h1 fun n1 => ite_as P h26 fun n2 => ite_as P h3 fun n3 => ite_as P h4 fun n4 => ite_as P h24 fun n5 => ite_as P h5 fun n6 => ite_as P h6 fun n7 => ite_as P h7 fun n8 => ite_as P h8 fun n9 => ite_as P h9 fun n10 => ite_as P h10 fun n11 => ite_as P h11 fun n12 => ite_as P h12 fun n13 => ite_as P h13 fun n14 => ite_as P h14 fun n15 => ite_as P h15 fun n16 => ite_as P h16 fun n17 => ite_as P h17 fun n18 => ite_as P h18 fun n19 => h ?_
 unfold known
 exact decide_eq_false (by omega)
theorem key_l (s : LN) (k : Int) (t : List UInt8) (hk : kills k = false) : (s.key k t).ring.l = s.ring.l := by
 have hk' : ¬ (11 ≤ k ∧ k ≤ 14) := of_decide_eq_false hk
 refine key_as (fun x => x.ring.l = s.ring.l) s k t ?_ ?_ ?_ ?_ ?_ ?_ ?_ ?_ ?_ ?_ ?_ ?_ ?_ ?_ ?_ ?_ ?_ ?_ ?_ ?_
 ·exact fun _ => congrArg RS.l (ins_ring s t _)
 ·exact fun _ => congrArg RS.l (ins_ring s t _)
 ·exact fun _ => rfl
 ·exact fun _ => rfl
 ·exact fun _ => congrArg RS.l (swap_ring s)
 ·exact fun _ => rfl
 ·exact fun _ => rfl
 ·exact fun _ => rfl
 ·exact fun _ => rfl
 ·exact fun _ => rfl
 ·exact fun _ => rfl
 ·exact fun e => absurd ⟨by omega, by omega⟩ hk'
 ·exact fun e => absurd ⟨by omega, by omega⟩ hk'
 ·exact fun e => absurd ⟨by omega, by omega⟩ hk'
 ·exact fun e => absurd ⟨by omega, by omega⟩ hk'
 ·exact fun _ => yank_l s
 ·exact fun _ => pop_l s
 ·exact fun _ => rfl
 ·exact fun _ => rfl
 ·exact fun _ => rfl
theorem key_sm {s : LN} (h : s.Ok) {B : Nat} (hs : SmR s.ring B) (k : Int) (t : List UInt8) : SmR (s.key k t).ring (B + 600) := by
 by_cases hk : kills k = false
 ·intro x hx
  rw [key_l s k t hk] at hx
  exact Nat.le_trans (hs x hx) (Nat.le_add_right _ _)
 ·have hk' : 11 ≤ k ∧ k ≤ 14 := of_decide_eq_true (by simpa [kills] using hk)
  refine key_as (fun x => SmR x.ring (B + 600)) s k t ?_ ?_ ?_ ?_ ?_ ?_ ?_ ?_ ?_ ?_ ?_ ?_ ?_ ?_ ?_ ?_ ?_ ?_ ?_ ?_
  ·exact fun e => absurd hk' (by omega)
  ·exact fun e => absurd hk' (by omega)
  ·exact fun e => absurd hk' (by omega)
  ·exact fun e => absurd hk' (by omega)
  ·exact fun e => absurd hk' (by omega)
  ·exact fun e => absurd hk' (by omega)
  ·exact fun e => absurd hk' (by omega)
  ·exact fun e => absurd hk' (by omega)
  ·exact fun e => absurd hk' (by omega)
  ·exact fun e => absurd hk' (by omega)
  ·exact fun e => absurd hk' (by omega)
  ·exact fun _ => kill_sm h hs _ _ _
  ·exact fun _ => kill_sm h hs _ _ _
  ·exact fun _ => kill_sm h hs _ _ _
  ·exact fun _ => kill_sm h hs _ _ _
  ·exact fun e => absurd hk' (by omega)
  ·exact fun e => absurd hk' (by omega)
  ·exact fun e => absurd hk' (by omega)
  ·exact fun e => absurd hk' (by omega)
  ·exact fun _ => hs.mono (Nat.le_add_right _ _)
theorem set_sm {s : LN} {B : Nat} (hs : SmR s.ring B) (t : List UInt8) : SmR (s.set t).ring B := hs
theorem change_sm {s : LN} {B : Nat} (hs : SmR s.ring B) (t : List UInt8) (n : Int) : SmR (s.change t n).ring B := hs
theorem clear_sm {s : LN} {B : Nat} (hs : SmR s.ring B) : SmR s.clear.ring B := hs
theorem add_sm {s : LN} {B : Nat} (hs : SmR s.ring B) (t : List UInt8) : SmR (s.add t).ring B := by
 unfold add
 split <;> exact hs
theorem new_sm (B : Nat) : SmR LN.new.ring B := fun _ hx => by cases hx
end LN
end
section
open Go
def alA : LN := ((LN.new.key 1 [97]).key 1 [98]).key 1 [99]
def alB : LN := alA.key 13 []
def alC : LN := alB.key 0 []
def alD : LN := (alC.key 15 []).key 15 []
theorem alD_buf : alD.buf = ([97, 98, 99, 97, 98, 99], 6) := by decide
theorem alC_buf : alC.buf = ([], 0) := by decide
theorem alD_undos : alD.log.back.length = 4 ∧ alD.log.forth.length = 0 := by decide
theorem alD_kills : alD.ring.l = [bs [97, 98, 99]] := by decide +kernel
theorem alC_add : alC.canAdd [120] = true ∧ (alC.add [120]).buf = ([120], 1) := by decide +kernel
def alE : LN := alC.add [120]
theorem alE_change : (mS [121, 122], mA [121, 122] 1) ≠ alE.buf ∧ (alE.change [121, 122] 1).buf = ([121, 122], 1) := by decide +kernel
end
section
open Go Go.RowKit
set_option maxRecDepth 100000 in
set_option maxHeartbeats 1000000 in
theorem next_core (A : Option Addr) (n c : Nat) (s : ByteArray) (w : World) (hc : n ≤ c) (_hm : c ≤ 9223372036854775807)
  (hconv : (convert 81 9 (.slice A (min (n : Int) 4).toNat c)).run Tryz.prog w = .ok (.string s) w) (hs : s.size ≤ 4) (hw : (Utf8.decode s 0).2 ≤ s.size ∨ s.size = 0) :
  Calls Tryz.prog 121 #[.slice A n c] w fun e w' => e = .returned (.tuple #[.int .i32 (if s.size = 0 then 0 else (Utf8.decode s 0).1 : Nat), .int .i64 (if s.size = 0 then 0 else (Utf8.decode s 0).2 : Nat)]) ∧ Below w.heap.size w w' := by
 go_enter Tryz.func121, Tryz.ntmps121
 go_wp2_with fail
 go_loopw [2] (fun r wr => ∃ pos : Nat, wr = w.iter s pos ∧ ((pos = 0 ∧ r = .int .i32 0) ∨ (0 < pos ∧ 0 < s.size ∧ pos = (Utf8.decode s 0).2 ∧ r = .int .i32 ((Utf8.decode s 0).1 : Nat)))) (fun _ wr => s.size - wr.iterPos w.heap.size)
 case atStart => exact ⟨0, rfl, .inl ⟨rfl, rfl⟩⟩
 case round =>
  obtain ⟨pos, rfl, h | h⟩ := hrel
  ·obtain ⟨rfl, rfl⟩ := h
   by_cases hp : 0 < s.size
   ·have hnx : ∀ ty, (Instr.next (.pointer (some ⟨w.heap.size, 0, none⟩)) true ty).run Tryz.prog (w.iter s 0) = _ := fun ty => run_next_any w s 0 ty hp
    have hwd := Lib.width_pos s 0
    go_wp2
    go_roundw
    case rel => exact ⟨(Utf8.decode s 0).2, rfl, .inr ⟨by omega, hp, rfl, rfl⟩⟩
    case measure => simp; omega
   ·have hnx : ∀ ty, (Instr.next (.pointer (some ⟨w.heap.size, 0, none⟩)) true ty).run Tryz.prog (w.iter s 0) = _ := fun ty => run_next_end w s 0 ty hp
    go_wp2
    go_ret2
    exact ⟨by simp, below_iter _ _ _⟩
  ·obtain ⟨h0, h1, rfl, rfl⟩ := h
   have hz : ¬ s.size = 0 := by omega
   by_cases hp : (Utf8.decode s 0).2 < s.size
   ·have hnx : ∀ ty, (Instr.next (.pointer (some ⟨w.heap.size, 0, none⟩)) true ty).run Tryz.prog (w.iter s (Utf8.decode s 0).2) = _ := fun ty => run_next_any w s _ ty hp
    go_wp2
    go_ret2
    exact ⟨by simp, below_iter _ _ _⟩
   ·have hnx : ∀ ty, (Instr.next (.pointer (some ⟨w.heap.size, 0, none⟩)) true ty).run Tryz.prog (w.iter s (Utf8.decode s 0).2) = _ := fun ty => run_next_end w s _ ty hp
    go_wp2
    go_ret2
    have he : (Utf8.decode s 0).2 = s.size := by omega
    exact ⟨by simp [he], below_iter _ _ _⟩
theorem next_calls (A : Option Addr) (c : Nat) (l : List UInt8) (w : World) (hb : Byt w A l) (hc : l.length ≤ c) (hm : c ≤ maxLen) :
  Calls Tryz.prog 121 #[.slice A l.length c] w fun e w' => e = .returned (.tuple #[.int .i32 ((nextL l).1 : Int), .int .i64 ((nextL l).2 : Int)]) ∧ Below w.heap.size w w' := by
 unfold maxLen at hm
 have hconv := (hb.take 4).convert (P := Tryz.prog) c 81 5 9 Tryz.underlying81 Tryz.underlying5 Tryz.underlying9 (min (l.length : Int) 4).toNat (by rw [List.length_take]; omega)
 have hsz : (⟨(l.take 4).toArray⟩ : ByteArray).size = min 4 l.length := by simp [ByteArray.size]
 have hdec : Utf8.decode ⟨(l.take 4).toArray⟩ 0 = Lib.decodeL (l.take 4) := by rw [← Lib.decodeL_drop]; simp
 rw [decodeL_take] at hdec
 refine (next_core A l.length c _ w hc (by omega) hconv (by omega) ?_).mono ?_
 ·rw [hdec, hsz]
  by_cases hl : l = []
  ·subst hl; right; rfl
  ·left
   have h1 := Lib.decodeL_le l hl
   have h2 := decodeL_le4 l
   omega
 ·rintro e w' ⟨rfl, h⟩
  refine ⟨?_, h⟩
  rw [hdec, hsz]
  by_cases hl : l = []
  ·subst hl; rfl
  ·have h0 : 0 < l.length := by cases l <;> simp_all
   rw [if_neg (by omega), if_neg (by omega)]
   simp [nextL, hl]
end
section
open Go
theorem bounds_at (l : List UInt8) (k : Nat) (hk : k ≤ (cutL l).length) : (boundsL l).getD k 0 = pos (cutL l) k := by
 unfold boundsL pos
 rw [bnd_getD 0 _ k hk, Nat.zero_add]
theorem cut_len_le (l : List UInt8) (k : Nat) : pos (cutL l) k ≤ l.length := by
 have := pos_le (cutL l) k
 rwa [cutL_flatten] at this
theorem getD_bs (cs : List (List UInt8)) (k : Nat) : (cs.map bs).getD k ⟨#[]⟩ = bs (cs.getD k []) := by
 simp only [List.getD, List.getElem?_map]
 cases cs[k]? <;> rfl
end
section
open Go Go.RowKit
theorem infoS : (Tryz.prog.info? 9).map (fun i => (i.zero, i.size, i.bytes)) = some (some (.string ⟨#[]⟩), 1, 16) := by kernel_rfl
def cellsS (ls : List ByteArray) : List Value := ls.map Value.string
theorem cellsS_length (ls : List ByteArray) : (cellsS ls).length = ls.length := by simp [cellsS]
theorem cellsS_snoc (ls : List ByteArray) (s : ByteArray) : cellsS (ls ++ [s]) = cellsS ls ++ [.string s] := by simp [cellsS]
def RdS (w : World) (A : Option Addr) (ls : List ByteArray) : Prop := 0 < ls.length → ∃ g o, A = some ⟨g, o, none⟩ ∧ g < w.heap.size ∧ ∀ i, i < ls.length → w.cell? ⟨g, o + i, none⟩ = some (.string (ls.getD i ⟨#[]⟩))
theorem RdS.below {w w' : World} {A : Option Addr} {ls : List ByteArray} (h : RdS w A ls) (hb : Below w.heap.size w w') : RdS w' A ls := fun hn => by
 obtain ⟨g, o, e, hg, hc⟩ := h hn
 exact ⟨g, o, e, Nat.lt_of_lt_of_le hg hb.size, fun i hi => by rw [hb.cell (p := ⟨g, o + i, none⟩) hg]; exact hc i hi⟩
theorem rdS_of_own {w : World} {base : Nat} {A : Option Addr} {c n : Nat} {ls : List ByteArray} (h : w.ownsRow base 9 1 (.slice A n c) ls.length (cellsS ls)) : RdS w A ls ∧ n = ls.length ∧ ls.length ≤ c ∧ c ≤ maxLen := by
 rcases h.2 with ⟨hv, h0⟩ | ⟨g, cap, cur, hv, _, hh, hnc, hcm, _⟩
 ·injection hv with h1 h2 h3
  subst h1; subst h2; subst h3
  exact ⟨fun hn => by omega, h0.symm, by omega, by unfold maxLen; omega⟩
 ·injection hv with h1 h2 h3
  subst h1; subst h2; subst h3
  refine ⟨fun hn => ⟨g, 0, rfl, (Array.getElem?_eq_some_iff.1 hh).1, fun i hi => ?_⟩, rfl, hnc, hcm⟩
  have := h.cells (g := g) rfl i (.string (ls.getD i ⟨#[]⟩)) (by simp [cellsS, hi, List.getD])
  rw [Addr.add_lit] at this
  exact this
end
section
open Go Go.RowKit
theorem info64 : (Tryz.prog.info? 3).map (fun i => (i.zero, i.size, i.bytes)) = some (some (.int .i64 0), 1, 8) := by kernel_rfl
def cells64 (rs : List Nat) : List Value := rs.map fun (r : Nat) => Value.int .i64 (r : Int)
theorem cells64_snoc (rs : List Nat) (r : Nat) : cells64 (rs ++ [r]) = cells64 rs ++ [.int .i64 (r : Int)] := by simp [cells64]
def Rd64 (w : World) (A : Option Addr) (rs : List Nat) : Prop := 0 < rs.length → ∃ g o, A = some ⟨g, o, none⟩ ∧ g < w.heap.size ∧ ∀ i, i < rs.length → w.cell? ⟨g, o + i, none⟩ = some (.int .i64 ((rs.getD i 0 : Nat) : Int))
theorem Rd64.below {w w' : World} {A : Option Addr} {rs : List Nat} (h : Rd64 w A rs) (hb : Below w.heap.size w w') : Rd64 w' A rs := fun hn => by
 obtain ⟨g, o, e, hg, hc⟩ := h hn
 exact ⟨g, o, e, Nat.lt_of_lt_of_le hg hb.size, fun i hi => by rw [hb.cell (p := ⟨g, o + i, none⟩) hg]; exact hc i hi⟩
theorem rd64_of_own {w : World} {base : Nat} {A : Option Addr} {c n : Nat} {rs : List Nat} (h : w.ownsRow base 3 1 (.slice A n c) rs.length (cells64 rs)) : Rd64 w A rs ∧ n = rs.length ∧ rs.length ≤ c ∧ c ≤ maxLen := by
 rcases h.2 with ⟨hv, h0⟩ | ⟨g, cap, cur, hv, _, hh, hnc, hcm, _⟩
 ·injection hv with h1 h2 h3
  subst h1; subst h2; subst h3
  exact ⟨fun hn => by omega, h0.symm, by omega, by unfold maxLen; omega⟩
 ·injection hv with h1 h2 h3
  subst h1; subst h2; subst h3
  refine ⟨fun hn => ⟨g, 0, rfl, (Array.getElem?_eq_some_iff.1 hh).1, fun i hi => ?_⟩, rfl, hnc, hcm⟩
  have := h.cells (g := g) rfl i (.int .i64 ((rs.getD i 0 : Nat) : Int)) (by simp [cells64, hi, List.getD])
  rw [Addr.add_lit] at this
  exact this
end
section
open Go Go.RowKit
set_option maxHeartbeats 1000000 in
theorem rctl_calls (r : Int) (w : World) :
  Calls Tryz.prog 96 #[.int .i64 r] w fun e w' => e = .returned (.bool (ctlL r)) ∧ w = w' := by
 by_cases h1 : r ≤ 31
 ·have e : ctlL r = true := decide_eq_true (.inl (by omega))
  rw [e]
  go_enter Tryz.func96, Tryz.ntmps96
  go_wp2
  go_ret
  exact ⟨rfl, rfl⟩
 by_cases h2 : 127 ≤ r
 ·by_cases h3 : r ≤ 159
  ·have e : ctlL r = true := decide_eq_true (.inr ⟨h2, h3⟩)
   rw [e]
   go_enter Tryz.func96, Tryz.ntmps96
   go_wp2
   go_ret
   exact ⟨rfl, rfl⟩
  ·have e : ctlL r = false := decide_eq_false (by omega)
   rw [e]
   go_enter Tryz.func96, Tryz.ntmps96
   go_wp2
   go_ret
   exact ⟨rfl, rfl⟩
 ·have e : ctlL r = false := decide_eq_false (by omega)
  rw [e]
  go_enter Tryz.func96, Tryz.ntmps96
  go_wp2
  go_ret
  exact ⟨rfl, rfl⟩
end
section
open Go Go.RowKit
set_option maxHeartbeats 1000000 in
theorem between_calls (r lo hi : Int) (w : World) :
  Calls Tryz.prog 135 #[.int .i64 r, .int .i64 lo, .int .i64 hi] w fun e w' => e = .returned (.bool (decide (lo ≤ r ∧ r ≤ hi))) ∧ w = w' := by
 by_cases h1 : lo ≤ r
 ·by_cases h2 : r ≤ hi
  ·rw [decide_eq_true (show lo ≤ r ∧ r ≤ hi from ⟨h1, h2⟩)]
   go_enter Tryz.func135, Tryz.ntmps135
   go_wp2
   go_ret
   exact ⟨rfl, rfl⟩
  ·rw [decide_eq_false (show ¬ (lo ≤ r ∧ r ≤ hi) from fun h => h2 h.2)]
   go_enter Tryz.func135, Tryz.ntmps135
   go_wp2
   go_ret
   exact ⟨rfl, rfl⟩
 ·rw [decide_eq_false (show ¬ (lo ≤ r ∧ r ≤ hi) from fun h => h1 h.1)]
  go_enter Tryz.func135, Tryz.ntmps135
  go_wp2
  go_ret
  exact ⟨rfl, rfl⟩
set_option maxHeartbeats 8000000 in
set_option maxRecDepth 100000 in
theorem rof_calls (r : Int) (w : World) :
  Calls Tryz.prog 126 #[.int .i64 r] w fun e w' => e = .returned (.int .i64 (ofL r : Int)) ∧ w = w' := by
 have He : Hid (ofF spansL r = ofL r) := Lib.hid rfl
 generalize ofL r = x at *
 go_enter Tryz.func126, Tryz.ntmps126
 go_wp2_with (go_at_call 135; refine (between_calls _ _ _ _).mono ?_; rintro e w' ⟨rfl, rfl⟩)
 all_goals (go_ret; refine ⟨?_, rfl⟩; rw [← He.out]; simp only [spansL, ofF]; repeat first | rw [if_neg (by omega)] | rw [if_pos (by omega)])
 all_goals rfl
end
section
open Go
def totB (l : LS Bf) : List Bf := l.back ++ l.now :: l.forth.reverse
theorem totB_now (l : LS Bf) : (totB l)[l.back.length]? = some l.now := by
 unfold totB
 rw [List.getElem?_append_right (Nat.le_refl _), Nat.sub_self]
 rfl
theorem totB_undo {l : LS Bf} (h : 0 < l.back.length) : totB l.undo = totB l ∧ l.undo.back.length + 1 = l.back.length ∧ l.undo.forth.length = l.forth.length + 1 := by
 have hb : l.back ≠ [] := fun e => by rw [e] at h; exact absurd h (Nat.lt_irrefl 0)
 obtain ⟨r, y, hr⟩ : ∃ r y, l.back = r ++ [y] := ⟨_, _, (List.dropLast_concat_getLast hb).symm⟩
 rw [LS.undo_some hr]
 unfold totB
 rw [hr]
 refine ⟨?_, ?_, ?_⟩
 ·show r ++ y :: (l.forth ++ [l.now]).reverse = (r ++ [y]) ++ l.now :: l.forth.reverse
  rw [List.reverse_append]
  simp
 ·show r.length + 1 = (r ++ [y]).length
  simp
 ·show (l.forth ++ [l.now]).length = l.forth.length + 1
  simp
theorem totB_redo {l : LS Bf} (h : 0 < l.forth.length) : totB l.redo = totB l ∧ l.redo.back.length = l.back.length + 1 ∧ l.redo.forth.length + 1 = l.forth.length := by
 have hb : l.forth ≠ [] := fun e => by rw [e] at h; exact absurd h (Nat.lt_irrefl 0)
 obtain ⟨r, y, hr⟩ : ∃ r y, l.forth = r ++ [y] := ⟨_, _, (List.dropLast_concat_getLast hb).symm⟩
 rw [LS.redo_some hr]
 unfold totB
 rw [hr]
 refine ⟨?_, ?_, ?_⟩
 ·show (l.back ++ [l.now]) ++ y :: r.reverse = l.back ++ l.now :: (r ++ [y]).reverse
  rw [List.reverse_append]
  simp
 ·show (l.back ++ [l.now]).length = l.back.length + 1
  simp
 ·show r.length + 1 = (r ++ [y]).length
  simp
namespace LN
structure At (s : LN) (T : List Bf) (n f : Nat) : Prop where
 tot : totB s.log = T
 back : s.log.back.length = n
 forth : s.log.forth.length = f
theorem At.buf {s : LN} {T : List Bf} {n f : Nat} (h : s.At T n f) : T[n]? = some s.buf := by
 rw [← h.tot, ← h.back]
 exact totB_now s.log
theorem At.undo {s : LN} {T : List Bf} {n f : Nat} (h : s.At T (n + 1) f) : (s.key 17 []).At T n (f + 1) := by
 obtain ⟨h1, h2, h3⟩ := totB_undo (l := s.log) (by rw [h.back]; omega)
 exact ⟨h1.trans h.tot, by have := h.back; show s.log.undo.back.length = n; omega, by have := h.forth; show s.log.undo.forth.length = f + 1; omega⟩
theorem At.redo {s : LN} {T : List Bf} {n f : Nat} (h : s.At T n (f + 1)) : (s.key 18 []).At T (n + 1) f := by
 obtain ⟨h1, h2, h3⟩ := totB_redo (l := s.log) (by rw [h.forth]; omega)
 exact ⟨h1.trans h.tot, by have := h.back; show s.log.redo.back.length = n + 1; omega, by have := h.forth; show s.log.redo.forth.length = f; omega⟩
theorem key_sm0 {s : LN} {C : Nat} (hs : SmR s.ring C) (k : Int) (t : List UInt8) (hk : kills k = false) : SmR (s.key k t).ring C := by
 intro x hx
 rw [key_l s k t hk] at hx
 exact hs x hx
end LN
end
section
open Go
set_option maxRecDepth 100000
namespace LN
theorem does_now (l : LS Bf) (b : Bf) (g : Int) : (l.does b g).now = b := by
 unfold LS.does
 split
 ·rename_i h; exact h.symm
 ·rfl
theorem wr_now (l : LS Bf) (b : Bf) (g : Int) : (wrG l b g).now = b := by
 unfold wrG
 split
 ·exact does_now l b 0
 ·exact does_now l b g
def mvTo (b : Bf) (k : Int) : Nat := if k = 5 then prvL b.1 b.2 else if k = 6 then nxtL b.1 b.2 else if k = 7 then 0 else if k = 8 then b.1.length else if k = 9 then wlL b.1 b.2 else wrL b.1 b.2
theorem key_mv (s : LN) {k : Int} (h : 5 ≤ k ∧ k ≤ 10) (t : List UInt8) : s.key k t = s.move (mvTo s.buf k) := by
 have h2 : k = 5 ∨ k = 6 ∨ k = 7 ∨ k = 8 ∨ k = 9 ∨ k = 10 := by omega
 rcases h2 with rfl | rfl | rfl | rfl | rfl | rfl <;> rfl
theorem kill_buf (s : LN) (f t : Nat) (a : Bool) : (s.kill f t a).buf = ((cutR s.buf.1 s.buf.2 f t).1, (cutR s.buf.1 s.buf.2 f t).2.1) := wr_now _ _ _
theorem kill_lt {s : LN} {f t : Nat} {a : Bool} (h : (s.kill f t a).buf.1 ≠ s.buf.1) : f < t := by
 rw [kill_buf] at h
 unfold cutR at h
 split at h
 ·assumption
 ·exact absurd rfl h
theorem kill_cut {s : LN} {f t : Nat} (a : Bool) (h : f < t) : (s.kill f t a).buf = (cutS s.buf.1 f t, cutA s.buf.1 s.buf.2 f t) ∧ s.gone f t = goneS s.buf.1 f t := by
 rw [kill_buf]
 unfold gone cutR
 rw [if_pos h]
 exact ⟨rfl, rfl⟩
theorem gone_len {l : List UInt8} {f t : Nat} (ht : t ≤ l.length) : (goneS l f t).length = t - f := goneS_length l f t ht
theorem gone_ne {l : List UInt8} {f t : Nat} (h : f < t) (ht : t ≤ l.length) : goneS l f t ≠ [] := fun e => by
 have := gone_len (f := f) ht
 rw [e] at this
 simp at this
 omega
theorem kill_push {s : LN} (hl : s.last ≠ .kill) {f t : Nat} (a : Bool) (h : f < t) (ht : t ≤ s.buf.1.length) : (s.kill f t a).ring = s.ring.push (bs (goneS s.buf.1 f t)) := by
 show killed s.ring s.last a (s.gone f t) = _
 rw [(kill_cut a h).2]
 unfold killed
 rw [if_neg (gone_ne h ht), if_neg (fun e => hl e.1)]
theorem kill_yank {s : LN} (hok : s.Ok) (hl : s.last ≠ .kill) {f t : Nat} (hf : IsB s.buf.1 f) (ht : IsB s.buf.1 t) (a : Bool) (h : f < t) (hat : (s.kill f t a).buf.2 = f) :
  ∃ X, X.1 = s.buf.1 ∧ (s.kill f t a).yank.log = wrG (s.kill f t a).log X 0 ∧ (s.kill f t a).yank.buf = X := by
 obtain ⟨h1, h2⟩ := kill_cut a h
 have hp : PlainP (goneS s.buf.1 f t) := hf.mid_P ht hok.rt.1.1 (Nat.le_of_lt h)
 have hr := kill_push hl a h ht.le
 have hb : (s.kill f t a).buf = (cutS s.buf.1 f t, f) := by
  have h3 : cutA s.buf.1 s.buf.2 f t = f := by rw [h1] at hat; exact hat
  rw [h1, h3]
 have hlen := cutS_length s.buf.1 f t (Nat.le_of_lt h) ht.le
 have hgl := gone_len (f := f) ht.le
 have h6 := hok.rt.1.2.1
 have h6' : s.buf.1.length ≤ 600 := h6
 have hfit : fits (cutS s.buf.1 f t, f) (goneS s.buf.1 f t) := by unfold fits; dsimp only; omega
 refine ⟨insB (cutS s.buf.1 f t, f) (goneS s.buf.1 f t), ?_, ?_, ?_⟩
 ·show insS (cutS s.buf.1 f t) f (goneS s.buf.1 f t) = s.buf.1
  exact ins_cut (Nat.le_of_lt h) ht.le
 ·have : (s.kill f t a).yank = yankAt (s.kill f t a).log (s.kill f t a).ring.home (s.kill f t a).buf (bs (goneS s.buf.1 f t)) .none := by
   unfold yank; rw [hr]; rfl
  rw [this]
  unfold yankAt
  rw [bl_bs, hp.plain, hb, if_pos hfit]
 ·have : (s.kill f t a).yank = yankAt (s.kill f t a).log (s.kill f t a).ring.home (s.kill f t a).buf (bs (goneS s.buf.1 f t)) .none := by
   unfold yank; rw [hr]; rfl
  rw [this]
  unfold yankAt
  rw [bl_bs, hp.plain, hb, if_pos hfit]
  exact wr_now _ _ _
theorem wr_back (l : LS Bf) (X : Bf) (h : X ≠ l.now) (hl : l.lim = 32) (hb : l.back.length ≤ 32) : (wrG l X 0).back.length = min (l.back.length + 1) 32 ∧ (wrG l X 0).undo.now = l.now := by
 have h1 : (wrG l X 0).back = lastN 32 (l.back ++ [l.now]) := by
  unfold wrG LS.does
  rw [if_pos rfl, if_neg h]
  show (if (0 : Int) ≤ 0 ∨ (0 : Int) ≠ l.opn then lastN l.lim (l.back ++ [l.now]) else l.back) = _
  rw [if_pos (.inl (Int.le_refl 0)), hl]
 have h2 : lastN 32 (l.back ++ [l.now]) = (l.back.drop (l.back.length + 1 - 32)) ++ [l.now] := by
  unfold lastN
  rw [List.length_append, List.length_singleton, List.drop_append_of_le_length (by omega)]
 refine ⟨?_, ?_⟩
 ·rw [h1, lastN_length, List.length_append, List.length_singleton]; omega
 ·rw [LS.undo_some (h1.trans h2)]
def xs (k : Nat) : Bf := (List.replicate k 120, k)
end LN
end
end Go.Proofs.YtoaponaljkhlfaaGreatDoor
