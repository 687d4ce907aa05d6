/-
  Layer 7 and what it stands on, part 6 (WidthC Width Bs LineMath RowI RefWC BackM RowS RefW).
-/
import Derived.Test.YtlmbafnoopfilaaGreatDoorPg2
import Derived.Test.YtlmbafnoopfilaaGreatDoorPg3
import Derived.Test.YtlmbafnoopfilaaGreatDoorPg4
import Derived.Test.YtlmbafnoopfilaaGreatDoorPg5
import Derived.Laws.Rows
import Derived.Laws.Concat
namespace Go.Proofs.YtlmbafnoopfilaaGreatDoor
section
open Go Go.RowKit
set_option maxHeartbeats 1000000 in
theorem ctl_calls (r : Int) (w : World) (hr0 : -2147483648 ≤ r) (hr1 : r ≤ 2147483647) :
    Calls Tryz.prog 44 #[.int .i32 r] w fun e w' => e = .returned (.bool (ctlL r)) ∧ w = w' := by
  by_cases h1 : r < 32
  · have e : ctlL r = true := decide_eq_true (.inl h1)
    rw [e]
    go_enter Tryz.func44, Tryz.ntmps44
    go_wp2
    go_ret
    exact ⟨rfl, rfl⟩
  by_cases h2 : 127 ≤ r
  · by_cases h3 : r ≤ 159
    · have e : ctlL r = true := decide_eq_true (.inr ⟨h2, h3⟩)
      rw [e]
      go_enter Tryz.func44, Tryz.ntmps44
      go_wp2
      go_ret
      exact ⟨rfl, rfl⟩
    · have e : ctlL r = false := decide_eq_false (by omega)
      rw [e]
      go_enter Tryz.func44, Tryz.ntmps44
      go_wp2
      go_ret
      exact ⟨rfl, rfl⟩
  · have e : ctlL r = false := decide_eq_false (by omega)
    rw [e]
    go_enter Tryz.func44, Tryz.ntmps44
    go_wp2
    go_ret
    exact ⟨rfl, rfl⟩
end
section
open Go Go.RowKit
set_option maxRecDepth 100000
def spanCells : Array Value := (spansL.flatMap fun x => [Value.int .i32 x.1, Value.int .i32 x.2.1, Value.int .i64 (x.2.2 : Int)]).toArray
/-- The table lies where the program's text lays it. -/
def Spans (w : World) : Prop := ∃ t fr, w.heap[0]? = some (.cells spanCells t fr)
theorem spans_below {w w' : World} (h : Spans w) (hb : Below w.heap.size w w') : Spans w' := by
  obtain ⟨t, fr, h⟩ := h
  exact ⟨t, fr, (hb.block _ (Array.getElem?_eq_some_iff.1 h).1).trans h⟩
def spanAt (k : Nat) : Int × Int × Nat := spansL.getD k (0, 0, 0)
theorem span_index (k : Nat) (hk : k < 17) : ∀ W : World, (Instr.index 128 (.agg spanCells) (.int .i64 (k : Int))).run Tryz.prog W = .ok (.agg #[.int .i32 (spanAt k).1, .int .i32 (spanAt k).2.1, .int .i64 ((spanAt k).2.2 : Int)]) W := by
  have h : k = 0 ∨ k = 1 ∨ k = 2 ∨ k = 3 ∨ k = 4 ∨ k = 5 ∨ k = 6 ∨ k = 7 ∨ k = 8 ∨ k = 9 ∨ k = 10 ∨ k = 11 ∨ k = 12 ∨ k = 13 ∨ k = 14 ∨ k = 15 ∨ k = 16 := by omega
  rcases h with rfl | rfl | rfl | rfl | rfl | rfl | rfl | rfl | rfl | rfl | rfl | rfl | rfl | rfl | rfl | rfl | rfl <;> exact fun W => by kernel_rfl
theorem span_bounds (k : Nat) (hk : k < 17) : 0 ≤ (spanAt k).1 ∧ (spanAt k).1 ≤ 2147483647 ∧ 0 ≤ (spanAt k).2.1 ∧ (spanAt k).2.1 ≤ 2147483647 ∧ (spanAt k).2.2 ≤ 2 := by
  have h : k = 0 ∨ k = 1 ∨ k = 2 ∨ k = 3 ∨ k = 4 ∨ k = 5 ∨ k = 6 ∨ k = 7 ∨ k = 8 ∨ k = 9 ∨ k = 10 ∨ k = 11 ∨ k = 12 ∨ k = 13 ∨ k = 14 ∨ k = 15 ∨ k = 16 := by omega
  rcases h with rfl | rfl | rfl | rfl | rfl | rfl | rfl | rfl | rfl | rfl | rfl | rfl | rfl | rfl | rfl | rfl | rfl <;> decide
theorem of_drop (k : Nat) (hk : k < 17) (r : Int) : ofF (spansL.drop k) r = if (spanAt k).1 ≤ r ∧ r ≤ (spanAt k).2.1 then (spanAt k).2.2 else ofF (spansL.drop (k + 1)) r := by
  have hl : spansL.length = 17 := rfl
  have hk' : k < spansL.length := by rw [hl]; exact hk
  rw [List.drop_eq_getElem_cons hk']
  have e : spanAt k = spansL[k] := by simp [spanAt, List.getD, hk']
  rw [e]; rfl
set_option maxHeartbeats 2000000 in
theorem of_calls (r : Int) (w : World) (hs : Spans w) :
    Calls Tryz.prog 64 #[.int .i32 r] w fun e w' => e = .returned (.int .i64 (ofL r : Int)) ∧ Below w.heap.size w w' := by
  obtain ⟨t, fr, hh⟩ := hs
  go_enter Tryz.func64, Tryz.ntmps64
  go_wp2_with (refine wpList_load_row rfl _ _ rfl 0 rfl t spanCells fr _ hh Tryz.underlying128 rfl (by kernel_rfl) ?_)
  go_loopw [6] (fun i wr => ∃ k : Nat, k ≤ 17 ∧ i = .int .i64 (k : Int) ∧ Below w.heap.size w wr ∧ Hid (ofF (spansL.drop k) r = ofL r)) (fun i _ => 17 - (intOf i).toNat)
  case atStart => exact ⟨0, by omega, rfl, Below.refl _ _, Lib.hid rfl⟩
  case round =>
    obtain ⟨k, hk, rfl, hb, hof⟩ := hrel
    by_cases hlt : k < 17
    · have hix := span_index k hlt
      have hbo := span_bounds k hlt
      have hd := of_drop k hlt r
      have Hd := Lib.hid hd
      clear hd
      generalize spanAt k = x at *
      obtain ⟨lo, hi, c⟩ := x
      simp only at hix hbo
      by_cases h1 : lo ≤ r
      · by_cases h2 : r ≤ hi
        · go_wp2
          go_ret
          refine ⟨?_, hb.alloc hb.size _⟩
          have e := Hd.out
          rw [if_pos ⟨h1, h2⟩, hof.out] at e
          rw [e]; rfl
        · go_wp2
          go_roundw
          case rel =>
            refine ⟨k + 1, by omega, by go_num, hb.alloc hb.size _, Lib.hid ?_⟩
            have e := Hd.out
            rw [if_neg (fun h => h2 h.2), hof.out] at e
            exact e.symm
          case measure => simp [intOf]; omega
      · go_wp2
        go_roundw
        case rel =>
          refine ⟨k + 1, by omega, by go_num, hb.alloc hb.size _, Lib.hid ?_⟩
          have e := Hd.out
          rw [if_neg (fun h => h1 h.1), hof.out] at e
          exact e.symm
        case measure => simp [intOf]; omega
    · obtain rfl : k = 17 := by omega
      go_wp2
      go_ret
      have e := hof.out
      refine ⟨?_, hb⟩
      rw [← e]; rfl
end
section
open Go Go.RowKit
/-- A list of bytes as a text. -/
abbrev bs (l : List UInt8) : ByteArray := ⟨l.toArray⟩
theorem bs_size (l : List UInt8) : (bs l).size = l.length := by simp [ByteArray.size]
theorem bs_take (l : List UInt8) (n : Nat) : (bs l).extract 0 n = bs (l.take n) := by rw [Lib.extract_eq]; simp
theorem bs_drop (l : List UInt8) (n : Nat) : (bs l).extract n l.length = bs (l.drop n) := by
  rw [Lib.extract_eq, List.take_of_length_le (by simp)]
theorem bs_append (a b : List UInt8) : bs a ++ bs b = bs (a ++ b) := by
  apply ByteArray.ext
  rw [ByteArray.data_append]
  simp
theorem own_set {w : World} {base : Nat} {e : TypeId} {g n cap : Nat} {xs : List Value} (h : w.ownsRow base e 1 (.slice (some ⟨g, 0, none⟩) n cap) n xs) (i : Nat) (u : Value) :
    (w.setCell ⟨g, i, none⟩ u).ownsRow base e 1 (.slice (some ⟨g, 0, none⟩) n cap) n (xs.set i u) := by
  refine ⟨by rw [List.length_set]; exact h.1, ?_⟩
  rcases h.2 with ⟨hv, _⟩ | ⟨g', cap', cur, hv, hb, hh, hnc, hcm, hcs, htk⟩
  · cases hv
  · injection hv with h1 h2 h3
    injection h1 with h1
    injection h1 with h1
    subst h1; subst h3
    refine .inr ⟨g, cap, cur.setIfInBounds i u, rfl, hb, heap_setCell_same w g i cur e u hh, hnc, hcm, by simpa using hcs, ?_⟩
    rw [Array.toList_setIfInBounds, ← htk]
    rw [List.take_set, Nat.mul_one]
theorem own_cell {w : World} {base : Nat} {e : TypeId} {g n cap : Nat} {xs : List Value} (h : w.ownsRow base e 1 (.slice (some ⟨g, 0, none⟩) n cap) n xs) {i : Nat} {u : Value} (hu : xs[i]? = some u) : w.cell? ⟨g, i, none⟩ = some u ∧ w.frozen? ⟨g, i, none⟩ = false := by
  have h1 := h.cells (g := g) rfl i u hu
  rw [Addr.add_lit] at h1
  refine ⟨by simpa using h1, ?_⟩
  rcases h.2 with ⟨hv, _⟩ | ⟨g', cap', cur, hv, hb, hh, _⟩
  · cases hv
  · injection hv with h1 h2 h3
    injection h1 with h1
    injection h1 with h1
    subst h1
    simp [World.frozen?, hh]
theorem add_bs (P : Program) (a b : List UInt8) (h : a.length + b.length ≤ 9223372036854775807) (W : World) : (Op.stringOp .add (bs a) (bs b)).run P W = .ok (.string (bs (a ++ b))) W := by
  have h1 := run_string_add_sum (P := P) (w := W) (bs a) (bs b) (by rw [bs_size, bs_size]; exact h)
  rw [bs_append] at h1
  exact h1
def strLen : Value → Nat
  | .string s => s.size
  | _ => 0
end
section
open Go
/-- A buffer: its text, and the cursor's place. -/
abbrev Bf := List UInt8 × Nat
/-- What was done last. -/
inductive Lst where
  | none
  | kill
  | yank (f t : Nat)
deriving DecidableEq
structure LN where
  log : LS Bf
  ring : RS ByteArray
  last : Lst
/-- A text's bytes. -/
def bl (x : ByteArray) : List UInt8 := x.data.toList
theorem bs_bl (x : ByteArray) : bs (bl x) = x := by unfold bs bl; simp
theorem bl_bs (l : List UInt8) : bl (bs l) = l := by unfold bs bl; simp
/-- To write, to move. -/
def wrG (l : LS Bf) (b : Bf) (g : Int) : LS Bf := if g = 0 then (l.does b 0).brk else l.does b g
def mvL (l : LS Bf) (a : Nat) : LS Bf := (l.move (l.now.1, a)).brk
/-- A text at the cursor, if there is room. -/
def fits (b : Bf) (p : List UInt8) : Prop := b.1.length + p.length ≤ 600
instance (b : Bf) (p : List UInt8) : Decidable (fits b p) := by unfold fits; infer_instance
def insB (b : Bf) (p : List UInt8) : Bf := (insS b.1 b.2 p, insA b.1 b.2 p)
/-- The group of a sign. -/
def wordT (t : List UInt8) : Bool := decide (plainL t ≠ []) && decide (wrL (mS (plainL t ++ [32])) (mA (plainL t ++ [32]) 0) = (plainL t).length)
namespace LN
def new : LN := ⟨LS.new ([], 0) 32, RS.new 8, .none⟩
def buf (s : LN) : Bf := s.log.now
def put (s : LN) (b : Bf) (g : Int) : LN := ⟨wrG s.log b g, s.ring, .none⟩
def ins (s : LN) (t : List UInt8) (g : Int) : LN := if fits s.buf (plainL t) then s.put (insB s.buf (plainL t)) g else ⟨s.log, s.ring, .none⟩
def cut (s : LN) (f t : Nat) : LN := s.put ((cutR s.buf.1 s.buf.2 f t).1, (cutR s.buf.1 s.buf.2 f t).2.1) 0
def gone (s : LN) (f t : Nat) : List UInt8 := (cutR s.buf.1 s.buf.2 f t).2.2
def move (s : LN) (a : Nat) : LN := ⟨mvL s.log a, s.ring, .none⟩
def swap (s : LN) : LN := if (swapR s.buf.1 s.buf.2).2.2 then s.put ((swapR s.buf.1 s.buf.2).1, (swapR s.buf.1 s.buf.2).2.1) 0 else ⟨s.log, s.ring, .none⟩
/-- A kill that is put to the newest one. -/
def onto (ahead : Bool) (g x : ByteArray) : ByteArray := if ahead then g ++ x else x ++ g
def killed (r : RS ByteArray) (was : Lst) (ahead : Bool) (g : List UInt8) : RS ByteArray :=
  if g = [] then r else if was = .kill ∧ r.l ≠ [] then r.change (onto ahead (bs g)) else r.push (bs g)
def kill (s : LN) (f t : Nat) (ahead : Bool) : LN := ⟨(s.cut f t).log, killed s.ring s.last ahead (s.gone f t), .kill⟩
/-- A kill is put into a buffer. -/
def yankAt (log : LS Bf) (r : RS ByteArray) (b : Bf) (x : ByteArray) (no : Lst) : LN :=
  if fits b (plainL (bl x)) then ⟨wrG log (insB b (plainL (bl x))) 0, r, .yank b.2 (insB b (plainL (bl x))).2⟩ else ⟨log, r, no⟩
def yank (s : LN) : LN := match s.ring.l with
  | [] => ⟨s.log, s.ring.home, .none⟩
  | x :: _ => yankAt s.log s.ring.home s.buf x .none
def pop (s : LN) : LN := match s.last with
  | .yank f t => yankAt s.log s.ring.turn ((cutR s.buf.1 s.buf.2 (backL s.buf.1 f) (backL s.buf.1 t)).1, (cutR s.buf.1 s.buf.2 (backL s.buf.1 f) (backL s.buf.1 t)).2.1) (s.ring.l.getD s.ring.turn.i ⟨#[]⟩) (.yank f t)
  | _ => ⟨s.log, s.ring, .none⟩
def undo (s : LN) : LN := ⟨s.log.undo, s.ring, .none⟩
def redo (s : LN) : LN := ⟨s.log.redo, s.ring, .none⟩
def set (s : LN) (t : List UInt8) : LN := s.put (mS t, (mS t).length) 0
def change (s : LN) (t : List UInt8) (n : Int) : LN := s.put (mS t, mA t n) 0
def canAdd (s : LN) (t : List UInt8) : Bool := decide (fits s.buf (plainL t)) && decide (plainL t ≠ [])
def add (s : LN) (t : List UInt8) : LN := if s.canAdd t then s.put (insB (s.buf.1, s.buf.1.length) (plainL t)) 0 else ⟨s.log.brk, s.ring, .none⟩
def clear (s : LN) : LN := ⟨LS.new ([], 0) 32, s.ring, .none⟩
/-- Does a key do something here? -/
def known (k : Int) : Bool := decide (k = 1 ∨ (3 ≤ k ∧ k ≤ 18) ∨ k = 24 ∨ k = 26)
def key (s : LN) (k : Int) (t : List UInt8) : LN :=
  if k = 1 then s.ins t (if wordT t then 1 else 0)
  else if k = 26 then s.ins t 0
  else if k = 3 then s.cut (prvL s.buf.1 s.buf.2) s.buf.2
  else if k = 4 then s.cut s.buf.2 (nxtL s.buf.1 s.buf.2)
  else if k = 24 then s.swap
  else if k = 5 then s.move (prvL s.buf.1 s.buf.2)
  else if k = 6 then s.move (nxtL s.buf.1 s.buf.2)
  else if k = 7 then s.move 0
  else if k = 8 then s.move s.buf.1.length
  else if k = 9 then s.move (wlL s.buf.1 s.buf.2)
  else if k = 10 then s.move (wrL s.buf.1 s.buf.2)
  else if k = 11 then s.kill s.buf.2 s.buf.1.length false
  else if k = 12 then s.kill 0 s.buf.2 true
  else if k = 13 then s.kill (wlL s.buf.1 s.buf.2) s.buf.2 true
  else if k = 14 then s.kill s.buf.2 (wrL s.buf.1 s.buf.2) false
  else if k = 15 then s.yank
  else if k = 16 then s.pop
  else if k = 17 then s.undo
  else if k = 18 then s.redo
  else s
/-- All buffers of a log are right lines. -/
def RtL (l : LS Bf) : Prop := Rt l.now.1 l.now.2 ∧ (∀ b ∈ l.back, Rt b.1 b.2) ∧ ∀ b ∈ l.forth, Rt b.1 b.2
structure Ok (s : LN) : Prop where
  log : s.log.Ok
  lim : s.log.lim = 32
  rt : RtL s.log
  ring : s.ring.Ok
  rlim : s.ring.lim = 8
end LN
/-- No kill has more than B bytes. -/
def SmR (r : RS ByteArray) (B : Nat) : Prop := ∀ x ∈ r.l, x.size ≤ B
namespace LN
theorem RtL.new : RtL (LS.new ([], 0) 32) := ⟨⟨PlainP.nil, Nat.zero_le _, isB_zero _⟩, ⟨fun _ hb => absurd hb List.not_mem_nil, fun _ hb => absurd hb List.not_mem_nil⟩⟩
theorem RtL.does {l : LS Bf} (h : RtL l) {b : Bf} (hb : Rt b.1 b.2) (g : Int) : RtL (l.does b g) := by
  unfold LS.does
  split
  · exact h
  · refine ⟨hb, fun c hc => ?_, fun c hc => by cases hc⟩
    have hc' : c ∈ (if g ≤ 0 ∨ g ≠ l.opn then lastN l.lim (l.back ++ [l.now]) else l.back) := hc
    split at hc'
    · rcases List.mem_append.1 (List.mem_of_mem_drop hc') with h1 | h1
      · exact h.2.1 c h1
      · rw [List.mem_singleton.1 h1]; exact h.1
    · exact h.2.1 c hc'
theorem RtL.brk {l : LS Bf} (h : RtL l) : RtL l.brk := h
theorem RtL.move {l : LS Bf} (h : RtL l) {b : Bf} (hb : Rt b.1 b.2) : RtL (l.move b) := ⟨hb, h.2.1, h.2.2⟩
theorem RtL.wr {l : LS Bf} (h : RtL l) {b : Bf} (hb : Rt b.1 b.2) (g : Int) : RtL (wrG l b g) := by
  unfold wrG
  split
  · exact (h.does hb 0).brk
  · exact h.does hb g
theorem RtL.undo {l : LS Bf} (h : RtL l) : RtL l.undo := by
  by_cases hb : l.back = []
  · rw [show l.undo = l by unfold LS.undo; rw [if_pos hb]]; exact h
  · obtain ⟨r, y, hr⟩ : ∃ r y, l.back = r ++ [y] := ⟨_, _, (List.dropLast_concat_getLast hb).symm⟩
    rw [LS.undo_some hr]
    refine ⟨h.2.1 y (by rw [hr]; simp), fun c hc => h.2.1 c (by rw [hr]; exact List.mem_append_left _ hc), fun c hc => ?_⟩
    rcases List.mem_append.1 hc with h1 | h1
    · exact h.2.2 c h1
    · rw [List.mem_singleton.1 h1]; exact h.1
theorem RtL.redo {l : LS Bf} (h : RtL l) : RtL l.redo := by
  by_cases hb : l.forth = []
  · rw [show l.redo = l by unfold LS.redo; rw [if_pos hb]]; exact h
  · obtain ⟨r, y, hr⟩ : ∃ r y, l.forth = r ++ [y] := ⟨_, _, (List.dropLast_concat_getLast hb).symm⟩
    rw [LS.redo_some hr]
    refine ⟨h.2.2 y (by rw [hr]; simp), fun c hc => ?_, fun c hc => h.2.2 c (by rw [hr]; exact List.mem_append_left _ hc)⟩
    rcases List.mem_append.1 hc with h1 | h1
    · exact h.2.1 c h1
    · rw [List.mem_singleton.1 h1]; exact h.1
theorem wr_ok {l : LS Bf} (h : l.Ok) (b : Bf) (g : Int) : (wrG l b g).Ok := by
  unfold wrG
  split
  · exact (h.does b 0).brk
  · exact h.does b g
theorem does_lim (l : LS Bf) (b : Bf) (g : Int) : (l.does b g).lim = l.lim := by
  unfold LS.does
  split <;> rfl
theorem wr_lim (l : LS Bf) (b : Bf) (g : Int) : (wrG l b g).lim = l.lim := by
  unfold wrG
  split
  · exact does_lim l b 0
  · exact does_lim l b g
theorem undo_lim (l : LS Bf) : l.undo.lim = l.lim := by
  unfold LS.undo
  split <;> rfl
theorem redo_lim (l : LS Bf) : l.redo.lim = l.lim := by
  unfold LS.redo
  split <;> rfl
theorem Ok.new : LN.new.Ok := ⟨LS.Ok.new _ _, rfl, RtL.new, RS.Ok.new _, rfl⟩
theorem Ok.none {s : LN} (h : s.Ok) : Ok ⟨s.log, s.ring, .none⟩ := ⟨h.log, h.lim, h.rt, h.ring, h.rlim⟩
theorem Ok.put {s : LN} (h : s.Ok) {b : Bf} (hb : Rt b.1 b.2) (g : Int) : (s.put b g).Ok := ⟨wr_ok h.log b g, (wr_lim _ _ _).trans h.lim, h.rt.wr hb g, h.ring, h.rlim⟩
theorem insB_rt {b : Bf} (hb : Rt b.1 b.2) {p : List UInt8} (hp : PlainP p) (hf : fits b p) : Rt (insB b p).1 (insB b p).2 := ins_rt hb hp hf
theorem cutR_rt {b : Bf} (hb : Rt b.1 b.2) {f t : Nat} (hf : IsB b.1 f) (ht : IsB b.1 t) : Rt (cutR b.1 b.2 f t).1 (cutR b.1 b.2 f t).2.1 := by
  unfold cutR
  split
  · exact cut_rt hb hf ht (by assumption)
  · exact hb
theorem Ok.ins {s : LN} (h : s.Ok) (t : List UInt8) (g : Int) : (s.ins t g).Ok := by
  unfold LN.ins
  split
  · exact h.put (insB_rt h.rt.1 (plain_P t) (by assumption)) g
  · exact h.none
theorem Ok.cut {s : LN} (h : s.Ok) {f t : Nat} (hf : IsB s.buf.1 f) (ht : IsB s.buf.1 t) : (s.cut f t).Ok := h.put (cutR_rt h.rt.1 hf ht) 0
theorem Ok.move {s : LN} (h : s.Ok) {a : Nat} (ha : IsB s.buf.1 a) : (s.move a).Ok := ⟨(h.log.move _).brk, h.lim, h.rt.move ⟨h.rt.1.1, h.rt.1.2.1, ha⟩, h.ring, h.rlim⟩
theorem killed_ok {r : RS ByteArray} (h : r.Ok) (was : Lst) (ahead : Bool) (g : List UInt8) : (killed r was ahead g).Ok ∧ (killed r was ahead g).lim = r.lim := by
  unfold killed
  split
  · exact ⟨h, rfl⟩
  · split
    · exact ⟨h.change _, rfl⟩
    · exact ⟨h.push _, rfl⟩
theorem Ok.kill {s : LN} (h : s.Ok) {f t : Nat} (hf : IsB s.buf.1 f) (ht : IsB s.buf.1 t) (ahead : Bool) : (s.kill f t ahead).Ok := by
  have h1 := h.cut hf ht
  have h2 := killed_ok h.ring s.last ahead (s.gone f t)
  exact ⟨h1.log, h1.lim, h1.rt, h2.1, h2.2.trans h.rlim⟩
theorem yankAt_ok {log : LS Bf} (h1 : log.Ok) (h2 : log.lim = 32) (h3 : RtL log) {r : RS ByteArray} (h4 : r.Ok) (h5 : r.lim = 8) {b : Bf} (hb : Rt b.1 b.2) (x : ByteArray) (no : Lst) : (yankAt log r b x no).Ok := by
  unfold yankAt
  split
  · exact ⟨wr_ok h1 (insB b (plainL (bl x))) 0, (wr_lim log (insB b (plainL (bl x))) 0).trans h2, h3.wr (insB_rt hb (plain_P (bl x)) (by assumption)) 0, h4, h5⟩
  · exact ⟨h1, h2, h3, h4, h5⟩
theorem Ok.yank {s : LN} (h : s.Ok) : s.yank.Ok := by
  unfold LN.yank
  split
  · exact ⟨h.log, h.lim, h.rt, h.ring.home, h.rlim⟩
  · exact yankAt_ok h.log h.lim h.rt h.ring.home h.rlim h.rt.1 _ _
theorem Ok.pop {s : LN} (h : s.Ok) : s.pop.Ok := by
  unfold LN.pop
  split
  · exact yankAt_ok h.log h.lim h.rt h.ring.turn h.rlim (cutR_rt h.rt.1 (isB_back _ _) (isB_back _ _)) _ _
  · exact h.none
theorem Ok.undo {s : LN} (h : s.Ok) : s.undo.Ok := ⟨h.log.undo, (undo_lim _).trans h.lim, h.rt.undo, h.ring, h.rlim⟩
theorem Ok.redo {s : LN} (h : s.Ok) : s.redo.Ok := ⟨h.log.redo, (redo_lim _).trans h.lim, h.rt.redo, h.ring, h.rlim⟩
theorem Ok.set {s : LN} (h : s.Ok) (t : List UInt8) : (s.set t).Ok := h.put ⟨mS_P t, mS_len t, isB_all _⟩ 0
theorem Ok.change {s : LN} (h : s.Ok) (t : List UInt8) (n : Int) : (s.change t n).Ok := h.put (make_rt t n) 0
theorem Ok.add {s : LN} (h : s.Ok) (t : List UInt8) : (s.add t).Ok := by
  unfold LN.add
  split
  · rename_i hc
    unfold canAdd at hc
    rw [Bool.and_eq_true, decide_eq_true_eq] at hc
    exact h.put (insB_rt (b := (s.buf.1, s.buf.1.length)) ⟨h.rt.1.1, h.rt.1.2.1, isB_all _⟩ (plain_P t) hc.1) 0
  · exact ⟨h.log.brk, h.lim, h.rt, h.ring, h.rlim⟩
theorem Ok.clear {s : LN} (h : s.Ok) : s.clear.Ok := ⟨LS.Ok.new _ _, rfl, RtL.new, h.ring, h.rlim⟩
end LN
end
section
open Go Go.RowKit
theorem info64 : (Tryz.prog.info? 3).map (fun i => (i.zero, i.size, i.bytes)) = some (some (.int .i64 0), 1, 8) := by kernel_rfl
/-- Signs as cells of ints. -/
def cells64 (rs : List Nat) : List Value := rs.map fun (r : Nat) => Value.int .i64 (r : Int)
theorem cells64_snoc (rs : List Nat) (r : Nat) : cells64 (rs ++ [r]) = cells64 rs ++ [.int .i64 (r : Int)] := by simp [cells64]
def Rd64 (w : World) (A : Option Addr) (rs : List Nat) : Prop := 0 < rs.length → ∃ g o, A = some ⟨g, o, none⟩ ∧ g < w.heap.size ∧ ∀ i, i < rs.length → w.cell? ⟨g, o + i, none⟩ = some (.int .i64 ((rs.getD i 0 : Nat) : Int))
theorem Rd64.below {w w' : World} {A : Option Addr} {rs : List Nat} (h : Rd64 w A rs) (hb : Below w.heap.size w w') : Rd64 w' A rs := fun hn => by
  obtain ⟨g, o, e, hg, hc⟩ := h hn
  exact ⟨g, o, e, Nat.lt_of_lt_of_le hg hb.size, fun i hi => by rw [hb.cell (p := ⟨g, o + i, none⟩) hg]; exact hc i hi⟩
theorem rd64_of_own {w : World} {base : Nat} {A : Option Addr} {c n : Nat} {rs : List Nat} (h : w.ownsRow base 3 1 (.slice A n c) rs.length (cells64 rs)) : Rd64 w A rs ∧ n = rs.length ∧ rs.length ≤ c ∧ c ≤ maxLen := by
  rcases h.2 with ⟨hv, h0⟩ | ⟨g, cap, cur, hv, _, hh, hnc, hcm, _⟩
  · injection hv with h1 h2 h3
    subst h1; subst h2; subst h3
    exact ⟨fun hn => by omega, h0.symm, by omega, by unfold maxLen; omega⟩
  · injection hv with h1 h2 h3
    subst h1; subst h2; subst h3
    refine ⟨fun hn => ⟨g, 0, rfl, (Array.getElem?_eq_some_iff.1 hh).1, fun i hi => ?_⟩, rfl, hnc, hcm⟩
    have := h.cells (g := g) rfl i (.int .i64 ((rs.getD i 0 : Nat) : Int)) (by simp [cells64, hi, List.getD])
    rw [Addr.add_lit] at this
    exact this
end
section
open Go Go.RowKit
set_option maxHeartbeats 1000000 in
theorem rctl_calls (r : Int) (w : World) :
    Calls Tryz.prog 54 #[.int .i64 r] w fun e w' => e = .returned (.bool (ctlL r)) ∧ w = w' := by
  by_cases h1 : r ≤ 31
  · have e : ctlL r = true := decide_eq_true (.inl (by omega))
    rw [e]
    go_enter Tryz.func54, Tryz.ntmps54
    go_wp2
    go_ret
    exact ⟨rfl, rfl⟩
  by_cases h2 : 127 ≤ r
  · by_cases h3 : r ≤ 159
    · have e : ctlL r = true := decide_eq_true (.inr ⟨h2, h3⟩)
      rw [e]
      go_enter Tryz.func54, Tryz.ntmps54
      go_wp2
      go_ret
      exact ⟨rfl, rfl⟩
    · have e : ctlL r = false := decide_eq_false (by omega)
      rw [e]
      go_enter Tryz.func54, Tryz.ntmps54
      go_wp2
      go_ret
      exact ⟨rfl, rfl⟩
  · have e : ctlL r = false := decide_eq_false (by omega)
    rw [e]
    go_enter Tryz.func54, Tryz.ntmps54
    go_wp2
    go_ret
    exact ⟨rfl, rfl⟩
end
section
open Go
theorem bounds_at (l : List UInt8) (k : Nat) (hk : k ≤ (cutL l).length) : (boundsL l).getD k 0 = pos (cutL l) k := by
  unfold boundsL pos
  rw [bnd_getD 0 _ k hk, Nat.zero_add]
theorem cut_len_le (l : List UInt8) (k : Nat) : pos (cutL l) k ≤ l.length := by
  have := pos_le (cutL l) k
  rwa [cutL_flatten] at this
theorem getD_bs (cs : List (List UInt8)) (k : Nat) : (cs.map bs).getD k ⟨#[]⟩ = bs (cs.getD k []) := by
  simp only [List.getD, List.getElem?_map]
  cases cs[k]? <;> rfl
end
section
open Go Go.RowKit
theorem infoS : (Tryz.prog.info? 9).map (fun i => (i.zero, i.size, i.bytes)) = some (some (.string ⟨#[]⟩), 1, 16) := by kernel_rfl
/-- Texts as cells. -/
def cellsS (ls : List ByteArray) : List Value := ls.map Value.string
theorem cellsS_length (ls : List ByteArray) : (cellsS ls).length = ls.length := by simp [cellsS]
/-- A slice of texts that reads as ls. -/
def RdS (w : World) (A : Option Addr) (ls : List ByteArray) : Prop := 0 < ls.length → ∃ g o, A = some ⟨g, o, none⟩ ∧ g < w.heap.size ∧ ∀ i, i < ls.length → w.cell? ⟨g, o + i, none⟩ = some (.string (ls.getD i ⟨#[]⟩))
theorem RdS.below {w w' : World} {A : Option Addr} {ls : List ByteArray} (h : RdS w A ls) (hb : Below w.heap.size w w') : RdS w' A ls := fun hn => by
  obtain ⟨g, o, e, hg, hc⟩ := h hn
  exact ⟨g, o, e, Nat.lt_of_lt_of_le hg hb.size, fun i hi => by rw [hb.cell (p := ⟨g, o + i, none⟩) hg]; exact hc i hi⟩
end
section
open Go Go.RowKit
set_option maxHeartbeats 1000000 in
theorem between_calls (r lo hi : Int) (w : World) :
    Calls Tryz.prog 102 #[.int .i64 r, .int .i64 lo, .int .i64 hi] w fun e w' => e = .returned (.bool (decide (lo ≤ r ∧ r ≤ hi))) ∧ w = w' := by
  by_cases h1 : lo ≤ r
  · by_cases h2 : r ≤ hi
    · rw [decide_eq_true (show lo ≤ r ∧ r ≤ hi from ⟨h1, h2⟩)]
      go_enter Tryz.func102, Tryz.ntmps102
      go_wp2
      go_ret
      exact ⟨rfl, rfl⟩
    · rw [decide_eq_false (show ¬ (lo ≤ r ∧ r ≤ hi) from fun h => h2 h.2)]
      go_enter Tryz.func102, Tryz.ntmps102
      go_wp2
      go_ret
      exact ⟨rfl, rfl⟩
  · rw [decide_eq_false (show ¬ (lo ≤ r ∧ r ≤ hi) from fun h => h1 h.1)]
    go_enter Tryz.func102, Tryz.ntmps102
    go_wp2
    go_ret
    exact ⟨rfl, rfl⟩
set_option maxHeartbeats 8000000 in
set_option maxRecDepth 100000 in
theorem rof_calls (r : Int) (w : World) :
    Calls Tryz.prog 93 #[.int .i64 r] w fun e w' => e = .returned (.int .i64 (ofL r : Int)) ∧ w = w' := by
  have He : Hid (ofF spansL r = ofL r) := Lib.hid rfl
  generalize ofL r = x at *
  go_enter Tryz.func93, Tryz.ntmps93
  go_wp2_with (go_at_call 102; refine (between_calls _ _ _ _).mono ?_; rintro e w' ⟨rfl, rfl⟩)
  all_goals (go_ret; refine ⟨?_, rfl⟩; rw [← He.out]; simp only [spansL, ofF]; repeat first | rw [if_neg (by omega)] | rw [if_pos (by omega)])
  all_goals rfl
end
end Go.Proofs.YtlmbafnoopfilaaGreatDoor
