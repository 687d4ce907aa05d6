/-
  Layer 7 and what it stands on, part 28 (RBits RRest ROf RFr RFrN RFrS RFrC).
-/
import Derived.Test.YteafcaambnfdoaaGreatDoorPn8
import Derived.Test.YteafcaambnfdoaaGreatDoorPn9
import Derived.Test.YteafcaambnfdoaaGreatDoorPn27
import Derived.OwnWalk
import Derived.IntWalk
import Derived.RegionTactic
import Derived.BigRegion
namespace Go.Proofs.YteafcaambnfdoaaGreatDoor
section
open Go Go.RowKit
set_option maxRecDepth 100000
/-- A row of bits that a call owns. -/
def OwnB (w : World) (base : Nat) (v : Value) (l : List Bool) : Prop := w.ownsRow base 4 1 v l.length (l.map Value.bool)
end
section
open Go Go.RowKit
set_option maxRecDepth 100000
def flipK (l : List Bool) (i k : Nat) : List Bool := (powL.take k).foldl (fun l p => l.modify (i + 32 - p) (! ·)) (l.set i false)
end
section
open Go Go.RowKit
set_option maxRecDepth 100000
def flipP (l : List Bool) (k : Nat) : List Bool := (l.take k).map (! ·) ++ l.drop k
end
section
open Go Go.RowKit
set_option maxRecDepth 100000
theorem info8_11 : ∃ i, Tryz.prog.info? 5 = some i ∧ i.zero = some (.int .u8 0) ∧ i.size = 1 ∧ i.bytes = 1 := by
  obtain ⟨i, h, h2⟩ := Option.map_eq_some_iff.1 info8
  simp only [Prod.mk.injEq] at h2
  exact ⟨i, h, h2.1, h2.2.1, h2.2.2⟩
theorem byt_head (w : World) (p : List UInt8) (hl : p.length ≤ 1000) : Byt (w.alloc (.cells #[.int .u8 ((p.length : Int) % 256), .int .u8 ((p.length : Int) / 256)] 5)) (some ⟨w.heap.size, 0, none⟩) (headF p) := by
  have h := byt_lit w (headF p)
  have e : (Lib.byteCells (headF p)).toArray = #[.int .u8 ((p.length : Int) % 256), .int .u8 ((p.length : Int) / 256)] := by
    unfold headF Lib.byteCells
    have e1 : ((UInt8.ofNat (p.length % 256)).toNat : Int) = (p.length : Int) % 256 := by rw [UInt8.toNat_ofNat']; omega
    have e2 : ((UInt8.ofNat (p.length / 256)).toNat : Int) = (p.length : Int) / 256 := by rw [UInt8.toNat_ofNat']; omega
    simp only [List.map_cons, List.map_nil]
    rw [e1, e2]
  rwa [e] at h
end
section
open Go Go.RowKit
set_option maxRecDepth 100000
theorem run_load (A : Option Addr) (n c k : Nat) (h : 6 + k ≤ c) :
    ∀ W : World, (Instr.slice 30 (.slice A n c) (some (.int .i64 6)) (some (.int .i64 (6 + (k : Int)))) none).run Tryz.prog W = .ok (.slice (dropA A c 6) k (c - 6)) W := by
  intro W
  have he : Tryz.prog.elem 30 = 5 := by kernel_rfl
  have hu : Tryz.prog.underlying 30 = some (.slice (Tryz.prog.elem 30)) := by rw [he]; exact Tryz.underlying30
  rw [run_slice_lh (w := W) 30 A n c hu .i64 .i64 6 (6 + (k : Int)) (by omega) (by omega) (by omega), he, Tryz.sizeOf5]
  simp [sliced, dropA, Result.andThen]
  omega
theorem byt_load {w : World} {A : Option Addr} {c : Nat} {b : List UInt8} (hb : Byt w A b) (hc : b.length ≤ c) : Byt w (dropA A c 6) (loadF b) := (hb.drop c 6 hc).take _
end
section
open Go Go.RowKit
set_option maxRecDepth 100000
/-- A slice of bytes, as a value: where it lies, and what it reads as. -/
structure Sb where
  A : Option Addr
  l : List UInt8
  c : Nat
def sbV (s : Sb) : Value := .slice s.A s.l.length s.c
def sbC (s : Sb) : List Value := [sbV s]
theorem own_none {w : World} {base : Nat} {e : TypeId} {size : Nat} {A : Option Addr} {n c : Nat} {k : Nat} {xs : List Value} (h : w.ownsRow base e size (.slice A n c) k xs) : A = none → c = 0 := fun hA => by
  rcases h.2 with ⟨hv, _⟩ | ⟨g, cap, cur, hv, _⟩
  · injection hv
  · injection hv with h1; rw [hA] at h1; cases h1
end
section
open Go Go.RowKit
set_option maxRecDepth 100000
/-- A row of slices of bytes, with room for what they hold. -/
def RdBc (w : World) (A : Option Addr) (ls : List (List UInt8)) : Prop := 0 < ls.length → ∃ g o, A = some ⟨g, o, none⟩ ∧ g < w.heap.size ∧ ∀ i l, ls[i]? = some l → ∃ Ai ci, w.cell? ⟨g, o + i, none⟩ = some (.slice Ai l.length ci) ∧ Byt w Ai l ∧ (Ai = none → ci = 0) ∧ l.length ≤ ci
theorem RdBc.below {w w' : World} {A : Option Addr} {ls : List (List UInt8)} (h : RdBc w A ls) (hb : Below w.heap.size w w') : RdBc w' A ls := fun hn => by
  obtain ⟨g, o, e, hg, hc⟩ := h hn
  refine ⟨g, o, e, Nat.lt_of_lt_of_le hg hb.size, fun i l hi => ?_⟩
  obtain ⟨Ai, ci, h1, h2, h3⟩ := hc i l hi
  exact ⟨Ai, ci, (hb.cell (p := ⟨g, o + i, none⟩) hg).trans h1, h2.below hb, h3⟩
end
end Go.Proofs.YteafcaambnfdoaaGreatDoor
