/-
  Layer 7 and what it stands on, part 7 (Mem RdB).
-/
import Derived.Test.YteafcaambnfdoaaGreatDoorPq5
import Derived.Shelf.Bytes.SlEqualAll
import Derived.Lib.OthersKept
import Derived.Lib.Hide
import Derived.WalkKit
import Derived.BigCall
import Derived.Deep.Draws
namespace Go.Proofs.YteafcaambnfdoaaGreatDoor
section
open Go Go.RowKit
theorem strOf_nums (l : List UInt8) : strOfNums (nums l) = ⟨l.toArray⟩ := by
 simp [strOfNums, nums, Function.comp_def]
def Byt (w : World) (A : Option Addr) (l : List UInt8) : Prop := Lib.BytesIn w A l.length (nums l)
theorem Byt.at_ {w : World} {A : Option Addr} {l : List UInt8} (h : Byt w A l) (hn : 0 < l.length) :
  ∃ b o, A = some ⟨b, o, none⟩ ∧ b < w.heap.size ∧ ∀ i, i < l.length → w.cell? ⟨b, o + i, none⟩ = some (.int .u8 ((l.getD i 0).toNat : Int)) := by
 obtain ⟨b, o, hA, hc⟩ := h hn
 refine ⟨b, o, hA, ?_, fun i hi => ?_⟩
 ·exact World.block_lt_of_cell? _ _ (hc 0 hn)
 ·rw [hc i hi, nums_getD]
theorem Byt.mk_ {w : World} {b o : Nat} {l : List UInt8} (hc : ∀ i, i < l.length → w.cell? ⟨b, o + i, none⟩ = some (.int .u8 ((l.getD i 0).toNat : Int))) : Byt w (some ⟨b, o, none⟩) l :=
 fun _ => ⟨b, o, rfl, fun i hi => by rw [nums_getD]; exact hc i hi⟩
theorem Byt.nil_ (w : World) (A : Option Addr) : Byt w A [] := fun h => absurd h (by simp)
theorem Byt.keep {w w' : World} {A : Option Addr} {l : List UInt8} (h : Byt w A l) (hk : ∀ p : Addr, p.block < w.heap.size → w'.cell? p = w.cell? p) : Byt w' A l := fun hn => by
 obtain ⟨b, o, hA, hb, hc⟩ := h.at_ hn
 exact ⟨b, o, hA, fun i hi => by rw [hk ⟨b, o + i, none⟩ hb, hc i hi, nums_getD]⟩
theorem Byt.below {w w' : World} {A : Option Addr} {l : List UInt8} (h : Byt w A l) (hb : Below w.heap.size w w') : Byt w' A l := h.keep fun _ hp => hb.cell hp
theorem Byt.drew {w : World} {A : Option Addr} {l : List UInt8} (h : Byt w A l) : Byt w.drew A l := h
theorem Byt.alloc {w : World} {A : Option Addr} {l : List UInt8} (h : Byt w A l) (o : Obj) : Byt (w.alloc o) A l := h.keep fun p hp => World.cell?_alloc_lt w o p hp
theorem Byt.take {w : World} {A : Option Addr} {l : List UInt8} (h : Byt w A l) (k : Nat) : Byt w A (l.take k) := fun hn => by
 have hl : 0 < l.length := by rw [List.length_take] at hn; omega
 obtain ⟨b, o, hA, hb, hc⟩ := h.at_ hl
 refine ⟨b, o, hA, fun i hi => ?_⟩
 rw [List.length_take] at hi
 rw [hc i (by omega), nums_getD]
 congr 4
 simp [List.getD, List.getElem?_take]
 rw [if_pos (by omega)]
theorem Byt.convert {P : Program} {w : World} {A : Option Addr} {l : List UInt8} (h : Byt w A l) (c : Nat) (src e dst : TypeId)
  (hs : P.underlying src = some (.slice e)) (he : P.underlying e = some (.int .u8)) (hd : P.underlying dst = some .string) (n : Nat) (hn : n = l.length) :
  (convert src dst (.slice A n c)).run P w = .ok (.string ⟨l.toArray⟩) w := by
 subst hn
 have := Lib.BytesIn.convert (P := P) h (nums_length l) c src e dst hs he hd
 rwa [strOf_nums] at this
def dropA (A : Option Addr) (c k : Nat) : Option Addr := if c = k then A else A.map (·.add k)
theorem Byt.drop {w : World} {A : Option Addr} {l : List UInt8} (h : Byt w A l) (c k : Nat) (hc : l.length ≤ c) : Byt w (dropA A c k) (l.drop k) := fun hn => by
 rw [List.length_drop] at hn
 obtain ⟨b, o, rfl, hb, hcell⟩ := h.at_ (by omega)
 refine ⟨b, o + k, ?_, fun i hi => ?_⟩
 ·unfold dropA
  rw [if_neg (by omega)]
  simp [Addr.add]
 ·rw [List.length_drop] at hi
  rw [Nat.add_assoc, hcell (k + i) (by omega), nums_getD]
  simp [List.getD, List.getElem?_drop]
theorem bel_drewN {B : Nat} {a w : World} (h : Below B a w) (n : Nat) : Below B a (w.drewN n) := ⟨h.os, h.tape, h.output, h.size, h.block⟩
theorem byt_lit (w : World) (l : List UInt8) : Byt (w.alloc (.cells (Lib.byteCells l).toArray 5)) (some ⟨w.heap.size, 0, none⟩) l :=
 Byt.mk_ fun i hi => by
  rw [Nat.zero_add]
  simp [World.cell?, World.alloc, Lib.byteCells, hi, List.getD, -World.alloc_eq]
end
section
open Go Go.RowKit
def RdBs (w : World) (A : Option Addr) (ls : List (List UInt8)) : Prop := 0 < ls.length → ∃ g o, A = some ⟨g, o, none⟩ ∧ g < w.heap.size ∧ ∀ i l, ls[i]? = some l → ∃ Ai ci, w.cell? ⟨g, o + i, none⟩ = some (.slice Ai l.length ci) ∧ Byt w Ai l ∧ (Ai = none → ci = 0)
theorem RdBs.below {w w' : World} {A : Option Addr} {ls : List (List UInt8)} (h : RdBs w A ls) (hb : Below w.heap.size w w') : RdBs w' A ls := fun hn => by
 obtain ⟨g, o, e, hg, hc⟩ := h hn
 refine ⟨g, o, e, Nat.lt_of_lt_of_le hg hb.size, fun i l hi => ?_⟩
 obtain ⟨Ai, ci, h1, h2, h3⟩ := hc i l hi
 exact ⟨Ai, ci, (hb.cell (p := ⟨g, o + i, none⟩) hg).trans h1, h2.below hb, h3⟩
theorem flat_succ {ls : List (List UInt8)} {k : Nat} {l : List UInt8} (h : ls[k]? = some l) : (ls.take (k + 1)).flatten = (ls.take k).flatten ++ l := by
 rw [List.take_add_one, h, Option.toList_some, List.flatten_append, List.flatten_singleton]
end
end Go.Proofs.YteafcaambnfdoaaGreatDoor
