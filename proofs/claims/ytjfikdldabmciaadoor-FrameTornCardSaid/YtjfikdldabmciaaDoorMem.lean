/-
  How slices of bytes lie in memory, and what stays so: over no program of its own.
-/
import Derived.Test.YtjfikdldabmciaaDoorPlain
import Derived.Shelf.Bytes.SlEqualAll
import Derived.Lib.OthersKept
import Derived.Lib.Hide
import Derived.WalkKit
import Derived.BigCall
import Derived.Deep.Draws
namespace Go.Proofs.YtjfikdldabmciaaDoor
open Go Go.RowKit

theorem strOf_nums (l : List UInt8) : strOfNums (nums l) = ⟨l.toArray⟩ := by
  simp [strOfNums, nums, Function.comp_def]
theorem bytesOf_nums (l : List UInt8) : Lib.bytesOf (nums l) = l := by
  simp [Lib.bytesOf, nums, Function.comp_def]

/-- A slice of bytes at A that reads as l. -/
def Byt (w : World) (A : Option Addr) (l : List UInt8) : Prop := Lib.BytesIn w A l.length (nums l)
theorem Byt.at_ {w : World} {A : Option Addr} {l : List UInt8} (h : Byt w A l) (hn : 0 < l.length) :
    ∃ b o, A = some ⟨b, o, none⟩ ∧ b < w.heap.size ∧ ∀ i, i < l.length → w.cell? ⟨b, o + i, none⟩ = some (.int .u8 ((l.getD i 0).toNat : Int)) := by
  obtain ⟨b, o, hA, hc⟩ := h hn
  refine ⟨b, o, hA, ?_, fun i hi => ?_⟩
  · exact World.block_lt_of_cell? _ _ (hc 0 hn)
  · rw [hc i hi, nums_getD]
theorem Byt.mk_ {w : World} {b o : Nat} {l : List UInt8} (hc : ∀ i, i < l.length → w.cell? ⟨b, o + i, none⟩ = some (.int .u8 ((l.getD i 0).toNat : Int))) : Byt w (some ⟨b, o, none⟩) l :=
  fun _ => ⟨b, o, rfl, fun i hi => by rw [nums_getD]; exact hc i hi⟩
theorem Byt.nil_ (w : World) (A : Option Addr) : Byt w A [] := fun h => absurd h (by simp)
theorem Byt.keep {w w' : World} {A : Option Addr} {l : List UInt8} (h : Byt w A l) (hk : ∀ p : Addr, p.block < w.heap.size → w'.cell? p = w.cell? p) : Byt w' A l := fun hn => by
  obtain ⟨b, o, hA, hb, hc⟩ := h.at_ hn
  exact ⟨b, o, hA, fun i hi => by rw [hk ⟨b, o + i, none⟩ hb, hc i hi, nums_getD]⟩
theorem Byt.below {w w' : World} {A : Option Addr} {l : List UInt8} (h : Byt w A l) (hb : Below w.heap.size w w') : Byt w' A l := h.keep fun _ hp => hb.cell hp
theorem Byt.drew {w : World} {A : Option Addr} {l : List UInt8} (h : Byt w A l) : Byt w.drew A l := h
theorem Byt.alloc {w : World} {A : Option Addr} {l : List UInt8} (h : Byt w A l) (o : Obj) : Byt (w.alloc o) A l := h.keep fun p hp => World.cell?_alloc_lt w o p hp
theorem Byt.take {w : World} {A : Option Addr} {l : List UInt8} (h : Byt w A l) (k : Nat) : Byt w A (l.take k) := fun hn => by
  have hl : 0 < l.length := by rw [List.length_take] at hn; omega
  obtain ⟨b, o, hA, hb, hc⟩ := h.at_ hl
  refine ⟨b, o, hA, fun i hi => ?_⟩
  rw [List.length_take] at hi
  rw [hc i (by omega), nums_getD]
  congr 4
  simp [List.getD, List.getElem?_take]
  rw [if_pos (by omega)]
theorem Byt.convert {P : Program} {w : World} {A : Option Addr} {l : List UInt8} (h : Byt w A l) (c : Nat) (src e dst : TypeId)
    (hs : P.underlying src = some (.slice e)) (he : P.underlying e = some (.int .u8)) (hd : P.underlying dst = some .string) (n : Nat) (hn : n = l.length) :
    (convert src dst (.slice A n c)).run P w = .ok (.string ⟨l.toArray⟩) w := by
  subst hn
  have := Lib.BytesIn.convert (P := P) h (nums_length l) c src e dst hs he hd
  rwa [strOf_nums] at this
/-- What a slice l[k:] is: where nothing is left of the row its address stays. -/
def dropA (A : Option Addr) (c k : Nat) : Option Addr := if c = k then A else A.map (·.add k)
theorem Byt.drop {w : World} {A : Option Addr} {l : List UInt8} (h : Byt w A l) (c k : Nat) (hc : l.length ≤ c) : Byt w (dropA A c k) (l.drop k) := fun hn => by
  rw [List.length_drop] at hn
  obtain ⟨b, o, rfl, hb, hcell⟩ := h.at_ (by omega)
  refine ⟨b, o + k, ?_, fun i hi => ?_⟩
  · unfold dropA
    rw [if_neg (by omega)]
    simp [Addr.add]
  · rw [List.length_drop] at hi
    rw [Nat.add_assoc, hcell (k + i) (by omega), nums_getD]
    simp [List.getD, List.getElem?_drop]
theorem bel_drewN {B : Nat} {a w : World} (h : Below B a w) (n : Nat) : Below B a (w.drewN n) := ⟨h.os, h.tape, h.output, h.size, h.block⟩
theorem byt_lit (w : World) (l : List UInt8) : Byt (w.alloc (.cells (Lib.byteCells l).toArray 5)) (some ⟨w.heap.size, 0, none⟩) l :=
  Byt.mk_ fun i hi => by
    rw [Nat.zero_add]
    simp [World.cell?, World.alloc, Lib.byteCells, hi, List.getD, -World.alloc_eq]
end Go.Proofs.YtjfikdldabmciaaDoor
