/-
  Layer 7 and what it stands on, part 10 (FDoc0 FFind0 FSnoc0).
-/
import Derived.Test.YteafcaambnfdoaaGreatDoorPn8
import Derived.Test.YteafcaambnfdoaaGreatDoorPn9
import Derived.Outline
import Derived.OwnWalk
import Derived.IntWalk
import Derived.Maps.AppendAt
import Derived.Laws.AppendOwnNone
namespace Go.Proofs.YteafcaambnfdoaaGreatDoor
section
open Go Go.RowKit
set_option maxRecDepth 100000
/-- Two lists, thing by thing. -/
inductive All2 {α β : Type} (R : α → β → Prop) : List α → List β → Prop
  | nil : All2 R [] []
  | cons {a : α} {b : β} {l : List α} {m : List β} : R a b → All2 R l m → All2 R (a :: l) (b :: m)
/-- A write, and a file, as their cells have them. -/
structure PartV where
  no : Nat
  at_ : Nat
  A : Option Addr
  n : Nat
  c : Nat
structure FileV where
  name : ByteArray
  A : Option Addr
  n : Nat
  c : Nat
  R : Option Addr
  rn : Nat
  rc : Nat
abbrev partC (p : PartV) : List Value := [.int .i64 (p.no : Int), .int .i64 (p.at_ : Int), .slice p.A p.n p.c]
abbrev fileC (f : FileV) : List Value := [.string f.name, .slice f.A f.n f.c, .slice f.R f.rn f.rc]
def u8C (u : UInt8) : List Value := [.int .u8 (u.toNat : Int)]
theorem u8C_length (u : UInt8) : (u8C u).length = 1 := rfl
theorem flat_u8 (l : List UInt8) : l.flatMap u8C = Lib.byteCells l := by
  induction l with
  | nil => rfl
  | cons x t ih => rw [List.flatMap_cons, ih]; rfl
/-- Bytes that lie in blocks of D. -/
abbrev ByR (w : World) (D : Nat → Prop) (A : Option Addr) (l : List UInt8) : Prop := RowT u8C w D A l
section
variable {w w' : World} {D D' R' : Nat → Prop}
theorem ByR.byt {A : Option Addr} {l : List UInt8} (h : ByR w D A l) : Byt w A l := by
  by_cases h0 : l = []
  · rw [h0]; exact Byt.nil_ _ _
  · obtain ⟨g, o, rfl, _, _, hc⟩ := h (List.length_pos_iff.2 h0)
    refine Byt.mk_ fun i hi => ?_
    have := hc (i * 1 + 0) _ (flat_get u8C_length (List.getElem?_eq_getElem hi) (j := 0) rfl)
    rw [Nat.mul_one, Nat.add_zero] at this
    rw [this, List.getD_eq_getElem?_getD, List.getElem?_eq_getElem hi]
    rfl
theorem byR_of_own {base : Nat} {A : Option Addr} {c n : Nat} {l : List UInt8} (h : w.ownsRow base 5 1 (.slice A n c) l.length (Lib.byteCells l)) (hR : ∀ g, (Value.slice A n c).ownBlock = some g → D g) : ByR w D A l :=
  rowT_of_own (C := u8C) (by rw [flat_u8]; exact h) hR
structure PartR (w : World) (D : Nat → Prop) (v : PartV) (p : PartF) : Prop where
  no : v.no = p.no
  at_ : v.at_ = p.at_
  n : v.n = p.b.length
  rd : ByR w D v.A p.b
  nil : v.A = none → v.c = 0
structure FileR (w : World) (D : Nat → Prop) (v : FileV) (f : FileF) : Prop where
  name : v.name = f.name
  n : v.n = f.b.length
  rd : ByR w D v.A f.b
  nil : v.A = none → v.c = 0
  rn : v.rn = f.row.length
  rnil : v.R = none → v.rc = 0
  row : ∃ ps, RowT partC w D v.R ps ∧ All2 (PartR w D) ps f.row
/-- A state: its six cells, and what they lead to. -/
def stV (A : Option Addr) (n c : Nat) (S : FS) : Value := .agg #[.slice A n c, .int .i64 (S.no : Int), .int .i64 (S.ops : Int), .int .i64 S.fuse, .int .i64 S.fault, .bool S.down]
def StAt (w : World) (D : Nat → Prop) (v : Value) (S : FS) : Prop := ∃ A c vs, v = stV A vs.length c S ∧ RowT fileC w D A vs ∧ All2 (FileR w D) vs S.l
theorem all2_imp {α β : Type} {R Q : α → β → Prop} (h : ∀ a b, R a b → Q a b) : ∀ {l : List α} {m : List β}, All2 R l m → All2 Q l m
  | _, _, .nil => .nil
  | _, _, .cons h1 h2 => .cons (h _ _ h1) (all2_imp h h2)
theorem PartR.keep {v : PartV} {p : PartF} (h : PartR w D v p) (ho : Only R' w w') (hd : ∀ i, D i → ¬ R' i) : PartR w' D v p := ⟨h.no, h.at_, h.n, h.rd.keep ho hd, h.nil⟩
theorem PartR.mono {v : PartV} {p : PartF} (h : PartR w D v p) (hD : ∀ i, D i → D' i) : PartR w D' v p := ⟨h.no, h.at_, h.n, h.rd.mono hD, h.nil⟩
theorem FileR.keep {v : FileV} {f : FileF} (h : FileR w D v f) (ho : Only R' w w') (hd : ∀ i, D i → ¬ R' i) : FileR w' D v f := by
  obtain ⟨ps, h1, h2⟩ := h.row
  exact ⟨h.name, h.n, h.rd.keep ho hd, h.nil, h.rn, h.rnil, ps, h1.keep ho hd, all2_imp (fun _ _ h => h.keep ho hd) h2⟩
theorem FileR.mono {v : FileV} {f : FileF} (h : FileR w D v f) (hD : ∀ i, D i → D' i) : FileR w D' v f := by
  obtain ⟨ps, h1, h2⟩ := h.row
  exact ⟨h.name, h.n, h.rd.mono hD, h.nil, h.rn, h.rnil, ps, h1.mono hD, all2_imp (fun _ _ h => h.mono hD) h2⟩
theorem FileR.below {v : FileV} {f : FileF} (h : FileR w D v f) (hb : Below w.heap.size w w') : FileR w' D v f := h.keep (R' := fun _ => False) (Only.of_below hb) (fun _ _ h => h)
theorem StAt.keep {v : Value} {S : FS} (h : StAt w D v S) (ho : Only R' w w') (hd : ∀ i, D i → ¬ R' i) : StAt w' D v S := by
  obtain ⟨A, c, vs, rfl, h1, h2⟩ := h
  exact ⟨A, c, vs, rfl, h1.keep ho hd, all2_imp (fun _ _ h => h.keep ho hd) h2⟩
theorem StAt.mono {v : Value} {S : FS} (h : StAt w D v S) (hD : ∀ i, D i → D' i) : StAt w D' v S := by
  obtain ⟨A, c, vs, rfl, h1, h2⟩ := h
  exact ⟨A, c, vs, rfl, h1.mono hD, all2_imp (fun _ _ h => h.mono hD) h2⟩
theorem StAt.below {v : Value} {S : FS} (h : StAt w D v S) (hb : Below w.heap.size w w') : StAt w' D v S := h.keep (R' := fun _ => False) (Only.of_below hb) (fun _ _ h => h)
/-- Blocks of D, and new ones. -/
def DW (D : Nat → Prop) (w : World) (k : Nat) : Prop := D k ∨ w.heap.size ≤ k
theorem RowT.cap {α : Type} {C : α → List Value} {A : Option Addr} {ls : List α} (h : RowT C w D A ls) : RowT C w (fun k => D k ∧ k < w.heap.size) A ls := fun hn => by
  obtain ⟨g, o, e, hr, hg, hc⟩ := h hn
  exact ⟨g, o, e, ⟨hr, hg⟩, hg, hc⟩
theorem PartR.cap {v : PartV} {p : PartF} (h : PartR w D v p) : PartR w (fun k => D k ∧ k < w.heap.size) v p := ⟨h.no, h.at_, h.n, h.rd.cap, h.nil⟩
theorem FileR.cap {v : FileV} {f : FileF} (h : FileR w D v f) : FileR w (fun k => D k ∧ k < w.heap.size) v f := by
  obtain ⟨ps, h1, h2⟩ := h.row
  exact ⟨h.name, h.n, h.rd.cap, h.nil, h.rn, h.rnil, ps, h1.cap, all2_imp (fun _ _ h => h.cap) h2⟩
theorem StAt.cap {v : Value} {S : FS} (h : StAt w D v S) : StAt w (fun k => D k ∧ k < w.heap.size) v S := by
  obtain ⟨A, c, vs, rfl, h1, h2⟩ := h
  exact ⟨A, c, vs, rfl, h1.cap, all2_imp (fun _ _ h => h.cap) h2⟩
theorem row_cells {α : Type} {C : α → List Value} (w : World) (q : α) (t : TypeId) (cs : Array Value) (hcs : cs = (C q).toArray) : ∀ (j : Nat) (u : Value), (C q)[j]? = some u → (w.alloc (.cells cs t)).cell? (Addr.add ⟨w.heap.size, 0, none⟩ j) = some u := fun j u hj => by
  subst hcs
  have h := BxA.new w t (C q)
  rw [Addr.add_lit, Nat.zero_add]
  exact h.c j hj
end
/-- What find answers. -/
def FoundAt (l : List FileF) (n : ByteArray) (z : Int) : Prop := (z = -1 ∧ findF l n = none) ∨ ∃ k f, z = ((k : Nat) : Int) ∧ k < l.length ∧ l[k]? = some f ∧ findF l n = some f
end
section
open Go Go.RowKit
set_option maxRecDepth 100000
/-- The world with a state's cells in a box of their own. -/
abbrev stC (A : Option Addr) (n c : Nat) (S : FS) : List Value := [.slice A n c, .int .i64 (S.no : Int), .int .i64 (S.ops : Int), .int .i64 S.fuse, .int .i64 S.fault, .bool S.down]
/-- Six cells laid into a box. -/
def six (W : World) (M : Nat) (v0 v1 v2 v3 v4 v5 : Value) : World := (((((W.setCell ⟨M, 0, none⟩ v0).setCell ⟨M, 1, none⟩ v1).setCell ⟨M, 2, none⟩ v2).setCell ⟨M, 3, none⟩ v3).setCell ⟨M, 4, none⟩ v4).setCell ⟨M, 5, none⟩ v5
end
section
open Go Go.RowKit
set_option maxRecDepth 100000
/-- What is behind both. -/
def SnocP (w : World) (ls : List PartV) (x : PartV) (A' : Option Addr) (c' : Nat) (w4 : World) : Prop :=
  Below w.heap.size w w4 ∧ RowT partC w4 (fun k => w.heap.size ≤ k ∧ k < w4.heap.size) A' (ls ++ [x]) ∧ ls.length + 1 ≤ c' ∧ c' ≤ maxLen ∧ (A' = none → c' = 0) ∧ ∀ a, A' = some a → w.heap.size ≤ a.block ∧ a.block < w4.heap.size
end
end Go.Proofs.YteafcaambnfdoaaGreatDoor
