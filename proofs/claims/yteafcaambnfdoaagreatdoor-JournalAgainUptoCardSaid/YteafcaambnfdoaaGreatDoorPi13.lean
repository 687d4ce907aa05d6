/-
  Layer 7 and what it stands on, part 13 (FDoc0 FFind0 FSnoc0 FDoc FFind FSnoc).
-/
import Derived.Test.YteafcaambnfdoaaGreatDoorPi9
import Derived.Test.YteafcaambnfdoaaGreatDoorPi12
import Derived.Outline
import Derived.OwnWalk
import Derived.IntWalk
import Derived.Maps.AppendAt
import Derived.Laws.AppendOwnNone
namespace Go.Proofs.YteafcaambnfdoaaGreatDoor
section
open Go Go.RowKit
set_option maxRecDepth 100000
inductive All2 {α β : Type} (R : α → β → Prop) : List α → List β → Prop
 | nil : All2 R [] []
 | cons {a : α} {b : β} {l : List α} {m : List β} : R a b → All2 R l m → All2 R (a :: l) (b :: m)
structure PartV where
 no : Nat
 at_ : Nat
 A : Option Addr
 n : Nat
 c : Nat
structure FileV where
 name : ByteArray
 A : Option Addr
 n : Nat
 c : Nat
 R : Option Addr
 rn : Nat
 rc : Nat
abbrev partC (p : PartV) : List Value := [.int .i64 (p.no : Int), .int .i64 (p.at_ : Int), .slice p.A p.n p.c]
abbrev fileC (f : FileV) : List Value := [.string f.name, .slice f.A f.n f.c, .slice f.R f.rn f.rc]
def u8C (u : UInt8) : List Value := [.int .u8 (u.toNat : Int)]
theorem partC_length (p : PartV) : (partC p).length = 3 := rfl
theorem fileC_length (f : FileV) : (fileC f).length = 3 := rfl
theorem u8C_length (u : UInt8) : (u8C u).length = 1 := rfl
theorem flat_u8 (l : List UInt8) : l.flatMap u8C = Lib.byteCells l := by
 induction l with
 | nil => rfl
 | cons x t ih => rw [List.flatMap_cons, ih]; rfl
abbrev ByR (w : World) (D : Nat → Prop) (A : Option Addr) (l : List UInt8) : Prop := RowT u8C w D A l
section
variable {w w' : World} {D D' R' : Nat → Prop}
theorem ByR.byt {A : Option Addr} {l : List UInt8} (h : ByR w D A l) : Byt w A l := by
 by_cases h0 : l = []
 ·rw [h0]; exact Byt.nil_ _ _
 ·obtain ⟨g, o, rfl, _, _, hc⟩ := h (List.length_pos_iff.2 h0)
  refine Byt.mk_ fun i hi => ?_
  have := hc (i * 1 + 0) _ (flat_get u8C_length (List.getElem?_eq_getElem hi) (j := 0) rfl)
  rw [Nat.mul_one, Nat.add_zero] at this
  rw [this, List.getD_eq_getElem?_getD, List.getElem?_eq_getElem hi]
  rfl
theorem byR_of_byt {A : Option Addr} {l : List UInt8} (h : Byt w A l) (hD : ∀ a, A = some a → D a.block) : ByR w D A l := fun hn => by
 obtain ⟨g, o, rfl, hg, hc⟩ := h.at_ hn
 refine ⟨g, o, rfl, hD _ rfl, hg, fun j v hj => ?_⟩
 rw [flat_u8] at hj
 have hjl : j < l.length := by have := (List.getElem?_eq_some_iff.1 hj).1; simpa [Lib.byteCells] using this
 have := hc j hjl
 rw [this]
 simp [Lib.byteCells] at hj
 obtain ⟨x, hx, rfl⟩ := hj
 rw [List.getD_eq_getElem?_getD, hx]
 rfl
theorem byR_of_own {base : Nat} {A : Option Addr} {c n : Nat} {l : List UInt8} (h : w.ownsRow base 5 1 (.slice A n c) l.length (Lib.byteCells l)) (hR : ∀ g, (Value.slice A n c).ownBlock = some g → D g) : ByR w D A l :=
 rowT_of_own (C := u8C) (by rw [flat_u8]; exact h) hR
structure PartR (w : World) (D : Nat → Prop) (v : PartV) (p : PartF) : Prop where
 no : v.no = p.no
 at_ : v.at_ = p.at_
 n : v.n = p.b.length
 rd : ByR w D v.A p.b
 nil : v.A = none → v.c = 0
structure FileR (w : World) (D : Nat → Prop) (v : FileV) (f : FileF) : Prop where
 name : v.name = f.name
 n : v.n = f.b.length
 rd : ByR w D v.A f.b
 nil : v.A = none → v.c = 0
 rn : v.rn = f.row.length
 rnil : v.R = none → v.rc = 0
 row : ∃ ps, RowT partC w D v.R ps ∧ All2 (PartR w D) ps f.row
def stV (A : Option Addr) (n c : Nat) (S : FS) : Value := .agg #[.slice A n c, .int .i64 (S.no : Int), .int .i64 (S.ops : Int), .int .i64 S.fuse, .int .i64 S.fault, .bool S.down]
def StAt (w : World) (D : Nat → Prop) (v : Value) (S : FS) : Prop := ∃ A c vs, v = stV A vs.length c S ∧ RowT fileC w D A vs ∧ All2 (FileR w D) vs S.l
theorem all2_imp {α β : Type} {R Q : α → β → Prop} (h : ∀ a b, R a b → Q a b) : ∀ {l : List α} {m : List β}, All2 R l m → All2 Q l m
 | _, _, .nil => .nil
 | _, _, .cons h1 h2 => .cons (h _ _ h1) (all2_imp h h2)
theorem all2_len {α β : Type} {R : α → β → Prop} : ∀ {l : List α} {m : List β}, All2 R l m → l.length = m.length
 | _, _, .nil => rfl
 | _, _, .cons _ h2 => congrArg (· + 1) (all2_len h2)
theorem all2_get {α β : Type} {R : α → β → Prop} : ∀ {l : List α} {m : List β}, All2 R l m → ∀ {i : Nat} {a : α}, l[i]? = some a → ∃ b, m[i]? = some b ∧ R a b
 | _, _, .cons h1 _, 0, _, h => ⟨_, rfl, by injection h with h; rw [← h]; exact h1⟩
 | _, _, .cons _ h2, i + 1, _, h => all2_get h2 (i := i) (by simpa using h)
theorem all2_append {α β : Type} {R : α → β → Prop} : ∀ {l l' : List α} {m m' : List β}, All2 R l m → All2 R l' m' → All2 R (l ++ l') (m ++ m')
 | _, _, _, _, .nil, h => h
 | _, _, _, _, .cons h1 h2, h => .cons h1 (all2_append h2 h)
theorem all2_filter {α β : Type} {R : α → β → Prop} {p : α → Bool} {q : β → Bool} (h : ∀ a b, R a b → p a = q b) : ∀ {l : List α} {m : List β}, All2 R l m → All2 R (l.filter p) (m.filter q)
 | _, _, .nil => .nil
 | _, _, .cons (a := a) (b := b) h1 h2 => by
  have e := h _ _ h1
  cases hp : p a
  ·rw [List.filter_cons_of_neg (by rw [hp]; simp), List.filter_cons_of_neg (by rw [← e, hp]; simp)]
   exact all2_filter h h2
  ·rw [List.filter_cons_of_pos (by rw [hp]), List.filter_cons_of_pos (by rw [← e, hp])]
   exact .cons h1 (all2_filter h h2)
theorem PartR.keep {v : PartV} {p : PartF} (h : PartR w D v p) (ho : Only R' w w') (hd : ∀ i, D i → ¬ R' i) : PartR w' D v p := ⟨h.no, h.at_, h.n, h.rd.keep ho hd, h.nil⟩
theorem PartR.mono {v : PartV} {p : PartF} (h : PartR w D v p) (hD : ∀ i, D i → D' i) : PartR w D' v p := ⟨h.no, h.at_, h.n, h.rd.mono hD, h.nil⟩
theorem FileR.keep {v : FileV} {f : FileF} (h : FileR w D v f) (ho : Only R' w w') (hd : ∀ i, D i → ¬ R' i) : FileR w' D v f := by
 obtain ⟨ps, h1, h2⟩ := h.row
 exact ⟨h.name, h.n, h.rd.keep ho hd, h.nil, h.rn, h.rnil, ps, h1.keep ho hd, all2_imp (fun _ _ h => h.keep ho hd) h2⟩
theorem FileR.mono {v : FileV} {f : FileF} (h : FileR w D v f) (hD : ∀ i, D i → D' i) : FileR w D' v f := by
 obtain ⟨ps, h1, h2⟩ := h.row
 exact ⟨h.name, h.n, h.rd.mono hD, h.nil, h.rn, h.rnil, ps, h1.mono hD, all2_imp (fun _ _ h => h.mono hD) h2⟩
theorem FileR.below {v : FileV} {f : FileF} (h : FileR w D v f) (hb : Below w.heap.size w w') : FileR w' D v f := h.keep (R' := fun _ => False) (Only.of_below hb) (fun _ _ h => h)
theorem StAt.keep {v : Value} {S : FS} (h : StAt w D v S) (ho : Only R' w w') (hd : ∀ i, D i → ¬ R' i) : StAt w' D v S := by
 obtain ⟨A, c, vs, rfl, h1, h2⟩ := h
 exact ⟨A, c, vs, rfl, h1.keep ho hd, all2_imp (fun _ _ h => h.keep ho hd) h2⟩
theorem StAt.mono {v : Value} {S : FS} (h : StAt w D v S) (hD : ∀ i, D i → D' i) : StAt w D' v S := by
 obtain ⟨A, c, vs, rfl, h1, h2⟩ := h
 exact ⟨A, c, vs, rfl, h1.mono hD, all2_imp (fun _ _ h => h.mono hD) h2⟩
theorem StAt.below {v : Value} {S : FS} (h : StAt w D v S) (hb : Below w.heap.size w w') : StAt w' D v S := h.keep (R' := fun _ => False) (Only.of_below hb) (fun _ _ h => h)
def DW (D : Nat → Prop) (w : World) (k : Nat) : Prop := D k ∨ w.heap.size ≤ k
theorem RowT.cap {α : Type} {C : α → List Value} {A : Option Addr} {ls : List α} (h : RowT C w D A ls) : RowT C w (fun k => D k ∧ k < w.heap.size) A ls := fun hn => by
 obtain ⟨g, o, e, hr, hg, hc⟩ := h hn
 exact ⟨g, o, e, ⟨hr, hg⟩, hg, hc⟩
theorem PartR.cap {v : PartV} {p : PartF} (h : PartR w D v p) : PartR w (fun k => D k ∧ k < w.heap.size) v p := ⟨h.no, h.at_, h.n, h.rd.cap, h.nil⟩
theorem FileR.cap {v : FileV} {f : FileF} (h : FileR w D v f) : FileR w (fun k => D k ∧ k < w.heap.size) v f := by
 obtain ⟨ps, h1, h2⟩ := h.row
 exact ⟨h.name, h.n, h.rd.cap, h.nil, h.rn, h.rnil, ps, h1.cap, all2_imp (fun _ _ h => h.cap) h2⟩
theorem StAt.cap {v : Value} {S : FS} (h : StAt w D v S) : StAt w (fun k => D k ∧ k < w.heap.size) v S := by
 obtain ⟨A, c, vs, rfl, h1, h2⟩ := h
 exact ⟨A, c, vs, rfl, h1.cap, all2_imp (fun _ _ h => h.cap) h2⟩
theorem file_at {A : Option Addr} {vs : List FileV} (h : RowT fileC w D A vs) {k : Nat} (hk : k < vs.length) : ∃ g o v, A = some ⟨g, o, none⟩ ∧ g < w.heap.size ∧ vs[k]? = some v ∧ w.cell? ⟨g, o + k * 3, none⟩ = some (.string v.name) ∧
  w.cell? ⟨g, o + k * 3 + 1, none⟩ = some (.slice v.A v.n v.c) ∧ w.cell? ⟨g, o + k * 3 + 2, none⟩ = some (.slice v.R v.rn v.rc) := by
 obtain ⟨g, o, e, _, hg, hc⟩ := h (by omega)
 have hq : vs[k]? = some vs[k] := List.getElem?_eq_getElem hk
 refine ⟨g, o, vs[k], e, hg, hq, ?_, ?_, ?_⟩
 ·have := hc (k * 3 + 0) _ (flat_get fileC_length hq (j := 0) rfl)
  simpa using this
 ·have := hc (k * 3 + 1) _ (flat_get fileC_length hq (j := 1) rfl)
  rw [Nat.add_assoc]
  exact this
 ·have := hc (k * 3 + 2) _ (flat_get fileC_length hq (j := 2) rfl)
  rw [Nat.add_assoc]
  exact this
theorem part_at {A : Option Addr} {vs : List PartV} (h : RowT partC w D A vs) {k : Nat} (hk : k < vs.length) : ∃ g o v, A = some ⟨g, o, none⟩ ∧ g < w.heap.size ∧ vs[k]? = some v ∧ w.cell? ⟨g, o + k * 3, none⟩ = some (.int .i64 (v.no : Int)) ∧
  w.cell? ⟨g, o + k * 3 + 1, none⟩ = some (.int .i64 (v.at_ : Int)) ∧ w.cell? ⟨g, o + k * 3 + 2, none⟩ = some (.slice v.A v.n v.c) := by
 obtain ⟨g, o, e, _, hg, hc⟩ := h (by omega)
 have hq : vs[k]? = some vs[k] := List.getElem?_eq_getElem hk
 refine ⟨g, o, vs[k], e, hg, hq, ?_, ?_, ?_⟩
 ·have := hc (k * 3 + 0) _ (flat_get partC_length hq (j := 0) rfl)
  simpa using this
 ·have := hc (k * 3 + 1) _ (flat_get partC_length hq (j := 1) rfl)
  rw [Nat.add_assoc]
  exact this
 ·have := hc (k * 3 + 2) _ (flat_get partC_length hq (j := 2) rfl)
  rw [Nat.add_assoc]
  exact this
theorem row_cells {α : Type} {C : α → List Value} (w : World) (q : α) (t : TypeId) (cs : Array Value) (hcs : cs = (C q).toArray) : ∀ (j : Nat) (u : Value), (C q)[j]? = some u → (w.alloc (.cells cs t)).cell? (Addr.add ⟨w.heap.size, 0, none⟩ j) = some u := fun j u hj => by
 subst hcs
 have h := BxA.new w t (C q)
 rw [Addr.add_lit, Nat.zero_add]
 exact h.c j hj
theorem fileC_one (f : FileV) : ∀ u ∈ fileC f, u.oneCell' = true := by
 intro u hu
 simp only [fileC, List.mem_cons, List.not_mem_nil, or_false] at hu
 rcases hu with rfl | rfl | rfl <;> rfl
theorem partC_one (f : PartV) : ∀ u ∈ partC f, u.oneCell' = true := by
 intro u hu
 simp only [partC, List.mem_cons, List.not_mem_nil, or_false] at hu
 rcases hu with rfl | rfl | rfl <;> rfl
end
def FoundAt (l : List FileF) (n : ByteArray) (z : Int) : Prop := (z = -1 ∧ findF l n = none) ∨ ∃ k f, z = ((k : Nat) : Int) ∧ k < l.length ∧ l[k]? = some f ∧ findF l n = some f
theorem found_here {l : List FileF} {n : ByteArray} {k : Nat} {f : FileF} (hk : l[k]? = some f) (hn : f.name = n) (hb : ∀ j g, j < k → l[j]? = some g → g.name ≠ n) : findF l n = some f := by
 unfold findF
 obtain ⟨hlt, rfl⟩ := List.getElem?_eq_some_iff.1 hk
 rw [List.find?_eq_some_iff_getElem]
 refine ⟨decide_eq_true hn, k, hlt, rfl, fun j hj => ?_⟩
 have := hb j l[j] hj (List.getElem?_eq_getElem (by omega))
 simpa using this
end
section
open Go Go.RowKit
set_option maxRecDepth 100000
abbrev stC (A : Option Addr) (n c : Nat) (S : FS) : List Value := [.slice A n c, .int .i64 (S.no : Int), .int .i64 (S.ops : Int), .int .i64 S.fuse, .int .i64 S.fault, .bool S.down]
theorem results_st {P : Program} {fn : Func} {p : Tmp} {ty : TypeId} {fs : Array Field} (h : fn.results = #[.cell p ty]) (tmps : Array Value) (w : World) (g : Nat) (v0 v1 v2 v3 v4 v5 : Value) (t : TypeId)
  (hp : tmps.getD p undef = .pointer (some ⟨g, 0, none⟩)) (hb : BxA w g t [v0, v1, v2, v3, v4, v5]) (hu : P.underlying ty = some (.struct fs)) (hsz : (sizeOf ty).run P w = .ok 6 w) : (results fn tmps).run P w = .ok (.agg #[v0, v1, v2, v3, v4, v5]) w := by
 have hp' : tmps[p]?.getD undef = .pointer (some ⟨g, 0, none⟩) := by simpa using hp
 have c0 := hb.c 0 rfl
 have c1 := hb.c 1 rfl
 have c2 := hb.c 2 rfl
 have c3 := hb.c 3 rfl
 have c4 := hb.c 4 rfl
 have c5 := hb.c 5 rfl
 simp [results, h, hp', asAddr, loadVar, isAgg, Sem.run_bind, run_underlying hu, hsz, loadCells, loadCellsFrom, Addr.add, c0, c1, c2, c3, c4, c5, go_sem]
theorem results_st2 {P : Program} {fn : Func} {p q : Tmp} {ty : TypeId} {fs : Array Field} (h : fn.results = #[.cell p ty, .tmp q]) (tmps : Array Value) (w : World) (g : Nat) (v0 v1 v2 v3 v4 v5 v : Value) (t : TypeId)
  (hp : tmps.getD p undef = .pointer (some ⟨g, 0, none⟩)) (hq : tmps.getD q undef = v) (hb : BxA w g t [v0, v1, v2, v3, v4, v5]) (hu : P.underlying ty = some (.struct fs)) (hsz : (sizeOf ty).run P w = .ok 6 w) : (results fn tmps).run P w = .ok (.tuple #[.agg #[v0, v1, v2, v3, v4, v5], v]) w := by
 have hp' : tmps[p]?.getD undef = .pointer (some ⟨g, 0, none⟩) := by simpa using hp
 have hq' : tmps[q]?.getD undef = v := by simpa using hq
 have c0 := hb.c 0 rfl
 have c1 := hb.c 1 rfl
 have c2 := hb.c 2 rfl
 have c3 := hb.c 3 rfl
 have c4 := hb.c 4 rfl
 have c5 := hb.c 5 rfl
 simp [results, h, hp', hq', asAddr, loadVar, isAgg, Sem.run_bind, run_underlying hu, hsz, loadCells, loadCellsFrom, Addr.add, c0, c1, c2, c3, c4, c5, go_sem]
def six (W : World) (M : Nat) (v0 v1 v2 v3 v4 v5 : Value) : World := (((((W.setCell ⟨M, 0, none⟩ v0).setCell ⟨M, 1, none⟩ v1).setCell ⟨M, 2, none⟩ v2).setCell ⟨M, 3, none⟩ v3).setCell ⟨M, 4, none⟩ v4).setCell ⟨M, 5, none⟩ v5
theorem six_only (W : World) (M : Nat) (v0 v1 v2 v3 v4 v5 : Value) : Only (fun i => i = M) W (six W M v0 v1 v2 v3 v4 v5) :=
 ((((((Only.refl (fun i => i = M) W).set (p := ⟨M, 0, none⟩) (.inl rfl) _).set (p := ⟨M, 1, none⟩) (.inl rfl) _).set (p := ⟨M, 2, none⟩) (.inl rfl) _).set (p := ⟨M, 3, none⟩) (.inl rfl) _).set (p := ⟨M, 4, none⟩) (.inl rfl) _).set (p := ⟨M, 5, none⟩) (.inl rfl) _
theorem six_box {W : World} {M : Nat} {t : TypeId} {z0 z1 z2 z3 z4 z5 : Value} (h : BxA W M t [z0, z1, z2, z3, z4, z5]) (v0 v1 v2 v3 v4 v5 : Value) : BxA (six W M v0 v1 v2 v3 v4 v5) M t [v0, v1, v2, v3, v4, v5] := (((((h.set 0 v0).set 1 v1).set 2 v2).set 3 v3).set 4 v4).set 5 v5
theorem bx_new2 (w : World) (o : Obj) (t : TypeId) (vs : List Value) : BxA ((w.alloc o).alloc (.cells vs.toArray t)) (w.heap.size + 1) t vs := by
 have := BxA.new (w.alloc o) t vs
 rwa [World.size_alloc] at this
theorem new_at (w : World) (D : Nat → Prop) : StAt w D (.agg #[.slice none 0 0, .int .i64 0, .int .i64 0, .int .i64 (-1), .int .i64 (-1), .bool false]) FS.new := ⟨none, 0, [], rfl, fun hn => absurd hn (Nat.lt_irrefl 0), .nil⟩
end
section
open Go Go.RowKit
set_option maxRecDepth 100000
theorem own_only3 {w w' : World} {base e n : Nat} {v : Value} {xs : List Value} {R : Nat → Prop} (h : w.ownsRow base e 3 v n xs) (ho : Only R w w') (hd : ∀ g, v.ownBlock = some g → ¬ R g) : w'.ownsRow base e 3 v n xs := by
 refine ⟨h.1, ?_⟩
 rcases h.2 with h4 | ⟨g, cap, cur, hv, hg, hh, r⟩
 ·exact .inl h4
 ·exact .inr ⟨g, cap, cur, hv, hg, (ho.block g (Array.getElem?_eq_some_iff.1 hh).1 (hd g (by rw [hv]; rfl))).trans hh, r⟩
def SnocP (w : World) (ls : List PartV) (x : PartV) (A' : Option Addr) (c' : Nat) (w4 : World) : Prop :=
 Below w.heap.size w w4 ∧ RowT partC w4 (fun k => w.heap.size ≤ k ∧ k < w4.heap.size) A' (ls ++ [x]) ∧ ls.length + 1 ≤ c' ∧ c' ≤ maxLen ∧ (A' = none → c' = 0) ∧ ∀ a, A' = some a → w.heap.size ≤ a.block ∧ a.block < w4.heap.size
theorem SnocP.undrew {w : World} {ls : List PartV} {x : PartV} {A' : Option Addr} {c' : Nat} {w4 : World} (h : SnocP w.drew ls x A' c' w4) : SnocP w ls x A' c' w4 := ⟨⟨h.1.os, h.1.tape, h.1.output, h.1.size, h.1.block⟩, h.2⟩
theorem own_zero10 {w : World} {base g e : Nat} (hb : base ≤ g) (h : w.heap[g]? = some (.cells #[] e (0, 0))) : w.ownsRow base e 3 (.slice (some ⟨g, 0, none⟩) 0 0) 0 [] :=
 ⟨rfl, .inr ⟨g, 0, #[], rfl, hb, h, by simp, by unfold maxLen; omega, by simp, by simp⟩⟩
end
section
open Go Go.RowKit
set_option maxRecDepth 100000
theorem sizeState10 (w : World) : (sizeOf 51).run Tryz.prog w = .ok 6 w := Tryz.sizeOf51 w
theorem infoPart : (Tryz.prog.info? 151).map (fun i => (i.zero, i.size, i.bytes)) = some (some (.agg #[.int .i64 0, .int .i64 0, .slice none 0 0]), 3, 40) := by kernel_rfl
theorem infoFile : (Tryz.prog.info? 130).map (fun i => (i.zero, i.size, i.bytes)) = some (some (.agg #[.string ⟨#[]⟩, .slice none 0 0, .slice none 0 0]), 3, 64) := by kernel_rfl
section
variable {w w' : World} {D D' R' : Nat → Prop}
end
end
section
open Go Go.RowKit
open Go.Lib (hid)
set_option maxRecDepth 100000
set_option maxHeartbeats 2000000 in
theorem rfind10_calls (w : World) (D : Nat → Prop) (v : Value) (S : FS) (n : ByteArray) (h : StAt w D v S) (hl : S.l.length ≤ 1000) :
  Calls Tryz.prog 82 #[v, .string n] w fun e w' => ∃ z, e = .returned (.int .i64 z) ∧ FoundAt S.l n z ∧ Below w.heap.size w w' := by
 obtain ⟨A, c, vs, rfl, hr, ha⟩ := h
 have HLen := hid (all2_len ha)
 have hvl : vs.length ≤ 1000 := by have := HLen.out; omega
 clear hl
 have hb := (Below.refl _ w).alloc (Nat.le_refl _) (.cells (stC A vs.length c S).toArray 51)
 have hx := BxA.new w 51 (stC A vs.length c S)
 have x0 := hx.c 0 rfl
 have H := hid (hr.below hb)
 have HA := hid ha
 have HB := hid hb
 clear hr ha hb hx
 unfold stV
 go_enter Tryz.func82, Tryz.ntmps82
 obtain ⟨W, hW⟩ : ∃ W, w.alloc (.cells (stC A vs.length c S).toArray 51) = W := ⟨_, rfl⟩
 rw [hW] at H HB x0
 go_wp2_with fail
 clear hW
 go_loopw [5] (fun v5 wr => ∃ k : Nat, k ≤ vs.length ∧ v5 = .int .i64 (k : Int) ∧ Hid (∀ j g, j < k → S.l[j]? = some g → g.name ≠ n) ∧ wr = W) (fun v5 _ => vs.length - (intOf v5).toNat)
 case atStart => exact ⟨0, Nat.zero_le _, rfl, hid (fun j g hj => by omega), rfl⟩
 case round =>
  obtain ⟨k, hk, rfl, hno, rfl⟩ := hrel
  by_cases hlt : k < vs.length
  ·obtain ⟨g, o, q, rfl, hg, hq, c0, c1, c2⟩ := file_at H.out hlt
   obtain ⟨f, hf, hfr⟩ := all2_get HA.out hq
   have hkl : (k : Int) < (vs.length : Int) := by omega
   have hname := hfr.name
   have HF := hid hf
   clear hq hf hfr c1 c2
   by_cases hn : q.name = n
   ·have t1 : (q.name.toList == n.toList) = true := by rw [tl_beq]; exact decide_eq_true hn
    have HFd : Hid (FoundAt S.l n (k : Int)) := hid (.inr ⟨k, f, rfl, by have := HLen.out; omega, HF.out, found_here HF.out (by rw [← hname, hn]) hno.out⟩)
    clear hn hname hno
    go_wp2_with fail
    go_ret
    exact ⟨_, rfl, HFd.out, HB.out⟩
   ·have t1 : (q.name.toList == n.toList) = false := by rw [tl_beq]; exact decide_eq_false hn
    have HN : Hid (∀ j g, j < k + 1 → S.l[j]? = some g → g.name ≠ n) := hid (fun j g hj hg => by
     by_cases e : j = k
     ·subst e
      rw [HF.out] at hg
      injection hg with hg
      rw [← hg, ← hname]
      exact hn
     ·exact hno.out j g (by omega) hg)
    clear hn hname hno
    go_wp2_with fail
    go_roundw
    case rel => exact ⟨k + 1, by omega, by go_num, HN, trivial⟩
    case measure => simp [intOf]; omega
  ·obtain rfl : k = vs.length := by omega
   have HFd : Hid (FoundAt S.l n (-1)) := hid (.inl ⟨rfl, findF_none.2 fun f hf => by
    obtain ⟨j, hj, rfl⟩ := List.mem_iff_getElem.1 hf
    exact hno.out j _ (by have := HLen.out; omega) (List.getElem?_eq_getElem hj)⟩)
   clear hno
   go_wp2_with fail
   go_ret
   exact ⟨_, rfl, HFd.out, HB.out⟩
theorem rnew10_calls (w : World) : Calls Tryz.prog 31 #[] w fun e w' => e = .returned (.agg #[.slice none 0 0, .int .i64 0, .int .i64 0, .int .i64 (-1), .int .i64 (-1), .bool false]) ∧ Below w.heap.size w w' := by
 go_enter Tryz.func31, Tryz.ntmps31
 go_wp2_with fail
 refine bodyPost_ret (results_st rfl _ _ w.heap.size _ _ _ _ _ _ 51 rfl (BxA.new w _ [.slice none 0 0, .int .i64 0, .int .i64 0, .int .i64 (-1), .int .i64 (-1), .bool false]) Tryz.underlying51 (sizeState10 _)) rfl ?_
 exact ⟨rfl, (Below.refl _ w).alloc (Nat.le_refl _) _⟩
set_option maxHeartbeats 2000000 in
theorem rcount10_calls (w : World) (D : Nat → Prop) (v : Value) (S : FS) (h : StAt w D v S) (ho : S.ops ≤ 1000000) (hf1 : -1 ≤ S.fuse) (hf2 : S.fuse ≤ 9223372036854775807) :
  Calls Tryz.prog 104 #[v] w fun e w' => ∃ v', e = .returned v' ∧ StAt w' D v' S.count ∧ Below w.heap.size w w' := by
 obtain ⟨A, c, vs, rfl, hr, ha⟩ := h
 have HR := hid hr
 have HA := hid ha
 have HC : Hid (S.count = { S with ops := S.ops + 1, down := S.down || decide (S.fuse = 0), fuse := if 0 ≤ S.fuse then S.fuse - 1 else S.fuse }) := hid rfl
 clear hr ha
 unfold stV
 obtain ⟨l, no, ops, fuse, fault, down⟩ := S
 simp only at *
 have fin : ∀ (d : Bool) (z : Int), d = (down || decide (fuse = 0)) → z = (if 0 ≤ fuse then fuse - 1 else fuse) → ∀ W : World, Below w.heap.size w W → BxA W (w.heap.size + 1) 51 [.slice A vs.length c, .int .i64 (no : Int), .int .i64 ((ops : Int) + 1), .int .i64 z, .int .i64 fault, .bool d] →
   ∀ tmps : Array Value, tmps.getD 2 undef = .pointer (some ⟨w.heap.size + 1, 0, none⟩) → bodyPost Tryz.prog Tryz.f104 (fun e w' => ∃ v', e = .returned v' ∧ StAt w' D v' (FS.count ⟨l, no, ops, fuse, fault, down⟩) ∧ Below w.heap.size w w') Exit.ret { tmps := tmps, defers := [] } W := fun d z hd hz W hW hx tmps ht => by
  refine bodyPost_ret (results_st rfl _ _ (w.heap.size + 1) _ _ _ _ _ _ 51 ht hx Tryz.underlying51 (sizeState10 _)) rfl ?_
  refine ⟨_, rfl, ⟨A, c, vs, ?_, (HR.out.below hW), all2_imp (fun _ _ h => h.below hW) HA.out⟩, hW⟩
  rw [HC.out]
  unfold stV
  simp only
  rw [hd, hz]
  rfl
 have Fin := hid fin
 have hbel : ∀ o1 o2 : Obj, Below w.heap.size w ((w.alloc o1).alloc o2) := fun o1 o2 => ((Below.refl _ w).alloc (Nat.le_refl _) o1).alloc (by simp) o2
 have HBel := hid hbel
 clear fin hbel HC HR HA
 go_enter Tryz.func104, Tryz.ntmps104
 by_cases h0 : fuse = 0
 ·subst h0
  go_wp2_with fail
  exact Fin.out true (-1) (by simp) (by simp) _ (HBel.out _ _) (bx_new2 w _ _ [.slice A vs.length c, .int .i64 (no : Int), .int .i64 ((ops : Int) + 1), .int .i64 (-1), .int .i64 fault, .bool true]) _ rfl
 ·by_cases hp : 0 ≤ fuse
  ·have h1 : (fuse == 0) = false := beq_eq_false_iff_ne.2 h0
   have h2 : IntKind.i64.wrap (fuse - 1) = fuse - 1 := IntWalk.i64_in _ (by omega)
   go_wp2_with fail
   exact Fin.out down (fuse - 1) (by simp [h0]) (by rw [if_pos hp]) _ (HBel.out _ _) (bx_new2 w _ _ [.slice A vs.length c, .int .i64 (no : Int), .int .i64 ((ops : Int) + 1), .int .i64 (fuse - 1), .int .i64 fault, .bool down]) _ rfl
  ·have h1 : (fuse == 0) = false := beq_eq_false_iff_ne.2 h0
   go_wp2_with fail
   exact Fin.out down fuse (by simp [h0]) (by rw [if_neg (by omega)]) _ (HBel.out _ _) (bx_new2 w _ _ [.slice A vs.length c, .int .i64 (no : Int), .int .i64 ((ops : Int) + 1), .int .i64 fuse, .int .i64 fault, .bool down]) _ rfl
end
section
open Go Go.RowKit
set_option maxRecDepth 100000
theorem run_append_P (w : World) (base : Nat) (i : TypeInfo) (hi : Tryz.prog.info? 151 = some i) (hz : i.zero = some (.agg #[.int .i64 0, .int .i64 0, .slice none 0 0])) (hsize : i.size = 3) (hby : i.bytes = 40)
  (v : Value) (n : Nat) (xs : List PartV) (hn : n = xs.length) (hown : w.ownsRow base 151 3 v n (xs.flatMap partC)) (A : Option Addr) (m c : Nat) (ms : List PartV) (hm : m = ms.length) (hA : A = none → c = 0) {R : Nat → Prop} (hR : RowT partC w R A ms) (hb : n + m ≤ 1099511627776) (hbase : base ≤ w.heap.size) :
  ∃ v' w', (Builtin.append_ #[128, 128] 128 #[v, .slice A m c]).run Tryz.prog w = .ok v' w' ∧ w'.ownsRow base 151 3 v' (n + m) ((xs ++ ms).flatMap partC) ∧ w.grownBy w' v.ownBlock ∧ (v'.ownBlock = v.ownBlock ∨ v'.ownBlock = some w.heap.size) := by
 subst hm
 rcases A with _ | a
 ·obtain rfl := hA rfl
  have h0 : ms = [] := by
   by_cases hn : 0 < ms.length
   ·obtain ⟨_, _, e, _⟩ := hR hn; cases e
   ·exact List.eq_nil_of_length_eq_zero (by omega)
  subst h0
  exact ⟨v, w, run_append_owned_none (P := Tryz.prog) (w := w) base 128 128 151 i 3 Tryz.underlying128 hi v n (xs.flatMap partC) hown, by simpa using hown, World.grownBy.refl w _, .inl rfl⟩
 ·obtain ⟨v', w', hr, h2, h3, _, h5⟩ := run_append_own_at (P := Tryz.prog) (w := w) base 128 128 151 i _ 3 40 Tryz.underlying128 hi hz hsize hby rfl (by decide) v n (xs.flatMap partC) hown a ms.length c (ms.flatMap partC) (flat_length partC_length ms) (fun j u hj => by
    have hjl := (List.getElem?_eq_some_iff.1 hj).1
    rw [flat_length partC_length] at hjl
    obtain ⟨g, o, e, _, _, hc⟩ := hR (by omega)
    injection e with e
    subst e
    rw [Addr.add_lit]
    exact hc j u hj) (fun u hu => by
    obtain ⟨x, _, hx⟩ := List.mem_flatMap.1 hu
    exact partC_one x u hx) (by unfold maxLen; omega) (by omega) hbase
  rw [List.flatMap_append]
  exact ⟨v', w', hr, h2, h3, h5⟩
theorem snocP1 (w W1 : World) (ge : Nat) (A : Option Addr) (c : Nat) (ls : List PartV) (hge : w.heap.size ≤ ge) (he : W1.heap[ge]? = some (.cells #[] 151 (0, 0))) (hB : Below w.heap.size w W1) {D : Nat → Prop} (hR : RowT partC w D A ls) (hA : A = none → c = 0) (hl : ls.length ≤ 100000) :
  ∃ v2 w2, (Builtin.append_ #[128, 128] 128 #[.slice (some ⟨ge, 0, none⟩) 0 0, .slice A ls.length c]).run Tryz.prog W1 = .ok v2 w2 ∧ w2.ownsRow w.heap.size 151 3 v2 ls.length (ls.flatMap partC) ∧ Below w.heap.size w w2 ∧ Only (fun k => k = ge) W1 w2 ∧ ∀ g, v2.ownBlock = some g → g = ge ∨ g = W1.heap.size := by
 obtain ⟨i0, hi, hz0, hz1, hz2⟩ := info_parts infoPart
 obtain ⟨v2, w2, hr, ho, hg, hat⟩ := run_append_P W1 w.heap.size i0 hi hz0 hz1 hz2
  (.slice (some ⟨ge, 0, none⟩) 0 0) 0 [] rfl (own_zero10 hge he) A ls.length c ls rfl hA (hR.below hB) (by simp; omega) hB.size
 rw [Nat.zero_add, List.nil_append] at ho
 have hO : Only (fun k => k = ge) W1 w2 := Only.of_grown hg (fun k e => by injection e with e; exact e.symm)
 refine ⟨v2, w2, hr, ho, hB.trans (hO.below hB.size (fun i hi => by omega)), hO, fun g e => ?_⟩
 rcases hat with h | h
 ·rw [h] at e; injection e with e; exact .inl e.symm
 ·rw [h] at e; injection e with e; exact .inr e.symm
theorem snocP2 (w W2 W3 : World) (v2 : Value) (gx : Nat) (ls : List PartV) (x : PartV) (hown : W2.ownsRow w.heap.size 151 3 v2 ls.length (ls.flatMap partC)) (h23 : Below W2.heap.size W2 W3) (hB : Below w.heap.size w W3) (hx : BxA W3 gx 151 (partC x)) (hl : ls.length ≤ 100000) :
  ∃ A' c' w4, (Builtin.append_ #[128, 128] 128 #[v2, .slice (some ⟨gx, 0, none⟩) 1 1]).run Tryz.prog W3 = .ok (.slice A' (ls.length + 1) c') w4 ∧ SnocP w ls x A' c' w4 := by
 obtain ⟨i0, hi, hz0, hz1, hz2⟩ := info_parts infoPart
 have ho3 : W3.ownsRow w.heap.size 151 3 v2 ls.length (ls.flatMap partC) := own_only3 hown (Only.of_below (R := fun _ => False) h23) (fun _ _ h => h)
 obtain ⟨v4, w4, hr, ho, hg, _⟩ := run_append_P W3 w.heap.size i0 hi hz0 hz1 hz2
  v2 ls.length ls rfl ho3 (some ⟨gx, 0, none⟩) 1 1 [x] rfl (fun e => by cases e) (R := fun _ => True) (fun _ => ⟨gx, 0, rfl, trivial, hx.lt, fun j v hj => by
   match j, hj with
   | 0, hj => simp [partC] at hj; subst hj; exact hx.c 0 rfl
   | 1, hj => simp [partC] at hj; subst hj; exact hx.c 1 rfl
   | 2, hj => simp [partC] at hj; subst hj; exact hx.c 2 rfl
   | j + 3, hj => simp [partC] at hj⟩) (by omega) hB.size
 obtain ⟨A', c', rfl⟩ := own_form ho
 have hv2 : ∀ g, v2.ownBlock = some g → w.heap.size ≤ g := fun g e => (ho3.lt g e).1
 have hlen : ls.length + 1 = (ls ++ [x]).length := by simp
 have hcap : ls.length + 1 ≤ c' ∧ c' ≤ maxLen ∧ (A' = none → c' = 0) := by
  rcases ho.2 with ⟨hv, h0⟩ | ⟨g, cap, cur, hv, _, _, hnc, hcm, _⟩
  ·omega
  ·injection hv with h1 _ h3
   subst h1; subst h3
   exact ⟨hnc, hcm, fun h => by cases h⟩
 refine ⟨A', c', w4, hr, hB.grown hg hB.size (fun k e => hv2 k e), ?_, hcap.1, hcap.2.1, hcap.2.2, fun a e => ?_⟩
 ·have h2 := ho
  rw [hlen] at h2
  exact rowT_of_own h2 (fun g hg => ho.lt g (by rw [hlen]; exact hg))
 ·subst e
  exact ho.lt a.block rfl
theorem snocPA (w : World) (A : Option Addr) (c : Nat) (ls : List PartV) (x : PartV) {D : Nat → Prop} (hR : RowT partC w D A ls) (hA : A = none → c = 0) (hl : ls.length ≤ 100000) :
  ∃ v2 w2, (Builtin.append_ #[128, 128] 128 #[.slice (some ⟨w.heap.size, 0, none⟩) 0 0, .slice A ls.length c]).run Tryz.prog (w.alloc (.cells #[] 151)) = .ok v2 w2 ∧ Below w.heap.size w w2 ∧ ∃ A' c' w4, (Builtin.append_ #[128, 128] 128 #[v2, .slice (some ⟨w2.heap.size, 0, none⟩) 1 1]).run Tryz.prog (w2.alloc (.cells #[.int .i64 (x.no : Int), .int .i64 (x.at_ : Int), .slice x.A x.n x.c] 151)) = .ok (.slice A' (ls.length + 1) c') w4 ∧ SnocP w ls x A' c' w4 := by
 obtain ⟨v2, w2, h1, h2, h3, _⟩ := snocP1 w (w.alloc (.cells #[] 151)) w.heap.size A c ls (Nat.le_refl _) (World.alloc_heap_new w _) ((Below.refl _ w).alloc (Nat.le_refl _) _) hR hA hl
 exact ⟨v2, w2, h1, h3, snocP2 w w2 (w2.alloc (.cells #[.int .i64 (x.no : Int), .int .i64 (x.at_ : Int), .slice x.A x.n x.c] 151)) v2 w2.heap.size ls x h2 ((Below.refl _ w2).alloc (Nat.le_refl _) _) (h3.alloc h3.size _) (BxA.new w2 _ (partC x)) hl⟩
theorem snocPB (w : World) (A : Option Addr) (c : Nat) (ls : List PartV) (x : PartV) {D : Nat → Prop} (hR : RowT partC w D A ls) (hA : A = none → c = 0) (hl : ls.length ≤ 100000) :
  ∃ v2 w2, (Builtin.append_ #[128, 128] 128 #[.slice (some ⟨w.heap.size, 0, none⟩) 0 0, .slice A ls.length c]).run Tryz.prog ((w.alloc (.cells #[] 151)).alloc (.cells #[.int .i64 (x.no : Int), .int .i64 (x.at_ : Int), .slice x.A x.n x.c] 151)) = .ok v2 w2 ∧ Below w.heap.size w w2 ∧ ∃ A' c' w4, (Builtin.append_ #[128, 128] 128 #[v2, .slice (some ⟨w.heap.size + 1, 0, none⟩) 1 1]).run Tryz.prog w2 = .ok (.slice A' (ls.length + 1) c') w4 ∧ SnocP w ls x A' c' w4 := by
 have hB : Below w.heap.size w ((w.alloc (.cells #[] 151)).alloc (.cells #[.int .i64 (x.no : Int), .int .i64 (x.at_ : Int), .slice x.A x.n x.c] 151)) := ((Below.refl _ w).alloc (Nat.le_refl _) _).alloc (by simp) _
 have hx : BxA ((w.alloc (.cells #[] 151)).alloc (.cells #[.int .i64 (x.no : Int), .int .i64 (x.at_ : Int), .slice x.A x.n x.c] 151)) (w.heap.size + 1) 151 (partC x) := by
  have := BxA.new (w.alloc (.cells #[] 151)) 151 (partC x)
  rwa [World.size_alloc] at this
 obtain ⟨v2, w2, h1, h2, h3, h4, _⟩ := snocP1 w _ w.heap.size A c ls (Nat.le_refl _) (by
  have := World.alloc_heap_new w (.cells #[] 151)
  exact (((Below.refl (w.alloc (.cells #[] 151)).heap.size _).alloc (Nat.le_refl _) (.cells #[.int .i64 (x.no : Int), .int .i64 (x.at_ : Int), .slice x.A x.n x.c] 151)).block _ (by simp)).trans this) hB hR hA hl
 exact ⟨v2, w2, h1, h3, snocP2 w w2 w2 v2 (w.heap.size + 1) ls x h2 (Below.refl _ _) h3 ((h4.block _ hx.lt (by show ¬ w.heap.size + 1 = w.heap.size; omega)).trans hx) hl⟩
theorem snocPC (w : World) (A : Option Addr) (c : Nat) (ls : List PartV) (x : PartV) {D : Nat → Prop} (hR : RowT partC w D A ls) (hA : A = none → c = 0) (hl : ls.length ≤ 100000) :
  ∃ v2 w2, (Builtin.append_ #[128, 128] 128 #[.slice (some ⟨w.heap.size + 1, 0, none⟩) 0 0, .slice A ls.length c]).run Tryz.prog ((w.alloc (.cells #[.int .i64 (x.no : Int), .int .i64 (x.at_ : Int), .slice x.A x.n x.c] 151)).alloc (.cells #[] 151)) = .ok v2 w2 ∧ Below w.heap.size w w2 ∧ ∃ A' c' w4, (Builtin.append_ #[128, 128] 128 #[v2, .slice (some ⟨w.heap.size, 0, none⟩) 1 1]).run Tryz.prog w2 = .ok (.slice A' (ls.length + 1) c') w4 ∧ SnocP w ls x A' c' w4 := by
 have hB : Below w.heap.size w ((w.alloc (.cells #[.int .i64 (x.no : Int), .int .i64 (x.at_ : Int), .slice x.A x.n x.c] 151)).alloc (.cells #[] 151)) := ((Below.refl _ w).alloc (Nat.le_refl _) _).alloc (by simp) _
 have hx : BxA ((w.alloc (.cells #[.int .i64 (x.no : Int), .int .i64 (x.at_ : Int), .slice x.A x.n x.c] 151)).alloc (.cells #[] 151)) w.heap.size 151 (partC x) := (BxA.new w _ (partC x)).alloc _
 obtain ⟨v2, w2, h1, h2, h3, h4, _⟩ := snocP1 w _ (w.heap.size + 1) A c ls (Nat.le_succ _) (by
  have := World.alloc_heap_new (w.alloc (.cells #[.int .i64 (x.no : Int), .int .i64 (x.at_ : Int), .slice x.A x.n x.c] 151)) (.cells #[] 151)
  rwa [World.size_alloc] at this) hB hR hA hl
 exact ⟨v2, w2, h1, h3, snocP2 w w2 w2 v2 w.heap.size ls x h2 (Below.refl _ _) h3 ((h4.block _ hx.lt (by show ¬ w.heap.size = w.heap.size + 1; omega)).trans hx) hl⟩
end
end Go.Proofs.YteafcaambnfdoaaGreatDoor
