/-
  Layer 7 and what it stands on, part 8 (RowI RefWC Bs NameOrd FileMath FileSurv JournalFs JournalOps JournalCode WidthC JournalKeep JournalComp JournalOne JAliveMath LineMath).
-/
import Derived.Test.YteafcaambnfdoaaGreatDoorPq6
import Derived.Test.YteafcaambnfdoaaGreatDoorPq7
import Derived.Laws.Rows
import Derived.Laws.Concat
namespace Go.Proofs.YteafcaambnfdoaaGreatDoor
section
open Go Go.RowKit
theorem info64 : (Tryz.prog.info? 3).map (fun i => (i.zero, i.size, i.bytes)) = some (some (.int .i64 0), 1, 8) := by kernel_rfl
def cells64 (rs : List Nat) : List Value := rs.map fun (r : Nat) => Value.int .i64 (r : Int)
theorem cells64_snoc (rs : List Nat) (r : Nat) : cells64 (rs ++ [r]) = cells64 rs ++ [.int .i64 (r : Int)] := by simp [cells64]
def Rd64 (w : World) (A : Option Addr) (rs : List Nat) : Prop := 0 < rs.length → ∃ g o, A = some ⟨g, o, none⟩ ∧ g < w.heap.size ∧ ∀ i, i < rs.length → w.cell? ⟨g, o + i, none⟩ = some (.int .i64 ((rs.getD i 0 : Nat) : Int))
theorem Rd64.below {w w' : World} {A : Option Addr} {rs : List Nat} (h : Rd64 w A rs) (hb : Below w.heap.size w w') : Rd64 w' A rs := fun hn => by
 obtain ⟨g, o, e, hg, hc⟩ := h hn
 exact ⟨g, o, e, Nat.lt_of_lt_of_le hg hb.size, fun i hi => by rw [hb.cell (p := ⟨g, o + i, none⟩) hg]; exact hc i hi⟩
theorem rd64_of_own {w : World} {base : Nat} {A : Option Addr} {c n : Nat} {rs : List Nat} (h : w.ownsRow base 3 1 (.slice A n c) rs.length (cells64 rs)) : Rd64 w A rs ∧ n = rs.length ∧ rs.length ≤ c ∧ c ≤ maxLen := by
 rcases h.2 with ⟨hv, h0⟩ | ⟨g, cap, cur, hv, _, hh, hnc, hcm, _⟩
 ·injection hv with h1 h2 h3
  subst h1; subst h2; subst h3
  exact ⟨fun hn => by omega, h0.symm, by omega, by unfold maxLen; omega⟩
 ·injection hv with h1 h2 h3
  subst h1; subst h2; subst h3
  refine ⟨fun hn => ⟨g, 0, rfl, (Array.getElem?_eq_some_iff.1 hh).1, fun i hi => ?_⟩, rfl, hnc, hcm⟩
  have := h.cells (g := g) rfl i (.int .i64 ((rs.getD i 0 : Nat) : Int)) (by simp [cells64, hi, List.getD])
  rw [Addr.add_lit] at this
  exact this
end
section
open Go Go.RowKit
set_option maxHeartbeats 1000000 in
theorem rctl_calls (r : Int) (w : World) :
  Calls Tryz.prog 98 #[.int .i64 r] w fun e w' => e = .returned (.bool (ctlL r)) ∧ w = w' := by
 by_cases h1 : r ≤ 31
 ·have e : ctlL r = true := decide_eq_true (.inl (by omega))
  rw [e]
  go_enter Tryz.func98, Tryz.ntmps98
  go_wp2
  go_ret
  exact ⟨rfl, rfl⟩
 by_cases h2 : 127 ≤ r
 ·by_cases h3 : r ≤ 159
  ·have e : ctlL r = true := decide_eq_true (.inr ⟨h2, h3⟩)
   rw [e]
   go_enter Tryz.func98, Tryz.ntmps98
   go_wp2
   go_ret
   exact ⟨rfl, rfl⟩
  ·have e : ctlL r = false := decide_eq_false (by omega)
   rw [e]
   go_enter Tryz.func98, Tryz.ntmps98
   go_wp2
   go_ret
   exact ⟨rfl, rfl⟩
 ·have e : ctlL r = false := decide_eq_false (by omega)
  rw [e]
  go_enter Tryz.func98, Tryz.ntmps98
  go_wp2
  go_ret
  exact ⟨rfl, rfl⟩
end
section
open Go Go.RowKit
abbrev bs (l : List UInt8) : ByteArray := ⟨l.toArray⟩
theorem bs_size (l : List UInt8) : (bs l).size = l.length := by simp [ByteArray.size]
theorem own_set {w : World} {base : Nat} {e : TypeId} {g n cap : Nat} {xs : List Value} (h : w.ownsRow base e 1 (.slice (some ⟨g, 0, none⟩) n cap) n xs) (i : Nat) (u : Value) :
  (w.setCell ⟨g, i, none⟩ u).ownsRow base e 1 (.slice (some ⟨g, 0, none⟩) n cap) n (xs.set i u) := by
 refine ⟨by rw [List.length_set]; exact h.1, ?_⟩
 rcases h.2 with ⟨hv, _⟩ | ⟨g', cap', cur, hv, hb, hh, hnc, hcm, hcs, htk⟩
 ·cases hv
 ·injection hv with h1 h2 h3
  injection h1 with h1
  injection h1 with h1
  subst h1; subst h3
  refine .inr ⟨g, cap, cur.setIfInBounds i u, rfl, hb, heap_setCell_same w g i cur e u hh, hnc, hcm, by simpa using hcs, ?_⟩
  rw [Array.toList_setIfInBounds, ← htk]
  rw [List.take_set, Nat.mul_one]
theorem own_cell {w : World} {base : Nat} {e : TypeId} {g n cap : Nat} {xs : List Value} (h : w.ownsRow base e 1 (.slice (some ⟨g, 0, none⟩) n cap) n xs) {i : Nat} {u : Value} (hu : xs[i]? = some u) : w.cell? ⟨g, i, none⟩ = some u ∧ w.frozen? ⟨g, i, none⟩ = false := by
 have h1 := h.cells (g := g) rfl i u hu
 rw [Addr.add_lit] at h1
 refine ⟨by simpa using h1, ?_⟩
 rcases h.2 with ⟨hv, _⟩ | ⟨g', cap', cur, hv, hb, hh, _⟩
 ·cases hv
 ·injection hv with h1 h2 h3
  injection h1 with h1
  injection h1 with h1
  subst h1
  simp [World.frozen?, hh]
def strLen : Value → Nat
 | .string s => s.size
 | _ => 0
end
section
open Go
def bl (x : ByteArray) : List UInt8 := x.data.toList
theorem bs_bl (x : ByteArray) : bs (bl x) = x := by unfold bs bl; simp
theorem bl_bs (l : List UInt8) : bl (bs l) = l := by unfold bs bl; simp
theorem bl_inj {a b : ByteArray} (h : bl a = bl b) : a = b := by rw [← bs_bl a, ← bs_bl b, h]
theorem less_iff : ∀ x y : List UInt8, Op.bytesLess x y = true ↔ x < y
 | _, [] => by cases ‹List UInt8› <;> simp [Op.bytesLess]
 | [], _ :: _ => by simp [Op.bytesLess]
 | a :: x, b :: y => by
  have := less_iff x y
  simp only [Op.bytesLess, Bool.or_eq_true, decide_eq_true_eq, Bool.and_eq_true, beq_iff_eq, this, List.cons_lt_cons_iff]
def gtB (a b : ByteArray) : Bool := !(Op.bytesLess a.toList b.toList || a.toList == b.toList)
theorem lt_of_gt {a b : ByteArray} (h : gtB a b = true) : bl b < bl a := by
 unfold gtB at h
 rw [Bool.not_eq_true', Bool.or_eq_false_iff, Lib.toList_data, Lib.toList_data] at h
 obtain ⟨h1, h2⟩ := h
 have h3 : ¬ (a.data.toList < b.data.toList) := fun e => by rw [(less_iff _ _).2 e] at h1; cases h1
 have h4 : a.data.toList ≠ b.data.toList := by simpa using h2
 rcases List.le_iff_lt_or_eq.1 (List.not_lt.1 h3) with h5 | h5
 ·exact h5
 ·exact absurd h5.symm h4
theorem lt_of_ngt {a b : ByteArray} (h : gtB a b = false) (hn : a ≠ b) : bl a < bl b := by
 unfold gtB at h
 rw [Bool.not_eq_false', Bool.or_eq_true, Lib.toList_data, Lib.toList_data, less_iff] at h
 rcases h with h | h
 ·exact h
 ·exact absurd (bl_inj (eq_of_beq h)) hn
theorem tl_beq (a b : ByteArray) : (a.toList == b.toList) = decide (a = b) := by
 rw [Lib.toList_data, Lib.toList_data]
 by_cases h : a = b
 ·subst h; simp
 ·have : a.data.toList ≠ b.data.toList := fun e => h (bl_inj e)
  rw [decide_eq_false h]
  exact beq_eq_false_iff_ne.2 this
end
section
open Go
structure PartF where
 no : Nat
 at_ : Nat
 b : List UInt8
structure FileF where
 name : ByteArray
 b : List UInt8
 row : List PartF
structure FS where
 l : List FileF
 no : Nat
 ops : Nat
 fuse : Int
 fault : Int
 down : Bool
def overL (b : List UInt8) (p : PartF) : List UInt8 := if p.b = [] then b else (b ++ List.replicate (p.at_ - b.length) 0).take p.at_ ++ p.b ++ b.drop (p.at_ + p.b.length)
def FileF.all (f : FileF) : List UInt8 := f.row.foldl overL f.b
def withoutF (l : List FileF) (n : ByteArray) : List FileF := l.filter fun f => decide (f.name ≠ n)
def insF (x : FileF) : List FileF → List FileF
 | [] => [x]
 | q :: r => if gtB q.name x.name then x :: q :: r else q :: insF x r
def withF (l : List FileF) (x : FileF) : List FileF := insF x (withoutF l x.name)
def findF (l : List FileF) (n : ByteArray) : Option FileF := l.find? fun f => decide (f.name = n)
def nameF (n : ByteArray) : Bool := decide (1 ≤ n.size) && decide (n.size ≤ 20)
namespace FS
def new : FS := ⟨[], 0, 0, -1, -1, false⟩
def count (S : FS) : FS := { S with ops := S.ops + 1, down := S.down || decide (S.fuse = 0), fuse := if 0 ≤ S.fuse then S.fuse - 1 else S.fuse }
def burn (S : FS) : FS := { S with fault := if 0 ≤ S.fault then S.fault - 1 else S.fault }
def put (S : FS) (f : FileF) (x : List UInt8) : FS := { S with l := withF S.l { f with row := f.row ++ [⟨S.no, f.all.length, x⟩] }, no := S.no + 1 }
def found (S : FS) (n : ByteArray) : FileF := (findF S.l n).getD ⟨n, [], []⟩
def write (S : FS) (n : ByteArray) (x : List UInt8) : FS × Int :=
 if S.down then (S, 100) else if nameF n = false ∨ (findF S.l n).isNone ∧ 8 ≤ S.l.length then (S, 101) else if 65536 < (S.found n).all.length + x.length then (S, 103) else
 if S.fault = 0 then (S.burn.count, if S.burn.count.down then 100 else 102) else (S.burn.count.put (S.found n) x, if S.burn.count.down then 100 else 0)
def known (S : FS) (n : ByteArray) (ok : Bool) (g : FileF → List FileF) : FS × Int :=
 if S.down then (S, 100) else match findF S.l n with
 | none => (S, 101)
 | some f => if ok = false then (S, 101) else if S.count.down then (S.count, 100) else ({ S.count with l := g f }, 0)
def sync (S : FS) (n : ByteArray) : FS × Int := S.known n true fun f => withF S.l { f with b := f.all, row := [] }
def rename (S : FS) (n t : ByteArray) : FS × Int := S.known n (nameF t) fun f => withF (withoutF S.l n) { f with name := t }
def remove (S : FS) (n : ByteArray) : FS × Int := S.known n true fun _ => withoutF S.l n
def cut (S : FS) (n : ByteArray) (k : Int) : FS × Int := S.known n true fun f => withF S.l { f with b := f.all.take k.toNat, row := [] }
def read (S : FS) (n : ByteArray) : List UInt8 × Int := if S.down then ([], 100) else match findF S.l n with
 | none => ([], 101)
 | some f => (f.all, 0)
def pend (S : FS) : Nat := (S.l.map fun f => f.row.length).sum
def rank (l : List FileF) (no : Nat) : Nat := (l.map fun f => (f.row.filter fun p => decide (p.no < no)).length).sum
def kept (ks : List Bool) (i : Nat) : Bool := decide (0 < ks.length) && ks.getD (i % ks.length) false
def crash1 (l : List FileF) (ks : List Bool) (f : FileF) : FileF := ⟨f.name, (f.row.filter fun p => kept ks (rank l p.no)).foldl overL f.b, []⟩
def crash (S : FS) (ks : List Bool) : FS := ⟨S.l.map (crash1 S.l ks), S.no, S.ops, -1, -1, false⟩
def arm (S : FS) (n : Int) : FS := { S with fuse := max n (-1) }
def fault_ (S : FS) (n : Int) : FS := { S with fault := max n (-1) }
end FS
structure OpF where
 k : Int
 n : ByteArray
 t : ByteArray
 b : List UInt8
 i : Int
 ks : List Bool
def OpF.none_ : OpF := ⟨0, ⟨#[]⟩, ⟨#[]⟩, [], 0, []⟩
def doF (S : FS) (o : OpF) : FS × Int :=
 if o.k = 5 then (S.arm o.i, 0) else if o.k = 6 then (S.fault_ o.i, 0) else if o.k = 7 then (S.crash o.ks, 0) else if o.k = 8 then (S, 0) else
 if o.k = 0 then S.write o.n o.b else if o.k = 1 then S.sync o.n else if o.k = 2 then S.rename o.n o.t else if o.k = 3 then S.remove o.n else S.cut o.n o.i
def Behind : Nat → List PartF → Prop
 | _, [] => True
 | n, p :: r => p.at_ = n ∧ Behind (n + p.b.length) r
theorem over_end (b : List UInt8) (p : PartF) (h : p.at_ = b.length) : overL b p = b ++ p.b := by
 unfold overL
 split
 ·rename_i e
  rw [e, List.append_nil]
 ·rw [h, Nat.sub_self, List.replicate_zero, List.append_nil, List.take_length, List.drop_of_length_le (by omega), List.append_nil]
theorem over_far (b : List UInt8) (p : PartF) (h : b.length ≤ p.at_) : overL b p = if p.b = [] then b else b ++ List.replicate (p.at_ - b.length) 0 ++ p.b := by
 unfold overL
 split
 ·rfl
 ·rw [List.take_of_length_le (by rw [List.length_append, List.length_replicate]; omega), List.drop_of_length_le (by omega), List.append_nil]
theorem foldl_behind : ∀ (r : List PartF) (b : List UInt8), Behind b.length r → r.foldl overL b = b ++ (r.map PartF.b).flatten
 | [], b, _ => by simp
 | p :: r, b, h => by
  rw [List.foldl_cons, over_end b p h.1, foldl_behind r _ (by rw [List.length_append]; exact h.2), List.append_assoc]
  rfl
theorem behind_append : ∀ (r : List PartF) (n : Nat) (p : PartF), Behind n r → p.at_ = n + ((r.map PartF.b).flatten).length → Behind n (r ++ [p])
 | [], n, p, _, h => ⟨by simpa using h, trivial⟩
 | q :: r, n, p, h, hp => ⟨h.1, behind_append r _ p h.2 (by rw [hp]; simp; omega)⟩
theorem over_len (b : List UInt8) (p : PartF) (h : b.length ≤ p.at_) : (overL b p).length ≤ p.at_ + p.b.length := by
 rw [over_far b p h]
 split
 ·omega
 ·simp; omega
theorem over_pre (b : List UInt8) (p : PartF) (h : b.length ≤ p.at_) : b <+: overL b p := by
 rw [over_far b p h]
 split
 ·exact List.prefix_refl _
 ·rw [List.append_assoc]; exact List.prefix_append _ _
theorem foldl_kept (q : PartF → Bool) : ∀ (r : List PartF) (n : Nat) (b : List UInt8), Behind n r → b.length ≤ n → b <+: (r.filter q).foldl overL b ∧ ((r.filter q).foldl overL b).length ≤ n + ((r.map PartF.b).flatten).length
 | [], n, b, _, h => ⟨List.prefix_refl _, by simpa using h⟩
 | p :: r, n, b, hb, h => by
  have hlen : n + (((p :: r).map PartF.b).flatten).length = (n + p.b.length) + ((r.map PartF.b).flatten).length := by simp; omega
  rw [hlen]
  by_cases hq : q p = true
  ·rw [List.filter_cons_of_pos hq, List.foldl_cons]
   have hp : b.length ≤ p.at_ := by rw [hb.1]; exact h
   have h2 := over_len b p hp
   rw [hb.1] at h2
   obtain ⟨h3, h4⟩ := foldl_kept q r (n + p.b.length) (overL b p) hb.2 h2
   exact ⟨(over_pre b p hp).trans h3, h4⟩
  ·rw [List.filter_cons_of_neg hq]
   exact foldl_kept q r (n + p.b.length) b hb.2 (by omega)
def RisF (l : List FileF) : Prop := l.Pairwise fun p q => bl p.name < bl q.name
structure FS.Ok (S : FS) : Prop where
 ris : RisF S.l
 few : S.l.length ≤ 8
 nam : ∀ f ∈ S.l, nameF f.name = true
 beh : ∀ f ∈ S.l, Behind f.b.length f.row
 siz : ∀ f ∈ S.l, f.all.length ≤ 65536
 fus : -1 ≤ S.fuse
 flt : -1 ≤ S.fault
theorem RisF.without {l : List FileF} (h : RisF l) (n : ByteArray) : RisF (withoutF l n) := List.Pairwise.filter _ h
theorem mem_without {l : List FileF} {n : ByteArray} {f : FileF} : f ∈ withoutF l n ↔ f ∈ l ∧ f.name ≠ n := by
 unfold withoutF
 rw [List.mem_filter, decide_eq_true_iff]
theorem mem_insF {p x : FileF} : ∀ {l : List FileF}, x ∈ insF p l ↔ x = p ∨ x ∈ l
 | [] => by simp [insF]
 | q :: r => by
  unfold insF
  split
  ·simp
  ·rw [List.mem_cons, mem_insF, List.mem_cons]
   constructor
   ·rintro (h | h | h)
    ·exact .inr (.inl h)
    ·exact .inl h
    ·exact .inr (.inr h)
   ·rintro (h | h | h)
    ·exact .inr (.inl h)
    ·exact .inl h
    ·exact .inr (.inr h)
theorem RisF.ins {p : FileF} : ∀ {l : List FileF}, RisF l → (∀ q ∈ l, q.name ≠ p.name) → RisF (insF p l)
 | [], _, _ => List.pairwise_singleton _ _
 | q :: r, h, hn => by
  unfold insF
  obtain ⟨h1, h2⟩ := List.pairwise_cons.1 h
  by_cases hg : gtB q.name p.name = true
  ·rw [if_pos hg]
   refine List.pairwise_cons.2 ⟨fun x hx => ?_, h⟩
   have hq := lt_of_gt hg
   rcases List.mem_cons.1 hx with rfl | hx
   ·exact hq
   ·exact List.lt_trans hq (h1 x hx)
  ·rw [if_neg hg]
   refine List.pairwise_cons.2 ⟨fun x hx => ?_, RisF.ins h2 (fun x hx => hn x (List.mem_cons_of_mem _ hx))⟩
   rcases mem_insF.1 hx with rfl | hx
   ·exact lt_of_ngt (by simpa using hg) (hn q List.mem_cons_self)
   ·exact h1 x hx
theorem RisF.with_ {l : List FileF} (h : RisF l) (p : FileF) : RisF (withF l p) := (h.without p.name).ins fun _ hq => (mem_without.1 hq).2
theorem mem_with {l : List FileF} {p f : FileF} : f ∈ withF l p ↔ f = p ∨ (f ∈ l ∧ f.name ≠ p.name) := by
 unfold withF
 rw [mem_insF, mem_without]
theorem insF_len (p : FileF) : ∀ l : List FileF, (insF p l).length = l.length + 1
 | [] => rfl
 | q :: r => by
  unfold insF
  split
  ·rfl
  ·rw [List.length_cons, insF_len p r, List.length_cons]
theorem RisF.same {l : List FileF} (h : RisF l) {f g : FileF} (hf : f ∈ l) (hg : g ∈ l) (e : f.name = g.name) : f = g := by
 induction l with
 | nil => cases hf
 | cons x l ih =>
  obtain ⟨h1, h2⟩ := List.pairwise_cons.1 h
  rcases List.mem_cons.1 hf with rfl | hf'
  ·rcases List.mem_cons.1 hg with rfl | hg'
   ·rfl
   ·have := h1 g hg'
    rw [e] at this
    exact absurd this (List.lt_irrefl _)
  ·rcases List.mem_cons.1 hg with rfl | hg'
   ·have := h1 f hf'
    rw [e] at this
    exact absurd this (List.lt_irrefl _)
   ·exact ih h2 hf' hg'
theorem findF_some {l : List FileF} (h : RisF l) {n : ByteArray} {f : FileF} : findF l n = some f ↔ f ∈ l ∧ f.name = n := by
 unfold findF
 constructor
 ·intro e
  exact ⟨List.mem_of_find?_eq_some e, of_decide_eq_true (List.find?_some (p := fun f : FileF => decide (f.name = n)) e)⟩
 ·rintro ⟨h1, h2⟩
  cases hf : l.find? fun f => decide (f.name = n) with
  | none => exact absurd (decide_eq_true h2) (by simpa using List.find?_eq_none.1 hf f h1)
  | some g =>
   rw [h.same (List.mem_of_find?_eq_some hf) h1 ((of_decide_eq_true (List.find?_some (p := fun f : FileF => decide (f.name = n)) hf)).trans h2.symm)]
theorem findF_none {l : List FileF} {n : ByteArray} : findF l n = none ↔ ∀ f ∈ l, f.name ≠ n := by
 unfold findF
 rw [List.find?_eq_none]
 simp
theorem without_len_le (l : List FileF) (n : ByteArray) : (withoutF l n).length ≤ l.length := List.length_filter_le _ _
theorem without_len_lt {l : List FileF} {f : FileF} (h : f ∈ l) : (withoutF l f.name).length < l.length := by
 unfold withoutF
 rcases Nat.lt_or_ge (l.filter fun g => decide (g.name ≠ f.name)).length l.length with h2 | h2
 ·exact h2
 ·have := List.filter_eq_self.1 (List.Sublist.eq_of_length_le List.filter_sublist h2) f h
  simp at this
theorem with_len_in {l : List FileF} {f : FileF} (h : f ∈ l) (g : FileF) (hg : g.name = f.name) : (withF l g).length ≤ l.length := by
 unfold withF
 rw [insF_len, hg]
 exact without_len_lt h
theorem with_len_le (l : List FileF) (g : FileF) : (withF l g).length ≤ l.length + 1 := by
 unfold withF
 rw [insF_len]
 have := without_len_le l g.name
 omega
theorem FS.Ok.new : FS.new.Ok := ⟨List.Pairwise.nil, Nat.zero_le _, fun _ h => (by cases h), fun _ h => (by cases h), fun _ h => (by cases h), by decide, by decide⟩
theorem FileF.all_is {f : FileF} (h : Behind f.b.length f.row) : f.all = f.b ++ (f.row.map PartF.b).flatten := foldl_behind _ _ h
theorem FS.Ok.count {S : FS} (h : S.Ok) : S.count.Ok := ⟨h.ris, h.few, h.nam, h.beh, h.siz, by have := h.fus; unfold FS.count; simp only; split <;> omega, h.flt⟩
theorem FS.Ok.burn {S : FS} (h : S.Ok) : S.burn.Ok := ⟨h.ris, h.few, h.nam, h.beh, h.siz, h.fus, by have := h.flt; unfold FS.burn; simp only; split <;> omega⟩
theorem FS.Ok.files {S : FS} (h : S.Ok) {l : List FileF} {no : Nat} {g : FileF} (hr : RisF l) (hl : l.length ≤ 8) (hm : ∀ f ∈ l, f = g ∨ f ∈ S.l) (hn : nameF g.name = true) (hb : Behind g.b.length g.row) (hs : g.all.length ≤ 65536) : FS.Ok { S with l := l, no := no } :=
 ⟨hr, hl, fun f hf => (hm f hf).elim (fun e => e ▸ hn) (h.nam f), fun f hf => (hm f hf).elim (fun e => e ▸ hb) (h.beh f), fun f hf => (hm f hf).elim (fun e => e ▸ hs) (h.siz f), h.fus, h.flt⟩
theorem FS.Ok.less {S : FS} (h : S.Ok) {l : List FileF} (hr : RisF l) (hl : l.length ≤ 8) (hm : ∀ f ∈ l, f ∈ S.l) : FS.Ok { S with l := l } :=
 ⟨hr, hl, fun f hf => h.nam f (hm f hf), fun f hf => h.beh f (hm f hf), fun f hf => h.siz f (hm f hf), h.fus, h.flt⟩
theorem FS.Ok.found {S : FS} (h : S.Ok) (n : ByteArray) : (findF S.l n = some (S.found n) ∧ S.found n ∈ S.l ∧ (S.found n).name = n) ∨ (findF S.l n = none ∧ S.found n = ⟨n, [], []⟩) := by
 unfold FS.found
 cases hf : findF S.l n with
 | none => exact .inr ⟨rfl, rfl⟩
 | some f =>
  obtain ⟨h1, h2⟩ := (findF_some h.ris).1 hf
  exact .inl ⟨rfl, h1, h2⟩
theorem FS.Ok.put {S : FS} (h : S.Ok) {n : ByteArray} (x : List UInt8) (hn : nameF n = true) (hroom : (findF S.l n).isNone → S.l.length < 8) (hx : (S.found n).all.length + x.length ≤ 65536) : (S.put (S.found n) x).Ok := by
 have hf : (S.found n).name = n ∧ Behind (S.found n).b.length (S.found n).row := by
  rcases h.found n with ⟨_, h2, h3⟩ | ⟨_, h3⟩
  ·exact ⟨h3, h.beh _ h2⟩
  ·rw [h3]; exact ⟨rfl, trivial⟩
 have hall := FileF.all_is hf.2
 have hbeh : Behind (S.found n).b.length ((S.found n).row ++ [⟨S.no, (S.found n).all.length, x⟩]) := behind_append _ _ _ hf.2 (by rw [hall]; simp)
 unfold FS.put
 refine h.files (g := { S.found n with row := (S.found n).row ++ [⟨S.no, (S.found n).all.length, x⟩] }) (h.ris.with_ _) ?_ (fun f hm => (mem_with.1 hm).imp id And.left) (by show nameF (S.found n).name = true; rw [hf.1]; exact hn) hbeh ?_
 ·rcases h.found n with ⟨_, h2, _⟩ | ⟨h2, _⟩
  ·exact Nat.le_trans (with_len_in h2 _ rfl) h.few
  ·have := hroom (by rw [h2]; rfl)
   exact Nat.le_trans (with_len_le S.l { S.found n with row := (S.found n).row ++ [⟨S.no, (S.found n).all.length, x⟩] }) (by omega)
 ·unfold FileF.all
  simp only
  rw [List.foldl_append]
  show (overL (S.found n).all _).length ≤ 65536
  rw [over_end _ _ rfl, List.length_append]
  exact hx
theorem FS.Ok.write {S : FS} (h : S.Ok) (n : ByteArray) (x : List UInt8) : (S.write n x).1.Ok := by
 unfold FS.write
 split
 ·exact h
 ·split
  ·exact h
  ·rename_i h2
   split
   ·exact h
   ·rename_i h3
    split
    ·exact h.burn.count
    ·have hb : S.burn.count.found n = S.found n := rfl
     rw [← hb]
     have hn : nameF n = true := by
      cases hq : nameF n
      ·exact absurd (.inl hq) h2
      ·rfl
     exact h.burn.count.put x hn (fun hno => Nat.lt_of_not_le fun h8 => h2 (.inr ⟨hno, h8⟩)) (by rw [hb]; omega)
theorem FS.Ok.known {S : FS} (h : S.Ok) (n : ByteArray) (ok : Bool) (g : FileF → List FileF) (hg : ∀ f, f ∈ S.l → f.name = n → ok = true → FS.Ok { S with l := g f }) : (S.known n ok g).1.Ok := by
 unfold FS.known
 split
 ·exact h
 ·split
  ·exact h
  ·rename_i f hf
   obtain ⟨h1, h2⟩ := (findF_some h.ris).1 hf
   split
   ·exact h
   ·rename_i hok
    split
    ·exact h.count
    ·exact (hg f h1 h2 (by simpa using hok)).count
theorem FS.Ok.synced {S : FS} (h : S.Ok) {f : FileF} (hf : f ∈ S.l) (b : List UInt8) (hb : b.length ≤ 65536) : FS.Ok { S with l := withF S.l { f with b := b, row := [] } } :=
 h.files (no := S.no) (g := { f with b := b, row := [] }) (h.ris.with_ _) (Nat.le_trans (with_len_in hf _ rfl) h.few) (fun _ hm => (mem_with.1 hm).imp id And.left) (h.nam f hf) trivial hb
theorem FS.Ok.sync {S : FS} (h : S.Ok) (n : ByteArray) : (S.sync n).1.Ok := h.known _ _ _ fun f hf _ _ => h.synced hf f.all (h.siz f hf)
theorem FS.Ok.cut {S : FS} (h : S.Ok) (n : ByteArray) (k : Int) : (S.cut n k).1.Ok := h.known _ _ _ fun f hf _ _ => h.synced hf _ (by rw [List.length_take]; have := h.siz f hf; omega)
theorem FS.Ok.remove {S : FS} (h : S.Ok) (n : ByteArray) : (S.remove n).1.Ok := h.known _ _ _ fun _ _ _ _ => h.less (h.ris.without n) (Nat.le_trans (without_len_le _ _) h.few) fun _ hm => (mem_without.1 hm).1
theorem FS.Ok.rename {S : FS} (h : S.Ok) (n t : ByteArray) : (S.rename n t).1.Ok := h.known _ _ _ fun f hf hn ht => by
 subst hn
 have h1 := without_len_lt hf
 have h2 := with_len_le (withoutF S.l f.name) { f with name := t }
 have h3 := h.few
 exact h.files (no := S.no) (g := { f with name := t }) ((h.ris.without f.name).with_ _) (by omega) (fun x hm => (mem_with.1 hm).imp id fun h => (mem_without.1 h.1).1) ht (h.beh f hf) (h.siz f hf)
theorem FS.Ok.crash {S : FS} (h : S.Ok) (ks : List Bool) : (S.crash ks).Ok := by
 refine ⟨?_, by show (S.l.map _).length ≤ 8; rw [List.length_map]; exact h.few, fun f hf => ?_, fun f hf => ?_, fun f hf => ?_, by show -1 ≤ (-1 : Int); omega, by show -1 ≤ (-1 : Int); omega⟩
 ·show (S.l.map _).Pairwise _
  rw [List.pairwise_map]
  exact h.ris
 all_goals
  obtain ⟨g, hg, rfl⟩ := List.mem_map.1 hf
 ·exact h.nam g hg
 ·exact trivial
 ·have h1 := (foldl_kept (fun p => FS.kept ks (FS.rank S.l p.no)) g.row g.b.length g.b (h.beh g hg) (Nat.le_refl _)).2
  have h2 := h.siz g hg
  rw [FileF.all_is (h.beh g hg), List.length_append] at h2
  show ((g.row.filter fun p => FS.kept ks (FS.rank S.l p.no)).foldl overL g.b).length ≤ 65536
  omega
theorem FS.Ok.arm {S : FS} (h : S.Ok) (n : Int) : (S.arm n).Ok := ⟨h.ris, h.few, h.nam, h.beh, h.siz, by show -1 ≤ max n (-1); omega, h.flt⟩
theorem FS.Ok.fault_ {S : FS} (h : S.Ok) (n : Int) : (S.fault_ n).Ok := ⟨h.ris, h.few, h.nam, h.beh, h.siz, h.fus, by show -1 ≤ max n (-1); omega⟩
end
section
open Go
def Surv (S : FS) (n : ByteArray) (b : List UInt8) : Prop := ∃ f, findF S.l n = some f ∧ b <+: f.b
theorem find_with_ne {l : List FileF} (h : RisF l) {x : FileF} {n : ByteArray} (hn : n ≠ x.name) : findF (withF l x) n = findF l n := by
 cases hf : findF l n with
 | none =>
  rw [findF_none] at hf ⊢
  intro f hm
  rcases mem_with.1 hm with rfl | ⟨h1, _⟩
  ·exact fun e => hn e.symm
  ·exact hf f h1
 | some g =>
  obtain ⟨h1, h2⟩ := (findF_some h).1 hf
  exact (findF_some (h.with_ x)).2 ⟨mem_with.2 (.inr ⟨h1, by rw [h2]; exact hn⟩), h2⟩
theorem find_with_eq {l : List FileF} (h : RisF l) (x : FileF) : findF (withF l x) x.name = some x := (findF_some (h.with_ x)).2 ⟨mem_with.2 (.inl rfl), rfl⟩
theorem find_without {l : List FileF} (h : RisF l) {n m : ByteArray} (hn : n ≠ m) : findF (withoutF l m) n = findF l n := by
 cases hf : findF l n with
 | none =>
  rw [findF_none] at hf ⊢
  exact fun f hm => hf f (mem_without.1 hm).1
 | some g =>
  obtain ⟨h1, h2⟩ := (findF_some h).1 hf
  exact (findF_some (h.without m)).2 ⟨mem_without.2 ⟨h1, by rw [h2]; exact hn⟩, h2⟩
theorem find_with_at {l : List FileF} (h : RisF l) (x : FileF) {n : ByteArray} (e : x.name = n) : findF (withF l x) n = some x := by
 rw [← e]
 exact find_with_eq h x
theorem find_map {l : List FileF} (g : FileF → FileF) (hg : ∀ f, (g f).name = f.name) (n : ByteArray) : findF (l.map g) n = (findF l n).map g := by
 unfold findF
 rw [List.find?_map]
 congr 1
 congr 1
 funext f
 show decide ((g f).name = n) = _
 rw [hg]
structure FS.Up (S : FS) : Prop where
 down : S.down = false
 fuse : S.fuse = -1
theorem FS.Up.count {S : FS} (h : S.Up) : S.count.Up := ⟨by unfold FS.count; simp only; rw [h.down, h.fuse]; rfl, by unfold FS.count; simp only; rw [h.fuse]; rfl⟩
theorem FS.Up.known {S : FS} (h : S.Up) (n : ByteArray) (ok : Bool) (g : FileF → List FileF) : (S.known n ok g).1.Up := by
 unfold FS.known
 have hc := h.count
 split
 ·exact h
 ·split
  ·exact h
  ·split
   ·exact h
   ·split
    ·exact hc
    ·exact ⟨hc.down, hc.fuse⟩
end
section
open Go
def tlJ : ByteArray := ⟨#[126]⟩
def otJ (n : ByteArray) : ByteArray := n ++ tlJ
theorem otJ_size (n : ByteArray) : (otJ n).size = n.size + 1 := by unfold otJ; rw [ByteArray.size_append]; rfl
theorem otJ_ne (n : ByteArray) : n ≠ otJ n := fun e => by have := congrArg ByteArray.size e; rw [otJ_size] at this; omega
def hasJ (S : FS) (n : ByteArray) : Bool := (findF S.l n).isSome
def clearJ (S : FS) (n : ByteArray) : FS × Int := if hasJ S (otJ n) then S.remove (otJ n) else (S, 0)
def openJ (S : FS) (n : ByteArray) : FS × List EnJ × Int :=
 if S.down then (S, [], 100) else if n.size < 1 ∨ 16 < n.size then (S, [], 101) else
 if (clearJ S n).2 ≠ 0 then ((clearJ S n).1, [], (clearJ S n).2) else
 if ((clearJ S n).1.read n).2 ≠ 0 then ((clearJ S n).1, [], 0) else
 if (entriesJ ((clearJ S n).1.read n).1).2 < ((clearJ S n).1.read n).1.length then
  if ((clearJ S n).1.cut n (entriesJ ((clearJ S n).1.read n).1).2).2 ≠ 0 then (((clearJ S n).1.cut n (entriesJ ((clearJ S n).1.read n).1).2).1, [], ((clearJ S n).1.cut n (entriesJ ((clearJ S n).1.read n).1).2).2)
  else (((clearJ S n).1.cut n (entriesJ ((clearJ S n).1.read n).1).2).1, (entriesJ ((clearJ S n).1.read n).1).1, 0)
 else ((clearJ S n).1, (entriesJ ((clearJ S n).1.read n).1).1, 0)
def appendJ (S : FS) (n : ByteArray) (e : EnJ) : FS × Int := if rightJ e then S.write n (recJ e) else (S, 120)
def syncJ (S : FS) (n : ByteArray) : FS × Int := if S.down = false ∧ hasJ S n = false then (S, 0) else S.sync n
def stepsJ : List (FS → FS × Int) → FS → FS × Int
 | [], S => (S, 0)
 | f :: r, S => if (f S).2 = 0 then stepsJ r (f S).1 else f S
def bodiesJ (l : List EnJ) : List (List UInt8) := if l = [] then [[]] else l.map recJ
def writesJ (n : ByteArray) (xs : List (List UInt8)) : List (FS → FS × Int) := xs.map fun x S => S.write (otJ n) x
def packJ (S : FS) (n : ByteArray) (l : List EnJ) : FS × Int := stepsJ ((fun S => clearJ S n) :: (writesJ n (bodiesJ l) ++ [fun S => S.sync (otJ n), fun S => S.rename (otJ n) n])) S
def compactJ (S : FS) (n : ByteArray) (l : List EnJ) : FS × Int :=
 if ∀ e ∈ l, rightJ e then (if (packJ S n l).2 ≠ 0 ∧ (packJ S n l).2 ≠ 100 then ((clearJ (packJ S n l).1 n).1, (packJ S n l).2) else packJ S n l) else (S, 120)
def readJs (S : FS) (n : ByteArray) : List EnJ × Int := if S.down then ([], 100) else ((entriesJ (S.read n).1).1, 0)
theorem FS.read_none {S : FS} (hd : S.down = false) {n : ByteArray} (h : findF S.l n = none) : S.read n = ([], 101) := by unfold FS.read; rw [if_neg (by rw [hd]; decide), h]
theorem FS.read_some {S : FS} (hd : S.down = false) {n : ByteArray} {f : FileF} (h : findF S.l n = some f) : S.read n = (f.all, 0) := by unfold FS.read; rw [if_neg (by rw [hd]; decide), h]
theorem FS.Up.knows {S : FS} (h : S.Up) {n : ByteArray} {f : FileF} (hf : findF S.l n = some f) (g : FileF → List FileF) : S.known n true g = ({ S.count with l := g f }, 0) := by
 unfold FS.known
 rw [if_neg (by rw [h.down]; decide), hf]
 simp only
 rw [if_neg (by decide), if_neg (by rw [h.count.down]; decide)]
theorem find_out {l : List FileF} (n : ByteArray) : findF (withoutF l n) n = none := findF_none.2 fun _ hm => (mem_without.1 hm).2
structure Clears (S : FS) (n : ByteArray) (C : FS) : Prop where
 is_ : clearJ S n = (C, 0)
 up : C.Up
 ok : C.Ok
 none_ : findF C.l (otJ n) = none
 find : findF C.l n = findF S.l n
 sub : ∀ f ∈ C.l, f ∈ S.l
theorem clears_of {S : FS} (h : S.Up) (ho : S.Ok) (n : ByteArray) : ∃ C, Clears S n C := by
 cases hf : findF S.l (otJ n) with
 | none =>
  refine ⟨S, ?_, h, ho, hf, rfl, fun _ h => h⟩
  unfold clearJ hasJ
  rw [hf]
  rfl
 | some f =>
  have e : S.remove (otJ n) = ({ S.count with l := withoutF S.l (otJ n) }, 0) := h.knows hf _
  have ho2 := ho.remove (otJ n)
  have hu2 : (S.remove (otJ n)).1.Up := h.known _ _ _
  rw [e] at ho2 hu2
  refine ⟨_, ?_, hu2, ho2, find_out _, find_without ho.ris (otJ_ne n), fun f hf => (mem_without.1 hf).1⟩
  unfold clearJ hasJ
  rw [hf]
  exact e
structure Opens (S : FS) (n : ByteArray) (D : FS) (l : List EnJ) : Prop where
 is_ : openJ S n = (D, l, 0)
 up : D.Up
 ok : D.Ok
 none_ : findF D.l (otJ n) = none
 sub : ∀ f ∈ D.l, f.name = n ∨ f ∈ S.l
 file : (findF S.l n = none ∧ findF D.l n = none ∧ l = []) ∨ ∃ f g, findF S.l n = some f ∧ findF D.l n = some g ∧ l = (entriesJ f.all).1 ∧ entriesJ g.all = (l, g.all.length) ∧ g.all = f.all.take (entriesJ f.all).2 ∧ (g = f ∨ g.row = [])
theorem opens_of {S : FS} (h : S.Up) (ho : S.Ok) {n : ByteArray} (h1 : 1 ≤ n.size) (h2 : n.size ≤ 16) : ∃ D l, Opens S n D l := by
 obtain ⟨C, hc⟩ := clears_of h ho n
 have e0 : ∀ (x : FS × List EnJ × Int), openJ S n = x ↔ (if ((clearJ S n).1.read n).2 ≠ 0 then ((clearJ S n).1, [], (0 : Int)) else
   if (entriesJ ((clearJ S n).1.read n).1).2 < ((clearJ S n).1.read n).1.length then
    if ((clearJ S n).1.cut n (entriesJ ((clearJ S n).1.read n).1).2).2 ≠ 0 then (((clearJ S n).1.cut n (entriesJ ((clearJ S n).1.read n).1).2).1, [], ((clearJ S n).1.cut n (entriesJ ((clearJ S n).1.read n).1).2).2)
    else (((clearJ S n).1.cut n (entriesJ ((clearJ S n).1.read n).1).2).1, (entriesJ ((clearJ S n).1.read n).1).1, 0)
   else ((clearJ S n).1, (entriesJ ((clearJ S n).1.read n).1).1, 0)) = x := fun x => by
  unfold openJ
  rw [if_neg (by rw [h.down]; decide), if_neg (by omega), if_neg (by rw [hc.is_]; exact fun h => h rfl)]
 rw [hc.is_] at e0
 simp only at e0
 cases hf : findF S.l n with
 | none =>
  have hf' : findF C.l n = none := hc.find.trans hf
  have hr := FS.read_none hc.up.down hf'
  rw [hr, if_pos (by decide)] at e0
  exact ⟨C, [], (e0 _).2 rfl, hc.up, hc.ok, hc.none_, fun f hm => .inr (hc.sub f hm), .inl ⟨hf, hf', rfl⟩⟩
 | some f =>
  have hf' : findF C.l n = some f := hc.find.trans hf
  have hr := FS.read_some hc.up.down hf'
  rw [hr, if_neg (fun h => h rfl)] at e0
  simp only at e0
  obtain ⟨i1, i2, i3, i4⟩ := entries_is f.all
  by_cases hg : (entriesJ f.all).2 < f.all.length
  ·have ek : C.cut n ((entriesJ f.all).2 : Int) = ({ C.count with l := withF C.l { f with b := f.all.take ((entriesJ f.all).2 : Int).toNat, row := [] } }, 0) := hc.up.knows hf' _
   rw [Int.toNat_natCast] at ek
   have ho2 := hc.ok.cut n ((entriesJ f.all).2 : Int)
   have hu2 : (C.cut n ((entriesJ f.all).2 : Int)).1.Up := hc.up.known _ _ _
   rw [if_pos hg, ek, if_neg (fun h => h rfl)] at e0
   rw [ek] at ho2 hu2
   have hname := ((findF_some hc.ok.ris).1 hf').2
   have hgf := find_with_at hc.ok.ris { f with b := f.all.take (entriesJ f.all).2, row := [] } hname
   have hga : (FileF.all { f with b := f.all.take (entriesJ f.all).2, row := [] }) = f.all.take (entriesJ f.all).2 := rfl
   refine ⟨_, _, (e0 _).2 rfl, hu2, ho2, ?_, fun g hm => ?_, .inr ⟨f, _, hf, hgf, rfl, ?_, hga, .inr rfl⟩⟩
   ·exact (find_with_ne hc.ok.ris (by show otJ n ≠ f.name; rw [hname]; exact (otJ_ne n).symm)).trans hc.none_
   ·rcases mem_with.1 hm with rfl | ⟨h5, _⟩
    ·exact .inl hname
    ·exact .inr (hc.sub g h5)
   ·rw [hga, entries_cut]
    refine Prod.ext rfl ?_
    show (entriesJ f.all).2 = (f.all.take (entriesJ f.all).2).length
    rw [List.length_take]
    omega
  ·rw [if_neg hg] at e0
   have he : (entriesJ f.all).2 = f.all.length := by omega
   refine ⟨C, _, (e0 _).2 rfl, hc.up, hc.ok, hc.none_, fun f hm => .inr (hc.sub f hm), .inr ⟨f, f, hf, hf', rfl, Prod.ext rfl he, ?_, .inl rfl⟩⟩
   rw [he, List.take_length]
theorem read_len {S : FS} (h : S.Ok) (n : ByteArray) : (S.read n).1.length ≤ 65536 := by
 unfold FS.read
 split
 ·exact Nat.zero_le _
 ·split
  ·exact Nat.zero_le _
  ·rename_i f hf
   exact h.siz f ((findF_some h.ris).1 hf).1
end
section
open Go
def opsJ (n : ByteArray) (l : List EnJ) : List OpF := ((bodiesJ l).map fun x => (⟨0, otJ n, ⟨#[]⟩, x, 0, []⟩ : OpF)) ++ [⟨1, otJ n, ⟨#[]⟩, [], 0, []⟩, ⟨2, otJ n, n, [], 0, []⟩]
def doesJ (os : List OpF) : List (FS → FS × Int) := os.map fun o S => doF S o
theorem stepsJ_append (f : List (FS → FS × Int)) (g : List (FS → FS × Int)) : ∀ S : FS, stepsJ (f ++ g) S = if (stepsJ f S).2 = 0 then stepsJ g (stepsJ f S).1 else stepsJ f S := by
 induction f with
 | nil => intro S; rfl
 | cons x r ih =>
  intro S
  have e1 : stepsJ ((x :: r) ++ g) S = if (x S).2 = 0 then stepsJ (r ++ g) (x S).1 else x S := rfl
  have e2 : stepsJ (x :: r) S = if (x S).2 = 0 then stepsJ r (x S).1 else x S := rfl
  rw [e1, e2]
  by_cases h : (x S).2 = 0
  ·rw [if_pos h, if_pos h]; exact ih _
  ·rw [if_neg h, if_neg h, if_neg h]
theorem stepsJ_snoc (f : List (FS → FS × Int)) (g : FS → FS × Int) (S : FS) (h : (stepsJ f S).2 = 0) : stepsJ (f ++ [g]) S = if (g (stepsJ f S).1).2 = 0 then ((g (stepsJ f S).1).1, 0) else g (stepsJ f S).1 := by
 rw [stepsJ_append, if_pos h]
 rfl
theorem stepsJ_is (f : List (FS → FS × Int)) (g : FS → FS × Int) (S : FS) (h : (stepsJ f S).2 = 0) : stepsJ (f ++ [g]) S = g (stepsJ f S).1 := by
 rw [stepsJ_snoc f g S h]
 split
 ·rename_i h2
  exact Prod.ext rfl h2.symm
 ·rfl
theorem stepsJ_stop (f : List (FS → FS × Int)) (g : List (FS → FS × Int)) (S : FS) (h : (stepsJ f S).2 ≠ 0) : stepsJ (f ++ g) S = stepsJ f S := by
 rw [stepsJ_append, if_neg h]
end
section
open Go
def remJ (S : FS) (n : ByteArray) : FS × Int := ((S.remove (otJ n)).1, if (S.remove (otJ n)).2 = 101 then 0 else (S.remove (otJ n)).2)
theorem remJ_clear {S : FS} (hd : S.down = false) (n : ByteArray) : remJ S n = clearJ S n := by
 unfold remJ clearJ hasJ FS.remove FS.known
 rw [if_neg (by rw [hd]; decide)]
 cases hf : findF S.l (otJ n) with
 | none => rfl
 | some f =>
  by_cases hc : S.count.down = true
  ·simp [hc]
  ·simp [hc]
theorem remJ_down {S : FS} (hd : S.down = true) (n : ByteArray) : remJ S n = (S, 100) := by
 unfold remJ FS.remove FS.known
 rw [if_pos hd]
 rfl
theorem known_down {S : FS} {n : ByteArray} {ok : Bool} {g : FileF → List FileF} (h : (S.known n ok g).1.down = true) : (S.known n ok g).2 = 100 := by
 unfold FS.known at *
 split at h
 ·rename_i h1; rw [if_pos h1]
 ·rename_i h1
  rw [if_neg h1]
  split at h
  ·exact absurd h h1
  ·split at h
   ·exact absurd h h1
   ·split at h
    ·rename_i h2 h3; rw [if_neg h2, if_pos h3]
    ·rename_i h2; exact absurd h h2
theorem write_down {S : FS} {n : ByteArray} {x : List UInt8} (h : (S.write n x).1.down = true) : (S.write n x).2 = 100 := by
 unfold FS.write at *
 split at h
 ·rename_i h1; rw [if_pos h1]
 ·rename_i h1
  rw [if_neg h1]
  split at h
  ·exact absurd h h1
  ·rename_i h2
   rw [if_neg h2]
   split at h
   ·exact absurd h h1
   ·rename_i h3
    rw [if_neg h3]
    split at h
    ·rename_i h4; rw [if_pos h4]; exact if_pos h
    ·rename_i h4; rw [if_neg h4]; exact if_pos h
theorem clear_down {S : FS} {n : ByteArray} (hd : S.down = false) (h : (clearJ S n).1.down = true) : (clearJ S n).2 = 100 := by
 unfold clearJ at *
 split at h
 ·rename_i h1; rw [if_pos h1]; exact known_down h
 ·rw [hd] at h; cases h
def TellsD (f : FS → FS × Int) : Prop := ∀ S : FS, S.down = false → (f S).1.down = true → (f S).2 = 100
theorem stepsJ_up : ∀ (fs : List (FS → FS × Int)) (S : FS), (∀ f ∈ fs, TellsD f) → S.down = false → (stepsJ fs S).2 ≠ 100 → (stepsJ fs S).1.down = false
 | [], _, _, hd, _ => hd
 | f :: r, S, h, hd, hz => by
  have hf := h f List.mem_cons_self S hd
  have e : stepsJ (f :: r) S = if (f S).2 = 0 then stepsJ r (f S).1 else f S := rfl
  rw [e] at hz ⊢
  by_cases h0 : (f S).2 = 0
  ·rw [if_pos h0] at hz ⊢
   refine stepsJ_up r _ (fun g hg => h g (List.mem_cons_of_mem _ hg)) ?_ hz
   cases hd1 : (f S).1.down with
   | false => rfl
   | true => have := hf hd1; omega
  ·rw [if_neg h0] at hz ⊢
   cases hd1 : (f S).1.down with
   | false => rfl
   | true => exact absurd (hf hd1) hz
def packC (S : FS) (n : ByteArray) (l : List EnJ) : FS × Int := stepsJ [fun S => remJ S n, fun S => stepsJ (writesJ n (bodiesJ l)) S, fun S => S.sync (otJ n), fun S => S.rename (otJ n) n] S
theorem stepsJ_sub (f : List (FS → FS × Int)) (g : List (FS → FS × Int)) (S : FS) : stepsJ ((fun S => stepsJ f S) :: g) S = stepsJ (f ++ g) S := by
 rw [stepsJ_append]
 rfl
theorem packC_is (S : FS) (n : ByteArray) (l : List EnJ) (hd : S.down = false) : packC S n l = packJ S n l := by
 unfold packC packJ
 have e1 : ∀ r, stepsJ ((fun S => remJ S n) :: r) S = if (clearJ S n).2 = 0 then stepsJ r (clearJ S n).1 else clearJ S n := fun r => by
  show (if (remJ S n).2 = 0 then stepsJ r (remJ S n).1 else remJ S n) = _
  rw [remJ_clear hd]
 have e2 : ∀ r, stepsJ ((fun S => clearJ S n) :: r) S = if (clearJ S n).2 = 0 then stepsJ r (clearJ S n).1 else clearJ S n := fun r => rfl
 rw [e1, e2, stepsJ_sub]
theorem packC_down (S : FS) (n : ByteArray) (l : List EnJ) (hd : S.down = true) : packC S n l = (S, 100) ∧ packJ S n l = (S, 100) := by
 have e1 : ∀ r, stepsJ ((fun S => remJ S n) :: r) S = if (remJ S n).2 = 0 then stepsJ r (remJ S n).1 else remJ S n := fun r => rfl
 have e2 : ∀ r, stepsJ ((fun S => clearJ S n) :: r) S = if (clearJ S n).2 = 0 then stepsJ r (clearJ S n).1 else clearJ S n := fun r => rfl
 unfold packC packJ
 rw [e1, e2, remJ_down hd]
 refine ⟨rfl, ?_⟩
 have hb : bodiesJ l ≠ [] := by
  unfold bodiesJ
  split
  ·simp
  ·rename_i h; exact fun e => h (List.map_eq_nil_iff.1 e)
 unfold clearJ
 split
 ·have : S.remove (otJ n) = (S, 100) := by unfold FS.remove FS.known; rw [if_pos hd]
  rw [this]
  rfl
 ·rw [if_pos rfl]
  cases hq : bodiesJ l with
  | nil => exact absurd hq hb
  | cons x xs =>
   have hw : S.write (otJ n) x = (S, 100) := by unfold FS.write; rw [if_pos hd]
   show (if (S.write (otJ n) x).2 = 0 then _ else S.write (otJ n) x) = _
   rw [hw]
   rfl
theorem packJ_up (S : FS) (n : ByteArray) (l : List EnJ) (hd : S.down = false) (hz : (packJ S n l).2 ≠ 100) : (packJ S n l).1.down = false := by
 refine stepsJ_up _ S (fun f hf => ?_) hd hz
 rcases List.mem_cons.1 hf with rfl | hf
 ·exact fun S hd h => clear_down hd h
 ·rcases List.mem_append.1 hf with hf | hf
  ·obtain ⟨x, _, rfl⟩ := List.mem_map.1 hf
   exact fun S _ h => write_down h
  ·rcases List.mem_cons.1 hf with rfl | hf
   ·exact fun S _ h => known_down h
   ·obtain rfl := List.mem_singleton.1 hf
    exact fun S _ h => known_down h
def compactC (S : FS) (n : ByteArray) (l : List EnJ) : FS × Int :=
 if ∀ e ∈ l, rightJ e then (if (packC S n l).2 ≠ 0 ∧ (packC S n l).2 ≠ 100 then ((remJ (packC S n l).1 n).1, (packC S n l).2) else packC S n l) else (S, 120)
theorem compactC_is (S : FS) (n : ByteArray) (l : List EnJ) : compactC S n l = compactJ S n l := by
 unfold compactC compactJ
 cases hd : S.down with
 | true =>
  obtain ⟨h1, h2⟩ := packC_down S n l hd
  rw [h1, h2, if_neg (show ¬ ((100 : Int) ≠ 0 ∧ (100 : Int) ≠ 100) by decide), if_neg (show ¬ ((100 : Int) ≠ 0 ∧ (100 : Int) ≠ 100) by decide)]
 | false =>
  rw [packC_is S n l hd]
  by_cases hz : (packJ S n l).2 ≠ 0 ∧ (packJ S n l).2 ≠ 100
  ·rw [if_pos hz, if_pos hz, remJ_clear (packJ_up S n l hd hz.2)]
  ·rw [if_neg hz, if_neg hz]
theorem syncC_is (S : FS) (n : ByteArray) : ((S.sync n).1, if (S.sync n).2 = 101 then 0 else (S.sync n).2) = syncJ S n := by
 unfold syncJ hasJ FS.sync FS.known
 cases hd : S.down with
 | true => simp
 | false =>
  cases hf : findF S.l n with
  | none => simp
  | some f =>
   by_cases hc : S.count.down = true
   ·simp [hc]
   ·simp [hc]
theorem readC_is (S : FS) (n : ByteArray) : ((entriesJ (S.read n).1).1, if (S.read n).2 = 101 then (0 : Int) else (S.read n).2) = readJs S n := by
 have h0 : entriesJ [] = ([], 0) := entries_all [] (fun _ h => (by cases h))
 unfold readJs FS.read
 cases hd : S.down with
 | true => simp [h0]
 | false =>
  cases hf : findF S.l n with
  | none => simp
  | some f => simp
def openC (S : FS) (n : ByteArray) : FS × List EnJ × Int :=
 if (remJ S n).2 ≠ 0 then ((remJ S n).1, [], (remJ S n).2) else
 if ((remJ S n).1.read n).2 ≠ 0 ∧ ((remJ S n).1.read n).2 ≠ 101 then ((remJ S n).1, [], ((remJ S n).1.read n).2) else
 if (entriesJ ((remJ S n).1.read n).1).2 < ((remJ S n).1.read n).1.length then
  if ((remJ S n).1.cut n (entriesJ ((remJ S n).1.read n).1).2).2 ≠ 0 then (((remJ S n).1.cut n (entriesJ ((remJ S n).1.read n).1).2).1, [], ((remJ S n).1.cut n (entriesJ ((remJ S n).1.read n).1).2).2)
  else (((remJ S n).1.cut n (entriesJ ((remJ S n).1.read n).1).2).1, (entriesJ ((remJ S n).1.read n).1).1, 0)
 else ((remJ S n).1, (entriesJ ((remJ S n).1.read n).1).1, 0)
theorem read_code {S : FS} (hd : S.down = false) (n : ByteArray) : (S.read n).2 = 0 ∨ ((S.read n).2 = 101 ∧ (S.read n).1 = []) := by
 unfold FS.read
 rw [if_neg (by rw [hd]; decide)]
 split
 ·exact .inr ⟨rfl, rfl⟩
 ·exact .inl rfl
theorem openC_is (S : FS) (n : ByteArray) (hd : S.down = false) (h1 : 1 ≤ n.size) (h2 : n.size ≤ 16) : openC S n = openJ S n := by
 have h0 : entriesJ [] = ([], 0) := entries_all [] (fun _ h => (by cases h))
 unfold openC openJ
 rw [remJ_clear hd, if_neg (show ¬ S.down = true by rw [hd]; decide), if_neg (show ¬ (n.size < 1 ∨ 16 < n.size) by omega)]
 by_cases hc : (clearJ S n).2 = 0
 ·have hup : (clearJ S n).1.down = false := by
   cases h : (clearJ S n).1.down with
   | false => rfl
   | true => have := clear_down hd h; omega
  rcases read_code hup n with hr | ⟨hr, hb⟩
  ·simp [hc, hr]
  ·simp [hc, hr, hb, h0]
 ·simp [hc]
theorem ent_ok {b : List UInt8} {e : EnJ} (h : okF b) (hu : unpackJ (loadF b) = some e) : entriesJ b = (e :: (entriesJ (b.drop (6 + numF b))).1, 6 + numF b + (entriesJ (b.drop (6 + numF b))).2) := by
 unfold entriesJ
 rw [scan_ok h]
 simp only
 rw [entsJ, hu]
 simp only
 rw [loadF_length h.1]
theorem ent_bad {b : List UInt8} (h : okF b) (hu : unpackJ (loadF b) = none) : entriesJ b = ([], 0) := by
 unfold entriesJ
 rw [scan_ok h]
 simp only
 rw [entsJ, hu]
structure EntTo (b : List UInt8) (n : Nat) (l : List EnJ) : Prop where
 le : n ≤ b.length
 is_ : entriesJ b = (l ++ (entriesJ (b.drop n)).1, n + (entriesJ (b.drop n)).2)
 six : 6 * l.length ≤ n
theorem EntTo.zero (b : List UInt8) : EntTo b 0 [] := ⟨Nat.zero_le _, by rw [List.drop_zero, List.nil_append, Nat.zero_add], Nat.le_refl _⟩
theorem EntTo.step {b : List UInt8} {n : Nat} {l : List EnJ} {e : EnJ} (h : EntTo b n l) (ho : okF (b.drop n)) (hu : unpackJ (loadF (b.drop n)) = some e) : EntTo b (n + (6 + numF (b.drop n))) (l ++ [e]) := by
 have hf := ho.1
 have h1 := hf.1
 have h2 := hf.2.2
 rw [List.length_drop] at h1 h2
 have hl := h.le
 have hs := h.six
 refine ⟨by omega, ?_, by rw [List.length_append]; simp; omega⟩
 rw [h.is_, ent_ok ho hu, List.drop_drop]
 refine Prod.ext ?_ ?_
 ·simp
 ·simp only; omega
theorem EntTo.fin {b : List UInt8} {n : Nat} {l : List EnJ} (h : EntTo b n l) (ho : entriesJ (b.drop n) = ([], 0)) : entriesJ b = (l, n) := by
 rw [h.is_, ho]
 simp
end
section
open Go Go.RowKit
set_option maxHeartbeats 1000000 in
theorem ctl_calls (r : Int) (w : World) (hr0 : -2147483648 ≤ r) (hr1 : r ≤ 2147483647) :
  Calls Tryz.prog 120 #[.int .i32 r] w fun e w' => e = .returned (.bool (ctlL r)) ∧ w = w' := by
 by_cases h1 : r < 32
 ·have e : ctlL r = true := decide_eq_true (.inl h1)
  rw [e]
  go_enter Tryz.func120, Tryz.ntmps120
  go_wp2
  go_ret
  exact ⟨rfl, rfl⟩
 by_cases h2 : 127 ≤ r
 ·by_cases h3 : r ≤ 159
  ·have e : ctlL r = true := decide_eq_true (.inr ⟨h2, h3⟩)
   rw [e]
   go_enter Tryz.func120, Tryz.ntmps120
   go_wp2
   go_ret
   exact ⟨rfl, rfl⟩
  ·have e : ctlL r = false := decide_eq_false (by omega)
   rw [e]
   go_enter Tryz.func120, Tryz.ntmps120
   go_wp2
   go_ret
   exact ⟨rfl, rfl⟩
 ·have e : ctlL r = false := decide_eq_false (by omega)
  rw [e]
  go_enter Tryz.func120, Tryz.ntmps120
  go_wp2
  go_ret
  exact ⟨rfl, rfl⟩
end
section
open Go
theorem lost_first (q : PartF → Bool) : ∀ (r : List PartF) (m : Nat) (b : List UInt8), Behind m r → b.length + 6 ≤ m → (∀ p ∈ r, p.b ≠ []) →
  ∃ t, (r.filter q).foldl overL b = b ++ t ∧ ¬ okF t
 | [], m, b, _, _, _ => ⟨[], by simp, ok_short (b := []) (by decide)⟩
 | p :: r, m, b, h, hm, hne => by
  by_cases hq : q p = true
  ·rw [List.filter_cons_of_pos hq, List.foldl_cons]
   have hp : b.length ≤ p.at_ := by rw [h.1]; omega
   have h2 := over_len b p hp
   have h3 := over_far b p hp
   rw [if_neg (hne p List.mem_cons_self)] at h3
   rw [h.1] at h2
   obtain ⟨⟨u, hu⟩, _⟩ := foldl_kept q r (m + p.b.length) (overL b p) h.2 h2
   rw [← hu, h3]
   refine ⟨List.replicate (p.at_ - b.length) 0 ++ (p.b ++ u), by simp only [List.append_assoc], ok_zeros_n _ (by rw [h.1]; omega) _⟩
  ·rw [List.filter_cons_of_neg hq]
   exact lost_first q r (m + p.b.length) b h.2 (by omega) (fun x hx => hne x (List.mem_cons_of_mem _ hx))
theorem recJ_ne (e : EnJ) : recJ e ≠ [] := fun h => by have := congrArg List.length h; rw [recJ_length] at this; simp at this
theorem kept_first (q : PartF → Bool) : ∀ (s : List EnJ) (r : List PartF) (b : List UInt8), Behind b.length r → r.map PartF.b = s.map recJ →
  ∃ j t, j ≤ s.length ∧ (r.filter q).foldl overL b = b ++ (recsJ (s.take j) ++ t) ∧ ¬ okF t
 | [], r, b, _, hr => by
  obtain rfl : r = [] := by simpa using hr
  exact ⟨0, [], Nat.le_refl _, by simp [recsJ], ok_short (b := []) (by decide)⟩
 | e :: s, [], b, _, hr => by simp at hr
 | e :: s, p :: r, b, h, hr => by
  rw [List.map_cons, List.map_cons] at hr
  injection hr with h1 h2
  by_cases hq : q p = true
  ·rw [List.filter_cons_of_pos hq, List.foldl_cons, over_end b p h.1, h1]
   obtain ⟨j, t, k1, k2, k3⟩ := kept_first q s r (b ++ recJ e) (by rw [List.length_append, ← h1]; exact h.2) h2
   refine ⟨j + 1, t, by rw [List.length_cons]; omega, ?_, k3⟩
   rw [k2, List.take_succ_cons, recsJ_cons]
   simp only [List.append_assoc]
  ·rw [List.filter_cons_of_neg hq]
   obtain ⟨t, k1, k2⟩ := lost_first q r (b.length + p.b.length) b h.2 (by rw [h1, recJ_length]; omega) (fun x hx => by
    have : x.b ∈ s.map recJ := by rw [← h2]; exact List.mem_map_of_mem hx
    obtain ⟨y, _, hy⟩ := List.mem_map.1 this
    rw [← hy]
    exact recJ_ne y)
   exact ⟨0, t, Nat.zero_le _, by rw [k1]; simp [recsJ], k2⟩
structure KeepD (S : FS) (n : ByteArray) (a s : List EnJ) : Prop where
 ok : S.Ok
 right : ∀ e ∈ a ++ s, rightJ e
 st : (findF S.l n = none ∧ a = [] ∧ s = []) ∨ ∃ f, findF S.l n = some f ∧ f.b = recsJ a ∧ f.row.map PartF.b = s.map recJ
theorem KeepD.back {S D : FS} {n : ByteArray} {a s l : List EnJ} (h : KeepD S n a s) (ks : List Bool) (ho : Opens (S.crash ks) n D l) : ∃ j, j ≤ s.length ∧ l = a ++ s.take j := by
 have hc : findF (S.crash ks).l n = (findF S.l n).map (FS.crash1 S.l ks) := find_map (FS.crash1 S.l ks) (fun _ => rfl) n
 rcases h.st with ⟨h1, rfl, rfl⟩ | ⟨f, h1, h2, h3⟩
 ·rw [h1] at hc
  rcases ho.file with ⟨_, _, rfl⟩ | ⟨g, _, hg, _⟩
  ·exact ⟨0, Nat.le_refl _, rfl⟩
  ·rw [hc] at hg; cases hg
 ·rw [h1] at hc
  rcases ho.file with ⟨hg, _⟩ | ⟨g, _, hg, _, rfl, _⟩
  ·rw [hc] at hg; cases hg
  ·rw [hc] at hg
   injection hg with hg
   have hm := ((findF_some h.ok.ris).1 h1).1
   obtain ⟨j, t, k1, k2, k3⟩ := kept_first (fun p => FS.kept ks (FS.rank S.l p.no)) s f.row f.b (h.ok.beh f hm) h3
   have hga : g.all = recsJ a ++ (recsJ (s.take j) ++ t) := by
    rw [← hg, ← h2]
    show (FS.crash1 S.l ks f).b = _
    exact k2
   refine ⟨j, k1, ?_⟩
   rw [hga, ← List.append_assoc, ← recsJ_append, entries_recs _ _ (fun e he => h.right e (by
    rcases List.mem_append.1 he with he | he
    ·exact List.mem_append_left _ he
    ·exact List.mem_append_right _ (List.mem_of_mem_take he))), entries_none k3]
   simp
theorem only_one {n : ByteArray} : ∀ {l : List FileF}, RisF l → (∀ f ∈ l, f.name = n) → l = [] ∨ ∃ f, l = [f] ∧ f.name = n
 | [], _, _ => .inl rfl
 | [f], _, h => .inr ⟨f, rfl, h f List.mem_cons_self⟩
 | f :: g :: r, hr, h => by
  have h1 := List.rel_of_pairwise_cons hr (List.mem_cons_self (a := g) (l := r))
  rw [h f List.mem_cons_self, h g (List.mem_cons_of_mem _ List.mem_cons_self)] at h1
  exact absurd h1 (List.lt_irrefl _)
structure KeepJ (S : FS) (n : ByteArray) (a s : List EnJ) : Prop extends KeepD S n a s where
 flt : S.fault = -1
 up : S.down = false
 only : ∀ f ∈ S.l, f.name = n
theorem KeepJ.pend {S : FS} {n : ByteArray} {a s : List EnJ} (h : KeepJ S n a s) : S.pend = s.length := by
 unfold FS.pend
 rcases only_one h.ok.ris h.only with h1 | ⟨f, h1, h2⟩
 ·rcases h.st with ⟨_, _, rfl⟩ | ⟨g, hg, _⟩
  ·rw [h1]; rfl
  ·rw [h1] at hg; cases hg
 ·rcases h.st with ⟨hg, _⟩ | ⟨g, hg, _, h3⟩
  ·exact absurd h2 (findF_none.1 hg f (by rw [h1]; exact List.mem_cons_self))
  ·obtain ⟨k1, _⟩ := (findF_some h.ok.ris).1 hg
   rw [h1, List.mem_singleton] at k1
   subst k1
   rw [h1]
   have := congrArg List.length h3
   rw [List.length_map, List.length_map] at this
   simp [this]
theorem KeepJ.few {S : FS} {n : ByteArray} {a s : List EnJ} (h : KeepJ S n a s) : S.l.length ≤ 1 := by
 rcases only_one h.ok.ris h.only with h1 | ⟨f, h1, _⟩
 ·rw [h1]; exact Nat.zero_le _
 ·rw [h1]; exact Nat.le_refl _
theorem KeepJ.new (n : ByteArray) (z : Int) : KeepJ (FS.new.arm z) n [] [] := ⟨⟨FS.Ok.new.arm z, fun e he => (by cases he), .inl ⟨rfl, rfl, rfl⟩⟩, rfl, rfl, fun f hf => (by cases hf)⟩
theorem write_stands {S : FS} (n : ByteArray) (x : List UInt8) (hn : nameF n = true) (hl : S.l.length < 8) (hf : S.fault = -1) (hd : S.down = false) :
  S.write n x = (S, 103) ∨ S.write n x = (S.burn.count.put (S.found n) x, if S.burn.count.down then 100 else 0) := by
 unfold FS.write
 rw [if_neg (by rw [hd]; decide), if_neg (by rw [hn]; simp; omega)]
 split
 ·exact .inl rfl
 ·rw [if_neg (by rw [hf]; decide)]
  exact .inr rfl
theorem put_l {S : FS} (f : FileF) (x : List UInt8) : (S.burn.count.put f x).l = withF S.l { f with row := f.row ++ [⟨S.no, f.all.length, x⟩] } := rfl
theorem put_flt {S : FS} (f : FileF) (x : List UInt8) (hf : S.fault = -1) : (S.burn.count.put f x).fault = -1 := by
 show (if 0 ≤ S.fault then S.fault - 1 else S.fault) = -1
 rw [hf]
 rfl
theorem KeepJ.wrote {S : FS} {n : ByteArray} {a s : List EnJ} (h : KeepJ S n a s) {e : EnJ} (he : rightJ e) (hw : S.write n (recJ e) = (S.burn.count.put (S.found n) (recJ e), if S.burn.count.down then 100 else 0)) :
  KeepD (S.burn.count.put (S.found n) (recJ e)) n a (s ++ [e]) ∧ (∀ f ∈ (S.burn.count.put (S.found n) (recJ e)).l, f.name = n) := by
 have hok := h.ok.write n (recJ e)
 rw [hw] at hok
 have hname : (S.found n).name = n := by
  rcases h.ok.found n with ⟨_, _, h3⟩ | ⟨_, h3⟩
  ·exact h3
  ·rw [h3]
 have hfd := find_with_at (n := n) h.ok.ris { S.found n with row := (S.found n).row ++ [⟨S.no, (S.found n).all.length, recJ e⟩] } hname
 refine ⟨⟨hok, fun x hx => ?_, .inr ⟨_, hfd, ?_, ?_⟩⟩, fun f hf => ?_⟩
 ·rw [← List.append_assoc] at hx
  rcases List.mem_append.1 hx with hx | hx
  ·exact h.right x hx
  ·obtain rfl := List.mem_singleton.1 hx
   exact he
 ·rcases h.st with ⟨h1, rfl, _⟩ | ⟨f, h1, h2, _⟩
  ·rcases h.ok.found n with ⟨h4, _⟩ | ⟨_, h4⟩
   ·rw [h1] at h4; cases h4
   ·show (S.found n).b = _
    rw [h4]; rfl
  ·have : S.found n = f := by unfold FS.found; rw [h1]; rfl
   show (S.found n).b = _
   rw [this]; exact h2
 ·show ((S.found n).row ++ [_]).map PartF.b = _
  rw [List.map_append, List.map_append]
  congr 1
  rcases h.st with ⟨h1, _, rfl⟩ | ⟨f, h1, _, h3⟩
  ·rcases h.ok.found n with ⟨h4, _⟩ | ⟨_, h4⟩
   ·rw [h1] at h4; cases h4
   ·rw [h4]; rfl
  ·have : S.found n = f := by unfold FS.found; rw [h1]; rfl
   rw [this]; exact h3
 ·rw [put_l] at hf
  rcases mem_with.1 hf with rfl | ⟨h5, _⟩
  ·exact hname
  ·exact h.only f h5
theorem KeepJ.append {S : FS} {n : ByteArray} {a s : List EnJ} (h : KeepJ S n a s) (hn : nameF n = true) (e : EnJ) :
  ((appendJ S n e).1 = S ∧ (appendJ S n e).2 ≠ 0 ∧ (appendJ S n e).2 ≠ 100) ∨ ((appendJ S n e).2 = 0 ∧ KeepJ (appendJ S n e).1 n a (s ++ [e])) ∨
   ((appendJ S n e).2 = 100 ∧ (appendJ S n e).1.down = true ∧ (appendJ S n e).1.pend = s.length + 1 ∧ KeepD (appendJ S n e).1 n a (s ++ [e])) := by
 unfold appendJ
 by_cases he : rightJ e
 ·rw [if_pos he]
  have hfew := h.few
  rcases write_stands n (recJ e) hn (by omega) h.flt h.up with hw | hw
  ·rw [hw]; exact .inl ⟨rfl, show (103 : Int) ≠ 0 by decide, show (103 : Int) ≠ 100 by decide⟩
  ·obtain ⟨h1, h2⟩ := h.wrote he hw
   rw [hw]
   refine .inr ?_
   cases hd : S.burn.count.down with
   | false => exact .inl ⟨rfl, h1, put_flt _ _ h.flt, hd, h2⟩
   | true =>
    refine .inr ⟨rfl, hd, ?_, h1⟩
    have h3 : KeepJ { S.burn.count.put (S.found n) (recJ e) with down := false } n a (s ++ [e]) := ⟨⟨⟨h1.ok.ris, h1.ok.few, h1.ok.nam, h1.ok.beh, h1.ok.siz, h1.ok.fus, h1.ok.flt⟩, h1.right, h1.st⟩, put_flt (S.found n) (recJ e) h.flt, rfl, h2⟩
    have := h3.pend
    rw [List.length_append] at this
    exact this
 ·rw [if_neg he]; exact .inl ⟨rfl, show (120 : Int) ≠ 0 by decide, show (120 : Int) ≠ 100 by decide⟩
theorem KeepJ.sync {S : FS} {n : ByteArray} {a s : List EnJ} (h : KeepJ S n a s) :
  ((syncJ S n).2 = 0 ∧ KeepJ (syncJ S n).1 n (a ++ s) []) ∨ ((syncJ S n).2 = 100 ∧ (syncJ S n).1.down = true ∧ KeepD (syncJ S n).1 n a s) := by
 unfold syncJ hasJ
 rcases h.st with ⟨h1, rfl, rfl⟩ | ⟨f, h1, h2, h3⟩
 ·rw [if_pos ⟨h.up, by rw [h1]; rfl⟩]
  exact .inl ⟨rfl, h⟩
 ·rw [if_neg (fun hh => by rw [h1] at hh; cases hh.2)]
  obtain ⟨hm, hname⟩ := (findF_some h.ok.ris).1 h1
  have hok := h.ok.sync n
  unfold FS.sync FS.known at hok ⊢
  rw [if_neg (by rw [h.up]; decide), h1] at hok ⊢
  simp only at hok ⊢
  rw [if_neg (by decide)] at hok ⊢
  cases hd : S.count.down with
  | true =>
   rw [hd, if_pos rfl] at hok
   rw [if_pos rfl]
   exact .inr ⟨rfl, hd, hok, h.right, .inr ⟨f, h1, h2, h3⟩⟩
  | false =>
   rw [hd, if_neg (by decide)] at hok
   rw [if_neg (by decide)]
   refine .inl ⟨rfl, ⟨hok, fun x hx => h.right x (by rwa [List.append_nil] at hx), .inr ⟨_, find_with_at h.ok.ris { f with b := f.all, row := [] } hname, ?_, rfl⟩⟩, h.flt, rfl, fun g hg => ?_⟩
   ·show f.all = _
    rw [FileF.all_is (h.ok.beh f hm), h2, h3, recsJ_append]
    rfl
   ·rcases mem_with.1 hg with rfl | ⟨h5, _⟩
    ·exact hname
    ·exact h.only g h5
structure MidJ (S : FS) (n : ByteArray) (a s : List EnJ) (xs : List (List UInt8)) : Prop extends KeepD S n a s where
 flt : S.fault = -1
 up : S.down = false
 only : ∀ f ∈ S.l, f.name = n ∨ f.name = otJ n
 other : (xs = [] ∧ findF S.l (otJ n) = none) ∨ ∃ g, findF S.l (otJ n) = some g ∧ g.b = [] ∧ g.row.map PartF.b = xs
theorem only_two {n m : ByteArray} : ∀ {l : List FileF}, RisF l → (∀ f ∈ l, f.name = n ∨ f.name = m) → l.length ≤ 2
 | [], _, _ => Nat.zero_le _
 | [_], _, _ => by simp
 | [_, _], _, _ => by simp
 | f :: g :: k :: r, hr, h => by
  have e1 : f.name ≠ g.name := fun e => by
   have h1 := List.rel_of_pairwise_cons hr (List.mem_cons_self (a := g) (l := k :: r))
   rw [e] at h1
   exact List.lt_irrefl _ h1
  have e2 : f.name ≠ k.name := fun e => by
   have h1 := List.rel_of_pairwise_cons hr (List.mem_cons_of_mem g (List.mem_cons_self (a := k) (l := r)))
   rw [e] at h1
   exact List.lt_irrefl _ h1
  have e3 : g.name ≠ k.name := fun e => by
   have h1 := List.rel_of_pairwise_cons (List.Pairwise.of_cons hr) (List.mem_cons_self (a := k) (l := r))
   rw [e] at h1
   exact List.lt_irrefl _ h1
  rcases h f (by simp) with h1 | h1 <;> rcases h g (by simp) with h2 | h2 <;> rcases h k (by simp) with h3 | h3
  ·exact absurd (h1.trans h2.symm) e1
  ·exact absurd (h1.trans h2.symm) e1
  ·exact absurd (h1.trans h3.symm) e2
  ·exact absurd (h2.trans h3.symm) e3
  ·exact absurd (h2.trans h3.symm) e3
  ·exact absurd (h1.trans h3.symm) e2
  ·exact absurd (h1.trans h2.symm) e1
  ·exact absurd (h1.trans h2.symm) e1
theorem KeepJ.mid {S : FS} {n : ByteArray} {a s : List EnJ} (h : KeepJ S n a s) : MidJ S n a s [] :=
 ⟨h.toKeepD, h.flt, h.up, fun f hf => .inl (h.only f hf), .inl ⟨rfl, findF_none.2 fun f hf e => otJ_ne n ((h.only f hf).symm.trans e)⟩⟩
theorem MidJ.write {S : FS} {n : ByteArray} {a s : List EnJ} {xs : List (List UInt8)} (h : MidJ S n a s xs) (hn : nameF (otJ n) = true) (x : List UInt8) :
  S.write (otJ n) x = (S, 103) ∨ ((S.write (otJ n) x).2 = 0 ∧ MidJ (S.write (otJ n) x).1 n a s (xs ++ [x])) ∨ ((S.write (otJ n) x).2 = 100 ∧ (S.write (otJ n) x).1.down = true ∧ KeepD (S.write (otJ n) x).1 n a s) := by
 have htwo := only_two h.ok.ris h.only
 rcases write_stands (otJ n) x hn (by omega) h.flt h.up with hw | hw
 ·exact .inl hw
 ·refine .inr ?_
  have hok := h.ok.write (otJ n) x
  rw [hw] at hok ⊢
  have hname : (S.found (otJ n)).name = otJ n := by
   rcases h.ok.found (otJ n) with ⟨_, _, h3⟩ | ⟨_, h3⟩
   ·exact h3
   ·rw [h3]
  have hk : KeepD (S.burn.count.put (S.found (otJ n)) x) n a s := by
   refine ⟨hok, h.right, ?_⟩
   rw [put_l, find_with_ne h.ok.ris (by show n ≠ (S.found (otJ n)).name; rw [hname]; exact otJ_ne n)]
   exact h.st
  have hother : ∃ g, findF (S.burn.count.put (S.found (otJ n)) x).l (otJ n) = some g ∧ g.b = [] ∧ g.row.map PartF.b = xs ++ [x] := by
   refine ⟨_, find_with_at h.ok.ris { S.found (otJ n) with row := (S.found (otJ n)).row ++ [⟨S.no, (S.found (otJ n)).all.length, x⟩] } hname, ?_, ?_⟩
   ·rcases h.other with ⟨rfl, h1⟩ | ⟨g, h1, h2, _⟩
    ·rcases h.ok.found (otJ n) with ⟨h4, _⟩ | ⟨_, h4⟩
     ·rw [h1] at h4; cases h4
     ·show (S.found (otJ n)).b = []
      rw [h4]
    ·have : S.found (otJ n) = g := by unfold FS.found; rw [h1]; rfl
     show (S.found (otJ n)).b = []
     rw [this]; exact h2
   ·show ((S.found (otJ n)).row ++ [_]).map PartF.b = _
    rw [List.map_append]
    congr 1
    rcases h.other with ⟨rfl, h1⟩ | ⟨g, h1, _, h3⟩
    ·rcases h.ok.found (otJ n) with ⟨h4, _⟩ | ⟨_, h4⟩
     ·rw [h1] at h4; cases h4
     ·rw [h4]; rfl
    ·have : S.found (otJ n) = g := by unfold FS.found; rw [h1]; rfl
     rw [this]; exact h3
  cases hd : S.burn.count.down with
  | true => exact .inr ⟨rfl, hd, hk⟩
  | false =>
   refine .inl ⟨rfl, hk, put_flt _ _ h.flt, hd, fun f hf => ?_, .inr hother⟩
   rw [put_l] at hf
   rcases mem_with.1 hf with rfl | ⟨h5, _⟩
   ·exact .inr hname
   ·exact h.only f h5
theorem MidJ.clear {S : FS} {n : ByteArray} {a s : List EnJ} {xs : List (List UInt8)} (h : MidJ S n a s xs) : KeepJ (clearJ S n).1 n a s ∨ ((clearJ S n).1.down = true ∧ KeepD (clearJ S n).1 n a s) := by
 unfold clearJ hasJ
 cases hf : findF S.l (otJ n) with
 | none =>
  refine .inl ⟨h.toKeepD, h.flt, h.up, fun f hm => ?_⟩
  rcases h.only f hm with h1 | h1
  ·exact h1
  ·exact absurd h1 (findF_none.1 hf f hm)
 | some g =>
  show KeepJ (S.remove (otJ n)).1 n a s ∨ _
  have hok := h.ok.remove (otJ n)
  rw [if_pos (show (some g : Option FileF).isSome = true from rfl)]
  unfold FS.remove FS.known at hok ⊢
  rw [if_neg (by rw [h.up]; decide), hf] at hok ⊢
  simp only at hok ⊢
  rw [if_neg (by decide)] at hok ⊢
  cases hd : S.count.down with
  | true =>
   rw [hd, if_pos rfl] at hok
   rw [if_pos rfl]
   exact .inr ⟨hd, hok, h.right, h.st⟩
  | false =>
   rw [hd, if_neg (by decide)] at hok
   rw [if_neg (by decide)]
   refine .inl ⟨⟨hok, h.right, ?_⟩, h.flt, rfl, fun f hm => ?_⟩
   ·rw [show findF (withoutF S.l (otJ n)) n = findF S.l n from find_without h.ok.ris (otJ_ne n)]
    exact h.st
   ·obtain ⟨h1, h2⟩ := mem_without.1 hm
    rcases h.only f h1 with h3 | h3
    ·exact h3
    ·exact absurd h3 h2
end
section
open Go
theorem bodies_ne (l : List EnJ) : bodiesJ l ≠ [] := by
 unfold bodiesJ
 split
 ·exact fun h => by cases h
 ·rename_i h
  exact fun e => h (by simpa using e)
theorem bodies_flat (l : List EnJ) : (bodiesJ l).flatten = recsJ l := by
 unfold bodiesJ
 split
 ·rename_i h
  rw [h]; rfl
 ·rfl
theorem MidJ.writes {n : ByteArray} {a s : List EnJ} (hn : nameF (otJ n) = true) (r : List (FS → FS × Int)) : ∀ (ys xs : List (List UInt8)) {S : FS}, MidJ S n a s xs →
  (∃ T, MidJ T n a s (xs ++ ys) ∧ stepsJ (writesJ n ys ++ r) S = stepsJ r T) ∨ (∃ T, stepsJ (writesJ n ys ++ r) S = (T, 100) ∧ T.down = true ∧ KeepD T n a s) ∨ (∃ T zs, stepsJ (writesJ n ys ++ r) S = (T, 103) ∧ MidJ T n a s zs)
 | [], xs, S, h => .inl ⟨S, by rw [List.append_nil]; exact h, rfl⟩
 | y :: ys, xs, S, h => by
  have e : stepsJ (writesJ n (y :: ys) ++ r) S = if (S.write (otJ n) y).2 = 0 then stepsJ (writesJ n ys ++ r) (S.write (otJ n) y).1 else S.write (otJ n) y := rfl
  rw [e]
  rcases h.write hn y with hw | ⟨hw, h1⟩ | ⟨hw, h1, h2⟩
  ·rw [hw, if_neg (show ¬ (103 : Int) = 0 by decide)]
   exact .inr (.inr ⟨_, _, rfl, h⟩)
  ·rw [if_pos hw]
   have := MidJ.writes hn r ys (xs ++ [y]) h1
   rw [List.append_assoc] at this
   exact this
  ·rw [if_neg (by rw [hw]; decide)]
   exact .inr (.inl ⟨_, Prod.ext rfl hw, h1, h2⟩)
theorem MidJ.fin {S : FS} {n : ByteArray} {a s : List EnJ} {xs : List (List UInt8)} (h : MidJ S n a s xs) (hn : nameF n = true) (hx : xs ≠ []) {l : List EnJ} (hl : ∀ e ∈ l, rightJ e) (hf : xs.flatten = recsJ l) :
  ((stepsJ [fun S => S.sync (otJ n), fun S => S.rename (otJ n) n] S).2 = 0 ∧ KeepJ (stepsJ [fun S => S.sync (otJ n), fun S => S.rename (otJ n) n] S).1 n l [] ∧ (findF (stepsJ [fun S => S.sync (otJ n), fun S => S.rename (otJ n) n] S).1.l n).isSome = true) ∨
   ((stepsJ [fun S => S.sync (otJ n), fun S => S.rename (otJ n) n] S).2 = 100 ∧ (stepsJ [fun S => S.sync (otJ n), fun S => S.rename (otJ n) n] S).1.down = true ∧ KeepD (stepsJ [fun S => S.sync (otJ n), fun S => S.rename (otJ n) n] S).1 n a s) := by
 have e : stepsJ [fun S => S.sync (otJ n), fun S => S.rename (otJ n) n] S = if (S.sync (otJ n)).2 = 0 then (if ((S.sync (otJ n)).1.rename (otJ n) n).2 = 0 then (((S.sync (otJ n)).1.rename (otJ n) n).1, 0) else (S.sync (otJ n)).1.rename (otJ n) n) else S.sync (otJ n) := rfl
 rw [e]
 rcases h.other with ⟨rfl, _⟩ | ⟨g, h1, h2, h3⟩
 ·exact absurd rfl hx
 obtain ⟨hm, hname⟩ := (findF_some h.ok.ris).1 h1
 have hall : g.all = recsJ l := by rw [FileF.all_is (h.ok.beh g hm), h2, h3, hf]; rfl
 have es : S.sync (otJ n) = if S.count.down then (S.count, 100) else ({ S.count with l := withF S.l { g with b := g.all, row := [] } }, 0) := by
  unfold FS.sync FS.known
  rw [if_neg (by rw [h.up]; decide), h1]
  rfl
 have hok := h.ok.sync (otJ n)
 cases hd : S.count.down with
 | true =>
  rw [hd, if_pos rfl] at es
  rw [es] at hok ⊢
  rw [if_neg (show ¬ (100 : Int) = 0 by decide)]
  exact .inr ⟨rfl, hd, hok, h.right, h.st⟩
 | false =>
  rw [hd, if_neg (by decide)] at es
  generalize hT : S.sync (otJ n) = T at hok es ⊢
  obtain ⟨T, t2⟩ := T
  injection es with es1 es2
  subst es2
  have hTl : T.l = withF S.l { g with b := g.all, row := [] } := by rw [es1]
  have hTd : T.down = false := by rw [es1]; exact hd
  have hTf : T.fault = -1 := by rw [es1]; exact h.flt
  simp only at hok ⊢
  rw [if_pos trivial]
  have hfind : findF T.l (otJ n) = some { g with b := g.all, row := [] } := by rw [hTl]; exact find_with_at h.ok.ris { g with b := g.all, row := [] } hname
  have hn1 : findF T.l n = findF S.l n := by rw [hTl]; exact find_with_ne h.ok.ris (by show n ≠ g.name; rw [hname]; exact otJ_ne n)
  have er : T.rename (otJ n) n = if T.count.down then (T.count, 100) else ({ T.count with l := withF (withoutF T.l (otJ n)) { g with b := g.all, row := [], name := n } }, 0) := by
   unfold FS.rename FS.known
   rw [if_neg (by rw [hTd]; decide), hfind]
   simp only
   rw [if_neg (by rw [hn]; decide)]
  have hok2 := hok.rename (otJ n) n
  cases hd2 : T.count.down with
  | true =>
   rw [hd2, if_pos rfl] at er
   rw [er] at hok2 ⊢
   rw [if_neg (show ¬ (100 : Int) = 0 by decide)]
   refine .inr ⟨rfl, hd2, hok2, h.right, ?_⟩
   show (findF T.l n = none ∧ _) ∨ ∃ f, findF T.l n = some f ∧ _
   rw [hn1]
   exact h.st
  | false =>
   rw [hd2, if_neg (by decide)] at er
   rw [er] at hok2 ⊢
   rw [if_pos (show (0 : Int) = 0 from rfl)]
   refine .inl ⟨rfl, ⟨⟨hok2, fun x hx => hl x (by rwa [List.append_nil] at hx), .inr ⟨_, find_with_at (hok.ris.without _) { g with b := g.all, row := [], name := n } rfl, hall, rfl⟩⟩, hTf, hd2, fun f hf2 => ?_⟩, by rw [find_with_at (hok.ris.without _) { g with b := g.all, row := [], name := n } rfl]; rfl⟩
   rcases mem_with.1 hf2 with rfl | ⟨h5, _⟩
   ·rfl
   ·obtain ⟨h6, h7⟩ := mem_without.1 h5
    rw [hTl] at h6
    rcases mem_with.1 h6 with rfl | ⟨h8, _⟩
    ·exact absurd hname h7
    ·rcases h.only f h8 with h9 | h9
     ·exact h9
     ·exact absurd h9 h7
theorem KeepJ.clears {S : FS} {n : ByteArray} {a s : List EnJ} (h : KeepJ S n a s) : clearJ S n = (S, 0) := by
 unfold clearJ hasJ
 rw [findF_none.2 fun f hf e => otJ_ne n ((h.only f hf).symm.trans e)]
 rfl
theorem KeepJ.compact {S : FS} {n : ByteArray} {a s : List EnJ} (h : KeepJ S n a s) (hn : nameF n = true) (hn2 : nameF (otJ n) = true) (l : List EnJ) :
  ((compactJ S n l).2 = 0 ∧ KeepJ (compactJ S n l).1 n l []) ∨ ((compactJ S n l).2 = 100 ∧ (compactJ S n l).1.down = true ∧ KeepD (compactJ S n l).1 n a s) ∨
   ((compactJ S n l).2 ≠ 0 ∧ (compactJ S n l).2 ≠ 100 ∧ (KeepJ (compactJ S n l).1 n a s ∨ ((compactJ S n l).1.down = true ∧ KeepD (compactJ S n l).1 n a s))) := by
 unfold compactJ
 by_cases hl : ∀ e ∈ l, rightJ e
 ·rw [if_pos hl]
  have ep : packJ S n l = stepsJ (writesJ n (bodiesJ l) ++ [fun S => S.sync (otJ n), fun S => S.rename (otJ n) n]) S := by
   show (if (clearJ S n).2 = 0 then stepsJ (writesJ n (bodiesJ l) ++ [fun S => S.sync (otJ n), fun S => S.rename (otJ n) n]) (clearJ S n).1 else clearJ S n) = _
   rw [h.clears, if_pos rfl]
  rcases h.mid.writes hn2 [fun S => S.sync (otJ n), fun S => S.rename (otJ n) n] (bodiesJ l) [] with ⟨T, h1, h2⟩ | ⟨T, h1, h2, h3⟩ | ⟨T, zs, h1, h2⟩
  ·rw [List.nil_append] at h1
   rw [ep, h2]
   rcases h1.fin hn (bodies_ne l) hl (bodies_flat l) with ⟨h3, h4, _⟩ | ⟨h3, h4⟩
   ·rw [if_neg (fun hh => hh.1 h3)]
    exact .inl ⟨h3, h4⟩
   ·rw [if_neg (fun hh => hh.2 h3)]
    exact .inr (.inl ⟨h3, h4⟩)
  ·rw [ep, h1, if_neg (fun hh => hh.2 rfl)]
   exact .inr (.inl ⟨rfl, h2, h3⟩)
  ·rw [ep, h1, if_pos ⟨show (103 : Int) ≠ 0 by decide, show (103 : Int) ≠ 100 by decide⟩]
   exact .inr (.inr ⟨show (103 : Int) ≠ 0 by decide, show (103 : Int) ≠ 100 by decide, h2.clear⟩)
 ·rw [if_neg hl]
  exact .inr (.inr ⟨show (120 : Int) ≠ 0 by decide, show (120 : Int) ≠ 100 by decide, .inl h⟩)
end
section
open Go
structure OneJ (S : FS) (n : ByteArray) (b : List UInt8) : Prop where
 up : S.Up
 flt : S.fault = -1
 ok : S.Ok
 only : ∀ f ∈ S.l, f.name = n
 file : (findF S.l n = none ∧ b = []) ∨ ∃ f, findF S.l n = some f ∧ f.all = b
theorem recJ_le {e : EnJ} (h : rightJ e) : (recJ e).length ≤ 672 := by rw [recJ_length]; have := h.2.2.1; have := h.2.2.2.2.1; omega
theorem open_new (n : ByteArray) (h1 : 1 ≤ n.size) (h2 : n.size ≤ 16) : openJ FS.new n = (FS.new, [], 0) := by
 have e : clearJ FS.new n = (FS.new, 0) := rfl
 unfold openJ
 rw [if_neg (by decide), if_neg (by omega), e]
 rw [if_neg (by decide), if_pos (by rw [FS.read_none rfl rfl]; decide)]
theorem sync_new (n : ByteArray) : syncJ FS.new n = (FS.new, 0) := rfl
def offF (S : FS) : FS := { S with fault := -1 }
theorem found_ne {S : FS} (hr : RisF S.l) {n m : ByteArray} (hne : n ≠ m) : n ≠ (S.found m).name := by
 have : (S.found m).name = m := by
  unfold FS.found
  cases hf : findF S.l m with
  | none => rfl
  | some f => exact ((findF_some hr).1 hf).2
 rw [this]
 exact hne
theorem bodies_len (l : List EnJ) : (bodiesJ l).length = max l.length 1 := by
 unfold bodiesJ
 split
 ·rename_i h; rw [h]; rfl
 ·rename_i h
  rw [List.length_map]
  have := List.length_pos_iff.2 h
  omega
theorem off_reads (S : FS) (n : ByteArray) : readJs (offF S) n = readJs S n := rfl
end
section
open Go
def hN : ByteArray := ⟨#[104]⟩
def eaJ : EnJ := ⟨0, [], [97]⟩
def ebJ : EnJ := ⟨0, [], [98]⟩
def ecJ : EnJ := ⟨0, [], [99]⟩
def exJ : EnJ := ⟨5, [47], [120]⟩
def av1 : FS := (appendJ FS.new hN eaJ).1
def av2 : FS := (syncJ av1 hN).1
def av3 : FS := (appendJ av2 hN ebJ).1
def av4 : FS := (appendJ av3 hN ecJ).1
def av5 : FS := av4.crash [false, true]
def av6 : FS := (openJ av5 hN).1
def av7 : FS := (compactJ av6 hN [exJ]).1
set_option maxRecDepth 100000
theorem av_right : rightJ eaJ ∧ rightJ ebJ ∧ rightJ ecJ ∧ rightJ exJ ∧ ¬ rightJ EnJ.none_ := by decide +kernel
theorem av_1 : (appendJ FS.new hN eaJ).2 = 0 := by decide +kernel
theorem av_2 : (syncJ av1 hN).2 = 0 := by decide +kernel
theorem av_5 : (openJ av5 hN).2 = ([eaJ], 0) := by decide +kernel
theorem av_6 : (compactJ av6 hN [exJ]).2 = 0 := by decide +kernel
theorem av_7 : readJs av7 hN = ([exJ], 0) := by decide +kernel
end
section
open Go
abbrev Bf := List UInt8 × Nat
inductive Lst where
 | none
 | kill
 | yank (f t : Nat)
deriving DecidableEq
structure LN where
 log : LS Bf
 ring : RS ByteArray
 last : Lst
def wrG (l : LS Bf) (b : Bf) (g : Int) : LS Bf := if g = 0 then (l.does b 0).brk else l.does b g
def mvL (l : LS Bf) (a : Nat) : LS Bf := (l.move (l.now.1, a)).brk
def fits (b : Bf) (p : List UInt8) : Prop := b.1.length + p.length ≤ 600
instance (b : Bf) (p : List UInt8) : Decidable (fits b p) := by unfold fits; infer_instance
def insB (b : Bf) (p : List UInt8) : Bf := (insS b.1 b.2 p, insA b.1 b.2 p)
def wordT (t : List UInt8) : Bool := decide (plainL t ≠ []) && decide (wrL (mS (plainL t ++ [32])) (mA (plainL t ++ [32]) 0) = (plainL t).length)
namespace LN
def new : LN := ⟨LS.new ([], 0) 32, RS.new 8, .none⟩
def buf (s : LN) : Bf := s.log.now
def put (s : LN) (b : Bf) (g : Int) : LN := ⟨wrG s.log b g, s.ring, .none⟩
def ins (s : LN) (t : List UInt8) (g : Int) : LN := if fits s.buf (plainL t) then s.put (insB s.buf (plainL t)) g else ⟨s.log, s.ring, .none⟩
def cut (s : LN) (f t : Nat) : LN := s.put ((cutR s.buf.1 s.buf.2 f t).1, (cutR s.buf.1 s.buf.2 f t).2.1) 0
def gone (s : LN) (f t : Nat) : List UInt8 := (cutR s.buf.1 s.buf.2 f t).2.2
def move (s : LN) (a : Nat) : LN := ⟨mvL s.log a, s.ring, .none⟩
def swap (s : LN) : LN := if (swapR s.buf.1 s.buf.2).2.2 then s.put ((swapR s.buf.1 s.buf.2).1, (swapR s.buf.1 s.buf.2).2.1) 0 else ⟨s.log, s.ring, .none⟩
def onto (ahead : Bool) (g x : ByteArray) : ByteArray := if ahead then g ++ x else x ++ g
def killed (r : RS ByteArray) (was : Lst) (ahead : Bool) (g : List UInt8) : RS ByteArray :=
 if g = [] then r else if was = .kill ∧ r.l ≠ [] then r.change (onto ahead (bs g)) else r.push (bs g)
def kill (s : LN) (f t : Nat) (ahead : Bool) : LN := ⟨(s.cut f t).log, killed s.ring s.last ahead (s.gone f t), .kill⟩
def yankAt (log : LS Bf) (r : RS ByteArray) (b : Bf) (x : ByteArray) (no : Lst) : LN :=
 if fits b (plainL (bl x)) then ⟨wrG log (insB b (plainL (bl x))) 0, r, .yank b.2 (insB b (plainL (bl x))).2⟩ else ⟨log, r, no⟩
def yank (s : LN) : LN := match s.ring.l with
 | [] => ⟨s.log, s.ring.home, .none⟩
 | x :: _ => yankAt s.log s.ring.home s.buf x .none
def pop (s : LN) : LN := match s.last with
 | .yank f t => yankAt s.log s.ring.turn ((cutR s.buf.1 s.buf.2 (backL s.buf.1 f) (backL s.buf.1 t)).1, (cutR s.buf.1 s.buf.2 (backL s.buf.1 f) (backL s.buf.1 t)).2.1) (s.ring.l.getD s.ring.turn.i ⟨#[]⟩) (.yank f t)
 | _ => ⟨s.log, s.ring, .none⟩
def undo (s : LN) : LN := ⟨s.log.undo, s.ring, .none⟩
def redo (s : LN) : LN := ⟨s.log.redo, s.ring, .none⟩
def set (s : LN) (t : List UInt8) : LN := s.put (mS t, (mS t).length) 0
def change (s : LN) (t : List UInt8) (n : Int) : LN := s.put (mS t, mA t n) 0
def canAdd (s : LN) (t : List UInt8) : Bool := decide (fits s.buf (plainL t)) && decide (plainL t ≠ [])
def add (s : LN) (t : List UInt8) : LN := if s.canAdd t then s.put (insB (s.buf.1, s.buf.1.length) (plainL t)) 0 else ⟨s.log.brk, s.ring, .none⟩
def clear (s : LN) : LN := ⟨LS.new ([], 0) 32, s.ring, .none⟩
def known (k : Int) : Bool := decide (k = 1 ∨ (3 ≤ k ∧ k ≤ 18) ∨ k = 24 ∨ k = 26)
def key (s : LN) (k : Int) (t : List UInt8) : LN :=
 if k = 1 then s.ins t (if wordT t then 1 else 0)
 else if k = 26 then s.ins t 0
 else if k = 3 then s.cut (prvL s.buf.1 s.buf.2) s.buf.2
 else if k = 4 then s.cut s.buf.2 (nxtL s.buf.1 s.buf.2)
 else if k = 24 then s.swap
 else if k = 5 then s.move (prvL s.buf.1 s.buf.2)
 else if k = 6 then s.move (nxtL s.buf.1 s.buf.2)
 else if k = 7 then s.move 0
 else if k = 8 then s.move s.buf.1.length
 else if k = 9 then s.move (wlL s.buf.1 s.buf.2)
 else if k = 10 then s.move (wrL s.buf.1 s.buf.2)
 else if k = 11 then s.kill s.buf.2 s.buf.1.length false
 else if k = 12 then s.kill 0 s.buf.2 true
 else if k = 13 then s.kill (wlL s.buf.1 s.buf.2) s.buf.2 true
 else if k = 14 then s.kill s.buf.2 (wrL s.buf.1 s.buf.2) false
 else if k = 15 then s.yank
 else if k = 16 then s.pop
 else if k = 17 then s.undo
 else if k = 18 then s.redo
 else s
def RtL (l : LS Bf) : Prop := Rt l.now.1 l.now.2 ∧ (∀ b ∈ l.back, Rt b.1 b.2) ∧ ∀ b ∈ l.forth, Rt b.1 b.2
structure Ok (s : LN) : Prop where
 log : s.log.Ok
 lim : s.log.lim = 32
 rt : RtL s.log
 ring : s.ring.Ok
 rlim : s.ring.lim = 8
end LN
def SmR (r : RS ByteArray) (B : Nat) : Prop := ∀ x ∈ r.l, x.size ≤ B
namespace LN
end LN
end
end Go.Proofs.YteafcaambnfdoaaGreatDoor
