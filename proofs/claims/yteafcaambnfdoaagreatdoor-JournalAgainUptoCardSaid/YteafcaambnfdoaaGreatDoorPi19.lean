/-
  Layer 7 and what it stands on, part 19 (FOver0 FRead0 FRank0 FileFit FileCs FileMem FileFn FOver FRead FRank).
-/
import Derived.Test.YteafcaambnfdoaaGreatDoorPi13
import Derived.Laws.Cover1
import Derived.RegionTactic
import Derived.Laws.IdiomCopy
import Derived.WalkKit
import Derived.Lib.Strings
namespace Go.Proofs.YteafcaambnfdoaaGreatDoor
section
open Go Go.RowKit
set_option maxRecDepth 100000
def outK (b : List UInt8) (p : PartF) (k : Nat) : List UInt8 := if k = 0 then b else b ++ List.replicate (p.at_ - b.length) 0 ++ p.b.take k
def padK (b : List UInt8) (p : PartF) (k : Nat) : List UInt8 := b ++ List.replicate (p.at_ - b.length) 0 ++ p.b.take k ++ [0]
theorem outK_len {b : List UInt8} {p : PartF} {k : Nat} (h : b.length ≤ p.at_) (hk : k ≤ p.b.length) : (outK b p k).length ≤ p.at_ + k := by
 unfold outK
 split
 ·omega
 ·simp; omega
theorem padK_len {b : List UInt8} {p : PartF} {k : Nat} (h : b.length ≤ p.at_) (hk : k < p.b.length) : (padK b p k).length = p.at_ + k + 1 := by
 unfold padK
 simp
 omega
theorem padK_is {b : List UInt8} {p : PartF} {k : Nat} (h : b.length ≤ p.at_) (hk : k < p.b.length) : outK b p k ++ List.replicate (p.at_ + k + 1 - (outK b p k).length) 0 = padK b p k := by
 unfold outK padK
 by_cases h0 : k = 0
 ·subst h0
  rw [if_pos rfl, List.take_zero, List.append_nil, List.append_assoc, show p.at_ + 0 + 1 - b.length = (p.at_ - b.length) + 1 by omega, List.replicate_succ']
 ·rw [if_neg h0]
  have : p.at_ + k + 1 - (b ++ List.replicate (p.at_ - b.length) 0 ++ p.b.take k).length = 1 := by simp; omega
  rw [this]
  rfl
theorem padK_set {b : List UInt8} {p : PartF} {k : Nat} (h : b.length ≤ p.at_) (hk : k < p.b.length) : (padK b p k).set (p.at_ + k) p.b[k] = outK b p (k + 1) := by
 unfold padK outK
 rw [if_neg (by omega), List.set_append_right _ _ (by simp; omega)]
 have : p.at_ + k - (b ++ List.replicate (p.at_ - b.length) 0 ++ p.b.take k).length = 0 := by simp; omega
 rw [this, List.set_cons_zero, List.take_succ_eq_append_getElem hk, List.append_assoc, List.append_assoc]
theorem outK_all {b : List UInt8} {p : PartF} (h : b.length ≤ p.at_) : outK b p p.b.length = overL b p := by
 rw [over_far b p h]
 unfold outK
 by_cases h0 : p.b = []
 ·rw [if_pos (by rw [h0]; rfl), if_pos h0]
 ·rw [if_neg (by intro e; exact h0 (List.length_eq_zero_iff.1 e)), if_neg h0, List.take_length]
theorem cells_set (l : List UInt8) (i : Nat) (x : UInt8) : (Lib.byteCells l).set i (.int .u8 (x.toNat : Int)) = Lib.byteCells (l.set i x) := by
 unfold Lib.byteCells
 rw [List.map_set]
theorem behind_at : ∀ (r : List PartF) (n k : Nat) (p : PartF), Behind n r → r[k]? = some p → p.at_ = n + (((r.take k).map PartF.b).flatten).length
 | [], _, _, _, _, h => by cases h
 | q :: r, n, 0, p, hb, h => by
  injection h with h
  subst h
  rw [hb.1]; simp
 | q :: r, n, k + 1, p, hb, h => by
  rw [behind_at r _ k p hb.2 (by simpa using h)]
  simp
  omega
theorem behind_take : ∀ (r : List PartF) (n k : Nat), Behind n r → Behind n (r.take k)
 | [], _, _, _ => by rw [List.take_nil]; trivial
 | _ :: _, _, 0, _ => trivial
 | _ :: r, _, k + 1, h => ⟨h.1, behind_take r _ k h.2⟩
theorem flat_take_le (r : List PartF) (k : Nat) : (((r.take k).map PartF.b).flatten).length ≤ ((r.map PartF.b).flatten).length := by
 conv => rhs; rw [← List.take_append_drop k r, List.map_append, List.flatten_append, List.length_append]
 omega
end
section
open Go Go.RowKit
set_option maxRecDepth 100000
structure FS.Fit (S : FS) : Prop where
 ok : S.Ok
 no : S.no ≤ 100000
 ops : S.ops ≤ 100000
 rows : ∀ f ∈ S.l, f.row.length ≤ 100000
 fuse : S.fuse ≤ 9223372036854775807
 fault : S.fault ≤ 9223372036854775807
theorem file_of {w : World} {D : Nat → Prop} {A : Option Addr} {vs : List FileV} {l : List FileF} (hr : RowT fileC w D A vs) (ha : All2 (FileR w D) vs l) {k : Nat} {f : FileF} (hk : l[k]? = some f) :
  ∃ g o v, A = some ⟨g, o, none⟩ ∧ g < w.heap.size ∧ k < vs.length ∧ FileR w D v f ∧ w.cell? ⟨g, o + k * 3, none⟩ = some (.string v.name) ∧ w.cell? ⟨g, o + k * 3 + 1, none⟩ = some (.slice v.A v.n v.c) ∧ w.cell? ⟨g, o + k * 3 + 2, none⟩ = some (.slice v.R v.rn v.rc) := by
 have hkl : k < vs.length := by rw [all2_len ha]; exact (List.getElem?_eq_some_iff.1 hk).1
 obtain ⟨g, o, v, e, hg, hv, c0, c1, c2⟩ := file_at hr hkl
 obtain ⟨f', hf', hr'⟩ := all2_get ha hv
 rw [hk] at hf'
 injection hf' with hf'
 subst hf'
 exact ⟨g, o, v, e, hg, hkl, hr', c0, c1, c2⟩
end
section
open Go Go.RowKit
set_option maxRecDepth 100000
theorem rank_take (l : List FileF) (no k : Nat) {f : FileF} (hf : l[k]? = some f) : FS.rank (l.take (k + 1)) no = FS.rank (l.take k) no + (f.row.filter fun p => decide (p.no < no)).length := by
 unfold FS.rank
 rw [List.take_add_one, hf, List.map_append, List.sum_append]
 simp
theorem filt_take (r : List PartF) (no j : Nat) {p : PartF} (hp : r[j]? = some p) : ((r.take (j + 1)).filter fun p => decide (p.no < no)).length = ((r.take j).filter fun p => decide (p.no < no)).length + (if p.no < no then 1 else 0) := by
 rw [List.take_add_one, hp, Option.toList_some, List.filter_append, List.length_append]
 by_cases h : p.no < no
 ·simp [h]
 ·simp [h]
theorem rank_le (l : List FileF) (no n : Nat) (h : ∀ f ∈ l, f.row.length ≤ n) : ∀ k, k ≤ l.length → FS.rank (l.take k) no ≤ k * n
 | 0, _ => by simp [FS.rank]
 | k + 1, hk => by
  rw [rank_take l no k (List.getElem?_eq_getElem (by omega)), Nat.succ_mul]
  have h1 := rank_le l no n h k (by omega)
  have h2 := h _ (List.getElem_mem (show k < l.length by omega))
  have h3 : ((l[k]'(by omega)).row.filter fun p => decide (p.no < no)).length ≤ (l[k]'(by omega)).row.length := List.length_filter_le _ _
  omega
end
section
open Go
structure FS.At (k : Nat) (S : FS) : Prop where
 ok : S.Ok
 no : S.no ≤ k
 ops : S.ops ≤ k
 rows : ∀ f ∈ S.l, f.row.length ≤ k
 fuse : S.fuse ≤ 9223372036854775807
 fault : S.fault ≤ 9223372036854775807
theorem FS.At.fit {k : Nat} {S : FS} (h : S.At k) (hk : k ≤ 100000) : S.Fit := ⟨h.ok, by have := h.no; omega, by have := h.ops; omega, fun f hf => by have := h.rows f hf; omega, h.fuse, h.fault⟩
theorem FS.At.new : FS.new.At 0 := ⟨FS.Ok.new, Nat.le_refl _, Nat.le_refl _, fun _ h => (by cases h), by decide, by decide⟩
theorem FS.At.mono {k m : Nat} {S : FS} (h : S.At k) (hm : k ≤ m) : S.At m := ⟨h.ok, Nat.le_trans h.no hm, Nat.le_trans h.ops hm, fun f hf => Nat.le_trans (h.rows f hf) hm, h.fuse, h.fault⟩
theorem FS.At.count {k : Nat} {S : FS} (h : S.At k) : S.count.At (k + 1) :=
 ⟨h.ok.count, Nat.le_succ_of_le h.no, Nat.succ_le_succ h.ops, fun f hf => Nat.le_succ_of_le (h.rows f hf), by have := h.fuse; unfold FS.count; simp only; split <;> omega, h.fault⟩
theorem FS.At.burn {k : Nat} {S : FS} (h : S.At k) : S.burn.At k :=
 ⟨h.ok.burn, h.no, h.ops, h.rows, h.fuse, by have := h.fault; unfold FS.burn; simp only; split <;> omega⟩
theorem FS.At.crash {k : Nat} {S : FS} (h : S.At k) (ks : List Bool) : (S.crash ks).At k := by
 refine ⟨h.ok.crash _, h.no, h.ops, fun f hf => ?_, by show (-1 : Int) ≤ _; omega, by show (-1 : Int) ≤ _; omega⟩
 obtain ⟨g, _, rfl⟩ := List.mem_map.1 hf
 exact Nat.zero_le _
theorem FS.At.write {k : Nat} {S : FS} (h : S.At k) (n : ByteArray) (x : List UInt8) : (S.write n x).1.At (k + 1) := by
 have hok := h.ok.write n x
 have hm := h.mono (Nat.le_succ k)
 unfold FS.write at hok ⊢
 split
 ·exact hm
 ·split
  ·exact hm
  ·split
   ·exact hm
   ·split
    ·exact h.burn.count
    ·rename_i h1 h2 h3 h4
     rw [if_neg h1, if_neg h2, if_neg h3, if_neg h4] at hok
     have hb := h.burn.count
     refine ⟨hok, ?_, hb.ops, fun f hf => ?_, hb.fuse, hb.fault⟩
     ·show S.no + 1 ≤ k + 1
      have := h.no
      omega
     ·rcases mem_with.1 hf with rfl | ⟨h5, _⟩
      ·show ((S.found n).row ++ [_]).length ≤ k + 1
       rw [List.length_append]
       rcases h.ok.found n with ⟨_, h6, _⟩ | ⟨_, h6⟩
       ·have := h.rows _ h6
        simp
        omega
       ·rw [h6]; simp
      ·exact hb.rows f h5
theorem FS.At.known {k : Nat} {S : FS} (h : S.At k) (n : ByteArray) (ok : Bool) (g : FileF → List FileF) (hok : (S.known n ok g).1.Ok)
  (hr : ∀ f, f ∈ S.l → ∀ x ∈ g f, x.row.length ≤ k) : (S.known n ok g).1.At (k + 1) := by
 have hm := h.mono (Nat.le_succ k)
 unfold FS.known at hok ⊢
 split
 ·exact hm
 ·rename_i h1
  rw [if_neg h1] at hok
  split
  ·exact hm
  ·rename_i f hf
   rw [hf] at hok
   simp only at hok
   split
   ·exact hm
   ·rename_i h2
    rw [if_neg h2] at hok
    split
    ·exact h.count
    ·rename_i h3
     rw [if_neg h3] at hok
     have hb := h.count
     exact ⟨hok, hb.no, hb.ops, fun x hx => Nat.le_succ_of_le (hr f ((findF_some h.ok.ris).1 hf).1 x hx), hb.fuse, hb.fault⟩
theorem FS.At.does {k : Nat} {S : FS} (h : S.At k) (o : OpF) (hi : o.i ≤ 9223372036854775807) : (doF S o).1.At (k + 1) := by
 have hm := h.mono (Nat.le_succ k)
 have hw : ∀ (f y : FileF), f ∈ S.l → y.row.length ≤ f.row.length → ∀ x ∈ withF S.l y, x.row.length ≤ k := fun f y hf hy x hx => by
  rcases mem_with.1 hx with rfl | ⟨h5, _⟩
  ·exact Nat.le_trans hy (h.rows f hf)
  ·exact h.rows x h5
 unfold doF
 repeat' split
 ·exact ⟨h.ok.arm _, hm.no, hm.ops, hm.rows, by show max o.i (-1) ≤ _; omega, hm.fault⟩
 ·exact ⟨h.ok.fault_ _, hm.no, hm.ops, hm.rows, hm.fuse, by show max o.i (-1) ≤ _; omega⟩
 ·refine ⟨h.ok.crash _, hm.no, hm.ops, fun f hf => ?_, by show (-1 : Int) ≤ _; omega, by show (-1 : Int) ≤ _; omega⟩
  obtain ⟨g, _, rfl⟩ := List.mem_map.1 hf
  exact Nat.zero_le _
 ·exact hm
 ·exact h.write _ _
 ·exact h.known _ _ _ (h.ok.sync _) fun f hf => hw f _ hf (Nat.zero_le _)
 ·refine h.known _ _ _ (h.ok.rename _ _) fun f hf x hx => ?_
  rcases mem_with.1 hx with rfl | ⟨h5, _⟩
  ·exact h.rows f hf
  ·exact h.rows x (mem_without.1 h5).1
 ·exact h.known _ _ _ (h.ok.remove _) fun f _ x hx => h.rows x (mem_without.1 hx).1
 ·exact h.known _ _ _ (h.ok.cut _ _) fun f hf => hw f _ hf (Nat.zero_le _)
def runF (S : FS) (os : List OpF) : FS := os.foldl (fun S o => (doF S o).1) S
end
section
open Go
structure CF where
 n : ByteArray
 x : List UInt8
 s : Nat
structure WrF where
 n : ByteArray
 i : Nat
 j : Nat
def cfOf (f : FileF) : CF := ⟨f.name, f.all, f.b.length⟩
def WrF.of (x : ByteArray × PartF) : WrF := ⟨x.1, x.2.at_, x.2.at_ + x.2.b.length⟩
structure RowR (ls : List FileF) (no : Nat) (rs : List (ByteArray × PartF)) : Prop where
 ris : rs.Pairwise fun a b => a.2.no < b.2.no
 lt : ∀ x ∈ rs, x.2.no < no
 is : ∀ x ∈ rs, ∃ f ∈ ls, f.name = x.1
 row : ∀ f ∈ ls, f.row = (rs.filter fun x => decide (x.1 = f.name)).map Prod.snd
def Cs (l : List FileF) (no : Nat) (fs : List CF) (ws : List WrF) : Prop := ∃ ls rs, ls.Perm l ∧ fs = ls.map cfOf ∧ ws = rs.map WrF.of ∧ RowR ls no rs
theorem perm_of_map {α β : Type} (c : α → β) {a b : List β} (h : a.Perm b) : ∀ l : List α, a = l.map c → ∃ l', l.Perm l' ∧ b = l'.map c := by
 induction h with
 | nil => intro l e; exact ⟨l, .refl _, e⟩
 | cons x _ ih =>
  intro l e
  cases l with
  | nil => cases e
  | cons y l =>
   injection e with e1 e2
   obtain ⟨l', h1, h2⟩ := ih l e2
   exact ⟨y :: l', h1.cons y, by rw [e1, h2]; rfl⟩
 | swap x y _ =>
  intro l e
  match l, e with
  | p :: q :: l, e =>
   injection e with e1 e2
   injection e2 with e2 e3
   exact ⟨q :: p :: l, .swap _ _ _, by rw [e1, e2, e3]; rfl⟩
 | trans _ _ ih1 ih2 =>
  intro l e
  obtain ⟨l1, h1, h2⟩ := ih1 l e
  obtain ⟨l2, h3, h4⟩ := ih2 l1 h2
  exact ⟨l2, h1.trans h3, h4⟩
theorem RowR.perm {ls ls' : List FileF} {no : Nat} {rs : List (ByteArray × PartF)} (h : RowR ls no rs) (p : ls.Perm ls') : RowR ls' no rs :=
 ⟨h.ris, h.lt, fun x hx => by obtain ⟨f, h1, h2⟩ := h.is x hx; exact ⟨f, p.mem_iff.1 h1, h2⟩, fun f hf => h.row f (p.mem_iff.2 hf)⟩
theorem Cs.perm {l : List FileF} {no : Nat} {fs fs' : List CF} {ws : List WrF} (h : Cs l no fs ws) (p : fs.Perm fs') : Cs l no fs' ws := by
 obtain ⟨ls, rs, h1, h2, h3, h4⟩ := h
 obtain ⟨ls', h5, h6⟩ := perm_of_map cfOf p ls h2
 exact ⟨ls', rs, h5.symm.trans h1, h6, h3, h4.perm h5⟩
theorem Cs.len {l : List FileF} {no : Nat} {fs : List CF} {ws : List WrF} (h : Cs l no fs ws) : fs.length = l.length := by
 obtain ⟨ls, rs, h1, rfl, _⟩ := h
 rw [List.length_map, h1.length_eq]
def namesOf (l : List FileF) : List ByteArray := l.map FileF.name
theorem RisF.nodup {l : List FileF} (h : RisF l) : (namesOf l).Nodup := by
 unfold namesOf List.Nodup
 rw [List.pairwise_map]
 exact List.Pairwise.imp (fun {a b} hab e => by rw [e] at hab; exact List.lt_irrefl _ hab) h
theorem Cs.nodup {l : List FileF} {no : Nat} {fs : List CF} {ws : List WrF} (h : Cs l no fs ws) (hr : RisF l) : (fs.map CF.n).Nodup := by
 obtain ⟨ls, rs, h1, rfl, _⟩ := h
 have := hr.nodup
 rw [List.map_map]
 exact ((h1.map FileF.name).nodup_iff).2 this
theorem Cs.of_some {l : List FileF} {no : Nat} {fs : List CF} {ws : List WrF} (h : Cs l no fs ws) (hr : RisF l) {n : ByteArray} {f : FileF} (hf : findF l n = some f) : ∃ r, fs.Perm (⟨n, f.all, f.b.length⟩ :: r) := by
 obtain ⟨ls, rs, h1, rfl, _⟩ := h
 obtain ⟨h2, rfl⟩ := (findF_some hr).1 hf
 have h3 := h1.mem_iff.2 h2
 obtain ⟨a, b, rfl⟩ := List.append_of_mem h3
 refine ⟨(a ++ b).map cfOf, ?_⟩
 rw [show (⟨f.name, f.all, f.b.length⟩ : CF) :: (a ++ b).map cfOf = (f :: (a ++ b)).map cfOf from rfl]
 exact List.Perm.map _ List.perm_middle
theorem Cs.of_none {l : List FileF} {no : Nat} {fs : List CF} {ws : List WrF} (h : Cs l no fs ws) {n : ByteArray} (hf : findF l n = Option.none) : ∀ c ∈ fs, c.n ≠ n := by
 obtain ⟨ls, rs, h1, rfl, _⟩ := h
 intro c hc
 obtain ⟨f, h2, rfl⟩ := List.mem_map.1 hc
 exact findF_none.1 hf f (h1.mem_iff.1 h2)
theorem insF_perm (x : FileF) : ∀ l : List FileF, (insF x l).Perm (x :: l)
 | [] => .refl _
 | q :: r => by
  unfold insF
  split
  ·exact .refl _
  ·exact ((insF_perm x r).cons q).trans (.swap _ _ _)
theorem perm_without {l ls : List FileF} {f : FileF} (p : (f :: ls).Perm l) (hr : RisF l) : (withoutF l f.name).Perm ls := by
 have hn : (namesOf (f :: ls)).Nodup := ((p.map FileF.name).nodup_iff).2 hr.nodup
 have h1 : ((f :: ls).filter fun g => decide (g.name ≠ f.name)) = ls := by
  rw [List.filter_cons_of_neg (by simp), List.filter_eq_self]
  intro g hg
  unfold namesOf at hn
  rw [List.map_cons, List.nodup_cons] at hn
  exact decide_eq_true fun e => hn.1 (by rw [← e]; exact List.mem_map_of_mem hg)
 have h2 := (p.filter fun g => decide (g.name ≠ f.name)).symm
 rw [h1] at h2
 exact h2
theorem names_ne {l ls : List FileF} {f : FileF} (p : (f :: ls).Perm l) (hr : RisF l) : ∀ g ∈ ls, g.name ≠ f.name := by
 have hn : (namesOf (f :: ls)).Nodup := ((p.map FileF.name).nodup_iff).2 hr.nodup
 unfold namesOf at hn
 rw [List.map_cons, List.nodup_cons] at hn
 intro g hg e
 exact hn.1 (by rw [← e]; exact List.mem_map_of_mem hg)
theorem withF_perm {l ls : List FileF} {f g : FileF} (p : (f :: ls).Perm l) (hr : RisF l) (hg : g.name = f.name) : (withF l g).Perm (g :: ls) := by
 unfold withF
 rw [hg]
 exact (insF_perm _ _).trans ((perm_without p hr).cons g)
theorem withF_new {l ls : List FileF} {g : FileF} (p : ls.Perm l) (hg : ∀ f ∈ l, f.name ≠ g.name) : (withF l g).Perm (g :: ls) := by
 unfold withF
 refine (insF_perm _ _).trans ?_
 have : withoutF l g.name = l := List.filter_eq_self.2 fun f hf => decide_eq_true (hg f hf)
 rw [this]
 exact p.symm.cons g
theorem filter_other {rs : List (ByteArray × PartF)} {m : ByteArray} {n : ByteArray} (h : m ≠ n) : ((rs.filter fun x => decide (x.1 ≠ n)).filter fun x => decide (x.1 = m)) = rs.filter fun x => decide (x.1 = m) := by
 rw [List.filter_filter]
 congr 1
 funext x
 by_cases e : x.1 = m
 ·simp [e, h]
 ·simp [e]
theorem filter_own (rs : List (ByteArray × PartF)) (n : ByteArray) : ((rs.filter fun x => decide (x.1 ≠ n)).filter fun x => decide (x.1 = n)) = [] := by
 rw [List.filter_filter, List.filter_eq_nil_iff]
 intro x _
 simp
theorem of_filter (rs : List (ByteArray × PartF)) (n : ByteArray) : (rs.filter fun x => decide (x.1 ≠ n)).map WrF.of = (rs.map WrF.of).filter fun x => decide (x.n ≠ n) := by
 rw [List.filter_map]
 rfl
theorem RowR.leave {ls : List FileF} {no : Nat} {rs : List (ByteArray × PartF)} {f : FileF} (h : RowR (f :: ls) no rs) (hne : ∀ g ∈ ls, g.name ≠ f.name) : RowR ls no (rs.filter fun x => decide (x.1 ≠ f.name)) := by
 refine ⟨h.ris.filter _, fun x hx => h.lt x (List.mem_filter.1 hx).1, fun x hx => ?_, fun g hg => ?_⟩
 ·obtain ⟨h1, h2⟩ := List.mem_filter.1 hx
  obtain ⟨g, h3, h4⟩ := h.is x h1
  rcases List.mem_cons.1 h3 with rfl | h3
  ·exact absurd h4.symm (of_decide_eq_true h2)
  ·exact ⟨g, h3, h4⟩
 ·rw [filter_other (hne g hg)]
  exact h.row g (List.mem_cons_of_mem _ hg)
theorem RowR.synced {ls : List FileF} {no : Nat} {rs : List (ByteArray × PartF)} {f : FileF} (h : RowR (f :: ls) no rs) (hne : ∀ g ∈ ls, g.name ≠ f.name) (y : List UInt8) : RowR ({ f with b := y, row := [] } :: ls) no (rs.filter fun x => decide (x.1 ≠ f.name)) := by
 have h1 := h.leave hne
 refine ⟨h1.ris, h1.lt, fun x hx => by obtain ⟨g, h2, h3⟩ := h1.is x hx; exact ⟨g, List.mem_cons_of_mem _ h2, h3⟩, fun g hg => ?_⟩
 rcases List.mem_cons.1 hg with rfl | hg
 ·show [] = ((rs.filter fun x => decide (x.1 ≠ f.name)).filter fun x => decide (x.1 = f.name)).map Prod.snd
  rw [filter_own]
  rfl
 ·exact h1.row g hg
section
variable {l : List FileF} {no : Nat} {fs : List CF} {ws : List WrF}
theorem Cs.head {c : CF} (h : Cs l no (c :: fs) ws) : ∃ f ls rs, (f :: ls).Perm l ∧ cfOf f = c ∧ fs = ls.map cfOf ∧ ws = rs.map WrF.of ∧ RowR (f :: ls) no rs := by
 obtain ⟨ls, rs, h1, h2, h3, h4⟩ := h
 cases ls with
 | nil => cases h2
 | cons f ls =>
  injection h2 with h5 h6
  exact ⟨f, ls, rs, h1, h5.symm, h6, h3, h4⟩
theorem Cs.synced {c : CF} (h : Cs l no (c :: fs) ws) (hr : RisF l) {f : FileF} (hf : findF l c.n = some f) (y : List UInt8) : Cs (withF l { f with b := y, row := [] }) no (⟨c.n, y, y.length⟩ :: fs) (ws.filter fun x => decide (x.n ≠ c.n)) := by
 obtain ⟨f', ls, rs, h1, rfl, rfl, rfl, h5⟩ := h.head
 have e : f = f' := hr.same ((findF_some hr).1 hf).1 (h1.mem_iff.1 List.mem_cons_self) ((findF_some hr).1 hf).2
 subst e
 exact ⟨_, _, (withF_perm (g := { f with b := y, row := [] }) h1 hr rfl).symm, rfl, (of_filter rs _).symm, h5.synced (names_ne h1 hr) y⟩
theorem Cs.removed {c : CF} (h : Cs l no (c :: fs) ws) (hr : RisF l) : Cs (withoutF l c.n) no fs (ws.filter fun x => decide (x.n ≠ c.n)) := by
 obtain ⟨f, ls, rs, h1, rfl, rfl, rfl, h5⟩ := h.head
 exact ⟨_, _, (perm_without h1 hr).symm, rfl, (of_filter rs _).symm, h5.leave (names_ne h1 hr)⟩
theorem RowR.snoc {ls : List FileF} {rs : List (ByteArray × PartF)} {f : FileF} (h : RowR (f :: ls) no rs) (hne : ∀ g ∈ ls, g.name ≠ f.name) (p : PartF) (hp : p.no = no) : RowR ({ f with row := f.row ++ [p] } :: ls) (no + 1) (rs ++ [(f.name, p)]) := by
 refine ⟨List.pairwise_append.2 ⟨h.ris, List.pairwise_singleton _ _, fun a ha b hb => ?_⟩, fun x hx => ?_, fun x hx => ?_, fun g hg => ?_⟩
 ·rw [List.mem_singleton.1 hb, hp]
  exact h.lt a ha
 ·rcases List.mem_append.1 hx with hx | hx
  ·exact Nat.lt_succ_of_lt (h.lt x hx)
  ·rw [List.mem_singleton.1 hx, hp]
   exact Nat.lt_succ_self _
 ·rcases List.mem_append.1 hx with hx | hx
  ·obtain ⟨g, h1, h2⟩ := h.is x hx
   rcases List.mem_cons.1 h1 with rfl | h1
   ·exact ⟨_, List.mem_cons_self, h2⟩
   ·exact ⟨g, List.mem_cons_of_mem _ h1, h2⟩
  ·rw [List.mem_singleton.1 hx]
   exact ⟨_, List.mem_cons_self, rfl⟩
 ·rw [List.filter_append, List.map_append]
  rcases List.mem_cons.1 hg with rfl | hg
  ·rw [← h.row f List.mem_cons_self, List.filter_cons_of_pos (by simp)]
   rfl
  ·rw [List.filter_cons_of_neg (by simpa using fun e => hne g hg e.symm), List.filter_nil, List.map_nil, List.append_nil]
   exact h.row g (List.mem_cons_of_mem _ hg)
theorem Cs.put {c : CF} (h : Cs l no (c :: fs) ws) (hr : RisF l) {f : FileF} (hf : findF l c.n = some f) (y : List UInt8) : Cs (withF l { f with row := f.row ++ [⟨no, f.all.length, y⟩] }) (no + 1) (⟨c.n, c.x ++ y, c.s⟩ :: fs) (ws ++ [⟨c.n, c.x.length, c.x.length + y.length⟩]) := by
 obtain ⟨f', ls, rs, h1, rfl, rfl, rfl, h5⟩ := h.head
 have e : f = f' := hr.same ((findF_some hr).1 hf).1 (h1.mem_iff.1 List.mem_cons_self) ((findF_some hr).1 hf).2
 subst e
 refine ⟨_, _, (withF_perm (g := { f with row := f.row ++ [⟨no, f.all.length, y⟩] }) h1 hr rfl).symm, ?_, ?_, h5.snoc (names_ne h1 hr) ⟨no, f.all.length, y⟩ rfl⟩
 ·rw [List.map_cons]
  congr 1
  unfold cfOf FileF.all
  simp only
  rw [List.foldl_append]
  show (⟨f.name, f.all ++ y, f.b.length⟩ : CF) = ⟨f.name, overL f.all _, f.b.length⟩
  rw [over_end _ _ rfl]
 ·rw [List.map_append]
  rfl
theorem Cs.put_new (h : Cs l no fs ws) {n : ByteArray} (hn : findF l n = Option.none) (y : List UInt8) : Cs (withF l ⟨n, [], [⟨no, 0, y⟩]⟩) (no + 1) (⟨n, y, 0⟩ :: fs) (ws ++ [⟨n, 0, y.length⟩]) := by
 obtain ⟨ls, rs, h1, rfl, rfl, h4⟩ := h
 have hne : ∀ g ∈ ls, g.name ≠ n := fun g hg => findF_none.1 hn g (h1.mem_iff.1 hg)
 have h5 : RowR (⟨n, [], []⟩ :: ls) no rs := ⟨h4.ris, h4.lt, fun x hx => by obtain ⟨g, h2, h3⟩ := h4.is x hx; exact ⟨g, List.mem_cons_of_mem _ h2, h3⟩, fun g hg => by
  rcases List.mem_cons.1 hg with rfl | hg
  ·show [] = (rs.filter fun x => decide (x.1 = n)).map Prod.snd
   rw [List.filter_eq_nil_iff.2]
   ·rfl
   ·intro x hx e
    obtain ⟨g, h2, h3⟩ := h4.is x hx
    exact hne g h2 (h3.trans (of_decide_eq_true e))
  ·exact h4.row g hg⟩
 refine ⟨_, _, (withF_new h1 (g := ⟨n, [], [⟨no, 0, y⟩]⟩) fun f hf => findF_none.1 hn f hf).symm, ?_, ?_, h5.snoc hne ⟨no, 0, y⟩ rfl⟩
 ·rw [List.map_cons]
  congr 1
  show (⟨n, y, 0⟩ : CF) = ⟨n, overL [] ⟨no, 0, y⟩, 0⟩
  rw [over_end _ _ rfl]
  rfl
 ·rw [List.map_append]
  show _ = rs.map WrF.of ++ [(⟨n, 0, 0 + y.length⟩ : WrF)]
  rw [Nat.zero_add]
def nameW (n t : ByteArray) (x : WrF) : WrF := if x.n = n then { x with n := t } else x
theorem Cs.renamed {c : CF} (h : Cs l no (c :: fs) ws) (hr : RisF l) {f : FileF} (hf : findF l c.n = some f) {t : ByteArray} (ht : t ≠ c.n) :
  Cs (withF (withoutF l c.n) { f with name := t }) no (⟨t, c.x, c.s⟩ :: fs.filter fun q => decide (q.n ≠ t)) ((ws.filter fun x => decide (x.n ≠ t)).map (nameW c.n t)) := by
 obtain ⟨f', ls, rs, h1, rfl, rfl, rfl, h5⟩ := h.head
 have e : f = f' := hr.same ((findF_some hr).1 hf).1 (h1.mem_iff.1 List.mem_cons_self) ((findF_some hr).1 hf).2
 subst e
 have hne := names_ne h1 hr
 have hw := perm_without h1 hr
 have ht' : t ≠ f.name := ht
 refine ⟨{ f with name := t } :: ls.filter (fun g => decide (g.name ≠ t)), (rs.filter fun x => decide (x.1 ≠ t)).map fun x => if x.1 = f.name then (t, x.2) else x, ?_, ?_, ?_, ⟨?_, fun x hx => ?_, fun x hx => ?_, fun g hg => ?_⟩⟩
 ·refine ((insF_perm _ _).trans (List.Perm.cons _ ?_)).symm
  exact hw.filter _
 ·rw [List.map_cons, List.filter_map]
  rfl
 ·rw [← of_filter, List.map_map, List.map_map]
  refine List.map_congr_left fun x _ => ?_
  show nameW f.name t (WrF.of x) = WrF.of (if x.1 = f.name then (t, x.2) else x)
  unfold nameW
  show (if x.1 = f.name then _ else _) = _
  split <;> rfl
 ·rw [List.pairwise_map]
  refine (h5.ris.filter _).imp fun {a b} hab => ?_
  have e : ∀ x : ByteArray × PartF, (if x.1 = f.name then (t, x.2) else x).2 = x.2 := fun x => by split <;> rfl
  rw [e, e]
  exact hab
 ·obtain ⟨y, hy, rfl⟩ := List.mem_map.1 hx
  have := h5.lt y (List.mem_filter.1 hy).1
  split <;> exact this
 ·obtain ⟨y, hy, rfl⟩ := List.mem_map.1 hx
  obtain ⟨h6, h7⟩ := List.mem_filter.1 hy
  split
  ·exact ⟨_, List.mem_cons_self, rfl⟩
  ·rename_i hnf
   obtain ⟨g, h8, h9⟩ := h5.is y h6
   rcases List.mem_cons.1 h8 with rfl | h8
   ·exact absurd h9.symm hnf
   ·exact ⟨g, List.mem_cons_of_mem _ (List.mem_filter.2 ⟨h8, by rw [h9]; exact h7⟩), h9⟩
 ·have key : ∀ m : ByteArray, (((rs.filter fun x => decide (x.1 ≠ t)).map fun x => if x.1 = f.name then (t, x.2) else x).filter fun x => decide (x.1 = m)).map Prod.snd
    = if m = t then (rs.filter fun x => decide (x.1 = f.name)).map Prod.snd else if m = f.name then [] else (rs.filter fun x => decide (x.1 = m)).map Prod.snd := by
   intro m
   rw [List.filter_map, List.map_map, List.filter_filter]
   have e2 : (Prod.snd ∘ fun x : ByteArray × PartF => if x.1 = f.name then (t, x.2) else x) = Prod.snd := by
    funext x
    show (if x.1 = f.name then (t, x.2) else x).2 = x.2
    split <;> rfl
   rw [e2]
   split
   ·rename_i hm
    subst hm
    congr 1
    congr 1
    funext x
    show (decide ((if x.1 = f.name then (m, x.2) else x).1 = m) && decide (x.1 ≠ m)) = decide (x.1 = f.name)
    by_cases e : x.1 = f.name
    ·simp [e, Ne.symm ht']
    ·rw [if_neg e]
     simp [e]
   ·rename_i hm
    split
    ·rename_i hm2
     rw [List.filter_eq_nil_iff.2]
     ·rfl
     ·intro x _
      show ¬ (decide ((if x.1 = f.name then (t, x.2) else x).1 = m) && decide (x.1 ≠ t)) = true
      by_cases e : x.1 = f.name
      ·rw [if_pos e]; simp [Ne.symm hm]
      ·rw [if_neg e]; simp [hm2, e]
    ·rename_i hm2
     congr 1
     congr 1
     funext x
     show (decide ((if x.1 = f.name then (t, x.2) else x).1 = m) && decide (x.1 ≠ t)) = decide (x.1 = m)
     by_cases e : x.1 = f.name
     ·rw [if_pos e, e]; simp [Ne.symm hm, Ne.symm hm2]
     ·rw [if_neg e]
      by_cases e2 : x.1 = m
      ·simp [e2, hm]
      ·simp [e2]
  rcases List.mem_cons.1 hg with rfl | hg
  ·rw [key, if_pos rfl]
   exact h5.row f List.mem_cons_self
  ·obtain ⟨h6, h7⟩ := List.mem_filter.1 hg
   rw [key, if_neg (of_decide_eq_true h7), if_neg (hne g h6)]
   exact h5.row g (List.mem_cons_of_mem _ h6)
theorem Cs.same {c : CF} (h : Cs l no (c :: fs) ws) (hr : RisF l) {f : FileF} (hf : findF l c.n = some f) : Cs (withF (withoutF l c.n) { f with name := c.n }) no (c :: fs) ws := by
 obtain ⟨f', ls, rs, h1, rfl, rfl, rfl, h5⟩ := h.head
 have e : f = f' := hr.same ((findF_some hr).1 hf).1 (h1.mem_iff.1 List.mem_cons_self) ((findF_some hr).1 hf).2
 subst e
 refine ⟨f :: ls, rs, ?_, rfl, rfl, h5⟩
 refine ((insF_perm _ _).trans (List.Perm.cons _ ?_)).symm
 have : withoutF (withoutF l f.name) f.name = withoutF l f.name := List.filter_eq_self.2 fun g hg => (List.mem_filter.1 hg).2
 show (withoutF (withoutF l f.name) f.name).Perm ls
 rw [this]
 exact perm_without h1 hr
end
theorem sum_rows (q : ByteArray × PartF → Bool) (ls : List FileF) (hn : (namesOf ls).Nodup) : ∀ rs : List (ByteArray × PartF), (∀ x ∈ rs, ∃ f ∈ ls, f.name = x.1) →
  (ls.map fun f => ((rs.filter fun x => decide (x.1 = f.name)).filter q).length).sum = (rs.filter q).length
 | [], _ => by
  simp only [List.filter_nil, List.length_nil]
  induction ls with
  | nil => rfl
  | cons f ls ih => rw [List.map_cons, List.sum_cons, ih (List.nodup_cons.1 hn).2 (fun _ h => by cases h)]
 | x :: rs, h => by
  have ih := sum_rows q ls hn rs fun y hy => h y (List.mem_cons_of_mem _ hy)
  have hone : ∀ (ls : List FileF), (namesOf ls).Nodup → (∃ f ∈ ls, f.name = x.1) → q x = true →
    (ls.map fun f => (((x :: rs).filter fun x => decide (x.1 = f.name)).filter q).length).sum = (ls.map fun f => ((rs.filter fun x => decide (x.1 = f.name)).filter q).length).sum + 1 := by
   intro ls
   induction ls with
   | nil => intro _ h; obtain ⟨f, hf, _⟩ := h; cases hf
   | cons f ls ihl =>
    intro hn hex hq
    obtain ⟨h1, h2⟩ := List.nodup_cons.1 hn
    rw [List.map_cons, List.sum_cons, List.map_cons, List.sum_cons]
    by_cases e : x.1 = f.name
    ·rw [List.filter_cons_of_pos (by simpa using e), List.filter_cons_of_pos hq, List.length_cons]
     have hrest : (ls.map fun f => (((x :: rs).filter fun x => decide (x.1 = f.name)).filter q).length) = ls.map fun f => ((rs.filter fun x => decide (x.1 = f.name)).filter q).length := by
      refine List.map_congr_left fun g hg => ?_
      rw [List.filter_cons_of_neg (by simpa using fun e2 : x.1 = g.name => h1 (by rw [← e, e2]; exact List.mem_map_of_mem hg))]
     rw [hrest]
     omega
    ·rw [List.filter_cons_of_neg (by simpa using e), ihl h2 (by
      obtain ⟨g, hg, he⟩ := hex
      rcases List.mem_cons.1 hg with rfl | hg
      ·exact absurd he.symm e
      ·exact ⟨g, hg, he⟩) hq]
     omega
  by_cases hq : q x = true
  ·rw [hone ls hn (h x List.mem_cons_self) hq, ih, List.filter_cons_of_pos hq, List.length_cons]
  ·rw [List.filter_cons_of_neg hq, ← ih]
   congr 1
   refine List.map_congr_left fun f _ => ?_
   by_cases e : x.1 = f.name
   ·rw [List.filter_cons_of_pos (by simpa using e), List.filter_cons_of_neg hq]
   ·rw [List.filter_cons_of_neg (by simpa using e)]
theorem filter_true {α : Type} (l : List α) : (l.filter fun _ => true) = l := List.filter_eq_self.2 fun _ _ => rfl
theorem Cs.pend {S : FS} {fs : List CF} {ws : List WrF} (h : Cs S.l S.no fs ws) (hr : RisF S.l) : ws.length = S.pend := by
 obtain ⟨ls, rs, h1, rfl, rfl, h4⟩ := h
 have hn : (namesOf ls).Nodup := ((h1.map FileF.name).nodup_iff).2 hr.nodup
 have h5 := sum_rows (fun _ => true) ls hn rs h4.is
 unfold FS.pend
 rw [← (h1.map fun f => f.row.length).sum_nat, List.length_map]
 rw [filter_true] at h5
 rw [← h5]
 congr 1
 refine List.map_congr_left fun f hf => ?_
 rw [filter_true, h4.row f hf, List.length_map]
theorem rank_of {l ls : List FileF} {no : Nat} {rs : List (ByteArray × PartF)} (h1 : ls.Perm l) (hr : RisF l) (h4 : RowR ls no rs) (k : Nat) : FS.rank l k = (rs.filter fun x => decide (x.2.no < k)).length := by
 have hn : (namesOf ls).Nodup := ((h1.map FileF.name).nodup_iff).2 hr.nodup
 have h5 := sum_rows (fun x => decide (x.2.no < k)) ls hn rs h4.is
 unfold FS.rank
 rw [← (h1.map fun f => (f.row.filter fun p => decide (p.no < k)).length).sum_nat, ← h5]
 congr 1
 refine List.map_congr_left fun f hf => ?_
 rw [h4.row f hf, List.filter_map, List.length_map]
 rfl
def zeroL (x : List UInt8) (i j : Nat) : List UInt8 := x.take i ++ List.replicate (j - i) 0 ++ x.drop j
def stepC (ks : List Bool) (k : Nat) (w : WrF) (c : CF) : CF := if c.n = w.n then (if FS.kept ks k = true then (if w.i < w.j then { c with s := w.j } else c) else { c with x := zeroL c.x w.i w.j }) else c
def stepsC (ks : List Bool) : Nat → List WrF → CF → CF
 | _, [], c => c
 | k, w :: ws, c => stepsC ks (k + 1) ws (stepC ks k w c)
def endC (c : CF) : CF := ⟨c.n, c.x.take c.s, c.s⟩
theorem steps_snoc (ks : List Bool) : ∀ (ws : List WrF) (k : Nat) (w : WrF) (c : CF), stepsC ks k (ws ++ [w]) c = stepC ks (k + ws.length) w (stepsC ks k ws c)
 | [], _, _, _ => rfl
 | v :: ws, k, w, c => by
  rw [List.cons_append, stepsC, steps_snoc ks ws, stepsC, List.length_cons]
  congr 1
  omega
theorem stepC_n (ks : List Bool) (k : Nat) (w : WrF) (c : CF) : (stepC ks k w c).n = c.n := by
 unfold stepC
 repeat' split
 all_goals rfl
theorem stepsC_n (ks : List Bool) : ∀ (ws : List WrF) (k : Nat) (c : CF), (stepsC ks k ws c).n = c.n
 | [], _, _ => rfl
 | w :: ws, k, c => by rw [stepsC, stepsC_n ks ws, stepC_n]
theorem steps_one (ks : List Bool) (n : ByteArray) : ∀ (rs : List (ByteArray × PartF)) (k pos : Nat) (K : List UInt8) (kep : PartF → Bool),
  (∀ i x, rs[i]? = some x → kep x.2 = FS.kept ks (k + i)) → Behind pos ((rs.filter fun x => decide (x.1 = n)).map Prod.snd) → K.length ≤ pos →
  ∃ z, z ≤ pos + (((rs.filter fun x => decide (x.1 = n)).map Prod.snd).map PartF.b).flatten.length - (((((rs.filter fun x => decide (x.1 = n)).map Prod.snd)).filter kep).foldl overL K).length ∧
   stepsC ks k (rs.map WrF.of) ⟨n, K ++ List.replicate (pos - K.length) 0 ++ (((rs.filter fun x => decide (x.1 = n)).map Prod.snd).map PartF.b).flatten, K.length⟩ =
   ⟨n, ((((rs.filter fun x => decide (x.1 = n)).map Prod.snd)).filter kep).foldl overL K ++ List.replicate z 0, (((((rs.filter fun x => decide (x.1 = n)).map Prod.snd)).filter kep).foldl overL K).length⟩
 | [], k, pos, K, kep, _, _, hK => ⟨pos - K.length, by simp, by simp [stepsC]⟩
 | x :: rs, k, pos, K, kep, hkep, hb, hK => by
  have hkep' : ∀ i y, rs[i]? = some y → kep y.2 = FS.kept ks (k + 1 + i) := fun i y hy => by
   have := hkep (i + 1) y (by simpa using hy)
   rw [this]; congr 1; omega
  have hk0 := hkep 0 x rfl
  rw [Nat.add_zero] at hk0
  by_cases e : x.1 = n
  ·rw [List.filter_cons_of_pos (by simpa using e)] at hb ⊢
   rw [List.map_cons] at hb ⊢
   obtain ⟨hat, hb2⟩ := hb
   simp only [List.map_cons, List.flatten_cons, stepsC]
   generalize hrest : ((rs.filter fun x => decide (x.1 = n)).map Prod.snd) = rest at *
   have hsn : WrF.of x = ⟨n, pos, pos + x.2.b.length⟩ := by unfold WrF.of; rw [e, hat]
   by_cases hk : FS.kept ks k = true
   ·rw [List.filter_cons_of_pos (by rw [hk0]; exact hk), List.foldl_cons]
    have hov := over_far K x.2 (by rw [hat]; exact hK)
    by_cases hbz : x.2.b = []
    ·rw [if_pos hbz] at hov
     rw [hov]
     obtain ⟨z, h1, h2⟩ := steps_one ks n rs (k + 1) pos K kep hkep' (by rw [hrest]; rw [hbz] at hb2; exact hb2) hK
     rw [hrest] at h1 h2
     refine ⟨z, by rw [hbz]; simpa using h1, ?_⟩
     rw [← h2]
     congr 1
     rw [hsn, hbz]
     unfold stepC
     rw [if_pos rfl, if_pos hk, if_neg (by simp)]
     simp
    ·rw [if_neg hbz] at hov
     have hl : (overL K x.2).length = pos + x.2.b.length := by rw [hov, hat]; simp; omega
     obtain ⟨z, h1, h2⟩ := steps_one ks n rs (k + 1) (pos + x.2.b.length) (overL K x.2) kep hkep' (by rw [hrest]; exact hb2) (by omega)
     rw [hrest] at h1 h2
     refine ⟨z, by simp only [List.length_append]; rw [← Nat.add_assoc]; exact h1, ?_⟩
     rw [← h2]
     congr 1
     rw [hsn]
     unfold stepC
     have hlt : 0 < x.2.b.length := List.length_pos_iff.2 hbz
     rw [if_pos rfl, if_pos hk, if_pos (by show pos < pos + x.2.b.length; omega), hl, Nat.sub_self, List.replicate_zero, List.append_nil, hov, hat]
     simp
   ·rw [List.filter_cons_of_neg (by rw [hk0]; exact hk)]
    obtain ⟨z, h1, h2⟩ := steps_one ks n rs (k + 1) (pos + x.2.b.length) K kep hkep' (by rw [hrest]; exact hb2) (by omega)
    rw [hrest] at h1 h2
    refine ⟨z, by simp only [List.length_append]; rw [← Nat.add_assoc]; exact h1, ?_⟩
    rw [← h2]
    congr 1
    rw [hsn]
    unfold stepC
    rw [if_pos rfl, if_neg hk]
    congr 1
    show zeroL _ pos (pos + x.2.b.length) = _
    unfold zeroL
    have hA : (K ++ List.replicate (pos - K.length) (0 : UInt8)).length = pos := by simp; omega
    have hB : (K ++ List.replicate (pos - K.length) (0 : UInt8) ++ x.2.b).length = pos + x.2.b.length := by rw [List.length_append, hA]
    rw [← List.append_assoc (K ++ List.replicate (pos - K.length) 0)]
    rw [List.drop_left' hB, List.append_assoc (K ++ List.replicate (pos - K.length) 0), List.take_left' hA]
    rw [show pos + x.2.b.length - K.length = (pos - K.length) + x.2.b.length by omega, ← List.replicate_append_replicate, Nat.add_sub_cancel_left]
    simp
  ·rw [List.filter_cons_of_neg (by simpa using e)] at hb ⊢
   obtain ⟨z, h1, h2⟩ := steps_one ks n rs (k + 1) pos K kep hkep' hb hK
   refine ⟨z, h1, ?_⟩
   rw [← h2]
   rw [List.map_cons, stepsC]
   congr 1
   unfold stepC
   rw [if_neg (show ¬ n = (WrF.of x).n from fun h => e h.symm)]
theorem filter_ris (rs : List (ByteArray × PartF)) (h : rs.Pairwise fun a b => a.2.no < b.2.no) : ∀ (i : Nat) (x : ByteArray × PartF), rs[i]? = some x → (rs.filter fun y => decide (y.2.no < x.2.no)).length = i := by
 induction rs with
 | nil => intro i x hx; simp at hx
 | cons y rs ih =>
  obtain ⟨h1, h2⟩ := List.pairwise_cons.1 h
  intro i x hx
  cases i with
  | zero =>
   rw [List.getElem?_cons_zero] at hx
   injection hx with hx
   subst hx
   rw [List.filter_eq_nil_iff.2]
   ·rfl
   ·intro z hz
    rcases List.mem_cons.1 hz with rfl | hz
    ·simp
    ·have := h1 z hz
     simp
     omega
  | succ i =>
   rw [List.getElem?_cons_succ] at hx
   have hm := h1 x (List.mem_of_getElem? hx)
   rw [List.filter_cons_of_pos (by simpa using hm), List.length_cons, ih h2 i x hx]
theorem Cs.crash {l : List FileF} {no : Nat} {fs : List CF} {ws : List WrF} (h : Cs l no fs ws) (hr : RisF l) (hb : ∀ f ∈ l, Behind f.b.length f.row) (ks : List Bool) : Cs (l.map (FS.crash1 l ks)) no (fs.map fun c => endC (stepsC ks 0 ws c)) [] := by
 obtain ⟨ls, rs, h1, rfl, rfl, h4⟩ := h
 refine ⟨ls.map (FS.crash1 l ks), [], h1.map _, ?_, rfl, List.Pairwise.nil, fun x hx => (by cases hx), fun x hx => (by cases hx), fun f hf => ?_⟩
 ·rw [List.map_map, List.map_map]
  refine List.map_congr_left fun f hf => ?_
  have hbf := hb f (h1.mem_iff.1 hf)
  have hall := FileF.all_is hbf
  have hrow := h4.row f hf
  rw [hrow] at hbf
  obtain ⟨z, _, h3⟩ := steps_one ks f.name rs 0 f.b.length f.b (fun p => FS.kept ks (FS.rank l p.no)) (fun i x hx => by
   rw [rank_of h1 hr h4, filter_ris rs h4.ris i x hx, Nat.zero_add]) hbf (Nat.le_refl _)
  rw [Nat.sub_self, List.replicate_zero, List.append_nil, ← hrow, ← hall] at h3
  show endC (stepsC ks 0 (rs.map WrF.of) ⟨f.name, f.all, f.b.length⟩) = cfOf (FS.crash1 l ks f)
  rw [h3]
  unfold endC cfOf FS.crash1 FileF.all
  simp
 ·obtain ⟨g, _, rfl⟩ := List.mem_map.1 hf
  rfl
theorem Cs.wr {l : List FileF} {no : Nat} {fs : List CF} {ws : List WrF} (h : Cs l no fs ws) (hb : ∀ f ∈ l, Behind f.b.length f.row) {w : WrF} (hw : w ∈ ws) : w.i ≤ w.j ∧ ∃ c ∈ fs, c.n = w.n ∧ w.j ≤ c.x.length := by
 obtain ⟨ls, rs, h1, rfl, rfl, h4⟩ := h
 obtain ⟨x, hx, rfl⟩ := List.mem_map.1 hw
 refine ⟨Nat.le_add_right _ _, ?_⟩
 obtain ⟨f, hf, he⟩ := h4.is x hx
 refine ⟨cfOf f, List.mem_map_of_mem hf, he, ?_⟩
 have hbf := hb f (h1.mem_iff.1 hf)
 have hp : x.2 ∈ f.row := by
  rw [h4.row f hf]
  exact List.mem_map_of_mem (List.mem_filter.2 ⟨hx, by simpa using he.symm⟩)
 have key : ∀ (r : List PartF) (n : Nat) (p : PartF), Behind n r → p ∈ r → p.at_ + p.b.length ≤ n + ((r.map PartF.b).flatten).length := by
  intro r
  induction r with
  | nil => intro n p _ hp; cases hp
  | cons q r ih =>
   intro n p hb hp
   rw [List.map_cons, List.flatten_cons, List.length_append]
   rcases List.mem_cons.1 hp with rfl | hp
   ·rw [hb.1]; omega
   ·have := ih _ p hb.2 hp
    omega
 have := key f.row f.b.length x.2 hbf hp
 show x.2.at_ + x.2.b.length ≤ f.all.length
 rw [FileF.all_is hbf, List.length_append]
 exact this
theorem Cs.syn {l : List FileF} {no : Nat} {fs : List CF} {ws : List WrF} (h : Cs l no fs ws) (hb : ∀ f ∈ l, Behind f.b.length f.row) {c : CF} (hc : c ∈ fs) : c.s ≤ c.x.length := by
 obtain ⟨ls, rs, h1, rfl, rfl, h4⟩ := h
 obtain ⟨f, hf, rfl⟩ := List.mem_map.1 hc
 show f.b.length ≤ f.all.length
 rw [FileF.all_is (hb f (h1.mem_iff.1 hf)), List.length_append]
 omega
theorem Cs.new : Cs FS.new.l FS.new.no [] [] := ⟨[], [], .refl _, rfl, rfl, List.Pairwise.nil, fun _ h => (by cases h), fun _ h => (by cases h), fun _ h => (by cases h)⟩
end
section
open Go Go.RowKit
set_option maxRecDepth 100000
section
variable {α : Type}
theorem erase_set (y : α) : ∀ (l : List α) (j : Nat) (x : α), l[j]? = some x → (x :: l.eraseIdx j).Perm l ∧ (y :: l.eraseIdx j).Perm (l.set j y)
 | [], _, _, h => by simp at h
 | a :: l, 0, x, h => by
  rw [List.getElem?_cons_zero] at h
  injection h with h
  subst h
  exact ⟨.refl _, .refl _⟩
 | a :: l, j + 1, x, h => by
  rw [List.getElem?_cons_succ] at h
  obtain ⟨h1, h2⟩ := erase_set y l j x h
  exact ⟨(List.Perm.swap _ _ _).trans (h1.cons a), (List.Perm.swap _ _ _).trans (h2.cons a)⟩
theorem getP_mem {ps : List (ByteArray × α)} (hn : (ps.map Prod.fst).Nodup) {n : ByteArray} {v : α} (h : (n, v) ∈ ps) : getP ps n = some v := by
 induction ps with
 | nil => cases h
 | cons p ps ih =>
  rw [getP_cons]
  obtain ⟨h1, h2⟩ := List.nodup_cons.1 hn
  rcases List.mem_cons.1 h with e | h
  ·rw [← e, if_pos rfl]
  ·rw [if_neg (fun e => h1 (by rw [e]; exact List.mem_map_of_mem (f := Prod.fst) h)), ih h2 h]
theorem getP_no {ps : List (ByteArray × α)} {n : ByteArray} (h : ∀ p ∈ ps, p.1 ≠ n) : getP ps n = none := by
 induction ps with
 | nil => rfl
 | cons p ps ih =>
  rw [getP_cons, if_neg (h p List.mem_cons_self), ih fun q hq => h q (List.mem_cons_of_mem _ hq)]
theorem putP_no {ps : List (ByteArray × α)} {n : ByteArray} (h : ∀ p ∈ ps, p.1 ≠ n) (v : α) : putP ps n v = ps ++ [(n, v)] := by
 unfold putP
 rw [(findP_none n ps 0).2 h]
theorem findP_perm {ps r : List (ByteArray × α)} {n : ByteArray} {v : α} (hn : (ps.map Prod.fst).Nodup) (hp : ps.Perm ((n, v) :: r)) : ∃ j, findP n ps 0 = some (j, v) ∧ ps[j]? = some (n, v) ∧ (ps.eraseIdx j).Perm r := by
 have hm : (n, v) ∈ ps := hp.mem_iff.2 List.mem_cons_self
 cases hf : findP n ps 0 with
 | none => exact absurd rfl ((findP_none n ps 0).1 hf _ hm)
 | some x =>
  obtain ⟨j, u⟩ := x
  obtain ⟨_, hj⟩ := findP_at n ps 0 j u hf
  rw [Nat.sub_zero] at hj
  have hu : u = v := by
   have h1 := getP_mem hn (List.mem_of_getElem? hj)
   rw [getP_mem hn hm] at h1
   exact ((Option.some.injEq _ _).mp h1).symm
  subst hu
  exact ⟨j, rfl, hj, ((erase_set (n, u) ps j _ hj).1.trans hp).cons_inv⟩
theorem putP_perm {ps r : List (ByteArray × α)} {n : ByteArray} {v : α} (hn : (ps.map Prod.fst).Nodup) (hp : ps.Perm ((n, v) :: r)) (u : α) : (putP ps n u).Perm ((n, u) :: r) := by
 obtain ⟨j, h1, h2, h3⟩ := findP_perm hn hp
 unfold putP
 rw [h1]
 show (ps.set j (n, u)).Perm _
 exact (erase_set (n, u) ps j _ h2).2.symm.trans (h3.cons _)
theorem delP_perm {ps r : List (ByteArray × α)} {n : ByteArray} {v : α} (hn : (ps.map Prod.fst).Nodup) (hp : ps.Perm ((n, v) :: r)) : (delP ps n).Perm r := by
 obtain ⟨j, h1, _, h3⟩ := findP_perm hn hp
 unfold delP
 rw [h1]
 exact h3
end
theorem run_lenM {P : Program} {t kt et ty : TypeId} (ht : P.underlying t = some (.map kt et)) {α : Type} {V : α → Value} {w : World} {m : Nat} {ps : List (ByteArray × α)} (h : MapAt V w m ps) :
  (Builtin.len_ #[t] ty #[.map (some m)]).run P w = .ok (.int .i64 (ps.length : Int)) w := by
 obtain ⟨es, c, h1, h2, _⟩ := h
 have h3 := congrArg List.length h2
 rw [List.length_map, List.length_map, Array.length_toList] at h3
 simp [Builtin.len_, run_underlying ht, MapKept.run_getObj_map h1, h3, goInt]
structure QF where
 n : ByteArray
 x : List UInt8
 s : Nat
 g : Nat
 A : Option Addr
 c : Nat
def QF.cf (q : QF) : CF := ⟨q.n, q.x, q.s⟩
def QF.v (q : QF) : Value := .slice q.A q.x.length q.c
def bodV (g : Nat) : Value := .pointer (some ⟨g, 0, none⟩)
def wrC (v : WrF) : List Value := [.string v.n, .int .i64 (v.i : Int), .int .i64 (v.j : Int)]
theorem wrC_len (v : WrF) : (wrC v).length = 3 := rfl
abbrev Lab := Nat → Option Nat
structure BodAt (w : World) (lab : Lab) (q : QF) : Prop where
 box : BxA w q.g 111 [q.v, .int .i64 (q.s : Int)]
 own : w.ownsRow 0 5 1 q.v q.x.length (Lib.byteCells q.x)
 at_ : lab q.g = some 3
 blk : ∀ k, q.v.ownBlock = some k → lab k = some (4 + q.g)
theorem own_onlyE {w w' : World} {base e s n : Nat} {v : Value} {xs : List Value} {R : Nat → Prop} (h : w.ownsRow base e s v n xs) (ho : Only R w w') (hd : ∀ g, v.ownBlock = some g → ¬ R g) : w'.ownsRow base e s v n xs := by
 refine ⟨h.1, ?_⟩
 rcases h.2 with h4 | ⟨g, cap, cur, hv, hg, hh, r⟩
 ·exact .inl h4
 ·exact .inr ⟨g, cap, cur, hv, hg, (ho.block g (Array.getElem?_eq_some_iff.1 hh).1 (hd g (by rw [hv]; rfl))).trans hh, r⟩
theorem BodAt.keep {w w' : World} {lab lab' : Lab} {q : QF} {R : Nat → Prop} (h : BodAt w lab q) (ho : Only R w w') (h1 : ¬ R q.g) (h2 : ∀ k, lab k = some (4 + q.g) → ¬ R k) (hx : ∀ k r, lab k = some r → lab' k = some r) : BodAt w' lab' q :=
 ⟨h.box.keep ho h1, own_onlyE h.own ho fun k hk => h2 k (h.blk k hk), hx _ _ h.at_, fun k hk => hx _ _ (h.blk k hk)⟩
structure FM (w : World) (lab : Lab) (m : Nat) (A : Option Addr) (c : Nat) (ws : List WrF) (qs : List QF) : Prop where
 lt : ∀ k r, lab k = some r → k < w.heap.size
 lm : lab m = some 1
 map : ∃ ps, MapAt bodV w m ps ∧ ps.Perm (qs.map fun q => (q.n, q.g))
 row : w.ownsRow 0 109 3 (.slice A ws.length c) ws.length (ws.flatMap wrC)
 rblk : ∀ k, (Value.slice A ws.length c).ownBlock = some k → lab k = some 2
 bod : ∀ q ∈ qs, BodAt w lab q
 dif : (qs.map QF.g).Nodup
 nms : (qs.map QF.n).Nodup
structure LabTo (w : World) (lab : Lab) (w' : World) (lab' : Lab) : Prop where
 only : Only (fun k => lab k ≠ none) w w'
 ext : ∀ k r, lab k = some r → lab' k = some r
 new : ∀ k r, lab' k = some r → lab k = some r ∨ w.heap.size ≤ k
theorem LabTo.refl (w : World) (lab : Lab) : LabTo w lab w lab := ⟨Only.refl _ _, fun _ _ h => h, fun _ _ h => .inl h⟩
theorem LabTo.trans {w w1 w2 : World} {lab l1 l2 : Lab} (h : LabTo w lab w1 l1) (k : LabTo w1 l1 w2 l2) : LabTo w lab w2 l2 where
 only := h.only.trans k.only fun i hi => by
  cases hl : l1 i with
  | none => exact absurd hl hi
  | some r => exact (h.new i r hl).imp (fun e => by rw [e]; simp) id
 ext := fun i r hi => k.ext i r (h.ext i r hi)
 new := fun i r hi => by
  rcases k.new i r hi with h1 | h1
  ·exact h.new i r h1
  ·exact .inr (Nat.le_trans h.only.size h1)
theorem LabTo.below {w w1 w2 : World} {lab l1 : Lab} (h : LabTo w lab w1 l1) (hb : Below w1.heap.size w1 w2) : LabTo w lab w2 l1 := ⟨h.only.trans (R' := fun _ => False) (Only.of_below hb) (fun _ h => h.elim), h.ext, h.new⟩
theorem LabTo.drew {w w1 : World} {lab l1 : Lab} (h : LabTo w lab w1 l1) : LabTo w lab w1.drew l1 := h.below (Below.refl _ w1).drew
theorem LabTo.more {w w1 w2 : World} {lab l1 : Lab} {R : Nat → Prop} (h : LabTo w lab w1 l1) (ho : Only R w1 w2) (hR : ∀ k, R k → lab k ≠ none ∨ w.heap.size ≤ k) : LabTo w lab w2 l1 := ⟨h.only.trans ho hR, h.ext, h.new⟩
theorem LabTo.of_only {w w' : World} {lab : Lab} {R : Nat → Prop} (ho : Only R w w') (hR : ∀ k, R k → (∃ r, lab k = some r) ∨ w.heap.size ≤ k) : LabTo w lab w' lab :=
 ⟨ho.mono fun k hk => (hR k hk).imp (fun ⟨r, e⟩ => by rw [e]; simp) id, fun _ _ h => h, fun _ _ h => .inl h⟩
section
variable {w w' : World} {lab lab' : Lab} {m : Nat} {A : Option Addr} {c : Nat} {ws : List WrF} {qs : List QF}
theorem FM.perm (h : FM w lab m A c ws qs) {qs' : List QF} (p : qs.Perm qs') : FM w lab m A c ws qs' where
 lt := h.lt
 lm := h.lm
 map := by obtain ⟨ps, h1, h2⟩ := h.map; exact ⟨ps, h1, h2.trans (p.map _)⟩
 row := h.row
 rblk := h.rblk
 bod := fun q hq => h.bod q (p.mem_iff.2 hq)
 dif := ((p.map QF.g).nodup_iff).1 h.dif
 nms := ((p.map QF.n).nodup_iff).1 h.nms
theorem FM.keep {R : Nat → Prop} (h : FM w lab m A c ws qs) (ho : Only R w w') (hR : ∀ k r, R k → lab k = some r → r = 0) : FM w' lab m A c ws qs where
 lt := fun k r hk => Nat.lt_of_lt_of_le (h.lt k r hk) ho.size
 lm := h.lm
 map := by obtain ⟨ps, h1, h2⟩ := h.map; exact ⟨ps, h1.keep ho (fun e => by have := hR m 1 e h.lm; omega), h2⟩
 row := own_onlyE h.row ho fun k hk e => by have := hR k 2 e (h.rblk k hk); omega
 rblk := h.rblk
 bod := fun q hq => (h.bod q hq).keep ho (fun e => by have := hR q.g 3 e (h.bod q hq).at_; omega) (fun k hk e => by have := hR k _ e hk; omega) fun _ _ h => h
 dif := h.dif
 nms := h.nms
theorem FM.below (h : FM w lab m A c ws qs) (hb : Below w.heap.size w w') : FM w' lab m A c ws qs := h.keep (R := fun _ => False) (Only.of_below hb) fun _ _ h => h.elim
theorem FM.get (h : FM w lab m A c ws qs) {q : QF} (hq : q ∈ qs) : ∃ ps, MapAt bodV w m ps ∧ getP ps q.n = some q.g := by
 obtain ⟨ps, h1, h2⟩ := h.map
 refine ⟨ps, h1, getP_mem ?_ (h2.mem_iff.2 (List.mem_map_of_mem hq))⟩
 have := h.nms
 rw [show qs.map QF.n = (qs.map fun q => (q.n, q.g)).map Prod.fst by rw [List.map_map]; rfl] at this
 exact ((h2.map Prod.fst).nodup_iff).2 this
theorem FM.no (h : FM w lab m A c ws qs) {n : ByteArray} (hn : ∀ q ∈ qs, q.n ≠ n) : ∃ ps, MapAt bodV w m ps ∧ getP ps n = none ∧ ps.Perm (qs.map fun q => (q.n, q.g)) := by
 obtain ⟨ps, h1, h2⟩ := h.map
 refine ⟨ps, h1, getP_no fun p hp => ?_, h2⟩
 obtain ⟨q, hq, rfl⟩ := List.mem_map.1 (h2.mem_iff.1 hp)
 exact hn q hq
theorem FM.fsts (h : FM w lab m A c ws qs) {ps : List (ByteArray × Nat)} (h2 : ps.Perm (qs.map fun q => (q.n, q.g))) : (ps.map Prod.fst).Nodup := by
 have := h.nms
 rw [show qs.map QF.n = (qs.map fun q => (q.n, q.g)).map Prod.fst by rw [List.map_map]; rfl] at this
 exact ((h2.map Prod.fst).nodup_iff).2 this
theorem FM.body {q : QF} (h : FM w lab m A c ws (q :: qs)) {R : Nat → Prop} (ho : Only R w w') (hR : ∀ k, R k → k = q.g ∨ lab k = some (4 + q.g) ∨ lab k = none) (hx : ∀ k r, lab k = some r → lab' k = some r) (hlt : ∀ k r, lab' k = some r → k < w'.heap.size)
  {q' : QF} (hq' : BodAt w' lab' q') (hg : q'.g = q.g) (hn : q'.n = q.n) : FM w' lab' m A c ws (q' :: qs) where
 lt := hlt
 lm := hx _ _ h.lm
 map := by
  obtain ⟨ps, h1, h2⟩ := h.map
  refine ⟨ps, h1.keep ho (fun e => ?_), by rw [List.map_cons, hg, hn]; exact h2⟩
  rcases hR m e with rfl | e | e
  ·have := (h.bod q List.mem_cons_self).at_; rw [h.lm] at this; injection this with this; omega
  ·rw [h.lm] at e; injection e with e; omega
  ·rw [h.lm] at e; cases e
 row := own_onlyE h.row ho fun k hk e => by
  have hl := h.rblk k hk
  rcases hR k e with rfl | e | e
  ·rw [(h.bod q List.mem_cons_self).at_] at hl; injection hl with hl; omega
  ·rw [hl] at e; injection e with e; omega
  ·rw [hl] at e; cases e
 rblk := fun k hk => hx _ _ (h.rblk k hk)
 bod := fun p hp => by
  rcases List.mem_cons.1 hp with rfl | hp
  ·exact hq'
  ·have hb := h.bod p (List.mem_cons_of_mem _ hp)
   have hne : p.g ≠ q.g := fun e => (List.nodup_cons.1 h.dif).1 (by rw [← e]; exact List.mem_map_of_mem hp)
   refine hb.keep ho (fun e => ?_) (fun k hk e => ?_) hx
   ·have hl := hb.at_
    rcases hR p.g e with e | e | e
    ·exact hne e
    ·rw [hl] at e; injection e with e; omega
    ·rw [hl] at e; cases e
   ·rcases hR k e with rfl | e | e
    ·rw [(h.bod q List.mem_cons_self).at_] at hk; injection hk with hk; omega
    ·rw [hk] at e; injection e with e; omega
    ·rw [hk] at e; cases e
 dif := by rw [List.map_cons, hg]; exact h.dif
 nms := by rw [List.map_cons, hn]; exact h.nms
theorem FM.rowTo (h : FM w lab m A c ws qs) {R : Nat → Prop} (ho : Only R w w') (hR : ∀ k, R k → lab k = some 2 ∨ lab k = none) (hx : ∀ k r, lab k = some r → lab' k = some r) (hlt : ∀ k r, lab' k = some r → k < w'.heap.size)
  {A' : Option Addr} {c' : Nat} {ws' : List WrF} (hrow : w'.ownsRow 0 109 3 (.slice A' ws'.length c') ws'.length (ws'.flatMap wrC)) (hblk : ∀ k, (Value.slice A' ws'.length c').ownBlock = some k → lab' k = some 2) : FM w' lab' m A' c' ws' qs where
 lt := hlt
 lm := hx _ _ h.lm
 map := by
  obtain ⟨ps, h1, h2⟩ := h.map
  refine ⟨ps, h1.keep ho (fun e => ?_), h2⟩
  rcases hR m e with e | e
  ·rw [h.lm] at e; injection e with e; omega
  ·rw [h.lm] at e; cases e
 row := hrow
 rblk := hblk
 bod := fun p hp => by
  have hb := h.bod p hp
  refine hb.keep ho (fun e => ?_) (fun k hk e => ?_) hx
  ·rcases hR p.g e with e | e
   ·rw [hb.at_] at e; injection e with e; omega
   ·rw [hb.at_] at e; cases e
  ·rcases hR k e with e | e
   ·rw [hk] at e; injection e with e; omega
   ·rw [hk] at e; cases e
 dif := h.dif
 nms := h.nms
theorem FM.mapTo (h : FM w lab m A c ws qs) (ho : Only (fun k => k = m) w w') {ps : List (ByteArray × Nat)} (hm : MapAt bodV w' m ps) {qs' : List QF} (hp : ps.Perm (qs'.map fun q => (q.n, q.g)))
  (hb : ∀ q ∈ qs', BodAt w lab q) (hd : (qs'.map QF.g).Nodup) (hn : (qs'.map QF.n).Nodup) : FM w' lab m A c ws qs' where
 lt := fun k r hk => Nat.lt_of_lt_of_le (h.lt k r hk) ho.size
 lm := h.lm
 map := ⟨ps, hm, hp⟩
 row := own_onlyE h.row ho fun k hk (e : k = m) => by have := h.rblk k hk; rw [e, h.lm] at this; injection this with this; omega
 rblk := h.rblk
 bod := fun q hq => (hb q hq).keep ho (fun e => by have := (hb q hq).at_; rw [show q.g = m from e, h.lm] at this; injection this with this; omega) (fun k hk (e : k = m) => by rw [e, h.lm] at hk; injection hk with hk; omega) fun _ _ h => h
 dif := hd
 nms := hn
theorem FM.relab (h : FM w lab m A c ws qs) (hx : ∀ k r, lab k = some r → lab' k = some r) (hlt : ∀ k r, lab' k = some r → k < w.heap.size) : FM w lab' m A c ws qs where
 lt := hlt
 lm := hx _ _ h.lm
 map := h.map
 row := h.row
 rblk := fun k hk => hx _ _ (h.rblk k hk)
 bod := fun q hq => ⟨(h.bod q hq).box, (h.bod q hq).own, hx _ _ (h.bod q hq).at_, fun k hk => hx _ _ ((h.bod q hq).blk k hk)⟩
 dif := h.dif
 nms := h.nms
end
def fbx (m : Nat) (A : Option Addr) (n c : Nat) (ops : Int) (dn : Bool) (am fl : Int) : List Value := [.map (some m), .slice A n c, .int .i64 ops, .bool dn, .int .i64 am, .int .i64 fl]
structure FH (w : World) (lab : Lab) (b m : Nat) (A : Option Addr) (c : Nat) (ws : List WrF) (qs : List QF) (ops : Int) (dn : Bool) (am fl : Int) : Prop where
 box : BxA w b 88 (fbx m A ws.length c ops dn am fl)
 lb : lab b = some 0
 fm : FM w lab m A c ws qs
section
variable {w w' : World} {lab lab' : Lab} {b m : Nat} {A : Option Addr} {c : Nat} {ws : List WrF} {qs : List QF} {ops : Int} {dn : Bool} {am fl : Int}
theorem FH.perm (h : FH w lab b m A c ws qs ops dn am fl) {qs' : List QF} (p : qs.Perm qs') : FH w lab b m A c ws qs' ops dn am fl := ⟨h.box, h.lb, h.fm.perm p⟩
theorem FH.below (h : FH w lab b m A c ws qs ops dn am fl) (hb : Below w.heap.size w w') : FH w' lab b m A c ws qs ops dn am fl := ⟨h.box.below hb, h.lb, h.fm.below hb⟩
theorem FH.drew (h : FH w lab b m A c ws qs ops dn am fl) : FH w.drew lab b m A c ws qs ops dn am fl := h.below (Below.refl _ w).drew
theorem FH.boxTo (h : FH w lab b m A c ws qs ops dn am fl) (ho : Only (fun k => k = b) w w') {ops' : Int} {dn' : Bool} {am' fl' : Int} (hb : BxA w' b 88 (fbx m A ws.length c ops' dn' am' fl')) : FH w' lab b m A c ws qs ops' dn' am' fl' :=
 ⟨hb, h.lb, h.fm.keep ho fun k r (e : k = b) hk => by rw [e, h.lb] at hk; injection hk with hk; exact hk.symm⟩
theorem FH.to_ (h : FH w lab b m A c ws qs ops dn am fl) (ho : Only (fun k => k = b) w w') : LabTo w lab w' lab := LabTo.of_only ho fun k (e : k = b) => .inl ⟨0, by rw [e]; exact h.lb⟩
end
def FAt (w : World) (lab : Lab) (b : Nat) (S : FS) : Prop := ∃ m A c ws qs am fl, FH w lab b m A c ws qs (S.ops : Int) S.down am fl ∧ Cs S.l S.no (qs.map QF.cf) ws ∧ max am (-1) = S.fuse ∧ max fl (-1) = S.fault ∧ -9223372036854775808 ≤ am ∧ am ≤ 9223372036854775807 ∧ -9223372036854775808 ≤ fl ∧ fl ≤ 9223372036854775807
def FileAt (w : World) (O D : Nat → Prop) (b : Nat) (S : FS) : Prop := ∃ lab, FAt w lab b S ∧ (∀ k r, lab k = some r → O k) ∧ (∀ k, O k → D k) ∧ ∀ k, D k → k < w.heap.size
theorem FAt.keep {w w' : World} {lab : Lab} {b : Nat} {S : FS} {R : Nat → Prop} (h : FAt w lab b S) (ho : Only R w w') (hR : ∀ k r, lab k = some r → ¬ R k) : FAt w' lab b S := by
 obtain ⟨m, A, c, ws, qs, am, fl, h1, h2⟩ := h
 exact ⟨m, A, c, ws, qs, am, fl, ⟨h1.box.keep ho (hR _ _ h1.lb), h1.lb, h1.fm.keep ho fun k r e hk => absurd e (hR k r hk)⟩, h2⟩
theorem objFile : ObjD FileAt where
 keep := fun h ho hd => by
  obtain ⟨lab, h1, h2, h3, h4⟩ := h
  exact ⟨lab, h1.keep ho fun k r hk => hd k (h3 k (h2 k r hk)), h2, h3, fun k hk => Nat.lt_of_lt_of_le (h4 k hk) ho.size⟩
 lt := fun h => by obtain ⟨lab, h1, h2, h3, h4⟩ := h; exact h4
 sub := fun h => by obtain ⟨lab, h1, h2, h3, h4⟩ := h; exact h3
abbrev FileTo := ToD FileAt
abbrev FileIn := InD FileAt
abbrev FileCop := CopD FileAt
abbrev fp (b : Nat) : Value := .pointer (some ⟨b, 0, none⟩)
theorem FAt.to_ {w w' : World} {O D : Nat → Prop} {b : Nat} {S' : FS} {lab lab' : Lab} (h2 : ∀ k r, lab k = some r → O k) (h3 : ∀ k, O k → D k) (h4 : ∀ k, D k → k < w.heap.size) (h : FAt w' lab' b S') (hl : LabTo w lab w' lab') : FileTo w O D w' b S' := by
 have hlt : ∀ k r, lab' k = some r → k < w'.heap.size := by obtain ⟨m, A, c, ws, qs, am, fl, h1, _⟩ := h; exact h1.fm.lt
 refine ⟨fun k => O k ∨ ∃ r, lab' k = some r ∧ w.heap.size ≤ k, fun k => D k ∨ ∃ r, lab' k = some r ∧ w.heap.size ≤ k, ⟨lab', h, fun k r hk => ?_, fun k hk => hk.imp (h3 k) id, fun k hk => ?_⟩, ?_, fun k hk => hk.imp id fun ⟨_, _, e⟩ => e, fun k hk => hk.imp id fun ⟨_, _, e⟩ => e⟩
 ·rcases hl.new k r hk with e | e
  ·exact .inl (h2 k r e)
  ·exact .inr ⟨r, hk, e⟩
 ·rcases hk with hk | ⟨r, hk, _⟩
  ·exact Nat.lt_of_lt_of_le (h4 k hk) hl.only.size
  ·exact hlt k r hk
 ·refine hl.only.mono fun k hk => .inl ?_
  cases he : lab k with
  | none => exact absurd he hk
  | some r => exact h2 k r he
end
section
open Go Go.RowKit
open Go.Lib (hid)
set_option maxRecDepth 100000
theorem isDue_calls (w : World) (b i : Nat) (t : TypeId) (vs : List Value) (a : Int) (hb : BxA w b t vs) (hi : vs[i]? = some (.int .i64 a)) (h1 : -9223372036854775808 ≤ a) (h2 : a ≤ 9223372036854775807) :
  Calls Tryz.prog 78 #[.pointer (some ⟨b, i, none⟩)] w fun e w' => e = .returned (.bool (decide (a = 0))) ∧ BxA w' b t (vs.set i (.int .i64 (if a < 0 then a else a - 1))) ∧ Only (fun k => k = b) w w' := by
 have c0 := hb.c i hi
 have f0 := hb.free i
 by_cases h0 : a < 0
 ·have hz : decide (a = 0) = false := decide_eq_false (by omega)
  rw [hz, if_pos h0]
  have HB : Hid (BxA w b t (vs.set i (.int .i64 a))) := hid (by
   have : vs.set i (.int .i64 a) = vs := by
    obtain ⟨hlt, he⟩ := List.getElem?_eq_some_iff.1 hi
    rw [← he, List.set_getElem_self]
   rw [this]; exact hb)
  clear hb hi hz
  go_enter Tryz.func78, Tryz.ntmps78
  go_wp2_with fail
  go_ret
  exact ⟨rfl, HB.out, Only.refl _ _⟩
 ·rw [if_neg h0]
  have HB := hid (hb.set i (.int .i64 (a - 1)))
  have hc : (w.setCell ⟨b, i, none⟩ (.int .i64 (a - 1))).cell? ⟨b, i, none⟩ = some (.int .i64 (a - 1)) := World.cell?_setCell_same _ _ _ c0
  have hw : IntKind.i64.wrap (a - 1) = a - 1 := IntWalk.i64_in (a - 1) (by omega)
  have hd : (decide (a - 1 < 0)) = decide (a = 0) := decide_eq_decide.2 (by omega)
  have HD := hid hd
  clear hb hi hd
  go_enter Tryz.func78, Tryz.ntmps78
  go_wp2_with fail
  go_ret
  exact ⟨by rw [← HD.out]; rfl, HB.out, only_set w ⟨b, i, none⟩ _⟩
theorem isName_calls10 (n : ByteArray) (w : World) : Calls Tryz.prog 95 #[.string n] w fun e w' => e = .returned (.bool (nameF n)) ∧ w = w' := by
 by_cases h0 : n = ⟨#[]⟩
 ·subst h0
  go_enter Tryz.func95, Tryz.ntmps95
  go_wp2_with fail
  go_ret
  exact ⟨rfl, rfl⟩
 ·have q0 : ¬ n.toList = [] := fun h => by
   rw [Lib.toList_data] at h
   refine h0 ?_
   cases n with
   | mk d =>
    congr 1
    exact Array.toList_eq_nil_iff.1 h
  have q1 : n.toList.isEmpty = false := by cases h : n.toList with
   | nil => exact absurd h q0
   | cons => rfl
  have hpos : decide (1 ≤ n.size) = true := decide_eq_true (by
   rcases Nat.lt_or_ge 0 n.size with h | h
   ·exact h
   ·refine absurd ?_ h0
    cases n with
    | mk d =>
     congr 1
     have : d.size = 0 := Nat.le_zero.1 h
     exact Array.eq_empty_of_size_eq_zero this)
  have hn : nameF n = decide (n.size ≤ 20) := by unfold nameF; rw [hpos, Bool.true_and]
  rw [hn]
  clear hn hpos
  have hs : decide ((n.size : Int) ≤ 20) = decide (n.size ≤ 20) := decide_eq_decide.2 (by omega)
  have HS := hid hs
  clear hs h0
  go_enter Tryz.func95, Tryz.ntmps95
  go_wp2_with fail
  go_ret
  exact ⟨by rw [← HS.out]; rfl, rfl⟩
theorem look_has {w : World} {m : Nat} {ps : List (ByteArray × Nat)} (h : MapAt bodV w m ps) {n : ByteArray} {g : Nat} (hg : getP ps n = some g) :
  (Instr.lookup 85 (.map (some m)) (.string n) false).run Tryz.prog w = .ok (.pointer (some ⟨g, 0, none⟩)) w := by
 have := run_lookS (P := Tryz.prog) Tryz.underlying85 Tryz.underlying9 h n g hg false
 simpa [bodV] using this
theorem look_no {w : World} {m : Nat} {ps : List (ByteArray × Nat)} (h : MapAt bodV w m ps) {n : ByteArray} (hg : getP ps n = none) :
  (Instr.lookup 85 (.map (some m)) (.string n) false).run Tryz.prog w = .ok (.pointer none) w := by
 have := run_lookS_none (P := Tryz.prog) Tryz.underlying85 Tryz.underlying9 h n hg _ (Tryz.zeroValue101 w) false
 simpa using this
section
variable (w : World) (lab : Lab) (b m : Nat) (A : Option Addr) (c : Nat) (ws : List WrF) (qs : List QF) (ops : Int) (dn : Bool) (am fl : Int) (h : FH w lab b m A c ws qs ops dn am fl)
include h
theorem lack_has {q : QF} (hq : q ∈ qs) : Calls Tryz.prog 80 #[.pointer (some ⟨b, 0, none⟩), .string q.n] w fun e w' => e = .returned (.int .i64 0) ∧ w = w' := by
 obtain ⟨ps, hm, hg⟩ := h.fm.get hq
 have hl := look_has hm hg
 have c0 := h.box.c 0 rfl
 clear h hm hg hq
 go_enter Tryz.func80, Tryz.ntmps80
 go_wp2_with fail
 go_ret
 exact ⟨rfl, rfl⟩
theorem lack_no {n : ByteArray} (hn : ∀ q ∈ qs, q.n ≠ n) : Calls Tryz.prog 80 #[.pointer (some ⟨b, 0, none⟩), .string n] w fun e w' => e = .returned (.int .i64 101) ∧ w = w' := by
 obtain ⟨ps, hm, hg, _⟩ := h.fm.no hn
 have hl := look_no hm hg
 have c0 := h.box.c 0 rfl
 clear h hm hg hn
 go_enter Tryz.func80, Tryz.ntmps80
 go_wp2_with fail
 go_ret
 exact ⟨rfl, rfl⟩
theorem amiss_has {q : QF} (hq : q ∈ qs) (k : Nat) (hk : k ≤ 1000000) (hx : q.x.length ≤ 65536) :
  Calls Tryz.prog 77 #[.pointer (some ⟨b, 0, none⟩), .string q.n, .int .i64 (k : Int)] w fun e w' => e = .returned (.int .i64 (if 65536 < q.x.length + k then 103 else 0)) ∧ w = w' := by
 obtain ⟨ps, hm, hg⟩ := h.fm.get hq
 have hl := look_has hm hg
 have c0 := h.box.c 0 rfl
 have y0 := (h.fm.bod q hq).box.c 0 rfl
 unfold QF.v at y0
 clear h hm hg hq
 generalize q.x.length = z at *
 generalize q.A = A', q.c = c' at *
 by_cases hb : 65536 < z + k
 ·rw [if_pos hb]
  have q1 : (65536 : Int) < (z : Int) + (k : Int) := by omega
  clear hb
  go_enter Tryz.func77, Tryz.ntmps77
  go_wp2_with fail
  go_ret
  exact ⟨rfl, rfl⟩
 ·rw [if_neg hb]
  have q1 : ¬ (65536 : Int) < (z : Int) + (k : Int) := by omega
  clear hb
  go_enter Tryz.func77, Tryz.ntmps77
  go_wp2_with fail
  go_ret
  exact ⟨rfl, rfl⟩
theorem amiss_no {n : ByteArray} (hn : ∀ q ∈ qs, q.n ≠ n) (k : Nat) (hk : k ≤ 1000000) (hl8 : qs.length ≤ 100) :
  Calls Tryz.prog 77 #[.pointer (some ⟨b, 0, none⟩), .string n, .int .i64 (k : Int)] w fun e w' => e = .returned (.int .i64 (if nameF n = false ∨ 8 ≤ qs.length then 101 else if 65536 < k then 103 else 0)) ∧ w = w' := by
 obtain ⟨ps, hm, hg, hp⟩ := h.fm.no hn
 have hl := look_no hm hg
 have c0 := h.box.c 0 rfl
 have hlen := run_lenM (P := Tryz.prog) (ty := 3) Tryz.underlying85 hm
 rw [hp.length_eq, List.length_map] at hlen
 have HN := hid (isName_calls10 n w)
 clear h hm hg hn hp
 generalize qs.length = z at *
 cases hnm : nameF n with
 | false =>
  rw [hnm] at HN
  clear hnm
  rw [if_pos (.inl rfl)]
  go_enter Tryz.func77, Tryz.ntmps77
  go_wp2_with fail
  refine HN.out.mono ?_
  rintro e w1 ⟨rfl, rfl⟩
  go_wp2_with fail
  go_ret
  exact ⟨rfl, rfl⟩
 | true =>
  rw [hnm] at HN
  clear hnm
  by_cases h8 : 8 ≤ z
  ·rw [if_pos (.inr h8)]
   have q1 : decide ((8 : Int) ≤ (z : Int)) = true := decide_eq_true (by omega)
   clear h8
   go_enter Tryz.func77, Tryz.ntmps77
   go_wp2_with fail
   refine HN.out.mono ?_
   rintro e w1 ⟨rfl, rfl⟩
   go_wp2_with fail
   go_ret
   exact ⟨rfl, rfl⟩
  ·rw [if_neg (by rintro (e | e); exact absurd e (by simp); exact h8 e)]
   have q1 : decide ((8 : Int) ≤ (z : Int)) = false := decide_eq_false (by omega)
   clear h8
   by_cases hb : 65536 < k
   ·rw [if_pos hb]
    have q2 : (65536 : Int) < (k : Int) := by omega
    go_enter Tryz.func77, Tryz.ntmps77
    go_wp2_with fail
    refine HN.out.mono ?_
    rintro e w1 ⟨rfl, rfl⟩
    go_wp2_with fail
    go_ret
    exact ⟨rfl, rfl⟩
   ·rw [if_neg hb]
    have q2 : ¬ (65536 : Int) < (k : Int) := by omega
    go_enter Tryz.func77, Tryz.ntmps77
    go_wp2_with fail
    refine HN.out.mono ?_
    rintro e w1 ⟨rfl, rfl⟩
    go_wp2_with fail
    go_ret
    exact ⟨rfl, rfl⟩
def burnA (a : Int) : Int := if a < 0 then a else a - 1
theorem begin_none (e0 : Int) (hd : dn = true ∨ e0 ≠ 0) : Calls Tryz.prog 76 #[.pointer (some ⟨b, 0, none⟩), .int .i64 e0] w fun e w' => e = .returned (.tuple #[.int .i64 (if dn then 100 else e0), .bool false]) ∧ w = w' := by
 have c3 := h.box.c 3 rfl
 clear h
 cases dn with
 | true =>
  clear hd
  rw [if_pos rfl]
  go_enter Tryz.func76, Tryz.ntmps76
  go_wp2_with fail
  go_ret2
  exact ⟨rfl, rfl⟩
 | false =>
  rw [if_neg (by simp)]
  have q0 : (e0 != 0) = true := by rcases hd with h | h; exact absurd h (by simp); simpa using h
  have q1 : (e0 == 0) = false := by simpa using q0
  clear hd
  go_enter Tryz.func76, Tryz.ntmps76
  go_wp2_with fail
  go_ret2
  exact ⟨rfl, rfl⟩
theorem begin_op (hdn : dn = false) (ho : 0 ≤ ops) (ho2 : ops ≤ 1000000000) (h1 : -9223372036854775808 ≤ am) (h2 : am ≤ 9223372036854775807) :
  Calls Tryz.prog 76 #[.pointer (some ⟨b, 0, none⟩), .int .i64 0] w fun e w' => e = .returned (.tuple #[.int .i64 (if am = 0 then 100 else 0), .bool true]) ∧ FH w' lab b m A c ws qs (ops + 1) (decide (am = 0)) (burnA am) fl ∧ Only (fun k => k = b) w w' := by
 subst hdn
 have c2 := h.box.c 2 rfl
 have c3 := h.box.c 3 rfl
 have f2 := h.box.free 2
 have hw : IntKind.i64.wrap (ops + 1) = ops + 1 := IntWalk.i64_in (ops + 1) (by omega)
 have hb2 := h.box.set 2 (.int .i64 (ops + 1))
 have HI := hid (isDue_calls _ b 4 _ _ am hb2 rfl h1 h2)
 have H := hid h
 have ho1 := only_set w ⟨b, 2, none⟩ (.int .i64 (ops + 1))
 have HO := hid ho1
 rw [show (if am = 0 then (100 : Int) else 0) = if decide (am = 0) = true then 100 else 0 by simp]
 clear h hb2 ho1
 generalize decide (am = 0) = d at *
 cases d
 all_goals
  try rw [if_pos rfl]
  try rw [if_neg (by simp)]
  go_enter Tryz.func76, Tryz.ntmps76
  go_wp2_with fail
  refine HI.out.mono ?_
  rintro e w1 ⟨rfl, hb1, ho1⟩
  have f3 := hb1.free 3
  have c3 := hb1.c 3 rfl
  have hb4 := fun d => hb1.set 3 (.bool d)
  have HF : Hid (∀ d, FH (w1.setCell ⟨b, 3, none⟩ (.bool d)) lab b m A c ws qs (ops + 1) d (burnA am) fl ∧ Only (fun k => k = b) w (w1.setCell ⟨b, 3, none⟩ (.bool d))) := hid (fun d => by
   have hall := (HO.out.trans ho1 (fun _ e => .inl e)).trans (only_set w1 ⟨b, 3, none⟩ (.bool d)) (fun _ e => .inl e)
   exact ⟨H.out.boxTo hall (hb4 d), hall⟩)
  have dt := (hb4 true).c 3 rfl
  have df := (hb4 false).c 3 rfl
  clear hb1 hb4 ho1 HI c2 f2 h1 h2
  go_wp2_with fail
  go_ret2
  exact ⟨rfl, (HF.out _).1, (HF.out _).2⟩
end
end
section
open Go Go.RowKit
open Go.Lib (hid)
set_option maxRecDepth 100000
set_option maxHeartbeats 8000000 in
theorem rover10_calls (w : World) (A : Option Addr) (c : Nat) (b : List UInt8) (D : Nat → Prop) (v : PartV) (p : PartF) (hb : Byt w A b) (hA : A = none → c = 0) (hp : PartR w D v p) (hat : b.length ≤ p.at_) (hs : p.at_ + p.b.length ≤ 1000000) :
  Calls Tryz.prog 103 #[.slice A b.length c, .agg #[.int .i64 (v.no : Int), .int .i64 (v.at_ : Int), .slice v.A v.n v.c]] w fun e w' => ∃ u, e = .returned u ∧ w'.ownsRow w.heap.size 5 1 u (overL b p).length (Lib.byteCells (overL b p)) ∧ Below w.heap.size w w' := by
 obtain ⟨i0, hi0, hz0, hz1, hz2⟩ := info_parts info8
 obtain ⟨h1, h2, h3, h4, h5⟩ := hp
 obtain ⟨no, at_, PA, n, pc⟩ := v
 simp only at h1 h2 h3 h4 h5
 subst h1; subst h2; subst h3
 have hbel := (Below.refl _ w).alloc (Nat.le_refl _) (.cells #[.int .i64 (p.no : Int), .int .i64 (p.at_ : Int), .slice PA p.b.length pc] 151)
 have hx := BxA.new w 151 [.int .i64 (p.no : Int), .int .i64 (p.at_ : Int), .slice PA p.b.length pc]
 have HX := hid hx
 have HB := hid (hb.below hbel)
 have HP := hid (h4.byt.below hbel)
 have HBel := hid hbel
 have HNil := hid hA
 obtain ⟨W, hW⟩ : ∃ W, w.alloc (.cells #[.int .i64 (p.no : Int), .int .i64 (p.at_ : Int), .slice PA p.b.length pc] 151) = W := ⟨_, rfl⟩
 rw [hW] at HX HB HP HBel
 have HWs : Hid (w.heap.size < W.heap.size) := hid (by rw [← hW]; simp)
 have HEnd := hid (outK_all hat)
 have HAt := hid hat
 clear hb hx hbel h4 h5 hA
 have hpb : p.b.length ≤ 1000000 := by omega
 have hpa : p.at_ ≤ 1000000 := by omega
 go_enter Tryz.func103, Tryz.ntmps103
 go_wp2_with (at_builtin; refine wpList_append_byt _ rfl _ _ 30 rfl W.heap.size i0 Tryz.underlying30 hi0 hz0 hz1 hz2 (.slice (some ⟨W.heap.size, 0, none⟩) 0 0) [] rfl ?own A c b rfl HNil.out ?byt (by simp; omega) ?base ?_)
 case own => exact own_empty W W.heap.size (Nat.le_refl _)
 case byt => exact HB.out.alloc _
 case base => simp
 intro v1 w1 hown1 hgr1 _
 have hb1 : Below W.heap.size W w1 := ((Below.refl _ W).alloc (Nat.le_refl _) _).grown hgr1 (by simp) (fun k hk => Nat.le_of_eq (Option.some.inj hk))
 have HO1 := hid hown1
 have HB1 := hid hb1
 clear hown1 hgr1 hb1 hat hs
 go_wp2_with fail
 clear hW
 go_loopw [5, 6] (fun v5 v6 wr => ∃ k : Nat, k ≤ p.b.length ∧ v6 = .int .i64 (k : Int) ∧ Hid (wr.ownsRow W.heap.size 5 1 v5 (outK b p k).length (Lib.byteCells (outK b p k))) ∧ Hid (Below W.heap.size W wr)) (fun _ v6 _ => p.b.length - (intOf v6).toNat)
 case atStart => exact ⟨0, Nat.zero_le _, rfl, HO1, HB1⟩
 case round =>
  obtain ⟨k, hk, rfl, HO, HBl⟩ := hrel
  have hx := HX.out.below HBl.out
  have x2 := hx.c 2 rfl
  have x1 := hx.c 1 rfl
  clear hx
  by_cases hlt : k < p.b.length
  ·have hkl : (k : Int) < (p.b.length : Int) := by omega
   have HPad := hid (padK_is HAt.out hlt)
   have HPl := hid (padK_len HAt.out hlt)
   have HSet := hid (padK_set HAt.out hlt)
   have HOl := hid (outK_len HAt.out hk)
   have hsum : IntKind.i64.wrap ((p.at_ : Int) + (k : Int)) = (p.at_ : Int) + (k : Int) := IntWalk.i64_in _ (by omega)
   go_wp2_with fail
   go_loopw [5] (fun v5 wq => ∃ x : List UInt8, x = outK b p k ++ List.replicate (x.length - (outK b p k).length) 0 ∧ (outK b p k).length ≤ x.length ∧ x.length ≤ p.at_ + k + 1 ∧ Hid (wq.ownsRow W.heap.size 5 1 v5 x.length (Lib.byteCells x)) ∧ Hid (Below W.heap.size W wq)) (fun v5 _ => p.at_ + k + 1 - (match v5 with | .slice _ n _ => n | _ => 0))
   case atStart => exact ⟨outK b p k, by rw [Nat.sub_self]; simp, Nat.le_refl _, by have := HOl.out; omega, HO, HBl⟩
   case round =>
    obtain ⟨x, hx1, hx2, hx3, HOx, HBx⟩ := hrel
    obtain ⟨A5, c5, rfl⟩ := own_form HOx.out
    have hx := HX.out.below HBx.out
    have x2 := hx.c 2 rfl
    have x1 := hx.c 1 rfl
    clear hx
    have HX1 := hid hx1
    clear hx1
    by_cases hle : x.length ≤ p.at_ + k
    ·have hlei : (x.length : Int) ≤ (p.at_ : Int) + (k : Int) := by omega
     go_wp2_with (at_builtin; refine wpList_append_byt _ rfl _ _ 30 rfl W.heap.size i0 Tryz.underlying30 hi0 hz0 hz1 hz2 (.slice A5 x.length c5) x rfl (HOx.out.alloc _) (some ⟨wr.heap.size, 0, none⟩) 1 [0] rfl (fun h => by cases h) (byt_lit wr [0]) (by simp; omega) (by have := HBx.out.size; simp; omega) ?_)
     intro v7 w7 hown7 hgr7 _
     have HB7 := hid ((HBx.out.alloc HBx.out.size _).grown hgr7 (by have := HBx.out.size; simp; omega) (fun k hk => (HOx.out.lt k hk).1))
     have HO7 := hid hown7
     clear hown7 hgr7
     go_wp2_with fail
     have HR7 : Hid (x ++ [0] = outK b p k ++ List.replicate ((x ++ [0]).length - (outK b p k).length) 0) := hid (by
      have h1 := HX1.out
      rw [List.length_append, List.length_singleton, show x.length + 1 - (outK b p k).length = (x.length - (outK b p k).length) + 1 by omega, List.replicate_succ', ← List.append_assoc, ← h1])
     go_roundw
     case rel => exact ⟨x ++ [0], HR7.out, by rw [List.length_append]; omega, by rw [List.length_append]; simp; omega, hid (by rw [List.length_append]; exact HO7.out), HB7⟩
     case measure =>
      obtain ⟨A7, c7, rfl⟩ := own_form HO7.out
      simp
      omega
    ·have hlei : ¬ (x.length : Int) ≤ (p.at_ : Int) + (k : Int) := by omega
     have hxl : x.length = p.at_ + k + 1 := by omega
     have hxp : x = padK b p k := by rw [HX1.out, hxl]; exact HPad.out
     have hset := HSet.out
     rw [← hxp] at hset
     obtain ⟨g5, hA5, hg5⟩ : ∃ g5, A5 = some ⟨g5, 0, none⟩ ∧ W.heap.size ≤ g5 := by
      rcases HOx.out.2 with ⟨_, h0⟩ | ⟨g, cap, cur, hv, hg, _⟩
      ·omega
      ·injection hv with h1
       exact ⟨g, h1, hg⟩
     subst hA5
     obtain ⟨y0, hc1, hf1⟩ : ∃ y0, wr.cell? ⟨g5, p.at_ + k, none⟩ = some y0 ∧ wr.frozen? ⟨g5, p.at_ + k, none⟩ = false := by
      have hq : p.at_ + k < x.length := by omega
      exact ⟨_, own_cell HOx.out (i := p.at_ + k) (u := .int .u8 ((x[p.at_ + k]).toNat : Int)) (by simp [Lib.byteCells, hq])⟩
     obtain ⟨g, o, rfl, hg, hcc⟩ := (HP.out.below HBx.out).at_ (by omega)
     have c0 := hcc k hlt
     have hgd : p.b.getD k 0 = p.b[k] := by rw [List.getD_eq_getElem?_getD, List.getElem?_eq_getElem hlt]; rfl
     rw [hgd] at c0
     have HO8 : Hid ((wr.setCell ⟨g5, p.at_ + k, none⟩ (.int .u8 (p.b[k].toNat : Int))).ownsRow W.heap.size 5 1 (.slice (some ⟨g5, 0, none⟩) x.length c5) (outK b p (k + 1)).length (Lib.byteCells (outK b p (k + 1)))) := hid (by
      rw [← hset, List.length_set, ← cells_set]
      exact own_set HOx.out (p.at_ + k) _)
     have HB8 := hid (HBx.out.setCell (p := ⟨g5, p.at_ + k, none⟩) hg5 (.int .u8 (p.b[k].toNat : Int)))
     have hin : p.at_ + k < x.length := by omega
     have hini : (p.at_ : Int) + (k : Int) < (x.length : Int) := by omega
     have hgl5 := World.block_lt_of_cell? _ _ hc1
     clear hcc hset hxp hxl hgd hx3 hx2 hle HSet HPad HPl HOl
     generalize p.b[k] = y at *
     go_wp2_with fail
     go_region
     go_wp2_with fail
     go_roundw
     case rel => exact ⟨k + 1, by omega, by go_num, HO8, hid HB8.out.drew⟩
     case measure => simp [intOf]; omega
  ·obtain rfl : k = p.b.length := by omega
   rw [HEnd.out] at HO
   go_wp2_with fail
   go_ret
   exact ⟨_, rfl, own_less HO.out (Nat.le_of_lt HWs.out), HBel.out.trans (HBl.out.mono (Nat.le_of_lt HWs.out))⟩
set_option maxHeartbeats 4000000 in
theorem rbytes10_calls (w : World) (D : Nat → Prop) (v : FileV) (f : FileF) (h : FileR w D v f) (hbeh : Behind f.b.length f.row) (hsz : f.all.length ≤ 500000) (hrl : f.row.length ≤ 1000000) :
  Calls Tryz.prog 83 #[.agg #[.string v.name, .slice v.A v.n v.c, .slice v.R v.rn v.rc]] w fun e w' => ∃ u, e = .returned u ∧ w'.ownsRow w.heap.size 5 1 u f.all.length (Lib.byteCells f.all) ∧ Below w.heap.size w w' := by
 obtain ⟨i0, hi0, hz0, hz1, hz2⟩ := info_parts info8
 obtain ⟨h1, h2, h3, h4, h5, h6, ps, h7, h8⟩ := h
 obtain ⟨nm, FA, n, fc, FR, rn, rc⟩ := v
 simp only at h1 h2 h3 h4 h5 h6 h7
 subst h1; subst h2; subst h5
 have hbel := (Below.refl _ w).alloc (Nat.le_refl _) (.cells #[.string f.name, .slice FA f.b.length fc, .slice FR f.row.length rc] 130)
 have hx := BxA.new w 130 [.string f.name, .slice FA f.b.length fc, .slice FR f.row.length rc]
 have HX := hid hx
 have HB := hid (h3.byt.below hbel)
 have HP := hid (h7.below hbel)
 have HA := hid (all2_imp (fun _ _ h => PartR.keep h (R' := fun _ => False) (Only.of_below hbel) (fun _ _ h => h)) h8)
 have HBel := hid hbel
 have HNil := hid h4
 have HLen := hid (all2_len h8)
 obtain ⟨W, hW⟩ : ∃ W, w.alloc (.cells #[.string f.name, .slice FA f.b.length fc, .slice FR f.row.length rc] 130) = W := ⟨_, rfl⟩
 rw [hW] at HX HB HP HBel HA
 have HWs : Hid (w.heap.size < W.heap.size) := hid (by rw [← hW]; simp)
 have HAll := hid (FileF.all_is hbeh)
 have HBeh := hid hbeh
 have HSz := hid hsz
 have hbl : f.b.length ≤ 500000 := by rw [HAll.out, List.length_append] at hsz; omega
 clear hx hbel h3 h4 h6 h7 h8 hsz hbeh
 go_enter Tryz.func83, Tryz.ntmps83
 have x1 := HX.out.c 1 rfl
 have x1' := (HX.out.alloc (.cells #[] 5)).c 1 rfl
 go_wp2_with (at_builtin; refine wpList_append_byt _ rfl _ _ 30 rfl W.heap.size i0 Tryz.underlying30 hi0 hz0 hz1 hz2 (.slice (some ⟨W.heap.size, 0, none⟩) 0 0) [] rfl ?own FA fc f.b rfl HNil.out ?byt (by simp; omega) ?base ?_)
 case own => exact own_empty W W.heap.size (Nat.le_refl _)
 case byt => exact HB.out.alloc _
 case base => simp
 intro v1 w1 hown1 hgr1 _
 have hb1 : Below W.heap.size W w1 := ((Below.refl _ W).alloc (Nat.le_refl _) _).grown hgr1 (by simp) (fun k hk => Nat.le_of_eq (Option.some.inj hk))
 have HO1 := hid hown1
 have HB1 := hid hb1
 clear hown1 hgr1 hb1 x1 x1'
 go_wp2_with fail
 clear hW
 go_loopw [3, 4] (fun v3 v4 wr => ∃ k : Nat, k ≤ f.row.length ∧ v4 = .int .i64 (k : Int) ∧ Hid (wr.ownsRow W.heap.size 5 1 v3 ((f.row.take k).foldl overL f.b).length (Lib.byteCells ((f.row.take k).foldl overL f.b))) ∧ Hid (Below W.heap.size W wr)) (fun _ v4 _ => f.row.length - (intOf v4).toNat)
 case atStart => exact ⟨0, Nat.zero_le _, rfl, hid (by rw [List.take_zero]; exact HO1.out), HB1⟩
 case round =>
  obtain ⟨k, hk, rfl, HO, HBl⟩ := hrel
  have hx := HX.out.below HBl.out
  have x2 := hx.c 2 rfl
  clear hx
  by_cases hlt : k < f.row.length
  ·have hkl : (k : Int) < (f.row.length : Int) := by omega
   obtain ⟨g, o, q, rfl, hg, hq, c0, c1, c2⟩ := part_at (HP.out.below HBl.out) (k := k) (by rw [HLen.out]; exact hlt)
   obtain ⟨p, hp, hpr⟩ := all2_get HA.out hq
   have hat := behind_at f.row _ k p HBeh.out hp
   have hfold := foldl_behind (f.row.take k) f.b (behind_take f.row _ k HBeh.out)
   have hall := HAll.out
   have hszz := HSz.out
   rw [hall, List.length_append] at hszz
   have hnext : (f.row.take (k + 1)).foldl overL f.b = overL ((f.row.take k).foldl overL f.b) p := by rw [List.take_add_one, hp, List.foldl_append]; rfl
   have hpl : (((f.row.take (k + 1)).map PartF.b).flatten).length = (((f.row.take k).map PartF.b).flatten).length + p.b.length := by rw [List.take_add_one, hp]; simp
   have hle := flat_take_le f.row (k + 1)
   have hacc : ((f.row.take k).foldl overL f.b).length = p.at_ := by rw [hfold, List.length_append, hat]
   obtain ⟨A3, c3, rfl⟩ := own_form HO.out
   have hb3 := byt_of_own HO.out
   have hn3 : A3 = none → c3 = 0 := fun e => by
    subst e
    rcases HO.out.2 with ⟨hv, _⟩ | ⟨_, _, _, hv, _⟩
    ·injection hv
    ·injection hv with h1; cases h1
   have HC := hid (rover10_calls wr A3 c3 _ D q p hb3.1 hn3 (hpr.keep (R' := fun _ => False) (Only.of_below (HBl.out.mono (Nat.le_refl _))) (fun _ _ h => h)) (Nat.le_of_eq hacc) (by omega))
   rw [← hnext] at HC
   have HAcc := hid hacc
   clear hq hp hpr hat hfold hall hszz hnext hpl hle hb3 hn3 hacc
   generalize (f.row.take k).foldl overL f.b = acc at *
   go_wp2_with fail
   refine HC.out.mono ?_
   rintro e w5 ⟨u, rfl, hown5, hb5⟩
   have HO5 := hid (own_less hown5 HBl.out.size)
   have HB5 := hid (HBl.out.trans (hb5.mono HBl.out.size))
   clear hown5 hb5 HC
   go_wp2_with fail
   go_roundw
   case rel => exact ⟨k + 1, by omega, by go_num, HO5, HB5⟩
   case measure => simp [intOf]; omega
  ·obtain rfl : k = f.row.length := by omega
   rw [List.take_length] at HO
   go_wp2_with fail
   go_ret
   exact ⟨_, rfl, own_less HO.out (Nat.le_of_lt HWs.out), HBel.out.trans (HBl.out.mono (Nat.le_of_lt HWs.out))⟩
end
section
open Go Go.RowKit
open Go.Lib (hid)
set_option maxRecDepth 100000
set_option maxHeartbeats 4000000 in
theorem rread10_calls (w : World) (D : Nat → Prop) (v : Value) (S : FS) (n : ByteArray) (h : StAt w D v S) (hS : S.Fit) :
  Calls Tryz.prog 39 #[v, .string n] w fun e w' => ∃ u, e = .returned (.tuple #[u, .int .i64 (S.read n).2]) ∧ w'.ownsRow w.heap.size 5 1 u (S.read n).1.length (Lib.byteCells (S.read n).1) ∧ Below w.heap.size w w' := by
 have HE : Hid (S.read n = if S.down then ([], (100 : Int)) else match findF S.l n with
  | none => ([], (101 : Int))
  | some f => (f.all, (0 : Int))) := hid rfl
 have hst := h
 have hfew := hS.ok.few
 obtain ⟨A, c, vs, rfl, hr, ha⟩ := h
 have hb := (Below.refl _ w).alloc (Nat.le_refl _) (.cells (stC A vs.length c S).toArray 51)
 have hx := BxA.new w 51 (stC A vs.length c S)
 have HF := hid (rfind10_calls _ D _ S n (hst.below hb) (by omega))
 have H := hid (hr.below hb)
 have HA := hid (all2_imp (fun _ _ h => FileR.below h hb) ha)
 have HB := hid hb
 have HX := hid hx
 have HS := hid hS
 have HVl := hid (all2_len ha)
 clear hr ha hb hst hS
 unfold stV at *
 have x0 := hx.c 0 rfl
 have x1 := hx.c 1 rfl
 have x2 := hx.c 2 rfl
 have x3 := hx.c 3 rfl
 have x4 := hx.c 4 rfl
 have x5 := hx.c 5 rfl
 clear hx
 go_enter Tryz.func39, Tryz.ntmps39
 obtain ⟨W, hW⟩ : ∃ W, w.alloc (.cells (stC A vs.length c S).toArray 51) = W := ⟨_, rfl⟩
 rw [hW] at H HB HX HA HF x0 x1 x2 x3 x4 x5
 unfold stC at *
 generalize S.down = d at *
 cases d with
 | true =>
  rw [if_pos rfl] at HE
  go_wp2_with fail
  go_ret2
  rw [HE.out]
  exact ⟨_, rfl, World.ownsRow_nil _ _ _ _, HB.out⟩
 | false =>
  rw [if_neg (by simp)] at HE
  go_wp2_with fail
  clear hW
  refine HF.out.mono ?_
  rintro e w1 ⟨z, rfl, hz, hb1⟩
  have HB1 := hid hb1
  have y0 := (HX.out.below hb1).c 0 rfl
  clear x0 x1 x2 x3 x4 x5 hb1
  rcases hz with ⟨rfl, hn⟩ | ⟨k, f, rfl, hk, hf, hfd⟩
  ·rw [hn] at HE
   go_wp2_with fail
   go_ret2
   rw [HE.out]
   exact ⟨_, rfl, World.ownsRow_nil _ _ _ _, HB.out.trans (HB1.out.mono HB.out.size)⟩
  ·rw [hfd] at HE
   obtain ⟨g, o, q, rfl, hg, hkv, hfr, c0, c1, c2⟩ := file_of (H.out.below HB1.out) (all2_imp (fun _ _ h => FileR.below h HB1.out) HA.out) hf
   have hkl : (k : Int) < (vs.length : Int) := by omega
   have hm := List.mem_of_getElem? hf
   have HC := hid (rbytes10_calls w1 D q f hfr (HS.out.ok.beh f hm) (by have := HS.out.ok.siz f hm; omega) (by have := HS.out.rows f hm; omega))
   clear hfr hm hf hfd hk
   go_wp2_with fail
   refine HC.out.mono ?_
   rintro e w2 ⟨u, rfl, hown, hb2⟩
   have HO := hid (own_less hown (Nat.le_trans HB.out.size HB1.out.size))
   have HB2 := hid ((HB.out.trans (HB1.out.mono HB.out.size)).trans (hb2.mono (Nat.le_trans HB.out.size HB1.out.size)))
   clear hown hb2 HC
   go_wp2_with fail
   go_ret2
   rw [HE.out]
   exact ⟨_, rfl, HO.out, HB2.out⟩
end
section
open Go Go.RowKit
open Go.Lib (hid)
set_option maxRecDepth 100000
set_option maxHeartbeats 4000000 in
theorem rrank10_calls (w : World) (D : Nat → Prop) (v : Value) (S : FS) (no : Nat) (h : StAt w D v S) (hl : S.l.length ≤ 8) (hr : ∀ f ∈ S.l, f.row.length ≤ 100000) :
  Calls Tryz.prog 102 #[v, .int .i64 (no : Int)] w fun e w' => e = .returned (.int .i64 (FS.rank S.l no : Int)) ∧ Below w.heap.size w w' := by
 obtain ⟨A, c, vs, rfl, hrd, ha⟩ := h
 have HLen := hid (all2_len ha)
 have hvl : vs.length ≤ 8 := by have := HLen.out; omega
 have hb := (Below.refl _ w).alloc (Nat.le_refl _) (.cells (stC A vs.length c S).toArray 51)
 have hx := BxA.new w 51 (stC A vs.length c S)
 have x0 := hx.c 0 rfl
 have H := hid (hrd.below hb)
 have HA := hid (all2_imp (fun _ _ h => FileR.below h hb) ha)
 have HB := hid hb
 have HRw := hid hr
 have HMax := hid (rank_le S.l no 100000 hr)
 have HEnd : Hid (FS.rank (S.l.take vs.length) no = FS.rank S.l no) := hid (by rw [HLen.out, List.take_length])
 clear hrd ha hb hx hr hl
 unfold stV
 go_enter Tryz.func102, Tryz.ntmps102
 obtain ⟨W, hW⟩ : ∃ W, w.alloc (.cells (stC A vs.length c S).toArray 51) = W := ⟨_, rfl⟩
 rw [hW] at H HB HA x0
 go_wp2_with fail
 clear hW
 go_loopw [5, 6, 7] (fun v5 v6 v7 wr => ∃ k : Nat, k ≤ vs.length ∧ v6 = .int .i64 (k : Int) ∧ v5 = .int .i64 (FS.rank (S.l.take k) no : Int) ∧ wr = W) (fun _ v6 _ _ => vs.length - (intOf v6).toNat)
 case atStart => exact ⟨0, Nat.zero_le _, rfl, rfl, rfl⟩
 case round =>
  obtain ⟨k, hk, rfl, rfl, rfl⟩ := hrel
  have hm := HMax.out k (by have := HLen.out; omega)
  by_cases hlt : k < vs.length
  ·obtain ⟨g, o, q, rfl, hg, hq, c0, c1, c2⟩ := file_at H.out hlt
   obtain ⟨f, hf, hfr⟩ := all2_get HA.out hq
   obtain ⟨ps, hps, hpa⟩ := hfr.row
   have hkl : (k : Int) < (vs.length : Int) := by omega
   have hrn := hfr.rn
   have HS := hid (rank_take S.l no k hf)
   have hrl : f.row.length ≤ 100000 := HRw.out f (List.mem_of_getElem? hf)
   have HPs := hid hps
   have HPa := hid hpa
   have HPl := hid (all2_len hpa)
   rw [hrn] at c2
   clear hq hf hfr c0 c1 hrn hps hpa HMax
   generalize FS.rank (S.l.take k) no = z at *
   go_wp2_with fail
   go_loopw [5, 7] (fun v5 v7 wq => ∃ j : Nat, j ≤ f.row.length ∧ v7 = .int .i64 (j : Int) ∧ v5 = .int .i64 ((z + ((f.row.take j).filter fun p => decide (p.no < no)).length : Nat) : Int) ∧ wq = wr) (fun _ v7 _ => f.row.length - (intOf v7).toNat)
   case atStart => exact ⟨0, Nat.zero_le _, rfl, by simp, rfl⟩
   case round =>
    obtain ⟨j, hj, rfl, rfl, rfl⟩ := hrel
    have hfl : ((f.row.take j).filter fun p => decide (p.no < no)).length ≤ 100000 := by
     have h1 : ((f.row.take j).filter fun p => decide (p.no < no)).length ≤ (f.row.take j).length := List.length_filter_le _ _
     rw [List.length_take] at h1
     omega
    by_cases hjl : j < f.row.length
    ·obtain ⟨g2, o2, q2, hR2, hg2, hq2, d0, d1, d2⟩ := part_at HPs.out (k := j) (by rw [HPl.out]; exact hjl)
     obtain ⟨p, hp, hpr⟩ := all2_get HPa.out hq2
     have HT := hid (filt_take f.row no j hp)
     have hno := hpr.no
     rw [hR2] at c2
     have hjli : (j : Int) < (f.row.length : Int) := by omega
     rw [hno] at d0
     clear hq2 hp hpr d1 d2 hno hR2
     generalize ((f.row.take j).filter fun p => decide (p.no < no)).length = y at *
     by_cases hpn : p.no < no
     ·rw [if_pos hpn] at HT
      have hpi : (p.no : Int) < (no : Int) := by omega
      clear hpn
      go_wp2_with fail
      go_roundw
      case rel => exact ⟨j + 1, by omega, by go_num, by rw [HT.out]; go_num, trivial⟩
      case measure => simp [intOf]; omega
     ·rw [if_neg hpn] at HT
      have hpi : ¬ (p.no : Int) < (no : Int) := by omega
      clear hpn
      go_wp2_with fail
      go_roundw
      case rel => exact ⟨j + 1, by omega, by go_num, by rw [HT.out]; go_num, trivial⟩
      case measure => simp [intOf]; omega
    ·obtain rfl : j = f.row.length := by omega
     rw [List.take_length] at *
     go_wp2_with fail
     go_roundw
     case rel => exact ⟨k + 1, by omega, by go_num, by rw [HS.out], trivial⟩
     case measure => simp [intOf]; omega
  ·obtain rfl : k = vs.length := by omega
   rw [HEnd.out]
   go_wp2_with fail
   go_ret
   exact ⟨rfl, HB.out⟩
end
end Go.Proofs.YteafcaambnfdoaaGreatDoor
