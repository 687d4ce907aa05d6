/-
  Layer 7 and what it stands on, part 10 (AbbrMath AbbrGrow TabAt TabGet TabEnd AAliveMath).
-/
import Derived.Test.YtlmbafnoopfilaaGreatDoorPg6
import Derived.Test.YtlmbafnoopfilaaGreatDoorPg9
import Derived.WalkKit
namespace Go.Proofs.YtlmbafnoopfilaaGreatDoor
section
open Go
/-- A name, and what it stands for. -/
abbrev PR := ByteArray × ByteArray
theorem bl_inj {a b : ByteArray} (h : bl a = bl b) : a = b := by rw [← bs_bl a, ← bs_bl b, h]
theorem less_iff : ∀ x y : List UInt8, Op.bytesLess x y = true ↔ x < y
  | _, [] => by cases ‹List UInt8› <;> simp [Op.bytesLess]
  | [], _ :: _ => by simp [Op.bytesLess]
  | a :: x, b :: y => by
    have := less_iff x y
    simp only [Op.bytesLess, Bool.or_eq_true, decide_eq_true_eq, Bool.and_eq_true, beq_iff_eq, this, List.cons_lt_cons_iff]
/-- Is a greater than b? -/
def gtB (a b : ByteArray) : Bool := !(Op.bytesLess a.toList b.toList || a.toList == b.toList)
/-- A name that fits. -/
def nameB (n : ByteArray) : Bool := decide (1 ≤ n.size) && decide (n.size ≤ 20) && decide (plainL (bl n) = bl n) && decide ((32 : UInt8) ∉ bl n)
/-- A pair is dropped; it is put where it is to stand. -/
def dropR (l : List PR) (n : ByteArray) : List PR := l.filter fun p => decide (p.1 ≠ n)
def insR (p : PR) : List PR → List PR
  | [] => [p]
  | q :: r => if gtB q.1 p.1 then p :: q :: r else q :: insR p r
def setR (l : List PR) (n t : ByteArray) : List PR × Int :=
  if nameB n = false then (l, 80) else if 100 < (plainL (bl t)).length then (l, 30) else if (dropR l n).length = l.length ∧ 16 ≤ l.length then (l, 81) else (insR (n, bs (plainL (bl t))) (dropR l n), 0)
/-- Each name is less than those behind it. -/
def Rising (l : List PR) : Prop := l.Pairwise fun p q => bl p.1 < bl q.1
theorem lt_of_gt {a b : ByteArray} (h : gtB a b = true) : bl b < bl a := by
  unfold gtB at h
  rw [Bool.not_eq_true', Bool.or_eq_false_iff, Lib.toList_data, Lib.toList_data] at h
  obtain ⟨h1, h2⟩ := h
  have h3 : ¬ (a.data.toList < b.data.toList) := fun e => by rw [(less_iff _ _).2 e] at h1; cases h1
  have h4 : a.data.toList ≠ b.data.toList := by simpa using h2
  rcases List.le_iff_lt_or_eq.1 (List.not_lt.1 h3) with h5 | h5
  · exact h5
  · exact absurd h5.symm h4
theorem lt_of_ngt {a b : ByteArray} (h : gtB a b = false) (hn : a ≠ b) : bl a < bl b := by
  unfold gtB at h
  rw [Bool.not_eq_false', Bool.or_eq_true, Lib.toList_data, Lib.toList_data, less_iff] at h
  rcases h with h | h
  · exact h
  · exact absurd (bl_inj (eq_of_beq h)) hn
theorem Rising.drop {l : List PR} (h : Rising l) (n : ByteArray) : Rising (dropR l n) := h.filter _
theorem not_mem_drop (l : List PR) (n : ByteArray) : ∀ p ∈ dropR l n, p.1 ≠ n := fun p hp => by
  have := (List.mem_filter.1 hp).2
  exact of_decide_eq_true this
theorem mem_ins {p x : PR} : ∀ {l : List PR}, x ∈ insR p l ↔ x = p ∨ x ∈ l
  | [] => by simp [insR]
  | q :: r => by
    unfold insR
    split
    · simp
    · rw [List.mem_cons, mem_ins, List.mem_cons]
      constructor
      · rintro (h | h | h)
        · exact .inr (.inl h)
        · exact .inl h
        · exact .inr (.inr h)
      · rintro (h | h | h)
        · exact .inr (.inl h)
        · exact .inl h
        · exact .inr (.inr h)
theorem Rising.ins {p : PR} : ∀ {l : List PR}, Rising l → (∀ q ∈ l, q.1 ≠ p.1) → Rising (insR p l)
  | [], _, _ => List.pairwise_singleton _ _
  | q :: r, h, hn => by
    unfold insR
    obtain ⟨h1, h2⟩ := List.pairwise_cons.1 h
    by_cases hg : gtB q.1 p.1 = true
    · rw [if_pos hg]
      refine List.pairwise_cons.2 ⟨fun x hx => ?_, h⟩
      have hq := lt_of_gt hg
      rcases List.mem_cons.1 hx with rfl | hx
      · exact hq
      · exact List.lt_trans hq (h1 x hx)
    · rw [if_neg hg]
      refine List.pairwise_cons.2 ⟨fun x hx => ?_, Rising.ins h2 (fun x hx => hn x (List.mem_cons_of_mem _ hx))⟩
      rcases mem_ins.1 hx with rfl | hx
      · exact lt_of_ngt (by simpa using hg) (hn q List.mem_cons_self)
      · exact h1 x hx
theorem Rising.set {l : List PR} (h : Rising l) (n t : ByteArray) : Rising (setR l n t).1 := by
  unfold setR
  split
  · exact h
  · split
    · exact h
    · split
      · exact h
      · exact (h.drop n).ins (not_mem_drop l n)
/-- No name twice. -/
def Once {α : Type} (ps : List (ByteArray × α)) : Prop := ps.Pairwise fun p q => p.1 ≠ q.1
theorem Rising.once {l : List PR} (h : Rising l) : Once l := h.imp fun {p q} hlt e => by rw [e] at hlt; exact List.lt_irrefl _ hlt
theorem getP_iff {α : Type} {ps : List (ByteArray × α)} (h : Once ps) {k : ByteArray} {v : α} : getP ps k = some v ↔ (k, v) ∈ ps := by
  induction ps with
  | nil => simp [getP, findP]
  | cons p ps ih =>
    obtain ⟨h1, h2⟩ := List.pairwise_cons.1 h
    rw [getP_cons]
    by_cases he : p.1 = k
    · rw [if_pos he]
      constructor
      · intro e
        injection e with e
        have : p = (k, v) := Prod.ext he e
        rw [this]; exact List.mem_cons_self
      · intro e
        rcases List.mem_cons.1 e with e | e
        · rw [← e]
        · exact absurd he (h1 _ e)
    · rw [if_neg he, ih h2]
      constructor
      · exact fun e => List.mem_cons_of_mem _ e
      · intro e
        rcases List.mem_cons.1 e with e | e
        · exact absurd (by rw [← e]) he
        · exact e
theorem getP_none {α : Type} {ps : List (ByteArray × α)} {k : ByteArray} : getP ps k = none ↔ ∀ p ∈ ps, p.1 ≠ k := by
  rw [← findP_none k ps 0]
  unfold getP
  cases findP k ps 0 <;> simp
theorem getP_perm {α : Type} {ps l : List (ByteArray × α)} (hp : ps.Perm l) (ho : Once l) (k : ByteArray) : getP ps k = getP l k := by
  have hs : Once ps := hp.symm.pairwise ho (fun {_ _} h e => h e.symm)
  cases hg : getP l k with
  | none => exact getP_none.2 fun p hm => getP_none.1 hg p (hp.mem_iff.1 hm)
  | some v => exact (getP_iff hs).2 (hp.mem_iff.2 ((getP_iff ho).1 hg))
theorem ins_perm (p : PR) : ∀ l : List PR, (insR p l).Perm (p :: l)
  | [] => List.Perm.refl _
  | q :: r => by
    unfold insR
    split
    · exact List.Perm.refl _
    · exact ((ins_perm p r).cons q).trans (List.Perm.swap p q r)
/-- Put into a row of pairs, and into one that rises: the same pairs. -/
theorem filter_ne {α : Type} {ps : List (ByteArray × α)} {n : ByteArray} (h : ∀ p ∈ ps, p.1 ≠ n) : (ps.filter fun p => decide (p.1 ≠ n)) = ps := List.filter_eq_self.2 fun p hp => decide_eq_true (h p hp)
theorem put_perm {ps l : List PR} (hp : ps.Perm l) (ho : Once l) (n t : ByteArray) : (putP ps n t).Perm (insR (n, t) (dropR l n)) := by
  have hs : Once ps := hp.symm.pairwise ho (fun {_ _} h e => h e.symm)
  refine List.Perm.trans ?_ ((ins_perm (n, t) (dropR l n)).trans (((hp.filter fun p => decide (p.1 ≠ n)).symm).cons _)).symm
  unfold putP
  cases hf : findP n ps 0 with
  | none =>
    dsimp only
    rw [filter_ne ((findP_none n ps 0).1 hf)]
    exact List.perm_append_singleton _ _
  | some x =>
    obtain ⟨j, v⟩ := x
    obtain ⟨_, hj⟩ := findP_at n ps 0 j v hf
    rw [Nat.sub_zero] at hj
    dsimp only
    clear hp hf
    induction ps generalizing j with
    | nil => cases hj
    | cons p ps ih =>
      obtain ⟨h1, h2⟩ := List.pairwise_cons.1 hs
      cases j with
      | zero =>
        rw [List.getElem?_cons_zero] at hj
        injection hj with hj
        rw [List.set_cons_zero, List.filter_cons, if_neg (by rw [hj]; simp)]
        have hr : ∀ q ∈ ps, q.1 ≠ n := fun q hq e => h1 q hq (by rw [hj, e])
        rw [filter_ne hr]
      | succ j =>
        rw [List.getElem?_cons_succ] at hj
        have hpn : p.1 ≠ n := fun e => h1 (n, v) (List.mem_of_getElem? hj) e
        rw [List.set_cons_succ, List.filter_cons, if_pos (by simpa using hpn)]
        exact ((ih h2 j (Nat.zero_le _) hj).cons p).trans (List.Perm.swap _ _ _)
theorem del_perm {ps l : List PR} (hp : ps.Perm l) (ho : Once l) (n : ByteArray) : (delP ps n).Perm (dropR l n) := by
  have hs : Once ps := hp.symm.pairwise ho (fun {_ _} h e => h e.symm)
  refine List.Perm.trans ?_ (hp.filter fun p => decide (p.1 ≠ n))
  unfold delP
  cases hf : findP n ps 0 with
  | none =>
    dsimp only
    rw [filter_ne ((findP_none n ps 0).1 hf)]
  | some x =>
    obtain ⟨j, v⟩ := x
    obtain ⟨_, hj⟩ := findP_at n ps 0 j v hf
    rw [Nat.sub_zero] at hj
    dsimp only
    clear hp hf
    induction ps generalizing j with
    | nil => cases hj
    | cons p ps ih =>
      obtain ⟨h1, h2⟩ := List.pairwise_cons.1 hs
      cases j with
      | zero =>
        rw [List.getElem?_cons_zero] at hj
        injection hj with hj
        rw [List.eraseIdx_cons_zero, List.filter_cons, if_neg (by rw [hj]; simp)]
        have hr : ∀ q ∈ ps, q.1 ≠ n := fun q hq e => h1 q hq (by rw [hj, e])
        rw [filter_ne hr]
      | succ j =>
        rw [List.getElem?_cons_succ] at hj
        have hpn : p.1 ≠ n := fun e => h1 (n, v) (List.mem_of_getElem? hj) e
        rw [List.eraseIdx_cons_succ, List.filter_cons, if_pos (by simpa using hpn)]
        exact (ih h2 j (Nat.zero_le _) hj).cons p
/-- The number of pairs tells whether one was dropped. -/
theorem dropR_len {l : List PR} (n : ByteArray) : (dropR l n).length = l.length ↔ getP l n = none := by
  rw [getP_none]
  constructor
  · intro h p hp e
    have : dropR l n = l := by
      have hs : (dropR l n).Sublist l := List.filter_sublist
      exact hs.eq_of_length h
    rw [← this] at hp
    exact not_mem_drop l n p hp e
  · intro h
    exact congrArg List.length (filter_ne h)
theorem ins_length (p : PR) (l : List PR) : (insR p l).length = l.length + 1 := by
  have := (ins_perm p l).length_eq
  simpa using this
/-- A pair that is put, one thing after another. -/
theorem ins_none {p : PR} : ∀ {l : List PR}, (∀ q ∈ l, gtB q.1 p.1 = false) → insR p l = l ++ [p]
  | [], _ => rfl
  | q :: r, h => by
    unfold insR
    rw [h q List.mem_cons_self, if_neg (by simp), ins_none (fun x hx => h x (List.mem_cons_of_mem _ hx))]
    rfl
theorem ins_now {p q : PR} : ∀ {l : List PR}, (∀ x ∈ l, gtB x.1 p.1 = false) → gtB q.1 p.1 = true → insR p (l ++ [q]) = l ++ [p] ++ [q]
  | [], _, hq => by
    show (if gtB q.1 p.1 = true then p :: q :: [] else q :: insR p []) = _
    rw [if_pos hq]; rfl
  | x :: r, h, hq => by
    show (if gtB x.1 p.1 = true then p :: x :: (r ++ [q]) else x :: insR p (r ++ [q])) = _
    rw [h x List.mem_cons_self, if_neg (by simp), ins_now (fun y hy => h y (List.mem_cons_of_mem _ hy)) hq]
    rfl
theorem ins_any {p q : PR} : ∀ {l : List PR}, (l.any fun x => gtB x.1 p.1) = true → insR p (l ++ [q]) = insR p l ++ [q]
  | [], h => by cases h
  | x :: r, h => by
    show (if gtB x.1 p.1 = true then p :: x :: (r ++ [q]) else x :: insR p (r ++ [q])) = (if gtB x.1 p.1 = true then p :: x :: r else x :: insR p r) ++ [q]
    by_cases hx : gtB x.1 p.1 = true
    · rw [if_pos hx, if_pos hx]; rfl
    · rw [if_neg hx, if_neg hx]
      have hr : (r.any fun x => gtB x.1 p.1) = true := by
        rw [List.any_cons] at h
        simpa [hx] using h
      rw [ins_any hr]
      rfl
/-- What has been told behind k of the pairs. -/
def insK (p : PR) (l : List PR) (k : Nat) : List PR := if ((l.take k).any fun x => gtB x.1 p.1) = true then insR p (l.take k) else l.take k
theorem insK_step {p q : PR} {l : List PR} {k : Nat} (hq : l[k]? = some q) :
    insK p l (k + 1) = (if ((l.take k).any fun x => gtB x.1 p.1) = false ∧ gtB q.1 p.1 = true then insK p l k ++ [p] ++ [q] else insK p l k ++ [q]) ∧
      ((l.take (k + 1)).any fun x => gtB x.1 p.1) = (((l.take k).any fun x => gtB x.1 p.1) || gtB q.1 p.1) := by
  have ht : l.take (k + 1) = l.take k ++ [q] := by rw [List.take_add_one, hq]; rfl
  have ha : ((l.take (k + 1)).any fun x => gtB x.1 p.1) = (((l.take k).any fun x => gtB x.1 p.1) || gtB q.1 p.1) := by rw [ht, List.any_append]; simp
  refine ⟨?_, ha⟩
  unfold insK
  rw [ha, ht]
  cases h1 : ((l.take k).any fun x => gtB x.1 p.1) with
  | true => simp [ins_any h1]
  | false =>
    have hn : ∀ x ∈ l.take k, gtB x.1 p.1 = false := fun x hx => by
      cases hh : gtB x.1 p.1 with
      | false => rfl
      | true => rw [List.any_eq_true.2 ⟨x, hx, hh⟩] at h1; cases h1
    cases h2 : gtB q.1 p.1 with
    | true => simp [ins_now hn h2]
    | false => simp
theorem insK_end (p : PR) (l : List PR) : (if (l.any fun x => gtB x.1 p.1) = true then insK p l l.length else insK p l l.length ++ [p]) = insR p l := by
  unfold insK
  rw [List.take_length]
  cases h1 : (l.any fun x => gtB x.1 p.1) with
  | true => simp
  | false =>
    have hn : ∀ x ∈ l, gtB x.1 p.1 = false := fun x hx => by
      cases hh : gtB x.1 p.1 with
      | false => rfl
      | true => rw [List.any_eq_true.2 ⟨x, hx, hh⟩] at h1; cases h1
    simp [ins_none hn]
theorem insK_length (p : PR) (l : List PR) (k : Nat) : (insK p l k).length ≤ l.length + 1 := by
  unfold insK
  split
  · rw [ins_length, List.length_take]; omega
  · rw [List.length_take]; omega
theorem drop_step {l : List PR} {k : Nat} {q : PR} (n : ByteArray) (hq : l[k]? = some q) : dropR (l.take (k + 1)) n = if q.1 = n then dropR (l.take k) n else dropR (l.take k) n ++ [q] := by
  rw [List.take_add_one, hq]
  unfold dropR
  rw [List.filter_append]
  by_cases h : q.1 = n
  · rw [if_pos h]; simp [h]
  · rw [if_neg h]; simp [h]
theorem drop_length_le (l : List PR) (n : ByteArray) : (dropR l n).length ≤ l.length := List.length_filter_le _ _
theorem tl_beq (a b : ByteArray) : (a.toList == b.toList) = decide (a = b) := by
  rw [Lib.toList_data, Lib.toList_data]
  by_cases h : a = b
  · subst h; simp
  · have : a.data.toList ≠ b.data.toList := fun e => h (bl_inj e)
    rw [decide_eq_false h]
    exact beq_eq_false_iff_ne.2 this
theorem getP_drop {l : List PR} {k : Nat} {q : PR} (hq : l[k]? = some q) (n : ByteArray) : getP (l.drop k) n = if q.1 = n then some q.2 else getP (l.drop (k + 1)) n := by
  obtain ⟨hk, e⟩ := List.getElem?_eq_some_iff.1 hq
  rw [List.drop_eq_getElem_cons hk, e, getP_cons]
end
section
open Go
/-- What is ahead of the cursor, without the blanks that it begins with, and where that begins. -/
def headL (b : Bf) : List UInt8 := (b.1.take b.2).dropWhile fun c => c == 32
def frmL (b : Bf) : Nat := b.2 - (headL b).length
/-- What stands in the name's place. -/
def cutG (b : Bf) : Bf := ((cutR b.1 b.2 (backL b.1 (frmL b : Int)) b.2).1, (cutR b.1 b.2 (backL b.1 (frmL b : Int)) b.2).2.1)
/-- Is the cursor at the end, or ahead of a blank? -/
def atBlank (b : Bf) : Bool := !(decide (b.2 < b.1.length) && decide (b.1.getD b.2 0 ≠ 32))
def growR (l : List PR) (b : Bf) : Bf × Bool := match getP l (bs (headL b)) with
  | none => (b, false)
  | some t => if atBlank b = true ∧ fits (cutG b) (plainL (bl t)) then (insB (cutG b) (plainL (bl t)), decide (insB (cutG b) (plainL (bl t)) ≠ b)) else (b, false)
theorem headL_le (b : Bf) (h : b.2 ≤ b.1.length) : (headL b).length ≤ b.2 := by
  have h1 : (headL b).Sublist (b.1.take b.2) := List.dropWhile_sublist _
  have h2 := h1.length_le
  rw [List.length_take] at h2
  omega
theorem blanks : ∀ x : List UInt8, ∃ u, x = u ++ (x.dropWhile fun c => c == 32) ∧ (∀ c ∈ u, c = 32) ∧ ∀ c r, (x.dropWhile fun c => c == 32) = c :: r → c ≠ 32
  | [] => ⟨[], rfl, fun _ h => (by cases h), fun _ _ h => (by cases h)⟩
  | a :: x => by
    rw [List.dropWhile_cons]
    by_cases ha : (a == 32) = true
    · obtain ⟨u, h1, h2, h3⟩ := blanks x
      rw [if_pos ha]
      refine ⟨a :: u, ?_, fun c hc => ?_, h3⟩
      · rw [List.cons_append, ← h1]
      · rcases List.mem_cons.1 hc with rfl | hc
        · exact eq_of_beq ha
        · exact h2 c hc
    · rw [if_neg ha]
      refine ⟨[], rfl, fun _ h => (by cases h), fun c r h => ?_⟩
      injection h with h1 h2
      rw [← h1]
      exact fun e => ha (by rw [e]; rfl)
/-- The blanks ahead. -/
theorem head_split (b : Bf) (h : b.2 ≤ b.1.length) : headL b = (b.1.take b.2).drop (frmL b) ∧ (∀ i, i < frmL b → b.1[i]? = some 32) ∧ (frmL b < b.2 → b.1[frmL b]? ≠ some 32) := by
  obtain ⟨u, e, h2, h3⟩ := blanks (b.1.take b.2)
  have hx : headL b = (b.1.take b.2).dropWhile fun c => c == 32 := rfl
  rw [← hx] at e h3
  have hl := congrArg List.length e
  rw [List.length_append, List.length_take] at hl
  have hf : frmL b = u.length := by unfold frmL; omega
  have hat : ∀ i, i < b.2 → b.1[i]? = (u ++ headL b)[i]? := fun i hi => by rw [← e, List.getElem?_take, if_pos hi]
  refine ⟨?_, fun i hi => ?_, fun hlt => ?_⟩
  · rw [hf, e, List.drop_left]
  · rw [hf] at hi
    rw [hat i (by omega), List.getElem?_append_left hi, List.getElem?_eq_getElem hi, h2 _ (List.getElem_mem hi)]
  · intro e2
    rw [hat _ hlt, hf, List.getElem?_append_right (Nat.le_refl _), Nat.sub_self] at e2
    cases hv : headL b with
    | nil => rw [hv] at e2; cases e2
    | cons c r =>
      rw [hv] at e2
      injection e2 with e2
      exact h3 c r hv e2
theorem cutG_rt {b : Bf} (h : Rt b.1 b.2) : Rt (cutG b).1 (cutG b).2 := LN.cutR_rt (b := b) h (isB_back _ _) h.2.2
theorem growR_rt {l : List PR} {b : Bf} (h : Rt b.1 b.2) : Rt (growR l b).1.1 (growR l b).1.2 := by
  unfold growR
  split
  · exact h
  · split
    · rename_i hc
      exact LN.insB_rt (cutG_rt h) (plain_P _) hc.2
    · exact h
end
section
open Go Go.RowKit
/-- What a map of names holds for each: a struct of one text. -/
def meanV (s : ByteArray) : Value := .agg #[.string s]
/-- A table at b: the pairs l stand in its map; its blocks are O. -/
structure TabAt (w : World) (O : Nat → Prop) (b : Nat) (l : List PR) : Prop where
  rising : Rising l
  len : l.length ≤ 16
  small : ∀ p ∈ l, p.1.size ≤ 20 ∧ p.2.size ≤ 100
  lt : ∀ k, O k → k < w.heap.size
  at_ : O b
  is : (l = [] ∧ BxA w b 29 [.map none]) ∨ ∃ m ps, BxA w b 29 [.map (some m)] ∧ O m ∧ m ≠ b ∧ MapAt meanV w m ps ∧ ps.Perm l
theorem TabAt.keep {w w' : World} {O R : Nat → Prop} {b : Nat} {l : List PR} (h : TabAt w O b l) (ho : Only R w w') (hd : ∀ k, O k → ¬ R k) : TabAt w' O b l := by
  refine ⟨h.rising, h.len, h.small, fun k hk => Nat.lt_of_lt_of_le (h.lt k hk) ho.size, h.at_, ?_⟩
  rcases h.is with ⟨h1, h2⟩ | ⟨m, ps, h1, h2, h3, h4, h5⟩
  · exact .inl ⟨h1, h2.keep ho (hd b h.at_)⟩
  · exact .inr ⟨m, ps, h1.keep ho (hd b h.at_), h2, h3, h4.keep ho (hd m h2), h5⟩
theorem TabAt.below {w w' : World} {O : Nat → Prop} {b : Nat} {l : List PR} (h : TabAt w O b l) (hb : Below w.heap.size w w') : TabAt w' O b l := h.keep (R := fun _ => False) (Only.of_below hb) (fun _ _ h => h)
/-- A new one. -/
theorem TabAt.new (w : World) : TabAt (w.alloc (.cells #[.map none] 29)) (fun k => k = w.heap.size) w.heap.size [] :=
  ⟨List.Pairwise.nil, Nat.zero_le _, fun _ h => (by cases h), fun k (hk : k = _) => by rw [World.size_alloc]; omega, rfl, .inl ⟨rfl, BxA.new w _ _⟩⟩
/-- What a call leaves of a table: only its blocks are written, and new ones may be its own. -/
def TabTo (w : World) (O : Nat → Prop) (w' : World) (b : Nat) (l : List PR) : Prop := ∃ O', TabAt w' O' b l ∧ Only O w w' ∧ ∀ k, O' k → O k ∨ w.heap.size ≤ k
end
section
open Go Go.RowKit
set_option maxRecDepth 100000
section
variable (w : World) (O : Nat → Prop) (b : Nat) (l : List PR) (h : TabAt w O b l)
include h
set_option maxHeartbeats 1000000 in
theorem tget_calls (n : ByteArray) :
    Calls Tryz.prog 11 #[.pointer (some ⟨b, 0, none⟩), .string n] w fun e w' => e = .returned (.tuple #[.string ((getP l n).getD ⟨#[]⟩), .bool (getP l n).isSome]) ∧ Below w.heap.size w w' := by
  have hz := Tryz.zeroValue69 w
  rcases h.is with ⟨rfl, hb⟩ | ⟨m, ps, hb, _, _, hm, hp⟩
  · have hl := run_lookS_nil (P := Tryz.prog) Tryz.underlying27 Tryz.underlying9 w n _ hz true
    have c0 := hb.c 0 rfl
    simp only [if_true] at hl
    clear h hb hz
    go_enter Tryz.func11, Tryz.ntmps11
    go_wp2_with fail
    go_ret2
    exact ⟨rfl, (Below.refl _ w).alloc (Nat.le_refl _) _⟩
  · have c0 := hb.c 0 rfl
    have hg := getP_perm hp h.rising.once n
    cases hl : getP l n with
    | none =>
      rw [hl] at hg
      have hl2 := run_lookS_none (P := Tryz.prog) Tryz.underlying27 Tryz.underlying9 hm n hg _ hz true
      simp only [if_true] at hl2
      clear h hb hz hl hg hm hp
      go_enter Tryz.func11, Tryz.ntmps11
      go_wp2_with fail
      go_ret2
      exact ⟨rfl, (Below.refl _ w).alloc (Nat.le_refl _) _⟩
    | some v =>
      rw [hl] at hg
      have hl2 := run_lookS (P := Tryz.prog) Tryz.underlying27 Tryz.underlying9 hm n v hg true
      simp only [if_true, meanV] at hl2
      clear h hb hz hl hg hm hp
      go_enter Tryz.func11, Tryz.ntmps11
      go_wp2_with fail
      go_ret2
      exact ⟨rfl, (Below.refl _ w).alloc (Nat.le_refl _) _⟩
end
end
section
open Go Go.RowKit
set_option maxRecDepth 100000
theorem at_end {x : List UInt8} : atBlank (x, x.length) = true := by unfold atBlank; simp
theorem at_mid {x : List UInt8} {a : Nat} (h : a < x.length) : atBlank (x, a) = (x[a] == 32) := by
  unfold atBlank
  rw [decide_eq_true (show (x, a).2 < (x, a).1.length from h), Bool.true_and]
  have e : (x, a).1.getD (x, a).2 0 = x[a] := by rw [List.getD_eq_getElem?_getD, List.getElem?_eq_getElem h]; rfl
  rw [e]
  by_cases h2 : x[a] = 32 <;> simp [h2]
set_option maxHeartbeats 1000000 in
theorem blank_calls (c : UInt8) (r : List UInt8) (w : World) :
    Calls Tryz.prog 59 #[.string (bs (c :: r)), .string ⟨#[32]⟩] w fun e w' => e = .returned (.bool (c == 32)) ∧ w' = w := by
  have hsz := bs_size (c :: r)
  have h1 : (1 : Int) ≤ ((bs (c :: r)).size : Int) := by rw [hsz, List.length_cons]; omega
  have ht : (bs (c :: r)).extract 0 1 = bs [c] := bs_take (c :: r) 1
  go_enter Tryz.func59, Tryz.ntmps59
  go_wp2_with fail
  go_ret
  exact ⟨rfl, rfl⟩
set_option maxHeartbeats 1000000 in
theorem ended_calls (x : List UInt8) (a : Nat) (ha : a ≤ x.length) (w : World) :
    Calls Tryz.prog 19 #[.agg #[.string (bs x), .int .i64 (a : Int)]] w fun e w' => e = .returned (.bool (atBlank (x, a))) ∧ Below w.heap.size w w' := by
  have hb := BxA.new w 36 [.string (bs x), .int .i64 (a : Int)]
  have c0 := hb.c 0 rfl
  have c1 := hb.c 1 rfl
  have hsz := bs_size x
  by_cases h : a < x.length
  · have hne : ((a : Int) == (x.length : Int)) = false := beq_eq_false_iff_ne.2 (by omega)
    have hd : x.drop a = x[a] :: x.drop (a + 1) := List.drop_eq_getElem_cons h
    have HC := Lib.hid (blank_calls x[a] (x.drop (a + 1)) (w.alloc (.cells #[.string (bs x), .int .i64 (a : Int)] 36)))
    have hE := bs_drop x a
    rw [hd] at hE
    rw [at_mid h]
    generalize (x[a] == 32) = q at *
    generalize x[a] :: x.drop (a + 1) = y at *
    clear hb hd
    go_enter Tryz.func19, Tryz.ntmps19
    go_wp2_with (first
      | (go_at_call 59; refine HC.out.mono ?_; rintro e w' ⟨rfl, rfl⟩)
      | go_in)
    go_ret
    exact ⟨rfl, (Below.refl _ w).alloc (Nat.le_refl _) _⟩
  · obtain rfl : a = x.length := by omega
    have hne : ((x.length : Int) == (x.length : Int)) = true := beq_self_eq_true _
    rw [at_end]
    clear hb
    go_enter Tryz.func19, Tryz.ntmps19
    go_wp2_with fail
    go_ret
    exact ⟨rfl, (Below.refl _ w).alloc (Nat.le_refl _) _⟩
end
section
open Go
set_option maxRecDepth 100000
def gcN : List UInt8 := [103, 99]
def gcT : List UInt8 := [103, 105, 116, 32, 99, 111, 109, 109, 105, 116]
def gcL : List PR := [(bs gcN, bs gcT)]
theorem al_set : setR [] (bs gcN) (bs gcT) = (gcL, 0) := by
  unfold setR gcL
  rw [bl_bs, show nameB (bs gcN) = true by decide +kernel, show plainL gcT = gcT by decide +kernel]
  rfl
theorem al_make1 : mS [32, 103, 99, 32, 120] = [32, 103, 99, 32, 120] ∧ mA [32, 103, 99, 32, 120] 3 = 3 ∧ mS [103, 99, 120] = [103, 99, 120] ∧ mA [103, 99, 120] 2 = 2 := by decide +kernel
theorem al_get : getP gcL (bs gcN) = some (bs gcT) := by rfl
theorem al_grow1 : growR gcL ([32, 103, 99, 32, 120], 3) = (([32, 103, 105, 116, 32, 99, 111, 109, 109, 105, 116, 32, 120], 11), true) := by
  unfold growR
  rw [show headL ([32, 103, 99, 32, 120], 3) = gcN by decide +kernel, al_get]
  dsimp only
  rw [bl_bs, show plainL gcT = gcT by decide +kernel]
  decide +kernel
theorem al_grow2 : (growR gcL ([103, 99, 120], 2)).2 = false := by
  unfold growR
  rw [show headL ([103, 99, 120], 2) = gcN by decide +kernel, al_get]
  dsimp only
  rw [bl_bs, show plainL gcT = gcT by decide +kernel]
  decide +kernel
theorem al_bad : setR gcL (bs [97, 32, 98]) (bs [120]) = (gcL, 80) := by
  unfold setR
  rw [show nameB (bs [97, 32, 98]) = false by decide +kernel]
  rfl
theorem al_drop : dropR gcL (bs gcN) = [] ∧ getP ([] : List PR) (bs gcN) = none ∧ dropR [] (bs gcN) = [] := ⟨by rfl, rfl, rfl⟩
end
end Go.Proofs.YtlmbafnoopfilaaGreatDoor
