/-
  Layer 7 and what it stands on, part 6 (Bs NameOrd FileMath LineMath).
-/
import Derived.Test.YtaeiffpdnlejbaaPd3
import Derived.Test.YtaeiffpdnlejbaaPd4
import Derived.Test.YtaeiffpdnlejbaaPd5
import Derived.Laws.Rows
import Derived.Laws.Concat
namespace Go.Proofs.Ytaeiffpdnlejbaa
section
open Go Go.RowKit
/-- A list of bytes as a text. -/
abbrev bs (l : List UInt8) : ByteArray := ⟨l.toArray⟩
def strLen : Value → Nat
  | .string s => s.size
  | _ => 0
end
section
open Go
/-- A text's bytes. -/
def bl (x : ByteArray) : List UInt8 := x.data.toList
theorem bs_bl (x : ByteArray) : bs (bl x) = x := by unfold bs bl; simp
theorem bl_inj {a b : ByteArray} (h : bl a = bl b) : a = b := by rw [← bs_bl a, ← bs_bl b, h]
theorem less_iff : ∀ x y : List UInt8, Op.bytesLess x y = true ↔ x < y
  | _, [] => by cases ‹List UInt8› <;> simp [Op.bytesLess]
  | [], _ :: _ => by simp [Op.bytesLess]
  | a :: x, b :: y => by
    have := less_iff x y
    simp only [Op.bytesLess, Bool.or_eq_true, decide_eq_true_eq, Bool.and_eq_true, beq_iff_eq, this, List.cons_lt_cons_iff]
/-- Is a greater than b? -/
def gtB (a b : ByteArray) : Bool := !(Op.bytesLess a.toList b.toList || a.toList == b.toList)
theorem lt_of_gt {a b : ByteArray} (h : gtB a b = true) : bl b < bl a := by
  unfold gtB at h
  rw [Bool.not_eq_true', Bool.or_eq_false_iff, Lib.toList_data, Lib.toList_data] at h
  obtain ⟨h1, h2⟩ := h
  have h3 : ¬ (a.data.toList < b.data.toList) := fun e => by rw [(less_iff _ _).2 e] at h1; cases h1
  have h4 : a.data.toList ≠ b.data.toList := by simpa using h2
  rcases List.le_iff_lt_or_eq.1 (List.not_lt.1 h3) with h5 | h5
  · exact h5
  · exact absurd h5.symm h4
theorem lt_of_ngt {a b : ByteArray} (h : gtB a b = false) (hn : a ≠ b) : bl a < bl b := by
  unfold gtB at h
  rw [Bool.not_eq_false', Bool.or_eq_true, Lib.toList_data, Lib.toList_data, less_iff] at h
  rcases h with h | h
  · exact h
  · exact absurd (bl_inj (eq_of_beq h)) hn
end
section
open Go
/-- A write: its number, its place, its bytes. -/
structure PartF where
  no : Nat
  at_ : Nat
  b : List UInt8
/-- A file: its name, what is synced, its writes. -/
structure FileF where
  name : ByteArray
  b : List UInt8
  row : List PartF
structure FS where
  l : List FileF
  no : Nat
  ops : Nat
  fuse : Int
  fault : Int
  down : Bool
/-- Bytes over bytes, at a place. -/
def overL (b : List UInt8) (p : PartF) : List UInt8 := if p.b = [] then b else (b ++ List.replicate (p.at_ - b.length) 0).take p.at_ ++ p.b ++ b.drop (p.at_ + p.b.length)
def FileF.all (f : FileF) : List UInt8 := f.row.foldl overL f.b
def withoutF (l : List FileF) (n : ByteArray) : List FileF := l.filter fun f => decide (f.name ≠ n)
def insF (x : FileF) : List FileF → List FileF
  | [] => [x]
  | q :: r => if gtB q.name x.name then x :: q :: r else q :: insF x r
def withF (l : List FileF) (x : FileF) : List FileF := insF x (withoutF l x.name)
def findF (l : List FileF) (n : ByteArray) : Option FileF := l.find? fun f => decide (f.name = n)
def nameF (n : ByteArray) : Bool := decide (1 ≤ n.size) && decide (n.size ≤ 20)
namespace FS
def new : FS := ⟨[], 0, 0, -1, -1, false⟩
def count (S : FS) : FS := { S with ops := S.ops + 1, down := S.down || decide (S.fuse = 0), fuse := if 0 ≤ S.fuse then S.fuse - 1 else S.fuse }
def burn (S : FS) : FS := { S with fault := if 0 ≤ S.fault then S.fault - 1 else S.fault }
/-- A write behind a file's bytes. -/
def put (S : FS) (f : FileF) (x : List UInt8) : FS := { S with l := withF S.l { f with row := f.row ++ [⟨S.no, f.all.length, x⟩] }, no := S.no + 1 }
def found (S : FS) (n : ByteArray) : FileF := (findF S.l n).getD ⟨n, [], []⟩
def write (S : FS) (n : ByteArray) (x : List UInt8) : FS × Int :=
  if S.down then (S, 100) else if nameF n = false ∨ (findF S.l n).isNone ∧ 8 ≤ S.l.length then (S, 101) else if 65536 < (S.found n).all.length + x.length then (S, 103) else
  if S.fault = 0 then (S.burn.count, if S.burn.count.down then 100 else 102) else (S.burn.count.put (S.found n) x, if S.burn.count.down then 100 else 0)
/-- An op of a file that is there. -/
def known (S : FS) (n : ByteArray) (ok : Bool) (g : FileF → List FileF) : FS × Int :=
  if S.down then (S, 100) else match findF S.l n with
  | none => (S, 101)
  | some f => if ok = false then (S, 101) else if S.count.down then (S.count, 100) else ({ S.count with l := g f }, 0)
def sync (S : FS) (n : ByteArray) : FS × Int := S.known n true fun f => withF S.l { f with b := f.all, row := [] }
def rename (S : FS) (n t : ByteArray) : FS × Int := S.known n (nameF t) fun f => withF (withoutF S.l n) { f with name := t }
def remove (S : FS) (n : ByteArray) : FS × Int := S.known n true fun _ => withoutF S.l n
def cut (S : FS) (n : ByteArray) (k : Int) : FS × Int := S.known n true fun f => withF S.l { f with b := f.all.take k.toNat, row := [] }
def read (S : FS) (n : ByteArray) : List UInt8 × Int := if S.down then ([], 100) else match findF S.l n with
  | none => ([], 101)
  | some f => (f.all, 0)
def pend (S : FS) : Nat := (S.l.map fun f => f.row.length).sum
def rank (l : List FileF) (no : Nat) : Nat := (l.map fun f => (f.row.filter fun p => decide (p.no < no)).length).sum
def kept (ks : List Bool) (i : Nat) : Bool := decide (0 < ks.length) && ks.getD (i % ks.length) false
def crash1 (l : List FileF) (ks : List Bool) (f : FileF) : FileF := ⟨f.name, (f.row.filter fun p => kept ks (rank l p.no)).foldl overL f.b, []⟩
def crash (S : FS) (ks : List Bool) : FS := ⟨S.l.map (crash1 S.l ks), S.no, S.ops, -1, -1, false⟩
def arm (S : FS) (n : Int) : FS := { S with fuse := max n (-1) }
def fault_ (S : FS) (n : Int) : FS := { S with fault := max n (-1) }
end FS
/-- A call. -/
structure OpF where
  k : Int
  n : ByteArray
  t : ByteArray
  b : List UInt8
  i : Int
  ks : List Bool
def OpF.none_ : OpF := ⟨0, ⟨#[]⟩, ⟨#[]⟩, [], 0, []⟩
/-- A call of a kind from 0 to 8. -/
def doF (S : FS) (o : OpF) : FS × Int :=
  if o.k = 5 then (S.arm o.i, 0) else if o.k = 6 then (S.fault_ o.i, 0) else if o.k = 7 then (S.crash o.ks, 0) else if o.k = 8 then (S, 0) else
  if o.k = 0 then S.write o.n o.b else if o.k = 1 then S.sync o.n else if o.k = 2 then S.rename o.n o.t else if o.k = 3 then S.remove o.n else S.cut o.n o.i
/-- Writes that stand one behind the other, from a place on. -/
def Behind : Nat → List PartF → Prop
  | _, [] => True
  | n, p :: r => p.at_ = n ∧ Behind (n + p.b.length) r
theorem over_end (b : List UInt8) (p : PartF) (h : p.at_ = b.length) : overL b p = b ++ p.b := by
  unfold overL
  split
  · rename_i e
    rw [e, List.append_nil]
  · rw [h, Nat.sub_self, List.replicate_zero, List.append_nil, List.take_length, List.drop_of_length_le (by omega), List.append_nil]
/-- Over bytes that end ahead of it: noughts between. -/
theorem over_far (b : List UInt8) (p : PartF) (h : b.length ≤ p.at_) : overL b p = if p.b = [] then b else b ++ List.replicate (p.at_ - b.length) 0 ++ p.b := by
  unfold overL
  split
  · rfl
  · rw [List.take_of_length_le (by rw [List.length_append, List.length_replicate]; omega), List.drop_of_length_le (by omega), List.append_nil]
theorem foldl_behind : ∀ (r : List PartF) (b : List UInt8), Behind b.length r → r.foldl overL b = b ++ (r.map PartF.b).flatten
  | [], b, _ => by simp
  | p :: r, b, h => by
    rw [List.foldl_cons, over_end b p h.1, foldl_behind r _ (by rw [List.length_append]; exact h.2), List.append_assoc]
    rfl
theorem behind_append : ∀ (r : List PartF) (n : Nat) (p : PartF), Behind n r → p.at_ = n + ((r.map PartF.b).flatten).length → Behind n (r ++ [p])
  | [], n, p, _, h => ⟨by simpa using h, trivial⟩
  | q :: r, n, p, h, hp => ⟨h.1, behind_append r _ p h.2 (by rw [hp]; simp; omega)⟩
theorem over_len (b : List UInt8) (p : PartF) (h : b.length ≤ p.at_) : (overL b p).length ≤ p.at_ + p.b.length := by
  rw [over_far b p h]
  split
  · omega
  · simp; omega
theorem over_pre (b : List UInt8) (p : PartF) (h : b.length ≤ p.at_) : b <+: overL b p := by
  rw [over_far b p h]
  split
  · exact List.prefix_refl _
  · rw [List.append_assoc]; exact List.prefix_append _ _
/-- Whichever writes are kept, the bytes ahead of them stay, and there are no more than with all. -/
theorem foldl_kept (q : PartF → Bool) : ∀ (r : List PartF) (n : Nat) (b : List UInt8), Behind n r → b.length ≤ n → b <+: (r.filter q).foldl overL b ∧ ((r.filter q).foldl overL b).length ≤ n + ((r.map PartF.b).flatten).length
  | [], n, b, _, h => ⟨List.prefix_refl _, by simpa using h⟩
  | p :: r, n, b, hb, h => by
    have hlen : n + (((p :: r).map PartF.b).flatten).length = (n + p.b.length) + ((r.map PartF.b).flatten).length := by simp; omega
    rw [hlen]
    by_cases hq : q p = true
    · rw [List.filter_cons_of_pos hq, List.foldl_cons]
      have hp : b.length ≤ p.at_ := by rw [hb.1]; exact h
      have h2 := over_len b p hp
      rw [hb.1] at h2
      obtain ⟨h3, h4⟩ := foldl_kept q r (n + p.b.length) (overL b p) hb.2 h2
      exact ⟨(over_pre b p hp).trans h3, h4⟩
    · rw [List.filter_cons_of_neg hq]
      exact foldl_kept q r (n + p.b.length) b hb.2 (by omega)
/-- Each name is less than those behind it. -/
def RisF (l : List FileF) : Prop := l.Pairwise fun p q => bl p.name < bl q.name
/-- What holds of any state that calls made. -/
structure FS.Ok (S : FS) : Prop where
  ris : RisF S.l
  few : S.l.length ≤ 8
  nam : ∀ f ∈ S.l, nameF f.name = true
  beh : ∀ f ∈ S.l, Behind f.b.length f.row
  siz : ∀ f ∈ S.l, f.all.length ≤ 65536
  fus : -1 ≤ S.fuse
  flt : -1 ≤ S.fault
theorem RisF.without {l : List FileF} (h : RisF l) (n : ByteArray) : RisF (withoutF l n) := List.Pairwise.filter _ h
theorem mem_without {l : List FileF} {n : ByteArray} {f : FileF} : f ∈ withoutF l n ↔ f ∈ l ∧ f.name ≠ n := by
  unfold withoutF
  rw [List.mem_filter, decide_eq_true_iff]
theorem mem_insF {p x : FileF} : ∀ {l : List FileF}, x ∈ insF p l ↔ x = p ∨ x ∈ l
  | [] => by simp [insF]
  | q :: r => by
    unfold insF
    split
    · simp
    · rw [List.mem_cons, mem_insF, List.mem_cons]
      constructor
      · rintro (h | h | h)
        · exact .inr (.inl h)
        · exact .inl h
        · exact .inr (.inr h)
      · rintro (h | h | h)
        · exact .inr (.inl h)
        · exact .inl h
        · exact .inr (.inr h)
theorem RisF.ins {p : FileF} : ∀ {l : List FileF}, RisF l → (∀ q ∈ l, q.name ≠ p.name) → RisF (insF p l)
  | [], _, _ => List.pairwise_singleton _ _
  | q :: r, h, hn => by
    unfold insF
    obtain ⟨h1, h2⟩ := List.pairwise_cons.1 h
    by_cases hg : gtB q.name p.name = true
    · rw [if_pos hg]
      refine List.pairwise_cons.2 ⟨fun x hx => ?_, h⟩
      have hq := lt_of_gt hg
      rcases List.mem_cons.1 hx with rfl | hx
      · exact hq
      · exact List.lt_trans hq (h1 x hx)
    · rw [if_neg hg]
      refine List.pairwise_cons.2 ⟨fun x hx => ?_, RisF.ins h2 (fun x hx => hn x (List.mem_cons_of_mem _ hx))⟩
      rcases mem_insF.1 hx with rfl | hx
      · exact lt_of_ngt (by simpa using hg) (hn q List.mem_cons_self)
      · exact h1 x hx
theorem RisF.with_ {l : List FileF} (h : RisF l) (p : FileF) : RisF (withF l p) := (h.without p.name).ins fun _ hq => (mem_without.1 hq).2
theorem mem_with {l : List FileF} {p f : FileF} : f ∈ withF l p ↔ f = p ∨ (f ∈ l ∧ f.name ≠ p.name) := by
  unfold withF
  rw [mem_insF, mem_without]
theorem insF_len (p : FileF) : ∀ l : List FileF, (insF p l).length = l.length + 1
  | [] => rfl
  | q :: r => by
    unfold insF
    split
    · rfl
    · rw [List.length_cons, insF_len p r, List.length_cons]
/-- No name stands twice. -/
theorem RisF.same {l : List FileF} (h : RisF l) {f g : FileF} (hf : f ∈ l) (hg : g ∈ l) (e : f.name = g.name) : f = g := by
  induction l with
  | nil => cases hf
  | cons x l ih =>
    obtain ⟨h1, h2⟩ := List.pairwise_cons.1 h
    rcases List.mem_cons.1 hf with rfl | hf'
    · rcases List.mem_cons.1 hg with rfl | hg'
      · rfl
      · have := h1 g hg'
        rw [e] at this
        exact absurd this (List.lt_irrefl _)
    · rcases List.mem_cons.1 hg with rfl | hg'
      · have := h1 f hf'
        rw [e] at this
        exact absurd this (List.lt_irrefl _)
      · exact ih h2 hf' hg'
theorem findF_some {l : List FileF} (h : RisF l) {n : ByteArray} {f : FileF} : findF l n = some f ↔ f ∈ l ∧ f.name = n := by
  unfold findF
  constructor
  · intro e
    exact ⟨List.mem_of_find?_eq_some e, of_decide_eq_true (List.find?_some (p := fun f : FileF => decide (f.name = n)) e)⟩
  · rintro ⟨h1, h2⟩
    cases hf : l.find? fun f => decide (f.name = n) with
    | none => exact absurd (decide_eq_true h2) (by simpa using List.find?_eq_none.1 hf f h1)
    | some g =>
      rw [h.same (List.mem_of_find?_eq_some hf) h1 ((of_decide_eq_true (List.find?_some (p := fun f : FileF => decide (f.name = n)) hf)).trans h2.symm)]
theorem findF_none {l : List FileF} {n : ByteArray} : findF l n = none ↔ ∀ f ∈ l, f.name ≠ n := by
  unfold findF
  rw [List.find?_eq_none]
  simp
theorem without_len_le (l : List FileF) (n : ByteArray) : (withoutF l n).length ≤ l.length := List.length_filter_le _ _
theorem without_len_lt {l : List FileF} {f : FileF} (h : f ∈ l) : (withoutF l f.name).length < l.length := by
  unfold withoutF
  rcases Nat.lt_or_ge (l.filter fun g => decide (g.name ≠ f.name)).length l.length with h2 | h2
  · exact h2
  · have := List.filter_eq_self.1 (List.Sublist.eq_of_length_le List.filter_sublist h2) f h
    simp at this
theorem with_len_in {l : List FileF} {f : FileF} (h : f ∈ l) (g : FileF) (hg : g.name = f.name) : (withF l g).length ≤ l.length := by
  unfold withF
  rw [insF_len, hg]
  exact without_len_lt h
theorem with_len_le (l : List FileF) (g : FileF) : (withF l g).length ≤ l.length + 1 := by
  unfold withF
  rw [insF_len]
  have := without_len_le l g.name
  omega
theorem FS.Ok.new : FS.new.Ok := ⟨List.Pairwise.nil, Nat.zero_le _, fun _ h => (by cases h), fun _ h => (by cases h), fun _ h => (by cases h), by decide, by decide⟩
theorem FileF.all_is {f : FileF} (h : Behind f.b.length f.row) : f.all = f.b ++ (f.row.map PartF.b).flatten := foldl_behind _ _ h
theorem FS.Ok.count {S : FS} (h : S.Ok) : S.count.Ok := ⟨h.ris, h.few, h.nam, h.beh, h.siz, by have := h.fus; unfold FS.count; simp only; split <;> omega, h.flt⟩
theorem FS.Ok.burn {S : FS} (h : S.Ok) : S.burn.Ok := ⟨h.ris, h.few, h.nam, h.beh, h.siz, h.fus, by have := h.flt; unfold FS.burn; simp only; split <;> omega⟩
/-- A list of files that holds nothing new but one that is right. -/
theorem FS.Ok.files {S : FS} (h : S.Ok) {l : List FileF} {no : Nat} {g : FileF} (hr : RisF l) (hl : l.length ≤ 8) (hm : ∀ f ∈ l, f = g ∨ f ∈ S.l) (hn : nameF g.name = true) (hb : Behind g.b.length g.row) (hs : g.all.length ≤ 65536) : FS.Ok { S with l := l, no := no } :=
  ⟨hr, hl, fun f hf => (hm f hf).elim (fun e => e ▸ hn) (h.nam f), fun f hf => (hm f hf).elim (fun e => e ▸ hb) (h.beh f), fun f hf => (hm f hf).elim (fun e => e ▸ hs) (h.siz f), h.fus, h.flt⟩
theorem FS.Ok.less {S : FS} (h : S.Ok) {l : List FileF} (hr : RisF l) (hl : l.length ≤ 8) (hm : ∀ f ∈ l, f ∈ S.l) : FS.Ok { S with l := l } :=
  ⟨hr, hl, fun f hf => h.nam f (hm f hf), fun f hf => h.beh f (hm f hf), fun f hf => h.siz f (hm f hf), h.fus, h.flt⟩
theorem FS.Ok.found {S : FS} (h : S.Ok) (n : ByteArray) : (findF S.l n = some (S.found n) ∧ S.found n ∈ S.l ∧ (S.found n).name = n) ∨ (findF S.l n = none ∧ S.found n = ⟨n, [], []⟩) := by
  unfold FS.found
  cases hf : findF S.l n with
  | none => exact .inr ⟨rfl, rfl⟩
  | some f =>
    obtain ⟨h1, h2⟩ := (findF_some h.ris).1 hf
    exact .inl ⟨rfl, h1, h2⟩
theorem FS.Ok.put {S : FS} (h : S.Ok) {n : ByteArray} (x : List UInt8) (hn : nameF n = true) (hroom : (findF S.l n).isNone → S.l.length < 8) (hx : (S.found n).all.length + x.length ≤ 65536) : (S.put (S.found n) x).Ok := by
  have hf : (S.found n).name = n ∧ Behind (S.found n).b.length (S.found n).row := by
    rcases h.found n with ⟨_, h2, h3⟩ | ⟨_, h3⟩
    · exact ⟨h3, h.beh _ h2⟩
    · rw [h3]; exact ⟨rfl, trivial⟩
  have hall := FileF.all_is hf.2
  have hbeh : Behind (S.found n).b.length ((S.found n).row ++ [⟨S.no, (S.found n).all.length, x⟩]) := behind_append _ _ _ hf.2 (by rw [hall]; simp)
  unfold FS.put
  refine h.files (g := { S.found n with row := (S.found n).row ++ [⟨S.no, (S.found n).all.length, x⟩] }) (h.ris.with_ _) ?_ (fun f hm => (mem_with.1 hm).imp id And.left) (by show nameF (S.found n).name = true; rw [hf.1]; exact hn) hbeh ?_
  · rcases h.found n with ⟨_, h2, _⟩ | ⟨h2, _⟩
    · exact Nat.le_trans (with_len_in h2 _ rfl) h.few
    · have := hroom (by rw [h2]; rfl)
      exact Nat.le_trans (with_len_le S.l { S.found n with row := (S.found n).row ++ [⟨S.no, (S.found n).all.length, x⟩] }) (by omega)
  · unfold FileF.all
    simp only
    rw [List.foldl_append]
    show (overL (S.found n).all _).length ≤ 65536
    rw [over_end _ _ rfl, List.length_append]
    exact hx
theorem FS.Ok.write {S : FS} (h : S.Ok) (n : ByteArray) (x : List UInt8) : (S.write n x).1.Ok := by
  unfold FS.write
  split
  · exact h
  · split
    · exact h
    · rename_i h2
      split
      · exact h
      · rename_i h3
        split
        · exact h.burn.count
        · have hb : S.burn.count.found n = S.found n := rfl
          rw [← hb]
          have hn : nameF n = true := by
            cases hq : nameF n
            · exact absurd (.inl hq) h2
            · rfl
          exact h.burn.count.put x hn (fun hno => Nat.lt_of_not_le fun h8 => h2 (.inr ⟨hno, h8⟩)) (by rw [hb]; omega)
theorem FS.Ok.known {S : FS} (h : S.Ok) (n : ByteArray) (ok : Bool) (g : FileF → List FileF) (hg : ∀ f, f ∈ S.l → f.name = n → ok = true → FS.Ok { S with l := g f }) : (S.known n ok g).1.Ok := by
  unfold FS.known
  split
  · exact h
  · split
    · exact h
    · rename_i f hf
      obtain ⟨h1, h2⟩ := (findF_some h.ris).1 hf
      split
      · exact h
      · rename_i hok
        split
        · exact h.count
        · exact (hg f h1 h2 (by simpa using hok)).count
theorem FS.Ok.synced {S : FS} (h : S.Ok) {f : FileF} (hf : f ∈ S.l) (b : List UInt8) (hb : b.length ≤ 65536) : FS.Ok { S with l := withF S.l { f with b := b, row := [] } } :=
  h.files (no := S.no) (g := { f with b := b, row := [] }) (h.ris.with_ _) (Nat.le_trans (with_len_in hf _ rfl) h.few) (fun _ hm => (mem_with.1 hm).imp id And.left) (h.nam f hf) trivial hb
theorem FS.Ok.sync {S : FS} (h : S.Ok) (n : ByteArray) : (S.sync n).1.Ok := h.known _ _ _ fun f hf _ _ => h.synced hf f.all (h.siz f hf)
theorem FS.Ok.cut {S : FS} (h : S.Ok) (n : ByteArray) (k : Int) : (S.cut n k).1.Ok := h.known _ _ _ fun f hf _ _ => h.synced hf _ (by rw [List.length_take]; have := h.siz f hf; omega)
theorem FS.Ok.remove {S : FS} (h : S.Ok) (n : ByteArray) : (S.remove n).1.Ok := h.known _ _ _ fun _ _ _ _ => h.less (h.ris.without n) (Nat.le_trans (without_len_le _ _) h.few) fun _ hm => (mem_without.1 hm).1
theorem FS.Ok.rename {S : FS} (h : S.Ok) (n t : ByteArray) : (S.rename n t).1.Ok := h.known _ _ _ fun f hf hn ht => by
  subst hn
  have h1 := without_len_lt hf
  have h2 := with_len_le (withoutF S.l f.name) { f with name := t }
  have h3 := h.few
  exact h.files (no := S.no) (g := { f with name := t }) ((h.ris.without f.name).with_ _) (by omega) (fun x hm => (mem_with.1 hm).imp id fun h => (mem_without.1 h.1).1) ht (h.beh f hf) (h.siz f hf)
theorem FS.Ok.crash {S : FS} (h : S.Ok) (ks : List Bool) : (S.crash ks).Ok := by
  refine ⟨?_, by show (S.l.map _).length ≤ 8; rw [List.length_map]; exact h.few, fun f hf => ?_, fun f hf => ?_, fun f hf => ?_, by show -1 ≤ (-1 : Int); omega, by show -1 ≤ (-1 : Int); omega⟩
  · show (S.l.map _).Pairwise _
    rw [List.pairwise_map]
    exact h.ris
  all_goals
    obtain ⟨g, hg, rfl⟩ := List.mem_map.1 hf
  · exact h.nam g hg
  · exact trivial
  · have h1 := (foldl_kept (fun p => FS.kept ks (FS.rank S.l p.no)) g.row g.b.length g.b (h.beh g hg) (Nat.le_refl _)).2
    have h2 := h.siz g hg
    rw [FileF.all_is (h.beh g hg), List.length_append] at h2
    show ((g.row.filter fun p => FS.kept ks (FS.rank S.l p.no)).foldl overL g.b).length ≤ 65536
    omega
theorem FS.Ok.arm {S : FS} (h : S.Ok) (n : Int) : (S.arm n).Ok := ⟨h.ris, h.few, h.nam, h.beh, h.siz, by show -1 ≤ max n (-1); omega, h.flt⟩
theorem FS.Ok.fault_ {S : FS} (h : S.Ok) (n : Int) : (S.fault_ n).Ok := ⟨h.ris, h.few, h.nam, h.beh, h.siz, h.fus, by show -1 ≤ max n (-1); omega⟩
theorem FS.Ok.does {S : FS} (h : S.Ok) (o : OpF) : (doF S o).1.Ok := by
  unfold doF
  repeat' split
  · exact h.arm _
  · exact h.fault_ _
  · exact h.crash _
  · exact h
  · exact h.write _ _
  · exact h.sync _
  · exact h.rename _ _
  · exact h.remove _
  · exact h.cut _ _
end
section
open Go
/-- A buffer: its text, and the cursor's place. -/
abbrev Bf := List UInt8 × Nat
/-- What was done last. -/
inductive Lst where
  | none
  | kill
  | yank (f t : Nat)
deriving DecidableEq
structure LN where
  log : LS Bf
  ring : RS ByteArray
  last : Lst
/-- To write, to move. -/
def wrG (l : LS Bf) (b : Bf) (g : Int) : LS Bf := if g = 0 then (l.does b 0).brk else l.does b g
def mvL (l : LS Bf) (a : Nat) : LS Bf := (l.move (l.now.1, a)).brk
/-- A text at the cursor, if there is room. -/
def fits (b : Bf) (p : List UInt8) : Prop := b.1.length + p.length ≤ 600
instance (b : Bf) (p : List UInt8) : Decidable (fits b p) := by unfold fits; infer_instance
def insB (b : Bf) (p : List UInt8) : Bf := (insS b.1 b.2 p, insA b.1 b.2 p)
/-- The group of a sign. -/
def wordT (t : List UInt8) : Bool := decide (plainL t ≠ []) && decide (wrL (mS (plainL t ++ [32])) (mA (plainL t ++ [32]) 0) = (plainL t).length)
namespace LN
def new : LN := ⟨LS.new ([], 0) 32, RS.new 8, .none⟩
def buf (s : LN) : Bf := s.log.now
def put (s : LN) (b : Bf) (g : Int) : LN := ⟨wrG s.log b g, s.ring, .none⟩
def ins (s : LN) (t : List UInt8) (g : Int) : LN := if fits s.buf (plainL t) then s.put (insB s.buf (plainL t)) g else ⟨s.log, s.ring, .none⟩
def cut (s : LN) (f t : Nat) : LN := s.put ((cutR s.buf.1 s.buf.2 f t).1, (cutR s.buf.1 s.buf.2 f t).2.1) 0
def gone (s : LN) (f t : Nat) : List UInt8 := (cutR s.buf.1 s.buf.2 f t).2.2
def move (s : LN) (a : Nat) : LN := ⟨mvL s.log a, s.ring, .none⟩
def swap (s : LN) : LN := if (swapR s.buf.1 s.buf.2).2.2 then s.put ((swapR s.buf.1 s.buf.2).1, (swapR s.buf.1 s.buf.2).2.1) 0 else ⟨s.log, s.ring, .none⟩
/-- A kill that is put to the newest one. -/
def onto (ahead : Bool) (g x : ByteArray) : ByteArray := if ahead then g ++ x else x ++ g
def killed (r : RS ByteArray) (was : Lst) (ahead : Bool) (g : List UInt8) : RS ByteArray :=
  if g = [] then r else if was = .kill ∧ r.l ≠ [] then r.change (onto ahead (bs g)) else r.push (bs g)
def kill (s : LN) (f t : Nat) (ahead : Bool) : LN := ⟨(s.cut f t).log, killed s.ring s.last ahead (s.gone f t), .kill⟩
/-- A kill is put into a buffer. -/
def yankAt (log : LS Bf) (r : RS ByteArray) (b : Bf) (x : ByteArray) (no : Lst) : LN :=
  if fits b (plainL (bl x)) then ⟨wrG log (insB b (plainL (bl x))) 0, r, .yank b.2 (insB b (plainL (bl x))).2⟩ else ⟨log, r, no⟩
def yank (s : LN) : LN := match s.ring.l with
  | [] => ⟨s.log, s.ring.home, .none⟩
  | x :: _ => yankAt s.log s.ring.home s.buf x .none
def pop (s : LN) : LN := match s.last with
  | .yank f t => yankAt s.log s.ring.turn ((cutR s.buf.1 s.buf.2 (backL s.buf.1 f) (backL s.buf.1 t)).1, (cutR s.buf.1 s.buf.2 (backL s.buf.1 f) (backL s.buf.1 t)).2.1) (s.ring.l.getD s.ring.turn.i ⟨#[]⟩) (.yank f t)
  | _ => ⟨s.log, s.ring, .none⟩
def undo (s : LN) : LN := ⟨s.log.undo, s.ring, .none⟩
def redo (s : LN) : LN := ⟨s.log.redo, s.ring, .none⟩
def set (s : LN) (t : List UInt8) : LN := s.put (mS t, (mS t).length) 0
def change (s : LN) (t : List UInt8) (n : Int) : LN := s.put (mS t, mA t n) 0
def canAdd (s : LN) (t : List UInt8) : Bool := decide (fits s.buf (plainL t)) && decide (plainL t ≠ [])
def add (s : LN) (t : List UInt8) : LN := if s.canAdd t then s.put (insB (s.buf.1, s.buf.1.length) (plainL t)) 0 else ⟨s.log.brk, s.ring, .none⟩
def clear (s : LN) : LN := ⟨LS.new ([], 0) 32, s.ring, .none⟩
/-- Does a key do something here? -/
def known (k : Int) : Bool := decide (k = 1 ∨ (3 ≤ k ∧ k ≤ 18) ∨ k = 24 ∨ k = 26)
def key (s : LN) (k : Int) (t : List UInt8) : LN :=
  if k = 1 then s.ins t (if wordT t then 1 else 0)
  else if k = 26 then s.ins t 0
  else if k = 3 then s.cut (prvL s.buf.1 s.buf.2) s.buf.2
  else if k = 4 then s.cut s.buf.2 (nxtL s.buf.1 s.buf.2)
  else if k = 24 then s.swap
  else if k = 5 then s.move (prvL s.buf.1 s.buf.2)
  else if k = 6 then s.move (nxtL s.buf.1 s.buf.2)
  else if k = 7 then s.move 0
  else if k = 8 then s.move s.buf.1.length
  else if k = 9 then s.move (wlL s.buf.1 s.buf.2)
  else if k = 10 then s.move (wrL s.buf.1 s.buf.2)
  else if k = 11 then s.kill s.buf.2 s.buf.1.length false
  else if k = 12 then s.kill 0 s.buf.2 true
  else if k = 13 then s.kill (wlL s.buf.1 s.buf.2) s.buf.2 true
  else if k = 14 then s.kill s.buf.2 (wrL s.buf.1 s.buf.2) false
  else if k = 15 then s.yank
  else if k = 16 then s.pop
  else if k = 17 then s.undo
  else if k = 18 then s.redo
  else s
/-- All buffers of a log are right lines. -/
def RtL (l : LS Bf) : Prop := Rt l.now.1 l.now.2 ∧ (∀ b ∈ l.back, Rt b.1 b.2) ∧ ∀ b ∈ l.forth, Rt b.1 b.2
structure Ok (s : LN) : Prop where
  log : s.log.Ok
  lim : s.log.lim = 32
  rt : RtL s.log
  ring : s.ring.Ok
  rlim : s.ring.lim = 8
end LN
/-- No kill has more than B bytes. -/
def SmR (r : RS ByteArray) (B : Nat) : Prop := ∀ x ∈ r.l, x.size ≤ B
namespace LN
theorem RtL.new : RtL (LS.new ([], 0) 32) := ⟨⟨PlainP.nil, Nat.zero_le _, isB_zero _⟩, ⟨fun _ hb => absurd hb List.not_mem_nil, fun _ hb => absurd hb List.not_mem_nil⟩⟩
theorem RtL.does {l : LS Bf} (h : RtL l) {b : Bf} (hb : Rt b.1 b.2) (g : Int) : RtL (l.does b g) := by
  unfold LS.does
  split
  · exact h
  · refine ⟨hb, fun c hc => ?_, fun c hc => by cases hc⟩
    have hc' : c ∈ (if g ≤ 0 ∨ g ≠ l.opn then lastN l.lim (l.back ++ [l.now]) else l.back) := hc
    split at hc'
    · rcases List.mem_append.1 (List.mem_of_mem_drop hc') with h1 | h1
      · exact h.2.1 c h1
      · rw [List.mem_singleton.1 h1]; exact h.1
    · exact h.2.1 c hc'
theorem RtL.brk {l : LS Bf} (h : RtL l) : RtL l.brk := h
theorem RtL.move {l : LS Bf} (h : RtL l) {b : Bf} (hb : Rt b.1 b.2) : RtL (l.move b) := ⟨hb, h.2.1, h.2.2⟩
theorem RtL.wr {l : LS Bf} (h : RtL l) {b : Bf} (hb : Rt b.1 b.2) (g : Int) : RtL (wrG l b g) := by
  unfold wrG
  split
  · exact (h.does hb 0).brk
  · exact h.does hb g
theorem RtL.undo {l : LS Bf} (h : RtL l) : RtL l.undo := by
  by_cases hb : l.back = []
  · rw [show l.undo = l by unfold LS.undo; rw [if_pos hb]]; exact h
  · obtain ⟨r, y, hr⟩ : ∃ r y, l.back = r ++ [y] := ⟨_, _, (List.dropLast_concat_getLast hb).symm⟩
    rw [LS.undo_some hr]
    refine ⟨h.2.1 y (by rw [hr]; simp), fun c hc => h.2.1 c (by rw [hr]; exact List.mem_append_left _ hc), fun c hc => ?_⟩
    rcases List.mem_append.1 hc with h1 | h1
    · exact h.2.2 c h1
    · rw [List.mem_singleton.1 h1]; exact h.1
theorem RtL.redo {l : LS Bf} (h : RtL l) : RtL l.redo := by
  by_cases hb : l.forth = []
  · rw [show l.redo = l by unfold LS.redo; rw [if_pos hb]]; exact h
  · obtain ⟨r, y, hr⟩ : ∃ r y, l.forth = r ++ [y] := ⟨_, _, (List.dropLast_concat_getLast hb).symm⟩
    rw [LS.redo_some hr]
    refine ⟨h.2.2 y (by rw [hr]; simp), fun c hc => ?_, fun c hc => h.2.2 c (by rw [hr]; exact List.mem_append_left _ hc)⟩
    rcases List.mem_append.1 hc with h1 | h1
    · exact h.2.1 c h1
    · rw [List.mem_singleton.1 h1]; exact h.1
theorem wr_ok {l : LS Bf} (h : l.Ok) (b : Bf) (g : Int) : (wrG l b g).Ok := by
  unfold wrG
  split
  · exact (h.does b 0).brk
  · exact h.does b g
theorem does_lim (l : LS Bf) (b : Bf) (g : Int) : (l.does b g).lim = l.lim := by
  unfold LS.does
  split <;> rfl
theorem wr_lim (l : LS Bf) (b : Bf) (g : Int) : (wrG l b g).lim = l.lim := by
  unfold wrG
  split
  · exact does_lim l b 0
  · exact does_lim l b g
theorem undo_lim (l : LS Bf) : l.undo.lim = l.lim := by
  unfold LS.undo
  split <;> rfl
theorem redo_lim (l : LS Bf) : l.redo.lim = l.lim := by
  unfold LS.redo
  split <;> rfl
theorem Ok.new : LN.new.Ok := ⟨LS.Ok.new _ _, rfl, RtL.new, RS.Ok.new _, rfl⟩
theorem Ok.none {s : LN} (h : s.Ok) : Ok ⟨s.log, s.ring, .none⟩ := ⟨h.log, h.lim, h.rt, h.ring, h.rlim⟩
theorem Ok.put {s : LN} (h : s.Ok) {b : Bf} (hb : Rt b.1 b.2) (g : Int) : (s.put b g).Ok := ⟨wr_ok h.log b g, (wr_lim _ _ _).trans h.lim, h.rt.wr hb g, h.ring, h.rlim⟩
theorem insB_rt {b : Bf} (hb : Rt b.1 b.2) {p : List UInt8} (hp : PlainP p) (hf : fits b p) : Rt (insB b p).1 (insB b p).2 := ins_rt hb hp hf
theorem cutR_rt {b : Bf} (hb : Rt b.1 b.2) {f t : Nat} (hf : IsB b.1 f) (ht : IsB b.1 t) : Rt (cutR b.1 b.2 f t).1 (cutR b.1 b.2 f t).2.1 := by
  unfold cutR
  split
  · exact cut_rt hb hf ht (by assumption)
  · exact hb
theorem Ok.ins {s : LN} (h : s.Ok) (t : List UInt8) (g : Int) : (s.ins t g).Ok := by
  unfold LN.ins
  split
  · exact h.put (insB_rt h.rt.1 (plain_P t) (by assumption)) g
  · exact h.none
theorem Ok.cut {s : LN} (h : s.Ok) {f t : Nat} (hf : IsB s.buf.1 f) (ht : IsB s.buf.1 t) : (s.cut f t).Ok := h.put (cutR_rt h.rt.1 hf ht) 0
theorem Ok.move {s : LN} (h : s.Ok) {a : Nat} (ha : IsB s.buf.1 a) : (s.move a).Ok := ⟨(h.log.move _).brk, h.lim, h.rt.move ⟨h.rt.1.1, h.rt.1.2.1, ha⟩, h.ring, h.rlim⟩
theorem killed_ok {r : RS ByteArray} (h : r.Ok) (was : Lst) (ahead : Bool) (g : List UInt8) : (killed r was ahead g).Ok ∧ (killed r was ahead g).lim = r.lim := by
  unfold killed
  split
  · exact ⟨h, rfl⟩
  · split
    · exact ⟨h.change _, rfl⟩
    · exact ⟨h.push _, rfl⟩
theorem Ok.kill {s : LN} (h : s.Ok) {f t : Nat} (hf : IsB s.buf.1 f) (ht : IsB s.buf.1 t) (ahead : Bool) : (s.kill f t ahead).Ok := by
  have h1 := h.cut hf ht
  have h2 := killed_ok h.ring s.last ahead (s.gone f t)
  exact ⟨h1.log, h1.lim, h1.rt, h2.1, h2.2.trans h.rlim⟩
theorem yankAt_ok {log : LS Bf} (h1 : log.Ok) (h2 : log.lim = 32) (h3 : RtL log) {r : RS ByteArray} (h4 : r.Ok) (h5 : r.lim = 8) {b : Bf} (hb : Rt b.1 b.2) (x : ByteArray) (no : Lst) : (yankAt log r b x no).Ok := by
  unfold yankAt
  split
  · exact ⟨wr_ok h1 (insB b (plainL (bl x))) 0, (wr_lim log (insB b (plainL (bl x))) 0).trans h2, h3.wr (insB_rt hb (plain_P (bl x)) (by assumption)) 0, h4, h5⟩
  · exact ⟨h1, h2, h3, h4, h5⟩
theorem Ok.yank {s : LN} (h : s.Ok) : s.yank.Ok := by
  unfold LN.yank
  split
  · exact ⟨h.log, h.lim, h.rt, h.ring.home, h.rlim⟩
  · exact yankAt_ok h.log h.lim h.rt h.ring.home h.rlim h.rt.1 _ _
theorem Ok.pop {s : LN} (h : s.Ok) : s.pop.Ok := by
  unfold LN.pop
  split
  · exact yankAt_ok h.log h.lim h.rt h.ring.turn h.rlim (cutR_rt h.rt.1 (isB_back _ _) (isB_back _ _)) _ _
  · exact h.none
theorem Ok.undo {s : LN} (h : s.Ok) : s.undo.Ok := ⟨h.log.undo, (undo_lim _).trans h.lim, h.rt.undo, h.ring, h.rlim⟩
theorem Ok.redo {s : LN} (h : s.Ok) : s.redo.Ok := ⟨h.log.redo, (redo_lim _).trans h.lim, h.rt.redo, h.ring, h.rlim⟩
theorem Ok.set {s : LN} (h : s.Ok) (t : List UInt8) : (s.set t).Ok := h.put ⟨mS_P t, mS_len t, isB_all _⟩ 0
theorem Ok.change {s : LN} (h : s.Ok) (t : List UInt8) (n : Int) : (s.change t n).Ok := h.put (make_rt t n) 0
theorem Ok.add {s : LN} (h : s.Ok) (t : List UInt8) : (s.add t).Ok := by
  unfold LN.add
  split
  · rename_i hc
    unfold canAdd at hc
    rw [Bool.and_eq_true, decide_eq_true_eq] at hc
    exact h.put (insB_rt (b := (s.buf.1, s.buf.1.length)) ⟨h.rt.1.1, h.rt.1.2.1, isB_all _⟩ (plain_P t) hc.1) 0
  · exact ⟨h.log.brk, h.lim, h.rt, h.ring, h.rlim⟩
theorem Ok.clear {s : LN} (h : s.Ok) : s.clear.Ok := ⟨LS.Ok.new _ _, rfl, RtL.new, h.ring, h.rlim⟩
end LN
end
end Go.Proofs.Ytaeiffpdnlejbaa
