/-
  Keys over lists alone: what bytes that wait make, a paste, ticks. No program is named here.
-/
import Derived.Test.YtbkejjpkijjfaaaDoorFeedMath
import Derived.Test.YtbkejjpkijjfaaaDoorTextMath
namespace Go.Proofs.YtbkejjpkijjfaaaDoor
open Go

/-- A key: its kind, and its text. -/
abbrev KV := Nat × List UInt8
/-- The kinds of the bytes below 20. -/
def ctlsL : List Nat := [0, 7, 5, 0, 4, 8, 6, 22, 3, 23, 2, 11, 25, 2, 20, 0, 19, 0, 21, 0, 24, 12, 0, 13, 18, 15, 0, 0, 0, 0, 0, 17]
def arrowL (x : Nat) : Nat := if x = 65 then 19 else if x = 66 then 20 else if x = 67 then 6 else if x = 68 then 5 else if x = 72 then 7 else if x = 70 then 8 else 0
def metaL (x : Nat) : Nat := if x = 98 then 9 else if x = 102 then 10 else if x = 100 then 14 else if x = 121 then 16 else if x = 127 then 13 else 0
def midB (x : UInt8) : Bool := decide (32 ≤ x.toNat ∧ x.toNat ≤ 63)
def lastB (x : Nat) : Bool := decide (64 ≤ x ∧ x ≤ 126)
def pasteB : List UInt8 := [27, 91, 50, 48, 48, 126]
def pasteE : List UInt8 := [27, 91, 50, 48, 49, 126]
/-- The kind of a sequence by what is between, and its last byte. -/
def seqL (s : List UInt8) (x : Nat) : Nat :=
  if s = [] then arrowL x
  else if (s = [49, 59, 51] ∨ s = [49, 59, 53]) ∧ x = 67 then 10
  else if (s = [49, 59, 51] ∨ s = [49, 59, 53]) ∧ x = 68 then 9
  else if x ≠ 126 then 0
  else if s = [49] ∨ s = [55] then 7
  else if s = [52] ∨ s = [56] then 8
  else if s = [51] then 4 else 0
/-- How many bytes a sequence has ahead of its last one. -/
def csiN (b : List UInt8) : Nat := 2 + ((b.drop 2).takeWhile midB).length
/-- What a sequence makes: a kind, and how many bytes it is; 0: it waits. -/
def csiL (b : List UInt8) : Nat × Nat :=
  if csiN b = b.length ∨ b.take (csiN b + 1) = pasteB then (0, 0)
  else if lastB (b.getD (csiN b) 0).toNat = false then (0, csiN b)
  else (seqL ((b.take (csiN b)).drop 2) (b.getD (csiN b) 0).toNat, csiN b + 1)
def ss3L (b : List UInt8) : Nat × Nat :=
  if b.length = 2 then (0, 0)
  else if lastB (b.getD 2 0).toNat = false then (0, 2)
  else (arrowL (b.getD 2 0).toNat, 3)
def escL (b : List UInt8) : Nat × Nat :=
  if b.length = 1 then (0, 0)
  else if (b.getD 1 0).toNat = 91 then csiL b
  else if (b.getD 1 0).toNat = 79 then ss3L b
  else if (b.getD 1 0).toNat < 32 ∨ 127 < (b.getD 1 0).toNat then (27, 1)
  else (metaL (b.getD 1 0).toNat, 2)
/-- A sign's key. -/
def signK (r : Nat) : KV := if ctlL (r : Int) = true then (0, []) else (1, Lib.encodeRune (r : Int))
/-- What bytes make: a key, and how many bytes it is; 0: they wait. -/
def oneL (b : List UInt8) : KV × Nat :=
  if (b.getD 0 0).toNat = 27 then (((escL b).1, []), (escL b).2)
  else if (b.getD 0 0).toNat < 32 then ((ctlsL.getD (b.getD 0 0).toNat 0, []), 1)
  else if (b.getD 0 0).toNat = 127 then ((3, []), 1)
  else if wholeL b = true then (signK (Lib.decodeL b).1, (Lib.decodeL b).2)
  else ((0, []), 0)

theorem csiN_ge (b : List UInt8) : 2 ≤ csiN b := by unfold csiN; omega
theorem takeWhile_le (p : UInt8 → Bool) : ∀ l : List UInt8, (l.takeWhile p).length ≤ l.length
  | [] => by simp
  | x :: l => by
    have := takeWhile_le p l
    rw [List.takeWhile_cons]
    split <;> simp
    omega
theorem csiN_le (b : List UInt8) (h : 2 ≤ b.length) : csiN b ≤ b.length := by
  have := takeWhile_le midB (b.drop 2)
  rw [List.length_drop] at this
  unfold csiN; omega
theorem esc_le (b : List UInt8) (h : b ≠ []) : (escL b).2 ≤ b.length := by
  have h1 : 1 ≤ b.length := List.length_pos_iff.2 h
  have h2 := csiN_le b
  have h3 := csiN_ge b
  unfold escL csiL ss3L
  repeat' split
  all_goals simp only
  all_goals first | omega | skip
  all_goals simp_all
  all_goals omega
theorem one_le (b : List UInt8) (h : b ≠ []) : (oneL b).2 ≤ b.length := by
  have h1 : 1 ≤ b.length := List.length_pos_iff.2 h
  have h2 := esc_le b h
  have h3 := Lib.decodeL_le b h
  unfold oneL
  repeat' split
  all_goals simp only
  all_goals omega

def keysF : Nat → List UInt8 → List KV × List UInt8
  | 0, b => ([], b)
  | f + 1, b => if b = [] ∨ (oneL b).2 = 0 then ([], b) else ((oneL b).1 :: (keysF f (b.drop (oneL b).2)).1, (keysF f (b.drop (oneL b).2)).2)
/-- What bytes make as long as it can be told, and what waits then. -/
def keysL (b : List UInt8) : List KV × List UInt8 := keysF b.length b
theorem keysF_nil (f : Nat) : keysF f [] = ([], []) := by cases f <;> simp [keysF]
theorem keysF_more : ∀ (f g : Nat) (b : List UInt8), b.length ≤ f → b.length ≤ g → keysF f b = keysF g b
  | 0, g, b, hf, _ => by
    obtain rfl : b = [] := List.eq_nil_of_length_eq_zero (by omega)
    rw [keysF_nil, keysF_nil]
  | f + 1, 0, b, _, hg => by
    obtain rfl : b = [] := List.eq_nil_of_length_eq_zero (by omega)
    rw [keysF_nil, keysF_nil]
  | f + 1, g + 1, b, hf, hg => by
    by_cases hw : b = [] ∨ (oneL b).2 = 0
    · simp only [keysF, if_pos hw]
    · have h0 : 0 < b.length := List.length_pos_iff.2 (fun h => hw (.inl h))
      have hn : 0 < (oneL b).2 := by
        rcases Nat.eq_zero_or_pos (oneL b).2 with h | h
        · exact absurd (.inr h) hw
        · exact h
      simp only [keysF, if_neg hw]
      rw [keysF_more f g _ (by rw [List.length_drop]; omega) (by rw [List.length_drop]; omega)]
theorem keysL_nil : keysL [] = ([], []) := rfl
theorem keysL_stop (b : List UInt8) (h : (oneL b).2 = 0) : keysL b = ([], b) := by
  unfold keysL
  cases b.length <;> simp [keysF, h]
theorem keysL_step (b : List UInt8) (hb : b ≠ []) (h : (oneL b).2 ≠ 0) : keysL b = ((oneL b).1 :: (keysL (b.drop (oneL b).2)).1, (keysL (b.drop (oneL b).2)).2) := by
  have h0 : 0 < b.length := List.length_pos_iff.2 hb
  obtain ⟨x, t, rfl⟩ : ∃ x t, b = x :: t := by cases b <;> simp_all
  show keysF (t.length + 1) _ = _
  have hw : ¬ (x :: t = [] ∨ (oneL (x :: t)).2 = 0) := by simp [h]
  simp only [keysF, if_neg hw, keysL]
  rw [keysF_more t.length _ _ (by rw [List.length_drop]; simp; omega) (Nat.le_refl _)]
theorem keysF_rest : ∀ (f : Nat) (b : List UInt8), b.length ≤ f → (keysF f b).2 = [] ∨ (oneL (keysF f b).2).2 = 0
  | 0, b, h => by
    obtain rfl : b = [] := List.eq_nil_of_length_eq_zero (by omega)
    exact .inl rfl
  | f + 1, b, h => by
    by_cases hw : b = [] ∨ (oneL b).2 = 0
    · simp only [keysF, if_pos hw]; exact hw
    · have h0 : 0 < b.length := List.length_pos_iff.2 (fun h => hw (.inl h))
      have hn : 0 < (oneL b).2 := by
        rcases Nat.eq_zero_or_pos (oneL b).2 with h | h
        · exact absurd (.inr h) hw
        · exact h
      simp only [keysF, if_neg hw]
      exact keysF_rest f _ (by rw [List.length_drop]; omega)
theorem keys_rest (b : List UInt8) : (keysL b).2 = [] ∨ (oneL (keysL b).2).2 = 0 := keysF_rest _ _ (Nat.le_refl _)
theorem keysF_count : ∀ (f : Nat) (b : List UInt8), (keysF f b).1.length + (keysF f b).2.length ≤ b.length
  | 0, b => by simp [keysF]
  | f + 1, b => by
    by_cases hw : b = [] ∨ (oneL b).2 = 0
    · simp only [keysF, if_pos hw]; simp
    · have hn : 0 < (oneL b).2 := by
        rcases Nat.eq_zero_or_pos (oneL b).2 with h | h
        · exact absurd (.inr h) hw
        · exact h
      have h0 : b ≠ [] := fun h => hw (.inl h)
      have hle := one_le b h0
      have := keysF_count f (b.drop (oneL b).2)
      rw [List.length_drop] at this
      simp only [keysF, if_neg hw, List.length_cons]
      omega
theorem keys_count (b : List UInt8) : (keysL b).1.length + (keysL b).2.length ≤ b.length := keysF_count _ _

/-- A decoder: what waits, a paste's bytes, how many of its end came last, was there a tick? -/
structure Dec where
  w : List UInt8
  p : List UInt8
  e : Nat
  t : Bool
def Dec.zero : Dec := ⟨[], [], 0, false⟩
def keepL (p s : List UInt8) : List UInt8 := p ++ s.take (1200 - p.length)
def putP (d : Dec) (x : UInt8) : List KV × Dec :=
  if x = pasteE.getD d.e 0 then
    if d.e + 1 < 6 then ([], ⟨d.w, d.p, d.e + 1, false⟩) else ([(26, plainL d.p)], Dec.zero)
  else if x = 27 then ([], ⟨d.w, keepL d.p (pasteE.take d.e), 1, false⟩)
  else ([], ⟨d.w, keepL (keepL d.p (pasteE.take d.e)) [x], 0, false⟩)
def putD (d : Dec) (x : UInt8) : List KV × Dec :=
  if d.w = pasteB then putP d x
  else ((keysL (d.w ++ [x])).1, ⟨(keysL (d.w ++ [x])).2.take 19, d.p, d.e, false⟩)
def feedD (d : Dec) : List UInt8 → List KV × Dec
  | [] => ([], d)
  | x :: l => ((putD d x).1 ++ (feedD (putD d x).2 l).1, (feedD (putD d x).2 l).2)
def tickD (d : Dec) : List KV × Dec :=
  if d.w = [] ∨ d.w = pasteB then ([], d)
  else if d.t = false then ([], ⟨d.w, d.p, d.e, true⟩)
  else (if (d.w.getD 0 0).toNat ≠ 27 then (runes d.w).map signK else if d.w.length = 1 then [(27, [])] else [(0, [])], Dec.zero)
/-- What always holds of a decoder. -/
def Dec.Ok (d : Dec) : Prop := d.w.length ≤ 19 ∧ d.p.length ≤ 1200 ∧ d.e < 6 ∧ (d.w ≠ pasteB → d.p = [] ∧ d.e = 0)
theorem Dec.ok_zero : Dec.zero.Ok := ⟨by simp [Dec.zero], by simp [Dec.zero], by simp [Dec.zero], fun _ => ⟨rfl, rfl⟩⟩
theorem keepL_le (p s : List UInt8) (h : p.length ≤ 1200) : (keepL p s).length ≤ 1200 := by
  unfold keepL
  rw [List.length_append, List.length_take]
  omega
theorem pasteB_take (l : List UInt8) (h : l.take 19 = pasteB) : l = pasteB := by
  have hl : l.length = 6 := by
    have h2 := congrArg List.length h
    rw [List.length_take] at h2
    have : pasteB.length = 6 := rfl
    omega
  rwa [List.take_of_length_le (by omega)] at h
theorem put_ok (d : Dec) (x : UInt8) (h : d.Ok) : (putD d x).2.Ok := by
  obtain ⟨h1, h2, h3, h4⟩ := h
  unfold putD
  split
  · rename_i hw
    unfold putP
    repeat' split
    · exact ⟨h1, h2, by simp only; omega, fun hne => absurd hw hne⟩
    · exact Dec.ok_zero
    · exact ⟨h1, keepL_le _ _ h2, by simp only; omega, fun hne => absurd hw hne⟩
    · exact ⟨h1, keepL_le _ _ (keepL_le _ _ h2), by simp only; omega, fun hne => absurd hw hne⟩
  · rename_i hw
    exact ⟨by simp only [List.length_take]; omega, h2, h3, fun _ => h4 hw⟩
theorem feed_ok : ∀ (l : List UInt8) (d : Dec), d.Ok → (feedD d l).2.Ok
  | [], _, h => h
  | x :: l, d, h => feed_ok l _ (put_ok d x h)
theorem tick_ok (d : Dec) (h : d.Ok) : (tickD d).2.Ok := by
  unfold tickD
  split
  · exact h
  · split
    · exact h
    · exact Dec.ok_zero
theorem feedD_append : ∀ (a b : List UInt8) (d : Dec), feedD d (a ++ b) = ((feedD d a).1 ++ (feedD (feedD d a).2 b).1, (feedD (feedD d a).2 b).2)
  | [], b, d => by simp [feedD]
  | x :: a, b, d => by
    rw [List.cons_append]
    simp only [feedD]
    rw [feedD_append a b]
    simp
theorem feedD_one (d : Dec) (x : UInt8) : feedD d [x] = ((putD d x).1, (putD d x).2) := by simp [feedD]
theorem putP_count (d : Dec) (x : UInt8) : (putP d x).1.length ≤ 1 := by
  unfold putP
  repeat' split
  all_goals simp
theorem put_count (d : Dec) (x : UInt8) (h : d.Ok) : (putD d x).1.length ≤ 20 := by
  have h1 := h.1
  unfold putD
  split
  · have := putP_count d x; omega
  · have := keys_count (d.w ++ [x])
    rw [List.length_append] at this
    simp at this ⊢
    omega
theorem feed_count : ∀ (l : List UInt8) (d : Dec), d.Ok → (feedD d l).1.length ≤ 20 * l.length
  | [], _, _ => by simp [feedD]
  | x :: l, d, h => by
    have h1 := put_count d x h
    have h2 := feed_count l _ (put_ok d x h)
    simp only [feedD, List.length_append, List.length_cons]
    omega
end Go.Proofs.YtbkejjpkijjfaaaDoor
