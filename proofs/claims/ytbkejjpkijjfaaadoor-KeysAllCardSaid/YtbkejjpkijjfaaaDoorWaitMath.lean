/-
  What may wait in a decoder, over lists alone: what a byte below 20 ends, what a key is. No program is named here.
-/
import Derived.Test.YtbkejjpkijjfaaaDoorKeyMath
import Derived.Test.YtbkejjpkijjfaaaDoorEnc
namespace Go.Proofs.YtbkejjpkijjfaaaDoor
open Go

/-- What may wait. -/
def Wait (w : List UInt8) : Prop :=
  w = [] ∨ w = [27] ∨ w = [27, 79] ∨ (∃ m, w = 27 :: 91 :: m ∧ ∀ x ∈ m, midB x = true) ∨ w = pasteB ∨ (128 ≤ (w.getD 0 0).toNat ∧ wholeL w = false)
theorem whole_short (w : List UInt8) (h : wholeL w = false) : w.length ≤ 3 := by
  rcases Nat.lt_or_ge 3 w.length with h3 | h3
  · rw [whole_long w h3] at h; cases h
  · exact h3
theorem all_mid (b : List UInt8) (h2 : 2 ≤ b.length) (h : csiN b = b.length) : ∀ x ∈ b.drop 2, midB x = true := by
  have aux : ∀ l : List UInt8, (l.takeWhile midB).length = l.length → ∀ x ∈ l, midB x = true := by
    intro l
    induction l with
    | nil => intro _ x hx; simp at hx
    | cons y t ih =>
      intro hl x hx
      rw [List.takeWhile_cons] at hl
      split at hl
      · rename_i hy
        rcases List.mem_cons.1 hx with rfl | hx
        · exact hy
        · exact ih (by simpa using hl) x hx
      · simp at hl
  refine aux _ ?_
  unfold csiN at h
  rw [List.length_drop]; omega
/-- Of what waits the shape is told. -/
theorem wait_of (r : List UInt8) (h : r = [] ∨ (oneL r).2 = 0) (hp : r.take 6 = pasteB → r = pasteB) : Wait r := by
  rcases h with h | h
  · exact .inl h
  by_cases hn : r = []
  · exact .inl hn
  obtain ⟨x, t, rfl⟩ : ∃ x t, r = x :: t := by cases r <;> simp_all
  unfold oneL at h
  simp only [List.getD_cons_zero] at h
  split at h
  · rename_i h27
    obtain rfl : x = 27 := UInt8.toNat_inj.1 (by rw [h27]; rfl)
    simp only at h
    unfold escL at h
    split at h
    · rename_i hl
      obtain rfl : t = [] := by simpa using hl
      exact .inr (.inl rfl)
    · rename_i hl
      obtain ⟨y, u, rfl⟩ : ∃ y u, t = y :: u := by cases t <;> simp_all
      simp only [List.getD_cons_succ, List.getD_cons_zero] at h
      split at h
      · rename_i h91
        obtain rfl : y = 91 := UInt8.toNat_inj.1 (by rw [h91]; rfl)
        unfold csiL at h
        have hg := csiN_ge (27 :: 91 :: u)
        split at h
        · rename_i hc
          rcases hc with hc | hc
          · exact .inr (.inr (.inr (.inl ⟨u, rfl, by simpa using all_mid (27 :: 91 :: u) (by simp) hc⟩)))
          · have h6 : csiN (27 :: 91 :: u) + 1 = 6 ∨ (27 :: 91 :: u).length = 6 := by
              have := congrArg List.length hc
              rw [List.length_take] at this
              have e : pasteB.length = 6 := rfl
              omega
            rcases h6 with h6 | h6
            · rw [h6] at hc
              exact .inr (.inr (.inr (.inr (.inl (hp hc)))))
            · have h7 : 6 ≤ csiN (27 :: 91 :: u) + 1 := by
                have := congrArg List.length hc
                rw [List.length_take] at this
                have e : pasteB.length = 6 := rfl
                omega
              rw [List.take_of_length_le (by omega)] at hc
              exact .inr (.inr (.inr (.inr (.inl hc))))
        · split at h
          · simp only at h; omega
          · simp only at h; omega
      · split at h
        · rename_i h79
          obtain rfl : y = 79 := UInt8.toNat_inj.1 (by rw [h79]; rfl)
          unfold ss3L at h
          split at h
          · rename_i hl2
            obtain rfl : u = [] := by simpa using hl2
            exact .inr (.inr (.inl rfl))
          · split at h <;> simp at h
        · split at h <;> simp at h
  · split at h
    · simp at h
    · split at h
      · simp at h
      · split at h
        · have := Lib.decodeL_width (x :: t)
          simp only at h
          omega
        · rename_i h1 h2 h3 h4
          have h5 : wholeL (x :: t) = false := by simpa using h4
          refine .inr (.inr (.inr (.inr (.inr ⟨?_, h5⟩))))
          rcases Nat.lt_or_ge x.toNat 128 with h6 | h6
          · rw [whole_ascii (x :: t) (by simp) (by simpa using h6)] at h5; cases h5
          · simpa using h6
theorem keys_suffix_aux : ∀ (f : Nat) (b : List UInt8), ∃ k, k ≤ b.length ∧ (keysF f b).2 = b.drop k
  | 0, b => ⟨0, by omega, rfl⟩
  | f + 1, b => by
    by_cases hw : b = [] ∨ (oneL b).2 = 0
    · exact ⟨0, by omega, by simp only [keysF, if_pos hw]; rfl⟩
    · have hle := one_le b (fun h => hw (.inl h))
      obtain ⟨k, hk, e⟩ := keys_suffix_aux f (b.drop (oneL b).2)
      rw [List.length_drop] at hk
      exact ⟨(oneL b).2 + k, by omega, by simp only [keysF, if_neg hw]; rw [e, List.drop_drop]⟩
theorem keys_suffix (b : List UInt8) : ∃ k, k ≤ b.length ∧ (keysL b).2 = b.drop k := keys_suffix_aux _ _
/-- No paste begins within what may wait. -/
theorem wait_np (w : List UInt8) (h : Wait w) (hp : w ≠ pasteB) (k : Nat) : (w.drop k).take 6 ≠ pasteB := by
  intro he
  have hl : 6 ≤ (w.drop k).length := by
    have := congrArg List.length he
    rw [List.length_take] at this
    have e : pasteB.length = 6 := rfl
    omega
  rw [List.length_drop] at hl
  rcases h with rfl | rfl | rfl | ⟨m, rfl, hm⟩ | h | ⟨_, h⟩
  · simp at hl
  · simp at hl; omega
  · simp at hl; omega
  · have g0 := congrArg (fun l : List UInt8 => l[0]?) he
    have g5 := congrArg (fun l : List UInt8 => l[5]?) he
    simp only [List.getElem?_take, List.getElem?_drop] at g0 g5
    rw [if_pos (by decide)] at g0 g5
    have e0 : pasteB[0]? = some 27 := rfl
    have e5 : pasteB[5]? = some 126 := rfl
    rw [e0] at g0
    rw [e5] at g5
    have key : ∀ j x, (27 :: 91 :: m)[j + 2]? = some x → midB x = true := fun j x hx => hm x (List.mem_of_getElem? (by simpa using hx))
    have := key (k + 3) 126 (by rw [show k + 3 + 2 = k + 5 by omega]; exact g5)
    revert this; decide
  · exact hp h
  · have := whole_short w h; omega
theorem wait_rest (w : List UInt8) (x : UInt8) (h : Wait w) (hp : w ≠ pasteB) : Wait (keysL (w ++ [x])).2 := by
  obtain ⟨k, hk, e⟩ := keys_suffix (w ++ [x])
  refine wait_of _ (keys_rest _) fun ht => ?_
  rw [e] at ht ⊢
  rcases Nat.lt_or_ge w.length k with hkw | hkw
  · rw [List.drop_eq_nil_of_le (by simp; omega)] at ht
    exact absurd ht (by decide)
  · rw [List.drop_append_of_le_length hkw] at ht ⊢
    rcases Nat.lt_or_ge (w.drop k).length 6 with h6 | h6
    · rwa [List.take_of_length_le (by simp at h6 ⊢; omega)] at ht
    · rw [List.take_append_of_le_length h6] at ht
      exact absurd ht (wait_np w h hp k)
theorem wait_take (w : List UInt8) (h : Wait w) : Wait (w.take 19) := by
  by_cases hl : w.length ≤ 19
  · rwa [List.take_of_length_le hl]
  rcases h with rfl | rfl | rfl | ⟨m, rfl, hm⟩ | h | ⟨_, h⟩
  · simp at hl
  · simp at hl
  · simp at hl
  · exact .inr (.inr (.inr (.inl ⟨m.take 17, rfl, fun x hx => hm x (List.mem_of_mem_take hx)⟩)))
  · rw [h] at hl; exact absurd (by decide) hl
  · have := whole_short w h; omega
theorem partial_high (w : List UInt8) (h0 : 128 ≤ (w.getD 0 0).toNat) (h : wholeL w = false) : ∀ x ∈ w, 128 ≤ x.toNat := by
  have h3 := whole_short w h
  unfold wholeL at h
  have hh := of_decide_eq_false h
  have hpos : 0 < w.length := by
    cases w with
    | nil => simp at h0
    | cons => simp
  have h240 : Lib.firstT (w.getD 0 0).toNat < 240 := by
    rcases Nat.lt_or_ge (Lib.firstT (w.getD 0 0).toNat) 240 with g | g
    · exact g
    · have := (first_big (w.getD 0 0).toNat (by omega) 0 0 0 0).2
      exact absurd ⟨hpos, .inl (by omega)⟩ hh
  have hlo : 128 ≤ Lib.accLo (Lib.firstT (w.getD 0 0).toNat / 16) := by
    rcases class_of _ h240 with ⟨_, g, _⟩ | ⟨_, g, _⟩ | ⟨_, g, _⟩ | ⟨_, g, _⟩ | ⟨_, g, _⟩ <;> omega
  have h1 : 1 < w.length → 128 ≤ (w.getD 1 0).toNat := fun g => by
    rcases Nat.lt_or_ge (w.getD 1 0).toNat 128 with k | k
    · exact absurd ⟨hpos, .inr (.inl ⟨g, .inl (by omega)⟩)⟩ hh
    · exact k
  have h2 : 2 < w.length → 128 ≤ (w.getD 2 0).toNat := fun g => by
    rcases Nat.lt_or_ge (w.getD 2 0).toNat 128 with k | k
    · exact absurd ⟨hpos, .inr (.inr ⟨g, .inl k⟩)⟩ hh
    · exact k
  clear hh h hlo h240
  intro x hx
  obtain ⟨j, hj, rfl⟩ := List.getElem_of_mem hx
  have e : w.getD j 0 = w[j] := by simp [List.getD, hj]
  rw [← e]
  match j, hj with
  | 0, _ => exact h0
  | 1, hj => exact h1 hj
  | 2, hj => exact h2 hj
  | j + 3, hj => omega
theorem wait_no12 (w : List UInt8) (h : Wait w) : (12 : UInt8) ∉ w := by
  rcases h with rfl | rfl | rfl | ⟨m, rfl, hm⟩ | rfl | ⟨h0, h⟩
  · simp
  · decide
  · decide
  · intro hx
    rcases List.mem_cons.1 hx with hx | hx
    · revert hx; decide
    · rcases List.mem_cons.1 hx with hx | hx
      · revert hx; decide
      · exact absurd (hm _ hx) (by decide)
  · decide
  · intro hx
    have := partial_high w h0 h _ hx
    revert this; decide
theorem last_at (y : List UInt8) (h : y.getLast? = some 12) : y ≠ [] ∧ y.getD (y.length - 1) 0 = 12 := by
  rw [List.getLast?_eq_getElem?] at h
  refine ⟨fun e => by subst e; simp at h, ?_⟩
  simp [List.getD, h]
/-- What is made of bytes that end with 0c, all of them: that alone. -/
theorem one_all (y : List UInt8) (hl : y.getLast? = some 12) (hn : (oneL y).2 = y.length) : (oneL y).1 = (25, []) := by
  obtain ⟨hne, h12⟩ := last_at y hl
  have hpos : 0 < y.length := List.length_pos_iff.2 hne
  have at_ : ∀ n, y.length = n + 1 → (y.getD n 0) = 12 := fun n hn => by rw [show n = y.length - 1 by omega]; exact h12
  unfold oneL at hn ⊢
  split at hn
  · rename_i h27
    exfalso
    simp only at hn
    unfold escL at hn
    split at hn
    · simp only at hn; omega
    · split at hn
      · unfold csiL at hn
        split at hn
        · simp only at hn; omega
        · rename_i hc
          split at hn
          · exact hc (.inl hn)
          · rename_i hb
            simp only at hn
            rw [at_ _ hn.symm] at hb
            exact hb (by decide)
      · split at hn
        · unfold ss3L at hn
          split at hn
          · simp only at hn; omega
          · split at hn
            · simp only at hn; omega
            · rename_i hb
              simp only at hn
              rw [at_ 2 hn.symm] at hb
              exact hb (by decide)
        · split at hn
          · simp only at hn; omega
          · rename_i hb
            simp only at hn
            rw [at_ 1 hn.symm] at hb
            exact hb (by decide)
  · rename_i h27
    rw [if_neg h27]
    split at hn
    · rename_i h32
      simp only at hn
      rw [if_pos h32, at_ 0 hn.symm]
      rfl
    · rename_i h32
      exfalso
      split at hn
      · rename_i h127
        simp only at hn
        rw [at_ 0 hn.symm] at h127
        revert h127; decide
      · split at hn
        · simp only at hn
          rw [Lib.decodeL_N] at hn
          rcases Lib.decodeN_shape y.length (y.getD 0 0).toNat (y.getD 1 0).toNat (y.getD 2 0).toNat (y.getD 3 0).toNat with ⟨_, e⟩ | ⟨_, _, h1, _, e⟩ | ⟨_, _, _, h2, _, _, e⟩ | ⟨_, _, _, _, h3, _, _, e⟩ | e
          · rw [e] at hn; rw [at_ 0 hn.symm] at h32; exact h32 (by decide)
          · rw [e] at hn; rw [at_ 1 hn.symm] at h1; revert h1; decide
          · rw [e] at hn; rw [at_ 2 hn.symm] at h2; revert h2; decide
          · rw [e] at hn; rw [at_ 3 hn.symm] at h3; revert h3; decide
          · rw [e] at hn; rw [at_ 0 hn.symm] at h32; exact h32 (by decide)
        · simp only at hn; omega
theorem keys_last : ∀ (n : Nat) (y : List UInt8), y.length ≤ n → y.getLast? = some 12 → (keysL y).2 = [] → ∃ ks, (keysL y).1 = ks ++ [(25, [])]
  | 0, y, hn, hl, _ => by
    obtain ⟨hne, _⟩ := last_at y hl
    exact absurd (List.eq_nil_of_length_eq_zero (by omega)) hne
  | n + 1, y, hn, hl, hr => by
    obtain ⟨hne, _⟩ := last_at y hl
    have h0 : (oneL y).2 ≠ 0 := fun e => hne (by rw [keysL_stop y e] at hr; exact hr)
    have hle := one_le y hne
    rw [keysL_step y hne h0] at hr ⊢
    simp only at hr ⊢
    by_cases hall : (oneL y).2 = y.length
    · exact ⟨[], by rw [one_all y hl hall, hall, List.drop_length, keysL_nil]; rfl⟩
    · have hl2 : (y.drop (oneL y).2).getLast? = some 12 := by
        rw [List.getLast?_drop, if_neg (by omega)]; exact hl
      obtain ⟨ks, e⟩ := keys_last n (y.drop (oneL y).2) (by rw [List.length_drop]; omega) hl2 hr
      exact ⟨(oneL y).1 :: ks, by rw [e]; rfl⟩
/-- Behind 0c nothing waits, and that is told last. -/
theorem keys_after (w : List UInt8) (h : Wait w) (hp : w ≠ pasteB) : (keysL (w ++ [12])).2 = [] ∧ ∃ ks, (keysL (w ++ [12])).1 = ks ++ [(25, [])] := by
  have hr : (keysL (w ++ [12])).2 = [] := by
    obtain ⟨k, hk, e⟩ := keys_suffix (w ++ [12])
    have hw := wait_no12 _ (wait_rest w 12 h hp)
    rcases Nat.lt_or_ge w.length k with hkw | hkw
    · rw [e]; exact List.drop_eq_nil_of_le (by simp; omega)
    · rw [e, List.drop_append_of_le_length hkw] at hw
      exact absurd (by simp) hw
  exact ⟨hr, keys_last _ _ (Nat.le_refl _) (by simp) hr⟩
/-- A decoder that bytes and ticks have made. -/
def Dec.Good (d : Dec) : Prop := d.Ok ∧ Wait d.w
theorem Dec.good_zero : Dec.zero.Good := ⟨Dec.ok_zero, .inl rfl⟩
theorem put_good (d : Dec) (x : UInt8) (h : d.Good) : (putD d x).2.Good := by
  refine ⟨put_ok d x h.1, ?_⟩
  unfold putD
  split
  · rename_i hw
    unfold putP
    repeat' split
    all_goals first | exact .inl rfl | exact h.2
  · rename_i hw
    exact wait_take _ (wait_rest _ x h.2 hw)
theorem feed_good : ∀ (l : List UInt8) (d : Dec), d.Good → (feedD d l).2.Good
  | [], _, h => h
  | x :: l, d, h => feed_good l _ (put_good d x h)
theorem tick_good (d : Dec) (h : d.Good) : (tickD d).2.Good := by
  refine ⟨tick_ok d h.1, ?_⟩
  unfold tickD
  split
  · exact h.2
  · split
    · exact h.2
    · exact .inl rfl
/-- Behind two ticks nothing waits but a paste. -/
theorem two_ticks (d : Dec) : ((tickD (tickD d).2).2.w = [] ∨ (tickD (tickD d).2).2.w = pasteB) ∧ (tickD (tickD (tickD d).2).2).1 = [] := by
  have key : ∀ e : Dec, e.w = [] ∨ e.w = pasteB → tickD e = ([], e) := fun e he => by unfold tickD; rw [if_pos he]
  by_cases h : d.w = [] ∨ d.w = pasteB
  · rw [key d h]
    simp only
    rw [key d h]
    simp only
    rw [key d h]
    exact ⟨h, rfl⟩
  · have hz : tickD Dec.zero = ([], Dec.zero) := key _ (.inl rfl)
    cases ht : d.t with
    | false =>
      have e1 : (tickD d).2 = ⟨d.w, d.p, d.e, true⟩ := by unfold tickD; rw [if_neg h, if_pos ht]
      have e2 : (tickD ⟨d.w, d.p, d.e, true⟩).2 = Dec.zero := by unfold tickD; rw [if_neg h, if_neg (by simp)]
      rw [e1, e2, hz]
      exact ⟨.inl rfl, rfl⟩
    | true =>
      have e1 : (tickD d).2 = Dec.zero := by unfold tickD; rw [if_neg h, if_neg (by simp [ht])]
      rw [e1, hz]
      simp only [hz]
      exact ⟨.inl rfl, trivial⟩
end Go.Proofs.YtbkejjpkijjfaaaDoor
