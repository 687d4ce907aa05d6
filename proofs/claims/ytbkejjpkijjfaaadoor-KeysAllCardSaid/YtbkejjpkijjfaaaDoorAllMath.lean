/-
  All keys, over lists alone: the document's answer (all that waits is read from its first byte on, again and again) beside the decoder's. No program is named here.
-/
import Derived.Test.YtbkejjpkijjfaaaDoorWaitMath
import Derived.Test.YtbkejjpkijjfaaaDoorPasteMath
namespace Go.Proofs.YtbkejjpkijjfaaaDoor
open Go

/-- Where the end of a paste begins, from a place on. -/
def endF : Nat → List UInt8 → Nat → Option Nat
  | 0, _, _ => none
  | f + 1, b, k => if k + 6 ≤ b.length then (if (b.drop k).take 6 = pasteE then some k else endF f b (k + 1)) else none
def endL (b : List UInt8) (k : Nat) : Option Nat := endF (b.length + 1) b k
theorem take6_len {b : List UInt8} {j : Nat} (h : (b.drop j).take 6 = pasteE) : j + 6 ≤ b.length := by
  have := congrArg List.length h
  rw [List.length_take, List.length_drop] at this
  have e6 : pasteE.length = 6 := rfl
  omega
theorem endF_none : ∀ (f : Nat) (b : List UInt8) (k : Nat), (∀ j, k ≤ j → (b.drop j).take 6 ≠ pasteE) → endF f b k = none
  | 0, _, _, _ => rfl
  | f + 1, b, k, h => by
    simp only [endF]
    rw [if_neg (h k (Nat.le_refl _)), endF_none f b (k + 1) (fun j hj => h j (by omega))]
    split <;> rfl
theorem endF_at : ∀ (f : Nat) (b : List UInt8) (k a : Nat), k ≤ a → a < k + f → (b.drop a).take 6 = pasteE → (∀ j, k ≤ j → j < a → (b.drop j).take 6 ≠ pasteE) → endF f b k = some a
  | 0, _, _, _, h1, h2, _, _ => by omega
  | f + 1, b, k, a, h1, h2, h3, h4 => by
    have hl := take6_len h3
    simp only [endF]
    rw [if_pos (by omega)]
    rcases Nat.lt_or_eq_of_le h1 with h | h
    · rw [if_neg (h4 k (Nat.le_refl _) h), endF_at f b (k + 1) a (by omega) (by omega) h3 (fun j hj => h4 j (by omega))]
    · rw [h, if_pos h3]
theorem endF_le : ∀ (f : Nat) (b : List UInt8) (k a : Nat), endF f b k = some a → k ≤ a ∧ a + 6 ≤ b.length
  | 0, _, _, _, h => by cases h
  | f + 1, b, k, a, h => by
    simp only [endF] at h
    split at h
    · split at h
      · injection h with h; omega
      · have := endF_le f b (k + 1) a h; omega
    · cases h
/-- What bytes make, as the document says it: a key, and how many bytes it is; 0: they wait. -/
def oneR (b : List UInt8) : KV × Nat :=
  if b.take 6 = pasteB then
    match endL b 6 with
    | none => ((0, []), 0)
    | some a => ((26, plainL (((b.take a).drop 6).take 1200)), a + 6)
  else oneL b
theorem oneR_le (b : List UInt8) (h : b ≠ []) : (oneR b).2 ≤ b.length := by
  unfold oneR
  split
  · cases he : endL b 6 with
    | none => exact Nat.zero_le _
    | some a => exact (endF_le _ _ _ _ he).2
  · exact one_le b h
def keysRF : Nat → List UInt8 → List KV × List UInt8
  | 0, b => ([], b)
  | f + 1, b => if b = [] ∨ (oneR b).2 = 0 then ([], b) else ((oneR b).1 :: (keysRF f (b.drop (oneR b).2)).1, (keysRF f (b.drop (oneR b).2)).2)
/-- What bytes make as long as it can be told, and what waits then, as the document says it. -/
def keysR (b : List UInt8) : List KV × List UInt8 := keysRF b.length b
theorem keysRF_nil (f : Nat) : keysRF f [] = ([], []) := by cases f <;> simp [keysRF]
theorem keysRF_more : ∀ (f g : Nat) (b : List UInt8), b.length ≤ f → b.length ≤ g → keysRF f b = keysRF g b
  | 0, g, b, hf, _ => by
    obtain rfl : b = [] := List.eq_nil_of_length_eq_zero (by omega)
    rw [keysRF_nil, keysRF_nil]
  | f + 1, 0, b, _, hg => by
    obtain rfl : b = [] := List.eq_nil_of_length_eq_zero (by omega)
    rw [keysRF_nil, keysRF_nil]
  | f + 1, g + 1, b, hf, hg => by
    by_cases hw : b = [] ∨ (oneR b).2 = 0
    · simp only [keysRF, if_pos hw]
    · have h0 : 0 < b.length := List.length_pos_iff.2 (fun h => hw (.inl h))
      have hn : 0 < (oneR b).2 := by
        rcases Nat.eq_zero_or_pos (oneR b).2 with h | h
        · exact absurd (.inr h) hw
        · exact h
      simp only [keysRF, if_neg hw]
      rw [keysRF_more f g _ (by rw [List.length_drop]; omega) (by rw [List.length_drop]; omega)]
theorem keysR_nil : keysR [] = ([], []) := rfl
theorem keysR_stop (b : List UInt8) (h : (oneR b).2 = 0) : keysR b = ([], b) := by
  unfold keysR
  cases b.length <;> simp [keysRF, h]
theorem keysR_step (b : List UInt8) (hb : b ≠ []) (h : (oneR b).2 ≠ 0) : keysR b = ((oneR b).1 :: (keysR (b.drop (oneR b).2)).1, (keysR (b.drop (oneR b).2)).2) := by
  have h0 : 0 < b.length := List.length_pos_iff.2 hb
  obtain ⟨x, t, rfl⟩ : ∃ x t, b = x :: t := by cases b <;> simp_all
  show keysRF (t.length + 1) _ = _
  have hw : ¬ (x :: t = [] ∨ (oneR (x :: t)).2 = 0) := by simp [h]
  simp only [keysRF, if_neg hw, keysR]
  rw [keysRF_more t.length _ _ (by rw [List.length_drop]; simp; omega) (Nat.le_refl _)]
theorem pasteB_waits : oneL pasteB = ((0, []), 0) := by decide
theorem oneR_pasteB : oneR pasteB = ((0, []), 0) := by decide
/-- Where no paste begins but at the very end, both read the same. -/
theorem keysRF_same : ∀ (f : Nat) (b : List UInt8), (∀ k, (b.drop k).take 6 = pasteB → b.drop k = pasteB) → keysRF f b = keysF f b
  | 0, _, _ => rfl
  | f + 1, b, h => by
    have e : oneR b = oneL b := by
      by_cases hp : b.take 6 = pasteB
      · have := h 0 (by simpa using hp)
        rw [List.drop_zero] at this
        rw [this, oneR_pasteB, pasteB_waits]
      · unfold oneR; rw [if_neg hp]
    simp only [keysRF, keysF, e]
    rw [keysRF_same f (b.drop (oneL b).2) (fun k hk => by rw [List.drop_drop] at hk ⊢; exact h _ hk)]
theorem keysR_same (b : List UInt8) (h : ∀ k, (b.drop k).take 6 = pasteB → b.drop k = pasteB) : keysR b = keysL b := keysRF_same _ _ h
/-- Behind what waits, and one byte more, a paste begins only with that byte. -/
theorem wait_snoc (w : List UInt8) (x : UInt8) (h : Wait w) (hp : w ≠ pasteB) : ∀ k, ((w ++ [x]).drop k).take 6 = pasteB → (w ++ [x]).drop k = pasteB := by
  intro k ht
  rcases Nat.lt_or_ge w.length k with hkw | hkw
  · rw [List.drop_eq_nil_of_le (by simp; omega)] at ht
    exact absurd ht (by decide)
  · rw [List.drop_append_of_le_length hkw] at ht ⊢
    rcases Nat.lt_or_ge (w.drop k).length 6 with h6 | h6
    · rwa [List.take_of_length_le (by simp at h6 ⊢; omega)] at ht
    · rw [List.take_append_of_le_length h6] at ht
      exact absurd ht (wait_np w h hp k)
theorem takeWhile_all (m : List UInt8) (x : UInt8) (h : ∀ y ∈ m, midB y = true) : (m ++ [x]).takeWhile midB = if midB x = true then m ++ [x] else m := by
  induction m with
  | nil => simp only [List.nil_append, List.takeWhile_cons, List.takeWhile_nil]
  | cons y t ih =>
    rw [List.cons_append, List.takeWhile_cons, if_pos (h y (List.mem_cons_self ..)), ih (fun z hz => h z (List.mem_cons_of_mem _ hz))]
    split <;> rfl
/-- A sequence with so much between that it is no key. -/
theorem long_csi (m : List UInt8) (x : UInt8) (hm : ∀ y ∈ m, midB y = true) (hl : 5 ≤ m.length) :
    keysL (27 :: 91 :: m ++ [x]) = if midB x = true then ([], 27 :: 91 :: m ++ [x]) else if lastB x.toNat = true then ([(0, [])], []) else ((0, []) :: (keysL [x]).1, (keysL [x]).2) := by
  have hd : (27 :: 91 :: m ++ [x] : List UInt8).drop 2 = m ++ [x] := rfl
  have hlen : (27 :: 91 :: m ++ [x] : List UInt8).length = m.length + 3 := by simp
  have hone : oneL (27 :: 91 :: m ++ [x]) = (((csiL (27 :: 91 :: m ++ [x])).1, []), (csiL (27 :: 91 :: m ++ [x])).2) := by
    have h0 : ((27 :: 91 :: m ++ [x] : List UInt8).getD 0 0).toNat = 27 := rfl
    have h1 : ((27 :: 91 :: m ++ [x] : List UInt8).getD 1 0).toNat = 91 := rfl
    unfold oneL
    rw [if_pos h0]
    unfold escL
    rw [if_neg (by rw [hlen]; omega), if_pos h1]
  have hne : (27 :: 91 :: m ++ [x] : List UInt8) ≠ [] := by simp
  by_cases hx : midB x = true
  · rw [if_pos hx]
    have hn : csiN (27 :: 91 :: m ++ [x]) = m.length + 3 := by
      unfold csiN
      rw [hd, takeWhile_all m x hm, if_pos hx]
      simp; omega
    refine keysL_stop _ ?_
    rw [hone]
    unfold csiL
    rw [if_pos (.inl (by rw [hn, hlen]))]
  · have hn : csiN (27 :: 91 :: m ++ [x]) = m.length + 2 := by
      unfold csiN
      rw [hd, takeWhile_all m x hm, if_neg hx]
      omega
    have hg : (27 :: 91 :: m ++ [x] : List UInt8).getD (m.length + 2) 0 = x := by
      rw [show (27 :: 91 :: m ++ [x] : List UInt8) = (27 :: 91 :: m) ++ [x] from rfl]
      simp [List.getD_eq_getElem?_getD]
    have hnp : ¬ (csiN (27 :: 91 :: m ++ [x]) = (27 :: 91 :: m ++ [x] : List UInt8).length ∨ (27 :: 91 :: m ++ [x] : List UInt8).take (csiN (27 :: 91 :: m ++ [x]) + 1) = pasteB) := by
      rw [hn, hlen]
      rintro (h | h)
      · omega
      · have := congrArg List.length h
        rw [List.length_take, hlen] at this
        have e6 : pasteB.length = 6 := rfl
        omega
    rw [if_neg hx]
    by_cases hy : lastB x.toNat = true
    · rw [if_pos hy]
      have hs : ∀ s : List UInt8, s = m → seqL s x.toNat = 0 := by
        rintro s rfl
        unfold seqL
        have l1 : ∀ t : List UInt8, t.length < 5 → s ≠ t := fun t ht e => by rw [e] at hl; omega
        rw [if_neg (l1 [] (by decide)), if_neg (fun h => by rcases h.1 with h | h <;> exact l1 _ (by decide) h), if_neg (fun h => by rcases h.1 with h | h <;> exact l1 _ (by decide) h)]
        split
        · rfl
        · rw [if_neg (fun h => by rcases h with h | h <;> exact l1 _ (by decide) h), if_neg (fun h => by rcases h with h | h <;> exact l1 _ (by decide) h), if_neg (l1 _ (by decide))]
      have hc : csiL (27 :: 91 :: m ++ [x]) = (0, m.length + 3) := by
        unfold csiL
        rw [if_neg hnp, hn, hg, if_neg (by rw [hy]; decide)]
        rw [hs _ (by
          rw [show (27 :: 91 :: m ++ [x] : List UInt8) = (27 :: 91 :: m) ++ [x] from rfl, List.take_append_of_le_length (by simp), List.take_of_length_le (by simp)]
          rfl)]
      rw [keysL_step _ hne (by rw [hone, hc]; simp), hone, hc]
      simp only
      rw [List.drop_eq_nil_of_le (by rw [hlen]; omega)]
      rfl
    · rw [if_neg hy]
      have hc : csiL (27 :: 91 :: m ++ [x]) = (0, m.length + 2) := by
        unfold csiL
        rw [if_neg hnp, hn, hg, if_pos (by simpa using hy)]
      have hdr : (27 :: 91 :: m ++ [x] : List UInt8).drop (m.length + 2) = [x] := by
        rw [show (27 :: 91 :: m ++ [x] : List UInt8) = (27 :: 91 :: m) ++ [x] from rfl, List.drop_append_of_le_length (by simp), List.drop_eq_nil_of_le (by simp)]
        rfl
      rw [keysL_step _ hne (by rw [hone, hc]; simp), hone, hc]
      simp only
      rw [hdr]
/-- Of what waits the first 19 bytes tell as much as all. -/
theorem keys_take (w : List UInt8) (x : UInt8) (h : Wait w) : (keysL (w.take 19 ++ [x])).1 = (keysL (w ++ [x])).1 ∧ (keysL (w.take 19 ++ [x])).2.take 19 = (keysL (w ++ [x])).2.take 19 := by
  by_cases hl : w.length ≤ 19
  · rw [List.take_of_length_le hl]; exact ⟨rfl, rfl⟩
  rcases h with rfl | rfl | rfl | ⟨m, rfl, hm⟩ | h | ⟨_, h⟩
  · simp at hl
  · simp at hl
  · simp at hl
  · have hml : 17 < m.length := by simp at hl; omega
    have e : (27 :: 91 :: m : List UInt8).take 19 = 27 :: 91 :: m.take 17 := rfl
    rw [e, long_csi m x hm (by omega), long_csi (m.take 17) x (fun y hy => hm y (List.mem_of_mem_take hy)) (by rw [List.length_take]; omega)]
    split
    · refine ⟨rfl, ?_⟩
      simp only
      rw [show (27 :: 91 :: m.take 17 ++ [x] : List UInt8) = 27 :: 91 :: (m.take 17 ++ [x]) from rfl, show (27 :: 91 :: m ++ [x] : List UInt8) = 27 :: 91 :: (m ++ [x]) from rfl]
      show 27 :: 91 :: (m.take 17 ++ [x]).take 17 = 27 :: 91 :: (m ++ [x]).take 17
      rw [List.take_append_of_le_length (by rw [List.length_take]; omega), List.take_append_of_le_length (by omega), List.take_take, Nat.min_self]
    · exact ⟨rfl, rfl⟩
  · rw [h] at hl; exact absurd (by decide) hl
  · have := whole_short w h; omega
/-- What the document remembers, beside a decoder. -/
def Rel (d : Dec) (B : List UInt8) (age : Nat) : Prop :=
  d.Ok ∧ ((B ≠ pasteB ∧ Wait B ∧ d.w = B.take 19 ∧ age = d.t.toNat) ∨ (age = 0 ∧ ∃ body, B = pasteB ++ body ∧ PasteAt body d ∧ ∀ j, (body.drop j).take 6 ≠ pasteE))
theorem Rel.zero : Rel Dec.zero [] 0 := ⟨Dec.ok_zero, .inl ⟨by decide, .inl rfl, rfl, rfl⟩⟩
theorem rest_rel {r : List UInt8} {d : Dec} (hok : d.Ok) (hw : Wait r) (hd : d.w = r.take 19) (hp : r = pasteB → d.p = [] ∧ d.e = 0) (ht : d.t = false) : Rel d r 0 := by
  refine ⟨hok, ?_⟩
  by_cases h : r = pasteB
  · refine .inr ⟨rfl, [], by rw [h]; rfl, ?_, fun j => by simp; decide⟩
    obtain ⟨hp, he⟩ := hp h
    refine ⟨by rw [hd, h]; rfl, by rw [he]; omega, ht, ⟨[], by rw [he]; rfl, by rw [hp]; rfl⟩, fun m hm hC => ?_⟩
    obtain ⟨C, hC⟩ := hC
    have := congrArg List.length hC
    rw [List.length_append, List.length_take] at this
    have e6 : pasteE.length = 6 := rfl
    simp only [List.length_nil] at this
    omega
  · exact .inl ⟨h, hw, hd, by rw [ht]; rfl⟩
theorem paste_take (body : List UInt8) : (pasteB ++ body).take 6 = pasteB := by
  rw [List.take_append_of_le_length (by decide)]; rfl
theorem paste_drop (body : List UInt8) (j : Nat) : (pasteB ++ body).drop (6 + j) = body.drop j := by
  rw [List.drop_append, show (pasteB : List UInt8).length = 6 from rfl, List.drop_eq_nil_of_le (by rw [show (pasteB : List UInt8).length = 6 from rfl]; omega)]
  simp
/-- A byte more. -/
theorem put_rel {d : Dec} {B : List UInt8} {age : Nat} (h : Rel d B age) (x : UInt8) : (putD d x).1 = (keysR (B ++ [x])).1 ∧ Rel (putD d x).2 (keysR (B ++ [x])).2 0 := by
  obtain ⟨hok, ⟨hne, hw, hd, _⟩ | ⟨_, body, hB, hP, hno⟩⟩ := h
  · have hdw : d.w ≠ pasteB := fun e => hne (pasteB_take B (by rw [← hd, e]))
    have hk := keys_take B x hw
    have hok2 := put_ok d x hok
    have hpw : putD d x = ((keysL (d.w ++ [x])).1, ⟨(keysL (d.w ++ [x])).2.take 19, d.p, d.e, false⟩) := by unfold putD; rw [if_neg hdw]
    rw [keysR_same _ (wait_snoc B x hw hne)]
    rw [hpw] at hok2 ⊢
    simp only at hok2 ⊢
    rw [hd] at hok2 ⊢
    rw [hk.1]
    refine ⟨rfl, rest_rel hok2 (wait_rest B x hw hne) hk.2 (fun _ => hok.2.2.2 hdw) rfl⟩
  · rw [hB, List.append_assoc]
    by_cases hend : ∃ C, body ++ [x] = C ++ pasteE
    · obtain ⟨C, hC⟩ := hend
      obtain ⟨hw, he, ht, ⟨D, hD, hp⟩, hmax⟩ := hP
      have h5 : body = C ++ pasteE.take 5 ∧ x = 126 := by
        have e : C ++ pasteE = (C ++ pasteE.take 5) ++ [126] := by rw [List.append_assoc]; rfl
        rw [e] at hC
        obtain ⟨h1, h2⟩ := List.append_inj' hC rfl
        exact ⟨h1, by simpa using h2⟩
      have hde : d.e = 5 := by have := hmax 5 (by omega) ⟨C, h5.1⟩; omega
      have hDC : D = C := by
        rw [hde, h5.1] at hD
        exact (List.append_inj' hD rfl).1.symm
      have hput : putD d x = ([(26, plainL (C.take 1200))], Dec.zero) := by
        unfold putD
        rw [if_pos hw]
        unfold putP
        rw [hde, h5.2, if_pos (by decide), if_neg (by decide), hp, hDC]
      have hlen : (pasteB ++ (body ++ [x])).length = C.length + 12 := by
        rw [hC]; simp only [List.length_append]; rw [show pasteB.length = 6 from rfl, show pasteE.length = 6 from rfl]; omega
      have hat : endL (pasteB ++ (body ++ [x])) 6 = some (6 + C.length) := by
        refine endF_at _ _ _ _ (by omega) (by rw [hlen]; omega) ?_ ?_
        · rw [paste_drop, hC, List.drop_left]; rfl
        · intro j h6 hj
          obtain ⟨i, rfl⟩ : ∃ i, j = 6 + i := ⟨j - 6, by omega⟩
          rw [paste_drop]
          have hbl : body.length = C.length + 5 := by
            rw [h5.1, List.length_append, List.length_take, show pasteE.length = 6 from rfl]; omega
          rw [List.drop_append_of_le_length (by omega), List.take_append_of_le_length (by rw [List.length_drop]; omega)]
          exact hno i
      have hone : oneR (pasteB ++ (body ++ [x])) = ((26, plainL (C.take 1200)), C.length + 12) := by
        unfold oneR
        rw [if_pos (paste_take _), hat]
        simp only
        have e : ((pasteB ++ (body ++ [x])).take (6 + C.length)).drop 6 = C := by
          rw [hC, List.take_append, show pasteB.length = 6 from rfl, List.take_of_length_le (by rw [show pasteB.length = 6 from rfl]; omega), show 6 + C.length - 6 = C.length by omega, List.take_left]
          have := paste_drop C 0
          simpa using this
        rw [e, show 6 + C.length + 6 = C.length + 12 by omega]
      rw [keysR_step _ (by rw [← List.length_pos_iff]; omega) (by rw [hone]; simp), hone]
      simp only
      rw [List.drop_eq_nil_of_le (by omega), keysR_nil, hput]
      exact ⟨rfl, Rel.zero⟩
    · obtain ⟨d', hput, hP'⟩ := paste_step hP x (fun hC => hend hC)
      have hok2 := put_ok d x hok
      rw [hput] at hok2 ⊢
      have hno2 : ∀ j, ((body ++ [x]).drop j).take 6 ≠ pasteE := by
        intro j hj
        have hl := take6_len hj
        rw [List.length_append, List.length_singleton] at hl
        rcases Nat.lt_or_ge body.length (j + 6) with hlt | hge
        · refine hend ⟨(body ++ [x]).take j, ?_⟩
          have e := List.take_append_drop j (body ++ [x])
          rw [List.take_of_length_le (by rw [List.length_drop, List.length_append, List.length_singleton]; omega)] at hj
          rw [← hj, e]
        · rw [List.drop_append_of_le_length (by omega), List.take_append_of_le_length (by rw [List.length_drop]; omega)] at hj
          exact hno j hj
      have hnone : endL (pasteB ++ (body ++ [x])) 6 = none := by
        refine endF_none _ _ _ fun j h6 => ?_
        obtain ⟨i, rfl⟩ : ∃ i, j = 6 + i := ⟨j - 6, by omega⟩
        rw [paste_drop]
        exact hno2 i
      have hone : oneR (pasteB ++ (body ++ [x])) = ((0, []), 0) := by
        unfold oneR
        rw [if_pos (paste_take _), hnone]
      rw [keysR_stop _ (by rw [hone])]
      exact ⟨rfl, hok2, .inr ⟨rfl, _, rfl, hP', hno2⟩⟩
/-- What a tick tells, as the document says it. -/
def tickR (B : List UInt8) (age : Nat) : List KV × List UInt8 × Nat :=
  if B = [] ∨ B.take 6 = pasteB then ([], B, age)
  else if age = 0 then ([], B, 1)
  else (if B.length = 1 ∧ (B.getD 0 0).toNat = 27 then [(27, [])] else if (B.getD 0 0).toNat = 27 then [(0, [])] else (runes B).map signK, [], 0)
theorem wait_take6 {B : List UInt8} (hw : Wait B) (hne : B ≠ pasteB) : B.take 6 ≠ pasteB := by
  have := wait_np B hw hne 0
  rwa [List.drop_zero] at this
theorem tick_rel {d : Dec} {B : List UInt8} {age : Nat} (h : Rel d B age) : (tickD d).1 = (tickR B age).1 ∧ Rel (tickD d).2 (tickR B age).2.1 (tickR B age).2.2 := by
  have h0 := h
  obtain ⟨hok, ⟨hne, hw, hd, hage⟩ | ⟨hz, body, hB, hP, hno⟩⟩ := h
  · have hdw : d.w ≠ pasteB := fun e => hne (pasteB_take B (by rw [← hd, e]))
    have h6 := wait_take6 hw hne
    have hnil : d.w = [] ↔ B = [] := by
      rw [hd]
      constructor
      · intro h
        have := congrArg List.length h
        rw [List.length_take, List.length_nil] at this
        exact List.eq_nil_of_length_eq_zero (by omega)
      · rintro rfl; rfl
    unfold tickD tickR
    by_cases hB : B = []
    · rw [if_pos (.inl (hnil.2 hB)), if_pos (.inl hB)]
      exact ⟨rfl, h0⟩
    · rw [if_neg (show ¬ (d.w = [] ∨ d.w = pasteB) from fun h => h.elim (fun h => hB (hnil.1 h)) hdw), if_neg (show ¬ (B = [] ∨ B.take 6 = pasteB) from fun h => h.elim hB h6)]
      cases ht : d.t with
      | false =>
        have ha : age = 0 := by rw [hage, ht]; rfl
        rw [if_pos rfl, if_pos ha]
        exact ⟨rfl, ⟨hok.1, hok.2.1, hok.2.2.1, hok.2.2.2⟩, .inl ⟨hne, hw, hd, rfl⟩⟩
      | true =>
        have ha : age = 1 := by rw [hage, ht]; rfl
        rw [if_neg (show ¬ (true = false) by decide), if_neg (show ¬ age = 0 by omega)]
        refine ⟨?_, Rel.zero⟩
        have hg : d.w.getD 0 0 = B.getD 0 0 := by
          rw [hd]
          cases B <;> rfl
        have hl : d.w.length = 1 ↔ B.length = 1 := by
          rw [hd, List.length_take]; omega
        simp only
        rw [hg]
        by_cases h27 : (B.getD 0 0).toNat = 27
        · rw [if_neg (by rw [h27]; decide)]
          by_cases h1 : B.length = 1
          · rw [if_pos (hl.2 h1), if_pos ⟨h1, h27⟩]
          · rw [if_neg (fun h => h1 (hl.1 h)), if_neg (fun h => h1 h.1), if_pos h27]
        · rw [if_pos h27, if_neg (fun h => h27 h.2), if_neg h27]
          have h3 : B.length ≤ 3 := by
            rcases hw with rfl | rfl | rfl | ⟨m, rfl, hm⟩ | h | ⟨_, h⟩
            · exact absurd rfl hB
            · exact absurd rfl h27
            · exact absurd rfl h27
            · exact absurd rfl h27
            · exact absurd h hne
            · exact whole_short B h
          rw [hd, List.take_of_length_le (by omega)]
  · have hB6 : B.take 6 = pasteB := by rw [hB]; exact paste_take _
    unfold tickD tickR
    rw [if_pos (.inr hP.1), if_pos (.inr hB6)]
    exact ⟨rfl, h0⟩
theorem Rel.waits {d : Dec} {B : List UInt8} {age : Nat} (h : Rel d B age) : decide (d.w ≠ []) = decide (0 < B.length) := by
  obtain ⟨hok, ⟨hne, hw, hd, hage⟩ | ⟨hz, body, hB, hP, hno⟩⟩ := h
  · rw [hd]
    cases B <;> simp
  · rw [hP.1, hB]; simp [pasteB]
theorem Rel.pasting {d : Dec} {B : List UInt8} {age : Nat} (h : Rel d B age) : decide (d.w = pasteB) = decide (B.take 6 = pasteB) := by
  obtain ⟨hok, ⟨hne, hw, hd, hage⟩ | ⟨hz, body, hB, hP, hno⟩⟩ := h
  · rw [decide_eq_false (wait_take6 hw hne), decide_eq_false (fun e => hne (pasteB_take B (by rw [← hd, e])))]
  · rw [decide_eq_true hP.1, decide_eq_true (by rw [hB]; exact paste_take _)]
end Go.Proofs.YtbkejjpkijjfaaaDoor
