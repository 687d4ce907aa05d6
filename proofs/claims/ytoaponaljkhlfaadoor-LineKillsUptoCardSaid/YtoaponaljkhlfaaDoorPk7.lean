/-
  Layer 7 and what it stands on, part 7 (LnLawP).
-/
import Derived.Test.YtoaponaljkhlfaaDoorPk6
namespace Go.Proofs.YtoaponaljkhlfaaDoor
section
open Go
set_option maxRecDepth 100000
namespace LN
theorem bl_size (x : ByteArray) : (bl x).length = x.size := by unfold bl; simp
theorem set_facts (s : LN) (t : List UInt8) : (s.set t).buf = (mS t, (mS t).length) ∧ (s.set t).ring = s.ring ∧ (s.set t).last = .none := ⟨put_buf _ _ _, rfl, rfl⟩
theorem home_facts (s : LN) : (s.key 7 []).buf = (s.buf.1, 0) ∧ (s.key 7 []).ring = s.ring ∧ (s.key 7 []).last = .none := ⟨rfl, rfl, rfl⟩
theorem set_nil (s : LN) : (s.set []).buf = ([], 0) ∧ (s.set []).ring = s.ring ∧ (s.set []).last = .none := by
  obtain ⟨h1, h2, h3⟩ := set_facts s []
  refine ⟨?_, h2, h3⟩
  rw [h1]
  have : mS [] = [] := by decide +kernel
  rw [this]
  rfl
/-- Where a line stands with some texts killed. -/
structure FillAt (zs : List ByteArray) (k : Nat) (s : LN) : Prop where
  l : s.ring.l = (zs.take k).reverse
  lim : s.ring.lim = 8
  buf : 0 < k → s.buf = ([], 0)
theorem FillAt.new (zs : List ByteArray) : FillAt zs 0 LN.new := ⟨rfl, rfl, fun h => absurd h (Nat.lt_irrefl 0)⟩
theorem FillAt.step {zs : List ByteArray} {k : Nat} {s : LN} (h : FillAt zs k s) {z : ByteArray} (hz : zs[k]? = some z) (hm : mS (bl z) = bl z) (hne : bl z ≠ []) (hk : k < 8) : FillAt zs (k + 1) ((((s.set (bl z)).key 7 []).key 11 []).set []) := by
  obtain ⟨a1, a2, a3⟩ := set_facts s (bl z)
  obtain ⟨b1, b2, b3⟩ := home_facts (s.set (bl z))
  have hb : ((s.set (bl z)).key 7 []).buf = (bl z, 0) := by rw [b1, a1, hm]
  have hk11 : ((s.set (bl z)).key 7 []).key 11 [] = ((s.set (bl z)).key 7 []).kill 0 (bl z).length false := by
    have : ((s.set (bl z)).key 7 []).key 11 [] = ((s.set (bl z)).key 7 []).kill ((s.set (bl z)).key 7 []).buf.2 ((s.set (bl z)).key 7 []).buf.1.length false := rfl
    rw [this, hb]
  obtain ⟨c1, c2, c3⟩ := kill_all hb hne (by rw [b3]; exact fun e => Lst.noConfusion e)
  obtain ⟨d1, d2, d3⟩ := set_nil (((s.set (bl z)).key 7 []).key 11 [])
  have hlt : k < zs.length := (List.getElem?_eq_some_iff.1 hz).1
  refine ⟨?_, ?_, fun _ => d1⟩
  · rw [d2, hk11, c2, b2, a2]
    show bs (bl z) :: s.ring.l.take (s.ring.lim - 1) = _
    rw [h.lim, bs_bl, h.l, List.take_of_length_le (by rw [List.length_reverse, List.length_take]; omega), List.take_add_one, hz]
    simp
  · rw [d2, hk11, c2, b2, a2]
    exact h.lim
/-- Where a line stands behind some pops. -/
structure PopAt (zs : List ByteArray) (k : Nat) (s : LN) : Prop where
  l : s.ring.l = zs.reverse
  i : s.ring.i = k % zs.length
  at_ : ∃ y, zs.reverse[k % zs.length]? = some y ∧ s.buf = (bl y, y.size) ∧ s.last = .yank 0 y.size
theorem PopAt.start {zs : List ByteArray} {s : LN} (h : FillAt zs zs.length s) (hn : 0 < zs.length) (hz : ∀ z ∈ zs, mS (bl z) = bl z) : PopAt zs 0 (s.key 15 []) := by
  have hl : s.ring.l = zs.reverse := by rw [h.l, List.take_length]
  obtain ⟨x, t, hx⟩ : ∃ x t, zs.reverse = x :: t := by
    cases hr : zs.reverse with
    | nil => have := congrArg List.length hr; rw [List.length_reverse] at this; simp at this; rw [this] at hn; simp at hn
    | cons x t => exact ⟨x, t, rfl⟩
  have hmem : x ∈ zs := List.mem_reverse.1 (by rw [hx]; exact List.mem_cons_self)
  have hp : PlainP (bl x) := by rw [← hz x hmem]; exact mS_P _
  have h6 : x.size ≤ 600 := by rw [← bl_size, ← hz x hmem]; exact mS_len _
  obtain ⟨a1, a2, a3⟩ := yank_all (s := s) (h.buf hn) (hl.trans hx) hp h6
  refine ⟨?_, ?_, x, ?_, a1, a2⟩
  · show s.yank.ring.l = _
    rw [a3]; exact hl
  · show s.yank.ring.i = _
    rw [a3]
    show 0 = _
    rw [Nat.zero_mod]
  · rw [Nat.zero_mod, hx]; rfl
theorem PopAt.step {zs : List ByteArray} {k : Nat} {s : LN} (h : PopAt zs k s) (hn : 0 < zs.length) (hz : ∀ z ∈ zs, mS (bl z) = bl z) (hok : s.ring.Ok) : PopAt zs (k + 1) (s.key 16 []) := by
  obtain ⟨y, h1, h2, h3⟩ := h.at_
  have hi : s.ring.turn.i = (k + 1) % zs.length := by
    rw [RS.turn_mod hok (by rw [h.l, List.length_reverse]; exact hn), h.l, h.i, List.length_reverse, Nat.mod_add_mod]
  obtain ⟨x, hx⟩ : ∃ x, zs.reverse[(k + 1) % zs.length]? = some x := ⟨_, List.getElem?_eq_getElem (by rw [List.length_reverse]; exact Nat.mod_lt _ hn)⟩
  have hmem : x ∈ zs := List.mem_reverse.1 (List.mem_of_getElem? hx)
  have hp : PlainP (bl x) := by rw [← hz x hmem]; exact mS_P _
  have h6 : x.size ≤ 600 := by rw [← bl_size, ← hz x hmem]; exact mS_len _
  obtain ⟨a1, a2, a3⟩ := pop_all (s := s) h2 h3 (y := x) (by rw [h.l, hi, List.getD_eq_getElem?_getD, hx]; rfl) hp h6
  refine ⟨?_, ?_, x, hx, a1, a2⟩
  · show s.pop.ring.l = _
    rw [a3]; exact h.l
  · show s.pop.ring.i = _
    rw [a3]; exact hi
/-- A line's first word is killed, and the rest. -/
theorem kill_word {t : List UInt8} (hne : mS t ≠ []) : (((LN.new.set t).key 7 []).key 14 []).buf = ((mS t).drop (wrL (mS t) 0), 0) ∧ (((LN.new.set t).key 7 []).key 14 []).ring.l = [bs ((mS t).take (wrL (mS t) 0))] ∧ (((LN.new.set t).key 7 []).key 14 []).ring.lim = 8 ∧ (((LN.new.set t).key 7 []).key 14 []).last = .kill ∧ wrL (mS t) 0 ≤ (mS t).length := by
  obtain ⟨a1, a2, a3⟩ := set_facts LN.new t
  obtain ⟨b1, b2, b3⟩ := home_facts (LN.new.set t)
  have hb : ((LN.new.set t).key 7 []).buf = (mS t, 0) := by rw [b1, a1]
  have hwr : wrL (mS t) 0 = pos (cutL (mS t)) (thrK (cutL (mS t))) := by
    have := wrL_pos (l := mS t) (k := 0)
    rw [pos_zero, Nat.zero_add, List.drop_zero] at this
    exact this
  have hcn : cutL (mS t) ≠ [] := cutL_ne _ hne
  have h0 : 0 < wrL (mS t) 0 := by
    rw [hwr]
    have := pos_lt (cut_full (mS t)) (thrK_pos _ hcn) (thrK_le _)
    rwa [pos_zero] at this
  have hle : wrL (mS t) 0 ≤ (mS t).length := by
    rw [hwr]
    have := pos_le (cutL (mS t)) (thrK (cutL (mS t)))
    rwa [cutL_flatten] at this
  have hk : ((LN.new.set t).key 7 []).key 14 [] = ((LN.new.set t).key 7 []).kill 0 (wrL (mS t) 0) false := by
    have : ((LN.new.set t).key 7 []).key 14 [] = ((LN.new.set t).key 7 []).kill ((LN.new.set t).key 7 []).buf.2 (wrL ((LN.new.set t).key 7 []).buf.1 ((LN.new.set t).key 7 []).buf.2) false := rfl
    rw [this, hb]
  have hcut := (kill_cut (s := (LN.new.set t).key 7 []) (f := 0) (t := wrL (mS t) 0) false h0).1
  have hpu := kill_push (s := (LN.new.set t).key 7 []) (f := 0) (t := wrL (mS t) 0) (by rw [b3]; exact fun e => Lst.noConfusion e) false h0 (by rw [hb]; exact hle)
  rw [hb] at hcut hpu
  dsimp only at hcut hpu
  refine ⟨?_, ?_, ?_, by rw [hk]; rfl, hle⟩
  · rw [hk, hcut]
    have hc : cutS (mS t) 0 (wrL (mS t) 0) = (mS t).drop (wrL (mS t) 0) := by unfold cutS; rw [List.take_zero, List.nil_append]
    unfold cutA
    rw [hc]
    have : cutAt 0 0 (wrL (mS t) 0) = 0 := by unfold cutAt; rw [if_neg (Nat.lt_irrefl 0)]
    rw [this]
    exact congrArg _ (isB_zero _).back
  · rw [hk, hpu, b2, a2]
    show bs (goneS (mS t) 0 (wrL (mS t) 0)) :: ([] : List ByteArray).take 7 = _
    unfold goneS
    rw [List.drop_zero, Nat.sub_zero]
    rfl
  · rw [hk, hpu, b2, a2]
    rfl
theorem kill_rest {s : LN} {x y : List UInt8} (hb : s.buf = (y, 0)) (hr : s.ring.l = [bs x]) (hm : s.ring.lim = 8) :
    (s.key 11 []).buf = ([], 0) ∧ (s.key 11 []).ring.l = if y = [] then [bs x] else if s.last = .kill then [bs (x ++ y)] else [bs y, bs x] := by
  have hk : s.key 11 [] = s.kill 0 y.length false := by
    have : s.key 11 [] = s.kill s.buf.2 s.buf.1.length false := rfl
    rw [this, hb]
  rw [hk]
  by_cases hy : y = []
  · subst hy
    rw [if_pos rfl]
    have hc : cutR s.buf.1 s.buf.2 0 0 = ([], 0, []) := by rw [hb]; rfl
    refine ⟨?_, ?_⟩
    · rw [kill_buf]
      show ((cutR s.buf.1 s.buf.2 0 0).1, (cutR s.buf.1 s.buf.2 0 0).2.1) = _
      rw [hc]
    · show (killed s.ring s.last false (cutR s.buf.1 s.buf.2 0 0).2.2).l = _
      rw [hc]
      exact hr
  · rw [if_neg hy]
    by_cases hl : s.last = .kill
    · rw [if_pos hl]
      have hlt : 0 < y.length := List.length_pos_iff.2 hy
      obtain ⟨c1, c2⟩ := kill_cut (s := s) (f := 0) (t := y.length) false hlt
      rw [hb] at c1 c2
      dsimp only at c1 c2
      have hcs : cutS y 0 y.length = [] := by unfold cutS; rw [List.take_zero, List.drop_length]; rfl
      refine ⟨?_, ?_⟩
      · rw [c1]
        unfold cutA
        rw [hcs]
        exact congrArg _ (Nat.le_zero.1 (backL_le [] _))
      · show (killed s.ring s.last false (s.gone 0 y.length)).l = _
        have hg : goneS y 0 y.length = y := by unfold goneS; rw [List.drop_zero, Nat.sub_zero, List.take_length]
        rw [c2, hg]
        unfold killed
        rw [if_neg hy, if_pos ⟨hl, by rw [hr]; exact List.cons_ne_nil _ _⟩]
        show chL _ s.ring.l = _
        rw [hr]
        show [bs x ++ bs y] = _
        rw [bs_append]
    · rw [if_neg hl]
      obtain ⟨c1, c2, _⟩ := kill_all hb hy hl
      refine ⟨c1, ?_⟩
      rw [c2]
      show bs y :: s.ring.l.take (s.ring.lim - 1) = _
      rw [hm, hr]
      rfl
end LN
end
end Go.Proofs.YtoaponaljkhlfaaDoor
