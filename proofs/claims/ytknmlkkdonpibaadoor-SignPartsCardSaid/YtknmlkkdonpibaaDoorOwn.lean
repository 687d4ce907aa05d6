/-
  The walk of SignOwn.
-/
import Derived.Test.YtknmlkkdonpibaaDoorAlive
import Derived.Laws.AppendOwnNone
import Derived.Maps.AppendAt
namespace Go.Proofs.YtknmlkkdonpibaaDoor
open Go Go.RowKit

section
variable {P : Program} (w : World)
/-- Bytes that lie somewhere, nil or not, behind a row of bytes that the call owns. -/
theorem wpList_append_byt {ops : Array Oper} {rest : List Oper} {o : Oper} {a : Act} {Q : Exit → Act → World → Prop} (hgd : o.guard = none) (s x : Operand) (t : TypeId)
    (ho : o.op = .call { callee := .builtin .append, args := #[s, x], argTypes := #[t, t] })
    (base : Nat) (i : TypeInfo) (ht : P.underlying t = some (.slice 5)) (hi : P.info? 5 = some i) (hz : i.zero = some (.int .u8 0)) (hsize : i.size = 1) (hby : i.bytes = 1)
    (v : Value) (xs : List UInt8) (hs : a.eval s = v) (hown : w.ownsRow base 5 1 v xs.length (Lib.byteCells xs))
    (A : Option Addr) (c : Nat) (l : List UInt8) (hx : a.eval x = .slice A l.length c) (hA : A = none → c = 0) (hl : Byt w A l)
    (hb : xs.length + l.length ≤ 140737488355328) (hbase : base ≤ w.heap.size)
    (h : ∀ v' w', w'.ownsRow base 5 1 v' (xs ++ l).length (Lib.byteCells (xs ++ l)) → w.grownBy w' v.ownBlock → (v'.ownBlock = v.ownBlock ∨ v'.ownBlock = some w.heap.size) → wpList P ops Q rest (a.put o.dst v') w') :
    wpList P ops Q (o :: rest) a w := by
  have e1 : Lib.byteCells (xs ++ l) = Lib.byteCells xs ++ Lib.byteCells l := by simp [Lib.byteCells]
  rw [e1, List.length_append] at h
  rcases A with _ | ad
  · obtain rfl := hA rfl
    have h0 : l = [] := by
      by_cases hn : 0 < l.length
      · obtain ⟨_, _, e, _⟩ := hl.at_ hn; cases e
      · exact List.eq_nil_of_length_eq_zero (by omega)
    subst h0
    refine wpList_append_own_none hgd s x t ho base 5 i 1 ht hi v xs.length (Lib.byteCells xs) hs hown hx ?_
    exact h v w (by simpa [Lib.byteCells] using hown) (World.grownBy.refl w _) (.inl rfl)
  · refine wpList_append_own_at w hgd s x t ho base 5 i (.int .u8 0) 1 1 ht hi hz hsize hby rfl (by decide) v xs.length (Lib.byteCells xs) hs hown ad l.length c (Lib.byteCells l) hx (by rw [Lib.byteCells_length]; omega) ?_ ?_ (by unfold maxLen; omega) (by omega) hbase ?_
    · intro j u hu
      have hj : j < l.length := by
        have := (List.getElem?_eq_some_iff.1 hu).1
        simpa [Lib.byteCells_length] using this
      obtain ⟨b, o', e, _, _⟩ := hl.at_ (by omega)
      injection e with e
      subst e
      rw [Addr.add_lit]
      exact byt_cells hl j u hu
    · intro u hu
      simp only [Lib.byteCells, List.mem_map] at hu
      obtain ⟨_, _, rfl⟩ := hu
      rfl
    · intro v' w' h1 h2 _ h4
      exact h v' w' h1 h2 h4
end

set_option maxHeartbeats 4000000 in
theorem own_calls (A : Option Addr) (c : Nat) (l : List UInt8) (w : World) (hb : Byt w A l) (hA : A = none → c = 0) (hlc : l.length ≤ c) (hm : c ≤ maxLen) (ht : Tabs w) :
    Calls Tryd.prog 8 #[.slice A l.length c] w fun e w' => e = .returned (.bool true) ∧ Below w.heap.size w w' := by
  obtain ⟨i0, hi, hz0, hz1, hz2⟩ := info_parts info8
  unfold maxLen at hm
  by_cases hbig : 1000 < l.length
  · have hcon := Lib.hid (alive_calls w ht)
    clear hb ht
    go_enter Tryd.func8, Tryd.ntmps8
    go_wp2_with fail
    refine hcon.out.mono ?_
    rintro e w' ⟨rfl, h⟩
    go_wp2
    go_ret
    exact ⟨rfl, h⟩
  · go_enter Tryd.func8, Tryd.ntmps8
    go_wp2_with (at_builtin; refine wpList_append_byt _ rfl _ _ 22 rfl w.heap.size i0 Tryd.underlying22 hi hz0 hz1 hz2 (.slice (some ⟨w.heap.size, 0, none⟩) 0 0) [] rfl ?c1 A c l rfl hA (hb.alloc _) (by simp; omega) (by simp) ?_)
    case c1 => exact ⟨rfl, .inr ⟨w.heap.size, 0, #[], rfl, Nat.le_refl _, heap_alloc_new w _, by simp, by unfold maxLen; omega, by simp, by simp [Lib.byteCells]⟩⟩
    intro v1 w1 hown1 hg1 _
    have k1 : Below w.heap.size w w1 := ((Below.refl _ _).alloc (Nat.le_refl _) _).grown hg1 (by simp) (fun k hk => by simp [Value.ownBlock] at hk; omega)
    obtain ⟨A1, c1, rfl⟩ := own_form hown1
    obtain ⟨hB1, _, hlc1, hm1⟩ := byt_of_own (l := [] ++ l) hown1
    simp only [List.nil_append] at hB1 hlc1 hown1 ⊢
    clear hg1 hown1
    go_wp2_with fail
    refine (next_calls A c l _ (hb.below k1) hlc (by unfold maxLen; omega)).mono ?_
    rintro e w2 ⟨rfl, hb2⟩
    have k2 : Below w.heap.size w w2 := k1.trans (hb2.mono k1.size)
    have hB2 := hB1.below hb2
    clear hb2 k1 hB1
    go_wp2_with fail
    refine (runes_calls A c l _ (hb.below k2) (by omega)).mono ?_
    rintro e w3 ⟨v3, rfl, _, hb3⟩
    have k3 : Below w.heap.size w w3 := k2.trans (hb3.mono k2.size)
    have hB3 := hB2.below hb3
    clear hb3 k2 hB2
    go_wp2_with fail
    refine (clean_calls A c l _ (hb.below k3) (by omega)).mono ?_
    rintro e w4 ⟨rfl, hb4⟩
    have k4 : Below w.heap.size w w4 := k3.trans (hb4.mono k3.size)
    have hB4 := hB3.below hb4
    clear hb4 k3 hB3
    go_wp2_with fail
    refine (whole_calls A c l _ (hb.below k4) (tabs_below ht k4)).mono ?_
    rintro e w5 ⟨rfl, hb5⟩
    have k5 : Below w.heap.size w w5 := k4.trans (hb5.mono k4.size)
    have hB5 := hB4.below hb5
    clear hb5 k4 hB4
    go_wp2_with fail
    refine (alive_calls _ (tabs_below ht k5)).mono ?_
    rintro e w6 ⟨rfl, hb6⟩
    have k6 : Below w.heap.size w w6 := k5.trans (hb6.mono k5.size)
    have hB6 := hB5.below hb6
    clear hb6 k5 hB5
    go_wp2_with fail
    refine (Tryd.bytes_Equal_all A A1 l.length c l.length c1 (nums l) (nums l) _ (nums_length l) (nums_length l) (hb.below k6) hB6).mono ?_
    rintro e w7 ⟨rfl, rfl⟩
    rw [bytesOf_nums, beq_self_eq_true]
    go_wp2
    go_ret
    exact ⟨rfl, k6⟩
end Go.Proofs.YtknmlkkdonpibaaDoor
