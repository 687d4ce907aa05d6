/-
  The walk of RingKeeps.
-/
import Derived.Test.YtdpijbaolaignaaRPair
import Derived.Lib.MinMax
namespace Go.Proofs.Ytdpijbaolaignaa
open Go Go.RowKit Go.Shelf
attribute [local go_sem] Oper.semAt_some
set_option maxRecDepth 100000

theorem kept_step {lim T : Nat} {pre : List ByteArray} {st : RS ByteArray} (hok : st.Ok) (h1 : st.lim = lim) (h2 : st.l = pre.reverse.take lim) (x : ByteArray) :
    ((st.push x).turns T).lim = lim ∧ ((st.push x).turns T).l = (pre ++ [x]).reverse.take lim ∧ ((st.push x).turns T).i = T % ((st.push x).turns T).l.length := by
  have hp := hok.push x
  refine ⟨by rw [RS.turns_lim]; exact h1, ?_, ?_⟩
  · rw [RS.turns_l]
    obtain ⟨a, b, i⟩ := st
    simp only at h1 h2
    subst h1; subst h2
    exact RS.push_last a hok.pos pre x i
  · have := RS.turns_i hp (by show 0 < (x :: _).length; simp) T
    rw [this, RS.turns_l, show (st.push x).i = 0 from rfl, Nat.zero_add]
abbrev InS (w W : World) (b : Nat) (s : RS ByteArray) : Prop := RingIn Value.string 9 62 w W b s

set_option maxHeartbeats 8000000 in
theorem rkeeps_calls (n : Int) (A : Option Addr) (c : Nat) (l : List ByteArray) (m : Int) (w : World) (hV : RdV Value.string w A l) (_hS : ∀ s ∈ l, s.size ≤ maxLen) (hl : l.length ≤ 9223372036854775807) :
    Calls Try.prog 7 #[.int .i64 n, .slice A l.length c, .int .i64 m] w fun e w' => e = .returned (.bool true) ∧ Below w.heap.size w w' := by
  obtain ⟨w0, hw0⟩ : ∃ w0, (w.alloc (.cells #[.slice A l.length c] 27)).alloc (.cells #[.bool false] 4) = w0 := ⟨_, rfl⟩
  have hB0 : Below w.heap.size w w0 := by rw [← hw0]; exact ((Below.refl _ w).alloc (Nat.le_refl _) _).alloc (by simp) _
  have hz0 : w0.heap.size = w.heap.size + 2 := by rw [← hw0]; simp
  have hx0 : Boxed w0 w.heap.size 27 (.slice A l.length c) := by rw [← hw0]; exact (Boxed.new w _ _).alloc _
  have hx1 : Boxed w0 (w.heap.size + 1) 4 (.bool false) := by
    have := Boxed.new (w.alloc (.cells #[.slice A l.length c] 27)) 4 (.bool false)
    simp only [World.size_alloc] at this
    rw [hw0] at this; exact this
  have cx0 := hx0.cell
  have cx1 := hx1.cell
  have fx1 := hx1.frozen
  have HB0 := Lib.hid hB0
  have Hz0 := Lib.hid hz0
  have HX0 := Lib.hid hx0
  have HX1 := Lib.hid hx1
  have HV := Lib.hid hV
  clear hB0 hx0 hx1 hV hz0
  by_cases hf : 100 < l.length
  · have hgt : decide (100 < (l.length : Int)) = true := decide_eq_true (by omega)
    have Hal := Lib.hid (ralive_calls w0)
    go_enter Try.func7, Try.ntmps7
    go_wp2_with fail
    refine Hal.out.mono ?_
    rintro e w9 ⟨rfl, hb9⟩
    have hx9 : Boxed w9 (w.heap.size + 1) 4 (.bool false) := (hb9.block _ HX1.out.lt).trans HX1.out
    have cx9 := hx9.cell
    have fx9 := hx9.frozen
    have HB9 := Lib.hid (HB0.out.trans (hb9.mono HB0.out.size))
    have HX9 := Lib.hid hx9
    clear hb9 Hal hx9
    go_wp2
    refine bodyPost_ret (results_bool rfl _ _ (w.heap.size + 1) (.bool true) 4 rfl (HX9.out.set (.bool true)) Try.underlying4) rfl ?_
    exact ⟨rfl, HB9.out.setCell (p := ⟨w.heap.size + 1, 0, none⟩) (by show w.heap.size ≤ w.heap.size + 1; omega) _⟩
  by_cases hf2 : m < 0
  · have hgt : decide (100 < (l.length : Int)) = false := decide_eq_false (by omega)
    have hlt : decide (m < 0) = true := decide_eq_true (by omega)
    have Hal := Lib.hid (ralive_calls w0)
    go_enter Try.func7, Try.ntmps7
    go_wp2_with fail
    refine Hal.out.mono ?_
    rintro e w9 ⟨rfl, hb9⟩
    have hx9 : Boxed w9 (w.heap.size + 1) 4 (.bool false) := (hb9.block _ HX1.out.lt).trans HX1.out
    have cx9 := hx9.cell
    have fx9 := hx9.frozen
    have HB9 := Lib.hid (HB0.out.trans (hb9.mono HB0.out.size))
    have HX9 := Lib.hid hx9
    clear hb9 Hal hx9
    go_wp2
    refine bodyPost_ret (results_bool rfl _ _ (w.heap.size + 1) (.bool true) 4 rfl (HX9.out.set (.bool true)) Try.underlying4) rfl ?_
    exact ⟨rfl, HB9.out.setCell (p := ⟨w.heap.size + 1, 0, none⟩) (by show w.heap.size ≤ w.heap.size + 1; omega) _⟩
  by_cases hf3 : 50 < m
  · have hgt : decide (100 < (l.length : Int)) = false := decide_eq_false (by omega)
    have hlt : decide (m < 0) = false := decide_eq_false (by omega)
    have hg5 : decide (50 < m) = true := decide_eq_true (by omega)
    have Hal := Lib.hid (ralive_calls w0)
    go_enter Try.func7, Try.ntmps7
    go_wp2_with fail
    refine Hal.out.mono ?_
    rintro e w9 ⟨rfl, hb9⟩
    have hx9 : Boxed w9 (w.heap.size + 1) 4 (.bool false) := (hb9.block _ HX1.out.lt).trans HX1.out
    have cx9 := hx9.cell
    have fx9 := hx9.frozen
    have HB9 := Lib.hid (HB0.out.trans (hb9.mono HB0.out.size))
    have HX9 := Lib.hid hx9
    clear hb9 Hal hx9
    go_wp2
    refine bodyPost_ret (results_bool rfl _ _ (w.heap.size + 1) (.bool true) 4 rfl (HX9.out.set (.bool true)) Try.underlying4) rfl ?_
    exact ⟨rfl, HB9.out.setCell (p := ⟨w.heap.size + 1, 0, none⟩) (by show w.heap.size ≤ w.heap.size + 1; omega) _⟩
  have hgt : decide (100 < (l.length : Int)) = false := decide_eq_false (by omega)
  have hlt0 : decide (m < 0) = false := decide_eq_false (by omega)
  have hg50 : decide (50 < m) = false := decide_eq_false (by omega)
  obtain ⟨T, rfl⟩ : ∃ T : Nat, m = (T : Int) := ⟨m.toNat, by omega⟩
  have Hn := Lib.hid (new_callsS n w0)
  refine (callsIn_wide (n := 4)).1 ?_
  refine callsIn_of_wp_marks Try.func7 rfl trivial ?_ rfl
  simp only [Try.ntmps7, List.size_toArray, List.length_cons, List.length_nil, Nat.reduceAdd, Nat.reduceSub, Array.replicate_succ, Array.replicate_zero, List.push_toArray, List.append_toArray, List.nil_append, List.cons_append]
  refine wpIn_wide.2 ?_
  go_wp2_with fail
  refine Hn.out.mono ?_
  rintro e w1 ⟨rfl, hw1⟩
  have h1 : InS w0 w1 w0.heap.size (RS.new n) := by
    subst hw1
    exact ⟨_, newRingS n w0, fun k e => by rw [e]; exact Nat.le_refl _, (Below.refl _ w0).alloc (Nat.le_refl _) _⟩
  have H1 := Lib.hid h1
  have cw1 : w1.cell? ⟨w.heap.size, 0, none⟩ = some (.slice A l.length c) := (h1.bel.cell (p := ⟨w.heap.size, 0, none⟩) HX0.out.lt).trans cx0
  clear h1 hw1 Hn hw0
  go_wp2_with fail
  go_loopw [33] (fun v33 wr => ∃ (k : Nat) (st : RS ByteArray), k ≤ l.length ∧ v33 = .int .i64 (k : Int) ∧ Hid (InS w0 wr w0.heap.size st ∧ st.lim = limOf n ∧ st.l = (l.take k).reverse.take (limOf n) ∧ (0 < k → st.i = T % st.l.length))) (fun v33 _ => l.length - (intOf v33).toNat)
  case atStart => exact ⟨0, RS.new n, by omega, rfl, Lib.hid ⟨H1.out, rfl, by simp [RS.new], fun h => absurd h (by omega)⟩⟩
  case round =>
    obtain ⟨k, st, hk, rfl, hr⟩ := hrel
    clear H1 cw1
    by_cases hlt : k < l.length
    · obtain ⟨R, r, hge, hB⟩ := hr.out.1
      have Hst : Hid (st.Ok ∧ st.lim = limOf n ∧ st.l = (l.take k).reverse.take (limOf n)) := Lib.hid ⟨r.ok, hr.out.2.1, hr.out.2.2.1⟩
      obtain ⟨g, og, rfl, hg, hc⟩ := (HV.out.below (HB0.out.trans (hB.mono HB0.out.size))).at_ (by omega)
      have hx : l[k]? = some (l.getD k ⟨#[]⟩) := by rw [List.getD_eq_getElem?_getD, List.getElem?_eq_getElem hlt]; rfl
      have ck := hc _ _ hx
      have Hp := Lib.hid (push_callsS wr R _ _ r (l.getD k ⟨#[]⟩))
      have HB := Lib.hid hB
      have Hnx : Hid (l.take (k + 1) = l.take k ++ [l.getD k ⟨#[]⟩]) := Lib.hid (by rw [List.take_add_one, hx]; rfl)
      have Hge := Lib.hid hge
      have hkl : (k : Int) < (l.length : Int) := by omega
      have hx1 : Boxed wr (w.heap.size + 1) 4 (.bool false) := (hB.block _ HX1.out.lt).trans HX1.out
      have HX := Lib.hid hx1
      clear r hB hr hc hge hx hx1
      generalize l.getD k ⟨#[]⟩ = x at *
      by_cases hsz : 100 < x.size
      · have hs1 : decide (100 < (x.size : Int)) = true := decide_eq_true (by omega)
        have Hal := Lib.hid (ralive_calls wr)
        clear Hp Hge Hnx
        go_wp2_with fail
        refine Hal.out.mono ?_
        rintro e w9 ⟨rfl, hb9⟩
        have hx9 : Boxed w9 (w.heap.size + 1) 4 (.bool false) := (hb9.block _ HX.out.lt).trans HX.out
        have cx9 := hx9.cell
        have fx9 := hx9.frozen
        have HB9 := Lib.hid (HB0.out.trans ((HB.out.trans (hb9.mono HB.out.size)).mono HB0.out.size))
        have HX9 := Lib.hid hx9
        clear hb9 Hal hx9
        go_wp2
        refine ⟨_, results_bool rfl _ _ (w.heap.size + 1) (.bool true) 4 rfl (HX9.out.set (.bool true)) Try.underlying4, rfl, ?_⟩
        exact HB9.out.setCell (p := ⟨w.heap.size + 1, 0, none⟩) (by show w.heap.size ≤ w.heap.size + 1; omega) _
      · have hs1 : decide (100 < (x.size : Int)) = false := decide_eq_false (by omega)
        clear HX
        go_wp2_with fail
        refine Hp.out.mono ?_
        rintro e w3 ⟨rfl, hto⟩
        have Hn : Hid (InS w0 w3 w0.heap.size ((st.push x).turns 0)) := Lib.hid (hto.inn Hge.out HB.out)
        clear hto Hp HB Hge
        go_wp2_with fail
        go_loopw [45] (fun v45 wt => ∃ j : Nat, j ≤ T ∧ v45 = .int .i64 (j : Int) ∧ Hid (InS w0 wt w0.heap.size ((st.push x).turns j))) (fun v45 _ => T - (intOf v45).toNat)
        case atStart => exact ⟨0, by omega, rfl, Hn⟩
        case round =>
          obtain ⟨j, hj, rfl, hr⟩ := hrel
          clear Hn
          by_cases hjt : j < T
          · obtain ⟨R2, r2, hge2, hB2⟩ := hr.out
            have Ht := Lib.hid (turn_callsS _ R2 _ _ r2)
            have HB2 := Lib.hid hB2
            have Hge2 := Lib.hid hge2
            have hjt' : (j : Int) < (T : Int) := by omega
            clear r2 hge2 hB2 hr
            go_wp2_with fail
            refine Ht.out.mono ?_
            rintro e w4 ⟨rfl, hto⟩
            have Hn4 : Hid (InS w0 w4 w0.heap.size ((st.push x).turns (j + 1))) := Lib.hid (hto.inn Hge2.out HB2.out)
            clear hto Ht HB2 Hge2
            go_wp2_with fail
            go_roundw
            case rel => exact ⟨j + 1, by omega, by go_num, Hn4⟩
            case measure => simp [intOf]; omega
          · obtain rfl : j = T := by omega
            have Hnew := Lib.hid (kept_step (T := j) Hst.out.1 Hst.out.2.1 Hst.out.2.2 x)
            rw [← Hnx.out] at Hnew
            go_wp2_with fail
            go_roundw
            case rel => exact ⟨k + 1, (st.push x).turns j, by omega, by go_num, Lib.hid ⟨hr.out, Hnew.out.1, Hnew.out.2.1, fun _ => Hnew.out.2.2⟩⟩
            case measure => simp [intOf]; omega
    · obtain rfl : k = l.length := by omega
      obtain ⟨hin, _, hstl, hsti⟩ := hr.out
      rw [List.take_length] at hstl
      have hok : st.Ok := by obtain ⟨_, h, _⟩ := hin; exact h.ok
      have hbel := hin.bel
      obtain ⟨m, hm⟩ : ∃ m : Nat, m = st.l.length := ⟨_, rfl⟩
      have hml : m = min l.length (limOf n) := by rw [hm, hstl, List.length_take, List.length_reverse, Nat.min_comm]
      have hmm : min (l.length : Int) (max (min n 64) 1) = (m : Int) := by rw [hml]; unfold limOf; omega
      have hle : m ≤ 64 := by have := limOf_le n; omega
      have cl : wr.cell? ⟨w.heap.size, 0, none⟩ = some (.slice A l.length c) := (hbel.cell (p := ⟨w.heap.size, 0, none⟩) HX0.out.lt).trans cx0
      have hzr := hbel.size
      have hget : ∀ j x, st.l[j]? = some x → j < m ∧ l[l.length - 1 - j]? = some x := fun j x h => by
        have hj : j < st.l.length := (List.getElem?_eq_some_iff.1 h).1
        refine ⟨by omega, ?_⟩
        rw [hstl, List.getElem?_take_of_lt (by omega), List.getElem?_reverse (by omega)] at h
        exact h
      have Hget := Lib.hid hget
      have Htop : Hid (0 < m → T % m < l.length ∧ l[l.length - 1 - T % m]? = some (st.l.getD st.i ⟨#[]⟩)) := Lib.hid (fun h0 => by
        have h1 := hsti (by have := limOf_pos n; omega)
        rw [← hm] at h1
        have h2 : T % m < m := Nat.mod_lt _ h0
        have h3 : st.l[T % m]? = some (st.l.getD st.i ⟨#[]⟩) := by rw [h1, List.getD_eq_getElem?_getD, List.getElem?_eq_getElem (by omega)]; rfl
        exact ⟨by omega, (hget _ _ h3).2⟩)
      have Hr := Lib.hid hin
      have Hbel := Lib.hid hbel
      have Hm := Lib.hid hm
      have hlm : m ≤ l.length := by omega
      clear hstl hr hbel hml hlt hk cx0 cx1 fx1 hm hget hsti hin hok
      have Hal := Lib.hid (callsIn_wide.1 (all_inS 0 w0.heap.size (wr.alloc (.cells #[.int .i64 (m : Int)] 3))))
      go_wp2_with fail
      refine Hal.out.mono ?_
      rintro e w' ⟨rfl, rfl⟩
      clear Hal
      go_wp2_with fail
      refine (wpIn_wide (n := 4)).1 ?_
      obtain ⟨W0, hW0⟩ : ∃ W0, (wr.alloc (.cells #[.int .i64 (m : Int)] 3)).alloc (.cells #[.pointer (some ⟨w0.heap.size, 0, none⟩)] 25) = W0 := ⟨_, rfl⟩
      have x2 := (Boxed.new wr 3 (.int .i64 (m : Int))).alloc (.cells #[.pointer (some ⟨w0.heap.size, 0, none⟩)] 25)
      have x3 := Boxed.new (wr.alloc (.cells #[.int .i64 (m : Int)] 3)) 25 (.pointer (some ⟨w0.heap.size, 0, none⟩))
      simp only [World.size_alloc] at x3
      have hszW : W0.heap.size = wr.heap.size + 2 := by rw [← hW0]; simp
      have hbW : Below wr.heap.size wr W0 := by
        rw [← hW0]
        exact ((Below.refl _ wr).alloc (Nat.le_refl _) _).alloc (by simp) _
      rw [hW0] at x2 x3 ⊢
      clear hW0
      obtain ⟨R, hR, _, _⟩ := Hr.out
      have hRlt := hR.lt
      have xl : W0.cell? ⟨w.heap.size, 0, none⟩ = some (.slice A l.length c) := (hbW.cell (p := ⟨w.heap.size, 0, none⟩) (Nat.lt_of_lt_of_le HX0.out.lt hzr)).trans cl
      have xr : Boxed W0 (w.heap.size + 1) 4 (.bool false) := (hbW.block _ (Nat.lt_of_lt_of_le HX1.out.lt hzr)).trans ((Hbel.out.block _ HX1.out.lt).trans HX1.out)
      have HBW : Hid (Below w.heap.size w W0) := Lib.hid ((HB0.out.trans (Hbel.out.mono HB0.out.size)).trans (hbW.mono (by have := Hz0.out; omega)))
      have hzW0 : w.heap.size ≤ W0.heap.size := HBW.out.size
      refine wpIn_rangeFunc_ownG rfl (by omega) (gf := 36) (lb := #[.pointer (some ⟨wr.heap.size + 1, 0, none⟩)]) rfl trivial (enters_of Try.func36 (by kernel_rfl) rfl)
        (all_stopsS 3 (by omega) (wr.heap.size + 1) W0.heap.size _ R w0.heap.size st (hR.below hbW) (fun k hk => by have := hRlt k hk; omega) x3) belowK_t (belowK_b (Nat.le_refl _)) (Below.refl _ _) (fun _ => rfl)
        (fun pre W => Below W0.heap.size W0 W)
        (fun c pre W => False)
        (ownFrom_below (Nat.le_refl _) (Nat.le_refl _))
        (fun c => ownFrom_pure _ _)
        (Below.refl _ _)
        (fun x => { tmps := #[.int .i64 n, .slice A l.length c, .int .i64 (T : Int), undef, .pointer (some ⟨w.heap.size, 0, none⟩), undef, .pointer (some ⟨w.heap.size + 1, 0, none⟩), .pointer (some ⟨w0.heap.size, 0, none⟩), undef, u9, .pointer (some ⟨wr.heap.size, 0, none⟩), .int .i64 (x.1.1 : Int), .string x.1.2, undef, undef, .slice A l.length c, .int .i64 (l.length : Int), .bool false, .bool false, .int .i64 (T : Int), .bool false, .bool false, .bool false, .int .i64 (T : Int), .bool false, .bool false, undef, .int .i64 n, .pointer (some ⟨w0.heap.size, 0, none⟩), .pointer (some ⟨w0.heap.size, 0, none⟩), .bool false, .slice A l.length c, .int .i64 (l.length : Int), .int .i64 (l.length : Int), .bool false, u35, u36, u37, u38, u39, u40, u41, u42, u43, u44, u45, u46, u47, u48, u49, u50, .slice A l.length c, .int .i64 (l.length : Int), .int .i64 n, .int .i64 (min n 64), .int .i64 (max (min n 64) 1), .int .i64 (m : Int), .pointer (some ⟨w0.heap.size, 0, none⟩), .func (.func 36) #[] #[.pointer (some ⟨wr.heap.size + 1, 0, none⟩)], .int .i64 (x.1.1 : Int), .string x.1.2, undef, undef, undef, undef, undef, undef, undef, undef, undef, undef, undef, undef, undef, undef, undef, undef, undef, undef, undef, undef, undef, undef, undef, undef, undef, undef, undef, undef, undef, undef, undef, undef, undef, undef, undef, undef, undef, undef, undef, undef, undef, undef, undef, undef, undef, undef, undef, undef, undef, undef, undef], defers := [] }) ?assign ?body ?done ?stop
      case assign =>
        intro l' x W K hK
        gi_wp2
        exact hK
      case body =>
        rintro l' pre x W hB hlt
        obtain ⟨hjm, hjl⟩ := Hget.out x.1.1 x.1.2 x.2
        have hjn : x.1.1 < l.length := by have := (List.getElem?_eq_some_iff.1 hjl).1; omega
        obtain ⟨g, o, rfl, hg, hc⟩ := (HV.out.below (HBW.out.trans (hB.mono hzW0))).at_ (by omega)
        have ck := hc _ _ hjl
        have cn : W.cell? ⟨wr.heap.size, 0, none⟩ = some (.int .i64 (m : Int)) := (hB.cell (p := ⟨wr.heap.size, 0, none⟩) x2.lt).trans x2.cell
        have cl2 : W.cell? ⟨w.heap.size, 0, none⟩ = some (.slice (some ⟨g, o, none⟩) l.length c) := (hB.cell (p := ⟨w.heap.size, 0, none⟩) (World.block_lt_of_cell? _ _ xl)).trans xl
        have hs1 : IntKind.i64.wrap ((l.length : Int) - 1) = ((l.length - 1 : Nat) : Int) := by rw [IntWalk.i64_in _ (by omega)]; omega
        have hs2 : IntKind.i64.wrap (((l.length - 1 : Nat) : Int) - (x.1.1 : Int)) = ((l.length - 1 - x.1.1 : Nat) : Int) := by rw [IntWalk.i64_in _ (by omega)]; omega
        have hge : decide ((m : Int) ≤ (x.1.1 : Int)) = false := decide_eq_false (by omega)
        have hge' : decide (m ≤ x.1.1) = false := decide_eq_false (by omega)
        have hi1 : l.length - 1 - x.1.1 < l.length := by omega
        have hi2 : ((l.length - 1 - x.1.1 : Nat) : Int) < (l.length : Int) := by omega
        have HB := Lib.hid hB
        clear hc hB hjl
        generalize l.length - 1 - x.1.1 = i at *
        generalize l.length - 1 = q at *
        gi_wp2
        exact ⟨KeepsFrom.refl _ _, Below.refl _ _, HB.out⟩
      case done =>
        rintro D ys W hD hys hB hK
        have cn : Boxed W wr.heap.size 3 (.int .i64 (m : Int)) := (hB.block _ x2.lt).trans x2
        have br : Boxed W (w.heap.size + 1) 4 (.bool false) := (hB.block _ xr.lt).trans xr
        have cl2 : W.cell? ⟨w.heap.size, 0, none⟩ = some (.slice A l.length c) := (hB.cell (p := ⟨w.heap.size, 0, none⟩) (World.block_lt_of_cell? _ _ xl)).trans xl
        have hH : InS w0 W w0.heap.size st := (Hr.out.below hbW).below hB
        have HH := Lib.hid hH
        obtain ⟨R6, hR6, _, _⟩ := hH
        have Htc := Lib.hid (top_callsS W R6 _ _ hR6)
        have HK := Lib.hid hK
        have Hcn := Lib.hid cn
        have Hbr := Lib.hid br
        have HBx := Lib.hid hB
        have hzW := hB.size
        have Hx0 := Lib.hid hszW
        have hzx := x2.lt
        have hzl := World.block_lt_of_cell? _ _ xl
        clear hB hK cn br hys hR6 x2 x3 xl xr cl
        go_wp2_with fail
        refine Htc.out.mono ?_
        rintro e w4 ⟨rfl, hb4⟩
        have cn4 : Boxed w4 wr.heap.size 3 (.int .i64 (m : Int)) := (hb4.block _ Hcn.out.lt).trans Hcn.out
        have br4 : Boxed w4 (w.heap.size + 1) 4 (.bool false) := (hb4.block _ Hbr.out.lt).trans Hbr.out
        have cl4 : w4.cell? ⟨w.heap.size, 0, none⟩ = some (.slice A l.length c) := (hb4.cell (p := ⟨w.heap.size, 0, none⟩) (World.block_lt_of_cell? _ _ cl2)).trans cl2
        have HK4 : Hid (w4.heap[D]? = some (.deferred (some []))) := Lib.hid ((hb4.block D (Array.getElem?_eq_some_iff.1 HK.out).1).trans HK.out)
        have H4 := Lib.hid (HH.out.below hb4)
        have HB4 : Hid (Below w.heap.size w w4) := Lib.hid ((HBW.out.trans (HBx.out.mono hzW0)).trans (hb4.mono (by omega)))
        have Hal := Lib.hid (ralive_calls w4.drew)
        have Hcn4 := Lib.hid cn4
        have Hbr4 := Lib.hid br4
        have c0 := cn4.cell
        have hz4 := hb4.size
        clear hb4 cn4 br4 cl2 Hcn Hbr HK HH HBx Htc
        rw [← Hm.out]
        by_cases hm0 : m = 0
        · have hd : decide (0 < m) = false := decide_eq_false (by omega)
          have hd0 : decide ((0 : Int) < (m : Int)) = false := decide_eq_false (by omega)
          have hn0 : ((m : Int) == 0) = true := by simp; omega
          rw [hd]
          clear hm0 Htop
          go_wp2_with fail
          refine wp_region_noPanic ?_
          refine wp_region_held_drew (S := (fun w' => w'.cell? ⟨wr.heap.size, 0, none⟩ = some (.int .i64 (m : Int)) ∧ w'.cell? ⟨w.heap.size, 0, none⟩ = some (.slice A l.length c))) (by kernel_rfl) ⟨c0, cl4⟩ (fun hHeld => ?_)
          refine wpAnyH_ready (rs := [0]) (by kernel_rfl) (by simp) ?_
          refine AllReadyH.cons (o := ⟨some 81, _, _, _, _, _⟩) rfl (fun K hK => ?_) AllReadyH.nil
          (rw [if_pos (by kernel_rfl)])
          go_simp
          refine Hal.out.mono ?_
          rintro e w5 ⟨rfl, hb5⟩
          have hb5' : Below w4.heap.size w4 w5 := ⟨hb5.os, hb5.tape, hb5.output, hb5.size, hb5.block⟩
          have cn5 : Boxed w5 wr.heap.size 3 (.int .i64 (m : Int)) := (hb5'.block _ Hcn4.out.lt).trans Hcn4.out
          have br5 : Boxed w5 (w.heap.size + 1) 4 (.bool false) := (hb5'.block _ Hbr4.out.lt).trans Hbr4.out
          have cl5 := (hb5'.cell (p := ⟨w.heap.size, 0, none⟩) (World.block_lt_of_cell? _ _ cl4)).trans cl4
          have HK5 : Hid (w5.heap[D]? = some (.deferred (some []))) := Lib.hid ((hb5'.block D (Array.getElem?_eq_some_iff.1 HK4.out).1).trans HK4.out)
          have H5 := Lib.hid (H4.out.below hb5')
          have HB5 : Hid (Below w.heap.size w w5) := Lib.hid (HB4.out.trans (hb5'.mono (by omega)))
          obtain ⟨R5, hR5, _, _⟩ := H5.out
          have hlen := len_callsS w5 R5 w0.heap.size st hR5
          rw [← Hm.out] at hlen
          have Hlen := Lib.hid hlen
          have d5 := cn5.cell
          have cb5 := br5.cell
          have fb5 := br5.frozen
          have Hbr5 := Lib.hid br5
          have d6 : (w5.setCell ⟨w.heap.size + 1, 0, none⟩ (.bool true)).cell? ⟨wr.heap.size, 0, none⟩ = some (.int .i64 (m : Int)) := by rw [World.cell?_setCell_far _ _ _ _ (by simp; have := HX1.out.lt; omega)]; exact d5
          have cl6 : (w5.setCell ⟨w.heap.size + 1, 0, none⟩ (.bool true)).cell? ⟨w.heap.size, 0, none⟩ = some (.slice A l.length c) := by rw [World.cell?_setCell_far _ _ _ _ (by simp)]; exact cl5
          refine hK.out _ _ ⟨d5, cl5⟩ (fun hHeld => ?_)
          clear hK K
          clear hb5 hb5' cn5 br5 hR5 hlen
          refine wpAnyH_take (i := 1) (oi := ⟨some 82, _, _, _, _, _⟩) (v := ?_) rfl (by kernel_rfl) (by kernel_rfl) (by kernel_rfl) (fun _ _ _ h => h) (Or.inl ⟨by kernel_rfl, ?hy1⟩) (by assumption) ?_
          case hy1 => (intro w' hSw; (try dsimp only at hSw); go_simp; try with_reducible rfl)
          simp only [Act.put, List.setIfInBounds_toArray, List.set_cons_zero, List.set_cons_succ]
          refine wpAnyH_take (i := 2) (oi := ⟨some 83, _, _, _, _, _⟩) (v := ?_) rfl (by kernel_rfl) (by kernel_rfl) (by kernel_rfl) (fun _ _ _ h => h) (Or.inl ⟨by kernel_rfl, ?hy2⟩) (by assumption) ?_
          case hy2 => (intro w' hSw; (try dsimp only at hSw); go_simp; try with_reducible rfl)
          simp only [Act.put, List.setIfInBounds_toArray, List.set_cons_zero, List.set_cons_succ]
          refine wpAnyH_take (i := 4) (oi := ⟨some 85, _, _, _, _, _⟩) (v := ?_) rfl (by kernel_rfl) (by kernel_rfl) (by kernel_rfl) (fun _ _ _ h => h) (Or.inl ⟨by kernel_rfl, ?hy4⟩) (by assumption) ?_
          case hy4 => (intro w' hSw; (try dsimp only at hSw); go_simp; try with_reducible rfl)
          simp only [Act.put, List.setIfInBounds_toArray, List.set_cons_zero, List.set_cons_succ]
          refine wpAnyH_ready (rs := [3]) (by kernel_rfl) (by simp) ?_
          refine AllReadyH.cons (o := ⟨some 84, _, _, _, _, _⟩) rfl (fun K hK => ?_) AllReadyH.nil
          (rw [if_pos (by kernel_rfl)])
          go_simp
          refine Hlen.out.mono ?_
          rintro e w6 ⟨rfl, rfl⟩
          refine hK.out _ _ ⟨d5, cl5⟩ (fun hHeld => ?_)
          clear hK K
          refine wpAnyH_take (i := 5) (oi := ⟨some 86, _, _, _, _, _⟩) (v := ?_) rfl (by kernel_rfl) (by kernel_rfl) (by kernel_rfl) (fun _ _ _ h => h) (Or.inl ⟨by kernel_rfl, ?hy5⟩) (by assumption) ?_
          case hy5 => (intro w' hSw; (try dsimp only at hSw); go_simp; try with_reducible rfl)
          simp only [Act.put, List.setIfInBounds_toArray, List.set_cons_zero, List.set_cons_succ]
          refine wpAnyH_take (i := 6) (oi := ⟨some 87, _, _, _, _, _⟩) (v := ?_) rfl (by kernel_rfl) (by kernel_rfl) (by kernel_rfl) (fun _ _ _ h => h) (Or.inl ⟨by kernel_rfl, ?hy6⟩) (by assumption) ?_
          case hy6 => (intro w' hSw; (try dsimp only at hSw); go_simp; try with_reducible rfl)
          simp only [Act.put, List.setIfInBounds_toArray, List.set_cons_zero, List.set_cons_succ]
          refine wpAnyH_take (i := 7) (oi := ⟨some 88, _, _, _, _, _⟩) (v := ?_) rfl (by kernel_rfl) (by kernel_rfl) (by kernel_rfl) (fun _ _ _ h => h) (Or.inl ⟨by kernel_rfl, ?hy7⟩) (by assumption) ?_
          case hy7 => (intro w' hSw; (try dsimp only at hSw); go_simp; try with_reducible rfl)
          simp only [Act.put, List.setIfInBounds_toArray, List.set_cons_zero, List.set_cons_succ]
          refine wpAnyH_take (i := 8) (oi := ⟨some 89, _, _, _, _, _⟩) (v := ?_) rfl (by kernel_rfl) (by kernel_rfl) (by kernel_rfl) (fun _ _ _ h => h) (Or.inl ⟨by kernel_rfl, ?hy8⟩) (by assumption) ?_
          case hy8 => (intro w' hSw; (try dsimp only at hSw); go_simp; try with_reducible rfl)
          simp only [Act.put, List.setIfInBounds_toArray, List.set_cons_zero, List.set_cons_succ]
          refine wpAnyH_take (i := 9) (oi := ⟨some 90, _, _, _, _, _⟩) (v := ?_) rfl (by kernel_rfl) (by kernel_rfl) (by kernel_rfl) (fun _ _ _ h => h) (Or.inl ⟨by kernel_rfl, ?hy9⟩) (by assumption) ?_
          case hy9 => (intro w' hSw; (try dsimp only at hSw); go_simp; try with_reducible rfl)
          simp only [Act.put, List.setIfInBounds_toArray, List.set_cons_zero, List.set_cons_succ]
          refine wpAnyH_take (i := 10) (oi := ⟨some 91, _, _, _, _, _⟩) (v := ?_) rfl (by kernel_rfl) (by kernel_rfl) (by kernel_rfl) (fun _ _ _ h => h) (Or.inl ⟨by kernel_rfl, ?hy10⟩) (by assumption) ?_
          case hy10 => (intro w' hSw; (try dsimp only at hSw); go_simp; try with_reducible rfl)
          simp only [Act.put, List.setIfInBounds_toArray, List.set_cons_zero, List.set_cons_succ]
          refine wpAnyH_take (i := 11) (oi := ⟨some 92, _, _, _, _, _⟩) (v := ?_) rfl (by kernel_rfl) (by kernel_rfl) (by kernel_rfl) (fun _ _ _ h => h) (Or.inl ⟨by kernel_rfl, ?hy11⟩) (by assumption) ?_
          case hy11 => (intro w' hSw; (try dsimp only at hSw); go_simp; try with_reducible rfl)
          simp only [Act.put, List.setIfInBounds_toArray, List.set_cons_zero, List.set_cons_succ]
          refine wpAnyH_take (i := 12) (oi := ⟨some 93, _, _, _, _, _⟩) (v := ?_) rfl (by kernel_rfl) (by kernel_rfl) (by kernel_rfl) (fun _ _ _ h => h) (Or.inl ⟨by kernel_rfl, ?hy12⟩) (by assumption) ?_
          case hy12 => (intro w' hSw; (try dsimp only at hSw); go_simp; try with_reducible rfl)
          simp only [Act.put, List.setIfInBounds_toArray, List.set_cons_zero, List.set_cons_succ]
          refine wpAnyH_take (i := 13) (oi := ⟨some 94, _, _, _, _, _⟩) (v := ?_) rfl (by kernel_rfl) (by kernel_rfl) (by kernel_rfl) (fun _ _ _ h => h) (Or.inl ⟨by kernel_rfl, ?hy13⟩) (by assumption) ?_
          case hy13 => (intro w' hSw; (try dsimp only at hSw); go_simp; try with_reducible rfl)
          simp only [Act.put, List.setIfInBounds_toArray, List.set_cons_zero, List.set_cons_succ]
          refine wpAnyH_take (i := 14) (oi := ⟨some 95, _, _, _, _, _⟩) (v := ?_) rfl (by kernel_rfl) (by kernel_rfl) (by kernel_rfl) (fun _ _ _ h => h) (Or.inl ⟨by kernel_rfl, ?hy14⟩) (by assumption) ?_
          case hy14 => (intro w' hSw; (try dsimp only at hSw); go_simp; try with_reducible rfl)
          simp only [Act.put, List.setIfInBounds_toArray, List.set_cons_zero, List.set_cons_succ]
          refine wpAnyH_take (i := 15) (oi := ⟨some 96, _, _, _, _, _⟩) (v := ?_) rfl (by kernel_rfl) (by kernel_rfl) (by kernel_rfl) (fun _ _ _ h => h) (Or.inl ⟨by kernel_rfl, ?hy15⟩) (by assumption) ?_
          case hy15 => (intro w' hSw; (try dsimp only at hSw); go_simp; try with_reducible rfl)
          simp only [Act.put, List.setIfInBounds_toArray, List.set_cons_zero, List.set_cons_succ]
          refine wpAnyH_take (i := 16) (oi := ⟨some 97, _, _, _, _, _⟩) (v := ?_) rfl (by kernel_rfl) (by kernel_rfl) (by kernel_rfl) (fun _ _ _ h => h) (Or.inl ⟨by kernel_rfl, ?hy16⟩) (by assumption) ?_
          case hy16 => (intro w' hSw; (try dsimp only at hSw); go_simp; try with_reducible rfl)
          simp only [Act.put, List.setIfInBounds_toArray, List.set_cons_zero, List.set_cons_succ]
          refine wpAnyH_take (i := 17) (oi := ⟨some 98, _, _, _, _, _⟩) (v := undef) rfl (by kernel_rfl) (by kernel_rfl) (by kernel_rfl) (fun _ _ _ h => h) (Or.inr ⟨by kernel_rfl, rfl⟩) (by assumption) ?_
          simp only [Act.put, List.setIfInBounds_toArray, List.set_cons_zero, List.set_cons_succ]
          refine wpAnyH_take (i := 18) (oi := ⟨some 99, _, _, _, _, _⟩) (v := undef) rfl (by kernel_rfl) (by kernel_rfl) (by kernel_rfl) (fun _ _ _ h => h) (Or.inr ⟨by kernel_rfl, rfl⟩) (by assumption) ?_
          simp only [Act.put, List.setIfInBounds_toArray, List.set_cons_zero, List.set_cons_succ]
          refine wpAnyH_take (i := 19) (oi := ⟨some 100, _, _, _, _, _⟩) (v := undef) rfl (by kernel_rfl) (by kernel_rfl) (by kernel_rfl) (fun _ _ _ h => h) (Or.inr ⟨by kernel_rfl, rfl⟩) (by assumption) ?_
          simp only [Act.put, List.setIfInBounds_toArray, List.set_cons_zero, List.set_cons_succ]
          refine wpAnyH_take (i := 20) (oi := ⟨some 101, _, _, _, _, _⟩) (v := undef) rfl (by kernel_rfl) (by kernel_rfl) (by kernel_rfl) (fun _ _ _ h => h) (Or.inr ⟨by kernel_rfl, rfl⟩) (by assumption) ?_
          simp only [Act.put, List.setIfInBounds_toArray, List.set_cons_zero, List.set_cons_succ]
          refine wpAnyH_take (i := 21) (oi := ⟨some 102, _, _, _, _, _⟩) (v := undef) rfl (by kernel_rfl) (by kernel_rfl) (by kernel_rfl) (fun _ _ _ h => h) (Or.inr ⟨by kernel_rfl, rfl⟩) (by assumption) ?_
          simp only [Act.put, List.setIfInBounds_toArray, List.set_cons_zero, List.set_cons_succ]
          refine wpAnyH_take (i := 22) (oi := ⟨some 103, _, _, _, _, _⟩) (v := undef) rfl (by kernel_rfl) (by kernel_rfl) (by kernel_rfl) (fun _ _ _ h => h) (Or.inr ⟨by kernel_rfl, rfl⟩) (by assumption) ?_
          simp only [Act.put, List.setIfInBounds_toArray, List.set_cons_zero, List.set_cons_succ]
          refine wpAnyH_take (i := 23) (oi := ⟨some 104, _, _, _, _, _⟩) (v := undef) rfl (by kernel_rfl) (by kernel_rfl) (by kernel_rfl) (fun _ _ _ h => h) (Or.inr ⟨by kernel_rfl, rfl⟩) (by assumption) ?_
          simp only [Act.put, List.setIfInBounds_toArray, List.set_cons_zero, List.set_cons_succ]
          refine wpAnyH_take (i := 24) (oi := ⟨some 105, _, _, _, _, _⟩) (v := undef) rfl (by kernel_rfl) (by kernel_rfl) (by kernel_rfl) (fun _ _ _ h => h) (Or.inr ⟨by kernel_rfl, rfl⟩) (by assumption) ?_
          simp only [Act.put, List.setIfInBounds_toArray, List.set_cons_zero, List.set_cons_succ]
          refine wpAnyH_take (i := 25) (oi := ⟨some 106, _, _, _, _, _⟩) (v := undef) rfl (by kernel_rfl) (by kernel_rfl) (by kernel_rfl) (fun _ _ _ h => h) (Or.inr ⟨by kernel_rfl, rfl⟩) (by assumption) ?_
          simp only [Act.put, List.setIfInBounds_toArray, List.set_cons_zero, List.set_cons_succ]
          refine wpAnyH_take (i := 26) (oi := ⟨some 107, _, _, _, _, _⟩) (v := undef) rfl (by kernel_rfl) (by kernel_rfl) (by kernel_rfl) (fun _ _ _ h => h) (Or.inr ⟨by kernel_rfl, rfl⟩) (by assumption) ?_
          simp only [Act.put, List.setIfInBounds_toArray, List.set_cons_zero, List.set_cons_succ]
          refine wpAnyH_take (i := 27) (oi := ⟨some 108, _, _, _, _, _⟩) (v := undef) rfl (by kernel_rfl) (by kernel_rfl) (by kernel_rfl) (fun _ _ _ h => h) (Or.inr ⟨by kernel_rfl, rfl⟩) (by assumption) ?_
          simp only [Act.put, List.setIfInBounds_toArray, List.set_cons_zero, List.set_cons_succ]
          refine wpAnyH_take (i := 28) (oi := ⟨some 109, _, _, _, _, _⟩) (v := undef) rfl (by kernel_rfl) (by kernel_rfl) (by kernel_rfl) (fun _ _ _ h => h) (Or.inr ⟨by kernel_rfl, rfl⟩) (by assumption) ?_
          simp only [Act.put, List.setIfInBounds_toArray, List.set_cons_zero, List.set_cons_succ]
          refine wpAnyH_take (i := 29) (oi := ⟨some 110, _, _, _, _, _⟩) (v := ?_) rfl (by kernel_rfl) (by kernel_rfl) (by kernel_rfl) (fun _ _ _ h => h) (Or.inl ⟨by kernel_rfl, ?hy29⟩) (by assumption) ?_
          case hy29 => (intro w' hSw; (try dsimp only at hSw); go_simp; try with_reducible rfl)
          simp only [Act.put, List.setIfInBounds_toArray, List.set_cons_zero, List.set_cons_succ]
          refine wpAnyH_take (i := 30) (oi := ⟨some 111, _, _, _, _, _⟩) (v := ?_) rfl (by kernel_rfl) (by kernel_rfl) (by kernel_rfl) (fun _ _ _ h => h) (Or.inl ⟨by kernel_rfl, ?hy30⟩) (by assumption) ?_
          case hy30 => (intro w' hSw; (try dsimp only at hSw); go_simp; try with_reducible rfl)
          simp only [Act.put, List.setIfInBounds_toArray, List.set_cons_zero, List.set_cons_succ]
          refine wpAnyH_ready (rs := [31]) (by kernel_rfl) (by simp) ?_
          refine AllReadyH.cons (o := ⟨none, _, _, _, _, _⟩) rfl (fun K hK => ?_) AllReadyH.nil
          (rw [if_pos (by kernel_rfl)])
          go_simp
          refine hK.out _ _ ⟨d6, cl6⟩ (fun hHeld => ?_)
          clear hK K
          refine wpAnyH_done (by kernel_rfl) (NoPanic.normal ?_) _
          clear hHeld d6 d5 cb5 fb5
          go_wp2
          refine ⟨by simp, .inl ⟨_, _, rfl, run_takeDeferred ((Below.heap_setCell w5 ⟨w.heap.size + 1, 0, none⟩ _ D (by simp; have := Hz0.out; omega)).trans HK5.out), ?_⟩⟩
          refine ⟨_, results_bool rfl _ _ (w.heap.size + 1) (.bool true) 4 rfl ((World.putObj_heap_other (by have := Hz0.out; omega)).trans (Hbr5.out.set (.bool true))) Try.underlying4, rfl, ?_⟩
          exact (HB5.out.setCell (p := ⟨w.heap.size + 1, 0, none⟩) (Nat.le_succ _) _).trans (belowK_b (w := w) (Nat.le_refl _) _ D _ _ (by have := Hz0.out; omega) ((Below.heap_setCell w5 ⟨w.heap.size + 1, 0, none⟩ _ D (by simp; have := Hz0.out; omega)).trans HK5.out) rfl rfl)
        · obtain ⟨ht1, ht2⟩ := Htop.out (by omega)
          obtain ⟨g, o, rfl, hg, hc⟩ := HV.out.at_ (by omega)
          have ck := hc _ _ ht2
          have ck4 : w4.cell? ⟨g, o + (l.length - 1 - T % m), none⟩ = _ := (HB4.out.cell (p := ⟨g, o + (l.length - 1 - T % m), none⟩) hg).trans ck
          have hd : decide (0 < m) = true := decide_eq_true (by omega)
          have hd0 : decide ((0 : Int) < (m : Int)) = true := decide_eq_true (by omega)
          have hn0 : ((m : Int) == 0) = false := beq_eq_false_iff_ne.2 (by omega)
          have hs1 : IntKind.i64.wrap ((l.length : Int) - 1) = ((l.length - 1 : Nat) : Int) := by rw [IntWalk.i64_in _ (by omega)]; omega
          have hmd : T % m < m := Nat.mod_lt _ (by omega)
          have hrm : ((T : Int)).tmod (m : Int) = ((T % m : Nat) : Int) := by rfl
          have hrw : IntKind.i64.wrap ((T % m : Nat) : Int) = ((T % m : Nat) : Int) := IntWalk.i64_in _ (by omega)
          have hs2 : IntKind.i64.wrap (((l.length - 1 : Nat) : Int) - ((T % m : Nat) : Int)) = ((l.length - 1 - T % m : Nat) : Int) := by rw [IntWalk.i64_in _ (by omega)]; omega
          have hi1 : l.length - 1 - T % m < l.length := by omega
          have hi2 : ((l.length - 1 - T % m : Nat) : Int) < (l.length : Int) := by omega
          rw [hd]
          clear hc ht2 ck Htop
          generalize st.l.getD st.i ⟨#[]⟩ = y at *
          generalize l.length - 1 - T % m = i at *
          generalize l.length - 1 = q at *
          generalize T % m = p at *
          go_wp2_with fail
          refine wp_region_noPanic ?_
          refine wp_region_held_drew (S := (fun w' => w'.cell? ⟨wr.heap.size, 0, none⟩ = some (.int .i64 (m : Int)) ∧ w'.cell? ⟨w.heap.size, 0, none⟩ = some (.slice (some ⟨g, o, none⟩) l.length c) ∧ w'.cell? ⟨g, o + i, none⟩ = some (.string y))) (by kernel_rfl) ⟨c0, cl4, ck4⟩ (fun hHeld => ?_)
          refine wpAnyH_ready (rs := [0]) (by kernel_rfl) (by simp) ?_
          refine AllReadyH.cons (o := ⟨some 81, _, _, _, _, _⟩) rfl (fun K hK => ?_) AllReadyH.nil
          (rw [if_pos (by kernel_rfl)])
          go_simp
          refine Hal.out.mono ?_
          rintro e w5 ⟨rfl, hb5⟩
          have hb5' : Below w4.heap.size w4 w5 := ⟨hb5.os, hb5.tape, hb5.output, hb5.size, hb5.block⟩
          have cn5 : Boxed w5 wr.heap.size 3 (.int .i64 (m : Int)) := (hb5'.block _ Hcn4.out.lt).trans Hcn4.out
          have br5 : Boxed w5 (w.heap.size + 1) 4 (.bool false) := (hb5'.block _ Hbr4.out.lt).trans Hbr4.out
          have cl5 := (hb5'.cell (p := ⟨w.heap.size, 0, none⟩) (World.block_lt_of_cell? _ _ cl4)).trans cl4
          have ce5 := (hb5'.cell (p := ⟨g, o + i, none⟩) (World.block_lt_of_cell? _ _ ck4)).trans ck4
          have ce6 : (w5.setCell ⟨w.heap.size + 1, 0, none⟩ (.bool true)).cell? ⟨g, o + i, none⟩ = some (.string y) := by rw [World.cell?_setCell_far _ _ _ _ (by simp; omega)]; exact ce5
          have HK5 : Hid (w5.heap[D]? = some (.deferred (some []))) := Lib.hid ((hb5'.block D (Array.getElem?_eq_some_iff.1 HK4.out).1).trans HK4.out)
          have H5 := Lib.hid (H4.out.below hb5')
          have HB5 : Hid (Below w.heap.size w w5) := Lib.hid (HB4.out.trans (hb5'.mono (by omega)))
          obtain ⟨R5, hR5, _, _⟩ := H5.out
          have hlen := len_callsS w5 R5 w0.heap.size st hR5
          rw [← Hm.out] at hlen
          have Hlen := Lib.hid hlen
          have d5 := cn5.cell
          have cb5 := br5.cell
          have fb5 := br5.frozen
          have Hbr5 := Lib.hid br5
          have d6 : (w5.setCell ⟨w.heap.size + 1, 0, none⟩ (.bool true)).cell? ⟨wr.heap.size, 0, none⟩ = some (.int .i64 (m : Int)) := by rw [World.cell?_setCell_far _ _ _ _ (by simp; have := HX1.out.lt; omega)]; exact d5
          have cl6 : (w5.setCell ⟨w.heap.size + 1, 0, none⟩ (.bool true)).cell? ⟨w.heap.size, 0, none⟩ = some (.slice (some ⟨g, o, none⟩) l.length c) := by rw [World.cell?_setCell_far _ _ _ _ (by simp)]; exact cl5
          refine hK.out _ _ ⟨d5, cl5, ce5⟩ (fun hHeld => ?_)
          clear hK K
          clear hb5 hb5' cn5 br5 hR5 hlen
          refine wpAnyH_take (i := 1) (oi := ⟨some 82, _, _, _, _, _⟩) (v := ?_) rfl (by kernel_rfl) (by kernel_rfl) (by kernel_rfl) (fun _ _ _ h => h) (Or.inl ⟨by kernel_rfl, ?hy1⟩) (by assumption) ?_
          case hy1 => (intro w' hSw; (try dsimp only at hSw); go_simp; try with_reducible rfl)
          simp only [Act.put, List.setIfInBounds_toArray, List.set_cons_zero, List.set_cons_succ]
          refine wpAnyH_take (i := 2) (oi := ⟨some 83, _, _, _, _, _⟩) (v := ?_) rfl (by kernel_rfl) (by kernel_rfl) (by kernel_rfl) (fun _ _ _ h => h) (Or.inl ⟨by kernel_rfl, ?hy2⟩) (by assumption) ?_
          case hy2 => (intro w' hSw; (try dsimp only at hSw); go_simp; try with_reducible rfl)
          simp only [Act.put, List.setIfInBounds_toArray, List.set_cons_zero, List.set_cons_succ]
          refine wpAnyH_take (i := 4) (oi := ⟨some 85, _, _, _, _, _⟩) (v := ?_) rfl (by kernel_rfl) (by kernel_rfl) (by kernel_rfl) (fun _ _ _ h => h) (Or.inl ⟨by kernel_rfl, ?hy4⟩) (by assumption) ?_
          case hy4 => (intro w' hSw; (try dsimp only at hSw); go_simp; try with_reducible rfl)
          simp only [Act.put, List.setIfInBounds_toArray, List.set_cons_zero, List.set_cons_succ]
          refine wpAnyH_ready (rs := [3]) (by kernel_rfl) (by simp) ?_
          refine AllReadyH.cons (o := ⟨some 84, _, _, _, _, _⟩) rfl (fun K hK => ?_) AllReadyH.nil
          (rw [if_pos (by kernel_rfl)])
          go_simp
          refine Hlen.out.mono ?_
          rintro e w6 ⟨rfl, rfl⟩
          refine hK.out _ _ ⟨d5, cl5, ce5⟩ (fun hHeld => ?_)
          clear hK K
          refine wpAnyH_take (i := 5) (oi := ⟨some 86, _, _, _, _, _⟩) (v := ?_) rfl (by kernel_rfl) (by kernel_rfl) (by kernel_rfl) (fun _ _ _ h => h) (Or.inl ⟨by kernel_rfl, ?hy5⟩) (by assumption) ?_
          case hy5 => (intro w' hSw; (try dsimp only at hSw); go_simp; try with_reducible rfl)
          simp only [Act.put, List.setIfInBounds_toArray, List.set_cons_zero, List.set_cons_succ]
          refine wpAnyH_take (i := 6) (oi := ⟨some 87, _, _, _, _, _⟩) (v := ?_) rfl (by kernel_rfl) (by kernel_rfl) (by kernel_rfl) (fun _ _ _ h => h) (Or.inl ⟨by kernel_rfl, ?hy6⟩) (by assumption) ?_
          case hy6 => (intro w' hSw; (try dsimp only at hSw); go_simp; try with_reducible rfl)
          simp only [Act.put, List.setIfInBounds_toArray, List.set_cons_zero, List.set_cons_succ]
          refine wpAnyH_take (i := 7) (oi := ⟨some 88, _, _, _, _, _⟩) (v := ?_) rfl (by kernel_rfl) (by kernel_rfl) (by kernel_rfl) (fun _ _ _ h => h) (Or.inl ⟨by kernel_rfl, ?hy7⟩) (by assumption) ?_
          case hy7 => (intro w' hSw; (try dsimp only at hSw); go_simp; try with_reducible rfl)
          simp only [Act.put, List.setIfInBounds_toArray, List.set_cons_zero, List.set_cons_succ]
          refine wpAnyH_take (i := 8) (oi := ⟨some 89, _, _, _, _, _⟩) (v := ?_) rfl (by kernel_rfl) (by kernel_rfl) (by kernel_rfl) (fun _ _ _ h => h) (Or.inl ⟨by kernel_rfl, ?hy8⟩) (by assumption) ?_
          case hy8 => (intro w' hSw; (try dsimp only at hSw); go_simp; try with_reducible rfl)
          simp only [Act.put, List.setIfInBounds_toArray, List.set_cons_zero, List.set_cons_succ]
          refine wpAnyH_take (i := 9) (oi := ⟨some 90, _, _, _, _, _⟩) (v := ?_) rfl (by kernel_rfl) (by kernel_rfl) (by kernel_rfl) (fun _ _ _ h => h) (Or.inl ⟨by kernel_rfl, ?hy9⟩) (by assumption) ?_
          case hy9 => (intro w' hSw; (try dsimp only at hSw); go_simp; try with_reducible rfl)
          simp only [Act.put, List.setIfInBounds_toArray, List.set_cons_zero, List.set_cons_succ]
          refine wpAnyH_take (i := 10) (oi := ⟨some 91, _, _, _, _, _⟩) (v := ?_) rfl (by kernel_rfl) (by kernel_rfl) (by kernel_rfl) (fun _ _ _ h => h) (Or.inl ⟨by kernel_rfl, ?hy10⟩) (by assumption) ?_
          case hy10 => (intro w' hSw; (try dsimp only at hSw); go_simp; try with_reducible rfl)
          simp only [Act.put, List.setIfInBounds_toArray, List.set_cons_zero, List.set_cons_succ]
          refine wpAnyH_take (i := 11) (oi := ⟨some 92, _, _, _, _, _⟩) (v := ?_) rfl (by kernel_rfl) (by kernel_rfl) (by kernel_rfl) (fun _ _ _ h => h) (Or.inl ⟨by kernel_rfl, ?hy11⟩) (by assumption) ?_
          case hy11 => (intro w' hSw; (try dsimp only at hSw); go_simp; try with_reducible rfl)
          simp only [Act.put, List.setIfInBounds_toArray, List.set_cons_zero, List.set_cons_succ]
          refine wpAnyH_take (i := 12) (oi := ⟨some 93, _, _, _, _, _⟩) (v := ?_) rfl (by kernel_rfl) (by kernel_rfl) (by kernel_rfl) (fun _ _ _ h => h) (Or.inl ⟨by kernel_rfl, ?hy12⟩) (by assumption) ?_
          case hy12 => (intro w' hSw; (try dsimp only at hSw); go_simp; try with_reducible rfl)
          simp only [Act.put, List.setIfInBounds_toArray, List.set_cons_zero, List.set_cons_succ]
          refine wpAnyH_take (i := 13) (oi := ⟨some 94, _, _, _, _, _⟩) (v := ?_) rfl (by kernel_rfl) (by kernel_rfl) (by kernel_rfl) (fun _ _ _ h => h) (Or.inl ⟨by kernel_rfl, ?hy13⟩) (by assumption) ?_
          case hy13 => (intro w' hSw; (try dsimp only at hSw); go_simp; try with_reducible rfl)
          simp only [Act.put, List.setIfInBounds_toArray, List.set_cons_zero, List.set_cons_succ]
          refine wpAnyH_take (i := 14) (oi := ⟨some 95, _, _, _, _, _⟩) (v := ?_) rfl (by kernel_rfl) (by kernel_rfl) (by kernel_rfl) (fun _ _ _ h => h) (Or.inl ⟨by kernel_rfl, ?hy14⟩) (by assumption) ?_
          case hy14 => (intro w' hSw; (try dsimp only at hSw); go_simp; try with_reducible rfl)
          simp only [Act.put, List.setIfInBounds_toArray, List.set_cons_zero, List.set_cons_succ]
          refine wpAnyH_take (i := 15) (oi := ⟨some 96, _, _, _, _, _⟩) (v := ?_) rfl (by kernel_rfl) (by kernel_rfl) (by kernel_rfl) (fun _ _ _ h => h) (Or.inl ⟨by kernel_rfl, ?hy15⟩) (by assumption) ?_
          case hy15 => (intro w' hSw; (try dsimp only at hSw); go_simp; try with_reducible rfl)
          simp only [Act.put, List.setIfInBounds_toArray, List.set_cons_zero, List.set_cons_succ]
          refine wpAnyH_take (i := 16) (oi := ⟨some 97, _, _, _, _, _⟩) (v := ?_) rfl (by kernel_rfl) (by kernel_rfl) (by kernel_rfl) (fun _ _ _ h => h) (Or.inl ⟨by kernel_rfl, ?hy16⟩) (by assumption) ?_
          case hy16 => (intro w' hSw; (try dsimp only at hSw); go_simp; try with_reducible rfl)
          simp only [Act.put, List.setIfInBounds_toArray, List.set_cons_zero, List.set_cons_succ]
          refine wpAnyH_take (i := 17) (oi := ⟨some 98, _, _, _, _, _⟩) (v := ?_) rfl (by kernel_rfl) (by kernel_rfl) (by kernel_rfl) (fun _ _ _ h => h) (Or.inl ⟨by kernel_rfl, ?hy17⟩) (by assumption) ?_
          case hy17 => (intro w' hSw; (try dsimp only at hSw); go_simp; try with_reducible rfl)
          simp only [Act.put, List.setIfInBounds_toArray, List.set_cons_zero, List.set_cons_succ]
          refine wpAnyH_take (i := 18) (oi := ⟨some 99, _, _, _, _, _⟩) (v := ?_) rfl (by kernel_rfl) (by kernel_rfl) (by kernel_rfl) (fun _ _ _ h => h) (Or.inl ⟨by kernel_rfl, ?hy18⟩) (by assumption) ?_
          case hy18 => (intro w' hSw; (try dsimp only at hSw); go_simp; try with_reducible rfl)
          simp only [Act.put, List.setIfInBounds_toArray, List.set_cons_zero, List.set_cons_succ]
          refine wpAnyH_take (i := 19) (oi := ⟨some 100, _, _, _, _, _⟩) (v := ?_) rfl (by kernel_rfl) (by kernel_rfl) (by kernel_rfl) (fun _ _ _ h => h) (Or.inl ⟨by kernel_rfl, ?hy19⟩) (by assumption) ?_
          case hy19 => (intro w' hSw; (try dsimp only at hSw); go_simp; try with_reducible rfl)
          simp only [Act.put, List.setIfInBounds_toArray, List.set_cons_zero, List.set_cons_succ]
          refine wpAnyH_take (i := 20) (oi := ⟨some 101, _, _, _, _, _⟩) (v := ?_) rfl (by kernel_rfl) (by kernel_rfl) (by kernel_rfl) (fun _ _ _ h => h) (Or.inl ⟨by kernel_rfl, ?hy20⟩) (by assumption) ?_
          case hy20 => (intro w' hSw; (try dsimp only at hSw); go_simp; try with_reducible rfl)
          simp only [Act.put, List.setIfInBounds_toArray, List.set_cons_zero, List.set_cons_succ]
          refine wpAnyH_take (i := 21) (oi := ⟨some 102, _, _, _, _, _⟩) (v := ?_) rfl (by kernel_rfl) (by kernel_rfl) (by kernel_rfl) (fun _ _ _ h => h) (Or.inl ⟨by kernel_rfl, ?hy21⟩) (by assumption) ?_
          case hy21 => (intro w' hSw; (try dsimp only at hSw); go_simp; try with_reducible rfl)
          simp only [Act.put, List.setIfInBounds_toArray, List.set_cons_zero, List.set_cons_succ]
          refine wpAnyH_take (i := 22) (oi := ⟨some 103, _, _, _, _, _⟩) (v := ?_) rfl (by kernel_rfl) (by kernel_rfl) (by kernel_rfl) (fun _ _ _ h => h) (Or.inl ⟨by kernel_rfl, ?hy22⟩) (by assumption) ?_
          case hy22 => (intro w' hSw; (try dsimp only at hSw); go_simp; try with_reducible rfl)
          simp only [Act.put, List.setIfInBounds_toArray, List.set_cons_zero, List.set_cons_succ]
          refine wpAnyH_take (i := 23) (oi := ⟨some 104, _, _, _, _, _⟩) (v := ?_) rfl (by kernel_rfl) (by kernel_rfl) (by kernel_rfl) (fun _ _ _ h => h) (Or.inl ⟨by kernel_rfl, ?hy23⟩) (by assumption) ?_
          case hy23 => (intro w' hSw; (try dsimp only at hSw); go_simp; try with_reducible rfl)
          simp only [Act.put, List.setIfInBounds_toArray, List.set_cons_zero, List.set_cons_succ]
          refine wpAnyH_take (i := 24) (oi := ⟨some 105, _, _, _, _, _⟩) (v := ?_) rfl (by kernel_rfl) (by kernel_rfl) (by kernel_rfl) (fun _ _ _ h => h) (Or.inl ⟨by kernel_rfl, ?hy24⟩) (by assumption) ?_
          case hy24 => (intro w' hSw; (try dsimp only at hSw); go_simp; try with_reducible rfl)
          simp only [Act.put, List.setIfInBounds_toArray, List.set_cons_zero, List.set_cons_succ]
          refine wpAnyH_take (i := 25) (oi := ⟨some 106, _, _, _, _, _⟩) (v := ?_) rfl (by kernel_rfl) (by kernel_rfl) (by kernel_rfl) (fun _ _ _ h => h) (Or.inl ⟨by kernel_rfl, ?hy25⟩) (by assumption) ?_
          case hy25 => (intro w' hSw; (try dsimp only at hSw); go_simp; try with_reducible rfl)
          simp only [Act.put, List.setIfInBounds_toArray, List.set_cons_zero, List.set_cons_succ]
          refine wpAnyH_take (i := 26) (oi := ⟨some 107, _, _, _, _, _⟩) (v := ?_) rfl (by kernel_rfl) (by kernel_rfl) (by kernel_rfl) (fun _ _ _ h => h) (Or.inl ⟨by kernel_rfl, ?hy26⟩) (by assumption) ?_
          case hy26 => (intro w' hSw; (try dsimp only at hSw); go_simp; try with_reducible rfl)
          simp only [Act.put, List.setIfInBounds_toArray, List.set_cons_zero, List.set_cons_succ]
          refine wpAnyH_take (i := 27) (oi := ⟨some 108, _, _, _, _, _⟩) (v := ?_) rfl (by kernel_rfl) (by kernel_rfl) (by kernel_rfl) (fun _ _ _ h => h) (Or.inl ⟨by kernel_rfl, ?hy27⟩) (by assumption) ?_
          case hy27 => (intro w' hSw; (try dsimp only at hSw); go_simp; try with_reducible rfl)
          simp only [Act.put, List.setIfInBounds_toArray, List.set_cons_zero, List.set_cons_succ]
          refine wpAnyH_take (i := 28) (oi := ⟨some 109, _, _, _, _, _⟩) (v := ?_) rfl (by kernel_rfl) (by kernel_rfl) (by kernel_rfl) (fun _ _ _ h => h) (Or.inl ⟨by kernel_rfl, ?hy28⟩) (by assumption) ?_
          case hy28 => (intro w' hSw; (try dsimp only at hSw); go_simp; try with_reducible rfl)
          simp only [Act.put, List.setIfInBounds_toArray, List.set_cons_zero, List.set_cons_succ]
          refine wpAnyH_take (i := 29) (oi := ⟨some 110, _, _, _, _, _⟩) (v := ?_) rfl (by kernel_rfl) (by kernel_rfl) (by kernel_rfl) (fun _ _ _ h => h) (Or.inl ⟨by kernel_rfl, ?hy29⟩) (by assumption) ?_
          case hy29 => (intro w' hSw; (try dsimp only at hSw); go_simp; try with_reducible rfl)
          simp only [Act.put, List.setIfInBounds_toArray, List.set_cons_zero, List.set_cons_succ]
          refine wpAnyH_take (i := 30) (oi := ⟨some 111, _, _, _, _, _⟩) (v := ?_) rfl (by kernel_rfl) (by kernel_rfl) (by kernel_rfl) (fun _ _ _ h => h) (Or.inl ⟨by kernel_rfl, ?hy30⟩) (by assumption) ?_
          case hy30 => (intro w' hSw; (try dsimp only at hSw); go_simp; try with_reducible rfl)
          simp only [Act.put, List.setIfInBounds_toArray, List.set_cons_zero, List.set_cons_succ]
          refine wpAnyH_ready (rs := [31]) (by kernel_rfl) (by simp) ?_
          refine AllReadyH.cons (o := ⟨none, _, _, _, _, _⟩) rfl (fun K hK => ?_) AllReadyH.nil
          (rw [if_pos (by kernel_rfl)])
          go_simp
          refine hK.out _ _ ⟨d6, cl6, ce6⟩ (fun hHeld => ?_)
          clear hK K
          refine wpAnyH_done (by kernel_rfl) (NoPanic.normal ?_) _
          clear hHeld d6 d5 cb5 fb5
          go_wp2
          refine ⟨by simp, .inl ⟨_, _, rfl, run_takeDeferred ((Below.heap_setCell w5 ⟨w.heap.size + 1, 0, none⟩ _ D (by simp; have := Hz0.out; omega)).trans HK5.out), ?_⟩⟩
          refine ⟨_, results_bool rfl _ _ (w.heap.size + 1) (.bool true) 4 rfl ((World.putObj_heap_other (by have := Hz0.out; omega)).trans (Hbr5.out.set (.bool true))) Try.underlying4, rfl, ?_⟩
          exact (HB5.out.setCell (p := ⟨w.heap.size + 1, 0, none⟩) (Nat.le_succ _) _).trans (belowK_b (w := w) (Nat.le_refl _) _ D _ _ (by have := Hz0.out; omega) ((Below.heap_setCell w5 ⟨w.heap.size + 1, 0, none⟩ _ D (by simp; have := Hz0.out; omega)).trans HK5.out) rfl rfl)
      case stop =>
        rintro D c pre W hD hSp h hK
        exact h.elim
end Go.Proofs.Ytdpijbaolaignaa
