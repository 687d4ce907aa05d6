/-
  The walk of KeysPastes.
-/
import Derived.Test.YtbkejjpkijjfaaaDoorKAlive
import Derived.Test.YtbkejjpkijjfaaaDoorPasteMath
import Derived.Test.YtbkejjpkijjfaaaDoorRPlain
import Derived.Test.YtbkejjpkijjfaaaDoorShelf
import Derived.Deep.RegionHeld3
namespace Go.Proofs.YtbkejjpkijjfaaaDoor
open Go Go.RowKit
set_option maxRecDepth 100000

theorem Dec.Ok.empty {d : Dec} (h : d.Ok) (hw : d.w = []) : d = ⟨[], [], 0, d.t⟩ := by
  obtain ⟨h1, h2⟩ := h.2.2.2 (by rw [hw]; decide)
  cases d
  simp only at hw h1 h2
  subst hw; subst h1; subst h2
  rfl
theorem feed_paste (s : List UInt8) (t : Bool) (hs : s.length ≤ 1200) (h : Lib.contains (s ++ [27, 91, 50, 48, 49]) [27, 91, 50, 48, 49, 126] = false) : feedD ⟨[], [], 0, t⟩ (pasteB ++ s ++ pasteE) = ([(26, plainL s)], Dec.zero) := by
  rw [List.append_assoc, feedD_append, paste_begun t]
  simp only [List.nil_append]
  exact paste_all s hs (no_end s h)

set_option maxHeartbeats 4000000 in
theorem kpastes_calls (s : ByteArray) (A : Option Addr) (c : Nat) (b : List UInt8) (w : World) (hn : s.size ≤ 9223372036854775807) (hb : Byt w A b) (hL : Lays w) (hbn : b.length ≤ 9223372036854775807) (hM : ∃ m, w.cell? ⟨1, 0, none⟩ = some (.int .i64 m)) :
    Calls Tryd.prog 9 #[.string s, .slice A b.length c] w fun e w' => e = .returned (.bool true) ∧ Below w.heap.size w w' := by
  have HA := Lib.hid (kalive_calls w hL)
  by_cases hbig : 1200 < s.size
  · clear hb hL hM
    generalize b.length = n at *
    go_enter Tryd.func9, Tryd.ntmps9
    go_wp2_with fail
    refine HA.out.mono ?_
    rintro e w' ⟨rfl, h⟩
    go_wp2
    go_ret
    exact ⟨rfl, h⟩
  by_cases hbig2 : 500 < b.length
  · clear hb hL hM
    generalize b.length = n at *
    go_enter Tryd.func9, Tryd.ntmps9
    go_wp2_with fail
    refine HA.out.mono ?_
    rintro e w' ⟨rfl, h⟩
    go_wp2
    go_ret
    exact ⟨rfl, h⟩
  obtain ⟨l, rfl⟩ : ∃ l, s = bs l := ⟨s.data.toList, rfl⟩
  have hsz := bs_size l
  have hll : l.length ≤ 1200 := by omega
  obtain ⟨m, hm⟩ := hM
  have hadd : ∀ W : World, (Op.stringOp .add (bs l) ⟨#[27, 91, 50, 48, 49]⟩).run Tryd.prog W = .ok (.string (bs (l ++ [27, 91, 50, 48, 49]))) W := fun W => add_bs Tryd.prog l [27, 91, 50, 48, 49] (by simp; omega) W
  have HC : Hid (Calls Tryd.prog 22 #[.string (bs (l ++ [27, 91, 50, 48, 49])), .string ⟨#[27, 91, 50, 48, 49, 126]⟩] w fun e w' => e = .returned (.bool (Lib.contains (l ++ [27, 91, 50, 48, 49]) [27, 91, 50, 48, 49, 126])) ∧ w = w') :=
    Lib.hid ((Tryd.strings_Contains (bs (l ++ [27, 91, 50, 48, 49])) ⟨#[27, 91, 50, 48, 49, 126]⟩ m w (by rw [bs_size]; simp; omega) hm).mono fun _ _ h => ⟨h.1, h.2.symm⟩)
  have HS : Hid (Calls Tryd.prog 23 #[.string (bs l), .string ⟨#[27]⟩] w fun e w' => e = .returned (.bool (Lib.hasSuffix l [27])) ∧ w = w') :=
    Lib.hid ((Tryd.strings_HasSuffix (bs l) ⟨#[27]⟩ w hn).mono fun _ _ h => ⟨h.1, h.2.symm⟩)
  clear hm hbig
  cases hc : Lib.contains (l ++ [27, 91, 50, 48, 49]) [27, 91, 50, 48, 49, 126] with
  | true =>
    rw [hc] at HC
    clear hc hb hL
    generalize l ++ [27, 91, 50, 48, 49] = l5 at *
    go_enter Tryd.func9, Tryd.ntmps9
    go_wp2_with fail
    refine HC.out.mono ?_
    rintro e w1 ⟨rfl, rfl⟩
    go_wp2_with fail
    refine HA.out.mono ?_
    rintro e w' ⟨rfl, h⟩
    go_wp2
    go_ret
    exact ⟨rfl, h⟩
  | false =>
    rw [hc] at HC
    have Hfp := Lib.hid (fun t => feed_paste l t hll hc)
    cases hu : Lib.hasSuffix l [27] with
    | true =>
      rw [hu] at HS
      clear hc hu hb hL Hfp
      generalize l ++ [27, 91, 50, 48, 49] = l5 at *
      go_enter Tryd.func9, Tryd.ntmps9
      go_wp2_with fail
      refine HC.out.mono ?_
      rintro e w1 ⟨rfl, rfl⟩
      go_wp2_with fail
      refine HS.out.mono ?_
      rintro e w1 ⟨rfl, rfl⟩
      go_wp2_with fail
      refine HA.out.mono ?_
      rintro e w' ⟨rfl, h⟩
      go_wp2
      go_ret
      exact ⟨rfl, h⟩
    | false =>
      rw [hu] at HS
      have F1 := Lib.hid ((At4.new w hL).feedArg c hb (by omega))
      have hok := feed_ok b _ Dec.ok_zero
      have hadd2 : ∀ W : World, (Op.stringOp .add ⟨#[27, 91, 50, 48, 48, 126]⟩ (bs l)).run Tryd.prog W = .ok (.string (bs (pasteB ++ l))) W := fun W => add_bs Tryd.prog pasteB l (by rw [show pasteB.length = 6 from rfl]; omega) W
      have hadd3 : ∀ W : World, (Op.stringOp .add (bs (pasteB ++ l)) ⟨#[27, 91, 50, 48, 49, 126]⟩).run Tryd.prog W = .ok (.string (bs (pasteB ++ l ++ pasteE))) W := fun W => add_bs Tryd.prog (pasteB ++ l) pasteE (by rw [List.length_append, show pasteB.length = 6 from rfl, show pasteE.length = 6 from rfl]; omega) W
      have hXl : (pasteB ++ l ++ pasteE).length = l.length + 12 := by rw [List.length_append, List.length_append, show pasteB.length = 6 from rfl, show pasteE.length = 6 from rfl]; omega
      have hXle : (pasteB ++ l ++ pasteE).length ≤ 2000 := by omega
      clear hc hu hb hL HA hXl
      generalize hX : pasteB ++ l ++ pasteE = X at *
      clear hX
      generalize pasteB ++ l = X2 at *
      generalize l ++ [27, 91, 50, 48, 49] = l5 at *
      generalize feedD Dec.zero b = r at *
      generalize b.length = nb at *
      go_enter Tryd.func9, Tryd.ntmps9
      go_wp2_with fail
      refine HC.out.mono ?_
      rintro e w1 ⟨rfl, rfl⟩
      go_wp2_with fail
      refine HS.out.mono ?_
      rintro e w1 ⟨rfl, rfl⟩
      clear HC HS
      go_wp2_with fail
      refine F1.out.mono ?_
      intro e w1 hS
      obtain ⟨A1, c1, rfl, o1, a1, g1⟩ := hS.at_ (by simp)
      have Aw1 := Lib.hid a1
      have hw := waits_calls4 _ _ _ a1.1
      clear hS o1 a1 g1 F1
      by_cases hw0 : r.2.w = []
      · rw [hw0, show decide (([] : List UInt8) ≠ []) = false by decide] at hw
        have he := hok.empty hw0
        generalize r.2.t = tt at *
        have Aw := Aw1.out
        rw [he] at Aw
        have a2 := Aw.below (below_bytes w1 5 (bs X))
        have f2 := a2.feed _ (grownCap w1 X.length 0 5) X (byt_bytes w1 X) (fun _ ad e => by injection e with e; rw [← e]; have := Aw.lt; simp only; omega) (by omega)
        rw [Hfp.out tt] at f2
        have F2 := Lib.hid f2
        have hcv := Lib.run_convert_string_bytes (P := Tryd.prog) w1 9 27 5 (bs X) Tryd.underlying9 Tryd.underlying27 Tryd.underlying5
        have hszX := bs_size X
        clear Aw he hw0 hok a2 f2 Hfp Aw1
        go_wp2_with fail
        refine hw.mono ?_
        rintro e w2 ⟨rfl, rfl⟩
        go_wp2_with fail
        refine F2.out.mono ?_
        intro e w3 hS
        obtain ⟨A3, c3, rfl, o3, a3, g3⟩ := hS.at2
        have A3' : At4 w w.heap.size Dec.zero w3.drew := ⟨a3.1, a3.2.1, a3.2.2.1.drew, a3.2.2.2⟩
        have HAd := Lib.hid (kalive_calls w3.drew A3'.lays)
        have HA3 := Lib.hid A3'
        obtain ⟨r3, _, _, _⟩ := rdK_of_own o3
        obtain ⟨p3, rfl, hp3, q3⟩ := r3.at_ (by simp)
        have q30 := q3 0 (by simp)
        simp only [Nat.zero_mul, Nat.zero_add, List.getD_cons_zero] at q30
        obtain ⟨q300, q301⟩ := q30
        have HP := Lib.hid (fun W => rplain_calls l (by omega) W)
        have q30' : w3.cell? ⟨p3, 0, none⟩ = some (.int .i64 26) := q300
        clear hS o3 a3 g3 A3' r3 q3 F2 hcv hadd hadd2 hadd3 hw q300
        generalize plainL l = pl at *
        go_wp2_with fail
        go_region_held3 (fun w' => w'.cell? ⟨p3, 0, none⟩ = some (.int .i64 26) ∧ w'.cell? ⟨p3, 1, none⟩ = some (.string (bs pl))) (first | exact ⟨q30', q301⟩ | exact ⟨q40, q41⟩ | exact ⟨q50, q51⟩)
          (first
          | (go_at_call 12; refine HAd.out.mono ?_; rintro e w4 ⟨rfl, hb4⟩; have HA4 := Lib.hid (HA3.out.below hb4); have q40 := (hb4.cell (p := ⟨p3, 0, none⟩) hp3).trans q30'; have q41 := (hb4.cell (p := ⟨p3, 1, none⟩) hp3).trans q301; have hp4 := Nat.lt_of_lt_of_le hp3 hb4.size; clear hb4)
          | (go_at_call 24; refine (HP.out _).mono ?_; rintro e w5 ⟨rfl, hb5⟩; have HA5 := Lib.hid (HA4.out.below hb5); have q50 := (hb5.cell (p := ⟨p3, 0, none⟩) hp4).trans q40; have q51 := (hb5.cell (p := ⟨p3, 1, none⟩) hp4).trans q41; have hwt := waits_calls4 _ _ _ HA5.out.1; rw [show decide (Dec.zero.w ≠ []) = false from rfl] at hwt; clear hb5)
          | (go_at_call 18; refine hwt.mono ?_; rintro e w6 ⟨rfl, rfl⟩))
        all_goals
          go_wp2_with fail
          go_ret
          exact ⟨rfl, HA5.out.bel⟩
      · rw [decide_eq_true hw0] at hw
        have HA1 := Lib.hid (kalive_calls w1 Aw1.out.lays)
        have HB1 := Lib.hid Aw1.out.bel
        clear hw0 hok
        go_wp2_with fail
        refine hw.mono ?_
        rintro e w5 ⟨rfl, rfl⟩
        go_wp2_with fail
        refine HA1.out.mono ?_
        rintro e w6 ⟨rfl, h6⟩
        go_wp2
        go_ret
        exact ⟨rfl, HB1.out.trans (h6.mono HB1.out.size)⟩
end Go.Proofs.YtbkejjpkijjfaaaDoor
