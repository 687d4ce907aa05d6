/-
  The walk of KeysLetters.
-/
import Derived.Test.YtbkejjpkijjfaaaDoorKAlive
import Derived.Test.YtbkejjpkijjfaaaDoorWaitMath
import Derived.Deep.QuietTactic
import Derived.BigQuiet
namespace Go.Proofs.YtbkejjpkijjfaaaDoor
open Go Go.RowKit
set_option maxRecDepth 100000

theorem keys_one (x : UInt8) (h : x.toNat < 128) (h2 : x ≠ 27) : ∃ k, keysL [x] = ([k], []) := by
  have hne : x.toNat ≠ 27 := fun e => h2 (UInt8.toNat_inj.1 (by rw [e]; rfl))
  have ho : (oneL [x]).2 = 1 := by
    unfold oneL
    simp only [List.getD_cons_zero]
    rw [if_neg hne]
    split
    · rfl
    · split
      · rfl
      · rw [if_pos (whole_ascii [x] (by simp) (by simpa using h))]
        have h3 := next_ascii [x] (by simp) (by simpa using h)
        rw [nextL_cons] at h3
        simp only
        rw [h3]
  refine ⟨(oneL [x]).1, ?_⟩
  rw [keysL_step [x] (by simp) (by omega), ho]
  rfl
theorem feed_one (x : UInt8) (h : x.toNat < 128) (h2 : x ≠ 27) : ∃ k, ∀ t, feedD ⟨[], [], 0, t⟩ [x] = ([k], Dec.zero) := by
  obtain ⟨k, hk⟩ := keys_one x h h2
  refine ⟨k, fun t => ?_⟩
  rw [feedD_one]
  unfold putD
  rw [if_neg (show ¬ (([] : List UInt8) = pasteB) by decide)]
  simp only [List.nil_append, hk]
  rfl
theorem metaL_not (x : Nat) : metaL x ≠ 1 ∧ metaL x ≠ 27 := by
  unfold metaL
  repeat' split
  all_goals exact ⟨by decide, by decide⟩
theorem feed_meta (x : UInt8) (h : x.toNat < 128) (h0 : 32 ≤ x.toNat) (h1 : x.toNat ≠ 91) (h2 : x.toNat ≠ 79) : feedD Dec.zero [27, x] = ([(metaL x.toNat, [])], Dec.zero) := by
  have e1 : putD Dec.zero 27 = ([], ⟨[27], [], 0, false⟩) := by kernel_rfl
  have ho : oneL [27, x] = ((metaL x.toNat, []), 2) := by
    have he : escL [27, x] = (metaL x.toNat, 2) := by
      unfold escL
      simp only [List.getD_cons_succ, List.getD_cons_zero, List.length_cons, List.length_nil]
      rw [if_neg (by decide), if_neg h1, if_neg h2, if_neg (by omega)]
    unfold oneL
    rw [he]
    rfl
  have e2 : putD ⟨[27], [], 0, false⟩ x = ([(metaL x.toNat, [])], Dec.zero) := by
    unfold putD
    rw [if_neg (by decide)]
    have hk : keysL [27, x] = ([(metaL x.toNat, [])], []) := by
      rw [keysL_step [27, x] (by simp) (by rw [ho]; simp), ho]
      rfl
    simp only [List.cons_append, List.nil_append, hk]
    rfl
  simp only [feedD, e1, e2]
  rfl
theorem Dec.Ok.empty {d : Dec} (h : d.Ok) (hw : d.w = []) : d = ⟨[], [], 0, d.t⟩ := by
  obtain ⟨h1, h2⟩ := h.2.2.2 (by rw [hw]; decide)
  cases d
  simp only at hw h1 h2
  subst hw; subst h1; subst h2
  rfl
theorem At4.next {w W : World} (hb : Below w.heap.size w W) (hL : Lays w) : At4 w W.heap.size Dec.zero (W.alloc (.cells #[.string ⟨#[]⟩, .string ⟨#[]⟩, .int .i64 0, .bool false] 26)) :=
  ⟨heap_alloc_new W _, Dec.ok_zero, hb.alloc hb.size _, hb.size, hL⟩

set_option maxHeartbeats 8000000 in
theorem kletters_calls (A : Option Addr) (c : Nat) (b : List UInt8) (x : UInt8) (w : World) (hb : Byt w A b) (hL : Lays w) (hn : b.length ≤ 9223372036854775807) :
    Calls Tryd.prog 10 #[.slice A b.length c, .int .u8 (x.toNat : Int)] w fun e w' => e = .returned (.bool true) ∧ Below w.heap.size w w' := by
  by_cases hbig : 1000 < b.length
  · have hcon := Lib.hid (kalive_calls w hL)
    clear hb hL
    generalize b.length = n at *
    generalize x.toNat = z at *
    go_enter Tryd.func10, Tryd.ntmps10
    go_wp2_with fail
    refine hcon.out.mono ?_
    rintro e w' ⟨rfl, h⟩
    go_wp2
    go_ret
    exact ⟨rfl, h⟩
  have a0 := At4.new w hL
  have n0 := At4.next a0.bel hL
  rw [World.size_alloc] at n0
  have a00 := a0.alloc (.cells #[.string ⟨#[]⟩, .string ⟨#[]⟩, .int .i64 0, .bool false] 26)
  have F1 := Lib.hid (a00.feedArg c hb (by omega))
  have N0 := Lib.hid n0
  have hok := feed_ok b _ Dec.ok_zero
  have hx := x.toNat_lt
  clear hb a0 n0 a00
  generalize feedD Dec.zero b = r at *
  generalize b.length = n at *
  go_enter Tryd.func10, Tryd.ntmps10
  go_wp2_with fail
  refine F1.out.mono ?_
  intro e w1 hS
  obtain ⟨A1, c1, rfl, o1, a1, g1⟩ := hS.at_ (by simp; omega)
  have Aw1 := Lib.hid a1
  have Nw1 := Lib.hid (N0.out.other g1 (by omega) (Nat.le_refl _))
  have HA := Lib.hid (kalive_calls w1 a1.lays)
  have HB1 := Lib.hid a1.bel
  have hw := waits_calls4 _ _ _ a1.1
  clear hS o1 a1 g1 F1 N0
  by_cases hw0 : r.2.w = []
  · rw [hw0, show decide (([] : List UInt8) ≠ []) = false by decide] at hw
    have he := hok.empty hw0
    generalize r.2.t = tt at *
    have Aw := Aw1.out
    rw [he] at Aw
    have HAw := Lib.hid Aw
    clear Aw he hw0 hok Aw1
    by_cases h128 : 128 ≤ x.toNat
    · have d1 : decide ((x.toNat : Int) ≥ 128) = true := decide_eq_true (by omega)
      have d2 : decide (128 ≤ (x.toNat : Int)) = true := decide_eq_true (by omega)
      generalize x.toNat = z at *
      go_wp2_with fail
      refine hw.mono ?_
      rintro e w5 ⟨rfl, rfl⟩
      go_wp2_with fail
      refine HA.out.mono ?_
      rintro e w6 ⟨rfl, h6⟩
      go_wp2
      go_ret
      exact ⟨rfl, HB1.out.trans (h6.mono HB1.out.size)⟩
    have d1 : decide ((x.toNat : Int) ≥ 128) = false := decide_eq_false (by omega)
    have d2 : decide (128 ≤ (x.toNat : Int)) = false := decide_eq_false (by omega)
    by_cases h27 : x = 27
    · have e27 : ((x.toNat : Int) == 27) = true := by rw [h27]; rfl
      generalize x.toNat = z at *
      go_wp2_with fail
      refine hw.mono ?_
      rintro e w5 ⟨rfl, rfl⟩
      go_wp2_with fail
      refine HA.out.mono ?_
      rintro e w6 ⟨rfl, h6⟩
      go_wp2
      go_ret
      exact ⟨rfl, HB1.out.trans (h6.mono HB1.out.size)⟩
    have e27 : ((x.toNat : Int) == 27) = false := beq_eq_false_iff_ne.2 (fun h => h27 (UInt8.toNat_inj.1 (by have : (27 : UInt8).toNat = 27 := rfl; omega)))
    obtain ⟨k, hk⟩ := feed_one x (by omega) h27
    have f2 : Calls Tryd.prog 21 #[.pointer (some ⟨w.heap.size, 0, none⟩), .slice (some ⟨w1.heap.size, 0, none⟩) 1 1] (w1.alloc (.cells #[.int .u8 (x.toNat : Int)] 5)) (Said4 w w.heap.size (feedD ⟨[], [], 0, tt⟩ [x]) (w1.alloc (.cells #[.int .u8 (x.toNat : Int)] 5))) :=
      HAw.out.feedLit [x] (0, 0) (by simp) _ rfl
    rw [hk tt] at f2
    have F2 := Lib.hid f2
    have Hk := Lib.hid hk
    clear f2 hk HA
    go_wp2_with fail
    refine hw.mono ?_
    rintro e w5 ⟨rfl, rfl⟩
    go_wp2_with fail
    refine F2.out.mono ?_
    intro e w2 hS
    obtain ⟨A2, c2, rfl, o2, a2, g2⟩ := hS.at2
    have hlt1 := Nw1.out.lt
    have Aw2 := Lib.hid a2
    have O2 := Lib.hid o2
    have Nw2 := Lib.hid ((Nw1.out.alloc (.cells #[.int .u8 (x.toNat : Int)] 5)).other g2 (by omega) (Nat.le_refl _))
    clear hS o2 a2 g2 F2 Nw1 HAw hw
    have f3 : Calls Tryd.prog 21 #[.pointer (some ⟨w.heap.size + 1, 0, none⟩), .slice (some ⟨w2.heap.size, 0, none⟩) 1 1] (w2.alloc (.cells #[.int .u8 (x.toNat : Int)] 5)) (Said4 w (w.heap.size + 1) (feedD Dec.zero [x]) (w2.alloc (.cells #[.int .u8 (x.toNat : Int)] 5))) :=
      Nw2.out.feedLit [x] (0, 0) (by simp) _ rfl
    rw [show feedD Dec.zero [x] = ([k], Dec.zero) from Hk.out false] at f3
    have F3 := Lib.hid f3
    clear f3
    go_wp2_with fail
    refine F3.out.mono ?_
    intro e w3 hS
    obtain ⟨A3, c3, rfl, o3, a3, g3⟩ := hS.at_ (by have := Nw2.out.lt; simp; omega)
    have Aw3 := Lib.hid ((Aw2.out.alloc (.cells #[.int .u8 (x.toNat : Int)] 5)).other g3 (by omega) (by omega))
    have o2 := own_kept (O2.out.alloc (.cells #[.int .u8 (x.toNat : Int)] 5)) g3 (fun kk hkk e => by
      injection e with e
      have := (O2.out.lt kk hkk).1
      rw [World.size_alloc] at this
      omega)
    obtain ⟨r2, _, _, _⟩ := rdK_of_own o2
    obtain ⟨r3, _, _, _⟩ := rdK_of_own o3
    obtain ⟨p2, rfl, hp2, q2⟩ := r2.at_ (by simp)
    obtain ⟨p3, rfl, hp3, q3⟩ := r3.at_ (by simp)
    have q20 := q2 0 (by simp)
    have q30 := q3 0 (by simp)
    simp only [Nat.zero_mul, Nat.zero_add, List.getD_cons_zero] at q20 q30
    obtain ⟨q200, q201⟩ := q20
    obtain ⟨q300, q301⟩ := q30
    clear hS o2 o3 a3 g3 F3 Aw2 Nw2 O2 r2 r3 q2 q3
    go_wp2_with fail
    go_quiet (fail)
    have AwQ := Lib.hid (Aw3.out.drewN nq)
    clear q200 q201 q300 q301 Aw3 hp2 hp3
    generalize w3.drewN nq = W3 at *
    have HA := Lib.hid (kalive_calls W3 AwQ.out.lays)
    by_cases h32 : x.toNat < 32
    · have d3 : decide ((x.toNat : Int) < 32) = true := decide_eq_true (by omega)
      generalize x.toNat = z at *
      go_wp2_with fail
      refine HA.out.mono ?_
      rintro e w6 ⟨rfl, h6⟩
      go_wp2
      go_ret
      exact ⟨rfl, AwQ.out.bel.trans (h6.mono AwQ.out.bel.size)⟩
    have d3 : decide ((x.toNat : Int) < 32) = false := decide_eq_false (by omega)
    by_cases h91 : x.toNat = 91
    · have d4 : ((x.toNat : Int) == 91) = true := by rw [h91]; rfl
      clear h91
      generalize x.toNat = z at *
      go_wp2_with fail
      refine HA.out.mono ?_
      rintro e w6 ⟨rfl, h6⟩
      go_wp2
      go_ret
      exact ⟨rfl, AwQ.out.bel.trans (h6.mono AwQ.out.bel.size)⟩
    have d4 : ((x.toNat : Int) == 91) = false := beq_eq_false_iff_ne.2 (by omega)
    by_cases h79 : x.toNat = 79
    · have d5 : ((x.toNat : Int) == 79) = true := by rw [h79]; rfl
      clear h79
      generalize x.toNat = z at *
      go_wp2_with fail
      refine HA.out.mono ?_
      rintro e w6 ⟨rfl, h6⟩
      go_wp2
      go_ret
      exact ⟨rfl, AwQ.out.bel.trans (h6.mono AwQ.out.bel.size)⟩
    have d5 : ((x.toNat : Int) == 79) = false := beq_eq_false_iff_ne.2 (by omega)
    have f4 : Calls Tryd.prog 21 #[.pointer (some ⟨w.heap.size, 0, none⟩), .slice (some ⟨W3.heap.size, 0, none⟩) 2 2] (W3.alloc (.cells #[.int .u8 27, .int .u8 (x.toNat : Int)] 5)) (Said4 w w.heap.size (feedD Dec.zero [27, x]) (W3.alloc (.cells #[.int .u8 27, .int .u8 (x.toNat : Int)] 5))) :=
      AwQ.out.feedLit [27, x] (0, 0) (by simp) _ rfl
    rw [feed_meta x (by omega) (by omega) h91 h79] at f4
    have F4 := Lib.hid f4
    have hm := metaL_not x.toNat
    clear f4 Hk HA
    generalize metaL x.toNat = mk at *
    have m1 : ((mk : Int) != 1) = true := bne_iff_ne.2 (by omega)
    have m27 : ((mk : Int) != 27) = true := bne_iff_ne.2 (by omega)
    clear hm
    generalize x.toNat = z at *
    go_wp2_with fail
    refine F4.out.mono ?_
    intro e w4 hS
    obtain ⟨A4, c4, rfl, o4, a4, g4⟩ := hS.at_ (by have := AwQ.out.lt; simp; omega)
    have O4 := Lib.hid o4
    have Aw4 := Lib.hid a4
    clear hS o4 a4 g4 F4 AwQ
    go_wp2_with fail
    refine (kalive_calls w4 Aw4.out.lays).mono ?_
    rintro e w5 ⟨rfl, hb5⟩
    have o5 := own_below O4.out hb5
    have Aw5 := Lib.hid (Aw4.out.below hb5)
    obtain ⟨r4, _, _, _⟩ := rdK_of_own o5
    obtain ⟨p4, rfl, hp4, q4⟩ := r4.at_ (by simp)
    have q40 := q4 0 (by simp)
    simp only [Nat.zero_mul, Nat.zero_add, List.getD_cons_zero] at q40
    obtain ⟨q400, q401⟩ := q40
    have hw4 := waits_calls4 _ _ _ Aw5.out.1
    rw [show decide (Dec.zero.w ≠ []) = false by decide] at hw4
    clear o5 hb5 r4 q4 O4 Aw4
    go_wp2_with fail
    refine hw4.mono ?_
    rintro e w6 ⟨rfl, rfl⟩
    go_wp2
    go_ret
    exact ⟨rfl, Aw5.out.bel⟩
  · rw [decide_eq_true hw0] at hw
    clear hw0
    generalize x.toNat = z at *
    go_wp2_with fail
    refine hw.mono ?_
    rintro e w5 ⟨rfl, rfl⟩
    go_wp2_with fail
    refine HA.out.mono ?_
    rintro e w6 ⟨rfl, h6⟩
    go_wp2
    go_ret
    exact ⟨rfl, HB1.out.trans (h6.mono HB1.out.size)⟩
end Go.Proofs.YtbkejjpkijjfaaaDoor
