/-
  Layer 7 and what it stands on, part 39 (JnOpenN JAt JAlive JRows).
-/
import Derived.Test.YteafcaambnfdoaaDoorPa38
namespace Go.Proofs.YteafcaambnfdoaaDoor
section
open Go Go.RowKit
set_option maxRecDepth 100000
set_option maxHeartbeats 1000000 in
theorem jopenN1_calls (V : World) (fb nb : Nat) (n : ByteArray) (h1 : BxA V fb 40 [.pointer none]) (h2 : BxA V nb 9 [.string n]) : Calls Tryd.prog 38 #[.pointer (some ⟨fb, 0, none⟩), .pointer (some ⟨nb, 0, none⟩)] V fun e V2 => e = .returned (.int .i64 1) ∧ Below V.heap.size V V2 := by
  have c0 := h1.c 0 rfl
  have c1 := h2.c 0 rfl
  have HC := Lib.hid (jamiss12_nil V n)
  clear h1 h2
  go_enter Tryd.func38, Tryd.ntmps38
  go_wp2_with fail
  refine HC.out.mono ?_
  rintro e w1 ⟨rfl, hb⟩
  have HB := Lib.hid hb
  clear hb HC
  go_wp2_with fail
  go_ret
  exact ⟨rfl, HB.out⟩
set_option maxHeartbeats 4000000 in
theorem jopen12_nil (w : World) (n : ByteArray) : Calls Tryd.prog 18 #[.pointer none, .string n] w fun e w' => e = .returned (.tuple #[.pointer none, .slice none 0 0, .int .i64 1]) ∧ Below w.heap.size w w' := by
  obtain ⟨w1, hw1⟩ : ∃ w1, w1 = w.alloc (.cells #[.pointer none] 40) := ⟨_, rfl⟩
  obtain ⟨w2, hw2⟩ : ∃ w2, w2 = w1.alloc (.cells #[.string n] 9) := ⟨_, rfl⟩
  obtain ⟨w3, hw3⟩ : ∃ w3, w3 = w2.alloc (.cells #[.pointer none, .string n] 82) := ⟨_, rfl⟩
  obtain ⟨w4, hw4⟩ : ∃ w4, w4 = w3.alloc (.cells #[.pointer (some ⟨w.heap.size + 1 + 1, 0, none⟩)] 46) := ⟨_, rfl⟩
  obtain ⟨w5, hw5⟩ : ∃ w5, w5 = w4.alloc (.cells #[.slice none 0 0] 25) := ⟨_, rfl⟩
  obtain ⟨w6, hw6⟩ : ∃ w6, w6 = w5.alloc (.cells #[.slice none 0 0] 47) := ⟨_, rfl⟩
  obtain ⟨fs, hfs⟩ : ∃ fs, fs = openFs w.heap.size (w.heap.size + 1) (w.heap.size + 1 + 1 + 1) (w.heap.size + 1 + 1 + 1 + 1) (w.heap.size + 1 + 1 + 1 + 1 + 1) := ⟨_, rfl⟩
  obtain ⟨w7, hw7⟩ : ∃ w7, w7 = w6.alloc (.cells (fs.flatMap fnC).toArray 56) := ⟨_, rfl⟩
  have s1 : w1.heap.size = w.heap.size + 1 := by rw [hw1]; simp
  have s2 : w2.heap.size = w.heap.size + 1 + 1 := by rw [hw2, World.size_alloc, s1]
  have s3 : w3.heap.size = w.heap.size + 1 + 1 + 1 := by rw [hw3, World.size_alloc, s2]
  have s4 : w4.heap.size = w.heap.size + 1 + 1 + 1 + 1 := by rw [hw4, World.size_alloc, s3]
  have s5 : w5.heap.size = w.heap.size + 1 + 1 + 1 + 1 + 1 := by rw [hw5, World.size_alloc, s4]
  have s6 : w6.heap.size = w.heap.size + 1 + 1 + 1 + 1 + 1 + 1 := by rw [hw6, World.size_alloc, s5]
  have b1 : Below w.heap.size w w1 := by rw [hw1]; exact (Below.refl _ w).alloc (Nat.le_refl _) _
  have b2 : Below w1.heap.size w1 w2 := by rw [hw2]; exact (Below.refl _ w1).alloc (Nat.le_refl _) _
  have b3 : Below w2.heap.size w2 w3 := by rw [hw3]; exact (Below.refl _ w2).alloc (Nat.le_refl _) _
  have b4 : Below w3.heap.size w3 w4 := by rw [hw4]; exact (Below.refl _ w3).alloc (Nat.le_refl _) _
  have b5 : Below w4.heap.size w4 w5 := by rw [hw5]; exact (Below.refl _ w4).alloc (Nat.le_refl _) _
  have b6 : Below w5.heap.size w5 w6 := by rw [hw6]; exact (Below.refl _ w5).alloc (Nat.le_refl _) _
  have b7 : Below w6.heap.size w6 w7 := by rw [hw7]; exact (Below.refl _ w6).alloc (Nat.le_refl _) _
  have b67 := b6.trans (b7.mono b6.size)
  have b57 := b5.trans (b67.mono b5.size)
  have b47 := b4.trans (b57.mono b4.size)
  have b37 := b3.trans (b47.mono b3.size)
  have b27 := b2.trans (b37.mono b2.size)
  have b17 := b1.trans (b27.mono b1.size)
  have x1 : BxA w7 w.heap.size 40 [.pointer none] := by
    have q := BxA.new w 40 [.pointer none]
    exact BxA.below (by rw [hw1]; exact q) b27
  have x2 : BxA w7 (w.heap.size + 1) 9 [.string n] := by
    have q := BxA.new w1 9 [.string n]
    rw [s1] at q
    exact BxA.below (by rw [hw2]; exact q) b37
  have x7 : BxA w7 w6.heap.size 56 (fs.flatMap fnC) := by rw [hw7]; exact BxA.new w6 _ _
  rw [s6] at x7
  subst hfs
  have HT : Hid (Calls Tryd.prog 37 #[.slice (some ⟨w.heap.size + 1 + 1 + 1 + 1 + 1 + 1, 0, none⟩) 4 4] w7 fun e V2 => e = .returned (.int .i64 1) ∧ Below w.heap.size w V2) := Lib.hid (by
    refine (jturn12_calls w7 _ 4 (openFs w.heap.size (w.heap.size + 1) (w.heap.size + 1 + 1 + 1) (w.heap.size + 1 + 1 + 1 + 1) (w.heap.size + 1 + 1 + 1 + 1 + 1)) (fun _ => True) (fun i W => i = 0 ∧ W = w7) (fun z W => z = 1 ∧ Below w.heap.size w W) (by show 4 ≤ 1000; decide) ?_ ?_ ?_ ⟨rfl, rfl⟩).mono ?_
    · rintro i W ⟨_, rfl⟩
      exact rowT_box x7 trivial
    · intro x hx args W
      unfold openFs at hx
      simp only [List.mem_cons, List.not_mem_nil, or_false] at hx
      rcases hx with rfl | rfl | rfl | rfl
      · exact enters_of Tryd.func38 (by kernel_rfl) rfl args W
      · exact enters_of Tryd.func40 (by kernel_rfl) rfl args W
      · exact enters_of Tryd.func42 (by kernel_rfl) rfl args W
      · exact enters_of Tryd.func44 (by kernel_rfl) rfl args W
    · rintro i x hx W ⟨rfl, rfl⟩
      injection hx with hx
      subst hx
      refine (jopenN1_calls W _ _ n x1 x2).mono ?_
      rintro e W2 ⟨rfl, hb⟩
      exact ⟨1, rfl, fun h => absurd h (by decide), fun _ => ⟨rfl, b17.trans (hb.mono b17.size)⟩⟩
    · rintro e W ⟨z, rfl, h0, h1⟩
      by_cases hz : z = 0
      · have := (h0 hz).1
        exact absurd this (by simp [openFs])
      · obtain ⟨rfl, hb⟩ := h1 hz
        exact ⟨rfl, hb⟩)
  have HW7 : Hid (w7 = (((((((w.alloc (.cells #[.pointer none] 40)).alloc (.cells #[.string n] 9)).alloc (.cells #[.pointer none, .string n] 82)).alloc (.cells #[.pointer (some ⟨w.heap.size + 1 + 1, 0, none⟩)] 46)).alloc (.cells #[.slice none 0 0] 25)).alloc (.cells #[.slice none 0 0] 47)).alloc (.cells ((openFs w.heap.size (w.heap.size + 1) (w.heap.size + 1 + 1 + 1) (w.heap.size + 1 + 1 + 1 + 1) (w.heap.size + 1 + 1 + 1 + 1 + 1)).flatMap fnC).toArray 56))) := Lib.hid (by rw [hw7, hw6, hw5, hw4, hw3, hw2, hw1])
  unfold openFs at HW7
  simp only [List.flatMap_cons, List.flatMap_nil, List.append_nil, List.cons_append, List.nil_append] at HW7
  rw [HW7.out] at HT
  clear x1 x2 x7 b17 b27 b37 b47 b57 b67 b1 b2 b3 b4 b5 b6 b7 s1 s2 s3 s4 s5 s6 hw1 hw2 hw3 hw4 hw5 hw6 hw7 HW7
  go_enter Tryd.func18, Tryd.ntmps18
  go_wp2_with fail
  refine HT.out.mono ?_
  rintro e v1 ⟨rfl, hb⟩
  have HB := Lib.hid hb
  clear hb HT
  go_wp2_with fail
  go_ret3
  exact ⟨rfl, HB.out⟩
end
section
open Go
theorem FS.At.clearJ {k : Nat} {S : FS} (h : S.At k) (n : ByteArray) : (clearJ S n).1.At (k + 1) := by
  unfold Go.Proofs.YteafcaambnfdoaaDoor.clearJ
  split
  · exact h.does ⟨3, otJ n, ⟨#[]⟩, [], 0, []⟩ (by show (0 : Int) ≤ _; decide)
  · exact h.mono (Nat.le_succ k)
theorem FS.At.remJ {k : Nat} {S : FS} (h : S.At k) (n : ByteArray) : (remJ S n).1.At (k + 1) := h.does ⟨3, otJ n, ⟨#[]⟩, [], 0, []⟩ (by show (0 : Int) ≤ _; decide)
theorem FS.At.syncJ {k : Nat} {S : FS} (h : S.At k) (n : ByteArray) : (syncJ S n).1.At (k + 1) := by
  unfold Go.Proofs.YteafcaambnfdoaaDoor.syncJ
  split
  · exact h.mono (Nat.le_succ k)
  · exact h.does ⟨1, n, ⟨#[]⟩, [], 0, []⟩ (by show (0 : Int) ≤ _; decide)
theorem FS.At.openJ {k : Nat} {S : FS} (h : S.At k) (n : ByteArray) : (openJ S n).1.At (k + 2) := by
  have h1 := h.clearJ n
  have hl := read_len h1.ok n
  have h2 : ((Go.Proofs.YteafcaambnfdoaaDoor.clearJ S n).1.cut n (entriesJ ((Go.Proofs.YteafcaambnfdoaaDoor.clearJ S n).1.read n).1).2).1.At (k + 2) := h1.does ⟨4, n, ⟨#[]⟩, [], ((entriesJ ((Go.Proofs.YteafcaambnfdoaaDoor.clearJ S n).1.read n).1).2 : Int), []⟩ (by
    show ((entriesJ ((Go.Proofs.YteafcaambnfdoaaDoor.clearJ S n).1.read n).1).2 : Int) ≤ _
    have := (entries_is ((Go.Proofs.YteafcaambnfdoaaDoor.clearJ S n).1.read n).1).2.2.2
    omega)
  have h1' := h1.mono (Nat.le_succ (k + 1))
  have h0 := h.mono (show k ≤ k + 2 by omega)
  unfold Go.Proofs.YteafcaambnfdoaaDoor.openJ
  repeat' split
  all_goals first | exact h0 | exact h1' | exact h2
theorem FS.At.compactJ {k : Nat} {S : FS} (h : S.At k) (n : ByteArray) (l : List EnJ) : (compactJ S n l).1.At (k + 4 * (l.length + 2) + 1) := by
  rw [← compactC_is]
  have h1 : (packC S n l).1.At (k + 4 * (l.length + 2)) := at_stepsJ (l.length + 2) (fsC n l) (fsC_at n l) h
  unfold compactC
  split
  · split
    · exact h1.remJ n
    · exact h1.mono (Nat.le_succ _)
  · exact h.mono (by omega)
end
section
open Go Go.RowKit
set_option maxRecDepth 100000
theorem OpenTo.jx {w0 w w' : World} {X Y X2 Y2 : Nat → Prop} {b : Nat} {n : ByteArray} {S : FS} {v : Value} {A : Option Addr} {c : Nat} {l : List EnJ} (h : OpenTo w0 w X Y b n w' S v A c l 0 X2 Y2) : ∃ jb, v = .pointer (some ⟨jb, 0, none⟩) ∧ JX w0 w' X2 Y2 b S jb n ∧ w.heap.size ≤ jb := by
  have hj := h.j
  rw [if_pos rfl] at hj
  obtain ⟨jb, hv, h1, h2, h3⟩ := hj
  exact ⟨jb, hv, ⟨h.fx, h3, h1⟩, h2⟩
/-- The cells of the first entry. -/
theorem en_first {w : World} {D : Nat → Prop} {A : Option Addr} {v : EnJ} {r : List EnJ} (h : RowT enC w D A (v :: r)) : ∃ g o, A = some ⟨g, o, none⟩ ∧ w.cell? ⟨g, o, none⟩ = some (.int .i64 v.t) ∧ w.cell? ⟨g, o + 1, none⟩ = some (.string (bs v.d)) ∧ w.cell? ⟨g, o + 2, none⟩ = some (.string (bs v.c)) := by
  obtain ⟨g, o, e, _, _, c0, c1, c2⟩ := en_at h (k := 0) (v := v) rfl
  rw [Nat.zero_mul, Nat.add_zero] at c0 c1 c2
  exact ⟨g, o, e, c0, c1, c2⟩
set_option maxHeartbeats 8000000 in
theorem jalive12_calls (w : World) (ht : LaysR w) : Calls Tryd.prog 6 #[] w fun e w' => e = .returned (.bool true) ∧ Below w.heap.size w w' := by
  have at1 : av1.At 1 := at_write FS.At.new hN eaJ
  have at2 : av2.At 2 := at1.syncJ hN
  have at3 : av3.At 3 := at_write at2 hN ebJ
  have at4 : av4.At 4 := at_write at3 hN ecJ
  have at5 : av5.At 4 := at4.crash _
  have at6 : av6.At 6 := at5.openJ hN
  have at7 : av7.At 30 := (at6.compactJ hN [exJ]).mono (by decide)
  have HAt := Lib.hid (And.intro at1 (And.intro at2 (And.intro at3 (And.intro at4 (And.intro at5 (And.intro at6 at7))))))
  have HT := Lib.hid ht
  have hnn : hN.size ≤ 1000 := by decide
  clear at1 at2 at3 at4 at5 at6 at7 ht
  go_enter Tryd.func6, Tryd.ntmps6
  go_wp2_with fail
  refine (fnew_calls w).mono ?_
  rintro e w1 ⟨b, rfl, hin⟩
  have HO := Lib.hid (jopen12_calls w w1 _ _ b FS.new (FX.of_in hin) hN hnn 0 FS.At.new (by decide) HT.out)
  rw [open_new hN (by decide) (by decide)] at HO
  simp only at HO
  clear hin
  go_wp2_with fail
  refine HO.out.mono ?_
  rintro e w2 ⟨v, A, c, X2, Y2, rfl, hO⟩
  obtain ⟨jb, rfl, hj, _⟩ := hO.jx
  have HA1 := Lib.hid (jappend12_calls w w2 X2 Y2 b FS.new jb hN hj (FS.At.new.fit (by decide)) HT.out eaJ)
  rw [av_1] at HA1
  clear hO hj HO
  go_wp2_with fail
  refine HA1.out.mono ?_
  rintro e w3 ⟨rfl, hj, _⟩
  have HS := Lib.hid (jsync12_calls w w3 X2 Y2 b av1 jb hN hj (HAt.out.1.fit (by decide)))
  rw [av_2] at HS
  clear hj HA1
  go_wp2_with fail
  refine HS.out.mono ?_
  rintro e w4 ⟨rfl, hj, _⟩
  have HA2 := Lib.hid (jappend12_calls w w4 X2 Y2 b av2 jb hN hj (HAt.out.2.1.fit (by decide)) HT.out ebJ)
  clear hj HS
  go_wp2_with fail
  refine HA2.out.mono ?_
  rintro e w5 ⟨rfl, hj, _⟩
  have HA3 := Lib.hid (jappend12_calls w w5 X2 Y2 b av3 jb hN hj (HAt.out.2.2.1.fit (by decide)) HT.out ecJ)
  clear hj HA2
  go_wp2_with fail
  refine HA3.out.mono ?_
  rintro e w6 ⟨rfl, hj, _⟩
  have hbK := (Below.refl _ w6).alloc (Nat.le_refl _) (.cells #[.bool false, .bool true] 4)
  have hjK := hj.below hbK
  have hltK : w6.heap.size < (w6.alloc (.cells #[.bool false, .bool true] 4)).heap.size := by simp
  have hrK : RowT boolC (w6.alloc (.cells #[.bool false, .bool true] 4)) (XN X2 w6 (w6.alloc (.cells #[.bool false, .bool true] 4))) (some ⟨w6.heap.size, 0, none⟩) [false, true] := rowT_box (t := 4) (BxA.new w6 4 [.bool false, .bool true]) (XN.new hltK)
  have HCr := Lib.hid (hjK.fx.step (S2 := av5) (fun O D hh hXO => fcrash_calls _ O D b av4 hh (HAt.out.2.2.2.1.fit (by decide)) (some ⟨w6.heap.size, 0, none⟩) 2 [false, true] (hrK.mono fun k hk => (hXO k hk).2) (by decide)))
  clear hj hbK hjK hltK hrK HA3
  go_wp2_with fail
  refine HCr.out.mono ?_
  rintro e w7 ⟨rfl, hf, _⟩
  have HO2 := Lib.hid (jopen12_calls w w7 _ _ b av5 hf hN hnn 4 HAt.out.2.2.2.2.1 (by decide) HT.out)
  rw [av_5] at HO2
  simp only at HO2
  clear hf HCr
  go_wp2_with fail
  refine HO2.out.mono ?_
  rintro e w8 ⟨v, A2, c2, X3, Y3, rfl, hO⟩
  obtain ⟨jk, rfl, hj, _⟩ := hO.jx
  have hbE := (Below.refl _ w8).alloc (Nat.le_refl _) (.cells (enC exJ).toArray 29)
  have hltE : w8.heap.size < (w8.alloc (.cells (enC exJ).toArray 29)).heap.size := by simp
  have hjE := hj.below hbE
  have hrE : RowT enC (w8.alloc (.cells (enC exJ).toArray 29)) (XN X3 w8 (w8.alloc (.cells (enC exJ).toArray 29))) (some ⟨w8.heap.size, 0, none⟩) [exJ] := rowT_box (t := 29) (BxA.new w8 29 (enC exJ)) (XN.new hltE)
  have HL := Lib.hid ((hO.row.below hbE).mono (fun k hk => (.inl hk : XN X3 w8 (w8.alloc (.cells (enC exJ).toArray 29)) k)))
  have HC := Lib.hid (jcompact12_calls w _ _ _ b av6 jk hN hjE 6 HAt.out.2.2.2.2.2.1 hnn HT.out (some ⟨w8.heap.size, 0, none⟩) 1 [exJ] hrE (by decide))
  rw [av_6] at HC
  clear hO hj hbE hltE hjE hrE HO2
  go_wp2_with fail
  refine HC.out.mono ?_
  rintro e w9 ⟨rfl, hj, ho⟩
  have HL9 := Lib.hid (HL.out.keep ho (fun _ hi hn => hn hi))
  have HR := Lib.hid (jread12_calls w w9 _ _ b av7 jk hN hj (HAt.out.2.2.2.2.2.2.fit (by decide)) HT.out)
  rw [av_7] at HR
  simp only at HR
  have HB9 := Lib.hid hj.fx.bel
  clear hj ho HC HL
  go_wp2_with fail
  refine HR.out.mono ?_
  rintro e w10 ⟨A3, c3, rfl, hown, hb⟩
  have HM := Lib.hid (rowT_of_own (C := enC) (R := fun _ => True) hown (fun _ _ => trivial))
  have HL10 := Lib.hid (HL9.out.below hb)
  have HB10 := Lib.hid (HB9.out.trans (hb.mono HB9.out.size))
  clear hown hb HR HL9 HB9
  go_wp2_with fail
  refine (jopen12_nil w10 hN).mono ?_
  rintro e w11 ⟨rfl, hb⟩
  obtain ⟨g1, o1, rfl, p0, p1, p2⟩ := en_first (HL10.out.below hb)
  obtain ⟨g2, o2, rfl, q0, q1, q2⟩ := en_first (HM.out.below hb)
  have HB11 := Lib.hid (HB10.out.trans (hb.mono HB10.out.size))
  have HRi : Hid (Calls Tryd.prog 9 #[.agg #[.int .i64 0, .string ⟨#[]⟩, .string ⟨#[]⟩]] w11 fun x w' => x = .returned (.bool false) ∧ Below w11.heap.size w11 w') := Lib.hid (by
    have h := jright12_calls EnJ.none_ w11
    rwa [decide_eq_false av_right.2.2.2.2] at h)
  have p2' : w11.cell? ⟨g1, o1 + 2, none⟩ = some (.string ⟨#[97]⟩) := p2
  have q0' : w11.cell? ⟨g2, o2, none⟩ = some (.int .i64 5) := q0
  have q1' : w11.cell? ⟨g2, o2 + 1, none⟩ = some (.string ⟨#[47]⟩) := q1
  have q2' : w11.cell? ⟨g2, o2 + 2, none⟩ = some (.string ⟨#[120]⟩) := q2
  clear hb HL10 HM HB10 p0 p1 p2 q0 q1 q2
  go_wp2_with fail
  refine HRi.out.mono ?_
  rintro e w12 ⟨rfl, hb⟩
  have HB12 := Lib.hid (HB11.out.trans (hb.mono HB11.out.size))
  clear hb HRi
  go_wp2_with fail
  go_ret
  exact ⟨rfl, HB12.out⟩
end
section
open Go Go.RowKit
set_option maxRecDepth 100000
theorem own_ne_bxA {W : World} {b e s B t : Nat} {v : Value} {cs : List Value} {n : Nat} {xs : List Value} (h : W.ownsRow b e s v n xs) (h' : BxA W B t cs) (hne : e ≠ t) : v.ownBlock ≠ some B := fun he => by
  rcases h.2 with ⟨rfl, _⟩ | ⟨g, cap, cur, rfl, _, hg, _⟩
  · cases he
  · obtain rfl : g = B := by simpa [Value.ownBlock] using he
    rw [show W.heap[g]? = _ from h'] at hg
    injection hg with h1
    injection h1 with _ h2
    exact hne h2.symm
/-- One more row behind a row of entries. -/
theorem run_append_E (t e : TypeId) (ht : Tryd.prog.underlying t = some (.slice e)) (hinf : (Tryd.prog.info? e).map (fun i => (i.zero, i.size, i.bytes)) = some (some (.agg #[.int .i64 0, .string ⟨#[]⟩, .string ⟨#[]⟩]), 3, 40)) (w : World) (base : Nat)
    (v : Value) (xs : List EnJ) (hown : w.ownsRow base e 3 v xs.length (xs.flatMap enC)) (A : Option Addr) (c : Nat) (ms : List EnJ) (hA : A = none → c = 0) {R : Nat → Prop} (hR : RowT enC w R A ms) (hb : xs.length + ms.length ≤ 1099511627776) (hbase : base ≤ w.heap.size) :
    ∃ A' c' w', (Builtin.append_ #[t, t] t #[v, .slice A ms.length c]).run Tryd.prog w = .ok (.slice A' (xs ++ ms).length c') w' ∧ w'.ownsRow base e 3 (.slice A' (xs ++ ms).length c') (xs ++ ms).length ((xs ++ ms).flatMap enC) ∧ w.grownBy w' v.ownBlock ∧ ((Value.slice A' (xs ++ ms).length c').ownBlock = v.ownBlock ∨ (Value.slice A' (xs ++ ms).length c').ownBlock = some w.heap.size) := by
  obtain ⟨i, hi, hz, hsize, hby⟩ := info_parts hinf
  have key : ∃ v' w', (Builtin.append_ #[t, t] t #[v, .slice A ms.length c]).run Tryd.prog w = .ok v' w' ∧ w'.ownsRow base e 3 v' (xs ++ ms).length ((xs ++ ms).flatMap enC) ∧ w.grownBy w' v.ownBlock ∧ (v'.ownBlock = v.ownBlock ∨ v'.ownBlock = some w.heap.size) := by
    rcases A with _ | a
    · obtain rfl := hA rfl
      have h0 : ms = [] := by
        by_cases hn : 0 < ms.length
        · obtain ⟨_, _, e, _⟩ := hR hn; cases e
        · exact List.eq_nil_of_length_eq_zero (by omega)
      subst h0
      exact ⟨v, w, run_append_owned_none (P := Tryd.prog) (w := w) base t t e i 3 ht hi v xs.length (xs.flatMap enC) hown, by simpa using hown, World.grownBy.refl w _, .inl rfl⟩
    · obtain ⟨v', w', hr, h2, h3, _, h5⟩ := run_append_own_at (P := Tryd.prog) (w := w) base t t e i _ 3 40 ht hi hz hsize hby rfl (by decide) v xs.length (xs.flatMap enC) hown a ms.length c (ms.flatMap enC) (flat_length enC_length ms) (fun j u hj => by
          have hjl := (List.getElem?_eq_some_iff.1 hj).1
          rw [flat_length enC_length] at hjl
          obtain ⟨g, o, e, _, _, hc⟩ := hR (by omega)
          injection e with e
          subst e
          rw [Addr.add_lit]
          exact hc j u hj) (fun u hu => by
          obtain ⟨x, _, hx⟩ := List.mem_flatMap.1 hu
          exact enC_one x u hx) (by unfold maxLen; omega) (by omega) hbase
      rw [List.flatMap_append, List.length_append]
      exact ⟨v', w', hr, h2, h3, h5⟩
  obtain ⟨v', w', h1, h2, h3, h4⟩ := key
  obtain ⟨A', c', rfl⟩ := own_form h2
  exact ⟨A', c', w', h1, h2, h3, h4⟩
/-- A row that the file system neither reads nor turns. -/
structure OwnN (w0 W : World) (e : TypeId) (X Y : Nat → Prop) (v : Value) (l : List EnJ) : Prop where
  own : W.ownsRow w0.heap.size e 3 v l.length (l.flatMap enC)
  xy : ∀ g, v.ownBlock = some g → X g ∧ Y g
section
variable {w0 W W2 : World} {e : TypeId} {X Y : Nat → Prop} {b : Nat} {S S2 : FS} {v : Value} {l : List EnJ}
theorem OwnN.nil (w0 W : World) (e : TypeId) (X Y : Nat → Prop) : OwnN w0 W e X Y (.slice none 0 0) [] := ⟨World.ownsRow_nil _ _ _ _, fun g hg => by cases hg⟩
theorem OwnN.below (h : OwnN w0 W e X Y v l) (hb : Below W.heap.size W W2) : OwnN w0 W2 e (XN X W W2) (XN Y W W2) v l := ⟨own_below h.own hb, fun g hg => ⟨.inl (h.xy g hg).1, .inl (h.xy g hg).2⟩⟩
theorem OwnN.keep {R : Nat → Prop} (h : OwnN w0 W e X Y v l) (ho : Only R W W2) (hR : ∀ k, R k → ¬ X k) : OwnN w0 W2 e X Y v l := ⟨own_onlyE h.own ho fun g hg hr => hR g hr (h.xy g hg).1, h.xy⟩
theorem OwnN.apart {R : Nat → Prop} (h : OwnN w0 W e X Y v l) (ho : Only R W W2) (hR : ∀ g, v.ownBlock = some g → ¬ R g) : OwnN w0 W2 e (XN X W W2) (XN Y W W2) v l := ⟨own_onlyE h.own ho hR, fun g hg => ⟨.inl (h.xy g hg).1, .inl (h.xy g hg).2⟩⟩
theorem OwnN.mono {X2 Y2 : Nat → Prop} (h : OwnN w0 W e X Y v l) (hX : ∀ k, X k → X2 k) (hY : ∀ k, Y k → Y2 k) : OwnN w0 W e X2 Y2 v l := ⟨h.own, fun g hg => ⟨hX g (h.xy g hg).1, hY g (h.xy g hg).2⟩⟩
theorem OwnN.none_ {A : Option Addr} {n c : Nat} (h : OwnN w0 W e X Y (.slice A n c) l) : A = none → c = 0 := own_none h.own
theorem OwnN.row {A : Option Addr} {c : Nat} (h : OwnN w0 W e X Y (.slice A l.length c) l) : RowT enC W X A l := rowT_of_own h.own fun g hg => (h.xy g hg).1
theorem OwnN.form {v : Value} (h : OwnN w0 W e X Y v l) : ∃ A c, v = .slice A l.length c := own_form h.own
theorem OwnN.of_new {A : Option Addr} {c : Nat} (h : W2.ownsRow W.heap.size e 3 (.slice A l.length c) l.length (l.flatMap enC)) (hw : w0.heap.size ≤ W.heap.size) : OwnN w0 W2 e (XN X W W2) (XN Y W W2) (.slice A l.length c) l := ⟨own_less h hw, fun g hg => ⟨.inr (h.lt g hg), .inr (h.lt g hg)⟩⟩
/-- Entries more behind a row. -/
theorem OwnN.app (t : TypeId) (ht : Tryd.prog.underlying t = some (.slice e)) (hinf : (Tryd.prog.info? e).map (fun i => (i.zero, i.size, i.bytes)) = some (some (.agg #[.int .i64 0, .string ⟨#[]⟩, .string ⟨#[]⟩]), 3, 40))
    (h : OwnN w0 W e X Y v l) (hf : FX w0 W X Y b S) (A : Option Addr) (c : Nat) (y : List EnJ) (hA : A = none → c = 0) {R : Nat → Prop} (hy : RowT enC W R A y) (hb : l.length + y.length ≤ 1099511627776) :
    ∃ A' c' w', (Builtin.append_ #[t, t] t #[v, .slice A y.length c]).run Tryd.prog W = .ok (.slice A' (l ++ y).length c') w' ∧ OwnN w0 w' e (XN X W w') (XN Y W w') (.slice A' (l ++ y).length c') (l ++ y) ∧ FX w0 w' (XN X W w') (XN Y W w') b S ∧ Only (fun k => v.ownBlock = some k) W w' := by
  obtain ⟨A', c', w', h1, h2, h3, h4⟩ := run_append_E t e ht hinf W w0.heap.size v l h.own A c y hA hy hb hf.bel.size
  have ho : Only (fun k => v.ownBlock = some k) W w' := Only.of_grown h3 fun k e => e
  refine ⟨A', c', w', h1, ⟨h2, fun g hg => ?_⟩, hf.grew ho (fun k e => (h.xy k e).2) (fun k e => (h.own.lt k e).1), ho⟩
  rcases h4 with h4 | h4
  · rw [h4] at hg
    exact ⟨.inl (h.xy g hg).1, .inl (h.xy g hg).2⟩
  · rw [h4] at hg
    injection hg with hg
    have := (h2.lt W.heap.size h4).2
    exact ⟨.inr (by omega), .inr (by omega)⟩
theorem OwnN.appV (t : TypeId) (ht : Tryd.prog.underlying t = some (.slice e)) (hinf : (Tryd.prog.info? e).map (fun i => (i.zero, i.size, i.bytes)) = some (some (.agg #[.int .i64 0, .string ⟨#[]⟩, .string ⟨#[]⟩]), 3, 40))
    (h : OwnN w0 W e X Y v l) (hf : FX w0 W X Y b S) (A : Option Addr) (c : Nat) (y : List EnJ) (hA : A = none → c = 0) {R : Nat → Prop} (hy : RowT enC W R A y) (hb : l.length + y.length ≤ 1099511627776) :
    ∃ v' w', (Builtin.append_ #[t, t] t #[v, .slice A y.length c]).run Tryd.prog W = .ok v' w' ∧ OwnN w0 w' e (XN X W w') (XN Y W w') v' (l ++ y) ∧ FX w0 w' (XN X W w') (XN Y W w') b S ∧ Only (fun k => v.ownBlock = some k) W w' := by
  obtain ⟨A', c', w', h1, h2, h3, h4⟩ := h.app t ht hinf hf A c y hA hy hb
  exact ⟨_, w', h1, h2, h3, h4⟩
end
/-- A journal beside a row that is appended to. -/
theorem JX.grew {w0 W W2 : World} {X Y : Nat → Prop} {b jb : Nat} {S : FS} {n : ByteArray} {R : Nat → Prop} (h : JX w0 W X Y b S jb n) (hf : FX w0 W2 (XN X W W2) (XN Y W W2) b S) (ho : Only R W W2) (hj : ¬ R jb) : JX w0 W2 (XN X W W2) (XN Y W W2) b S jb n := ⟨hf, h.box.keep ho hj, .inl h.xs⟩
end
end Go.Proofs.YteafcaambnfdoaaDoor
