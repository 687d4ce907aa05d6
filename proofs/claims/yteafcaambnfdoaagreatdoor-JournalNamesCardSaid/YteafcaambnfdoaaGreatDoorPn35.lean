/-
  Layer 7 and what it stands on, part 35 (JnOpenN JAt JAlive).
-/
import Derived.Test.YteafcaambnfdoaaGreatDoorPn34
namespace Go.Proofs.YteafcaambnfdoaaGreatDoor
section
open Go Go.RowKit
set_option maxRecDepth 100000
set_option maxHeartbeats 1000000 in
theorem jopenN1_calls (V : World) (fb nb : Nat) (n : ByteArray) (h1 : BxA V fb 35 [.pointer none]) (h2 : BxA V nb 9 [.string n]) : Calls Tryz.prog 44 #[.pointer (some ⟨fb, 0, none⟩), .pointer (some ⟨nb, 0, none⟩)] V fun e V2 => e = .returned (.int .i64 1) ∧ Below V.heap.size V V2 := by
  have c0 := h1.c 0 rfl
  have c1 := h2.c 0 rfl
  have HC := Lib.hid (jamiss12_nil V n)
  clear h1 h2
  go_enter Tryz.func44, Tryz.ntmps44
  go_wp2_with fail
  refine HC.out.mono ?_
  rintro e w1 ⟨rfl, hb⟩
  have HB := Lib.hid hb
  clear hb HC
  go_wp2_with fail
  go_ret
  exact ⟨rfl, HB.out⟩
set_option maxHeartbeats 4000000 in
theorem jopen12_nil (w : World) (n : ByteArray) : Calls Tryz.prog 14 #[.pointer none, .string n] w fun e w' => e = .returned (.tuple #[.pointer none, .slice none 0 0, .int .i64 1]) ∧ Below w.heap.size w w' := by
  obtain ⟨w1, hw1⟩ : ∃ w1, w1 = w.alloc (.cells #[.pointer none] 35) := ⟨_, rfl⟩
  obtain ⟨w2, hw2⟩ : ∃ w2, w2 = w1.alloc (.cells #[.string n] 9) := ⟨_, rfl⟩
  obtain ⟨w3, hw3⟩ : ∃ w3, w3 = w2.alloc (.cells #[.pointer none, .string n] 90) := ⟨_, rfl⟩
  obtain ⟨w4, hw4⟩ : ∃ w4, w4 = w3.alloc (.cells #[.pointer (some ⟨w.heap.size + 1 + 1, 0, none⟩)] 37) := ⟨_, rfl⟩
  obtain ⟨w5, hw5⟩ : ∃ w5, w5 = w4.alloc (.cells #[.slice none 0 0] 30) := ⟨_, rfl⟩
  obtain ⟨w6, hw6⟩ : ∃ w6, w6 = w5.alloc (.cells #[.slice none 0 0] 38) := ⟨_, rfl⟩
  obtain ⟨fs, hfs⟩ : ∃ fs, fs = openFs w.heap.size (w.heap.size + 1) (w.heap.size + 1 + 1 + 1) (w.heap.size + 1 + 1 + 1 + 1) (w.heap.size + 1 + 1 + 1 + 1 + 1) := ⟨_, rfl⟩
  obtain ⟨w7, hw7⟩ : ∃ w7, w7 = w6.alloc (.cells (fs.flatMap fnC).toArray 44) := ⟨_, rfl⟩
  have s1 : w1.heap.size = w.heap.size + 1 := by rw [hw1]; simp
  have s2 : w2.heap.size = w.heap.size + 1 + 1 := by rw [hw2, World.size_alloc, s1]
  have s3 : w3.heap.size = w.heap.size + 1 + 1 + 1 := by rw [hw3, World.size_alloc, s2]
  have s4 : w4.heap.size = w.heap.size + 1 + 1 + 1 + 1 := by rw [hw4, World.size_alloc, s3]
  have s5 : w5.heap.size = w.heap.size + 1 + 1 + 1 + 1 + 1 := by rw [hw5, World.size_alloc, s4]
  have s6 : w6.heap.size = w.heap.size + 1 + 1 + 1 + 1 + 1 + 1 := by rw [hw6, World.size_alloc, s5]
  have b1 : Below w.heap.size w w1 := by rw [hw1]; exact (Below.refl _ w).alloc (Nat.le_refl _) _
  have b2 : Below w1.heap.size w1 w2 := by rw [hw2]; exact (Below.refl _ w1).alloc (Nat.le_refl _) _
  have b3 : Below w2.heap.size w2 w3 := by rw [hw3]; exact (Below.refl _ w2).alloc (Nat.le_refl _) _
  have b4 : Below w3.heap.size w3 w4 := by rw [hw4]; exact (Below.refl _ w3).alloc (Nat.le_refl _) _
  have b5 : Below w4.heap.size w4 w5 := by rw [hw5]; exact (Below.refl _ w4).alloc (Nat.le_refl _) _
  have b6 : Below w5.heap.size w5 w6 := by rw [hw6]; exact (Below.refl _ w5).alloc (Nat.le_refl _) _
  have b7 : Below w6.heap.size w6 w7 := by rw [hw7]; exact (Below.refl _ w6).alloc (Nat.le_refl _) _
  have b67 := b6.trans (b7.mono b6.size)
  have b57 := b5.trans (b67.mono b5.size)
  have b47 := b4.trans (b57.mono b4.size)
  have b37 := b3.trans (b47.mono b3.size)
  have b27 := b2.trans (b37.mono b2.size)
  have b17 := b1.trans (b27.mono b1.size)
  have x1 : BxA w7 w.heap.size 35 [.pointer none] := by
    have q := BxA.new w 35 [.pointer none]
    exact BxA.below (by rw [hw1]; exact q) b27
  have x2 : BxA w7 (w.heap.size + 1) 9 [.string n] := by
    have q := BxA.new w1 9 [.string n]
    rw [s1] at q
    exact BxA.below (by rw [hw2]; exact q) b37
  have x7 : BxA w7 w6.heap.size 44 (fs.flatMap fnC) := by rw [hw7]; exact BxA.new w6 _ _
  rw [s6] at x7
  subst hfs
  have HT : Hid (Calls Tryz.prog 43 #[.slice (some ⟨w.heap.size + 1 + 1 + 1 + 1 + 1 + 1, 0, none⟩) 4 4] w7 fun e V2 => e = .returned (.int .i64 1) ∧ Below w.heap.size w V2) := Lib.hid (by
    refine (jturn12_calls w7 _ 4 (openFs w.heap.size (w.heap.size + 1) (w.heap.size + 1 + 1 + 1) (w.heap.size + 1 + 1 + 1 + 1) (w.heap.size + 1 + 1 + 1 + 1 + 1)) (fun _ => True) (fun i W => i = 0 ∧ W = w7) (fun z W => z = 1 ∧ Below w.heap.size w W) (by show 4 ≤ 1000; decide) ?_ ?_ ?_ ⟨rfl, rfl⟩).mono ?_
    · rintro i W ⟨_, rfl⟩
      exact rowT_box x7 trivial
    · intro x hx args W
      unfold openFs at hx
      simp only [List.mem_cons, List.not_mem_nil, or_false] at hx
      rcases hx with rfl | rfl | rfl | rfl
      · exact enters_of Tryz.func44 (by kernel_rfl) rfl args W
      · exact enters_of Tryz.func46 (by kernel_rfl) rfl args W
      · exact enters_of Tryz.func48 (by kernel_rfl) rfl args W
      · exact enters_of Tryz.func50 (by kernel_rfl) rfl args W
    · rintro i x hx W ⟨rfl, rfl⟩
      injection hx with hx
      subst hx
      refine (jopenN1_calls W _ _ n x1 x2).mono ?_
      rintro e W2 ⟨rfl, hb⟩
      exact ⟨1, rfl, fun h => absurd h (by decide), fun _ => ⟨rfl, b17.trans (hb.mono b17.size)⟩⟩
    · rintro e W ⟨z, rfl, h0, h1⟩
      by_cases hz : z = 0
      · have := (h0 hz).1
        exact absurd this (by simp [openFs])
      · obtain ⟨rfl, hb⟩ := h1 hz
        exact ⟨rfl, hb⟩)
  have HW7 : Hid (w7 = (((((((w.alloc (.cells #[.pointer none] 35)).alloc (.cells #[.string n] 9)).alloc (.cells #[.pointer none, .string n] 90)).alloc (.cells #[.pointer (some ⟨w.heap.size + 1 + 1, 0, none⟩)] 37)).alloc (.cells #[.slice none 0 0] 30)).alloc (.cells #[.slice none 0 0] 38)).alloc (.cells ((openFs w.heap.size (w.heap.size + 1) (w.heap.size + 1 + 1 + 1) (w.heap.size + 1 + 1 + 1 + 1) (w.heap.size + 1 + 1 + 1 + 1 + 1)).flatMap fnC).toArray 44))) := Lib.hid (by rw [hw7, hw6, hw5, hw4, hw3, hw2, hw1])
  unfold openFs at HW7
  simp only [List.flatMap_cons, List.flatMap_nil, List.append_nil, List.cons_append, List.nil_append] at HW7
  rw [HW7.out] at HT
  clear x1 x2 x7 b17 b27 b37 b47 b57 b67 b1 b2 b3 b4 b5 b6 b7 s1 s2 s3 s4 s5 s6 hw1 hw2 hw3 hw4 hw5 hw6 hw7 HW7
  go_enter Tryz.func14, Tryz.ntmps14
  go_wp2_with fail
  refine HT.out.mono ?_
  rintro e v1 ⟨rfl, hb⟩
  have HB := Lib.hid hb
  clear hb HT
  go_wp2_with fail
  go_ret3
  exact ⟨rfl, HB.out⟩
end
section
open Go
theorem FS.At.clearJ {k : Nat} {S : FS} (h : S.At k) (n : ByteArray) : (clearJ S n).1.At (k + 1) := by
  unfold Go.Proofs.YteafcaambnfdoaaGreatDoor.clearJ
  split
  · exact h.does ⟨3, otJ n, ⟨#[]⟩, [], 0, []⟩ (by show (0 : Int) ≤ _; decide)
  · exact h.mono (Nat.le_succ k)
theorem FS.At.remJ {k : Nat} {S : FS} (h : S.At k) (n : ByteArray) : (remJ S n).1.At (k + 1) := h.does ⟨3, otJ n, ⟨#[]⟩, [], 0, []⟩ (by show (0 : Int) ≤ _; decide)
theorem FS.At.syncJ {k : Nat} {S : FS} (h : S.At k) (n : ByteArray) : (syncJ S n).1.At (k + 1) := by
  unfold Go.Proofs.YteafcaambnfdoaaGreatDoor.syncJ
  split
  · exact h.mono (Nat.le_succ k)
  · exact h.does ⟨1, n, ⟨#[]⟩, [], 0, []⟩ (by show (0 : Int) ≤ _; decide)
theorem FS.At.openJ {k : Nat} {S : FS} (h : S.At k) (n : ByteArray) : (openJ S n).1.At (k + 2) := by
  have h1 := h.clearJ n
  have hl := read_len h1.ok n
  have h2 : ((Go.Proofs.YteafcaambnfdoaaGreatDoor.clearJ S n).1.cut n (entriesJ ((Go.Proofs.YteafcaambnfdoaaGreatDoor.clearJ S n).1.read n).1).2).1.At (k + 2) := h1.does ⟨4, n, ⟨#[]⟩, [], ((entriesJ ((Go.Proofs.YteafcaambnfdoaaGreatDoor.clearJ S n).1.read n).1).2 : Int), []⟩ (by
    show ((entriesJ ((Go.Proofs.YteafcaambnfdoaaGreatDoor.clearJ S n).1.read n).1).2 : Int) ≤ _
    have := (entries_is ((Go.Proofs.YteafcaambnfdoaaGreatDoor.clearJ S n).1.read n).1).2.2.2
    omega)
  have h1' := h1.mono (Nat.le_succ (k + 1))
  have h0 := h.mono (show k ≤ k + 2 by omega)
  unfold Go.Proofs.YteafcaambnfdoaaGreatDoor.openJ
  repeat' split
  all_goals first | exact h0 | exact h1' | exact h2
theorem FS.At.compactJ {k : Nat} {S : FS} (h : S.At k) (n : ByteArray) (l : List EnJ) : (compactJ S n l).1.At (k + 4 * (l.length + 2) + 1) := by
  rw [← compactC_is]
  have h1 : (packC S n l).1.At (k + 4 * (l.length + 2)) := at_stepsJ (l.length + 2) (fsC n l) (fsC_at n l) h
  unfold compactC
  split
  · split
    · exact h1.remJ n
    · exact h1.mono (Nat.le_succ _)
  · exact h.mono (by omega)
end
section
open Go Go.RowKit
set_option maxRecDepth 100000
theorem OpenTo.jx {w0 w w' : World} {X Y X2 Y2 : Nat → Prop} {b : Nat} {n : ByteArray} {S : FS} {v : Value} {A : Option Addr} {c : Nat} {l : List EnJ} (h : OpenTo w0 w X Y b n w' S v A c l 0 X2 Y2) : ∃ jb, v = .pointer (some ⟨jb, 0, none⟩) ∧ JX w0 w' X2 Y2 b S jb n ∧ w.heap.size ≤ jb := by
  have hj := h.j
  rw [if_pos rfl] at hj
  obtain ⟨jb, hv, h1, h2, h3⟩ := hj
  exact ⟨jb, hv, ⟨h.fx, h3, h1⟩, h2⟩
/-- The cells of the first entry. -/
theorem en_first {w : World} {D : Nat → Prop} {A : Option Addr} {v : EnJ} {r : List EnJ} (h : RowT enC w D A (v :: r)) : ∃ g o, A = some ⟨g, o, none⟩ ∧ w.cell? ⟨g, o, none⟩ = some (.int .i64 v.t) ∧ w.cell? ⟨g, o + 1, none⟩ = some (.string (bs v.d)) ∧ w.cell? ⟨g, o + 2, none⟩ = some (.string (bs v.c)) := by
  obtain ⟨g, o, e, _, _, c0, c1, c2⟩ := en_at h (k := 0) (v := v) rfl
  rw [Nat.zero_mul, Nat.add_zero] at c0 c1 c2
  exact ⟨g, o, e, c0, c1, c2⟩
set_option maxHeartbeats 8000000 in
theorem jalive12_calls (w : World) (ht : LaysR w) : Calls Tryz.prog 9 #[] w fun e w' => e = .returned (.bool true) ∧ Below w.heap.size w w' := by
  have at1 : av1.At 1 := at_write FS.At.new hN eaJ
  have at2 : av2.At 2 := at1.syncJ hN
  have at3 : av3.At 3 := at_write at2 hN ebJ
  have at4 : av4.At 4 := at_write at3 hN ecJ
  have at5 : av5.At 4 := at4.crash _
  have at6 : av6.At 6 := at5.openJ hN
  have at7 : av7.At 30 := (at6.compactJ hN [exJ]).mono (by decide)
  have HAt := Lib.hid (And.intro at1 (And.intro at2 (And.intro at3 (And.intro at4 (And.intro at5 (And.intro at6 at7))))))
  have HT := Lib.hid ht
  have hnn : hN.size ≤ 1000 := by decide
  clear at1 at2 at3 at4 at5 at6 at7 ht
  go_enter Tryz.func9, Tryz.ntmps9
  go_wp2_with fail
  refine (fnew_calls w).mono ?_
  rintro e w1 ⟨b, rfl, hin⟩
  have HO := Lib.hid (jopen12_calls w w1 _ _ b FS.new (FX.of_in hin) hN hnn 0 FS.At.new (by decide) HT.out)
  rw [open_new hN (by decide) (by decide)] at HO
  simp only at HO
  clear hin
  go_wp2_with fail
  refine HO.out.mono ?_
  rintro e w2 ⟨v, A, c, X2, Y2, rfl, hO⟩
  obtain ⟨jb, rfl, hj, _⟩ := hO.jx
  have HA1 := Lib.hid (jappend12_calls w w2 X2 Y2 b FS.new jb hN hj (FS.At.new.fit (by decide)) HT.out eaJ)
  rw [av_1] at HA1
  clear hO hj HO
  go_wp2_with fail
  refine HA1.out.mono ?_
  rintro e w3 ⟨rfl, hj, _⟩
  have HS := Lib.hid (jsync12_calls w w3 X2 Y2 b av1 jb hN hj (HAt.out.1.fit (by decide)))
  rw [av_2] at HS
  clear hj HA1
  go_wp2_with fail
  refine HS.out.mono ?_
  rintro e w4 ⟨rfl, hj, _⟩
  have HA2 := Lib.hid (jappend12_calls w w4 X2 Y2 b av2 jb hN hj (HAt.out.2.1.fit (by decide)) HT.out ebJ)
  clear hj HS
  go_wp2_with fail
  refine HA2.out.mono ?_
  rintro e w5 ⟨rfl, hj, _⟩
  have HA3 := Lib.hid (jappend12_calls w w5 X2 Y2 b av3 jb hN hj (HAt.out.2.2.1.fit (by decide)) HT.out ecJ)
  clear hj HA2
  go_wp2_with fail
  refine HA3.out.mono ?_
  rintro e w6 ⟨rfl, hj, _⟩
  have hbK := (Below.refl _ w6).alloc (Nat.le_refl _) (.cells #[.bool false, .bool true] 4)
  have hjK := hj.below hbK
  have hltK : w6.heap.size < (w6.alloc (.cells #[.bool false, .bool true] 4)).heap.size := by simp
  have hrK : RowT boolC (w6.alloc (.cells #[.bool false, .bool true] 4)) (XN X2 w6 (w6.alloc (.cells #[.bool false, .bool true] 4))) (some ⟨w6.heap.size, 0, none⟩) [false, true] := rowT_box (t := 4) (BxA.new w6 4 [.bool false, .bool true]) (XN.new hltK)
  have HCr := Lib.hid (hjK.fx.step (S2 := av5) (fun O D hh hXO => fcrash_calls _ O D b av4 hh (HAt.out.2.2.2.1.fit (by decide)) (some ⟨w6.heap.size, 0, none⟩) 2 [false, true] (hrK.mono fun k hk => (hXO k hk).2) (by decide)))
  clear hj hbK hjK hltK hrK HA3
  go_wp2_with fail
  refine HCr.out.mono ?_
  rintro e w7 ⟨rfl, hf, _⟩
  have HO2 := Lib.hid (jopen12_calls w w7 _ _ b av5 hf hN hnn 4 HAt.out.2.2.2.2.1 (by decide) HT.out)
  rw [av_5] at HO2
  simp only at HO2
  clear hf HCr
  go_wp2_with fail
  refine HO2.out.mono ?_
  rintro e w8 ⟨v, A2, c2, X3, Y3, rfl, hO⟩
  obtain ⟨jk, rfl, hj, _⟩ := hO.jx
  have hbE := (Below.refl _ w8).alloc (Nat.le_refl _) (.cells (enC exJ).toArray 56)
  have hltE : w8.heap.size < (w8.alloc (.cells (enC exJ).toArray 56)).heap.size := by simp
  have hjE := hj.below hbE
  have hrE : RowT enC (w8.alloc (.cells (enC exJ).toArray 56)) (XN X3 w8 (w8.alloc (.cells (enC exJ).toArray 56))) (some ⟨w8.heap.size, 0, none⟩) [exJ] := rowT_box (t := 56) (BxA.new w8 56 (enC exJ)) (XN.new hltE)
  have HL := Lib.hid ((hO.row.below hbE).mono (fun k hk => (.inl hk : XN X3 w8 (w8.alloc (.cells (enC exJ).toArray 56)) k)))
  have HC := Lib.hid (jcompact12_calls w _ _ _ b av6 jk hN hjE 6 HAt.out.2.2.2.2.2.1 hnn HT.out (some ⟨w8.heap.size, 0, none⟩) 1 [exJ] hrE (by decide))
  rw [av_6] at HC
  clear hO hj hbE hltE hjE hrE HO2
  go_wp2_with fail
  refine HC.out.mono ?_
  rintro e w9 ⟨rfl, hj, ho⟩
  have HL9 := Lib.hid (HL.out.keep ho (fun _ hi hn => hn hi))
  have HR := Lib.hid (jread12_calls w w9 _ _ b av7 jk hN hj (HAt.out.2.2.2.2.2.2.fit (by decide)) HT.out)
  rw [av_7] at HR
  simp only at HR
  have HB9 := Lib.hid hj.fx.bel
  clear hj ho HC HL
  go_wp2_with fail
  refine HR.out.mono ?_
  rintro e w10 ⟨A3, c3, rfl, hown, hb⟩
  have HM := Lib.hid (rowT_of_own (C := enC) (R := fun _ => True) hown (fun _ _ => trivial))
  have HL10 := Lib.hid (HL9.out.below hb)
  have HB10 := Lib.hid (HB9.out.trans (hb.mono HB9.out.size))
  clear hown hb HR HL9 HB9
  go_wp2_with fail
  refine (jopen12_nil w10 hN).mono ?_
  rintro e w11 ⟨rfl, hb⟩
  obtain ⟨g1, o1, rfl, p0, p1, p2⟩ := en_first (HL10.out.below hb)
  obtain ⟨g2, o2, rfl, q0, q1, q2⟩ := en_first (HM.out.below hb)
  have HB11 := Lib.hid (HB10.out.trans (hb.mono HB10.out.size))
  have HRi : Hid (Calls Tryz.prog 30 #[.agg #[.int .i64 0, .string ⟨#[]⟩, .string ⟨#[]⟩]] w11 fun x w' => x = .returned (.bool false) ∧ Below w11.heap.size w11 w') := Lib.hid (by
    have h := jright12_calls EnJ.none_ w11
    rwa [decide_eq_false av_right.2.2.2.2] at h)
  have p2' : w11.cell? ⟨g1, o1 + 2, none⟩ = some (.string ⟨#[97]⟩) := p2
  have q0' : w11.cell? ⟨g2, o2, none⟩ = some (.int .i64 5) := q0
  have q1' : w11.cell? ⟨g2, o2 + 1, none⟩ = some (.string ⟨#[47]⟩) := q1
  have q2' : w11.cell? ⟨g2, o2 + 2, none⟩ = some (.string ⟨#[120]⟩) := q2
  clear hb HL10 HM HB10 p0 p1 p2 q0 q1 q2
  go_wp2_with fail
  refine HRi.out.mono ?_
  rintro e w12 ⟨rfl, hb⟩
  have HB12 := Lib.hid (HB11.out.trans (hb.mono HB11.out.size))
  clear hb HRi
  go_wp2_with fail
  go_ret
  exact ⟨rfl, HB12.out⟩
end
end Go.Proofs.YteafcaambnfdoaaGreatDoor
