/-
  Layer 7 and what it stands on, part 25 (FDoes FDoes8 FTwo FAlive FRows).
-/
import Derived.Test.YtaeiffpdnlejbaaPd24
import Derived.OwnWalk
import Derived.Deep.RegionHeldLaw
import Derived.Deep.RegionHeld3
namespace Go.Proofs.Ytaeiffpdnlejbaa
section
open Go Go.RowKit
set_option maxRecDepth 100000
/-- A call's slices lie in no block that calls turn. -/
structure OpFar (w : World) (O : Nat → Prop) (x : OpG) : Prop where
  b : ByR w (fun k => ¬ O k) x.BA x.o.b
  k : RowT boolC w (fun k => ¬ O k) x.KA x.o.ks
theorem OpFar.below {w w' : World} {O : Nat → Prop} {x : OpG} (h : OpFar w O x) (hb : Below w.heap.size w w') : OpFar w' O x := ⟨h.b.below hb, h.k.below hb⟩
/-- What lay there when the statement began lies in no block made since. -/
theorem OpIn.far {w0 w : World} {O : Nat → Prop} {x : OpG} (h : OpIn w0 x) (hb : Below w0.heap.size w0 w) (hO : ∀ k, O k → w0.heap.size ≤ k) : OpFar w O x := by
  refine ⟨fun hn => ?_, fun hn => ?_⟩
  · obtain ⟨g, o, e, hg, hc⟩ := h.b.at_ hn
    have h1 : ByR w0 (fun k => k < w0.heap.size) x.BA x.o.b := byR_of_byt h.b (fun a ha => by rw [e] at ha; injection ha with ha; rw [← ha]; exact hg)
    exact (h1.below hb).mono (fun k hk hO2 => absurd (hO k hO2) (Nat.not_le.2 hk)) hn
  · obtain ⟨g, o, e, _, hg, hc⟩ := h.k hn
    have h1 : RowT boolC w0 (fun k => k < w0.heap.size) x.KA x.o.ks := fun _ => ⟨g, o, e, hg, hg, hc⟩
    exact (h1.below hb).mono (fun k hk hO2 => absurd (hO k hO2) (Nat.not_le.2 hk)) hn
set_option maxHeartbeats 2000000 in
theorem fdoes_0 (w : World) (O D : Nat → Prop) (b : Nat) (S : FS) (h : FileAt w O D b S) (hS : S.Fit) (x : OpG) (hx : OpIn w x) (hl : x.o.b.length ≤ 1000000 ∧ x.o.ks.length ≤ 100000) (hf : OpFar w O x) (hk : x.o.k = 0) :
    Calls Try.prog 16 #[fp b, .agg (opgC x).toArray] w fun e w' => e = .returned (.tuple #[fp b, .int .i64 (doF S x.o).2]) ∧ FileTo w O D w' b (doF S x.o).1 := by
  obtain ⟨⟨k, n, t, bb, i, ks⟩, BA, bc, KA, kc⟩ := x
  simp only at hk
  subst hk
  have HD : Hid (doF S ⟨0, n, t, bb, i, ks⟩ = ((S.write n bb).1, (S.write n bb).2)) := Lib.hid rfl
  obtain ⟨W1, hW1⟩ : ∃ W1, w.alloc (.cells #[.int .i64 0, .string n, .string t, .slice BA bb.length bc, .int .i64 i, .slice KA ks.length kc] 34) = W1 := ⟨_, rfl⟩
  have hB1 : Below w.heap.size w W1 := by rw [← hW1]; exact (Below.refl _ w).alloc (Nat.le_refl _) _
  have x0 : BxA W1 w.heap.size 34 [.int .i64 0, .string n, .string t, .slice BA bb.length bc, .int .i64 i, .slice KA ks.length kc] := by rw [← hW1]; exact BxA.new w _ _
  have c0 := x0.c 0 rfl
  have c1 := x0.c 1 rfl
  have c2 := x0.c 2 rfl
  have c3 := x0.c 3 rfl
  have c4 := x0.c 4 rfl
  have c5 := x0.c 5 rfl
  have H1 := Lib.hid (objFile.below h hB1)
  have HO1 := Lib.hid (Only.of_below (R := O) hB1)
  have HB1 := Lib.hid hB1
  have HS := Lib.hid hS
  have HI := Lib.hid hx
  have HL := Lib.hid hl
  have HF := Lib.hid hf
  clear x0 hB1 hS hx hl hf h
  have Hc := Lib.hid (fwrite_calls W1 O D b S H1.out HS.out n BA bc bb (HF.out.b.below HB1.out) HI.out.bn HL.out.1)
  clear H1 HB1 HS HI HL HF
  go_enter Try.func16, Try.ntmps16
  go_wp2_with fail
  refine Hc.out.mono ?_
  rintro e w2 ⟨rfl, ht⟩
  have HT := Lib.hid (ToD.from_ ht HO1.out)
  clear ht Hc HO1 hW1 c0 c1 c2 c3 c4 c5
  go_wp2_with fail
  go_ret2
  rw [HD.out]
  exact ⟨rfl, HT.out⟩
set_option maxHeartbeats 2000000 in
theorem fdoes_1 (w : World) (O D : Nat → Prop) (b : Nat) (S : FS) (h : FileAt w O D b S) (hS : S.Fit) (x : OpG) (hx : OpIn w x) (hl : x.o.b.length ≤ 1000000 ∧ x.o.ks.length ≤ 100000) (hf : OpFar w O x) (hk : x.o.k = 1) :
    Calls Try.prog 16 #[fp b, .agg (opgC x).toArray] w fun e w' => e = .returned (.tuple #[fp b, .int .i64 (doF S x.o).2]) ∧ FileTo w O D w' b (doF S x.o).1 := by
  obtain ⟨⟨k, n, t, bb, i, ks⟩, BA, bc, KA, kc⟩ := x
  simp only at hk
  subst hk
  have HD : Hid (doF S ⟨1, n, t, bb, i, ks⟩ = ((S.sync n).1, (S.sync n).2)) := Lib.hid rfl
  obtain ⟨W1, hW1⟩ : ∃ W1, w.alloc (.cells #[.int .i64 1, .string n, .string t, .slice BA bb.length bc, .int .i64 i, .slice KA ks.length kc] 34) = W1 := ⟨_, rfl⟩
  have hB1 : Below w.heap.size w W1 := by rw [← hW1]; exact (Below.refl _ w).alloc (Nat.le_refl _) _
  have x0 : BxA W1 w.heap.size 34 [.int .i64 1, .string n, .string t, .slice BA bb.length bc, .int .i64 i, .slice KA ks.length kc] := by rw [← hW1]; exact BxA.new w _ _
  have c0 := x0.c 0 rfl
  have c1 := x0.c 1 rfl
  have c2 := x0.c 2 rfl
  have c3 := x0.c 3 rfl
  have c4 := x0.c 4 rfl
  have c5 := x0.c 5 rfl
  have H1 := Lib.hid (objFile.below h hB1)
  have HO1 := Lib.hid (Only.of_below (R := O) hB1)
  have HB1 := Lib.hid hB1
  have HS := Lib.hid hS
  have HI := Lib.hid hx
  have HL := Lib.hid hl
  have HF := Lib.hid hf
  clear x0 hB1 hS hx hl hf h
  have Hc := Lib.hid (fsync_calls W1 O D b S H1.out HS.out n)
  clear H1 HB1 HS HI HL HF
  go_enter Try.func16, Try.ntmps16
  go_wp2_with fail
  refine Hc.out.mono ?_
  rintro e w2 ⟨rfl, ht⟩
  have HT := Lib.hid (ToD.from_ ht HO1.out)
  clear ht Hc HO1 hW1 c0 c1 c2 c3 c4 c5
  go_wp2_with fail
  go_ret2
  rw [HD.out]
  exact ⟨rfl, HT.out⟩
set_option maxHeartbeats 2000000 in
theorem fdoes_2 (w : World) (O D : Nat → Prop) (b : Nat) (S : FS) (h : FileAt w O D b S) (hS : S.Fit) (x : OpG) (hx : OpIn w x) (hl : x.o.b.length ≤ 1000000 ∧ x.o.ks.length ≤ 100000) (hf : OpFar w O x) (hk : x.o.k = 2) :
    Calls Try.prog 16 #[fp b, .agg (opgC x).toArray] w fun e w' => e = .returned (.tuple #[fp b, .int .i64 (doF S x.o).2]) ∧ FileTo w O D w' b (doF S x.o).1 := by
  obtain ⟨⟨k, n, t, bb, i, ks⟩, BA, bc, KA, kc⟩ := x
  simp only at hk
  subst hk
  have HD : Hid (doF S ⟨2, n, t, bb, i, ks⟩ = ((S.rename n t).1, (S.rename n t).2)) := Lib.hid rfl
  obtain ⟨W1, hW1⟩ : ∃ W1, w.alloc (.cells #[.int .i64 2, .string n, .string t, .slice BA bb.length bc, .int .i64 i, .slice KA ks.length kc] 34) = W1 := ⟨_, rfl⟩
  have hB1 : Below w.heap.size w W1 := by rw [← hW1]; exact (Below.refl _ w).alloc (Nat.le_refl _) _
  have x0 : BxA W1 w.heap.size 34 [.int .i64 2, .string n, .string t, .slice BA bb.length bc, .int .i64 i, .slice KA ks.length kc] := by rw [← hW1]; exact BxA.new w _ _
  have c0 := x0.c 0 rfl
  have c1 := x0.c 1 rfl
  have c2 := x0.c 2 rfl
  have c3 := x0.c 3 rfl
  have c4 := x0.c 4 rfl
  have c5 := x0.c 5 rfl
  have H1 := Lib.hid (objFile.below h hB1)
  have HO1 := Lib.hid (Only.of_below (R := O) hB1)
  have HB1 := Lib.hid hB1
  have HS := Lib.hid hS
  have HI := Lib.hid hx
  have HL := Lib.hid hl
  have HF := Lib.hid hf
  clear x0 hB1 hS hx hl hf h
  have Hc := Lib.hid (frename_calls W1 O D b S H1.out HS.out n t)
  clear H1 HB1 HS HI HL HF
  go_enter Try.func16, Try.ntmps16
  go_wp2_with fail
  refine Hc.out.mono ?_
  rintro e w2 ⟨rfl, ht⟩
  have HT := Lib.hid (ToD.from_ ht HO1.out)
  clear ht Hc HO1 hW1 c0 c1 c2 c3 c4 c5
  go_wp2_with fail
  go_ret2
  rw [HD.out]
  exact ⟨rfl, HT.out⟩
set_option maxHeartbeats 2000000 in
theorem fdoes_3 (w : World) (O D : Nat → Prop) (b : Nat) (S : FS) (h : FileAt w O D b S) (hS : S.Fit) (x : OpG) (hx : OpIn w x) (hl : x.o.b.length ≤ 1000000 ∧ x.o.ks.length ≤ 100000) (hf : OpFar w O x) (hk : x.o.k = 3) :
    Calls Try.prog 16 #[fp b, .agg (opgC x).toArray] w fun e w' => e = .returned (.tuple #[fp b, .int .i64 (doF S x.o).2]) ∧ FileTo w O D w' b (doF S x.o).1 := by
  obtain ⟨⟨k, n, t, bb, i, ks⟩, BA, bc, KA, kc⟩ := x
  simp only at hk
  subst hk
  have HD : Hid (doF S ⟨3, n, t, bb, i, ks⟩ = ((S.remove n).1, (S.remove n).2)) := Lib.hid rfl
  obtain ⟨W1, hW1⟩ : ∃ W1, w.alloc (.cells #[.int .i64 3, .string n, .string t, .slice BA bb.length bc, .int .i64 i, .slice KA ks.length kc] 34) = W1 := ⟨_, rfl⟩
  have hB1 : Below w.heap.size w W1 := by rw [← hW1]; exact (Below.refl _ w).alloc (Nat.le_refl _) _
  have x0 : BxA W1 w.heap.size 34 [.int .i64 3, .string n, .string t, .slice BA bb.length bc, .int .i64 i, .slice KA ks.length kc] := by rw [← hW1]; exact BxA.new w _ _
  have c0 := x0.c 0 rfl
  have c1 := x0.c 1 rfl
  have c2 := x0.c 2 rfl
  have c3 := x0.c 3 rfl
  have c4 := x0.c 4 rfl
  have c5 := x0.c 5 rfl
  have H1 := Lib.hid (objFile.below h hB1)
  have HO1 := Lib.hid (Only.of_below (R := O) hB1)
  have HB1 := Lib.hid hB1
  have HS := Lib.hid hS
  have HI := Lib.hid hx
  have HL := Lib.hid hl
  have HF := Lib.hid hf
  clear x0 hB1 hS hx hl hf h
  have Hc := Lib.hid (fremove_calls W1 O D b S H1.out HS.out n)
  clear H1 HB1 HS HI HL HF
  go_enter Try.func16, Try.ntmps16
  go_wp2_with fail
  refine Hc.out.mono ?_
  rintro e w2 ⟨rfl, ht⟩
  have HT := Lib.hid (ToD.from_ ht HO1.out)
  clear ht Hc HO1 hW1 c0 c1 c2 c3 c4 c5
  go_wp2_with fail
  go_ret2
  rw [HD.out]
  exact ⟨rfl, HT.out⟩
set_option maxHeartbeats 2000000 in
theorem fdoes_4 (w : World) (O D : Nat → Prop) (b : Nat) (S : FS) (h : FileAt w O D b S) (hS : S.Fit) (x : OpG) (hx : OpIn w x) (hl : x.o.b.length ≤ 1000000 ∧ x.o.ks.length ≤ 100000) (hf : OpFar w O x) (hk : x.o.k = 4) :
    Calls Try.prog 16 #[fp b, .agg (opgC x).toArray] w fun e w' => e = .returned (.tuple #[fp b, .int .i64 (doF S x.o).2]) ∧ FileTo w O D w' b (doF S x.o).1 := by
  obtain ⟨⟨k, n, t, bb, i, ks⟩, BA, bc, KA, kc⟩ := x
  simp only at hk
  subst hk
  have HD : Hid (doF S ⟨4, n, t, bb, i, ks⟩ = ((S.cut n i).1, (S.cut n i).2)) := Lib.hid rfl
  obtain ⟨W1, hW1⟩ : ∃ W1, w.alloc (.cells #[.int .i64 4, .string n, .string t, .slice BA bb.length bc, .int .i64 i, .slice KA ks.length kc] 34) = W1 := ⟨_, rfl⟩
  have hB1 : Below w.heap.size w W1 := by rw [← hW1]; exact (Below.refl _ w).alloc (Nat.le_refl _) _
  have x0 : BxA W1 w.heap.size 34 [.int .i64 4, .string n, .string t, .slice BA bb.length bc, .int .i64 i, .slice KA ks.length kc] := by rw [← hW1]; exact BxA.new w _ _
  have c0 := x0.c 0 rfl
  have c1 := x0.c 1 rfl
  have c2 := x0.c 2 rfl
  have c3 := x0.c 3 rfl
  have c4 := x0.c 4 rfl
  have c5 := x0.c 5 rfl
  have H1 := Lib.hid (objFile.below h hB1)
  have HO1 := Lib.hid (Only.of_below (R := O) hB1)
  have HB1 := Lib.hid hB1
  have HS := Lib.hid hS
  have HI := Lib.hid hx
  have HL := Lib.hid hl
  have HF := Lib.hid hf
  clear x0 hB1 hS hx hl hf h
  have Hc := Lib.hid (fcut_calls W1 O D b S H1.out HS.out n i HI.out.i1 HI.out.i2)
  clear H1 HB1 HS HI HL HF
  go_enter Try.func16, Try.ntmps16
  go_wp2_with fail
  refine Hc.out.mono ?_
  rintro e w2 ⟨rfl, ht⟩
  have HT := Lib.hid (ToD.from_ ht HO1.out)
  clear ht Hc HO1 hW1 c0 c1 c2 c3 c4 c5
  go_wp2_with fail
  go_ret2
  rw [HD.out]
  exact ⟨rfl, HT.out⟩
set_option maxHeartbeats 2000000 in
theorem fdoes_5 (w : World) (O D : Nat → Prop) (b : Nat) (S : FS) (h : FileAt w O D b S) (hS : S.Fit) (x : OpG) (hx : OpIn w x) (hl : x.o.b.length ≤ 1000000 ∧ x.o.ks.length ≤ 100000) (hf : OpFar w O x) (hk : x.o.k = 5) :
    Calls Try.prog 16 #[fp b, .agg (opgC x).toArray] w fun e w' => e = .returned (.tuple #[fp b, .int .i64 (doF S x.o).2]) ∧ FileTo w O D w' b (doF S x.o).1 := by
  obtain ⟨⟨k, n, t, bb, i, ks⟩, BA, bc, KA, kc⟩ := x
  simp only at hk
  subst hk
  have HD : Hid (doF S ⟨5, n, t, bb, i, ks⟩ = ((S.arm i), 0)) := Lib.hid rfl
  obtain ⟨W1, hW1⟩ : ∃ W1, w.alloc (.cells #[.int .i64 5, .string n, .string t, .slice BA bb.length bc, .int .i64 i, .slice KA ks.length kc] 34) = W1 := ⟨_, rfl⟩
  have hB1 : Below w.heap.size w W1 := by rw [← hW1]; exact (Below.refl _ w).alloc (Nat.le_refl _) _
  have x0 : BxA W1 w.heap.size 34 [.int .i64 5, .string n, .string t, .slice BA bb.length bc, .int .i64 i, .slice KA ks.length kc] := by rw [← hW1]; exact BxA.new w _ _
  have c0 := x0.c 0 rfl
  have c1 := x0.c 1 rfl
  have c2 := x0.c 2 rfl
  have c3 := x0.c 3 rfl
  have c4 := x0.c 4 rfl
  have c5 := x0.c 5 rfl
  have H1 := Lib.hid (objFile.below h hB1)
  have HO1 := Lib.hid (Only.of_below (R := O) hB1)
  have HB1 := Lib.hid hB1
  have HS := Lib.hid hS
  have HI := Lib.hid hx
  have HL := Lib.hid hl
  have HF := Lib.hid hf
  clear x0 hB1 hS hx hl hf h
  have Hc := Lib.hid (farm_calls W1 O D b S H1.out HS.out i HI.out.i1 HI.out.i2)
  clear H1 HB1 HS HI HL HF
  go_enter Try.func16, Try.ntmps16
  go_wp2_with fail
  refine Hc.out.mono ?_
  rintro e w2 ⟨rfl, ht⟩
  have HT := Lib.hid (ToD.from_ ht HO1.out)
  clear ht Hc HO1 hW1 c0 c1 c2 c3 c4 c5
  go_wp2_with fail
  go_ret2
  rw [HD.out]
  exact ⟨rfl, HT.out⟩
set_option maxHeartbeats 2000000 in
theorem fdoes_6 (w : World) (O D : Nat → Prop) (b : Nat) (S : FS) (h : FileAt w O D b S) (hS : S.Fit) (x : OpG) (hx : OpIn w x) (hl : x.o.b.length ≤ 1000000 ∧ x.o.ks.length ≤ 100000) (hf : OpFar w O x) (hk : x.o.k = 6) :
    Calls Try.prog 16 #[fp b, .agg (opgC x).toArray] w fun e w' => e = .returned (.tuple #[fp b, .int .i64 (doF S x.o).2]) ∧ FileTo w O D w' b (doF S x.o).1 := by
  obtain ⟨⟨k, n, t, bb, i, ks⟩, BA, bc, KA, kc⟩ := x
  simp only at hk
  subst hk
  have HD : Hid (doF S ⟨6, n, t, bb, i, ks⟩ = ((S.fault_ i), 0)) := Lib.hid rfl
  obtain ⟨W1, hW1⟩ : ∃ W1, w.alloc (.cells #[.int .i64 6, .string n, .string t, .slice BA bb.length bc, .int .i64 i, .slice KA ks.length kc] 34) = W1 := ⟨_, rfl⟩
  have hB1 : Below w.heap.size w W1 := by rw [← hW1]; exact (Below.refl _ w).alloc (Nat.le_refl _) _
  have x0 : BxA W1 w.heap.size 34 [.int .i64 6, .string n, .string t, .slice BA bb.length bc, .int .i64 i, .slice KA ks.length kc] := by rw [← hW1]; exact BxA.new w _ _
  have c0 := x0.c 0 rfl
  have c1 := x0.c 1 rfl
  have c2 := x0.c 2 rfl
  have c3 := x0.c 3 rfl
  have c4 := x0.c 4 rfl
  have c5 := x0.c 5 rfl
  have H1 := Lib.hid (objFile.below h hB1)
  have HO1 := Lib.hid (Only.of_below (R := O) hB1)
  have HB1 := Lib.hid hB1
  have HS := Lib.hid hS
  have HI := Lib.hid hx
  have HL := Lib.hid hl
  have HF := Lib.hid hf
  clear x0 hB1 hS hx hl hf h
  have Hc := Lib.hid (ffault_calls W1 O D b S H1.out HS.out i HI.out.i1 HI.out.i2)
  clear H1 HB1 HS HI HL HF
  go_enter Try.func16, Try.ntmps16
  go_wp2_with fail
  refine Hc.out.mono ?_
  rintro e w2 ⟨rfl, ht⟩
  have HT := Lib.hid (ToD.from_ ht HO1.out)
  clear ht Hc HO1 hW1 c0 c1 c2 c3 c4 c5
  go_wp2_with fail
  go_ret2
  rw [HD.out]
  exact ⟨rfl, HT.out⟩
set_option maxHeartbeats 2000000 in
theorem fdoes_7 (w : World) (O D : Nat → Prop) (b : Nat) (S : FS) (h : FileAt w O D b S) (hS : S.Fit) (x : OpG) (hx : OpIn w x) (hl : x.o.b.length ≤ 1000000 ∧ x.o.ks.length ≤ 100000) (hf : OpFar w O x) (hk : x.o.k = 7) :
    Calls Try.prog 16 #[fp b, .agg (opgC x).toArray] w fun e w' => e = .returned (.tuple #[fp b, .int .i64 (doF S x.o).2]) ∧ FileTo w O D w' b (doF S x.o).1 := by
  obtain ⟨⟨k, n, t, bb, i, ks⟩, BA, bc, KA, kc⟩ := x
  simp only at hk
  subst hk
  have HD : Hid (doF S ⟨7, n, t, bb, i, ks⟩ = ((S.crash ks), 0)) := Lib.hid rfl
  obtain ⟨W1, hW1⟩ : ∃ W1, w.alloc (.cells #[.int .i64 7, .string n, .string t, .slice BA bb.length bc, .int .i64 i, .slice KA ks.length kc] 34) = W1 := ⟨_, rfl⟩
  have hB1 : Below w.heap.size w W1 := by rw [← hW1]; exact (Below.refl _ w).alloc (Nat.le_refl _) _
  have x0 : BxA W1 w.heap.size 34 [.int .i64 7, .string n, .string t, .slice BA bb.length bc, .int .i64 i, .slice KA ks.length kc] := by rw [← hW1]; exact BxA.new w _ _
  have c0 := x0.c 0 rfl
  have c1 := x0.c 1 rfl
  have c2 := x0.c 2 rfl
  have c3 := x0.c 3 rfl
  have c4 := x0.c 4 rfl
  have c5 := x0.c 5 rfl
  have H1 := Lib.hid (objFile.below h hB1)
  have HO1 := Lib.hid (Only.of_below (R := O) hB1)
  have HB1 := Lib.hid hB1
  have HS := Lib.hid hS
  have HI := Lib.hid hx
  have HL := Lib.hid hl
  have HF := Lib.hid hf
  clear x0 hB1 hS hx hl hf h
  have Hc := Lib.hid (fcrash_calls W1 O D b S H1.out HS.out KA kc ks (HF.out.k.below HB1.out) HL.out.2)
  clear H1 HB1 HS HI HL HF
  go_enter Try.func16, Try.ntmps16
  go_wp2_with fail
  refine Hc.out.mono ?_
  rintro e w2 ⟨rfl, ht⟩
  have HT := Lib.hid (ToD.from_ ht HO1.out)
  clear ht Hc HO1 hW1 c0 c1 c2 c3 c4 c5
  go_wp2_with fail
  go_ret2
  rw [HD.out]
  exact ⟨rfl, HT.out⟩
end
section
open Go Go.RowKit
set_option maxRecDepth 100000
theorem byt_one (w : World) (u : UInt8) : Byt (w.alloc (.cells #[.int .u8 (u.toNat : Int)] 5)) (some ⟨w.heap.size, 0, none⟩) [u] :=
  Byt.mk_ fun i hi => by
    have : i = 0 := by simpa using hi
    subst this
    simp [World.cell?, World.alloc, -World.alloc_eq]
theorem byt_one1 (w : World) : Byt (w.alloc (.cells #[.int .u8 1] 5)) (some ⟨w.heap.size, 0, none⟩) [1] := byt_one w 1
theorem row_true (w : World) {D : Nat → Prop} (hD : D w.heap.size) : RowT boolC (w.alloc (.cells #[.bool true] 4)) D (some ⟨w.heap.size, 0, none⟩) [true] := fun _ => by
  refine ⟨w.heap.size, 0, rfl, hD, by simp, fun j v hj => ?_⟩
  have hj0 : j = 0 := by have := (List.getElem?_eq_some_iff.1 hj).1; simpa using this
  subst hj0
  injection hj with hj
  subst hj
  simp [World.cell?, World.alloc, -World.alloc_eq]
set_option maxHeartbeats 4000000 in
theorem fdoes_8 (w : World) (O D : Nat → Prop) (b : Nat) (S : FS) (m : Nat) (h : FileAt w O D b S) (hS : S.At m) (hm : m ≤ 99000) (x : OpG) (hk : x.o.k = 8) :
    Calls Try.prog 16 #[fp b, .agg (opgC x).toArray] w fun e w' => ∃ b', e = .returned (.tuple #[fp b', .int .i64 0]) ∧ FileTo w O D w' b' S := by
  obtain ⟨⟨k, n, t, bb, i, ks⟩, BA, bc, KA, kc⟩ := x
  simp only at hk
  subst hk
  obtain ⟨W1, hW1⟩ : ∃ W1, w.alloc (.cells #[.int .i64 8, .string n, .string t, .slice BA bb.length bc, .int .i64 i, .slice KA ks.length kc] 34) = W1 := ⟨_, rfl⟩
  have hB1 : Below w.heap.size w W1 := by rw [← hW1]; exact (Below.refl _ w).alloc (Nat.le_refl _) _
  have x0 : BxA W1 w.heap.size 34 [.int .i64 8, .string n, .string t, .slice BA bb.length bc, .int .i64 i, .slice KA ks.length kc] := by rw [← hW1]; exact BxA.new w _ _
  have c0 := x0.c 0 rfl
  have hO : Hid (∀ k, O k → k < w.heap.size) := Lib.hid (fun k hk => objFile.lt h k (objFile.sub h k hk))
  have h1 := objFile.below h hB1
  have HO1 := Lib.hid (Only.of_below (R := O) hB1)
  have Hc := Lib.hid (fcopy_calls W1 O D b S h1 (hS.fit (by omega)))
  have H1 := Lib.hid h1
  have HB1 := Lib.hid hB1
  have HS := Lib.hid hS
  have HM := Lib.hid hm
  clear x0 hB1 hS h h1 hm
  go_enter Try.func16, Try.ntmps16
  go_wp2_with fail
  refine Hc.out.mono ?_
  rintro e w2 ⟨b', rfl, hcp⟩
  have HCP := Lib.hid hcp
  have H2 := Lib.hid (objFile.below H1.out hcp.bel)
  have HB2 : Hid (W1.heap.size ≤ w2.heap.size) := Lib.hid hcp.bel.size
  clear hcp Hc hW1 c0 H1
  have ba2 := (Below.refl _ w2).alloc (Nat.le_refl _) (.cells #[.int .u8 1] 5)
  have Hw := Lib.hid (fwrite_calls (w2.alloc (.cells #[.int .u8 1] 5)) O D b S (objFile.below H2.out ba2) (HS.out.fit (by have := HM.out; omega)) ⟨#[110, 111, 110, 101]⟩ (some ⟨w2.heap.size, 0, none⟩) 1 [1] (byR_of_byt (byt_one1 w2) (fun a e hOa => by
    injection e with e
    subst e
    have q1 : w2.heap.size < w.heap.size := hO.out _ hOa
    have q2 := HB1.out.size
    have q3 := HB2.out
    omega)) (fun h => by cases h) (by decide))
  have HA2 := Lib.hid (Only.of_below (R := O) ba2)
  clear ba2 H2
  go_wp2_with fail
  refine Hw.out.mono ?_
  rintro e w3 ⟨rfl, ht⟩
  obtain ⟨O3, D3, a1, a2, a3, _⟩ := ToD.from_ ht HA2.out
  have ba3 := (Below.refl _ w3).alloc (Nat.le_refl _) (.cells #[.bool true] 4)
  have hS3 := HS.out.write ⟨#[110, 111, 110, 101]⟩ [1]
  have Hcr := Lib.hid (fcrash_calls (w3.alloc (.cells #[.bool true] 4)) O3 D3 b _ (objFile.below a1 ba3) (hS3.fit (by have := HM.out; omega)) (some ⟨w3.heap.size, 0, none⟩) 1 [true] (row_true w3 (fun hOa => Nat.lt_irrefl _ (objFile.lt a1 _ (objFile.sub a1 _ hOa)))) (by decide))
  have HS3 := Lib.hid hS3
  have HA3 := Lib.hid (Only.of_below (R := O3) ba3)
  have HO3 := Lib.hid a2
  have HK3 := Lib.hid a3
  clear ht Hw HA2 a1 a2 a3 ba3 hS3 HS
  go_wp2_with fail
  refine Hcr.out.mono ?_
  rintro e w4 ⟨rfl, ht⟩
  obtain ⟨O4, D4, a1, a2, a3, _⟩ := ToD.from_ ht HA3.out
  have Hrm := Lib.hid (fremove_calls w4 O4 D4 b _ a1 ((HS3.out.crash [true]).fit (by have := HM.out; omega)) ⟨#[97]⟩)
  have HO4 : Hid (Only O w2 w4) := Lib.hid (HO3.out.trans a2 HK3.out)
  have HK4 : Hid (∀ k, O4 k → O k ∨ w2.heap.size ≤ k) := Lib.hid (fun k hk => by
    rcases a3 k hk with h | h
    · exact HK3.out k h
    · exact .inr (Nat.le_trans HO3.out.size h))
  clear ht Hcr HA3 a1 a2 a3 HS3 HO3 HK3 HM
  go_wp2_with fail
  refine Hrm.out.mono ?_
  rintro e w5 ⟨rfl, ht⟩
  have HO5 : Hid (Only O w2 w5) := Lib.hid (HO4.out.trans ht.only HK4.out)
  clear ht Hrm HO4 HK4
  have HF : Hid (FileTo w O D w5 b' S) := Lib.hid (by
    obtain ⟨O', D', k1, k2, k3, k4⟩ := CopD.keep objFile HCP.out (fun k hk => Nat.lt_of_lt_of_le (hO.out k hk) HB1.out.size) HO5.out
    exact ⟨O', D', k1, HO1.out.trans k4 (fun _ h => .inl h), fun k hk => .inr (Nat.le_trans HB1.out.size (k2 k hk)), fun k hk => (k3 k hk).imp And.left (Nat.le_trans HB1.out.size)⟩)
  clear HCP HO5 hO HO1 HB1 HB2
  go_wp2_with fail
  go_ret2
  exact ⟨b', rfl, HF.out⟩
/-- Any call. -/
theorem fdoes_calls (w : World) (O D : Nat → Prop) (b : Nat) (S : FS) (m : Nat) (h : FileAt w O D b S) (hS : S.At m) (hm : m ≤ 99000) (x : OpG) (hx : OpIn w x) (hl : x.o.b.length ≤ 1000000 ∧ x.o.ks.length ≤ 100000) (hf : OpFar w O x) (h0 : 0 ≤ x.o.k) (h8 : x.o.k ≤ 8) :
    Calls Try.prog 16 #[fp b, .agg (opgC x).toArray] w fun e w' => ∃ b', (x.o.k ≤ 4 → b' = b) ∧ e = .returned (.tuple #[fp b', .int .i64 (doF S x.o).2]) ∧ FileTo w O D w' b' (doF S x.o).1 := by
  have hF := hS.fit (k := m) (by omega)
  have one : Calls Try.prog 16 #[fp b, .agg (opgC x).toArray] w (fun e w' => e = .returned (.tuple #[fp b, .int .i64 (doF S x.o).2]) ∧ FileTo w O D w' b (doF S x.o).1) → Calls Try.prog 16 #[fp b, .agg (opgC x).toArray] w fun e w' => ∃ b', (x.o.k ≤ 4 → b' = b) ∧ e = .returned (.tuple #[fp b', .int .i64 (doF S x.o).2]) ∧ FileTo w O D w' b' (doF S x.o).1 := fun h => h.mono (by rintro e w' ⟨h1, h2⟩; exact ⟨b, fun _ => rfl, h1, h2⟩)
  rcases (by omega : x.o.k = 0 ∨ x.o.k = 1 ∨ x.o.k = 2 ∨ x.o.k = 3 ∨ x.o.k = 4 ∨ x.o.k = 5 ∨ x.o.k = 6 ∨ x.o.k = 7 ∨ x.o.k = 8) with e | e | e | e | e | e | e | e | e
  · exact one (fdoes_0 w O D b S h hF x hx hl hf e)
  · exact one (fdoes_1 w O D b S h hF x hx hl hf e)
  · exact one (fdoes_2 w O D b S h hF x hx hl hf e)
  · exact one (fdoes_3 w O D b S h hF x hx hl hf e)
  · exact one (fdoes_4 w O D b S h hF x hx hl hf e)
  · exact one (fdoes_5 w O D b S h hF x hx hl hf e)
  · exact one (fdoes_6 w O D b S h hF x hx hl hf e)
  · exact one (fdoes_7 w O D b S h hF x hx hl hf e)
  · have hd : doF S x.o = (S, 0) := by
      unfold doF
      rw [if_neg (by omega), if_neg (by omega), if_neg (by omega), if_pos e]
    refine (fdoes_8 w O D b S m h hS hm x e).mono ?_
    rintro e2 w' ⟨b', h1, h2⟩
    rw [hd]
    exact ⟨b', fun h => absurd h (by omega), h1, h2⟩
end
section
open Go Go.RowKit
/-- One file system; calls turn nothing of X, and it reads nothing of Y. -/
def FX (w0 W : World) (X Y : Nat → Prop) (b : Nat) (S : FS) : Prop := ∃ O D, FileAt W O D b S ∧ (∀ k, X k → k < W.heap.size ∧ ¬ O k) ∧ (∀ k, Y k → k < W.heap.size ∧ ¬ D k) ∧ (∀ k, O k → w0.heap.size ≤ k) ∧ Below w0.heap.size w0 W
/-- Two file systems: what calls may turn of one, the other does not read. -/
def TwoX (w0 W : World) (X : Nat → Prop) (b : Nat) (S : FS) (b' : Nat) (S' : FS) : Prop := ∃ O D O' D', FileAt W O D b S ∧ FileAt W O' D' b' S' ∧ (∀ k, O k → ¬ D' k) ∧ (∀ k, O' k → ¬ D k) ∧ (∀ k, X k → k < W.heap.size ∧ ¬ O k ∧ ¬ O' k) ∧ (∀ k, O k → w0.heap.size ≤ k) ∧ (∀ k, O' k → w0.heap.size ≤ k) ∧ Below w0.heap.size w0 W
/-- X, and the blocks that were made since. -/
def XN (X : Nat → Prop) (W W2 : World) (k : Nat) : Prop := X k ∨ (W.heap.size ≤ k ∧ k < W2.heap.size)
section
variable {w0 W W2 : World} {X Y : Nat → Prop} {b b' : Nat} {S S' S2 : FS}
theorem FX.bel (h : FX w0 W X Y b S) : Below w0.heap.size w0 W := by
  obtain ⟨_, _, _, _, _, _, h⟩ := h
  exact h
/-- New memory, which may be read from now on, and written to. -/
theorem FX.below (h : FX w0 W X Y b S) (hb : Below W.heap.size W W2) : FX w0 W2 (XN X W W2) (XN Y W W2) b S := by
  obtain ⟨O, D, h1, h2, hY, h3, h4⟩ := h
  refine ⟨O, D, objFile.below h1 hb, fun k hk => ?_, fun k hk => ?_, h3, h4.trans (hb.mono h4.size)⟩
  · rcases hk with hk | ⟨h5, h6⟩
    · exact ⟨Nat.lt_of_lt_of_le (h2 k hk).1 hb.size, (h2 k hk).2⟩
    · refine ⟨h6, fun hO => ?_⟩
      have := objFile.lt h1 k (objFile.sub h1 k hO)
      omega
  · rcases hk with hk | ⟨h5, h6⟩
    · exact ⟨Nat.lt_of_lt_of_le (hY k hk).1 hb.size, (hY k hk).2⟩
    · refine ⟨h6, fun hD => ?_⟩
      have := objFile.lt h1 k hD
      omega
theorem FX.mono {X2 Y2 : Nat → Prop} (h : FX w0 W X Y b S) (hX : ∀ k, X2 k → X k) (hY2 : ∀ k, Y2 k → Y k) : FX w0 W X2 Y2 b S := by
  obtain ⟨O, D, h1, h2, hY, h3, h4⟩ := h
  exact ⟨O, D, h1, fun k hk => h2 k (hX k hk), fun k hk => hY k (hY2 k hk), h3, h4⟩
theorem FX.of_in (h : FileIn w0 W b S) : FX w0 W (fun k => k < w0.heap.size) (fun _ => False) b S := by
  obtain ⟨O, D, h1, h2, h3⟩ := h
  exact ⟨O, D, h1, fun k hk => ⟨Nat.lt_of_lt_of_le hk h3.size, fun hO => by have := h2 k hO; omega⟩, fun _ h => h.elim, h2, h3⟩
/-- Blocks that it does not read are written. -/
theorem FX.wrote {R : Nat → Prop} (h : FX w0 W X Y b S) (ho : Only R W W2) (hR : ∀ k, R k → Y k) (hw : ∀ k, R k → w0.heap.size ≤ k) : FX w0 W2 X Y b S := by
  obtain ⟨O, D, h1, h2, hY, h3, h4⟩ := h
  exact ⟨O, D, objFile.keep h1 ho (fun k hk hr => (hY k (hR k hr)).2 hk), fun k hk => ⟨Nat.lt_of_lt_of_le (h2 k hk).1 ho.size, (h2 k hk).2⟩, fun k hk => ⟨Nat.lt_of_lt_of_le (hY k hk).1 ho.size, (hY k hk).2⟩, h3, h4.trans (ho.below h4.size hw)⟩
/-- A call that turns it: what X holds is as it was. -/
theorem FX.stepE {P : Program} {f : Nat} {args : Array Value} {E : Ending → Nat → Prop} (h : FX w0 W X Y b S) (hc : ∀ O D, FileAt W O D b S → (∀ k, X k → k < W.heap.size ∧ ¬ O k) → (∀ k, O k → w0.heap.size ≤ k) → Calls P f args W fun e W2 => ∃ b2, E e b2 ∧ FileTo W O D W2 b2 S2) :
    Calls P f args W fun e W2 => ∃ b2, E e b2 ∧ FX w0 W2 X Y b2 S2 ∧ Only (fun k => ¬ X k) W W2 := by
  obtain ⟨O, D, h1, h2, hY, h3, h4⟩ := h
  refine (hc O D h1 h2 h3).mono ?_
  rintro e W2 ⟨b2, he, O2, D2, k1, k2, k3, k4⟩
  refine ⟨b2, he, ⟨O2, D2, k1, fun k hk => ⟨Nat.lt_of_lt_of_le (h2 k hk).1 k2.size, fun hO => ?_⟩, fun k hk => ⟨Nat.lt_of_lt_of_le (hY k hk).1 k2.size, fun hD => ?_⟩, fun k hk => ?_, h4.trans (k2.below h4.size h3)⟩, k2.mono (fun k hk => .inl (fun hX => (h2 k hX).2 hk))⟩
  · rcases k3 k hO with h | h
    · exact (h2 k hk).2 h
    · have := (h2 k hk).1; omega
  · rcases k4 k hD with h | h
    · exact (hY k hk).2 h
    · have := (hY k hk).1; omega
  · rcases k3 k hk with h | h
    · exact h3 k h
    · exact Nat.le_trans h4.size h
theorem FX.step {P : Program} {f : Nat} {args : Array Value} {E : Ending → Prop} (h : FX w0 W X Y b S) (hc : ∀ O D, FileAt W O D b S → (∀ k, X k → k < W.heap.size ∧ ¬ O k) → Calls P f args W fun e W2 => E e ∧ FileTo W O D W2 b S2) :
    Calls P f args W fun e W2 => E e ∧ FX w0 W2 X Y b S2 ∧ Only (fun k => ¬ X k) W W2 := by
  refine (h.stepE (E := fun e b2 => E e ∧ b2 = b) (fun O D h1 h2 _ => (hc O D h1 h2).mono (by rintro e W2 ⟨h3, h4⟩; exact ⟨b, ⟨h3, rfl⟩, h4⟩))).mono ?_
  rintro e W2 ⟨_, ⟨h1, rfl⟩, h2⟩
  exact ⟨h1, h2⟩
theorem FX.at_ (h : FX w0 W X Y b S) : ∃ O D, FileAt W O D b S := by
  obtain ⟨O, D, h, _⟩ := h
  exact ⟨O, D, h⟩
theorem TwoX.swap (h : TwoX w0 W X b S b' S') : TwoX w0 W X b' S' b S := by
  obtain ⟨O, D, O', D', h1, h2, h3, h4, hX, h5, h6, h7⟩ := h
  exact ⟨O', D', O, D, h2, h1, h4, h3, fun k hk => ⟨(hX k hk).1, (hX k hk).2.2, (hX k hk).2.1⟩, h6, h5, h7⟩
theorem TwoX.bel (h : TwoX w0 W X b S b' S') : Below w0.heap.size w0 W := by
  obtain ⟨_, _, _, _, _, _, _, _, _, _, _, h⟩ := h
  exact h
theorem TwoX.below (h : TwoX w0 W X b S b' S') (hb : Below W.heap.size W W2) : TwoX w0 W2 (XN X W W2) b S b' S' := by
  obtain ⟨O, D, O', D', h1, h2, h3, h4, hX, h5, h6, h7⟩ := h
  refine ⟨O, D, O', D', objFile.below h1 hb, objFile.below h2 hb, h3, h4, fun k hk => ?_, h5, h6, h7.trans (hb.mono h7.size)⟩
  rcases hk with hk | ⟨h8, h9⟩
  · exact ⟨Nat.lt_of_lt_of_le (hX k hk).1 hb.size, (hX k hk).2⟩
  · refine ⟨h9, fun hO => ?_, fun hO => ?_⟩
    · have := objFile.lt h1 k (objFile.sub h1 k hO); omega
    · have := objFile.lt h2 k (objFile.sub h2 k hO); omega
theorem TwoX.mono {Y : Nat → Prop} (h : TwoX w0 W X b S b' S') (hY : ∀ k, Y k → X k) : TwoX w0 W Y b S b' S' := by
  obtain ⟨O, D, O', D', h1, h2, h3, h4, hX, h⟩ := h
  exact ⟨O, D, O', D', h1, h2, h3, h4, fun k hk => hX k (hY k hk), h⟩
theorem TwoX.one (h : TwoX w0 W X b S b' S') : FX w0 W X (fun _ => False) b S := by
  obtain ⟨O, D, O', D', h1, h2, h3, h4, hX, h5, h6, h7⟩ := h
  exact ⟨O, D, h1, fun k hk => ⟨(hX k hk).1, (hX k hk).2.1⟩, fun _ h => h.elim, h5, h7⟩
theorem TwoX.of_copy {P : Program} {f : Nat} {args : Array Value} {E : Ending → Nat → Prop} (h : FX w0 W X Y b S) (hc : ∀ O D, FileAt W O D b S → Calls P f args W fun e W2 => ∃ b', E e b' ∧ FileCop W O D W2 b' S) :
    Calls P f args W fun e W2 => ∃ b', E e b' ∧ TwoX w0 W2 X b S b' S ∧ Below W.heap.size W W2 := by
  obtain ⟨O, D, h1, hX, _, h2, h3⟩ := h
  refine (hc O D h1).mono ?_
  rintro e W2 ⟨b', he, O', D', k1, k2, k3, k4⟩
  refine ⟨b', he, ⟨O, D, O', D', objFile.below h1 k4, k1, fun k hk hD => ?_, fun k hk hD => ?_, fun k hk => ⟨Nat.lt_of_lt_of_le (hX k hk).1 k4.size, (hX k hk).2, fun hO => ?_⟩, h2, fun k hk => Nat.le_trans h3.size (k2 k hk), h3.trans (k4.mono h3.size)⟩, k4⟩
  · rcases k3 k hD with h | h
    · exact h.2 hk
    · have := objFile.lt h1 k (objFile.sub h1 k hk); omega
  · have q1 := k2 k hk
    have q2 := objFile.lt h1 k hD
    omega
  · have q1 := k2 k hO
    have q2 := (hX k hk).1
    omega
/-- A call on the first one. -/
theorem TwoX.step {P : Program} {f : Nat} {args : Array Value} {E : Ending → Prop} (h : TwoX w0 W X b S b' S') (hc : ∀ O D, FileAt W O D b S → (∀ k, X k → k < W.heap.size ∧ ¬ O k) → Calls P f args W fun e W2 => E e ∧ FileTo W O D W2 b S2) :
    Calls P f args W fun e W2 => E e ∧ TwoX w0 W2 X b S2 b' S' ∧ Only (fun k => ¬ X k) W W2 := by
  obtain ⟨O, D, O', D', h1, h2, h3, h4, hX, h5, h6, h7⟩ := h
  refine (hc O D h1 (fun k hk => ⟨(hX k hk).1, (hX k hk).2.1⟩)).mono ?_
  rintro e W2 ⟨he, O2, D2, k1, k2, k3, k4⟩
  refine ⟨he, ⟨O2, D2, O', D', k1, objFile.keep h2 k2 (fun k hk hO => h3 k hO hk), fun k hk hD => ?_, fun k hk hD => ?_, fun k hk => ⟨Nat.lt_of_lt_of_le (hX k hk).1 k2.size, fun hO => ?_, (hX k hk).2.2⟩, fun k hk => ?_, h6, h7.trans (k2.below h7.size h5)⟩, k2.mono (fun k hk => .inl (fun hX2 => (hX k hX2).2.1 hk))⟩
  · rcases k3 k hk with h | h
    · exact h3 k h hD
    · have := objFile.lt h2 k hD; omega
  · rcases k4 k hD with h | h
    · exact h4 k hk h
    · have := objFile.lt h2 k (objFile.sub h2 k hk); omega
  · rcases k3 k hO with h | h
    · exact (hX k hk).2.1 h
    · have := (hX k hk).1; omega
  · rcases k3 k hk with h | h
    · exact h5 k h
    · exact Nat.le_trans h7.size h
end
/-- One byte, freshly laid. -/
theorem lit_one {W : World} {X : Nat → Prop} (u : UInt8) (hX : X W.heap.size) : ByR (W.alloc (.cells #[.int .u8 (u.toNat : Int)] 5)) X (some ⟨W.heap.size, 0, none⟩) [u] := byR_of_byt (byt_one W u) (fun a e => by injection e with e; subst e; exact hX)
theorem XN.new {X : Nat → Prop} {W W2 : World} (h : W.heap.size < W2.heap.size) : XN X W W2 W.heap.size := .inr ⟨Nat.le_refl _, h⟩
end
section
open Go Go.RowKit
set_option maxRecDepth 100000
theorem at1 : (holeS [[1]] 1 (-1)).At 1 := by
  have := FS.At.new.write nA [1]
  rwa [al_write1] at this
theorem at2 : al2.At 2 := by
  have := at1.write nA [2]
  rwa [al_write2] at this
theorem row_ft (w : World) {D : Nat → Prop} (hD : D w.heap.size) : RowT boolC (w.alloc (.cells #[.bool false, .bool true] 4)) D (some ⟨w.heap.size, 0, none⟩) [false, true] := fun _ => by
  refine ⟨w.heap.size, 0, rfl, hD, by simp, fun j v hj => ?_⟩
  have hj0 : j = 0 ∨ j = 1 := by
    have := (List.getElem?_eq_some_iff.1 hj).1
    have h2 : j < 2 := this
    omega
  rcases hj0 with rfl | rfl
  all_goals
    injection hj with hj
    subst hj
    simp [World.cell?, World.alloc, -World.alloc_eq]
theorem atD : (FS.mk [⟨nA, [0, 2], []⟩] 2 3 (-1) (-1) true).At 3 := by
  have hat7 : ((al2.crash [false, true]).arm 0).At 2 := by
    have h := at2.crash [false, true]
    exact ⟨h.ok.arm _, h.no, h.ops, h.rows, by decide, h.fault⟩
  have h := hat7.does ⟨1, nA, nA, [], 0, []⟩ (by decide)
  have e : (doF ((al2.crash [false, true]).arm 0) ⟨1, nA, nA, [], 0, []⟩).1 = FS.mk [⟨nA, [0, 2], []⟩] 2 3 (-1) (-1) true := by
    show (((al2.crash [false, true]).arm 0).sync nA).1 = _
    rw [al_sync]
  rwa [e] at h
theorem atF : (al2.fault_ 0).At 2 := ⟨at2.ok.fault_ _, at2.no, at2.ops, at2.rows, at2.fuse, by decide⟩
theorem atG : (holeS [[1], [2]] 3 (-1)).At 3 := by
  have := atF.write nA []
  rwa [al_fault] at this
theorem atH : (alB [] [⟨0, 0, [1]⟩, ⟨1, 1, [2]⟩] 4).At 4 := by
  have h := atG.does ⟨2, nA, nB, [], 0, []⟩ (by decide)
  have e : (doF (holeS [[1], [2]] 3 (-1)) ⟨2, nA, nB, [], 0, []⟩).1 = alB [] [⟨0, 0, [1]⟩, ⟨1, 1, [2]⟩] 4 := by
    show ((holeS [[1], [2]] 3 (-1)).rename nA nB).1 = _
    rw [al_rename]
  rwa [e] at h
theorem atI : (alB [1] [] 5).At 5 := by
  have h := atH.does ⟨4, nB, nB, [], 1, []⟩ (by decide)
  have e : (doF (alB [] [⟨0, 0, [1]⟩, ⟨1, 1, [2]⟩] 4) ⟨4, nB, nB, [], 1, []⟩).1 = alB [1] [] 5 := by
    show ((alB [] [⟨0, 0, [1]⟩, ⟨1, 1, [2]⟩] 4).cut nB 1).1 = _
    rw [al_cut]
  rwa [e] at h
theorem atJ : (FS.mk [] 2 6 (-1) (-1) false).At 6 := by
  have h := atI.does ⟨3, nB, nB, [], 1, []⟩ (by decide)
  have e : (doF (alB [1] [] 5) ⟨3, nB, nB, [], 1, []⟩).1 = FS.mk [] 2 6 (-1) (-1) false := by
    show ((alB [1] [] 5).remove nB).1 = _
    rw [al_remove]
  rwa [e] at h
set_option maxHeartbeats 8000000 in
theorem falive_calls (w0 : World) : Calls Try.prog 11 #[] w0 fun e w' => e = .returned (.bool true) ∧ Below w0.heap.size w0 w' := by
  go_enter Try.func11, Try.ntmps11
  go_wp2_with fail
  refine (fnew_calls w0).mono ?_
  rintro e w1 ⟨b, rfl, hin⟩
  have h1 := (FX.of_in hin).below ((Below.refl _ w1).alloc (Nat.le_refl _) (.cells #[.int .u8 1] 5))
  have hx1 := lit_one (W := w1) (X := XN (fun k => k < w0.heap.size) w1 (w1.alloc (.cells #[.int .u8 1] 5))) 1 (XN.new (by simp))
  generalize XN (fun k => k < w0.heap.size) w1 (w1.alloc (.cells #[.int .u8 1] 5)) = X1 at h1 hx1
  have Hw1 := Lib.hid (h1.step (S2 := holeS [[1]] 1 (-1)) (E := fun e => e = .returned (.int .i64 0)) fun O D k1 k2 => by
    have := fwrite_calls _ O D b FS.new k1 (FS.At.new.fit (by omega)) nA (some ⟨w1.heap.size, 0, none⟩) 1 [1] (hx1.mono fun k hk => (k2 k hk).2) (fun h => by cases h) (by decide)
    rw [al_write1] at this
    exact this)
  clear h1 hx1 hin
  go_wp2_with fail
  refine Hw1.out.mono ?_
  rintro e w2 ⟨rfl, hf2, _⟩
  have h1 := hf2.below ((Below.refl _ w2).alloc (Nat.le_refl _) (.cells #[.int .u8 2] 5))
  have hx1 := lit_one (W := w2) (X := XN X1 w2 (w2.alloc (.cells #[.int .u8 2] 5))) 2 (XN.new (by simp))
  generalize XN X1 w2 (w2.alloc (.cells #[.int .u8 2] 5)) = X2 at h1 hx1
  have Hw2 := Lib.hid (h1.step (S2 := al2) (E := fun e => e = .returned (.int .i64 0)) fun O D k1 k2 => by
    have := fwrite_calls _ O D b _ k1 (at1.fit (by omega)) nA (some ⟨w2.heap.size, 0, none⟩) 1 [2] (hx1.mono fun k hk => (k2 k hk).2) (fun h => by cases h) (by decide)
    rw [al_write2] at this
    exact this)
  clear h1 hx1 hf2 Hw1
  go_wp2_with fail
  refine Hw2.out.mono ?_
  rintro e w3 ⟨rfl, hf3, _⟩
  have Hcp := Lib.hid (TwoX.of_copy (E := fun e b' => e = .returned (fp b')) hf3 (fun O D k1 => fcopy_calls w3 O D b _ k1 (at2.fit (by omega))))
  clear hf3 Hw2
  go_wp2_with fail
  refine Hcp.out.mono ?_
  rintro e w4 ⟨b', rfl, ht4, _⟩
  have h1 := ht4.below ((Below.refl _ w4).alloc (Nat.le_refl _) (.cells #[.bool false, .bool true] 4))
  have hx1 := row_ft w4 (D := XN X2 w4 (w4.alloc (.cells #[.bool false, .bool true] 4))) (XN.new (by simp))
  generalize XN X2 w4 (w4.alloc (.cells #[.bool false, .bool true] 4)) = X4 at h1 hx1
  have Hcr := Lib.hid (h1.step (S2 := al2.crash [false, true]) (E := fun e => e = .returned (.tuple #[])) fun O D k1 k2 =>
    fcrash_calls _ O D b _ k1 (at2.fit (by omega)) (some ⟨w4.heap.size, 0, none⟩) 2 [false, true] (hx1.mono fun k hk => (k2 k hk).2) (by decide))
  clear h1 hx1 ht4 Hcp
  go_wp2_with fail
  refine Hcr.out.mono ?_
  rintro e w5 ⟨rfl, ht5, _⟩
  have Hrd : Hid (Calls Try.prog 18 #[fp b, .string nA] w5 fun e w' => ∃ u, e = .returned (.tuple #[u, .int .i64 0]) ∧ w'.ownsRow w5.heap.size 5 1 u 2 (Lib.byteCells [0, 2]) ∧ Below w5.heap.size w5 w') := Lib.hid (by
    obtain ⟨O, D, k1⟩ := ht5.one.at_
    have := fread_calls w5 O D b _ k1 ((at2.crash [false, true]).fit (by omega)) nA
    rw [al_crash] at this
    exact this)
  clear Hcr
  go_wp2_with fail
  refine Hrd.out.mono ?_
  rintro e w6 ⟨u6, rfl, hown6, hb6⟩
  obtain ⟨A6, n6, rfl⟩ := own_form hown6
  have ht6 := ht5.below hb6
  have hby6 : ByR w6 (XN X4 w5 w6) A6 [0, 2] := byR_of_own (l := [0, 2]) hown6 (fun g hg => .inr (hown6.lt g hg))
  generalize XN X4 w5 w6 = X6 at ht6 hby6
  clear hown6 hb6 ht5 Hrd
  have Harm := Lib.hid (ht6.step (S2 := (al2.crash [false, true]).arm 0) (E := fun e => e = .returned (.tuple #[])) fun O D k1 k2 =>
    farm_calls _ O D b _ k1 ((at2.crash [false, true]).fit (by omega)) 0 (by omega) (by omega))
  clear ht6
  go_wp2_with fail
  refine Harm.out.mono ?_
  rintro e w7 ⟨rfl, ht7, ho7⟩
  have hby7 := hby6.keep ho7 (fun k hk h => h hk)
  have hat7 : ((al2.crash [false, true]).arm 0).At 2 := by
    have h := at2.crash [false, true]
    exact ⟨h.ok.arm _, h.no, h.ops, h.rows, by decide, h.fault⟩
  have Hsy := Lib.hid (ht7.step (S2 := FS.mk [⟨nA, [0, 2], []⟩] 2 3 (-1) (-1) true) (E := fun e => e = .returned (.int .i64 100)) fun O D k1 k2 => by
    have := fsync_calls _ O D b _ k1 (hat7.fit (by omega)) nA
    rw [al_sync] at this
    exact this)
  clear Harm hby6 ht7 ho7 hat7
  go_wp2_with fail
  refine Hsy.out.mono ?_
  rintro e w8 ⟨rfl, ht8, ho8⟩
  have hby8 := hby7.keep ho8 (fun k hk h => h hk)
  have Hrc : Hid (Calls Try.prog 18 #[fp b', .string nA] w8 fun e w' => ∃ u, e = .returned (.tuple #[u, .int .i64 0]) ∧ w'.ownsRow w8.heap.size 5 1 u 2 (Lib.byteCells [1, 2]) ∧ Below w8.heap.size w8 w') := Lib.hid (by
    obtain ⟨O, D, k1⟩ := ht8.swap.one.at_
    have := fread_calls w8 O D b' _ k1 (at2.fit (by omega)) nA
    rw [al_read] at this
    exact this)
  clear Hsy hby7 ho8
  go_wp2_with fail
  refine Hrc.out.mono ?_
  rintro e w9 ⟨u9, rfl, hown9, hb9⟩
  obtain ⟨A9, n9, rfl⟩ := own_form hown9
  have ht9 := ht8.below hb9
  have hx9 : ByR w9 (XN X6 w8 w9) A6 [0, 2] := (hby8.below hb9).mono (fun k hk => .inl hk)
  have hy9 : ByR w9 (XN X6 w8 w9) A9 [1, 2] := byR_of_own (l := [1, 2]) hown9 (fun g hg => .inr (hown9.lt g hg))
  generalize XN X6 w8 w9 = X9 at ht9 hx9 hy9
  clear hown9 hb9 ht8 Hrc hby8
  have Hfl := Lib.hid (ht9.swap.step (S2 := al2.fault_ 0) (E := fun e => e = .returned (.tuple #[])) fun O D k1 k2 =>
    ffault_calls _ O D b' _ k1 (at2.fit (by omega)) 0 (by omega) (by omega))
  clear ht9
  go_wp2_with fail
  refine Hfl.out.mono ?_
  rintro e w10 ⟨rfl, ht10, ho10⟩
  have ba := (Below.refl _ w10).alloc (Nat.le_refl _) (.cells #[.int .u8 0, .int .u8 2] 5)
  have Hb1 := Lib.hid (beq_calls A6 (some ⟨w10.heap.size, 0, none⟩) n6 2 [0, 2] [0, 2] _ ((ByR.byt (hx9.keep ho10 (fun k hk h => h hk))).below ba) (byt_lit w10 [0, 2]))
  rw [decide_eq_true rfl] at Hb1
  have ht11 := ht10.below ba
  have hy11 : ByR _ _ A9 [1, 2] := ((hy9.keep ho10 (fun k hk h => h hk)).below ba).mono (R' := XN X9 w10 (w10.alloc (.cells #[.int .u8 0, .int .u8 2] 5))) (fun k hk => .inl hk)
  generalize XN X9 w10 (w10.alloc (.cells #[.int .u8 0, .int .u8 2] 5)) = X11 at ht11 hy11
  clear ba Hfl ht10 ho10 hx9 hy9
  go_wp2_with fail
  refine Hb1.out.mono ?_
  rintro e w12 ⟨rfl, hb12⟩
  have ht12 := ht11.below hb12
  have hy12 := ByR.byt (hy11.below hb12)
  generalize XN X11 (w10.alloc (.cells #[.int .u8 0, .int .u8 2] 5)) w12 = X12 at ht12
  have Hdn : Hid (Calls Try.prog 26 #[fp b] w12 fun e w' => e = .returned (.bool true) ∧ Below w12.heap.size w12 w') := Lib.hid (by
    obtain ⟨O, D, k1⟩ := ht12.swap.one.at_
    exact fdown_calls w12 O D b _ k1 (atD.fit (by omega)))
  clear ht11 hy11 hb12 Hb1
  go_wp2_with fail
  refine Hdn.out.mono ?_
  rintro e w13 ⟨rfl, hb13⟩
  have ba := (Below.refl _ w13).alloc (Nat.le_refl _) (.cells #[.int .u8 1, .int .u8 2] 5)
  have Hb2 := Lib.hid (beq_calls A9 (some ⟨w13.heap.size, 0, none⟩) n9 2 [1, 2] [1, 2] _ ((hy12.below hb13).below ba) (byt_lit w13 [1, 2]))
  rw [decide_eq_true rfl] at Hb2
  have ht14 := (ht12.below hb13).below ba
  generalize XN (XN X12 w12 w13) w13 (w13.alloc (.cells #[.int .u8 1, .int .u8 2] 5)) = X14 at ht14
  clear ht12 hy12 hb13 ba Hdn
  go_wp2_with fail
  refine Hb2.out.mono ?_
  rintro e w15 ⟨rfl, hb15⟩
  have ht15 := ht14.below hb15
  generalize XN X14 (w13.alloc (.cells #[.int .u8 1, .int .u8 2] 5)) w15 = X15 at ht15
  have Hpn : Hid (Calls Try.prog 23 #[fp b'] w15 fun e w' => e = .returned (.int .i64 2) ∧ Below w15.heap.size w15 w') := Lib.hid (by
    obtain ⟨O, D, k1⟩ := ht15.one.at_
    exact fpending_calls w15 O D b' _ k1 (atF.fit (by omega)))
  clear ht14 hb15 Hb2
  go_wp2_with fail
  refine Hpn.out.mono ?_
  rintro e w16 ⟨rfl, hb16⟩
  have ht16 := ht15.below hb16
  generalize XN X15 w15 w16 = X16 at ht16
  have Hw3 := Lib.hid (ht16.step (S2 := holeS [[1], [2]] 3 (-1)) (E := fun e => e = .returned (.int .i64 102)) fun O D k1 k2 => by
    have := fwrite_calls _ O D b' _ k1 (atF.fit (by omega)) nA none 0 [] (fun h => absurd h (by simp)) (fun _ => rfl) (by decide)
    rw [al_fault] at this
    exact this)
  clear ht15 hb16 Hpn ht16
  go_wp2_with fail
  refine Hw3.out.mono ?_
  rintro e w17 ⟨rfl, ht17, _⟩
  have Hrn := Lib.hid (ht17.step (S2 := alB [] [⟨0, 0, [1]⟩, ⟨1, 1, [2]⟩] 4) (E := fun e => e = .returned (.int .i64 0)) fun O D k1 k2 => by
    have := frename_calls _ O D b' _ k1 (atG.fit (by omega)) nA nB
    rw [al_rename] at this
    exact this)
  clear ht17 Hw3
  go_wp2_with fail
  refine Hrn.out.mono ?_
  rintro e w18 ⟨rfl, ht18, _⟩
  have HNm : Hid (∀ W X, TwoX w0 W X b' (alB [] [⟨0, 0, [1]⟩, ⟨1, 1, [2]⟩] 4) b (FS.mk [⟨nA, [0, 2], []⟩] 2 3 (-1) (-1) true) → Calls Try.prog 28 #[fp b'] W fun e w' => ∃ u, e = .returned u ∧ w'.ownsRow W.heap.size 9 1 u 1 [.string nB] ∧ Below W.heap.size W w') := Lib.hid (fun W X h => by
    obtain ⟨O, D, k1⟩ := h.one.at_
    exact fnames_calls W O D b' _ k1 (atH.fit (by omega)))
  clear Hrn
  go_wp2_with fail
  refine (HNm.out _ _ ht18).mono ?_
  rintro e w19 ⟨u19, rfl, hown19, hb19⟩
  obtain ⟨A19, n19, rfl⟩ := own_form hown19
  have ht19 := ht18.below hb19
  generalize XN X16 w18 w19 = X19 at ht19
  clear ht18 hown19 hb19
  go_wp2_with fail
  refine (HNm.out _ _ ht19).mono ?_
  rintro e w20 ⟨u20, rfl, hown20, hb20⟩
  obtain ⟨A20, n20, rfl⟩ := own_form hown20
  have ht20 := ht19.below hb20
  generalize XN X19 w19 w20 = X20 at ht20
  obtain ⟨g, o, rfl, _, _, hcn⟩ := rowT_of_own (C := fun x : ByteArray => [.string x]) (ls := [nB]) (R := fun _ => True) hown20 (fun _ _ => trivial) (by decide)
  have c0 : w20.cell? ⟨g, o + 0, none⟩ = some (.string ⟨#[98]⟩) := hcn 0 _ rfl
  rw [Nat.add_zero] at c0
  have Hct := Lib.hid (ht20.step (S2 := alB [1] [] 5) (E := fun e => e = .returned (.int .i64 0)) fun O D k1 k2 => by
    have := fcut_calls _ O D b' _ k1 (atH.fit (by omega)) nB 1 (by omega) (by omega)
    rw [al_cut] at this
    exact this)
  clear ht19 ht20 hown20 hb20 hcn HNm
  go_wp2_with fail
  refine Hct.out.mono ?_
  rintro e w21 ⟨rfl, ht21, _⟩
  have Hrm := Lib.hid (ht21.step (S2 := FS.mk [] 2 6 (-1) (-1) false) (E := fun e => e = .returned (.int .i64 0)) fun O D k1 k2 => by
    have := fremove_calls _ O D b' _ k1 (atI.fit (by omega)) nB
    rw [al_remove] at this
    exact this)
  clear ht21 Hct c0
  go_wp2_with fail
  refine Hrm.out.mono ?_
  rintro e w22 ⟨rfl, ht22, _⟩
  have Hop : Hid (Calls Try.prog 27 #[fp b'] w22 fun e w' => e = .returned (.int .i64 6) ∧ Below w22.heap.size w22 w') := Lib.hid (by
    obtain ⟨O, D, k1⟩ := ht22.one.at_
    exact fops_calls w22 O D b' _ k1 (atJ.fit (by omega)))
  have HB := Lib.hid ht22.bel
  clear ht22 Hrm
  go_wp2_with fail
  refine Hop.out.mono ?_
  rintro e w23 ⟨rfl, hb23⟩
  have HB2 := Lib.hid (HB.out.trans (hb23.mono HB.out.size))
  clear Hop hb23
  go_wp2_with fail
  go_ret
  exact ⟨rfl, HB2.out⟩
end
section
open Go Go.RowKit
set_option maxRecDepth 100000
section
variable {w0 W W2 : World} {X Y : Nat → Prop} {b : Nat} {S S2 : FS} {v : Value} {l : List UInt8}
/-- A row that the file system neither reads nor turns. -/
structure OwnR (w0 W : World) (X Y : Nat → Prop) (v : Value) (l : List UInt8) : Prop where
  own : W.ownsRow w0.heap.size 5 1 v l.length (Lib.byteCells l)
  xy : ∀ g, v.ownBlock = some g → X g ∧ Y g
theorem OwnR.nil (w0 W : World) (X Y : Nat → Prop) : OwnR w0 W X Y (.slice none 0 0) [] := ⟨World.ownsRow_nil _ _ _ _, fun g hg => by cases hg⟩
theorem OwnR.below (h : OwnR w0 W X Y v l) (hb : Below W.heap.size W W2) : OwnR w0 W2 (XN X W W2) (XN Y W W2) v l := ⟨own_below h.own hb, fun g hg => ⟨.inl (h.xy g hg).1, .inl (h.xy g hg).2⟩⟩
theorem OwnR.keep {R : Nat → Prop} (h : OwnR w0 W X Y v l) (ho : Only R W W2) (hR : ∀ k, R k → ¬ X k) : OwnR w0 W2 X Y v l := ⟨own_onlyE h.own ho fun g hg hr => hR g hr (h.xy g hg).1, h.xy⟩
theorem OwnR.byt {A : Option Addr} {n c : Nat} (h : OwnR w0 W X Y (.slice A n c) l) : Byt W A l := (byt_of_own h.own).1
theorem OwnR.none_ {A : Option Addr} {n c : Nat} (h : OwnR w0 W X Y (.slice A n c) l) : A = none → c = 0 := fun e => by
  rcases h.own.2 with ⟨hv, _⟩ | ⟨g, cap, cur, hv, _⟩
  · injection hv
  · rw [e] at hv; cases hv
theorem OwnR.lt (h : OwnR w0 W X Y v l) : ∀ g, v.ownBlock = some g → w0.heap.size ≤ g ∧ g < W.heap.size := h.own.lt
theorem OwnR.mono {X2 Y2 : Nat → Prop} (h : OwnR w0 W X Y v l) (hX : ∀ k, X k → X2 k) (hY : ∀ k, Y k → Y2 k) : OwnR w0 W X2 Y2 v l := ⟨h.own, fun g hg => ⟨hX g (h.xy g hg).1, hY g (h.xy g hg).2⟩⟩
end
end
end Go.Proofs.Ytaeiffpdnlejbaa
