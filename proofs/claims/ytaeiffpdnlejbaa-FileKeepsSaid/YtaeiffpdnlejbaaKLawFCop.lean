/-
  The two copies of FileKeeps, and their crashes (layer 10).
-/
import Derived.Test.YtaeiffpdnlejbaaPc11
import Derived.Test.YtaeiffpdnlejbaaKLawFAllA
namespace Go.Proofs.Ytaeiffpdnlejbaa
open Go Go.RowKit
set_option maxRecDepth 100000

theorem up_new : FS.new.Up := ⟨rfl, rfl⟩
/-- Three file systems, of which the second kept all in a crash, and the third none; and the document's state. -/
structure Three (w1 W : World) (sb b ba bb : Nat) (S : FS) (A : Option Addr) (n c : Nat) : Prop where
  f : ∃ O D, FileAt W O D b S
  a : ∃ O D, FileAt W O D ba (S.crash [true])
  b : ∃ O D, FileAt W O D bb (S.crash [])
  box : BxA W sb 29 (stC A n c S)
  st : ∃ D, StAt W D (stV A n c S) S
  bel : Below w1.heap.size w1 W
theorem Three.below {w1 W W2 : World} {sb b ba bb : Nat} {S : FS} {A : Option Addr} {n c : Nat} (h : Three w1 W sb b ba bb S A n c) (hb : Below W.heap.size W W2) : Three w1 W2 sb b ba bb S A n c := by
  obtain ⟨⟨O1, D1, h1⟩, ⟨O2, D2, h2⟩, ⟨O3, D3, h3⟩, h4, ⟨D, h5⟩, h6⟩ := h
  exact ⟨⟨O1, D1, objFile.below h1 hb⟩, ⟨O2, D2, objFile.below h2 hb⟩, ⟨O3, D3, objFile.below h3 hb⟩, h4.below hb, ⟨D, h5.below hb⟩, h6.trans (hb.mono h6.size)⟩
/-- f's two copies, ahead of their crashes. -/
structure Cop2 (w1 W : World) (sb b ba bb : Nat) (S : FS) (A : Option Addr) (n c : Nat) : Prop where
  ex : ∃ (s1 s2 : Nat) (O D Oa Da Ob Db : Nat → Prop), FileAt W O D b S ∧ FileAt W Oa Da ba S ∧ FileAt W Ob Db bb S ∧ (∀ k, D k → k < s1) ∧ (∀ k, Oa k → s1 ≤ k) ∧ (∀ k, Da k → k < s2) ∧ (∀ k, Ob k → s2 ≤ k) ∧ (∀ k, Db k → k < s1 ∨ s2 ≤ k) ∧ s1 ≤ s2 ∧ w1.heap.size ≤ s1 ∧ (∃ Ds, StAt W Ds (stV A n c S) S ∧ (∀ k, Ds k → k < s1)) ∧ sb < s1
  box : BxA W sb 29 (stC A n c S)
  bel : Below w1.heap.size w1 W
theorem Cop2.below {w1 W W2 : World} {sb b ba bb : Nat} {S : FS} {A : Option Addr} {n c : Nat} (h : Cop2 w1 W sb b ba bb S A n c) (hb : Below W.heap.size W W2) : Cop2 w1 W2 sb b ba bb S A n c := by
  obtain ⟨⟨s1, s2, O, D, Oa, Da, Ob, Db, h1, h2, h3, h4, h5, h6, h7, h8, h9, h10, ⟨Ds, h11, h12⟩, h13⟩, h14, h15⟩ := h
  exact ⟨⟨s1, s2, O, D, Oa, Da, Ob, Db, objFile.below h1 hb, objFile.below h2 hb, objFile.below h3 hb, h4, h5, h6, h7, h8, h9, h10, ⟨Ds, h11.below hb, h12⟩, h13⟩, h14.below hb, h15.trans (hb.mono h15.size)⟩
/-- The crashes, one behind the other. -/
theorem Cop2.crashA {w1 W : World} {sb b ba bb : Nat} {S : FS} {A : Option Addr} {n c : Nat} (h : Cop2 w1 W sb b ba bb S A n c) (hS : S.Fit) :
    Calls Try.prog 19 #[fp ba, .slice (some ⟨W.heap.size, 0, none⟩) 1 1] (W.alloc (.cells #[.bool true] 4)) fun e W3 => e = .returned (.tuple #[]) ∧
      (Calls Try.prog 19 #[fp bb, .slice none 0 0] W3 fun e W4 => e = .returned (.tuple #[]) ∧ Three w1 W4 sb b ba bb S A n c) := by
  have hb0 : Below W.heap.size W (W.alloc (.cells #[.bool true] 4)) := (Below.refl _ W).alloc (Nat.le_refl _) _
  have hlt : ∀ {O D : Nat → Prop} {b : Nat} {S : FS}, FileAt W O D b S → ∀ k, D k → k < W.heap.size := fun h k hk => objFile.lt h k hk
  obtain ⟨⟨s1, s2, O, D, Oa, Da, Ob, Db, h1, h2, h3, h4, h5, h6, h7, h8, h9, h10, ⟨Ds, h11, h12⟩, h13⟩, h14, h15⟩ := h
  have hA := objFile.below h2 hb0
  refine (fcrash_calls _ Oa Da ba S hA hS (some ⟨W.heap.size, 0, none⟩) 1 [true] ((row_true W (D := fun k => k = W.heap.size) rfl).mono fun k (e : k = W.heap.size) hO => by
    have := hlt h2 k (objFile.sub h2 k hO); omega) (by decide)).mono ?_
  rintro e W3 ⟨rfl, Oa', Da', q1, q2, q3, q4⟩
  refine ⟨rfl, ?_⟩
  have hsz : (W.alloc (.cells #[.bool true] 4)).heap.size = W.heap.size + 1 := World.size_alloc W _
  have hOa : ∀ k, Oa k → k < s2 := fun k hk => h6 k (objFile.sub h2 k hk)
  have hF := objFile.keep (objFile.below h1 hb0) q2 (fun k hk hO => by have := h4 k hk; have := h5 k hO; omega)
  have hB := objFile.keep (objFile.below h3 hb0) q2 (fun k hk hO => by have h20 := h5 k hO; have h21 := hOa k hO; rcases h8 k hk with h | h <;> omega)
  have hSt := (h11.below hb0).keep q2 (fun k hk hO => by have := h12 k hk; have := h5 k hO; omega)
  have hBx := (h14.below hb0).keep q2 (fun hO => by have := h5 sb hO; omega)
  have hbel := (h15.trans (hb0.mono h15.size)).trans (q2.below (Nat.le_trans h15.size hb0.size) (fun k hk => by have := h5 k hk; omega))
  have hObl : ∀ k, Ob k → k < W.heap.size := fun k hk => hlt h3 k (objFile.sub h3 k hk)
  refine (fcrash_calls W3 Ob Db bb S hB hS none 0 [] (fun h => absurd h (by simp)) (by decide)).mono ?_
  rintro e W4 ⟨rfl, Ob', Db', r1, r2, r3, r4⟩
  refine ⟨rfl, ⟨_, _, objFile.keep hF r2 (fun k hk hO => by have := h4 k hk; have := h7 k hO; omega)⟩, ⟨_, _, objFile.keep q1 r2 (fun k hk hO => ?_)⟩, ⟨_, _, r1⟩, hBx.keep r2 (fun hO => by have := h7 sb hO; omega), ⟨_, hSt.keep r2 (fun k hk hO => by have := h12 k hk; have := h7 k hO; omega)⟩, hbel.trans (r2.below hbel.size (fun k hk => by have := h7 k hk; omega))⟩
  have h22 := h7 k hO
  have h23 := hObl k hO
  rcases q4 k hk with h | h
  · have := h6 k h; omega
  · omega
/-- The two copies. -/
theorem cop2_calls {w1 W : World} {sb b m n c : Nat} {S : FS} {X Y : Nat → Prop} {A : Option Addr} (h : AllAt w1 W sb b S m X Y A n c) (hS : S.Fit) :
    Calls Try.prog 21 #[fp b] W fun e W1 => ∃ ba, e = .returned (fp ba) ∧ (Calls Try.prog 21 #[fp b] W1 fun e W2 => ∃ bb, e = .returned (fp bb) ∧ Cop2 w1 W2 sb b ba bb S A n c) := by
  obtain ⟨O, D, h1, hX, _, h2, h3⟩ := h.fx
  have hlt := objFile.lt h1
  refine (fcopy_calls W O D b S h1 hS).mono ?_
  rintro e W1 ⟨ba, rfl, Oa, Da, k1, k2, k3, k4⟩
  refine ⟨ba, rfl, ?_⟩
  have hlt2 := objFile.lt k1
  refine (fcopy_calls W1 O D b S (objFile.below h1 k4) hS).mono ?_
  rintro e W2 ⟨bb, rfl, Ob, Db, l1, l2, l3, l4⟩
  refine ⟨bb, rfl, ⟨W.heap.size, W1.heap.size, O, D, Oa, Da, Ob, Db, objFile.below (objFile.below h1 k4) l4, objFile.below k1 l4, l1, hlt, k2, hlt2, l2, fun k hk => (l3 k hk).imp (fun h => hlt k h.1) id, k4.size, h3.size, ⟨_, ((h.st.cap).below k4).below l4, fun k hk => hk.2⟩, h.box.lt⟩, (h.box.below k4).below l4, (h3.trans (k4.mono h3.size)).trans (l4.mono (Nat.le_trans h3.size k4.size))⟩
theorem st_of {w : World} {D : Nat → Prop} {A : Option Addr} {n c : Nat} {S : FS} (h : StAt w D (stV A n c S) S) : ∃ vs : List FileV, n = vs.length ∧ RowT fileC w D A vs ∧ All2 (FileR w D) vs S.l := by
  obtain ⟨A', c', vs, he, hr, ha⟩ := h
  unfold stV at he
  simp only [Value.agg.injEq, Array.mk.injEq, List.cons.injEq, Value.slice.injEq, and_true] at he
  obtain ⟨rfl, rfl, _⟩ := he
  exact ⟨vs, rfl, hr, ha⟩
end Go.Proofs.Ytaeiffpdnlejbaa
