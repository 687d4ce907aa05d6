/-
  Layer 7 and what it stands on, part 27 (FileC0 FTwo0 JFx).
-/
import Derived.Test.YteafcaambnfdoaaGreatDoorPi24
import Derived.Test.YteafcaambnfdoaaGreatDoorPi26
namespace Go.Proofs.YteafcaambnfdoaaGreatDoor
section
open Go Go.RowKit
set_option maxRecDepth 100000
theorem lab_out {lab : Lab} {O : Nat → Prop} (h : ∀ k r, lab k = some r → O k) {k : Nat} (hk : ¬ O k) : lab k = none := by
 cases hl : lab k with
 | none => rfl
 | some r => exact absurd (h k r hl) hk
theorem fnew_calls (w : World) : Calls Tryz.prog 13 #[] w fun e w' => ∃ b, e = .returned (fp b) ∧ FileIn w w' b FS.new := by
 refine (fnew_at w).mono ?_
 rintro e w' ⟨b, rfl, ⟨lab, h1, h2⟩, h3⟩
 have hlt : ∀ k r, lab k = some r → k < w'.heap.size := by obtain ⟨m, A, c, ws, qs, am, fl, h4, _⟩ := h1; exact h4.fm.lt
 exact ⟨b, rfl, fun k => ∃ r, lab k = some r, fun k => ∃ r, lab k = some r, ⟨lab, h1, fun k r hk => ⟨r, hk⟩, fun _ h => h, fun k ⟨r, hk⟩ => hlt k r hk⟩, fun k ⟨r, hk⟩ => h2 k r hk, h3⟩
section
variable (w : World) (O D : Nat → Prop) (b : Nat) (S : FS) (h : FileAt w O D b S) (hS : S.Fit)
include h hS
theorem fwrite_calls (n : ByteArray) (A : Option Addr) (c : Nat) (x : List UInt8) (hx : ByR w (fun k => ¬ O k) A x) (hn : A = none → c = 0) (hl : x.length ≤ 1000000) :
  Calls Tryz.prog 37 #[fp b, .string n, .slice A x.length c] w fun e w' => e = .returned (.int .i64 (S.write n x).2) ∧ FileTo w O D w' b (S.write n x).1 := by
 obtain ⟨lab, h1, h2, h3, h4⟩ := h
 refine (fwrite_at w lab b S h1 hS n A c x (ByR.byt hx) (fun hp a ha => by
   obtain ⟨g, o, e, hg, _⟩ := hx hp
   rw [e] at ha
   injection ha with ha
   rw [← ha]
   exact lab_out h2 hg) hn hl).mono ?_
 rintro e w' ⟨rfl, lab', k1, k2⟩
 exact ⟨rfl, k1.to_ h2 h3 h4 k2⟩
theorem fsync_calls (n : ByteArray) : Calls Tryz.prog 56 #[fp b, .string n] w fun e w' => e = .returned (.int .i64 (S.sync n).2) ∧ FileTo w O D w' b (S.sync n).1 := by
 obtain ⟨lab, h1, h2, h3, h4⟩ := h
 refine (fsync_at w lab b S h1 hS n).mono ?_
 rintro e w' ⟨rfl, lab', k1, k2⟩
 exact ⟨rfl, k1.to_ h2 h3 h4 k2⟩
theorem frename_calls (n t : ByteArray) : Calls Tryz.prog 66 #[fp b, .string n, .string t] w fun e w' => e = .returned (.int .i64 (S.rename n t).2) ∧ FileTo w O D w' b (S.rename n t).1 := by
 obtain ⟨lab, h1, h2, h3, h4⟩ := h
 refine (frename_at w lab b S h1 hS n t).mono ?_
 rintro e w' ⟨rfl, lab', k1, k2⟩
 exact ⟨rfl, k1.to_ h2 h3 h4 k2⟩
theorem fremove_calls (n : ByteArray) : Calls Tryz.prog 86 #[fp b, .string n] w fun e w' => e = .returned (.int .i64 (S.remove n).2) ∧ FileTo w O D w' b (S.remove n).1 := by
 obtain ⟨lab, h1, h2, h3, h4⟩ := h
 refine (fremove_at w lab b S h1 hS n).mono ?_
 rintro e w' ⟨rfl, lab', k1, k2⟩
 exact ⟨rfl, k1.to_ h2 h3 h4 k2⟩
theorem fcut_calls (n : ByteArray) (k : Int) (h1 : -9223372036854775808 ≤ k) (h2 : k ≤ 9223372036854775807) : Calls Tryz.prog 52 #[fp b, .string n, .int .i64 k] w fun e w' => e = .returned (.int .i64 (S.cut n k).2) ∧ FileTo w O D w' b (S.cut n k).1 := by
 have k1 := h1
 have k2 := h2
 obtain ⟨lab, h1, h2, h3, h4⟩ := h
 refine (fcut_at w lab b S h1 hS n k k1 k2).mono ?_
 rintro e w' ⟨rfl, lab', m1, m2⟩
 exact ⟨rfl, m1.to_ h2 h3 h4 m2⟩
theorem fcrash_calls (A : Option Addr) (c : Nat) (ks : List Bool) (hK : RowT boolC w (fun k => ¬ O k) A ks) (hl : ks.length ≤ 100000) :
  Calls Tryz.prog 24 #[fp b, .slice A ks.length c] w fun e w' => e = .returned (.tuple #[]) ∧ FileTo w O D w' b (S.crash ks) := by
 obtain ⟨lab, h1, h2, h3, h4⟩ := h
 refine (fcrash_at w lab b S h1 hS A c ks (hK.mono fun i hi => lab_out h2 hi) hl).mono ?_
 rintro e w' ⟨rfl, lab', k1, k2⟩
 exact ⟨rfl, k1.to_ h2 h3 h4 k2⟩
theorem fread_calls (n : ByteArray) : Calls Tryz.prog 38 #[fp b, .string n] w fun e w' => ∃ u, e = .returned (.tuple #[u, .int .i64 (S.read n).2]) ∧ w'.ownsRow w.heap.size 5 1 u (S.read n).1.length (Lib.byteCells (S.read n).1) ∧ Below w.heap.size w w' := by
 obtain ⟨lab, h1, h2, h3, h4⟩ := h
 exact fread_at w lab b S h1 hS n
theorem fdown_calls : Calls Tryz.prog 21 #[fp b] w fun e w' => e = .returned (.bool S.down) ∧ Below w.heap.size w w' := by
 have _ := hS
 obtain ⟨lab, h1, h2, h3, h4⟩ := h
 exact fdown_at w lab b S h1
end
end
section
open Go Go.RowKit
def FX (w0 W : World) (X Y : Nat → Prop) (b : Nat) (S : FS) : Prop := ∃ O D, FileAt W O D b S ∧ (∀ k, X k → k < W.heap.size ∧ ¬ O k) ∧ (∀ k, Y k → k < W.heap.size ∧ ¬ D k) ∧ (∀ k, O k → w0.heap.size ≤ k) ∧ Below w0.heap.size w0 W
def TwoX (w0 W : World) (X : Nat → Prop) (b : Nat) (S : FS) (b' : Nat) (S' : FS) : Prop := ∃ O D O' D', FileAt W O D b S ∧ FileAt W O' D' b' S' ∧ (∀ k, O k → ¬ D' k) ∧ (∀ k, O' k → ¬ D k) ∧ (∀ k, X k → k < W.heap.size ∧ ¬ O k ∧ ¬ O' k) ∧ (∀ k, O k → w0.heap.size ≤ k) ∧ (∀ k, O' k → w0.heap.size ≤ k) ∧ Below w0.heap.size w0 W
def XN (X : Nat → Prop) (W W2 : World) (k : Nat) : Prop := X k ∨ (W.heap.size ≤ k ∧ k < W2.heap.size)
section
variable {w0 W W2 : World} {X Y : Nat → Prop} {b b' : Nat} {S S' S2 : FS}
theorem FX.bel (h : FX w0 W X Y b S) : Below w0.heap.size w0 W := by
 obtain ⟨_, _, _, _, _, _, h⟩ := h
 exact h
theorem FX.below (h : FX w0 W X Y b S) (hb : Below W.heap.size W W2) : FX w0 W2 (XN X W W2) (XN Y W W2) b S := by
 obtain ⟨O, D, h1, h2, hY, h3, h4⟩ := h
 refine ⟨O, D, objFile.below h1 hb, fun k hk => ?_, fun k hk => ?_, h3, h4.trans (hb.mono h4.size)⟩
 ·rcases hk with hk | ⟨h5, h6⟩
  ·exact ⟨Nat.lt_of_lt_of_le (h2 k hk).1 hb.size, (h2 k hk).2⟩
  ·refine ⟨h6, fun hO => ?_⟩
   have := objFile.lt h1 k (objFile.sub h1 k hO)
   omega
 ·rcases hk with hk | ⟨h5, h6⟩
  ·exact ⟨Nat.lt_of_lt_of_le (hY k hk).1 hb.size, (hY k hk).2⟩
  ·refine ⟨h6, fun hD => ?_⟩
   have := objFile.lt h1 k hD
   omega
theorem FX.mono {X2 Y2 : Nat → Prop} (h : FX w0 W X Y b S) (hX : ∀ k, X2 k → X k) (hY2 : ∀ k, Y2 k → Y k) : FX w0 W X2 Y2 b S := by
 obtain ⟨O, D, h1, h2, hY, h3, h4⟩ := h
 exact ⟨O, D, h1, fun k hk => h2 k (hX k hk), fun k hk => hY k (hY2 k hk), h3, h4⟩
theorem FX.of_in (h : FileIn w0 W b S) : FX w0 W (fun k => k < w0.heap.size) (fun _ => False) b S := by
 obtain ⟨O, D, h1, h2, h3⟩ := h
 exact ⟨O, D, h1, fun k hk => ⟨Nat.lt_of_lt_of_le hk h3.size, fun hO => by have := h2 k hO; omega⟩, fun _ h => h.elim, h2, h3⟩
theorem FX.wrote {R : Nat → Prop} (h : FX w0 W X Y b S) (ho : Only R W W2) (hR : ∀ k, R k → Y k) (hw : ∀ k, R k → w0.heap.size ≤ k) : FX w0 W2 X Y b S := by
 obtain ⟨O, D, h1, h2, hY, h3, h4⟩ := h
 exact ⟨O, D, objFile.keep h1 ho (fun k hk hr => (hY k (hR k hr)).2 hk), fun k hk => ⟨Nat.lt_of_lt_of_le (h2 k hk).1 ho.size, (h2 k hk).2⟩, fun k hk => ⟨Nat.lt_of_lt_of_le (hY k hk).1 ho.size, (hY k hk).2⟩, h3, h4.trans (ho.below h4.size hw)⟩
theorem FX.stepE {P : Program} {f : Nat} {args : Array Value} {E : Ending → Nat → Prop} (h : FX w0 W X Y b S) (hc : ∀ O D, FileAt W O D b S → (∀ k, X k → k < W.heap.size ∧ ¬ O k) → (∀ k, O k → w0.heap.size ≤ k) → Calls P f args W fun e W2 => ∃ b2, E e b2 ∧ FileTo W O D W2 b2 S2) :
  Calls P f args W fun e W2 => ∃ b2, E e b2 ∧ FX w0 W2 X Y b2 S2 ∧ Only (fun k => ¬ X k) W W2 := by
 obtain ⟨O, D, h1, h2, hY, h3, h4⟩ := h
 refine (hc O D h1 h2 h3).mono ?_
 rintro e W2 ⟨b2, he, O2, D2, k1, k2, k3, k4⟩
 refine ⟨b2, he, ⟨O2, D2, k1, fun k hk => ⟨Nat.lt_of_lt_of_le (h2 k hk).1 k2.size, fun hO => ?_⟩, fun k hk => ⟨Nat.lt_of_lt_of_le (hY k hk).1 k2.size, fun hD => ?_⟩, fun k hk => ?_, h4.trans (k2.below h4.size h3)⟩, k2.mono (fun k hk => .inl (fun hX => (h2 k hX).2 hk))⟩
 ·rcases k3 k hO with h | h
  ·exact (h2 k hk).2 h
  ·have := (h2 k hk).1; omega
 ·rcases k4 k hD with h | h
  ·exact (hY k hk).2 h
  ·have := (hY k hk).1; omega
 ·rcases k3 k hk with h | h
  ·exact h3 k h
  ·exact Nat.le_trans h4.size h
theorem FX.step {P : Program} {f : Nat} {args : Array Value} {E : Ending → Prop} (h : FX w0 W X Y b S) (hc : ∀ O D, FileAt W O D b S → (∀ k, X k → k < W.heap.size ∧ ¬ O k) → Calls P f args W fun e W2 => E e ∧ FileTo W O D W2 b S2) :
  Calls P f args W fun e W2 => E e ∧ FX w0 W2 X Y b S2 ∧ Only (fun k => ¬ X k) W W2 := by
 refine (h.stepE (E := fun e b2 => E e ∧ b2 = b) (fun O D h1 h2 _ => (hc O D h1 h2).mono (by rintro e W2 ⟨h3, h4⟩; exact ⟨b, ⟨h3, rfl⟩, h4⟩))).mono ?_
 rintro e W2 ⟨_, ⟨h1, rfl⟩, h2⟩
 exact ⟨h1, h2⟩
theorem FX.at_ (h : FX w0 W X Y b S) : ∃ O D, FileAt W O D b S := by
 obtain ⟨O, D, h, _⟩ := h
 exact ⟨O, D, h⟩
end
theorem XN.new {X : Nat → Prop} {W W2 : World} (h : W.heap.size < W2.heap.size) : XN X W W2 W.heap.size := .inr ⟨Nat.le_refl _, h⟩
end
section
open Go Go.RowKit
theorem BxA.three {w : World} {g : Nat} {t : TypeId} {v0 v1 v2 : Value} (h : BxA w g t [v0, v1, v2]) : w.cell? ⟨g, 0, none⟩ = some v0 ∧ w.cell? ⟨g, 1, none⟩ = some v1 ∧ w.cell? ⟨g, 2, none⟩ = some v2 := ⟨h.c 0 rfl, h.c 1 rfl, h.c 2 rfl⟩
abbrev jnC (b : Nat) (n : ByteArray) : List Value := [fp b, .string n]
structure JX (w0 W : World) (X Y : Nat → Prop) (b : Nat) (S : FS) (jb : Nat) (n : ByteArray) : Prop where
 fx : FX w0 W X Y b S
 box : BxA W jb 90 (jnC b n)
 xs : X jb
structure JG (w0 W : World) (X Y : Nat → Prop) (b jb : Nat) (n : ByteArray) (V : World) (X2 Y2 : Nat → Prop) (S : FS) : Prop where
 jx : JX w0 V X2 Y2 b S jb n
 hx : ∀ k, X k → X2 k
 hy : ∀ k, Y k → Y2 k
 only : Only (fun k => ¬ X k) W V
section
variable {w0 W V V2 : World} {X Y X2 Y2 : Nat → Prop} {b jb : Nat} {S S2 : FS} {n : ByteArray}
theorem JX.below (h : JX w0 W X Y b S jb n) (hb : Below W.heap.size W V) : JX w0 V (XN X W V) (XN Y W V) b S jb n := ⟨h.fx.below hb, h.box.below hb, .inl h.xs⟩
theorem JX.mono (h : JX w0 W X2 Y2 b S jb n) (hX : ∀ k, X k → X2 k) (hY : ∀ k, Y k → Y2 k) (hj : X jb) : JX w0 W X Y b S jb n := ⟨h.fx.mono hX hY, h.box, hj⟩
theorem JX.cells (h : JX w0 W X Y b S jb n) : W.cell? ⟨jb, 0, none⟩ = some (fp b) ∧ W.cell? ⟨jb, 1, none⟩ = some (.string n) := ⟨h.box.c 0 rfl, h.box.c 1 rfl⟩
theorem JG.start (h : JX w0 W X Y b S jb n) : JG w0 W X Y b jb n W X Y S := ⟨h, fun _ h => h, fun _ h => h, Only.refl _ _⟩
theorem JG.below (h : JG w0 W X Y b jb n V X2 Y2 S) (hb : Below V.heap.size V V2) : JG w0 W X Y b jb n V2 (XN X2 V V2) (XN Y2 V V2) S :=
 ⟨h.jx.below hb, fun k hk => .inl (h.hx k hk), fun k hk => .inl (h.hy k hk), h.only.trans (R' := fun _ => False) (Only.of_below hb) (fun _ h => h.elim)⟩
theorem JG.step (h : JG w0 W X Y b jb n V X2 Y2 S) (hf : FX w0 V2 X2 Y2 b S2) (ho : Only (fun k => ¬ X2 k) V V2) : JG w0 W X Y b jb n V2 X2 Y2 S2 :=
 ⟨⟨hf, h.jx.box.keep ho (fun hn => hn h.jx.xs), h.jx.xs⟩, h.hx, h.hy, h.only.trans ho (fun k hk => .inl (fun hX => hk (h.hx k hX)))⟩
theorem JG.jump (h : JG w0 W X Y b jb n V X2 Y2 S) (hj : JX w0 V2 X2 Y2 b S2 jb n) (ho : Only (fun k => ¬ X2 k) V V2) : JG w0 W X Y b jb n V2 X2 Y2 S2 := h.step hj.fx ho
theorem JG.fin (h : JG w0 W X Y b jb n V X2 Y2 S) (hj : X jb) : JX w0 V X Y b S jb n ∧ Only (fun k => ¬ X k) W V := ⟨h.jx.mono h.hx h.hy hj, h.only⟩
theorem JG.cells (h : JG w0 W X Y b jb n V X2 Y2 S) : V.cell? ⟨jb, 0, none⟩ = some (fp b) ∧ V.cell? ⟨jb, 1, none⟩ = some (.string n) := h.jx.cells
theorem JG.bel (h : JG w0 W X Y b jb n V X2 Y2 S) : Below w0.heap.size w0 V := h.jx.fx.bel
end
end
end Go.Proofs.YteafcaambnfdoaaGreatDoor
