/-
  Layer 7 and what it stands on, part 24 (FileC).
-/
import Derived.Test.YtaeiffpdnlejbaaPd11
import Derived.Test.YtaeiffpdnlejbaaPd15
import Derived.Test.YtaeiffpdnlejbaaPd17
import Derived.Test.YtaeiffpdnlejbaaPd20
import Derived.Test.YtaeiffpdnlejbaaPd21
import Derived.Test.YtaeiffpdnlejbaaPd23
namespace Go.Proofs.Ytaeiffpdnlejbaa
section
open Go Go.RowKit
set_option maxRecDepth 100000
theorem lab_out {lab : Lab} {O : Nat → Prop} (h : ∀ k r, lab k = some r → O k) {k : Nat} (hk : ¬ O k) : lab k = none := by
  cases hl : lab k with
  | none => rfl
  | some r => exact absurd (h k r hl) hk
theorem fnew_calls (w : World) : Calls Try.prog 12 #[] w fun e w' => ∃ b, e = .returned (fp b) ∧ FileIn w w' b FS.new := by
  refine (fnew_at w).mono ?_
  rintro e w' ⟨b, rfl, ⟨lab, h1, h2⟩, h3⟩
  have hlt : ∀ k r, lab k = some r → k < w'.heap.size := by obtain ⟨m, A, c, ws, qs, am, fl, h4, _⟩ := h1; exact h4.fm.lt
  exact ⟨b, rfl, fun k => ∃ r, lab k = some r, fun k => ∃ r, lab k = some r, ⟨lab, h1, fun k r hk => ⟨r, hk⟩, fun _ h => h, fun k ⟨r, hk⟩ => hlt k r hk⟩, fun k ⟨r, hk⟩ => h2 k r hk, h3⟩
section
variable (w : World) (O D : Nat → Prop) (b : Nat) (S : FS) (h : FileAt w O D b S) (hS : S.Fit)
include h hS
theorem fwrite_calls (n : ByteArray) (A : Option Addr) (c : Nat) (x : List UInt8) (hx : ByR w (fun k => ¬ O k) A x) (hn : A = none → c = 0) (hl : x.length ≤ 1000000) :
    Calls Try.prog 24 #[fp b, .string n, .slice A x.length c] w fun e w' => e = .returned (.int .i64 (S.write n x).2) ∧ FileTo w O D w' b (S.write n x).1 := by
  obtain ⟨lab, h1, h2, h3, h4⟩ := h
  refine (fwrite_at w lab b S h1 hS n A c x (ByR.byt hx) (fun hp a ha => by
      obtain ⟨g, o, e, hg, _⟩ := hx hp
      rw [e] at ha
      injection ha with ha
      rw [← ha]
      exact lab_out h2 hg) hn hl).mono ?_
  rintro e w' ⟨rfl, lab', k1, k2⟩
  exact ⟨rfl, k1.to_ h2 h3 h4 k2⟩
theorem fsync_calls (n : ByteArray) : Calls Try.prog 30 #[fp b, .string n] w fun e w' => e = .returned (.int .i64 (S.sync n).2) ∧ FileTo w O D w' b (S.sync n).1 := by
  obtain ⟨lab, h1, h2, h3, h4⟩ := h
  refine (fsync_at w lab b S h1 hS n).mono ?_
  rintro e w' ⟨rfl, lab', k1, k2⟩
  exact ⟨rfl, k1.to_ h2 h3 h4 k2⟩
theorem frename_calls (n t : ByteArray) : Calls Try.prog 31 #[fp b, .string n, .string t] w fun e w' => e = .returned (.int .i64 (S.rename n t).2) ∧ FileTo w O D w' b (S.rename n t).1 := by
  obtain ⟨lab, h1, h2, h3, h4⟩ := h
  refine (frename_at w lab b S h1 hS n t).mono ?_
  rintro e w' ⟨rfl, lab', k1, k2⟩
  exact ⟨rfl, k1.to_ h2 h3 h4 k2⟩
theorem fremove_calls (n : ByteArray) : Calls Try.prog 33 #[fp b, .string n] w fun e w' => e = .returned (.int .i64 (S.remove n).2) ∧ FileTo w O D w' b (S.remove n).1 := by
  obtain ⟨lab, h1, h2, h3, h4⟩ := h
  refine (fremove_at w lab b S h1 hS n).mono ?_
  rintro e w' ⟨rfl, lab', k1, k2⟩
  exact ⟨rfl, k1.to_ h2 h3 h4 k2⟩
theorem fcut_calls (n : ByteArray) (k : Int) (h1 : -9223372036854775808 ≤ k) (h2 : k ≤ 9223372036854775807) : Calls Try.prog 32 #[fp b, .string n, .int .i64 k] w fun e w' => e = .returned (.int .i64 (S.cut n k).2) ∧ FileTo w O D w' b (S.cut n k).1 := by
  have k1 := h1
  have k2 := h2
  obtain ⟨lab, h1, h2, h3, h4⟩ := h
  refine (fcut_at w lab b S h1 hS n k k1 k2).mono ?_
  rintro e w' ⟨rfl, lab', m1, m2⟩
  exact ⟨rfl, m1.to_ h2 h3 h4 m2⟩
theorem farm_calls (k : Int) (h1 : -9223372036854775808 ≤ k) (h2 : k ≤ 9223372036854775807) : Calls Try.prog 25 #[fp b, .int .i64 k] w fun e w' => e = .returned (.tuple #[]) ∧ FileTo w O D w' b (S.arm k) := by
  have _ := hS
  have k1 := h1
  have k2 := h2
  obtain ⟨lab, h1, h2, h3, h4⟩ := h
  refine (farm_at w lab b S h1 k k1 k2).mono ?_
  rintro e w' ⟨rfl, lab', m1, m2⟩
  exact ⟨rfl, m1.to_ h2 h3 h4 m2⟩
theorem ffault_calls (k : Int) (h1 : -9223372036854775808 ≤ k) (h2 : k ≤ 9223372036854775807) : Calls Try.prog 29 #[fp b, .int .i64 k] w fun e w' => e = .returned (.tuple #[]) ∧ FileTo w O D w' b (S.fault_ k) := by
  have _ := hS
  have k1 := h1
  have k2 := h2
  obtain ⟨lab, h1, h2, h3, h4⟩ := h
  refine (ffault_at w lab b S h1 k k1 k2).mono ?_
  rintro e w' ⟨rfl, lab', m1, m2⟩
  exact ⟨rfl, m1.to_ h2 h3 h4 m2⟩
theorem fcrash_calls (A : Option Addr) (c : Nat) (ks : List Bool) (hK : RowT boolC w (fun k => ¬ O k) A ks) (hl : ks.length ≤ 100000) :
    Calls Try.prog 19 #[fp b, .slice A ks.length c] w fun e w' => e = .returned (.tuple #[]) ∧ FileTo w O D w' b (S.crash ks) := by
  obtain ⟨lab, h1, h2, h3, h4⟩ := h
  refine (fcrash_at w lab b S h1 hS A c ks (hK.mono fun i hi => lab_out h2 hi) hl).mono ?_
  rintro e w' ⟨rfl, lab', k1, k2⟩
  exact ⟨rfl, k1.to_ h2 h3 h4 k2⟩
theorem fcopy_calls : Calls Try.prog 21 #[fp b] w fun e w' => ∃ b', e = .returned (fp b') ∧ FileCop w O D w' b' S := by
  obtain ⟨lab, h1, h2, h3, h4⟩ := h
  refine (fcopy_at w lab b S h1 hS).mono ?_
  rintro e w' ⟨b', rfl, ⟨lab', k1, k2⟩, k3⟩
  exact ⟨b', rfl, k1.copy k2 k3⟩
theorem fread_calls (n : ByteArray) : Calls Try.prog 18 #[fp b, .string n] w fun e w' => ∃ u, e = .returned (.tuple #[u, .int .i64 (S.read n).2]) ∧ w'.ownsRow w.heap.size 5 1 u (S.read n).1.length (Lib.byteCells (S.read n).1) ∧ Below w.heap.size w w' := by
  obtain ⟨lab, h1, h2, h3, h4⟩ := h
  exact fread_at w lab b S h1 hS n
theorem fnames_calls : Calls Try.prog 28 #[fp b] w fun e w' => ∃ u, e = .returned u ∧ w'.ownsRow w.heap.size 9 1 u S.l.length (S.l.map fun f => .string f.name) ∧ Below w.heap.size w w' := by
  obtain ⟨lab, h1, h2, h3, h4⟩ := h
  exact fnames_at w lab b S h1 hS
theorem fpending_calls : Calls Try.prog 23 #[fp b] w fun e w' => e = .returned (.int .i64 (S.pend : Int)) ∧ Below w.heap.size w w' := by
  obtain ⟨lab, h1, h2, h3, h4⟩ := h
  exact fpending_at w lab b S h1 hS
theorem fops_calls : Calls Try.prog 27 #[fp b] w fun e w' => e = .returned (.int .i64 (S.ops : Int)) ∧ Below w.heap.size w w' := by
  have _ := hS
  obtain ⟨lab, h1, h2, h3, h4⟩ := h
  exact fops_at w lab b S h1
theorem fdown_calls : Calls Try.prog 26 #[fp b] w fun e w' => e = .returned (.bool S.down) ∧ Below w.heap.size w w' := by
  have _ := hS
  obtain ⟨lab, h1, h2, h3, h4⟩ := h
  exact fdown_at w lab b S h1
end
end
end Go.Proofs.Ytaeiffpdnlejbaa
