/-
  A file system beside the document's state in its box (layer 10).
-/
import Derived.Test.YtaeiffpdnlejbaaPc25
namespace Go.Proofs.Ytaeiffpdnlejbaa
open Go Go.RowKit
set_option maxRecDepth 100000

/-- The file system, and the document's state in its box. -/
structure AllAt (w1 W : World) (sb b : Nat) (S : FS) (m : Nat) (X Y : Nat → Prop) (A : Option Addr) (n c : Nat) : Prop where
  fx : FX w1 W X Y b S
  at_ : S.At m
  box : BxA W sb 29 (stC A n c S)
  st : StAt W (fun k => X k ∧ k ≠ sb) (stV A n c S) S
  xs : X sb
  ys : Y sb
  ge : w1.heap.size ≤ sb
  old : ∀ k, k < w1.heap.size → X k
theorem AllAt.below {w1 W W2 : World} {sb b m n c : Nat} {S : FS} {X Y : Nat → Prop} {A : Option Addr} (h : AllAt w1 W sb b S m X Y A n c) (hb : Below W.heap.size W W2) : AllAt w1 W2 sb b S m (XN X W W2) (XN Y W W2) A n c :=
  ⟨h.fx.below hb, h.at_, h.box.below hb, (h.st.below hb).mono (fun _ hk => ⟨.inl hk.1, hk.2⟩), .inl h.xs, .inl h.ys, h.ge, fun k hk => .inl (h.old k hk)⟩
theorem AllAt.mono {w1 W : World} {sb b m m2 n c : Nat} {S : FS} {X Y : Nat → Prop} {A : Option Addr} (h : AllAt w1 W sb b S m X Y A n c) (hm : m ≤ m2) : AllAt w1 W sb b S m2 X Y A n c := ⟨h.fx, h.at_.mono hm, h.box, h.st, h.xs, h.ys, h.ge, h.old⟩
theorem AllAt.opb {w1 W : World} {sb b m n c : Nat} {S : FS} {X Y : Nat → Prop} {A : Option Addr} (h : AllAt w1 W sb b S m X Y A n c) {x : OpG} (hx : OpIn w1 x) : ByR W (fun k => X k ∧ k ≠ sb) x.BA x.o.b ∧ RowT boolC W (fun k => X k ∧ k ≠ sb) x.KA x.o.ks := by
  have h1 : OpFar W (fun k => ¬ (X k ∧ k ≠ sb)) x := hx.far h.fx.bel (fun k hk => Nat.le_of_not_lt fun hlt => hk ⟨h.old k hlt, fun e => by have := h.ge; omega⟩)
  exact ⟨h1.b.mono (fun k hk => Classical.not_not.1 hk), h1.k.mono (fun k hk => Classical.not_not.1 hk)⟩
end Go.Proofs.Ytaeiffpdnlejbaa
