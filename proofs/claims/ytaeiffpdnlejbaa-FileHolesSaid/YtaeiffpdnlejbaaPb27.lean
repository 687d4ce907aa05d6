/-
  Layer 7 and what it stands on, part 27 (FRows2).
-/
import Derived.Test.YtaeiffpdnlejbaaPb25
import Derived.Test.YtaeiffpdnlejbaaPb26
namespace Go.Proofs.Ytaeiffpdnlejbaa
section
open Go Go.RowKit
set_option maxRecDepth 100000
/-- As wpList_append_g, with another type of what is appended (a number, where it is 'make'). -/
theorem wpList_append_gz {P : Program} {w : World} {ops : Array Oper} {rest : List Oper} {o : Oper} {a : Act} {Q : Exit → Act → World → Prop} (hw : Region.wanted o (yielded ops a.tmps) = true) (s x : Operand) (t tn : TypeId)
    (ho : o.op = .call { callee := .builtin .append, args := #[s, x], argTypes := #[t, tn] }) (v v2 : Value) (hs : a.eval s = v) (hx : a.eval x = v2) {v' : Value} {w' : World}
    (hr : (Builtin.append_ #[t, tn] o.type #[v, v2]).run P w = .ok v' w') (h : wpList P ops Q rest (a.put o.dst v') w') : wpList P ops Q (o :: rest) a w := by
  refine wpList_step fun K hK => ?_
  rw [if_pos hw]
  unfold Oper.wp execOp
  simp only [ho, resolve, invoke, builtin, Sem.run_bind, Sem.run_pure, Result.andThen_ok, List.map_toArray, List.map_cons, List.map_nil, hs, hx, hr]
  exact hK _ _ h
structure Own2 (w0 W : World) (X Y : Nat → Prop) (b : Nat) (S : FS) (va : Value) (la : List UInt8) (vb : Value) (lb : List UInt8) : Prop where
  fx : FX w0 W X Y b S
  a : OwnR w0 W X Y va la
  b : OwnR w0 W X Y vb lb
  ne : ∀ g, va.ownBlock = some g → vb.ownBlock ≠ some g
  old : ∀ i, i < w0.heap.size → X i
section
variable {w0 W W2 : World} {X Y : Nat → Prop} {b : Nat} {S S2 : FS} {va vb : Value} {la lb : List UInt8}
theorem Own2.swap (h : Own2 w0 W X Y b S va la vb lb) : Own2 w0 W X Y b S vb lb va la := ⟨h.fx, h.b, h.a, fun g h1 h2 => h.ne g h2 h1, h.old⟩
theorem Own2.below (h : Own2 w0 W X Y b S va la vb lb) (hb : Below W.heap.size W W2) : Own2 w0 W2 (XN X W W2) (XN Y W W2) b S va la vb lb := ⟨h.fx.below hb, h.a.below hb, h.b.below hb, h.ne, fun i hi => .inl (h.old i hi)⟩
theorem Own2.keep (h : Own2 w0 W X Y b S va la vb lb) (hf : FX w0 W2 X Y b S2) (ho : Only (fun k => ¬ X k) W W2) : Own2 w0 W2 X Y b S2 va la vb lb := ⟨hf, h.a.keep ho (fun _ h => h), h.b.keep ho (fun _ h => h), h.ne, h.old⟩
theorem Own2.app (h : Own2 w0 W X Y b S va la vb lb) (A : Option Addr) (c : Nat) (y : List UInt8) (hA : A = none → c = 0) (hy : Byt W A y) (hb : la.length + y.length ≤ 1099511627776) :
    ∃ A' c' w' X' Y', (Builtin.append_ #[31, 31] 31 #[va, .slice A y.length c]).run Try.prog W = .ok (.slice A' (la ++ y).length c') w' ∧ Own2 w0 w' X' Y' b S (.slice A' (la ++ y).length c') (la ++ y) vb lb := by
  obtain ⟨A', c', w', h1, h2, h3, h4, h5⟩ := h.a.app h.fx A c y hA hy hb
  refine ⟨A', c', w', _, _, h1, h3, h2, h.b.grew h4 (fun g hg hr => h.ne g hr hg), fun g hg he => ?_, fun i hi => .inl (h.old i hi)⟩
  rcases h5 with h5 | h5
  · rw [h5] at hg
    exact h.ne g hg he
  · rw [h5] at hg
    injection hg with hg
    have := (h.b.lt g he).2
    omega
/-- 'append(append([]byte{}, row...), make([]byte, m)...)': a new row. -/
theorem Own2.padded (h : Own2 w0 W X Y b S va la vb lb) (A : Option Addr) (c : Nat) (hv : va = .slice A la.length c) (m : Nat) (hb : la.length + m ≤ 1099511627776) :
    ∃ A1 c1 w1, (Builtin.append_ #[31, 31] 31 #[.slice (some ⟨W.heap.size, 0, none⟩) 0 0, .slice A la.length c]).run Try.prog (W.alloc (.cells #[] 5)) = .ok (.slice A1 la.length c1) w1 ∧
      ∃ A2 c2 w2 X' Y', (Builtin.append_ #[31, 3] 31 #[.slice A1 la.length c1, .int .i64 (m : Int)]).run Try.prog w1 = .ok (.slice A2 (la ++ List.replicate m 0).length c2) w2 ∧ Own2 w0 w2 X' Y' b S (.slice A2 (la ++ List.replicate m 0).length c2) (la ++ List.replicate m 0) vb lb := by
  obtain ⟨i, hi, hz, hs, hy⟩ := info8_10
  have hb0 : Below W.heap.size W (W.alloc (.cells #[] 5)) := (Below.refl _ W).alloc (Nat.le_refl _) _
  have hsz : (W.alloc (.cells #[] 5)).heap.size = W.heap.size + 1 := World.size_alloc _ _
  have ha := h.a
  rw [hv] at ha
  obtain ⟨v1, w1, r1, o1, g1⟩ := run_append_byt (P := Try.prog) (W.alloc (.cells #[] 5)) W.heap.size 31 31 i Try.underlying31 hi hz hs hy (.slice (some ⟨W.heap.size, 0, none⟩) 0 0) [] (own_empty W W.heap.size (Nat.le_refl _)) A c la ha.none_ (ha.byt.below hb0) (by simp; omega) (by omega)
  rw [List.nil_append] at o1
  have hb1 : Below W.heap.size W w1 := below_own hb0 g1 (own_empty W W.heap.size (Nat.le_refl _)) (Nat.le_refl _) (by omega)
  obtain ⟨A1, c1, rfl⟩ := own_form o1
  obtain ⟨v2, w2, r2, o2, g2⟩ := run_append_make (P := Try.prog) w1 W.heap.size 31 3 31 5 i (.int .u8 0) 1 Try.underlying31 Try.underlying3 hi hz hs hy rfl rfl _ la.length (Lib.byteCells la) o1 m (by unfold maxLen; omega) (by omega) hb1.size
  have hb2 : Below W.heap.size W w2 := below_own hb1 g2 o1 (Nat.le_refl _) hb1.size
  have hl : (la ++ List.replicate m (0 : UInt8)).length = la.length + m := by simp
  have hc : Lib.byteCells la ++ List.replicate m (.int .u8 0) = Lib.byteCells (la ++ List.replicate m 0) := by unfold Lib.byteCells; rw [List.map_append, List.map_replicate]; rfl
  rw [hc, ← hl] at o2
  obtain ⟨A2, c2, rfl⟩ := own_form o2
  have h2 := h.below hb2
  refine ⟨A1, c1, w1, r1, A2, c2, w2, _, _, r2, h2.fx, ⟨own_less o2 h.fx.bel.size, fun g hg => ?_⟩, h2.b, fun g hg he => ?_, h2.old⟩
  · have := o2.lt g hg
    exact ⟨.inr this, .inr this⟩
  · have h3 := (o2.lt g hg).1
    have h4 := (h.b.lt g he).2
    omega
end
end
end Go.Proofs.Ytaeiffpdnlejbaa
