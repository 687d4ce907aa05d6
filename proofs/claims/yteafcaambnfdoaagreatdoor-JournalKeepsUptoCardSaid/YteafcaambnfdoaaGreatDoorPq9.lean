/-
  Layer 7 and what it stands on, part 9 (RowB BEq).
-/
import Derived.Test.YteafcaambnfdoaaGreatDoorPq8
import Derived.Lib.ConvBytes
import Derived.ArgAppend
import Derived.Laws.AppendOwnNone
import Derived.Maps.AppendAt
namespace Go.Proofs.YteafcaambnfdoaaGreatDoor
section
open Go Go.RowKit
theorem runes_drop (s : ByteArray) (pos : Nat) (h : pos < s.size) : runes (s.data.toList.drop pos) = (Utf8.decode s pos).1 :: runes (s.data.toList.drop (pos + (Utf8.decode s pos).2)) := by
 have hne : s.data.toList.drop pos ≠ [] := by
  intro h0
  have := congrArg List.length h0
  rw [List.length_drop, ← Lib.size_eq] at this
  simp at this
  omega
 rw [runes_step _ hne, Lib.decodeL_drop, List.drop_drop]
theorem decode_in (s : ByteArray) (pos : Nat) (h : pos < s.size) : pos + (Utf8.decode s pos).2 ≤ s.size := by
 have hne : s.data.toList.drop pos ≠ [] := by
  intro h0
  have := congrArg List.length h0
  rw [List.length_drop, ← Lib.size_eq] at this
  simp at this
  omega
 have := Lib.decodeL_le _ hne
 rw [Lib.decodeL_drop, List.length_drop, ← Lib.size_eq] at this
 omega
theorem below_bytes (w : World) (e : TypeId) (s : ByteArray) : Below w.heap.size w (Lib.bytesWorld w e s) :=
 ⟨rfl, rfl, rfl, by rw [Lib.bytesWorld_size]; omega, fun k hk => Lib.bytesWorld_at_old w e s k hk⟩
theorem byt_bytes (w : World) (s : List UInt8) : Byt (Lib.bytesWorld w 5 ⟨s.toArray⟩) (some ⟨w.heap.size, 0, none⟩) s :=
 Byt.mk_ fun i hi => by
  have := Lib.bytesWorld_cell w 5 ⟨s.toArray⟩ i (by simpa [ByteArray.size] using hi)
  rw [Nat.zero_add, this]
theorem info8 : (Tryz.prog.info? 5).map (fun i => (i.zero, i.size, i.bytes)) = some (some (.int .u8 0), 1, 1) := by kernel_rfl
theorem byt_cells {w : World} {b o : Nat} {l : List UInt8} (h : Byt w (some ⟨b, o, none⟩) l) : ∀ j u, (Lib.byteCells l)[j]? = some u → w.cell? ⟨b, o + j, none⟩ = some u := by
 intro j u hu
 have hj : j < l.length := by
  have := (List.getElem?_eq_some_iff.1 hu).1
  simpa [Lib.byteCells_length] using this
 obtain ⟨b', o', e, _, hc⟩ := h.at_ (by omega)
 injection e with e
 injection e with e1 e2
 subst e1; subst e2
 rw [hc j hj]
 simp [Lib.byteCells, hj] at hu
 rw [← hu]
 simp [List.getD, hj]
theorem byt_of_own {w : World} {base : Nat} {A : Option Addr} {n c : Nat} {l : List UInt8} (h : w.ownsRow base 5 1 (.slice A n c) l.length (Lib.byteCells l)) : Byt w A l ∧ n = l.length ∧ l.length ≤ c ∧ c ≤ maxLen := by
 rcases h.2 with ⟨hv, h0⟩ | ⟨g, cap, cur, hv, _, hh, hnc, hcm, hcs, htk⟩
 ·injection hv with h1 h2 h3
  subst h1; subst h2; subst h3
  obtain rfl : l = [] := List.eq_nil_of_length_eq_zero h0
  exact ⟨Byt.nil_ _ _, rfl, by simp, by unfold maxLen; omega⟩
 ·injection hv with h1 h2 h3
  subst h1; subst h2; subst h3
  refine ⟨Byt.mk_ fun i hi => ?_, rfl, hnc, hcm⟩
  have := h.cells (g := g) rfl i (.int .u8 ((l.getD i 0).toNat : Int)) (by simp [Lib.byteCells, hi, List.getD])
  rw [Addr.add_lit] at this
  exact this
section
variable {P : Program} (w : World)
end
theorem run_cut (A : Option Addr) (c : Nat) (l : List UInt8) (k : Nat) (hk : k ≤ l.length) :
  ∀ W : World, (Instr.slice 30 (.slice A l.length c) (some (.int .i64 (k : Int))) none none).run Tryz.prog W = .ok (.slice (dropA A c k) (l.drop k).length (c - k)) W := by
 intro W
 have he : Tryz.prog.elem 30 = 5 := by kernel_rfl
 have hu : Tryz.prog.underlying 30 = some (.slice (Tryz.prog.elem 30)) := by rw [he]; exact Tryz.underlying30
 rw [run_slice_l W 30 A l.length c hu .i64 (k : Int) (by omega) (by omega), he, Tryz.sizeOf5]
 simp [sliced, dropA, Result.andThen]
section
variable {P : Program} (w : World)
theorem wpList_append_byt {ops : Array Oper} {rest : List Oper} {o : Oper} {a : Act} {Q : Exit → Act → World → Prop} (hgd : o.guard = none) (s x : Operand) (t : TypeId)
  (ho : o.op = .call { callee := .builtin .append, args := #[s, x], argTypes := #[t, t] })
  (base : Nat) (i : TypeInfo) (ht : P.underlying t = some (.slice 5)) (hi : P.info? 5 = some i) (hz : i.zero = some (.int .u8 0)) (hsize : i.size = 1) (hby : i.bytes = 1)
  (v : Value) (xs : List UInt8) (hs : a.eval s = v) (hown : w.ownsRow base 5 1 v xs.length (Lib.byteCells xs))
  (A : Option Addr) (c : Nat) (l : List UInt8) (hx : a.eval x = .slice A l.length c) (hA : A = none → c = 0) (hl : Byt w A l)
  (hb : xs.length + l.length ≤ 140737488355328) (hbase : base ≤ w.heap.size)
  (h : ∀ v' w', w'.ownsRow base 5 1 v' (xs ++ l).length (Lib.byteCells (xs ++ l)) → w.grownBy w' v.ownBlock → (v'.ownBlock = v.ownBlock ∨ v'.ownBlock = some w.heap.size) → wpList P ops Q rest (a.put o.dst v') w') :
  wpList P ops Q (o :: rest) a w := by
 have e1 : Lib.byteCells (xs ++ l) = Lib.byteCells xs ++ Lib.byteCells l := by simp [Lib.byteCells]
 rw [e1, List.length_append] at h
 rcases A with _ | ad
 ·obtain rfl := hA rfl
  have h0 : l = [] := by
   by_cases hn : 0 < l.length
   ·obtain ⟨_, _, e, _⟩ := hl.at_ hn; cases e
   ·exact List.eq_nil_of_length_eq_zero (by omega)
  subst h0
  refine wpList_append_own_none hgd s x t ho base 5 i 1 ht hi v xs.length (Lib.byteCells xs) hs hown hx ?_
  exact h v w (by simpa [Lib.byteCells] using hown) (World.grownBy.refl w _) (.inl rfl)
 ·refine wpList_append_own_at w hgd s x t ho base 5 i (.int .u8 0) 1 1 ht hi hz hsize hby rfl (by decide) v xs.length (Lib.byteCells xs) hs hown ad l.length c (Lib.byteCells l) hx (by rw [Lib.byteCells_length]; omega) ?_ ?_ (by unfold maxLen; omega) (by omega) hbase ?_
  ·intro j u hu
   have hj : j < l.length := by
    have := (List.getElem?_eq_some_iff.1 hu).1
    simpa [Lib.byteCells_length] using this
   obtain ⟨b, o', e, _, _⟩ := hl.at_ (by omega)
   injection e with e
   subst e
   rw [Addr.add_lit]
   exact byt_cells hl j u hu
  ·intro u hu
   simp only [Lib.byteCells, List.mem_map] at hu
   obtain ⟨_, _, rfl⟩ := hu
   rfl
  ·intro v' w' h1 h2 _ h4
   exact h v' w' h1 h2 h4
end
section
variable {P : Program} (w : World)
end
theorem own_empty (w : World) (base : Nat) (hb : base ≤ w.heap.size) : (w.alloc (.cells #[] 5)).ownsRow base 5 1 (.slice (some ⟨w.heap.size, 0, none⟩) 0 0) ([] : List UInt8).length (Lib.byteCells []) :=
 ⟨rfl, .inr ⟨w.heap.size, 0, #[], rfl, hb, heap_alloc_new w _, by simp, by unfold maxLen; omega, by simp, by simp [Lib.byteCells]⟩⟩
end
section
open Go Go.RowKit
set_option maxRecDepth 100000
theorem conv_strE {w : World} {A : Option Addr} {l : List UInt8} (h : Byt w A l) (c : Nat) : (convert 30 9 (.slice A l.length c)).run Tryz.prog w = .ok (.string (bs l)) w :=
 h.convert (P := Tryz.prog) c 30 5 9 Tryz.underlying30 Tryz.underlying5 Tryz.underlying9 l.length rfl
end
end Go.Proofs.YteafcaambnfdoaaGreatDoor
