/-
  Rows of bytes.
-/
import Derived.Test.YtjfikdldabmciaaDoorRow
import Derived.Lib.ConvBytes
import Derived.ArgAppend
import Derived.Laws.AppendOwnNone
import Derived.Maps.AppendAt
namespace Go.Proofs.YtjfikdldabmciaaDoor
open Go Go.RowKit

theorem runes_drop (s : ByteArray) (pos : Nat) (h : pos < s.size) : runes (s.data.toList.drop pos) = (Utf8.decode s pos).1 :: runes (s.data.toList.drop (pos + (Utf8.decode s pos).2)) := by
  have hne : s.data.toList.drop pos ≠ [] := by
    intro h0
    have := congrArg List.length h0
    rw [List.length_drop, ← Lib.size_eq] at this
    simp at this
    omega
  rw [runes_step _ hne, Lib.decodeL_drop, List.drop_drop]
theorem decode_in (s : ByteArray) (pos : Nat) (h : pos < s.size) : pos + (Utf8.decode s pos).2 ≤ s.size := by
  have hne : s.data.toList.drop pos ≠ [] := by
    intro h0
    have := congrArg List.length h0
    rw [List.length_drop, ← Lib.size_eq] at this
    simp at this
    omega
  have := Lib.decodeL_le _ hne
  rw [Lib.decodeL_drop, List.length_drop, ← Lib.size_eq] at this
  omega
theorem below_bytes (w : World) (e : TypeId) (s : ByteArray) : Below w.heap.size w (Lib.bytesWorld w e s) :=
  ⟨rfl, rfl, rfl, by rw [Lib.bytesWorld_size]; omega, fun k hk => Lib.bytesWorld_at_old w e s k hk⟩
theorem byt_bytes (w : World) (s : List UInt8) : Byt (Lib.bytesWorld w 5 ⟨s.toArray⟩) (some ⟨w.heap.size, 0, none⟩) s :=
  Byt.mk_ fun i hi => by
    have := Lib.bytesWorld_cell w 5 ⟨s.toArray⟩ i (by simpa [ByteArray.size] using hi)
    rw [Nat.zero_add, this]
theorem info8 : (Tryd.prog.info? 5).map (fun i => (i.zero, i.size, i.bytes)) = some (some (.int .u8 0), 1, 1) := by kernel_rfl
theorem byt_cells {w : World} {b o : Nat} {l : List UInt8} (h : Byt w (some ⟨b, o, none⟩) l) : ∀ j u, (Lib.byteCells l)[j]? = some u → w.cell? ⟨b, o + j, none⟩ = some u := by
  intro j u hu
  have hj : j < l.length := by
    have := (List.getElem?_eq_some_iff.1 hu).1
    simpa [Lib.byteCells_length] using this
  obtain ⟨b', o', e, _, hc⟩ := h.at_ (by omega)
  injection e with e
  injection e with e1 e2
  subst e1; subst e2
  rw [hc j hj]
  simp [Lib.byteCells, hj] at hu
  rw [← hu]
  simp [List.getD, hj]
theorem byt_of_own {w : World} {base : Nat} {A : Option Addr} {n c : Nat} {l : List UInt8} (h : w.ownsRow base 5 1 (.slice A n c) l.length (Lib.byteCells l)) : Byt w A l ∧ n = l.length ∧ l.length ≤ c ∧ c ≤ maxLen := by
  rcases h.2 with ⟨hv, h0⟩ | ⟨g, cap, cur, hv, _, hh, hnc, hcm, hcs, htk⟩
  · injection hv with h1 h2 h3
    subst h1; subst h2; subst h3
    obtain rfl : l = [] := List.eq_nil_of_length_eq_zero h0
    exact ⟨Byt.nil_ _ _, rfl, by simp, by unfold maxLen; omega⟩
  · injection hv with h1 h2 h3
    subst h1; subst h2; subst h3
    refine ⟨Byt.mk_ fun i hi => ?_, rfl, hnc, hcm⟩
    have := h.cells (g := g) rfl i (.int .u8 ((l.getD i 0).toNat : Int)) (by simp [Lib.byteCells, hi, List.getD])
    rw [Addr.add_lit] at this
    exact this
section
variable {P : Program} (w : World)
/-- One byte behind a row of bytes: there was room for it, or a new row was made. -/
theorem wpList_append_byte {ops : Array Oper} {rest : List Oper} {o : Oper} {a : Act} {Q : Exit → Act → World → Prop}
    (hg : o.guard = none) (s x : Operand) (t : TypeId) (hop : o.op = Op.call { callee := Callee.builtin Builtin.append, args := #[s, x], argTypes := #[t, t] })
    (i : TypeInfo) (h1 : P.underlying t = some (.slice 5)) (h2 : P.info? 5 = some i) (h3 : i.zero = some (.int .u8 0)) (h4 : i.size = 1) (h5 : i.bytes = 1)
    (g cap : Nat) (l : List UInt8) (hs : a.eval s = .slice (some ⟨g, 0, none⟩) l.length cap) (hl : Byt w (some ⟨g, 0, none⟩) l) (hcm : cap ≤ maxLen)
    (k : Nat) (u : UInt8) (hx : a.eval x = .slice (some ⟨k, 0, none⟩) 1 1) (hk : w.cell? ⟨k, 0, none⟩ = some (.int .u8 (u.toNat : Int)))
    (hspare : l.length + 1 ≤ cap → (w.cell? ⟨g, l.length, none⟩).isSome = true ∧ w.frozen? ⟨g, l.length, none⟩ = false)
    (hb : l.length + 1 ≤ 140737488355328)
    (h : ∀ A c w', Byt w' A (l ++ [u]) → l.length + 1 ≤ c → c ≤ maxLen → w.grownBy w' (some g) → wpList P ops Q rest (a.put o.dst (.slice A (l.length + 1) c)) w') :
    wpList P ops Q (o :: rest) a w := by
  refine wpList_append_arg w hg s x t hop 5 i (.int .u8 0) 1 1 h1 h2 h3 h4 h5 rfl (by decide) g 0 l.length cap (Lib.byteCells l) hs (by rw [Lib.byteCells_length]; omega) (by simpa using byt_cells hl)
    ⟨k, 0, none⟩ 1 1 [.int .u8 (u.toNat : Int)] hx rfl ?_ (by simp [Value.oneCell']) ?_ (by unfold maxLen; omega) (by omega) ?_ ?_
  · intro j v hj
    match j, hj with
    | 0, hj => simp at hj; subst hj; simpa [Addr.add] using hk
  · intro hr j hj
    obtain rfl : j = 0 := by simpa using hj
    simpa using hspare hr
  · intro hr
    refine h (some ⟨g, 0, none⟩) cap _ ?_ hr hcm ?_
    · have hin : (w.setCells g (0 + l.length * 1) [.int .u8 (u.toNat : Int)]).cell? ⟨g, l.length, none⟩ = some (.int .u8 (u.toNat : Int)) := by
        have := World.cell?_setCells_in g [.int .u8 (u.toNat : Int)] (0 + l.length * 1) w (by intro j hj; obtain rfl : j = 0 := by simpa using hj
                                                                                              simpa using (hspare hr).1) 0 (by simp)
        simpa using this
      refine Byt.mk_ fun i hi => ?_
      rw [List.length_append] at hi
      simp at hi
      by_cases hlt : i < l.length
      · rw [World.cell?_setCells_out g _ _ w ⟨g, 0 + i, none⟩ (fun _ _ => .inl (by show 0 + i < _; omega))]
        obtain ⟨b', o', e, _, hc⟩ := hl.at_ (by omega)
        injection e with e
        injection e with e1 e2
        subst e1; subst e2
        rw [hc i hlt]
        simp [List.getD, List.getElem?_append, hlt]
      · obtain rfl : i = l.length := by omega
        rw [show (⟨g, 0 + l.length, none⟩ : Addr) = ⟨g, l.length, none⟩ by rw [Nat.zero_add], hin]
        simp [List.getD]
    · refine ⟨World.os_setCells _ _ _ _, ?_, World.output_setCells _ _ _ _, ?_, fun i hi hne => World.heap_setCells_other w g _ _ hi (by rintro rfl; exact hne rfl)⟩
      · simp [World.setCells]
      · simp [World.setCells]
  · intro hr v' w' hown hgr
    obtain ⟨A, n, c, rfl⟩ : ∃ A n c, v' = .slice A n c := by
      rcases hown.2 with ⟨hv, _⟩ | ⟨_, _, _, hv, _⟩ <;> exact ⟨_, _, _, hv⟩
    have e : Lib.byteCells l ++ [.int .u8 (u.toNat : Int)] = Lib.byteCells (l ++ [u]) := by simp [Lib.byteCells]
    rw [e] at hown
    obtain ⟨hB, hn, hlc', hcm'⟩ := byt_of_own (l := l ++ [u]) (by simpa using hown)
    have hn' : n = l.length + 1 := by simpa using hn
    subst hn'
    exact h A c w' hB (by simpa using hlc') hcm' ⟨hgr.os, hgr.tape, hgr.output, hgr.size, fun i hi _ => hgr.block i hi (by simp)⟩
end
theorem run_cut (A : Option Addr) (c : Nat) (l : List UInt8) (k : Nat) (hk : k ≤ l.length) :
    ∀ W : World, (Instr.slice 22 (.slice A l.length c) (some (.int .i64 (k : Int))) none none).run Tryd.prog W = .ok (.slice (dropA A c k) (l.drop k).length (c - k)) W := by
  intro W
  have he : Tryd.prog.elem 22 = 5 := by kernel_rfl
  have hu : Tryd.prog.underlying 22 = some (.slice (Tryd.prog.elem 22)) := by rw [he]; exact Tryd.underlying22
  rw [run_slice_l W 22 A l.length c hu .i64 (k : Int) (by omega) (by omega), he, Tryd.sizeOf5]
  simp [sliced, dropA, Result.andThen]
theorem drop_len (l : List UInt8) (k : Nat) : (l.drop k).length = l.length - k := List.length_drop
section
variable {P : Program} (w : World)
/-- Bytes that lie somewhere, nil or not, behind a row of bytes that the call owns. -/
theorem wpList_append_byt {ops : Array Oper} {rest : List Oper} {o : Oper} {a : Act} {Q : Exit → Act → World → Prop} (hgd : o.guard = none) (s x : Operand) (t : TypeId)
    (ho : o.op = .call { callee := .builtin .append, args := #[s, x], argTypes := #[t, t] })
    (base : Nat) (i : TypeInfo) (ht : P.underlying t = some (.slice 5)) (hi : P.info? 5 = some i) (hz : i.zero = some (.int .u8 0)) (hsize : i.size = 1) (hby : i.bytes = 1)
    (v : Value) (xs : List UInt8) (hs : a.eval s = v) (hown : w.ownsRow base 5 1 v xs.length (Lib.byteCells xs))
    (A : Option Addr) (c : Nat) (l : List UInt8) (hx : a.eval x = .slice A l.length c) (hA : A = none → c = 0) (hl : Byt w A l)
    (hb : xs.length + l.length ≤ 140737488355328) (hbase : base ≤ w.heap.size)
    (h : ∀ v' w', w'.ownsRow base 5 1 v' (xs ++ l).length (Lib.byteCells (xs ++ l)) → w.grownBy w' v.ownBlock → (v'.ownBlock = v.ownBlock ∨ v'.ownBlock = some w.heap.size) → wpList P ops Q rest (a.put o.dst v') w') :
    wpList P ops Q (o :: rest) a w := by
  have e1 : Lib.byteCells (xs ++ l) = Lib.byteCells xs ++ Lib.byteCells l := by simp [Lib.byteCells]
  rw [e1, List.length_append] at h
  rcases A with _ | ad
  · obtain rfl := hA rfl
    have h0 : l = [] := by
      by_cases hn : 0 < l.length
      · obtain ⟨_, _, e, _⟩ := hl.at_ hn; cases e
      · exact List.eq_nil_of_length_eq_zero (by omega)
    subst h0
    refine wpList_append_own_none hgd s x t ho base 5 i 1 ht hi v xs.length (Lib.byteCells xs) hs hown hx ?_
    exact h v w (by simpa [Lib.byteCells] using hown) (World.grownBy.refl w _) (.inl rfl)
  · refine wpList_append_own_at w hgd s x t ho base 5 i (.int .u8 0) 1 1 ht hi hz hsize hby rfl (by decide) v xs.length (Lib.byteCells xs) hs hown ad l.length c (Lib.byteCells l) hx (by rw [Lib.byteCells_length]; omega) ?_ ?_ (by unfold maxLen; omega) (by omega) hbase ?_
    · intro j u hu
      have hj : j < l.length := by
        have := (List.getElem?_eq_some_iff.1 hu).1
        simpa [Lib.byteCells_length] using this
      obtain ⟨b, o', e, _, _⟩ := hl.at_ (by omega)
      injection e with e
      subst e
      rw [Addr.add_lit]
      exact byt_cells hl j u hu
    · intro u hu
      simp only [Lib.byteCells, List.mem_map] at hu
      obtain ⟨_, _, rfl⟩ := hu
      rfl
    · intro v' w' h1 h2 _ h4
      exact h v' w' h1 h2 h4
end
section
variable {P : Program} (w : World)
theorem run_append_byt (base : Nat) (t ty : TypeId) (i : TypeInfo) (ht : P.underlying t = some (.slice 5)) (hi : P.info? 5 = some i) (hz : i.zero = some (.int .u8 0)) (hsize : i.size = 1) (hby : i.bytes = 1)
    (v : Value) (xs : List UInt8) (hown : w.ownsRow base 5 1 v xs.length (Lib.byteCells xs))
    (A : Option Addr) (c : Nat) (l : List UInt8) (hA : A = none → c = 0) (hl : Byt w A l) (hb : xs.length + l.length ≤ 140737488355328) (hbase : base ≤ w.heap.size) :
    ∃ v' w', (Builtin.append_ #[t, t] ty #[v, .slice A l.length c]).run P w = .ok v' w' ∧ w'.ownsRow base 5 1 v' (xs ++ l).length (Lib.byteCells (xs ++ l)) ∧ w.grownBy w' v.ownBlock := by
  have e1 : Lib.byteCells (xs ++ l) = Lib.byteCells xs ++ Lib.byteCells l := by simp [Lib.byteCells]
  rw [e1, List.length_append]
  rcases A with _ | ad
  · obtain rfl := hA rfl
    have h0 : l = [] := by
      by_cases hn : 0 < l.length
      · obtain ⟨_, _, e, _⟩ := hl.at_ hn; cases e
      · exact List.eq_nil_of_length_eq_zero (by omega)
    subst h0
    exact ⟨v, w, run_append_owned_none (P := P) (w := w) base t ty 5 i 1 ht hi v xs.length (Lib.byteCells xs) hown, by simpa [Lib.byteCells] using hown, World.grownBy.refl w _⟩
  · obtain ⟨v', w', hr, h2, h3, _⟩ := run_append_own_at (P := P) w base t ty 5 i (.int .u8 0) 1 1 ht hi hz hsize hby rfl (by decide) v xs.length (Lib.byteCells xs) hown ad l.length c (Lib.byteCells l) (by rw [Lib.byteCells_length]; omega) (by
      intro j u hu
      have hj : j < l.length := by
        have := (List.getElem?_eq_some_iff.1 hu).1
        simpa [Lib.byteCells_length] using this
      obtain ⟨b, o', e, _, _⟩ := hl.at_ (by omega)
      injection e with e
      subst e
      rw [Addr.add_lit]
      exact byt_cells hl j u hu) (by
      intro u hu
      simp only [Lib.byteCells, List.mem_map] at hu
      obtain ⟨_, _, rfl⟩ := hu
      rfl) (by unfold maxLen; omega) (by omega) hbase
    exact ⟨v', w', hr, h2, h3⟩
end
theorem own_empty (w : World) (base : Nat) (hb : base ≤ w.heap.size) : (w.alloc (.cells #[] 5)).ownsRow base 5 1 (.slice (some ⟨w.heap.size, 0, none⟩) 0 0) ([] : List UInt8).length (Lib.byteCells []) :=
  ⟨rfl, .inr ⟨w.heap.size, 0, #[], rfl, hb, heap_alloc_new w _, by simp, by unfold maxLen; omega, by simp, by simp [Lib.byteCells]⟩⟩
end Go.Proofs.YtjfikdldabmciaaDoor
