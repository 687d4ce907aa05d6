/-
  Layer 7 and what it stands on, part 25 (MapRange).
-/
import Derived.Test.YteafcaambnfdoaaGreatDoorPq12
import Derived.Maps.RangeWalk
namespace Go.Proofs.YteafcaambnfdoaaGreatDoor
section
open Go Go.RowKit
open Go.ChangeMaps (setBlock)
section
variable {α : Type} (V : α → Value)
def RangeAt (w : World) (m r : Nat) (ps todo : List (ByteArray × α)) : Prop := ∃ es c since seen c0, w.heap[m]? = some (.map es c) ∧ es.toList.map (fun e => (e.key, e.val)) = ps.map (fun p => (Value.string p.1, V p.2)) ∧ MapKept.Stamped es c ∧
 w.heap[r]? = some (.mapIter (some m) since seen c0) ∧ (∀ x ∈ es.toList, x.born < since) ∧ since ≤ c0 ∧ since ≤ c ∧ (leftOf es seen).toList.map (fun e => (e.key, e.val)) = todo.map (fun p => (Value.string p.1, V p.2))
variable {V}
theorem RangeAt.keep {w w' : World} {m r : Nat} {ps todo : List (ByteArray × α)} {R : Nat → Prop} (h : RangeAt V w m r ps todo) (ho : Only R w w') (h1 : ¬ R m) (h2 : ¬ R r) : RangeAt V w' m r ps todo := by
 obtain ⟨es, c, since, seen, c0, a1, a2, a3, a4, a5⟩ := h
 exact ⟨es, c, since, seen, c0, (ho.block m (Array.getElem?_eq_some_iff.1 a1).1 h1).trans a1, a2, a3, (ho.block r (Array.getElem?_eq_some_iff.1 a4).1 h2).trans a4, a5⟩
theorem RangeAt.below {w w' : World} {m r : Nat} {ps todo : List (ByteArray × α)} (h : RangeAt V w m r ps todo) (hb : Below w.heap.size w w') : RangeAt V w' m r ps todo := h.keep (R := fun _ => False) (Only.of_below hb) (fun h => h) (fun h => h)
theorem RangeAt.ne {w : World} {m r : Nat} {ps todo : List (ByteArray × α)} (h : RangeAt V w m r ps todo) : r ≠ m := by
 obtain ⟨es, c, since, seen, c0, a1, a2, a3, a4, _⟩ := h
 intro e
 rw [e, a1] at a4
 cases a4
theorem RangeAt.left {w : World} {m r : Nat} {ps todo : List (ByteArray × α)} (h : RangeAt V w m r ps todo) : w.rangeLeft m r = todo.length := by
 obtain ⟨es, c, since, seen, c0, a1, a2, a3, a4, _, _, _, a8⟩ := h
 simp only [World.rangeLeft, a1, a4]
 have := congrArg List.length a8
 simpa using this
theorem run_rangeP {P : Program} {t kt et : TypeId} (ht : P.underlying t = some (.map kt et)) {w : World} {m : Nat} {ps : List (ByteArray × α)} (h : MapAt V w m ps) :
  ∃ w', (Instr.range t (.map (some m))).run P w = .ok (.pointer (some ⟨w.heap.size, 0, none⟩)) w' ∧ RangeAt V w' m w.heap.size ps ps ∧ Below w.heap.size w w' ∧ w'.heap.size = w.heap.size + 1 := by
 have hlt := h.lt
 obtain ⟨es, c, h1, h2, h3⟩ := h
 have hb : Below w.heap.size w (w.alloc (.mapIter (some m) c #[] c)) := (Below.refl _ w).alloc (Nat.le_refl _) _
 refine ⟨_, run_range_map w t kt et m es c ht h1, ⟨es, c, c, #[], c, (hb.block m hlt).trans h1, h2, h3, World.alloc_heap_new w _, h3.1, Nat.le_refl _, Nat.le_refl _, ?_⟩, hb, World.size_alloc w _⟩
 have he : leftOf es #[] = es := by
  unfold leftOf
  exact Array.filter_eq_self.2 fun x _ => by simp
 rw [he]
 exact h2
theorem RangeAt.next {P : Program} {w : World} {m r : Nat} {ps todo : List (ByteArray × α)} (h : RangeAt V w m r ps todo) (ty : TypeId) :
  (todo = [] ∧ (Instr.next (.pointer (some ⟨r, 0, none⟩)) false ty).run P w = .ok (.tuple #[.bool false]) w) ∨
  ∃ a p d w', todo = a ++ p :: d ∧ (Instr.next (.pointer (some ⟨r, 0, none⟩)) false ty).run P w = .ok (.tuple #[.bool true, .string p.1, V p.2]) w' ∧ RangeAt V w' m r ps (a ++ d) ∧ Only (fun k => k = r) w w' ∧ w'.heap.size = w.heap.size ∧
   (Instr.entry (.pointer (some ⟨r, 0, none⟩))).run P w' = .ok (.tuple #[.string p.1, V p.2]) w' := by
 have hne := h.ne
 obtain ⟨es, c, since, seen, c0, a1, a2, a3, a4, a5, a6, a7, a8⟩ := h
 rcases run_next_at (P := P) w ty r m since c0 seen es c a4 a1 a5 a6 with ⟨h0, hrun⟩ | ⟨e, he, w1, hal, hrun⟩
 ·refine .inl ⟨?_, hrun⟩
  have := congrArg List.length a8
  rw [List.length_map, List.length_map, Array.length_toList, h0] at this
  exact List.eq_nil_of_length_eq_zero this.symm
 ·right
  obtain ⟨L1, L2, hL⟩ := List.append_of_mem he
  rw [hL, List.map_append, List.map_cons] at a8
  obtain ⟨a, t2, rfl, ha, ht2⟩ := List.map_eq_append_iff.1 a8.symm
  cases t2 with
  | nil => cases ht2
  | cons p d =>
   rw [List.map_cons] at ht2
   injection ht2 with hp hd
   injection hp with hp1 hp2
   have hr1 : w1.heap[r]? = some (.mapIter (some m) since seen c0) := by rcases hal with rfl | rfl <;> exact a4
   have hm1 : w1.heap[m]? = some (.map es c) := by rcases hal with rfl | rfl <;> exact a1
   have hset : (setBlock w1 r (.mapIter (some m) since (seen.push e.born) c)).heap[r]? = some (.mapIter (some m) since (seen.push e.born) c) := by
    simp [setBlock, (Array.getElem?_eq_some_iff.1 hr1).1]
   have hother : ∀ i, i ≠ r → (setBlock w1 r (.mapIter (some m) since (seen.push e.born) c)).heap[i]? = w1.heap[i]? := fun i hi => by
    simp [setBlock, Ne.symm hi]
   have hb' := (hother m (fun e1 => hne e1.symm)).trans hm1
   have hmem : e ∈ es.toList := by
    unfold leftOf at he
    simp at he
    simpa using he.1
   refine ⟨a, p, d, _, rfl, by rw [hp1, hp2]; exact hrun, ⟨es, c, since, seen.push e.born, c, hb', a2, a3, hset, a5, a7, a7, ?_⟩, ?_, ?_, by rw [hp1, hp2]; exact run_entry_at _ r m since seen es c e hset hb' hmem a3.2.1⟩
   ·have hfil : (leftOf es (seen.push e.born)).toList = L1 ++ L2 := by
     have h1 : (leftOf es (seen.push e.born)).toList = (leftOf es seen).toList.filter fun x => !(x.born == e.born) := by
      unfold leftOf
      rw [Array.toList_filter, Array.toList_filter, List.filter_filter]
      congr 1
      funext x
      rw [contains_push]
      cases seen.contains x.born <;> cases (x.born == e.born) <;> rfl
     rw [h1, hL]
     have hnd : ((L1 ++ e :: L2).map (·.born)).Nodup := by
      rw [← hL]
      unfold leftOf
      rw [Array.toList_filter]
      exact List.Nodup.sublist (List.filter_sublist.map _) a3.2.1
     have hnd2 : ((e :: (L1 ++ L2)).map (·.born)).Nodup := ((List.perm_middle (a := e) (l₁ := L1) (l₂ := L2)).map (·.born)).nodup_iff.1 hnd
     have hno : ∀ x ∈ L1 ++ L2, x.born ≠ e.born := fun x hx e1 => (List.nodup_cons.1 hnd2).1 (by show e.born ∈ _; rw [← e1]; exact List.mem_map_of_mem (f := fun x : MapEntry => x.born) hx)
     rw [List.filter_append, List.filter_cons_of_neg (by simp), ← List.filter_append]
     exact List.filter_eq_self.2 fun x hx => by simpa using hno x hx
    rw [hfil, List.map_append, List.map_append, ← ha, ← hd]
   ·rcases hal with rfl | rfl <;> exact ⟨rfl, rfl, rfl, by simp [setBlock], fun i _ hi => hother i hi⟩
   ·rcases hal with rfl | rfl <;> simp [setBlock]
end
section
variable {α : Type} {V : α → Value} {P : Program} (w : World) {ops : Array Oper} {rest : List Oper} {o : Oper} {a : Act} {Q : Exit → Act → World → Prop}
theorem wpList_rangeP (hg : o.guard = none) (m : Operand) (t : TypeId) (hop : o.op = Op.range t m) (k e : TypeId) (ht : P.underlying t = some (.map k e)) (b : Nat) (ps : List (ByteArray × α)) (hm : a.eval m = .map (some b)) (hown : MapAt V w b ps)
  (hK : ∀ w', RangeAt V w' b w.heap.size ps ps → Below w.heap.size w w' → w'.heap.size = w.heap.size + 1 → wpList P ops Q rest (a.put o.dst (.pointer (some ⟨w.heap.size, 0, none⟩))) w') :
  wpList P ops Q (o :: rest) a w := by
 refine wpList_plain hg fun K' hK' => ?_
 obtain ⟨w', hrun, r1, r2, r3⟩ := run_rangeP ht hown
 unfold Oper.wp
 simp [execOp, hop, hm, hrun, Result.andThen]
 exact hK' _ _ (hK w' r1 r2 r3)
theorem wpList_nextP (hg : o.guard = none) (it : Operand) (hop : o.op = Op.next it false) (b r : Nat) (ps todo : List (ByteArray × α)) (hit : a.eval it = .pointer (some ⟨r, 0, none⟩)) (h : RangeAt V w b r ps todo)
  (hDone : todo = [] → wpList P ops Q rest (a.put o.dst (.tuple #[.bool false])) w)
  (hMore : ∀ (l : List (ByteArray × α)) (x : ByteArray) (y : α) (d : List (ByteArray × α)) (w' : World), todo = l ++ (x, y) :: d → RangeAt V w' b r ps (l ++ d) → Only (fun k => k = r) w w' → w'.heap.size = w.heap.size →
   (Instr.entry (.pointer (some ⟨r, 0, none⟩))).run P w' = .ok (.tuple #[.string x, V y]) w' → wpList P ops Q rest (a.put o.dst (.tuple #[.bool true, .string x, V y])) w') :
  wpList P ops Q (o :: rest) a w := by
 refine wpList_plain hg fun K' hK' => ?_
 unfold Oper.wp
 rcases h.next (P := P) o.type with ⟨h0, hrun⟩ | ⟨l, p, d, w', e, hrun, hrg, ho, hsz, hen⟩
 ·simp [execOp, hop, hit, hrun, Result.andThen]
  exact hK' _ _ (hDone h0)
 ·obtain ⟨x, y⟩ := p
  simp [execOp, hop, hit, hrun, Result.andThen]
  exact hK' _ _ (hMore l x y d w' e hrg ho hsz hen)
end
end
end Go.Proofs.YteafcaambnfdoaaGreatDoor
