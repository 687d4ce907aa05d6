/-
  Layer 7 and what it stands on, part 46 (MapKeys).
-/
import Derived.Test.YteafcaambnfdoaaGreatDoorPg7
import Derived.Test.YteafcaambnfdoaaGreatDoorPg11
import Derived.Maps.OwnSet
import Derived.Sort.KeysCollected
namespace Go.Proofs.YteafcaambnfdoaaGreatDoor
section
open Go Go.RowKit Go.Maps
open Go.WideShapes (sorted_perm)
open Go.WideElems (rd rg rg_of)
theorem keyOf_bytes {P : Program} {k : TypeId} (hk : P.underlying k = some .string) (s : ByteArray) (hs : s.size ≤ maxLen) : keyOf P k (.string s) = some (.string s.data.toList) := by
 simp [keyOf, hk, mapKey, hs]
theorem MapAt.owns {α : Type} {V : α → Value} {P : Program} {k : TypeId} (hk : P.underlying k = some .string) {w : World} {m : Nat} {ps : List (ByteArray × α)} (h : MapAt V w m ps) (hs : ∀ p ∈ ps, p.1.size ≤ maxLen) (hl : ps.length ≤ maxLen) :
  ∃ D : DataW Unit, w.ownsMap P k (fun _ => some (.nil, [])) m ps.length D ∧ (strKeys D).Perm (ps.map fun p => bl p.1) ∧ Maps.size D ≤ ps.length := by
 obtain ⟨es, c, h1, h2, h3⟩ := h
 have hlen : es.size = ps.length := by
  have := congrArg List.length h2
  rwa [List.length_map, List.length_map, Array.length_toList] at this
 have hkey : ∀ x ∈ es.toList, ∃ p ∈ ps, x.key = .string p.1 := fun x hx => by
  have hm : (x.key, x.val) ∈ ps.map (fun p => (Value.string p.1, V p.2)) := by rw [← h2]; exact List.mem_map_of_mem (f := fun e : MapEntry => (e.key, e.val)) hx
  obtain ⟨p, hp, e⟩ := List.mem_map.1 hm
  injection e with e1 _
  exact ⟨p, hp, e1.symm⟩
 have hrd : ∀ x ∈ es.toList, ∀ p ∈ ps, x.key = .string p.1 → rd P k (fun _ => some ((DataW.nil : DataW Unit), ([] : List MemPlace))) x = some (.string p.1.data.toList, .nil) := fun x hx p hp e => by
  unfold rd
  rw [e, keyOf_bytes hk _ (hs p hp)]
  rfl
 have hown : w.ownsMap P k (fun _ => some ((DataW.nil : DataW Unit), ([] : List MemPlace))) m ps.length (.map ((es.toList.map (rg P k (fun _ => some ((DataW.nil : DataW Unit), ([] : List MemPlace))))).foldr DataW.insert [])) :=
  ⟨es, c, h1, ⟨by omega, h3, fun x hx => by
   obtain ⟨p, hp, e⟩ := hkey x hx
   exact ⟨_, hrd x hx p hp e⟩⟩, by omega, rfl⟩
 refine ⟨_, hown, ?_, hown.size_le⟩
 show (List.map (fun p : Lit × DataW Unit => strOf p.1) _).Perm _
 refine ((sorted_perm _).map _).trans ?_
 rw [List.map_map]
 have hall : ∀ (L : List MapEntry) (qs : List (ByteArray × α)), (∀ x ∈ L, x ∈ es.toList) → (∀ p ∈ qs, p ∈ ps) → L.map (fun e => (e.key, e.val)) = qs.map (fun p => (Value.string p.1, V p.2)) →
   L.map ((fun p : Lit × DataW Unit => strOf p.1) ∘ rg P k (fun _ => some ((DataW.nil : DataW Unit), ([] : List MemPlace)))) = qs.map fun p => bl p.1 := by
  intro L
  induction L with
  | nil =>
   intro qs _ _ e
   cases qs with
   | nil => rfl
   | cons => cases e
  | cons x L ih =>
   intro qs hL hq e
   cases qs with
   | nil => cases e
   | cons q qs =>
    rw [List.map_cons, List.map_cons] at e
    injection e with e1 e2
    injection e1 with e3 _
    rw [List.map_cons, List.map_cons, ih qs (fun y hy => hL y (List.mem_cons_of_mem _ hy)) (fun y hy => hq y (List.mem_cons_of_mem _ hy)) e2]
    have := rg_of (hrd x (hL x List.mem_cons_self) q (hq q List.mem_cons_self) e3)
    show strOf (rg P k _ x).1 :: _ = _
    rw [this]
    rfl
 rw [hall es.toList ps (fun _ h => h) (fun _ h => h) h2]
theorem sort_rising {l : List (List UInt8)} (h : l.Pairwise fun x y => x < y) {ss : List (List UInt8)} (hp : ss.Perm l) : ss.mergeSort (fun x y => decide (x ≤ y)) = l := by
 have h1 : ss.mergeSort leB = l.mergeSort leB := mergeSort_of_perm hp
 show ss.mergeSort leB = l
 rw [h1]
 exact List.mergeSort_of_pairwise (h.imp fun {x y} hxy => by simp only [leB, decide_eq_true_eq]; exact List.le_of_lt hxy)
end
end Go.Proofs.YteafcaambnfdoaaGreatDoor
