/-
  append on rows of texts, as runs and as steps.
-/
import Derived.Test.YtfoiihopalcioaaDoorWClean
import Derived.Deep.RegionHeld3
import Derived.Laws.AppendOwnNone
import Derived.Maps.AppendAt
namespace Go.Proofs.YtfoiihopalcioaaDoor
open Go Go.RowKit

theorem rdS_cells {w : World} {g o : Nat} {ms : List ByteArray} (h : RdS w (some ⟨g, o, none⟩) ms) : ∀ j u, (cellsS ms)[j]? = some u → w.cell? ((⟨g, o, none⟩ : Addr).add j) = some u := by
  intro j u hu
  have hj : j < ms.length := by
    have := (List.getElem?_eq_some_iff.1 hu).1
    rwa [cellsS_length] at this
  obtain ⟨g', o', e, _, hc⟩ := h (by omega)
  injection e with e
  injection e with e1 e2
  subst e1; subst e2
  rw [Addr.add_lit, hc j hj]
  simp [cellsS, hj] at hu
  rw [← hu]
  simp [List.getD, hj]
section
variable {P : Program} (w : World)
theorem run_append_S (base : Nat) (t ty : TypeId) (i : TypeInfo) (ht : P.underlying t = some (.slice 9)) (hi : P.info? 9 = some i) (hz : i.zero = some (.string ⟨#[]⟩)) (hsize : i.size = 1) (hby : i.bytes = 16)
    (v : Value) (xs : List ByteArray) (n : Nat) (hn : n = xs.length) (hown : w.ownsRow base 9 1 v n (cellsS xs)) (A : Option Addr) (m c : Nat) (ms : List ByteArray) (hm : m = ms.length) (hA : A = none → c = 0) (hR : RdS w A ms) (hb : xs.length + ms.length ≤ 1099511627776) (hbase : base ≤ w.heap.size) :
    ∃ v' w', (Builtin.append_ #[t, t] ty #[v, .slice A m c]).run P w = .ok v' w' ∧ w'.ownsRow base 9 1 v' (n + m) (cellsS (xs ++ ms)) ∧ w.grownBy w' v.ownBlock := by
  subst hn; subst hm
  have e1 : cellsS (xs ++ ms) = cellsS xs ++ cellsS ms := by simp [cellsS]
  rw [e1]
  rcases A with _ | ad
  · obtain rfl := hA rfl
    have h0 : ms = [] := by
      by_cases hn : 0 < ms.length
      · obtain ⟨_, _, e, _⟩ := hR hn; cases e
      · exact List.eq_nil_of_length_eq_zero (by omega)
    subst h0
    exact ⟨v, w, run_append_owned_none (P := P) (w := w) base t ty 9 i 1 ht hi v xs.length (cellsS xs) hown, by simpa [cellsS] using hown, World.grownBy.refl w _⟩
  · obtain ⟨v', w', hr, h2, h3, _⟩ := run_append_own_at (P := P) w base t ty 9 i (.string ⟨#[]⟩) 1 16 ht hi hz hsize hby rfl (by decide) v xs.length (cellsS xs) hown ad ms.length c (cellsS ms) (by rw [cellsS_length]; omega) (by
      intro j u hu
      have hj : j < ms.length := by
        have := (List.getElem?_eq_some_iff.1 hu).1
        rwa [cellsS_length] at this
      obtain ⟨g, o, e, _, _⟩ := hR (by omega)
      injection e with e
      subst e
      exact rdS_cells hR j u hu) (by
      intro u hu
      simp only [cellsS, List.mem_map] at hu
      obtain ⟨_, _, rfl⟩ := hu
      rfl) (by unfold maxLen; omega) (by omega) hbase
    exact ⟨v', w', hr, h2, h3⟩
end
theorem own_emptyS (w : World) (base : Nat) (hb : base ≤ w.heap.size) : (w.alloc (.cells #[] 9)).ownsRow base 9 1 (.slice (some ⟨w.heap.size, 0, none⟩) 0 0) 0 (cellsS []) :=
  ⟨rfl, .inr ⟨w.heap.size, 0, #[], rfl, hb, heap_alloc_new w _, by simp, by unfold maxLen; omega, by simp, by simp [cellsS]⟩⟩
/-- An append as one step of a region that draws, whatever the world: rows of texts. -/
theorem step_append_S {P : Program} {w : World} {ops : Array Oper} {o : Oper} {a : Act} {K : Act → World → Prop} {Q : Exit → Act → World → Prop} {E : Prop} (hw : Region.wanted o (yielded ops a.tmps) = true) (s x : Operand) (t : TypeId)
    (ho : o.op = .call { callee := .builtin .append, args := #[s, x], argTypes := #[t, t] }) (v : Value) (A : Option Addr) (m c : Nat) (hs : a.eval s = v) (hx : a.eval x = .slice A m c)
    (base : Nat) (i : TypeInfo) (ht : P.underlying t = some (.slice 9)) (hi : P.info? 9 = some i) (hz : i.zero = some (.string ⟨#[]⟩)) (hsize : i.size = 1) (hby : i.bytes = 16)
    (xs : List ByteArray) (n : Nat) (hn : n = xs.length) (ms : List ByteArray) (hm : m = ms.length) (hA : A = none → c = 0) (hb : xs.length + ms.length ≤ 1099511627776)
    (hown : w.ownsRow base 9 1 v n (cellsS xs)) (hR : RdS w A ms) (hbase : base ≤ w.heap.size)
    (h : ∀ v' w', w'.ownsRow base 9 1 v' (n + m) (cellsS (xs ++ ms)) → w.grownBy w' v.ownBlock → K (a.put o.dst v') w') : if Region.wanted o (yielded ops a.tmps) = true then Oper.wp P o a w K Q else E := by
  obtain ⟨v', w', hr, h1, h2⟩ := run_append_S (P := P) w base t o.type i ht hi hz hsize hby v xs n hn hown A m c ms hm hA hR hb hbase
  exact step_append_g hw s x t ho v (.slice A m c) hs hx hr (h v' w' h1 h2)
/-- A row that was told, with what of it serves an append. -/
theorem own_formA {w : World} {base : Nat} {e : TypeId} {size : Nat} {v : Value} {n : Nat} {xs : List Value} (h : w.ownsRow base e size v n xs) : ∃ A c, v = .slice A n c ∧ (A = none → c = 0) ∧ n ≤ c ∧ c ≤ maxLen := by
  rcases h.2 with ⟨hv, h0⟩ | ⟨g, cap, cur, hv, _, _, hnc, hcm, _⟩
  · exact ⟨none, 0, by rw [hv, h0], fun _ => rfl, by omega, by unfold maxLen; omega⟩
  · exact ⟨_, _, hv, fun h => (by cases h), hnc, hcm⟩
theorem cut_rdA (l : List UInt8) (hl : l.length ≤ 1099511627776) (w : World) (hsp : Spans w) :
    Calls Tryd.prog 15 #[.string (bs l)] w fun e w' => ∃ A c, e = .returned (.slice A (cutL l).length c) ∧ RdS w' A ((cutL l).map bs) ∧ (A = none → c = 0) ∧ (cutL l).length ≤ c ∧ c ≤ maxLen ∧ Below w.heap.size w w' := by
  refine (cut_calls (bs l) (by rw [bs_size]; exact hl) w hsp).mono ?_
  rintro e w' ⟨v, rfl, hown, hb⟩
  rw [show cutB (bs l) = (cutL l).map bs from rfl] at hown
  obtain ⟨A, c, rfl, hA, h1, h2⟩ := own_formA hown
  obtain ⟨hR, _, _, _⟩ := rdS_of_own hown
  rw [List.length_map] at h1
  exact ⟨A, c, by rw [List.length_map], hR, hA, h1, h2, hb⟩
theorem RdS.take {w : World} {A : Option Addr} {ms : List ByteArray} (h : RdS w A ms) (k : Nat) : RdS w A (ms.take k) := fun hn => by
  rw [List.length_take] at hn
  obtain ⟨g, o, e, h1, h2⟩ := h (by omega)
  refine ⟨g, o, e, h1, fun i hi => ?_⟩
  rw [List.length_take] at hi
  rw [h2 i (by omega)]
  simp [List.getD, show i < k by omega]
theorem RdS.drop {w : World} {A : Option Addr} {ms : List ByteArray} (h : RdS w A ms) (c k : Nat) (hc : ms.length ≤ c) : RdS w (dropA A c k) (ms.drop k) := fun hn => by
  rw [List.length_drop] at hn
  obtain ⟨g, o, rfl, h1, h2⟩ := h (by omega)
  refine ⟨g, o + k, ?_, h1, fun i hi => ?_⟩
  · unfold dropA
    rw [if_neg (by omega)]
    simp [Addr.add]
  · rw [List.length_drop] at hi
    rw [Nat.add_assoc, h2 (k + i) (by omega)]
    simp [List.getD, List.getElem?_drop]
theorem RdS.drew {w : World} {A : Option Addr} {ms : List ByteArray} (h : RdS w A ms) : RdS w.drew A ms := h
end Go.Proofs.YtfoiihopalcioaaDoor
