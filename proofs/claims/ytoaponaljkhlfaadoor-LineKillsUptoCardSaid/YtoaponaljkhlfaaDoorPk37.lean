/-
  Layer 7 and what it stands on, part 37 (Bulk).
-/
import Derived.Test.YtoaponaljkhlfaaDoorPk36
import Derived.Test.YtoaponaljkhlfaaDoorRows
namespace Go.Proofs.YtoaponaljkhlfaaDoor
section
open Go Go.RowKit Go.ChangeShapes Go.WideShapes Go.ChangeAt Go.ChangeMaps Go.Deep
theorem bulk_pos {H : Type} (d : DataW H) : 1 ≤ Rows.uptoBulk d := by
  cases d with
  | lit l => cases l <;> (unfold Rows.uptoBulk; omega)
  | nil => unfold Rows.uptoBulk; omega
  | ptr d => unfold Rows.uptoBulk; omega
  | slice elems spare => unfold Rows.uptoBulk; omega
  | agg parts => unfold Rows.uptoBulk; omega
  | iface t d => unfold Rows.uptoBulk; omega
  | map entries => unfold Rows.uptoBulk; omega
  | held h => unfold Rows.uptoBulk; omega
theorem bulk_in {H : Type} {d : DataW H} : ∀ {l : List (DataW H)}, d ∈ l → Rows.uptoBulk d ≤ Rows.uptoBulkAll l
  | [], h => absurd h List.not_mem_nil
  | x :: r, h => by
    unfold Rows.uptoBulkAll
    rcases List.mem_cons.1 h with e | e
    · rw [e]; omega
    · have := bulk_in e; omega
theorem bulk_len {H : Type} : ∀ l : List (DataW H), l.length ≤ Rows.uptoBulkAll l
  | [] => Nat.zero_le _
  | x :: r => by
    unfold Rows.uptoBulkAll
    have h1 := bulk_pos x
    have h2 := bulk_len r
    rw [List.length_cons]
    omega
theorem bulk_str {H : Type} (b : List UInt8) : Rows.uptoBulk (DataW.lit (H := H) (.string b)) = b.length + 1 := by unfold Rows.uptoBulk; rfl
theorem small_of {H : Type} {ds : List (DataW H)} (h : Rows.uptoSmall H ds = true) : Rows.uptoBulkAll ds ≤ 1048576 := of_decide_eq_true h
/-- A slice of texts: each text's size, and how many there are. -/
theorem opened_strsU {H : Type} {enc : TypeId × Value → H} {W : World} {a0 : Option Addr} {len cap : Nat} {d0 : DataW H} {p : List MemPlace}
    (h0 : DataW.Trod enc Tryd.prog W 0 (fun _ => true) true 33 (.slice a0 len cap) d0 p) :
    ∃ zs : List ByteArray, zs.length = len ∧ len ≤ cap ∧ cap ≤ maxLen ∧ RdV Value.string W a0 zs ∧ zs.length ≤ Rows.uptoBulk d0 ∧ ∀ s ∈ zs, s.size ≤ Rows.uptoBulk d0 := by
  obtain ⟨fuel, hf⟩ := h0
  rcases open_strings Tryd.underlying33 Tryd.underlying9 cellsSV hf with ⟨hcs, _⟩ | ⟨a, len', cap', zs, hcs, _, hl, hm, hz, hx, hcell, hmx⟩
  · simp [Value.cells] at hcs
    obtain ⟨rfl, rfl, rfl⟩ := hcs
    exact ⟨[], rfl, by omega, by unfold maxLen; omega, fun hn => (by simp at hn), Nat.zero_le _, fun s hs => by cases hs⟩
  · simp [Value.cells] at hcs
    obtain ⟨rfl, rfl, rfl⟩ := hcs
    simp only [if_true] at hz
    have hd : d0 = .slice (strs (zs.take len)) (strs (zs.drop len)) := congrArg Prod.fst hx
    have hb : Rows.uptoBulkAll (strs (H := H) (zs.take len)) + 1 ≤ Rows.uptoBulk d0 := by
      rw [hd]
      conv => rhs; unfold Rows.uptoBulk
      omega
    refine ⟨zs.take len, by simp; omega, by omega, hm, fun hn => ?_, ?_, fun s hs => ?_⟩
    · simp only [List.length_take] at hn
      have h0 := hcell 0 (by omega)
      have hs := spot_noneS h0
      obtain ⟨b, o, s⟩ := a
      have hs' : s = none := by simpa [Addr.add] using hs
      subst hs'
      refine ⟨b, o, rfl, ?_, fun i x hi => ?_⟩
      · simpa [Addr.add] using World.block_lt_of_cell? _ _ h0
      · have hi2 := (List.getElem?_eq_some_iff.1 hi).1
        simp only [List.length_take] at hi2
        have := hcell i (by omega)
        rw [Addr.add_lit] at this
        rw [this]
        rw [List.getElem?_take, if_pos (by omega)] at hi
        simp [List.getD, hi]
    · have h1 := bulk_len (strs (H := H) (zs.take len))
      have h2 : (strs (H := H) (zs.take len)).length = (zs.take len).length := by unfold strs; rw [List.length_map]
      omega
    · have h1 : DataW.lit (H := H) (.string s.data.toList) ∈ strs (zs.take len) := by unfold strs; exact List.mem_map_of_mem hs
      have h2 := bulk_in h1
      rw [bulk_str] at h2
      have h3 : s.data.toList.length = s.size := by simp
      omega
end
end Go.Proofs.YtoaponaljkhlfaaDoor
