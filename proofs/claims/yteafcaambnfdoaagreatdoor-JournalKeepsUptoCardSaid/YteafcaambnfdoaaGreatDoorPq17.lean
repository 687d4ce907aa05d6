/-
  Layer 7 and what it stands on, part 17 (Bulk0).
-/
import Derived.Test.YteafcaambnfdoaaGreatDoorRows
import Derived.Deep.Slices
import Derived.SizedLaws
import Derived.SliceStrings
import Derived.ChangeMaps5
namespace Go.Proofs.YteafcaambnfdoaaGreatDoor
section
open Go
theorem bulk_pos {H : Type} (d : DataW H) : 1 ≤ Rows.uptoBulk d := by
 cases d with
 | lit l => cases l <;> (unfold Rows.uptoBulk; omega)
 | nil => unfold Rows.uptoBulk; omega
 | ptr d => unfold Rows.uptoBulk; omega
 | slice elems spare => unfold Rows.uptoBulk; omega
 | agg parts => unfold Rows.uptoBulk; omega
 | iface t d => unfold Rows.uptoBulk; omega
 | map entries => unfold Rows.uptoBulk; omega
 | held h => unfold Rows.uptoBulk; omega
theorem bulk_in {H : Type} {d : DataW H} : ∀ {l : List (DataW H)}, d ∈ l → Rows.uptoBulk d ≤ Rows.uptoBulkAll l
 | [], h => absurd h List.not_mem_nil
 | x :: r, h => by
  unfold Rows.uptoBulkAll
  rcases List.mem_cons.1 h with e | e
  ·rw [e]; omega
  ·have := bulk_in e; omega
theorem bulk_len {H : Type} : ∀ l : List (DataW H), l.length ≤ Rows.uptoBulkAll l
 | [] => Nat.zero_le _
 | x :: r => by
  unfold Rows.uptoBulkAll
  have h1 := bulk_pos x
  have h2 := bulk_len r
  rw [List.length_cons]
  omega
theorem bulk_str {H : Type} (b : List UInt8) : Rows.uptoBulk (DataW.lit (H := H) (.string b)) = b.length + 1 := by unfold Rows.uptoBulk; rfl
theorem small_of {H : Type} {ds : List (DataW H)} (h : Rows.uptoSmall H ds = true) : Rows.uptoBulkAll ds ≤ 1048576 := of_decide_eq_true h
theorem bulk_agg {H : Type} {d : DataW H} {parts : List (DataW H)} (h : d ∈ parts) : Rows.uptoBulk d ≤ Rows.uptoBulk (.agg parts) := by
 have := bulk_in h
 conv => rhs; unfold Rows.uptoBulk
 omega
theorem bulk_elem {H : Type} {d : DataW H} {elems spare : List (DataW H)} (h : d ∈ elems) : Rows.uptoBulk d ≤ Rows.uptoBulk (.slice elems spare) := by
 have := bulk_in h
 conv => rhs; unfold Rows.uptoBulk
 omega
theorem bulk_slice {H : Type} (elems spare : List (DataW H)) : elems.length ≤ Rows.uptoBulk (.slice elems spare) := by
 have := bulk_len elems
 conv => rhs; unfold Rows.uptoBulk
 omega
end
end Go.Proofs.YteafcaambnfdoaaGreatDoor
