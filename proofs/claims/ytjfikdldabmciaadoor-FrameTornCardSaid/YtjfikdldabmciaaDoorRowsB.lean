/-
  Rows of bytes as one argument.
-/
import Derived.Test.YtjfikdldabmciaaDoorArgByt
import Derived.Test.YtjfikdldabmciaaDoorRdB
import Derived.Deep.Matrix
namespace Go.Proofs.YtjfikdldabmciaaDoor
open Go Go.RowKit Go.ChangeShapes Go.WideShapes Go.ChangeAt Go.Deep
set_option maxRecDepth 100000

theorem cellsBs : Tryd.prog.cellsOf 22 = 1 := by kernel_rfl
theorem spot_noneR {W : World} {a : Addr} {v : Value} (h : W.cell? a = some v) : a.spot = none := by
  unfold World.cell? at h
  split at h
  · split at h
    · cases h
    · rename_i hs
      cases hh : a.spot with
      | none => rfl
      | some x => rw [hh] at hs; exact absurd rfl hs
  · cases h
theorem u8_nat {z : Int} (h : (Lit.int .u8 z).wf = true) : ((UInt8.ofNat z.toNat).toNat : Int) = z := by
  have h1 : IntKind.u8.min = 0 := rfl
  have h2 : IntKind.u8.max = 255 := rfl
  simp only [Lit.wf, Bool.and_eq_true, decide_eq_true_eq] at h
  rw [UInt8.toNat_ofNat', Nat.mod_eq_of_lt (by omega)]
  omega
theorem byt_row {W : World} {A : Option Addr} {L C : Nat} {Z : List Int} (hLC : L ≤ C) (hZ : Z.length = C) (hw : ∀ n ∈ Z, (Lit.int .u8 n).wf = true) (hn : A = none → C = 0)
    (hc : ∀ a', A = some a' → ∀ c, c < C → W.cell? (a'.add c) = some (.int .u8 (Z.getD c 0))) : Byt W A ((List.range L).map fun c => UInt8.ofNat (Z.getD c 0).toNat) := by
  by_cases h0 : L = 0
  · subst h0; exact Byt.nil_ _ _
  cases A with
  | none => have := hn rfl; omega
  | some a =>
    have h1 := hc a rfl 0 (by omega)
    obtain ⟨b, o, s⟩ := a
    have hs' : s = none := by simpa [Addr.add] using spot_noneR h1
    subst hs'
    refine Byt.mk_ fun i hi => ?_
    have hiL : i < L := by simpa using hi
    have := hc _ rfl i (by omega)
    rw [Addr.add_lit] at this
    rw [this, List.getD_eq_getElem?_getD (l := List.map _ _), List.getElem?_map, List.getElem?_range hiL]
    show _ = some (Value.int .u8 ((UInt8.ofNat (Z.getD i 0).toNat).toNat : Int))
    rw [u8_nat (hw _ (by rw [List.getD_eq_getElem?_getD, List.getElem?_eq_getElem (by omega)]; exact List.getElem_mem _))]
theorem weightsAll_memR {H : Type} {P : Program} {e : TypeId} {l : List (DataW H)} {d : DataW H} (hd : d ∈ l) : ∀ k ∈ d.weights P e, k ∈ DataW.weightsAll P e l := by
  induction l with
  | nil => cases hd
  | cons x r ih =>
    intro k hk
    unfold DataW.weightsAll
    rcases List.mem_cons.1 hd with rfl | hd
    · exact List.mem_append_left _ hk
    · exact List.mem_append_right _ (ih hd k hk)
theorem row_weight {H : Type} {A : Option Addr} {L C : Nat} {Z : List Int} (hZ : Z.length = C) (hn : A = none → C = 0) (hLC : L ≤ C) (hw : ∀ k ∈ (intRow (H := H) .u8 A L Z).weights Tryd.prog 22, k ≤ reachBytes) : L ≤ reachBytes := by
  cases A with
  | none => have := hn rfl; omega
  | some a =>
    have := hw (C * Tryd.prog.bytesOf 5) (by
      simp only [intRow, DataW.weights, Tryd.underlying22]
      refine List.mem_cons.2 (.inl ?_)
      rw [← hZ]
      congr 1
      simp [lits]
      omega)
    rw [show Tryd.prog.bytesOf 5 = 1 by kernel_rfl] at this
    omega
theorem opened_rows {H : Type} {enc : TypeId × Value → H} {W : World} {a0 : Option Addr} {len cap : Nat} {d0 : DataW H} {p : List MemPlace}
    (h0 : DataW.Trod enc Tryd.prog W 0 (fun _ => true) true 31 (.slice a0 len cap) d0 p) (hw : ∀ k ∈ d0.weights Tryd.prog 31, k ≤ reachBytes) :
    ∃ ls : List (List UInt8), ls.length = len ∧ len ≤ cap ∧ cap ≤ maxLen ∧ RdBs W a0 ls ∧ ∀ l ∈ ls, l.length ≤ reachBytes := by
  obtain ⟨fuel, hf⟩ := h0
  rcases open_int_rows Tryd.underlying31 Tryd.underlying22 Tryd.underlying5 cellsBs cellsU8 hf with ⟨hcs, _⟩ | ⟨a, len', cap', A, L, C, Z, hcs, _, hl, hm, hx, hr⟩
  · simp [Value.cells] at hcs
    obtain ⟨rfl, rfl, rfl⟩ := hcs
    exact ⟨[], rfl, by omega, by unfold maxLen; omega, fun hn => (by simp at hn), fun l hl => by cases hl⟩
  · simp [Value.cells] at hcs
    obtain ⟨rfl, rfl, rfl⟩ := hcs
    have hrow : ∀ r, r < cap → ((List.range (L r)).map fun c => UInt8.ofNat ((Z r).getD c 0).toNat).length = L r := fun r _ => by simp
    refine ⟨(List.range len).map fun r => (List.range (L r)).map fun c => UInt8.ofNat ((Z r).getD c 0).toNat, by simp, hl, hm, fun hn => ?_, fun l hl' => ?_⟩
    · have hn' : 0 < len := by simpa using hn
      have h0 := (hr 0 (by omega)).1
      obtain ⟨b, o, s⟩ := a
      have hs' : s = none := by simpa [Addr.add] using spot_noneR h0
      subst hs'
      refine ⟨b, o, rfl, by simpa [Addr.add] using World.block_lt_of_cell? _ _ h0, fun i l hi => ?_⟩
      have hil : i < len := by have := (List.getElem?_eq_some_iff.1 hi).1; simpa using this
      rw [List.getElem?_map, List.getElem?_range hil] at hi
      have hi : ((List.range (L i)).map fun c => UInt8.ofNat ((Z i).getD c 0).toNat) = l := by simpa using hi
      subst hi
      obtain ⟨q1, q2, q3, q4, q5, q6, q7⟩ := hr i (by omega)
      rw [Addr.add_lit] at q1
      exact ⟨A i, C i, by simpa using q1, byt_row q2 q4 q5 q6 (fun a' e => (q7 a' e).2), q6⟩
    · obtain ⟨r, hr', rfl⟩ := List.mem_map.1 hl'
      have hrl := List.mem_range.1 hr'
      obtain ⟨q1, q2, q3, q4, q5, q6, q7⟩ := hr r (by omega)
      rw [List.length_map, List.length_range]
      refine row_weight (H := H) q4 q6 q2 (fun k hk => hw k ?_)
      have hd : d0 = .slice ((List.range len).map fun r => intRow .u8 (A r) (L r) (Z r)) ((List.range (cap - len)).map fun j => intRow .u8 (A (len + j)) (L (len + j)) (Z (len + j))) := congrArg Prod.fst hx
      rw [hd]
      simp only [DataW.weights, Tryd.underlying31]
      exact List.mem_cons_of_mem _ (List.mem_append_left _ (weightsAll_memR (List.mem_map.2 ⟨r, List.mem_range.2 hrl, rfl⟩) k hk))
end Go.Proofs.YtjfikdldabmciaaDoor
