/-
  A slice of bytes that is the tail of a row of the call's own, or nil: one byte more behind it.
-/
import Derived.Test.YtpndhffhdllmpaaDoorLawNext
import Derived.Test.YtpndhffhdllmpaaDoorFeedMath
namespace Go.Proofs.YtpndhffhdllmpaaDoor
open Go Go.RowKit

def Tail (w : World) (base : Nat) (A : Option Addr) (c : Nat) (s : List UInt8) : Prop :=
  s.length ≤ c ∧ c ≤ maxLen ∧ Byt w A s ∧ ((A = none ∧ c = 0) ∨ ∃ g o cur, A = some ⟨g, o, none⟩ ∧ base ≤ g ∧ w.heap[g]? = some (.cells cur 5 (0, 0)) ∧ o + c ≤ cur.size)
/-- The row in which it lies. -/
def rowOf (A : Option Addr) : Option Nat := A.map (·.block)

theorem Tail.keep {w w' : World} {base : Nat} {A : Option Addr} {c : Nat} {s : List UInt8} (h : Tail w base A c s) (hk : ∀ g, rowOf A = some g → g < w.heap.size → w'.heap[g]? = w.heap[g]?) : Tail w' base A c s := by
  obtain ⟨h1, h2, h3, h4⟩ := h
  refine ⟨h1, h2, ?_, ?_⟩
  · intro hn
    obtain ⟨b, o, e, hb, hc⟩ := h3.at_ hn
    subst e
    refine ⟨b, o, rfl, fun i hi => ?_⟩
    rw [World.cell?_of_block (w := w) (a := ⟨b, o + i, none⟩) (hk b rfl hb), hc i hi, nums_getD]
  · rcases h4 with h4 | ⟨g, o, cur, e, hg, hh, hs⟩
    · exact .inl h4
    · subst e
      exact .inr ⟨g, o, cur, rfl, hg, by rw [hk g rfl (Array.getElem?_eq_some_iff.1 hh).1]; exact hh, hs⟩
theorem Tail.below {w w' : World} {base : Nat} {A : Option Addr} {c : Nat} {s : List UInt8} (h : Tail w base A c s) (hb : Below w.heap.size w w') : Tail w' base A c s := h.keep fun g _ hg => hb.block g hg
theorem Tail.nil_ (w : World) (base : Nat) : Tail w base none 0 [] := ⟨by simp, by unfold maxLen; omega, Byt.nil_ _ _, .inl ⟨rfl, rfl⟩⟩
theorem Tail.row {w : World} {base : Nat} {A : Option Addr} {c : Nat} {s : List UInt8} (h : Tail w base A c s) (g : Nat) (hg : rowOf A = some g) : base ≤ g ∧ ∃ cur, w.heap[g]? = some (.cells cur 5 (0, 0)) := by
  rcases h.2.2.2 with ⟨e, _⟩ | ⟨g', o, cur, e, hb, hh, _⟩
  · subst e; cases hg
  · subst e
    injection hg with hg
    subst hg
    exact ⟨hb, cur, hh⟩
theorem Tail.cut {w : World} {base : Nat} {A : Option Addr} {c : Nat} {s : List UInt8} (h : Tail w base A c s) (k : Nat) (hk : k ≤ s.length) : Tail w base (dropA A c k) (c - k) (s.drop k) := by
  obtain ⟨h1, h2, h3, h4⟩ := h
  refine ⟨by rw [List.length_drop]; omega, by unfold maxLen at h2 ⊢; omega, h3.drop c k h1, ?_⟩
  rcases h4 with ⟨e, e2⟩ | ⟨g, o, cur, e, hg, hh, hs⟩
  · subst e; subst e2
    refine .inl ⟨?_, by omega⟩
    unfold dropA
    split <;> rfl
  · subst e
    unfold dropA
    by_cases hck : c = k
    · rw [if_pos hck]
      exact .inr ⟨g, o, cur, rfl, hg, hh, by omega⟩
    · rw [if_neg hck]
      refine .inr ⟨g, o + k, cur, ?_, hg, hh, by omega⟩
      simp [Addr.add]
theorem own_tail_ne {w : World} {base base2 : Nat} {A : Option Addr} {c : Nat} {s : List UInt8} {v : Value} {n : Nat} {xs : List Value} (h : Tail w base A c s) (ho : w.ownsRow base2 21 1 v n xs) (g : Nat) (hg : rowOf A = some g) : v.ownBlock ≠ some g := by
  obtain ⟨_, cur, hh⟩ := h.row g hg
  rcases ho.2 with ⟨rfl, _⟩ | ⟨g', cap, cur', rfl, _, hh', _⟩
  · simp [Value.ownBlock]
  · intro e
    have : g' = g := by simpa [Value.ownBlock] using e
    subst this
    rw [hh] at hh'
    injection hh' with hh'
    injection hh' with _ ht
    exact absurd ht (by decide)

/-- One byte more. -/
theorem run_append_tail {P : Program} (w : World) (base : Nat) (t ty : TypeId) (i : TypeInfo) (ht : P.underlying t = some (.slice 5)) (hi : P.info? 5 = some i) (hz : i.zero = some (.int .u8 0)) (hsize : i.size = 1) (hby : i.bytes = 1)
    (A : Option Addr) (c : Nat) (s : List UInt8) (h : Tail w base A c s) (k : Nat) (u : UInt8) (hk : w.cell? ⟨k, 0, none⟩ = some (.int .u8 (u.toNat : Int))) (hs : s.length ≤ 1000000) (hbase : base ≤ w.heap.size) :
    ∃ A' c' w', (Builtin.append_ #[t, t] ty #[.slice A s.length c, .slice (some ⟨k, 0, none⟩) 1 1]).run P w = .ok (.slice A' (s.length + 1) c') w' ∧ Tail w' base A' c' (s ++ [u]) ∧ w.grownBy w' (rowOf A) := by
  have hnews : ∀ j v, [Value.int .u8 (u.toNat : Int)][j]? = some v → w.cell? ((⟨k, 0, none⟩ : Addr).add j) = some v := by
    intro j v hj
    match j, hj with
    | 0, hj => simp at hj; subst hj; simpa [Addr.add] using hk
  have e : Lib.byteCells s ++ [.int .u8 (u.toNat : Int)] = Lib.byteCells (s ++ [u]) := by simp [Lib.byteCells]
  have fromOwn : ∀ (v' : Value) (w' : World), w'.ownsRow base 5 1 v' (s.length + 1) (Lib.byteCells (s ++ [u])) → ∃ A' c', v' = .slice A' (s.length + 1) c' ∧ Tail w' base A' c' (s ++ [u]) := by
    intro v' w' ho
    have hle : (s ++ [u]).length = s.length + 1 := by simp
    rw [← hle] at ho ⊢
    obtain ⟨A', c', rfl⟩ := own_form ho
    obtain ⟨hB, _, hl, hm⟩ := byt_of_own ho
    refine ⟨A', c', rfl, hl, hm, hB, ?_⟩
    rcases ho.2 with ⟨hv, h0⟩ | ⟨g, cap, cur, hv, hg, hh, _, _, hcs, _⟩
    · simp at h0
    · injection hv with q1 q2 q3
      subst q1; subst q3
      exact .inr ⟨g, 0, cur, rfl, hg, hh, by omega⟩
  obtain ⟨h1, h2, h3, h4⟩ := h
  rcases h4 with ⟨e1, e2⟩ | ⟨g, o, cur, e1, hg, hh, hcs⟩
  · subst e1; subst e2
    obtain rfl : s = [] := List.eq_nil_of_length_eq_zero (by omega)
    obtain ⟨v', w', hr, ho, hgr, _⟩ := run_append_own_at (P := P) w base t ty 5 i (.int .u8 0) 1 1 ht hi hz hsize hby rfl (by decide) (.slice none 0 0) 0 [] (World.ownsRow_nil _ _ _ _) ⟨k, 0, none⟩ 1 1 [.int .u8 (u.toNat : Int)] rfl hnews (by simp [Value.oneCell']) (by unfold maxLen; omega) (by omega) hbase
    obtain ⟨A', c', rfl, hT⟩ := fromOwn v' w' (by simpa [Lib.byteCells] using ho)
    exact ⟨A', c', w', hr, hT, hgr⟩
  · subst e1
    have hfz : ∀ j, w.frozen? ⟨g, j, none⟩ = false := fun j => by simp [World.frozen?, hh]
    by_cases hroom : s.length + 1 ≤ c
    · have hsome : (w.cell? ⟨g, o + s.length, none⟩).isSome = true := by
        simp only [World.cell?, hh]
        simp
        omega
      have hr := run_append_room_cells (P := P) w t ty 5 i ht hi g o s.length c ⟨k, 0, none⟩ 1 1 [.int .u8 (u.toNat : Int)] (by simp [hsize]) hnews (by simp [Value.oneCell']) hroom (by
        intro j hj
        obtain rfl : j = 0 := by simpa using hj
        rw [hsize]
        simpa using hsome) (by intro j hj; exact hfz _)
      rw [hsize] at hr
      refine ⟨_, _, _, hr, ⟨by simp; omega, h2, ?_, ?_⟩, ?_⟩
      · have hin : (w.setCells g (o + s.length * 1) [.int .u8 (u.toNat : Int)]).cell? ⟨g, o + s.length, none⟩ = some (.int .u8 (u.toNat : Int)) := by
          have := World.cell?_setCells_in g [.int .u8 (u.toNat : Int)] (o + s.length * 1) w (by
            intro j hj
            obtain rfl : j = 0 := by simpa using hj
            simpa using hsome) 0 (by simp)
          simpa using this
        refine Byt.mk_ fun i hi => ?_
        rw [List.length_append] at hi
        simp at hi
        by_cases hlt : i < s.length
        · rw [World.cell?_setCells_out g _ _ w ⟨g, o + i, none⟩ (fun _ _ => .inl (by show o + i < _; omega))]
          obtain ⟨b', o', e', _, hc⟩ := h3.at_ (by omega)
          injection e' with e'
          injection e' with q1 q2
          subst q1; subst q2
          rw [hc i hlt]
          simp [List.getD, List.getElem?_append, hlt]
        · obtain rfl : i = s.length := by omega
          rw [hin]
          simp [List.getD]
      · refine .inr ⟨g, o, cur.setIfInBounds (o + s.length) (.int .u8 (u.toNat : Int)), rfl, hg, ?_, by simpa using hcs⟩
        simp [World.setCells, World.setCell, Array.getElem?_modify, hh]
      · refine ⟨World.os_setCells _ _ _ _, ?_, World.output_setCells _ _ _ _, ?_, fun j hj hne => World.heap_setCells_other w g _ _ hj (by rintro rfl; exact hne rfl)⟩
        · simp [World.setCells]
        · simp [World.setCells]
    · obtain ⟨v', w', hr, ho, hgr⟩ := run_append_arg_grows (P := P) w t ty 5 i (.int .u8 0) 1 1 ht hi hz hsize hby rfl (by decide) ⟨g, o, none⟩ s.length c (Lib.byteCells s) (by rw [Lib.byteCells_length]; omega) (by
        intro j v hj
        rw [Addr.add_lit]
        exact byt_cells h3 j v hj) ⟨k, 0, none⟩ 1 1 [.int .u8 (u.toNat : Int)] rfl hnews (by omega) (by unfold maxLen; omega) (by omega)
      rw [e] at ho
      obtain ⟨A', c', rfl, hT⟩ := fromOwn v' w' (own_less ho hbase)
      exact ⟨A', c', w', hr, hT, ⟨hgr.os, hgr.tape, hgr.output, hgr.size, fun j hj _ => hgr.block j hj (by simp)⟩⟩
end Go.Proofs.YtpndhffhdllmpaaDoor
