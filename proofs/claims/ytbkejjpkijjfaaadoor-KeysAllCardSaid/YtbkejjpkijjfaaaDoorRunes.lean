/-
  sign.Runes: what the call comes to, in any memory.
-/
import Derived.Test.YtbkejjpkijjfaaaDoorRowB
import Derived.Test.YtbkejjpkijjfaaaDoorRowR
import Derived.Test.YtbkejjpkijjfaaaDoorNext
import Derived.WalkSmall
namespace Go.Proofs.YtbkejjpkijjfaaaDoor
open Go Go.RowKit

/-- What stands at a round's head: the iterator at pos, the row that holds the signs ahead of it. -/
def RunesAt (w : World) (s : ByteArray) (v : Value) (wr : World) (pos : Nat) (acc : List Nat) : Prop :=
  wr.heap[w.heap.size]? = some (.stringIter s pos) ∧ wr.ownsRow (w.heap.size + 1) 21 1 v acc.length (cells32 acc) ∧ Below w.heap.size w wr ∧ acc ++ runes (s.data.toList.drop pos) = runes s.data.toList ∧ acc.length ≤ pos ∧ pos ≤ s.size

theorem RunesAt.step {w : World} {s : ByteArray} {v v' : Value} {wr w1 : World} {pos : Nat} {acc : List Nat} {o : Obj} (h : RunesAt w s v wr pos acc) (hp : pos < s.size)
    (hown : w1.ownsRow (w.heap.size + 1) 21 1 v' (acc.length + 1) (cells32 acc ++ [.int .i32 ((Utf8.decode s pos).1 : Int)]))
    (hg : ((wr.iterAt w.heap.size s (pos + (Utf8.decode s pos).2)).alloc o).grownBy w1 v.ownBlock) : RunesAt w s v' w1 (pos + (Utf8.decode s pos).2) (acc ++ [(Utf8.decode s pos).1]) := by
  obtain ⟨hit, ho, hb, ha, hl, hps⟩ := h
  have hsz : w.heap.size < wr.heap.size := (Array.getElem?_eq_some_iff.1 hit).1
  have hrow : ∀ k, v.ownBlock = some k → w.heap.size + 1 ≤ k := fun k hk => (ho.lt k hk).1
  have hwd := Lib.width_pos s pos
  refine ⟨?_, ?_, ?_, ?_, ?_, decode_in s pos hp⟩
  · rw [hg.block w.heap.size (by simp [Lib.iterAt_size]; omega) (fun e => by have := hrow _ e.symm; omega)]
    rw [Below.heap_alloc _ _ _ (by rw [Lib.iterAt_size]; exact hsz)]
    exact Lib.iterAt_heap wr _ s pos _ hit
  · rw [cells32_snoc]; simpa using hown
  · refine ((Lib.below_iterAt hb (k := w.heap.size) (Nat.le_refl _) s _).alloc (by rw [Lib.iterAt_size]; omega) o).grown hg (by simp [Lib.iterAt_size]; omega) (fun k hk => by have := hrow k hk; omega)
  · rw [← ha, runes_drop s pos hp]; simp
  · simp; omega

set_option maxHeartbeats 1000000 in
theorem runes_core (A : Option Addr) (n c : Nat) (s : ByteArray) (w : World)
    (hconv : (convert 27 9 (.slice A n c)).run Tryd.prog w = .ok (.string s) w) (hs : s.size ≤ 1099511627776) :
    Calls Tryd.prog 36 #[.slice A n c] w fun e w' => ∃ v, e = .returned v ∧ w'.ownsRow w.heap.size 21 1 v (runes s.data.toList).length (cells32 (runes s.data.toList)) ∧ Below w.heap.size w w' := by
  obtain ⟨i0, hi, hz0, hz1, hz2⟩ := info_parts info32
  go_enter Tryd.func36, Tryd.ntmps36
  go_wp2_with fail
  go_loopw [3] (fun v wr => ∃ (pos : Nat) (acc : List Nat), RunesAt w s v wr pos acc) (fun _ wr => s.size - wr.iterPos w.heap.size)
  case atStart => exact ⟨0, [], World.iter_heap w s 0, World.ownsRow_nil _ _ _ _, below_iter w s 0, rfl, by simp, Nat.zero_le _⟩
  case round =>
    obtain ⟨pos, acc, hR⟩ := hrel
    obtain ⟨hit, ho, hb, ha, hl, hps⟩ := id hR
    have H := Lib.hid hR
    have Ha := Lib.hid ha
    clear hR ha
    by_cases hp : pos < s.size
    · have hnx : ∀ ty, (Instr.next (.pointer (some ⟨w.heap.size, 0, none⟩)) true ty).run Tryd.prog wr = _ := fun ty => Lib.run_next_any_at wr w.heap.size s pos ty hit hp
      have hsz : w.heap.size < wr.heap.size := (Array.getElem?_eq_some_iff.1 hit).1
      have Hit := Lib.hid hit
      clear hit
      have hsz2 : (wr.iterAt w.heap.size s (pos + (Utf8.decode s pos).2)).heap.size = wr.heap.size := Lib.iterAt_size _ _ _ _
      have Hsz2 := Lib.hid hsz2
      clear hsz2
      have ho2 := ownsRow_iterAt ho (k := w.heap.size) (by omega) s (pos + (Utf8.decode s pos).2)
      go_wp2_with (at_builtin; refine wpList_append_own _ rfl _ _ 46 rfl (w.heap.size + 1) 21 i0 (.int .i32 0) 1 4 Tryd.underlying46 hi hz0 hz1 hz2 rfl (by decide) _ _ _ rfl (ho2.alloc _) ⟨(wr.iterAt w.heap.size s (pos + (Utf8.decode s pos).2)).heap.size, 0, none⟩ 1 1 [.int .i32 ((Utf8.decode s pos).1 : Int)] rfl rfl ?c1 ?c2 ?c3 ?c4 ?c5 ?_)
      case c1 =>
        intro j u hj
        match j, hj with
        | 0, hj => simp at hj; subst hj; simp [Addr.add]
      case c2 => intro u hu; simp at hu; subst hu; rfl
      case c3 => unfold maxLen; omega
      case c4 => omega
      case c5 => simp [Hsz2.out]; omega
      intro v' w1 hown' hgrow _
      have HS := Lib.hid (H.out.step hp hown' hgrow)
      clear hown' hgrow
      go_wp2
      go_roundw
      case rel => exact ⟨_, _, HS.out⟩
      case measure =>
        have hwd := Lib.width_pos s pos
        rw [iterPos_of HS.out.1, iterPos_of Hit.out]
        omega
    · have hnx : ∀ ty, (Instr.next (.pointer (some ⟨w.heap.size, 0, none⟩)) true ty).run Tryd.prog wr = _ := fun ty => Lib.run_next_end_at wr w.heap.size s pos ty hit hp
      go_wp2
      go_ret
      have h0 : s.data.toList.drop pos = [] := List.drop_eq_nil_of_le (by rw [← Lib.size_eq]; omega)
      have ha := Ha.out
      rw [h0, runes_nil, List.append_nil] at ha
      subst ha
      exact ⟨_, rfl, own_less ho (by omega), hb⟩

theorem runes_calls (A : Option Addr) (c : Nat) (l : List UInt8) (w : World) (hb : Byt w A l) (hl : l.length ≤ 1099511627776) :
    Calls Tryd.prog 36 #[.slice A l.length c] w fun e w' => ∃ v, e = .returned v ∧ w'.ownsRow w.heap.size 21 1 v (runes l).length (cells32 (runes l)) ∧ Below w.heap.size w w' := by
  have hconv := hb.convert (P := Tryd.prog) c 27 5 9 Tryd.underlying27 Tryd.underlying5 Tryd.underlying9 l.length rfl
  have := runes_core A l.length c ⟨l.toArray⟩ w hconv (by simpa [ByteArray.size] using hl)
  simpa using this
end Go.Proofs.YtbkejjpkijjfaaaDoor
