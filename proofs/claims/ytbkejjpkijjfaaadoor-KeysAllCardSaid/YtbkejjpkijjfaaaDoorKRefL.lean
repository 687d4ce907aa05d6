/-
  Small functions of the document's keys: what the calls come to, in any memory.
  The document's keys: has a paste begun, a sign's key.
-/
import Derived.Test.YtbkejjpkijjfaaaDoorBs
import Derived.Test.YtbkejjpkijjfaaaDoorBx
import Derived.Test.YtbkejjpkijjfaaaDoorKeyMath
import Derived.Test.YtbkejjpkijjfaaaDoorAllMath
import Derived.Test.YtbkejjpkijjfaaaDoorKEsc
import Derived.Test.YtbkejjpkijjfaaaDoorRPlain
import Derived.Test.YtbkejjpkijjfaaaDoorKAlive
namespace Go.Proofs.YtbkejjpkijjfaaaDoor
open Go Go.RowKit
set_option maxRecDepth 100000

set_option maxHeartbeats 2000000 in
theorem rarrow_calls (x : Nat) (w : World) :
    Calls Tryd.prog 51 #[.int .u8 (x : Int)] w fun e w' => e = .returned (.int .i64 (arrowL x : Int)) ∧ w = w' := by
  by_cases h65 : x = 65
  · subst h65
    rw [show arrowL 65 = 19 by decide]
    go_enter Tryd.func51, Tryd.ntmps51
    go_wp2
    go_ret
    exact ⟨rfl, rfl⟩
  by_cases h66 : x = 66
  · subst h66
    rw [show arrowL 66 = 20 by decide]
    go_enter Tryd.func51, Tryd.ntmps51
    go_wp2
    go_ret
    exact ⟨rfl, rfl⟩
  by_cases h67 : x = 67
  · subst h67
    rw [show arrowL 67 = 6 by decide]
    go_enter Tryd.func51, Tryd.ntmps51
    go_wp2
    go_ret
    exact ⟨rfl, rfl⟩
  by_cases h68 : x = 68
  · subst h68
    rw [show arrowL 68 = 5 by decide]
    go_enter Tryd.func51, Tryd.ntmps51
    go_wp2
    go_ret
    exact ⟨rfl, rfl⟩
  by_cases h72 : x = 72
  · subst h72
    rw [show arrowL 72 = 7 by decide]
    go_enter Tryd.func51, Tryd.ntmps51
    go_wp2
    go_ret
    exact ⟨rfl, rfl⟩
  by_cases h70 : x = 70
  · subst h70
    rw [show arrowL 70 = 8 by decide]
    go_enter Tryd.func51, Tryd.ntmps51
    go_wp2
    go_ret
    exact ⟨rfl, rfl⟩
  have E : arrowL x = 0 := by simp [arrowL, h65, h66, h67, h68, h72, h70]
  rw [E]
  have e65 : ((x : Int) == 65) = false := beq_eq_false_iff_ne.2 (by omega)
  have e66 : ((x : Int) == 66) = false := beq_eq_false_iff_ne.2 (by omega)
  have e67 : ((x : Int) == 67) = false := beq_eq_false_iff_ne.2 (by omega)
  have e68 : ((x : Int) == 68) = false := beq_eq_false_iff_ne.2 (by omega)
  have e72 : ((x : Int) == 72) = false := beq_eq_false_iff_ne.2 (by omega)
  have e70 : ((x : Int) == 70) = false := beq_eq_false_iff_ne.2 (by omega)
  clear E
  go_enter Tryd.func51, Tryd.ntmps51
  go_wp2
  go_ret
  exact ⟨rfl, rfl⟩
theorem ctl_cells : ∀ x, x < 32 → (#[.int .i64 0, .int .i64 7, .int .i64 5, .int .i64 0, .int .i64 4, .int .i64 8, .int .i64 6, .int .i64 22, .int .i64 3, .int .i64 23, .int .i64 2, .int .i64 11, .int .i64 25, .int .i64 2, .int .i64 20, .int .i64 0, .int .i64 19, .int .i64 0, .int .i64 21, .int .i64 0, .int .i64 24, .int .i64 12, .int .i64 0, .int .i64 13, .int .i64 18, .int .i64 15, .int .i64 0, .int .i64 0, .int .i64 0, .int .i64 0, .int .i64 0, .int .i64 17] : Array Value)[x]? = some (.int .i64 ((ctlsL.getD x 0 : Nat) : Int)) := by
  intro x hx
  have h : ∀ n : Fin 32, (#[.int .i64 0, .int .i64 7, .int .i64 5, .int .i64 0, .int .i64 4, .int .i64 8, .int .i64 6, .int .i64 22, .int .i64 3, .int .i64 23, .int .i64 2, .int .i64 11, .int .i64 25, .int .i64 2, .int .i64 20, .int .i64 0, .int .i64 19, .int .i64 0, .int .i64 21, .int .i64 0, .int .i64 24, .int .i64 12, .int .i64 0, .int .i64 13, .int .i64 18, .int .i64 15, .int .i64 0, .int .i64 0, .int .i64 0, .int .i64 0, .int .i64 0, .int .i64 17] : Array Value)[n.1]? = some (.int .i64 ((ctlsL.getD n.1 0 : Nat) : Int)) := by
    intro n
    match n with
    | ⟨0, _⟩ | ⟨1, _⟩ | ⟨2, _⟩ | ⟨3, _⟩ | ⟨4, _⟩ | ⟨5, _⟩ | ⟨6, _⟩ | ⟨7, _⟩ | ⟨8, _⟩ | ⟨9, _⟩ | ⟨10, _⟩ | ⟨11, _⟩ | ⟨12, _⟩ | ⟨13, _⟩ | ⟨14, _⟩ | ⟨15, _⟩ | ⟨16, _⟩ | ⟨17, _⟩ | ⟨18, _⟩ | ⟨19, _⟩ | ⟨20, _⟩ | ⟨21, _⟩ | ⟨22, _⟩ | ⟨23, _⟩ | ⟨24, _⟩ | ⟨25, _⟩ | ⟨26, _⟩ | ⟨27, _⟩ | ⟨28, _⟩ | ⟨29, _⟩ | ⟨30, _⟩ | ⟨31, _⟩ => rfl
    | ⟨n + 32, h⟩ => exact absurd h (by omega)
  exact h ⟨x, hx⟩
set_option maxHeartbeats 8000000 in
theorem rlow_calls (x : Nat) (hx : x < 32) (w : World) :
    Calls Tryd.prog 39 #[.int .i64 (x : Int)] w fun e w' => e = .returned (.int .i64 (ctlsL.getD x 0 : Int)) ∧ Below w.heap.size w w' := by
  have hbel : Hid (Below w.heap.size w (w.alloc (.cells #[.int .i64 0, .int .i64 7, .int .i64 5, .int .i64 0, .int .i64 4, .int .i64 8, .int .i64 6, .int .i64 22, .int .i64 3, .int .i64 23, .int .i64 2, .int .i64 11, .int .i64 25, .int .i64 2, .int .i64 20, .int .i64 0, .int .i64 19, .int .i64 0, .int .i64 21, .int .i64 0, .int .i64 24, .int .i64 12, .int .i64 0, .int .i64 13, .int .i64 18, .int .i64 15, .int .i64 0, .int .i64 0, .int .i64 0, .int .i64 0, .int .i64 0, .int .i64 17] 3))) := Lib.hid ((Below.refl _ w).alloc (Nat.le_refl _) _)
  have hc : (w.alloc (.cells #[.int .i64 0, .int .i64 7, .int .i64 5, .int .i64 0, .int .i64 4, .int .i64 8, .int .i64 6, .int .i64 22, .int .i64 3, .int .i64 23, .int .i64 2, .int .i64 11, .int .i64 25, .int .i64 2, .int .i64 20, .int .i64 0, .int .i64 19, .int .i64 0, .int .i64 21, .int .i64 0, .int .i64 24, .int .i64 12, .int .i64 0, .int .i64 13, .int .i64 18, .int .i64 15, .int .i64 0, .int .i64 0, .int .i64 0, .int .i64 0, .int .i64 0, .int .i64 17] 3)).cell? ⟨w.heap.size, x, none⟩ = some (.int .i64 ((ctlsL.getD x 0 : Nat) : Int)) := by
    have h := World.alloc_heap_new w (.cells #[.int .i64 0, .int .i64 7, .int .i64 5, .int .i64 0, .int .i64 4, .int .i64 8, .int .i64 6, .int .i64 22, .int .i64 3, .int .i64 23, .int .i64 2, .int .i64 11, .int .i64 25, .int .i64 2, .int .i64 20, .int .i64 0, .int .i64 19, .int .i64 0, .int .i64 21, .int .i64 0, .int .i64 24, .int .i64 12, .int .i64 0, .int .i64 13, .int .i64 18, .int .i64 15, .int .i64 0, .int .i64 0, .int .i64 0, .int .i64 0, .int .i64 0, .int .i64 17] 3)
    unfold World.cell?
    rw [h]
    exact ctl_cells x hx
  have hx2 : (x : Int) < 32 := by omega
  have hx3 : (0 : Int) ≤ (x : Int) := by omega
  generalize ctlsL.getD x 0 = v at *
  go_enter Tryd.func39, Tryd.ntmps39
  go_wp2
  go_ret
  exact ⟨rfl, hbel.out⟩

set_option maxHeartbeats 8000000 in
theorem rbetween_calls (s : List UInt8) (hs : s ≠ []) (x : Nat) (w : World) :
    Calls Tryd.prog 65 #[.string (bs s), .int .u8 (x : Int)] w fun e w' => e = .returned (.int .i64 (seqL s x : Int)) ∧ w = w' := by
  have qa : ∀ t, s = t → (s == [49, 59, 51]) = decide (t = ([49, 59, 51] : List UInt8)) := fun t h => by rw [h]; by_cases e : t = ([49, 59, 51] : List UInt8) <;> simp [e]
  have qb : ∀ t, s = t → (s == [49, 59, 53]) = decide (t = ([49, 59, 53] : List UInt8)) := fun t h => by rw [h]; by_cases e : t = ([49, 59, 53] : List UInt8) <;> simp [e]
  have qc : ∀ t, s = t → (s == [49]) = decide (t = ([49] : List UInt8)) := fun t h => by rw [h]; by_cases e : t = ([49] : List UInt8) <;> simp [e]
  have qd : ∀ t, s = t → (s == [55]) = decide (t = ([55] : List UInt8)) := fun t h => by rw [h]; by_cases e : t = ([55] : List UInt8) <;> simp [e]
  have qe : ∀ t, s = t → (s == [52]) = decide (t = ([52] : List UInt8)) := fun t h => by rw [h]; by_cases e : t = ([52] : List UInt8) <;> simp [e]
  have qf : ∀ t, s = t → (s == [56]) = decide (t = ([56] : List UInt8)) := fun t h => by rw [h]; by_cases e : t = ([56] : List UInt8) <;> simp [e]
  have qg : ∀ t, s = t → (s == [51]) = decide (t = ([51] : List UInt8)) := fun t h => by rw [h]; by_cases e : t = ([51] : List UInt8) <;> simp [e]
  by_cases ha : s = [49, 59, 51]
  · have za := qa _ ha
    have zb : (s == [49, 59, 53]) = false := by rw [qb _ ha]; decide
    have zc : (s == [49]) = false := by rw [qc _ ha]; decide
    have zd : (s == [55]) = false := by rw [qd _ ha]; decide
    have ze : (s == [52]) = false := by rw [qe _ ha]; decide
    have zf : (s == [56]) = false := by rw [qf _ ha]; decide
    have zg : (s == [51]) = false := by rw [qg _ ha]; decide
    rw [decide_eq_true rfl] at za
    by_cases x67 : x = 67
    · subst x67
      rw [show seqL s 67 = 10 by rw [ha]; decide]
      clear qa qb qc qd qe qf qg ha hs
      go_enter Tryd.func65, Tryd.ntmps65
      go_wp2
      go_ret
      exact ⟨rfl, rfl⟩
    by_cases x68 : x = 68
    · subst x68
      rw [show seqL s 68 = 9 by rw [ha]; decide]
      clear qa qb qc qd qe qf qg ha hs
      go_enter Tryd.func65, Tryd.ntmps65
      go_wp2
      go_ret
      exact ⟨rfl, rfl⟩
    by_cases x126 : x = 126
    · subst x126
      rw [show seqL s 126 = 0 by rw [ha]; decide]
      clear qa qb qc qd qe qf qg ha hs
      go_enter Tryd.func65, Tryd.ntmps65
      go_wp2
      go_ret
      exact ⟨rfl, rfl⟩
    have E : seqL s x = 0 := by
      rw [ha]
      simp [seqL, x67, x68, x126]
    have y67 : ((x : Int) == 67) = false := beq_eq_false_iff_ne.2 (by omega)
    have yn67 : ((x : Int) != 67) = true := bne_iff_ne.2 (by omega)
    have y68 : ((x : Int) == 68) = false := beq_eq_false_iff_ne.2 (by omega)
    have yn68 : ((x : Int) != 68) = true := bne_iff_ne.2 (by omega)
    have y126 : ((x : Int) == 126) = false := beq_eq_false_iff_ne.2 (by omega)
    have yn126 : ((x : Int) != 126) = true := bne_iff_ne.2 (by omega)
    rw [E]
    clear E qa qb qc qd qe qf qg ha hs
    go_enter Tryd.func65, Tryd.ntmps65
    go_wp2
    go_ret
    exact ⟨rfl, rfl⟩
  by_cases hb : s = [49, 59, 53]
  · have zb := qb _ hb
    have za : (s == [49, 59, 51]) = false := by rw [qa _ hb]; decide
    have zc : (s == [49]) = false := by rw [qc _ hb]; decide
    have zd : (s == [55]) = false := by rw [qd _ hb]; decide
    have ze : (s == [52]) = false := by rw [qe _ hb]; decide
    have zf : (s == [56]) = false := by rw [qf _ hb]; decide
    have zg : (s == [51]) = false := by rw [qg _ hb]; decide
    rw [decide_eq_true rfl] at zb
    by_cases x67 : x = 67
    · subst x67
      rw [show seqL s 67 = 10 by rw [hb]; decide]
      clear qa qb qc qd qe qf qg hb hs
      go_enter Tryd.func65, Tryd.ntmps65
      go_wp2
      go_ret
      exact ⟨rfl, rfl⟩
    by_cases x68 : x = 68
    · subst x68
      rw [show seqL s 68 = 9 by rw [hb]; decide]
      clear qa qb qc qd qe qf qg hb hs
      go_enter Tryd.func65, Tryd.ntmps65
      go_wp2
      go_ret
      exact ⟨rfl, rfl⟩
    by_cases x126 : x = 126
    · subst x126
      rw [show seqL s 126 = 0 by rw [hb]; decide]
      clear qa qb qc qd qe qf qg hb hs
      go_enter Tryd.func65, Tryd.ntmps65
      go_wp2
      go_ret
      exact ⟨rfl, rfl⟩
    have E : seqL s x = 0 := by
      rw [hb]
      simp [seqL, x67, x68, x126]
    have y67 : ((x : Int) == 67) = false := beq_eq_false_iff_ne.2 (by omega)
    have yn67 : ((x : Int) != 67) = true := bne_iff_ne.2 (by omega)
    have y68 : ((x : Int) == 68) = false := beq_eq_false_iff_ne.2 (by omega)
    have yn68 : ((x : Int) != 68) = true := bne_iff_ne.2 (by omega)
    have y126 : ((x : Int) == 126) = false := beq_eq_false_iff_ne.2 (by omega)
    have yn126 : ((x : Int) != 126) = true := bne_iff_ne.2 (by omega)
    rw [E]
    clear E qa qb qc qd qe qf qg hb hs
    go_enter Tryd.func65, Tryd.ntmps65
    go_wp2
    go_ret
    exact ⟨rfl, rfl⟩
  by_cases hc : s = [49]
  · have zc := qc _ hc
    have za : (s == [49, 59, 51]) = false := by rw [qa _ hc]; decide
    have zb : (s == [49, 59, 53]) = false := by rw [qb _ hc]; decide
    have zd : (s == [55]) = false := by rw [qd _ hc]; decide
    have ze : (s == [52]) = false := by rw [qe _ hc]; decide
    have zf : (s == [56]) = false := by rw [qf _ hc]; decide
    have zg : (s == [51]) = false := by rw [qg _ hc]; decide
    rw [decide_eq_true rfl] at zc
    by_cases x126 : x = 126
    · subst x126
      rw [show seqL s 126 = 7 by rw [hc]; decide]
      clear qa qb qc qd qe qf qg hc hs
      go_enter Tryd.func65, Tryd.ntmps65
      go_wp2
      go_ret
      exact ⟨rfl, rfl⟩
    have E : seqL s x = 0 := by
      rw [hc]
      simp [seqL, x126]
    have y67 : ((x : Int) == 67) = decide (x = 67) := by by_cases e : x = 67 <;> simp [e] <;> omega
    have y68 : ((x : Int) == 68) = decide (x = 68) := by by_cases e : x = 68 <;> simp [e] <;> omega
    have y126 : ((x : Int) == 126) = false := beq_eq_false_iff_ne.2 (by omega)
    have yn126 : ((x : Int) != 126) = true := bne_iff_ne.2 (by omega)
    rw [E]
    clear E qa qb qc qd qe qf qg hc hs
    go_enter Tryd.func65, Tryd.ntmps65
    go_wp2
    go_ret
    exact ⟨rfl, rfl⟩
  by_cases hd : s = [55]
  · have zd := qd _ hd
    have za : (s == [49, 59, 51]) = false := by rw [qa _ hd]; decide
    have zb : (s == [49, 59, 53]) = false := by rw [qb _ hd]; decide
    have zc : (s == [49]) = false := by rw [qc _ hd]; decide
    have ze : (s == [52]) = false := by rw [qe _ hd]; decide
    have zf : (s == [56]) = false := by rw [qf _ hd]; decide
    have zg : (s == [51]) = false := by rw [qg _ hd]; decide
    rw [decide_eq_true rfl] at zd
    by_cases x126 : x = 126
    · subst x126
      rw [show seqL s 126 = 7 by rw [hd]; decide]
      clear qa qb qc qd qe qf qg hd hs
      go_enter Tryd.func65, Tryd.ntmps65
      go_wp2
      go_ret
      exact ⟨rfl, rfl⟩
    have E : seqL s x = 0 := by
      rw [hd]
      simp [seqL, x126]
    have y67 : ((x : Int) == 67) = decide (x = 67) := by by_cases e : x = 67 <;> simp [e] <;> omega
    have y68 : ((x : Int) == 68) = decide (x = 68) := by by_cases e : x = 68 <;> simp [e] <;> omega
    have y126 : ((x : Int) == 126) = false := beq_eq_false_iff_ne.2 (by omega)
    have yn126 : ((x : Int) != 126) = true := bne_iff_ne.2 (by omega)
    rw [E]
    clear E qa qb qc qd qe qf qg hd hs
    go_enter Tryd.func65, Tryd.ntmps65
    go_wp2
    go_ret
    exact ⟨rfl, rfl⟩
  by_cases he : s = [52]
  · have ze := qe _ he
    have za : (s == [49, 59, 51]) = false := by rw [qa _ he]; decide
    have zb : (s == [49, 59, 53]) = false := by rw [qb _ he]; decide
    have zc : (s == [49]) = false := by rw [qc _ he]; decide
    have zd : (s == [55]) = false := by rw [qd _ he]; decide
    have zf : (s == [56]) = false := by rw [qf _ he]; decide
    have zg : (s == [51]) = false := by rw [qg _ he]; decide
    rw [decide_eq_true rfl] at ze
    by_cases x126 : x = 126
    · subst x126
      rw [show seqL s 126 = 8 by rw [he]; decide]
      clear qa qb qc qd qe qf qg he hs
      go_enter Tryd.func65, Tryd.ntmps65
      go_wp2
      go_ret
      exact ⟨rfl, rfl⟩
    have E : seqL s x = 0 := by
      rw [he]
      simp [seqL, x126]
    have y67 : ((x : Int) == 67) = decide (x = 67) := by by_cases e : x = 67 <;> simp [e] <;> omega
    have y68 : ((x : Int) == 68) = decide (x = 68) := by by_cases e : x = 68 <;> simp [e] <;> omega
    have y126 : ((x : Int) == 126) = false := beq_eq_false_iff_ne.2 (by omega)
    have yn126 : ((x : Int) != 126) = true := bne_iff_ne.2 (by omega)
    rw [E]
    clear E qa qb qc qd qe qf qg he hs
    go_enter Tryd.func65, Tryd.ntmps65
    go_wp2
    go_ret
    exact ⟨rfl, rfl⟩
  by_cases hf : s = [56]
  · have zf := qf _ hf
    have za : (s == [49, 59, 51]) = false := by rw [qa _ hf]; decide
    have zb : (s == [49, 59, 53]) = false := by rw [qb _ hf]; decide
    have zc : (s == [49]) = false := by rw [qc _ hf]; decide
    have zd : (s == [55]) = false := by rw [qd _ hf]; decide
    have ze : (s == [52]) = false := by rw [qe _ hf]; decide
    have zg : (s == [51]) = false := by rw [qg _ hf]; decide
    rw [decide_eq_true rfl] at zf
    by_cases x126 : x = 126
    · subst x126
      rw [show seqL s 126 = 8 by rw [hf]; decide]
      clear qa qb qc qd qe qf qg hf hs
      go_enter Tryd.func65, Tryd.ntmps65
      go_wp2
      go_ret
      exact ⟨rfl, rfl⟩
    have E : seqL s x = 0 := by
      rw [hf]
      simp [seqL, x126]
    have y67 : ((x : Int) == 67) = decide (x = 67) := by by_cases e : x = 67 <;> simp [e] <;> omega
    have y68 : ((x : Int) == 68) = decide (x = 68) := by by_cases e : x = 68 <;> simp [e] <;> omega
    have y126 : ((x : Int) == 126) = false := beq_eq_false_iff_ne.2 (by omega)
    have yn126 : ((x : Int) != 126) = true := bne_iff_ne.2 (by omega)
    rw [E]
    clear E qa qb qc qd qe qf qg hf hs
    go_enter Tryd.func65, Tryd.ntmps65
    go_wp2
    go_ret
    exact ⟨rfl, rfl⟩
  by_cases hg : s = [51]
  · have zg := qg _ hg
    have za : (s == [49, 59, 51]) = false := by rw [qa _ hg]; decide
    have zb : (s == [49, 59, 53]) = false := by rw [qb _ hg]; decide
    have zc : (s == [49]) = false := by rw [qc _ hg]; decide
    have zd : (s == [55]) = false := by rw [qd _ hg]; decide
    have ze : (s == [52]) = false := by rw [qe _ hg]; decide
    have zf : (s == [56]) = false := by rw [qf _ hg]; decide
    rw [decide_eq_true rfl] at zg
    by_cases x126 : x = 126
    · subst x126
      rw [show seqL s 126 = 4 by rw [hg]; decide]
      clear qa qb qc qd qe qf qg hg hs
      go_enter Tryd.func65, Tryd.ntmps65
      go_wp2
      go_ret
      exact ⟨rfl, rfl⟩
    have E : seqL s x = 0 := by
      rw [hg]
      simp [seqL, x126]
    have y67 : ((x : Int) == 67) = decide (x = 67) := by by_cases e : x = 67 <;> simp [e] <;> omega
    have y68 : ((x : Int) == 68) = decide (x = 68) := by by_cases e : x = 68 <;> simp [e] <;> omega
    have y126 : ((x : Int) == 126) = false := beq_eq_false_iff_ne.2 (by omega)
    have yn126 : ((x : Int) != 126) = true := bne_iff_ne.2 (by omega)
    rw [E]
    clear E qa qb qc qd qe qf qg hg hs
    go_enter Tryd.func65, Tryd.ntmps65
    go_wp2
    go_ret
    exact ⟨rfl, rfl⟩
  have E : seqL s x = 0 := by simp [seqL, hs, ha, hb, hc, hd, he, hf, hg]
  have za : (s == [49, 59, 51]) = false := beq_eq_false_iff_ne.2 ha
  have zb : (s == [49, 59, 53]) = false := beq_eq_false_iff_ne.2 hb
  have zc : (s == [49]) = false := beq_eq_false_iff_ne.2 hc
  have zd : (s == [55]) = false := beq_eq_false_iff_ne.2 hd
  have ze : (s == [52]) = false := beq_eq_false_iff_ne.2 he
  have zf : (s == [56]) = false := beq_eq_false_iff_ne.2 hf
  have zg : (s == [51]) = false := beq_eq_false_iff_ne.2 hg
  rw [E]
  clear E qa qb qc qd qe qf qg ha hb hc hd he hf hg hs
  by_cases x126 : x = 126
  · subst x126
    go_enter Tryd.func65, Tryd.ntmps65
    go_wp2
    go_ret
    exact ⟨rfl, rfl⟩
  · have y126 : ((x : Int) == 126) = false := beq_eq_false_iff_ne.2 (by omega)
    have yn126 : ((x : Int) != 126) = true := bne_iff_ne.2 (by omega)
    go_enter Tryd.func65, Tryd.ntmps65
    go_wp2
    go_ret
    exact ⟨rfl, rfl⟩

theorem sizeRKey (w : World) : (sizeOf 52).run Tryd.prog w = .ok 2 w := Tryd.sizeOf52 w
theorem signK_kind (r : Nat) : (signK r).1 = if ctlL (r : Int) = true then 0 else 1 := by unfold signK; split <;> rfl
set_option maxHeartbeats 2000000 in
theorem rsign_calls (r : Nat) (hv : Valid r) (w : World) :
    Calls Tryd.prog 26 #[.int .i64 (r : Int)] w fun e w' => e = .returned (.agg #[.int .i64 ((signK r).1 : Int), .string (bs (signK r).2)]) ∧ Below w.heap.size w w' := by
  have hb0 := Bx.new w 52 (.int .i64 0) (.string ⟨#[]⟩)
  have k0 : Below w.heap.size w (w.alloc (.cells #[.int .i64 0, .string ⟨#[]⟩] 52)) := (Below.refl _ w).alloc (Nat.le_refl _) _
  have HC := Lib.hid (rctl_calls (r : Int) (w.alloc (.cells #[.int .i64 0, .string ⟨#[]⟩] 52)))
  have hr : r ≤ 1114111 := by unfold Valid at hv; omega
  cases hc : ctlL (r : Int) with
  | true =>
    rw [hc] at HC
    have Hs : Hid (signK r = (0, [])) := Lib.hid (by unfold signK; rw [if_pos hc])
    rw [Hs.out]
    have K0 := Lib.hid k0
    have B0 := Lib.hid hb0
    have c0 := hb0.c0
    have c1 := hb0.c1
    have f0 := hb0.f0
    have f1 := hb0.f1
    clear hc Hs k0 hb0 hv
    go_enter Tryd.func26, Tryd.ntmps26
    go_wp2_with fail
    refine HC.out.mono ?_
    rintro e w1 ⟨rfl, rfl⟩
    go_wp2
    refine bodyPost_ret (results_bx rfl _ _ w.heap.size (.int .i64 0) (.string ⟨#[]⟩) 52 rfl B0.out Tryd.underlying52 (sizeRKey _)) rfl ?_
    exact ⟨rfl, K0.out⟩
  | false =>
    rw [hc] at HC
    have Hs : Hid (signK r = (1, Lib.encodeRune (r : Int))) := Lib.hid (by unfold signK; rw [if_neg (by rw [hc]; decide)])
    rw [Hs.out]
    have HB := Lib.hid (bytes_calls (r : Int) (w.alloc (.cells #[.int .i64 0, .string ⟨#[]⟩] 52)) (by omega) (by omega))
    rw [bytes_valid r hv] at HB
    have K0 := Lib.hid k0
    have B0 := Lib.hid hb0
    generalize Lib.encodeRune (r : Int) = l at *
    clear hc Hs k0 hb0 hv
    go_enter Tryd.func26, Tryd.ntmps26
    go_wp2_with fail
    refine HC.out.mono ?_
    rintro e w1 ⟨rfl, rfl⟩
    go_wp2_with fail
    refine HB.out.mono ?_
    rintro e w2 ⟨A, d, rfl, hbt, _, hld, hdm, hbl⟩
    have b2 := B0.out.below hbl
    have k2 := K0.out.trans (hbl.mono K0.out.size)
    have hcv := hbt.convert (P := Tryd.prog) d 27 5 9 Tryd.underlying27 Tryd.underlying5 Tryd.underlying9 l.length rfl
    have B2 := Lib.hid b2
    have K2 := Lib.hid k2
    have c0 := b2.c0
    have c1 := b2.c1
    have f0 := b2.f0
    have f1 := b2.f1
    clear hbt hbl b2 k2 HB HC
    generalize l.length = n at *
    go_wp2
    refine bodyPost_ret (results_bx rfl _ _ w.heap.size (.int .i64 1) (.string (bs l)) 52 rfl ((B2.out.set0 _).set1 _) Tryd.underlying52 (sizeRKey _)) rfl ?_
    exact ⟨rfl, (K2.out.setCell (p := ⟨w.heap.size, 0, none⟩) (Nat.le_refl _) _).setCell (p := ⟨w.heap.size, 1, none⟩) (Nat.le_refl _) _⟩
set_option maxHeartbeats 4000000 in
theorem rpaste_calls (A : Option Addr) (c : Nat) (b : List UInt8) (w : World) (hb : Byt w A b) (hlc : b.length ≤ c) (hm : c ≤ maxLen) :
    Calls Tryd.prog 20 #[.slice A b.length c] w fun e w' => e = .returned (.bool (decide (b.take 6 = pasteB))) ∧ Below w.heap.size w w' := by
  unfold maxLen at hm
  by_cases h6 : 6 ≤ b.length
  · obtain ⟨g, o, rfl, hg, hc⟩ := hb.at_ (by omega)
    have hup := run_upto (some ⟨g, o, none⟩) b.length c 6 (by omega)
    have hda : dropA (some ⟨g, o, none⟩) c 0 = some ⟨g, o, none⟩ := by unfold dropA; split <;> rfl
    have hcv : ∀ W : World, Below w.heap.size w W → (convert 27 9 (.slice (some ⟨g, o, none⟩) 6 c)).run Tryd.prog W = .ok (.string (bs (b.take 6))) W := fun W hW => by
      have h := (((hb.below hW).drop c 0 hlc).take 6).convert (P := Tryd.prog) c 27 5 9 Tryd.underlying27 Tryd.underlying5 Tryd.underlying9 6 (by rw [List.drop_zero, List.length_take]; omega)
      rw [List.drop_zero, hda] at h
      exact h
    have hcv1 := hcv w.drew (Below.refl _ w).drew
    have kl := ((Below.refl _ w).alloc (Nat.le_refl _) (.cells #[.int .u8 27, .int .u8 91, .int .u8 50, .int .u8 48, .int .u8 48, .int .u8 126] 5)).drew
    have hcv2 := hcv _ kl
    have hlit : (convert 27 9 (.slice (some ⟨w.heap.size, 0, none⟩) 6 6)).run Tryd.prog (w.alloc (.cells #[.int .u8 27, .int .u8 91, .int .u8 50, .int .u8 48, .int .u8 48, .int .u8 126] 5)).drew = .ok (.string ⟨#[27, 91, 50, 48, 48, 126]⟩) (w.alloc (.cells #[.int .u8 27, .int .u8 91, .int .u8 50, .int .u8 48, .int .u8 48, .int .u8 126] 5)).drew :=
      (byt_lit w [27, 91, 50, 48, 48, 126]).drew.convert (P := Tryd.prog) 6 27 5 9 Tryd.underlying27 Tryd.underlying5 Tryd.underlying9 6 rfl
    have hd6 : (6 : Int) ≤ (b.length : Int) := by omega
    have heq : (b.take 6 == [27, 91, 50, 48, 48, 126]) = decide (b.take 6 = pasteB) := by
      by_cases e : b.take 6 = pasteB
      · rw [decide_eq_true e, e]; rfl
      · rw [decide_eq_false e]; exact beq_eq_false_iff_ne.2 e
    have KL := Lib.hid kl
    clear hcv kl hb hc
    rw [hda] at hup
    have hup6 : ∀ W : World, (Instr.slice 27 (.slice (some ⟨g, o, none⟩) b.length c) none (some (.int .i64 6)) none).run Tryd.prog W = .ok (.slice (some ⟨g, o, none⟩) 6 c) W := hup
    have hc6 : (6 : Int) ≤ (c : Int) := by omega
    clear hup hda
    generalize decide (b.take 6 = pasteB) = r at *
    generalize b.take 6 = v at *
    generalize b.length = n at *
    go_enter Tryd.func20, Tryd.ntmps20
    go_wp2_with fail
    go_region
    all_goals
      go_wp2_with fail
      go_ret
      exact ⟨rfl, KL.out⟩
  · have E : decide (b.take 6 = pasteB) = false := decide_eq_false (fun h => by
      have := congrArg List.length h
      rw [List.length_take, show pasteB.length = 6 from rfl] at this
      omega)
    rw [E]
    have hd : decide ((6 : Int) ≤ (b.length : Int)) = false := decide_eq_false (by omega)
    have hd2 : decide ((b.length : Int) ≥ 6) = false := decide_eq_false (by omega)
    have hlt : b.length < 6 := by omega
    clear hb E
    generalize b.length = n at *
    go_enter Tryd.func20, Tryd.ntmps20
    go_wp2_with fail
    go_region
    all_goals
      go_wp2_with fail
      go_ret
      exact ⟨rfl, (Below.refl _ w).drew⟩
end Go.Proofs.YtbkejjpkijjfaaaDoor
