/-
  The document's own logs: what lies in memory of a state; New.
-/
import Derived.Test.YtgcafmofpflidaaBxA
import Derived.Test.YtgcafmofpflidaaLogMath
import Derived.Lib.MinMax
import Derived.WalkKit
import Derived.BigQuiet
import Derived.IntWalk
namespace Go.Proofs.Ytgcafmofpflidaa
open Go Go.RowKit
set_option maxRecDepth 100000

structure DocL (w : World) (Ab : Option Addr) (cb : Nat) (Af : Option Addr) (cf : Nat) (s : LS ByteArray) : Prop where
  rb : RdV Value.string w Ab s.back
  capb : s.back.length ≤ cb
  maxb : cb ≤ maxLen
  nilb : Ab = none → cb = 0
  rf : RdV Value.string w Af s.forth
  capf : s.forth.length ≤ cf
  maxf : cf ≤ maxLen
  nilf : Af = none → cf = 0
def docL (Ab : Option Addr) (cb : Nat) (Af : Option Addr) (cf : Nat) (s : LS ByteArray) : Value := .agg #[.int .i64 (s.lim : Int), .slice Ab s.back.length cb, .string s.now, .slice Af s.forth.length cf, .int .i64 s.opn]
def opV (o : OpU) : Value := .agg #[.int .i64 o.k, .string o.t, .int .i64 o.g]
theorem DocL.below {w w' : World} {Ab Af : Option Addr} {cb cf : Nat} {s : LS ByteArray} (h : DocL w Ab cb Af cf s) (hb : Below w.heap.size w w') : DocL w' Ab cb Af cf s := ⟨h.rb.below hb, h.capb, h.maxb, h.nilb, h.rf.below hb, h.capf, h.maxf, h.nilf⟩
theorem DocL.keep {w w' : World} {Ab Af : Option Addr} {cb cf : Nat} {s : LS ByteArray} {R : Nat → Prop} (h : DocL w Ab cb Af cf s) (ho : Only R w w') (hb : ∀ a, Ab = some a → ¬ R a.block) (hf : ∀ a, Af = some a → ¬ R a.block) : DocL w' Ab cb Af cf s := ⟨h.rb.keep ho hb, h.capb, h.maxb, h.nilb, h.rf.keep ho hf, h.capf, h.maxf, h.nilf⟩
/-- The new row is the old one's, or lies in new memory. -/
def NearL (w w' : World) (A A' : Option Addr) : Prop := ∀ a, A' = some a → (∃ a0, A = some a0 ∧ a.block = a0.block) ∨ (w.heap.size ≤ a.block ∧ a.block < w'.heap.size)
theorem NearL.refl (w w' : World) (A : Option Addr) : NearL w w' A A := fun a e => .inl ⟨a, e, rfl⟩
theorem NearL.none (w w' : World) (A : Option Addr) : NearL w w' A none := fun a e => by cases e
theorem results_bxA {P : Program} {fn : Func} {p : Tmp} {ty : TypeId} {fs : Array Field} (h : fn.results = #[.cell p ty]) (tmps : Array Value) (w : World) (g : Nat) (v0 v1 v2 v3 v4 : Value) (t : TypeId)
    (hp : tmps.getD p undef = .pointer (some ⟨g, 0, none⟩)) (hb : BxA w g t [v0, v1, v2, v3, v4]) (hu : P.underlying ty = some (.struct fs)) (hsz : (sizeOf ty).run P w = .ok 5 w) : (results fn tmps).run P w = .ok (.agg #[v0, v1, v2, v3, v4]) w := by
  have hp' : tmps[p]?.getD undef = .pointer (some ⟨g, 0, none⟩) := by simpa using hp
  have c0 := hb.c 0 rfl
  have c1 := hb.c 1 rfl
  have c2 := hb.c 2 rfl
  have c3 := hb.c 3 rfl
  have c4 := hb.c 4 rfl
  simp [results, h, hp', asAddr, loadVar, isAgg, Sem.run_bind, run_underlying hu, hsz, loadCells, loadCellsFrom, Addr.add, c0, c1, c2, c3, c4, go_sem]
theorem results_bxA2 {P : Program} {fn : Func} {p q : Tmp} {ty : TypeId} {fs : Array Field} (h : fn.results = #[.cell p ty, .tmp q]) (tmps : Array Value) (w : World) (g : Nat) (v0 v1 v2 v3 v4 v : Value) (t : TypeId)
    (hp : tmps.getD p undef = .pointer (some ⟨g, 0, none⟩)) (hq : tmps.getD q undef = v) (hb : BxA w g t [v0, v1, v2, v3, v4]) (hu : P.underlying ty = some (.struct fs)) (hsz : (sizeOf ty).run P w = .ok 5 w) : (results fn tmps).run P w = .ok (.tuple #[.agg #[v0, v1, v2, v3, v4], v]) w := by
  have hp' : tmps[p]?.getD undef = .pointer (some ⟨g, 0, none⟩) := by simpa using hp
  have hq' : tmps[q]?.getD undef = v := by simpa using hq
  have c0 := hb.c 0 rfl
  have c1 := hb.c 1 rfl
  have c2 := hb.c 2 rfl
  have c3 := hb.c 3 rfl
  have c4 := hb.c 4 rfl
  simp [results, h, hp', hq', asAddr, loadVar, isAgg, Sem.run_bind, run_underlying hu, hsz, loadCells, loadCellsFrom, Addr.add, c0, c1, c2, c3, c4, go_sem]
theorem sizeState6 (w : World) : (sizeOf 29).run Try.prog w = .ok 5 w := Try.sizeOf29 w

set_option maxHeartbeats 1000000 in
theorem rnew6_calls (x : ByteArray) (n : Int) (w : World) :
    Calls Try.prog 12 #[.string x, .int .i64 n] w fun e w' => e = .returned (docL none 0 none 0 (LS.new x n)) ∧ Below w.heap.size w w' := by
  have fin : ∀ m : Int, m = (limL n : Int) → BxA (w.alloc (.cells #[.int .i64 m, .slice none 0 0, .string x, .slice none 0 0, .int .i64 0] 29)) w.heap.size 29 [.int .i64 (limL n : Int), .slice none 0 0, .string x, .slice none 0 0, .int .i64 0] := fun m e => by subst e; exact BxA.new w _ [_, _, _, _, _]
  go_enter Try.func12, Try.ntmps12
  go_wp2
  all_goals
    refine bodyPost_ret (results_bxA rfl _ _ w.heap.size _ _ _ _ _ 29 rfl (fin _ (by unfold limL; omega)) Try.underlying29 (sizeState6 _)) rfl ?_
    exact ⟨rfl, (Below.refl _ w).alloc (Nat.le_refl _) _⟩

/-- What a call of the document's hands back. -/
def DidU (w : World) (Ab Af : Option Addr) (s' : LS ByteArray) (q : Bool) (e : Ending) (w' : World) : Prop :=
  ∃ Ab' cb' Af' cf', e = .returned (.tuple #[docL Ab' cb' Af' cf' s', .bool q]) ∧ DocL w' Ab' cb' Af' cf' s' ∧ NearL w w' Ab Ab' ∧ NearL w w' Af Af' ∧ Below w.heap.size w w'
/-- The state is laid into the result's box. -/
def five (W : World) (M : Nat) (v0 v1 v2 v3 v4 : Value) : World := ((((W.setCell ⟨M, 0, none⟩ v0).setCell ⟨M, 1, none⟩ v1).setCell ⟨M, 2, none⟩ v2).setCell ⟨M, 3, none⟩ v3).setCell ⟨M, 4, none⟩ v4
theorem five_only (W : World) (M : Nat) (v0 v1 v2 v3 v4 : Value) : Only (fun i => i = M) W (five W M v0 v1 v2 v3 v4) :=
  (((((Only.refl (fun i => i = M) W).set (p := ⟨M, 0, none⟩) (.inl rfl) _).set (p := ⟨M, 1, none⟩) (.inl rfl) _).set (p := ⟨M, 2, none⟩) (.inl rfl) _).set (p := ⟨M, 3, none⟩) (.inl rfl) _).set (p := ⟨M, 4, none⟩) (.inl rfl) _
theorem five_box {W : World} {M : Nat} {t : TypeId} {z0 z1 z2 z3 z4 : Value} (h : BxA W M t [z0, z1, z2, z3, z4]) (v0 v1 v2 v3 v4 : Value) : BxA (five W M v0 v1 v2 v3 v4) M t [v0, v1, v2, v3, v4] := ((((h.set 0 v0).set 1 v1).set 2 v2).set 3 v3).set 4 v4
theorem fin6 {w W : World} {M : Nat} {Ab Af Ab' Af' : Option Addr} {cb' cf' : Nat} {s' : LS ByteArray} (q : Bool) {t : TypeId} {z0 z1 z2 z3 z4 : Value} (hb : Below w.heap.size w W) (hM : w.heap.size ≤ M) (hz : BxA W M t [z0, z1, z2, z3, z4]) (hd : ∀ W', Only (fun i => i = M) W W' → DocL W' Ab' cb' Af' cf' s')
    (hnb : NearL w W Ab Ab') (hnf : NearL w W Af Af') :
    BxA (five W M (.int .i64 (s'.lim : Int)) (.slice Ab' s'.back.length cb') (.string s'.now) (.slice Af' s'.forth.length cf') (.int .i64 s'.opn)) M t [.int .i64 (s'.lim : Int), .slice Ab' s'.back.length cb', .string s'.now, .slice Af' s'.forth.length cf', .int .i64 s'.opn] ∧
    DidU w Ab Af s' q (.returned (.tuple #[docL Ab' cb' Af' cf' s', .bool q])) (five W M (.int .i64 (s'.lim : Int)) (.slice Ab' s'.back.length cb') (.string s'.now) (.slice Af' s'.forth.length cf') (.int .i64 s'.opn)) := by
  have ho := five_only W M (.int .i64 (s'.lim : Int)) (.slice Ab' s'.back.length cb') (.string s'.now) (.slice Af' s'.forth.length cf') (.int .i64 s'.opn)
  exact ⟨five_box hz _ _ _ _ _, Ab', cb', Af', cf', rfl, hd _ ho, fun a e => (hnb a e).imp id (fun h => ⟨h.1, Nat.lt_of_lt_of_le h.2 ho.size⟩), fun a e => (hnf a e).imp id (fun h => ⟨h.1, Nat.lt_of_lt_of_le h.2 ho.size⟩), hb.trans (ho.below hb.size (fun i hi => by omega))⟩
end Go.Proofs.Ytgcafmofpflidaa
