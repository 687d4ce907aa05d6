/-
  A range over a function that tells things which lie in memory: the body is asked only of what is so where it is told (R), and may use it.
-/
import Derived.RangeFuncNested
import Derived.RangeFuncBound
import Derived.RangeFuncBox
import Derived.RangeFuncCalls
import Derived.RangeFuncLeaves
namespace Go.Proofs.YtjfikdldabmciaaDoor
open Go Go.RowKit

variable {F : Fence} {n : Nat} {P : Program}
/-- What the function at g comes to, whatever the body J .. Jx: R pre x W is what is known of x, told behind pre, in the world in which it is told. -/
def Tells {α : Type} (F : Fence) (n : Nat) (P : Program) (g : Nat) (lb : Array Value) (encs : α → Array Value) (R : List α → α → World → Prop) (Kp : World → World → Prop) (S : List α → Prop) (w : World) : Prop :=
  ∀ (l : Nat) (J Jx : List α → World → Prop) (W : World), Below w.heap.size w W → AbidesFrom W.heap.size J → AbidesFrom W.heap.size Jx →
    (∀ pre x V, J pre V → R pre x V → YieldAt F (n - 1) P l (encs x) V fun e V' => (e = .returned (.bool true) ∧ J (pre ++ [x]) V' ∧ Kp V V') ∨ (e = .returned (.bool false) ∧ Jx (pre ++ [x]) V')) →
    J [] W → CallsIn F n P g (#[.func (.yield l) #[] #[]] ++ lb) W fun e V => (∃ v, e = .returned v) ∧ ((∃ xs, S xs ∧ J xs V) ∨ ∃ pre, Jx pre V)
section
variable {fn : FuncId} {a : Act} {ps : Array Tmp} {assign body : Code} {B : Nat}
/-- The loop's record, and the block beside it, as they stand. -/
def recT (fn : FuncId) (a : Act) (ps : Array Tmp) (assign body : Code) (B : Nat) (st : LoopState) (pe : Option Code) : Loop := { state := st, pending := pe, fn := fn, tmps := a.tmps, params := ps, assign := assign, body := body, defers := B }
def BookT (fn : FuncId) (a : Act) (ps : Array Tmp) (assign body : Code) (B : Nat) (st : LoopState) (pe : Option Code) (W : World) : Prop := W.heap[B + 1]? = some (.loop (recT fn a ps assign body B st pe)) ∧ W.heap[B]? = some (.deferred (some []))
theorem BookT.lt {st : LoopState} {pe : Option Code} {W : World} (h : BookT fn a ps assign body B st pe W) : B + 1 < W.heap.size := (Array.getElem?_eq_some_iff.1 h.1).1
theorem BookT.turn {st st' : LoopState} {pe pe' : Option Code} {W : World} (h : BookT fn a ps assign body B st pe W) : BookT fn a ps assign body B st' pe' (W.putObj (B + 1) (.loop (recT fn a ps assign body B st' pe'))) :=
  ⟨World.putObj_heap_same h.lt, (World.putObj_heap_other (by omega)).trans h.2⟩
theorem BookT.keep {st : LoopState} {pe : Option Code} {W W' : World} (h : BookT fn a ps assign body B st pe W) (hk : KeepsFrom B W W') : BookT fn a ps assign body B st pe W' := ⟨hk.same _ _ (by omega) h.1 rfl, hk.same _ _ (Nat.le_refl _) h.2 rfl⟩
theorem BookT.abide {st : LoopState} {pe : Option Code} {W W' : World} {row : Option Nat} (h : BookT fn a ps assign body B st pe W) (hg : W.grownBy W' row) (hr : ∀ r, row = some r → ∃ o : Obj, W.heap[r]? = some o ∧ o.isWalk = true) : BookT fn a ps assign body B st pe W' :=
  ⟨(grownBy_keeps hg hr h.1 rfl).trans h.1, (grownBy_keeps hg hr h.2 rfl).trans h.2⟩
/-- A round, from the body's walk to what yield tells. -/
theorem round_told {α : Type} {encs : α → Array Value} {Kp : World → World → Prop} {R : List α → α → World → Prop} {I : List α → World → Prop} {Ix : Code → List α → World → Prop} {a₁ : α → Act}
    (hfn : F.fn fn) (hps : ∀ x, (encs x).size = ps.size) (hKt : ∀ {X Y Z : World}, Kp X Y → Kp Y Z → Kp X Z) (hKb : ∀ (W : World) (l : Nat) (o o' : Obj), B ≤ l → W.heap[l]? = some o → o.isCells = false → o.isWalk = false → Kp W (W.putObj l o'))
    (hR : ∀ pre x, OwnFrom B (fun (_ : Unit) W => R pre x W)) (hI : OwnFrom B I) (hIx : ∀ c, OwnFrom B (Ix c))
    (hassign : ∀ (l : Nat) (x : α) (W : World) (K : Act → World → Prop), K (a₁ x) W → assign.wpIn (F.inRound l) n P (Exit.then K (fun _ _ _ => False)) { tmps := (ps.zip (encs x)).foldl (fun t (p, v) => t.setIfInBounds p v) a.tmps, defers := [] } W)
    (hbody : ∀ (l : Nat) (pre : List α) (x : α) (W : World), I pre W → R pre x W → body.wpIn (F.inRound l) n P (ownPostG B Kp I Ix (pre ++ [x]) W) (a₁ x) W)
    {pre : List α} {x : α} {W : World} (hi : I pre W) (hx : R pre x W) (hb : BookT fn a ps assign body B .ready none W) :
    YieldAt F n P (B + 1) (encs x) W fun e W' => (e = .returned (.bool true) ∧ (I (pre ++ [x]) W' ∧ BookT fn a ps assign body B .ready none W') ∧ Kp W W') ∨
      (e = .returned (.bool false) ∧ ∃ c, Ix c (pre ++ [x]) W' ∧ BookT fn a ps assign body B .done (some c) W') := by
  have hb2 := hb.turn (st' := .busy) (pe' := none)
  refine ⟨fn, _, assign, body, run_yield (r := recT fn a ps assign body B .ready none) hb.1 (hps x), roundIn_of_wpIn hfn (hassign _ x W _ ⟨_, run_beginRound hb.1 rfl, ?_⟩)⟩
  have end_ : ∀ (jump : Option Code) (V : World), KeepsFrom B (W.putObj (B + 1) (.loop (recT fn a ps assign body B .busy none))) V →
      (Instr.endRound (B + 1) jump).run P V = .ok (.bool jump.isNone) (V.putObj (B + 1) (.loop (recT fn a ps assign body B (if jump.isNone then .ready else .done) jump))) ∧ BookT fn a ps assign body B .busy none V := fun jump V hk => ⟨run_endRound jump (hb2.keep hk).1, hb2.keep hk⟩
  refine wpIn_mono (hbody _ pre x _ (hI.putObj _ hi (Nat.le_succ _) hb.1 rfl) ((hR pre x).putObj (s := ()) _ hx (Nat.le_succ _) hb.1 rfl)) fun e a3 V hp => ?_
  have left : ∀ c, KeepsFrom B (W.putObj (B + 1) (.loop (recT fn a ps assign body B .busy none))) V → Ix c (pre ++ [x]) V → ∃ v W', (Instr.endRound (B + 1) (some c)).run P V = .ok v W' ∧ ((Ending.returned v = .returned (.bool true) ∧ (I (pre ++ [x]) W' ∧ BookT fn a ps assign body B .ready none W') ∧ Kp W W') ∨ (Ending.returned v = .returned (.bool false) ∧ ∃ c, Ix c (pre ++ [x]) W' ∧ BookT fn a ps assign body B .done (some c) W')) := fun c hk h => by
    obtain ⟨hr, hv⟩ := end_ (some c) V hk
    exact ⟨_, _, hr, .inr ⟨rfl, c, (hIx c).putObj _ h (Nat.le_succ _) hv.1 rfl, hv.turn⟩⟩
  match e, hp with
  | .normal, hp =>
    obtain ⟨hr, hv⟩ := end_ none V hp.1
    exact ⟨_, _, hr, .inl ⟨rfl, ⟨hI.putObj _ hp.2.2 (Nat.le_succ _) hv.1 rfl, hv.turn⟩, hKt (hKb W _ _ _ (Nat.le_succ _) hb.1 rfl rfl) (hKt hp.2.1 (hKb V _ _ _ (Nat.le_succ _) hv.1 rfl rfl))⟩⟩
  | .ret, hp => exact left _ hp.1 hp.2
  | .exit id, hp => exact left _ hp.1 hp.2
  | .goto t, hp => exact left _ hp.1 hp.2
  | .panic _, hp => exact hp.elim
  | .outgrown, hp => exact hp.elim
end
theorem resolve_told {g : Operand} {a : Act} {gf : Nat} {lb : Array Value} (hg : a.eval g = .func (.func gf) #[] lb) (l : Nat) (W : World) : (resolve a.eval (rangeCall g l) 0).run P W = .ok { target := .fn (.func gf) lb, args := #[.func (.yield l) #[] #[]] } W := by
  simp only [resolve, hg]
  simp [go_sem]
theorem leads_told {gf : Nat} {lb args : Array Value} {W : World} {f : FuncId} (hf : Target.leads P W (.fn (.func gf) lb) args = some f) : f = gf := by
  simp [Target.leads] at hf
  exact hf.symm
theorem invoke_told {gf : Nat} {lb args : Array Value} (eg : ∀ args w, (callFunc gf args).run P w = .ok (.enter gf args) w) (W : World) : (invoke (.fn (.func gf) lb) args).run P W = .ok (.enter gf (args ++ lb)) W := by
  simp [invoke, go_sem, eg]
/-- The statement 'for .. := range g { .. }'. -/
theorem wpIn_told {α : Type} {g : Operand} {ps : Array Tmp} {assign body : Code} {Q : Exit → Act → World → Prop} {a : Act} {w : World}
    (hro : F.round = none) (h1 : 1 ≤ n) {gf : Nat} {lb : Array Value} (hg : a.eval g = .func (.func gf) #[] lb) (hFg : F.fn gf) (eg : ∀ args w, (callFunc gf args).run P w = .ok (.enter gf args) w)
    {encs : α → Array Value} {R : List α → α → World → Prop} {Kp : World → World → Prop} {S : List α → Prop} {w0 : World} (hseq : Tells F (n - 1) P gf lb encs R Kp S w0) (hb0 : Below w0.heap.size w0 w)
    (hps : ∀ x, (encs x).size = ps.size) (hKt : ∀ {X Y Z : World}, Kp X Y → Kp Y Z → Kp X Z) (hKb : ∀ (W : World) (l : Nat) (o o' : Obj), w.heap.size ≤ l → W.heap[l]? = some o → o.isCells = false → o.isWalk = false → Kp W (W.putObj l o'))
    (hR : ∀ pre x, OwnFrom w.heap.size (fun (_ : Unit) W => R pre x W)) (I : List α → World → Prop) (Ix : Code → List α → World → Prop) (hI : OwnFrom w.heap.size I) (hIx : ∀ c, OwnFrom w.heap.size (Ix c)) (h0 : I [] w) (a₁ : α → Act)
    (hassign : ∀ (l : Nat) (x : α) (W : World) (K : Act → World → Prop), K (a₁ x) W → assign.wpIn (F.inRound l) (n - 1 - 1) P (Exit.then K (fun _ _ _ => False)) { tmps := (ps.zip (encs x)).foldl (fun t (p, v) => t.setIfInBounds p v) a.tmps, defers := [] } W)
    (hbody : ∀ (l : Nat) (pre : List α) (x : α) (W : World), I pre W → R pre x W → body.wpIn (F.inRound l) (n - 1 - 1) P (ownPostG w.heap.size Kp I Ix (pre ++ [x]) W) (a₁ x) W)
    (hdone : ∀ (D : Nat) (xs : List α) (W : World), w.heap.size ≤ D → S xs → I xs W → W.heap[D]? = some (.deferred (some [])) → Q .normal { a with defers := { target := .collected D, args := #[] } :: a.defers } W)
    (hstop : ∀ (D : Nat) (c : Code) (pre : List α) (W : World), w.heap.size ≤ D → Ix c pre W → W.heap[D]? = some (.deferred (some [])) → c.wpIn F n P Q { a with defers := { target := .collected D, args := #[] } :: a.defers } W) :
    (Code.rangeFunc g ps assign body).wpIn F n P Q a w := by
  refine wpIn_rangeFunc fun fn hfn => ?_
  rw [hro]
  obtain ⟨V, hV⟩ : ∃ V, (w.alloc (.deferred (some []))).alloc (.loop (recT fn a ps assign body w.heap.size .ready none)) = V := ⟨_, rfl⟩
  have hsz : V.heap.size = w.heap.size + 2 := by rw [← hV]; simp
  have hbook : BookT fn a ps assign body w.heap.size .ready none V := by
    rw [← hV]
    refine ⟨?_, (Below.heap_alloc _ _ _ (by simp)).trans (World.alloc_heap_new w _)⟩
    have := World.alloc_heap_new (w.alloc (.deferred (some []))) (.loop (recT fn a ps assign body w.heap.size .ready none))
    rwa [World.size_alloc] at this
  have hIV : I [] V := by rw [← hV]; exact hI.alloc _ (hI.alloc _ h0)
  have hbV : Below w.heap.size w V := by rw [← hV]; exact ((Below.refl _ w).alloc (Nat.le_refl _) _).alloc (by simp) _
  have cellsOf : ∀ {X : World} {row : Option Nat}, (∀ r, row = some r → V.heap.size ≤ r ∧ ∃ o : Obj, X.heap[r]? = some o ∧ o.isWalk = true) → ∀ r, row = some r → w.heap.size ≤ r ∧ ∃ o : Obj, X.heap[r]? = some o ∧ o.isCells = false := fun hr r e => by
    obtain ⟨h, o, ho, hw⟩ := hr r e
    exact ⟨by omega, o, ho, Obj.not_cells_of_walk hw⟩
  have hround : ∀ (pre : List α) (x : α) (W : World), I pre W → R pre x W → BookT fn a ps assign body w.heap.size .ready none W → YieldAt F (n - 1 - 1) P (w.heap.size + 1) (encs x) W fun e W' => (e = .returned (.bool true) ∧ (I (pre ++ [x]) W' ∧ BookT fn a ps assign body w.heap.size .ready none W') ∧ Kp W W') ∨
      (e = .returned (.bool false) ∧ ∃ c, Ix c (pre ++ [x]) W' ∧ BookT fn a ps assign body w.heap.size .done (some c) W') :=
    fun pre x W hi hx hb => round_told (n := n - 1 - 1) (Kp := Kp) (I := I) (Ix := Ix) (R := R) (a₁ := a₁) hfn hps (fun h k => hKt h k) hKb hR hI hIx hassign hbody hi hx hb
  have hcall := hseq (w.heap.size + 1) (fun pre W => I pre W ∧ BookT fn a ps assign body w.heap.size .ready none W) (fun pre W => ∃ c, Ix c pre W ∧ BookT fn a ps assign body w.heap.size .done (some c) W) V (hb0.trans (hbV.mono hb0.size))
    (fun s X Y row hs hgr hr => ⟨hI s X Y row hs.1 hgr (cellsOf hr), hs.2.abide hgr (fun r e => (hr r e).2)⟩)
    (fun s X Y row hs hgr hr => by obtain ⟨c, hc, hk⟩ := hs; exact ⟨c, hIx c s X Y row hc hgr (cellsOf hr), hk.abide hgr (fun r e => (hr r e).2)⟩)
    (fun pre x W hJ hx => hround pre x W hJ.1 hx hJ.2) ⟨hIV, hbook⟩
  refine ⟨w.heap.size + 1, [{ target := .collected w.heap.size, args := #[] }], V, { target := .fn (.func gf) lb, args := #[.func (.yield (w.heap.size + 1)) #[] #[]] }, V, gf, #[.func (.yield (w.heap.size + 1)) #[] #[]] ++ lb, V, ?_, ?_, ?_, ?_, fun _ => h1, ?_⟩
  · rw [← hV]; exact run_enterLoop_outer fn a.tmps ps assign body
  · exact resolve_told hg _ _
  · intro f hf; rw [leads_told hf]; exact hFg
  · exact invoke_told eg _
  · refine hcall.mono ?_
    rintro e W ⟨⟨v, rfl⟩, ⟨xs, hS, hi, hk⟩ | ⟨pre, c, hi, hk⟩⟩
    · exact ⟨none, _, run_endLoop hk.1 (by simp [recT]), hdone _ xs _ (Nat.le_refl _) hS (hI.putObj _ hi (Nat.le_succ _) hk.1 rfl) ((World.putObj_heap_other (by omega)).trans hk.2)⟩
    · exact ⟨some c, _, run_endLoop hk.1 (by simp [recT]), hstop _ c pre _ (Nat.le_refl _) ((hIx c).putObj _ hi (Nat.le_succ _) hk.1 rfl) ((World.putObj_heap_other (by omega)).trans hk.2)⟩
/-- A row that is owned is cells: it stays where what turns is none. -/
theorem ownFrom_row {β : Type} (B base : Nat) (e : TypeId) (size : Nat) (v : β → Value) (k : β → Nat) (xs : β → List Value) : OwnFrom B (fun s W => W.ownsRow base e size (v s) (k s) (xs s)) := fun s X Y row hs hg hr => by
  refine hs.kept hg ?_
  by_cases hv : (v s).ownBlock = none
  · exact .inl hv
  · refine .inr fun he => ?_
    obtain ⟨g, hgv⟩ := Option.ne_none_iff_exists'.1 hv
    obtain ⟨_, o, ho, hc⟩ := hr g (by rw [← he, hgv])
    rcases hs.2 with ⟨h1, _⟩ | ⟨g', cap, cur, h1, _, hh, _⟩
    · rw [h1] at hgv; cases hgv
    · rw [h1] at hgv
      obtain rfl : g' = g := by simpa [Value.ownBlock] using hgv
      rw [hh] at ho
      cases ho
      cases hc
end Go.Proofs.YtjfikdldabmciaaDoor
