/-
  A ring, and beside it a map of counts.
-/
import Derived.Test.YtdpijbaolaignaaRingS
import Derived.Maps.OwnOps
import Derived.Maps.OwnIn
import Derived.Maps.Views
import Derived.Maps.RangeWalk
import Derived.Sort.MapsRangeIn
import Derived.StringKeys
namespace Go.Proofs.Ytdpijbaolaignaa
open Go Go.RowKit
set_option maxRecDepth 100000

/-- How often x stands in a list. -/
def cntB (x : ByteArray) : List ByteArray → Int
  | [] => 0
  | y :: t => (if y = x then 1 else 0) + cntB x t
theorem cntB_append (x : ByteArray) (l m : List ByteArray) : cntB x (l ++ m) = cntB x l + cntB x m := by
  induction l with
  | nil => show cntB x m = 0 + cntB x m; omega
  | cons y t ih => show (if y = x then 1 else 0) + cntB x (t ++ m) = (if y = x then 1 else 0) + cntB x t + cntB x m; rw [ih]; omega
theorem cntB_perm (x : ByteArray) {l m : List ByteArray} (h : l.Perm m) : cntB x l = cntB x m := by
  induction h with
  | nil => rfl
  | cons y _ ih => show _ + cntB x _ = _ + cntB x _; rw [ih]
  | swap y z l => show (if z = x then (1 : Int) else 0) + ((if y = x then 1 else 0) + cntB x l) = (if y = x then 1 else 0) + ((if z = x then 1 else 0) + cntB x l); omega
  | trans _ _ h1 h2 => exact h1.trans h2
theorem cntB_le (x : ByteArray) (l : List ByteArray) : 0 ≤ cntB x l ∧ cntB x l ≤ l.length := by
  induction l with
  | nil => exact ⟨Int.le_refl 0, Int.le_refl 0⟩
  | cons y t ih =>
    show 0 ≤ (if y = x then (1 : Int) else 0) + cntB x t ∧ (if y = x then (1 : Int) else 0) + cntB x t ≤ ((y :: t).length : Nat)
    rw [List.length_cons]
    split <;> omega
def keyB (x : ByteArray) : Lit := .string x.data.toList
theorem keyB_inj {x y : ByteArray} (h : keyB x = keyB y) : x = y := by
  unfold keyB at h
  injection h with h
  obtain ⟨⟨a⟩⟩ := x
  obtain ⟨⟨b⟩⟩ := y
  simp only at h
  rw [h]
/-- The counts that a map tells. -/
def CountsB (D : DataW Unit) (f : ByteArray → Int) : Prop := Maps.IsMap D ∧ ∀ x, D.atKey (keyB x) (.lit (.int .i64 0)) = .lit (.int .i64 (f x))
theorem countsB_nil : CountsB (.map []) (fun _ => 0) := ⟨Maps.isMap_empty, fun _ => rfl⟩
theorem CountsB.put {D : DataW Unit} {f : ByteArray → Int} (h : CountsB D f) (x : ByteArray) (c : Int) {g : ByteArray → Int} (hx : g x = c) (hy : ∀ y, y ≠ x → g y = f y) : CountsB (D.put (keyB x) (.lit (.int .i64 c))) g := ⟨h.1.put _ _, fun y => by
  by_cases e : y = x
  · subst e
    rw [Maps.atKey_put_same h.1 (show WideAt.IsKeyLit (keyB y) from trivial), hx]
  · rw [Maps.atKey_put_other (fun e2 => e (keyB_inj e2)), h.2 y, hy y e]⟩
theorem CountsB.at_ {D : DataW Unit} {f : ByteArray → Int} (h : CountsB D f) {x : ByteArray} {c : Int} (e : D.atKey (keyB x) (.lit (.int .i64 0)) = .lit (.int .i64 c)) : c = f x := by
  rw [h.2 x] at e
  injection e with e
  injection e with _ e
  exact e.symm

/-- One turn, with what it leaves: only the ring's box turns. -/
theorem ring_same {w : World} {R : Nat → Prop} {b : Nat} {s : RS ByteArray} (h : RingS w R b s) (j : Nat) (hok : (⟨s.lim, s.l, j⟩ : RS ByteArray).Ok) : RingS (w.setCell ⟨b, 2, none⟩ (.int .i64 (j : Int))) R b ⟨s.lim, s.l, j⟩ ∧ Only (fun k => k = b) w (w.setCell ⟨b, 2, none⟩ (.int .i64 (j : Int))) := by
  obtain ⟨v, h1, h2, h3⟩ := h.mem
  have ho := only_set w ⟨b, 2, none⟩ (.int .i64 (j : Int))
  refine ⟨⟨hok, h.ins, fun k hk => Nat.lt_of_lt_of_le (h.lt k hk) ho.size, v, ?_, own_only h2 ho (fun g hg (e : g = b) => own_apart ne_ringS h1 h2 g hg e), h3⟩, ho⟩
  obtain ⟨hlt, hk⟩ := Array.getElem?_eq_some_iff.1 h1
  show (w.heap.modify b _)[b]? = _
  rw [Array.getElem?_eq_getElem (by rw [Array.size_modify]; exact hlt), Array.getElem_modify_self, hk]
  rfl
set_option maxHeartbeats 1000000 in
theorem turn_sameS (w : World) (R : Nat → Prop) (b : Nat) (s : RS ByteArray) (h : RingS w R b s) :
    Calls Try.prog 18 #[.pointer (some ⟨b, 0, none⟩)] w fun e w' => e = .returned (.tuple #[Value.string (s.l.getD s.turn.i ⟨#[]⟩), .bool (decide (0 < s.l.length))]) ∧ RingS w' R b s.turn ∧ Only (fun k => k = b) w w' := by
  obtain ⟨A, c, hb, hown, hin, hrd, hlc, hcm, hA⟩ := h.open_
  have c1 := Bx3.c1 hb
  have c2 := Bx3.c2 hb
  have f2 := Bx3.f2 hb
  have hle := h.ok.le
  have hln := h.ok.len
  by_cases h0 : s.l.length = 0
  · have e0 : s.l = [] := List.eq_nil_of_length_eq_zero h0
    have hi0 : s.i = 0 := (h.ok.at_.resolve_left (by omega)).1
    have e1 : s.turn = s := by
      obtain ⟨lim, l, i⟩ := s
      simp only at e0 hi0
      subst e0; subst hi0
      rfl
    have He : Hid (Value.string (s.l.getD s.i ⟨#[]⟩) = .string ⟨#[]⟩ ∧ decide (0 < s.l.length) = false) := Lib.hid (by rw [e0]; exact ⟨rfl, rfl⟩)
    have Ht := Lib.hid (top_callsS w R b s h)
    have HR := Lib.hid h
    rw [h0] at c1
    rw [e1]
    clear e0 hi0 e1 hb hown hin hrd hlc hle hln h
    have hd : decide ((0 : Int) < 0) = false := rfl
    go_enter Try.func18, Try.ntmps18
    go_wp2_with fail
    refine Ht.out.mono ?_
    rintro e w' ⟨rfl, hb⟩
    go_wp2
    go_ret2
    rw [He.out.1, He.out.2]
    exact ⟨rfl, HR.out.below hb, Only.of_below hb⟩
  · have hm := RS.turn_mod h.ok (by omega)
    have hi : s.i < s.l.length := h.ok.at_.resolve_right fun h1 => by rw [h1.2] at h0; exact h0 rfl
    have Hs := Lib.hid (ring_same h s.turn.i h.ok.turn)
    have hgt : decide ((0 : Int) < (s.l.length : Int)) = true := decide_eq_true (by omega)
    have hn0 : ((s.l.length : Int) == 0) = false := beq_eq_false_iff_ne.2 (by omega)
    have ha : IntKind.i64.wrap ((s.i : Int) + 1) = (s.i : Int) + 1 := IntWalk.i64_in _ (by omega)
    have hr : ((s.i : Int) + 1).tmod (s.l.length : Int) = (s.turn.i : Int) := by rw [hm]; rfl
    have Hz : Hid (decide (0 < s.l.length) = true) := Lib.hid (decide_eq_true (by omega))
    have hlt : s.turn.i < 64 := by rcases h.ok.turn.at_ with h1 | h1 <;> (simp only [RS.turn] at *; omega)
    have hww : IntKind.i64.wrap ((s.turn.i : Nat) : Int) = ((s.turn.i : Nat) : Int) := IntWalk.i64_in _ (by omega)
    clear hb hown hin hrd hlc h hm
    go_enter Try.func18, Try.ntmps18
    go_wp2_with fail
    go_region
    have Hs2 : Hid (RingS (w.setCell ⟨b, 2, none⟩ (.int .i64 (s.turn.i : Int))).drew R b s.turn ∧ Only (fun k => k = b) w (w.setCell ⟨b, 2, none⟩ (.int .i64 (s.turn.i : Int))).drew) := Lib.hid ⟨Hs.out.1.drew, Hs.out.2.drew⟩
    have Ht := Lib.hid (top_callsS _ R b _ Hs2.out.1)
    clear Hs c1 c2 f2 hr ha hww
    go_wp2_with fail
    refine Ht.out.mono ?_
    rintro e w2 ⟨rfl, hb2⟩
    go_wp2
    go_ret2
    exact ⟨rfl, Hs2.out.1.below hb2, Hs2.out.2.trans (R' := fun _ => False) (Only.of_below hb2) (fun _ h => h.elim)⟩

abbrev MapB (W : World) (mb n : Nat) (D : DataW Unit) : Prop := W.ownsMap Try.prog 9 (plainElem (H := Unit) Try.prog 3) mb n D
theorem mapB_block {W W' : World} {mb n : Nat} {D : DataW Unit} (h : MapB W mb n D) (hb : W'.heap[mb]? = W.heap[mb]?) : MapB W' mb n D := by
  obtain ⟨es, clock, h1, h2⟩ := h
  exact ⟨es, clock, hb.trans h1, h2⟩
/-- A ring at b, a map of counts at mb (its box lies behind it); all that lay when the statement began (w) is as it was. -/
def TurnAt (w W : World) (mb b : Nat) (s : RS ByteArray) (n : Nat) (f : ByteArray → Int) : Prop :=
  ∃ R D, RingS W R b s ∧ (∀ k, R k → w.heap.size ≤ k ∧ k < mb) ∧ Below w.heap.size w W ∧ w.heap.size ≤ mb ∧ Boxed W (mb + 1) 39 (.map (some mb)) ∧ MapB W mb n D ∧ CountsB D f
section
variable {w W W' : World} {mb b n : Nat} {s : RS ByteArray} {f : ByteArray → Int}
theorem TurnAt.box (h : TurnAt w W mb b s n f) : Boxed W (mb + 1) 39 (.map (some mb)) := by
  obtain ⟨_, _, _, _, _, _, h, _⟩ := h
  exact h
theorem TurnAt.bel (h : TurnAt w W mb b s n f) : Below w.heap.size w W := by
  obtain ⟨_, _, _, _, h, _⟩ := h
  exact h
theorem TurnAt.ring (h : TurnAt w W mb b s n f) : RingIn Value.string 9 62 w W b s := by
  obtain ⟨R, _, h1, h2, h3, _⟩ := h
  exact ⟨R, h1, fun k hk => (h2 k hk).1, h3⟩
/-- Blocks that are new behind the map turn alone. -/
theorem TurnAt.beyond (h : TurnAt w W mb b s n f) (ho : Only (fun k => mb + 2 ≤ k) W W') : TurnAt w W' mb b s n f := by
  obtain ⟨R, D, h1, h2, h3, h4, h5, h6, h7⟩ := h
  exact ⟨R, D, h1.keep ho (fun k hk e => by have := (h2 k hk).2; omega), h2, h3.trans (ho.below h3.size (fun i (hi : mb + 2 ≤ i) => by omega)), h4, (ho.block _ h5.lt (by omega)).trans h5, mapB_block h6 (ho.block _ h6.lt (by omega)), h7⟩
theorem TurnAt.below (h : TurnAt w W mb b s n f) (hb : Below W.heap.size W W') : TurnAt w W' mb b s n f := h.beyond (ho := (Only.of_below hb))
theorem TurnAt.own {row : Option Nat} (h : TurnAt w W mb b s n f) (hg : W.grownBy W' row) (hr : ∀ k, row = some k → mb + 2 ≤ k) : TurnAt w W' mb b s n f := h.beyond (Only.of_grown hg hr)
theorem TurnAt.start (h : RingIn Value.string 9 62 w W b s) : TurnAt w ((W.alloc (.map #[] 0)).alloc (.cells #[.map (some W.heap.size)] 39)) W.heap.size b s 0 (fun _ => 0) := by
  obtain ⟨R, h1, h2, h3⟩ := h
  have hx := Boxed.new (W.alloc (.map #[] 0)) 39 (.map (some W.heap.size))
  simp only [World.size_alloc] at hx
  exact ⟨R, _, (h1.alloc _).alloc _, fun k hk => ⟨h2 k hk, h1.lt k hk⟩, (h3.alloc h3.size _).alloc (by have := h3.size; simp; omega) _, h3.size, hx, (World.ownsMap_made W Try.prog 9 _).alloc _, countsB_nil⟩
theorem TurnAt.turn_calls (h : TurnAt w W mb b s n f) :
    Calls Try.prog 18 #[.pointer (some ⟨b, 0, none⟩)] W fun e W' => e = .returned (.tuple #[Value.string (s.l.getD s.turn.i ⟨#[]⟩), .bool (decide (0 < s.l.length))]) ∧ TurnAt w W' mb b s.turn n f := by
  obtain ⟨R, D, h1, h2, h3, h4, h5, h6, h7⟩ := h
  refine (turn_sameS W R b s h1).mono ?_
  rintro e W' ⟨rfl, r1, ho⟩
  have hbm := (h2 b h1.ins)
  exact ⟨rfl, R, D, r1, h2, h3.trans (ho.below h3.size (fun i (hi : i = b) => by omega)), h4, (ho.block _ h5.lt (by omega)).trans h5, mapB_block h6 (ho.block _ h6.lt (by omega)), h7⟩
/-- A count is put. -/
theorem turn_put {R : Nat → Prop} {D : DataW Unit} (h1 : RingS W R b s) (h2 : ∀ k, R k → w.heap.size ≤ k ∧ k < mb) (h3 : Below w.heap.size w W) (h4 : w.heap.size ≤ mb) (h5 : Boxed W (mb + 1) 39 (.map (some mb))) (h7 : CountsB D f)
    {x : ByteArray} {c : Int} {g : ByteArray → Int} (hx : g x = c) (hy : ∀ y, y ≠ x → g y = f y) {m : Nat} (hown : MapB W' mb m (D.put (keyB x) (.lit (.int .i64 c)))) (hg : W.grownBy W' (some mb)) : TurnAt w W' mb b s m g := by
  have ho : Only (fun k => k = mb) W W' := Only.of_grown hg (fun k e => by cases e; rfl)
  exact ⟨R, _, h1.keep ho (fun k hk e => by have := (h2 k hk).2; omega), h2, h3.trans (ho.below h3.size (fun i (hi : i = mb) => by omega)), h4, (ho.block _ h5.lt (by omega)).trans h5, hown, h7.put x c hx hy⟩
end
end Go.Proofs.Ytdpijbaolaignaa
