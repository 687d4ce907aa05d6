/-
  Layer 7 and what it stands on, part 39 (LnD LDoes LAlive).
-/
import Derived.Test.YtoaponaljkhlfaaGreatDoorPz37
import Derived.Test.YtoaponaljkhlfaaGreatDoorPz38
import Derived.Deep.Cut
namespace Go.Proofs.YtoaponaljkhlfaaGreatDoor
section
open Go Go.RowKit
def doL (s : LN) (o : OpL) : LN :=
 if o.k = 0 then s.key o.q (bl o.t) else if o.k = 1 then s.set (bl o.t) else if o.k = 2 then s.add (bl o.t) else if o.k = 3 then s.change (bl o.t) o.g else if o.k = 4 then s.clear else s
def LnX (w0 w : World) (X : Nat → Prop) (b : Nat) (s : LN) (r : DR) (d : DS) (B C : Nat) : Prop := ∃ O F D, LineL w O F b s ∧ (∀ k, O k → w0.heap.size ≤ k) ∧ Below w0.heap.size w0 w ∧ DsAt w D r d ∧ d.Ok B ∧ (∀ k, D k → ¬ O k) ∧ SmR s.ring C ∧
 ∀ k, X k → k < w.heap.size ∧ w0.heap.size ≤ k ∧ ¬ O k ∧ ¬ F k ∧ ¬ D k
abbrev LnD (w0 w : World) (b : Nat) (s : LN) (r : DR) (d : DS) (B C : Nat) : Prop := LnX w0 w (fun _ => False) b s r d B C
section
variable {P : Program} {f : Nat} {args : Array Value} {w0 w w' : World} {X : Nat → Prop} {b : Nat} {s s' : LN} {r r' : DR} {d d' : DS} {B B' C C' : Nat}
theorem okmore {d : DS} (h : d.Ok B) (hb : B ≤ B') : d.Ok B' := ⟨h.now, h.back, h.forth, h.len, h.kills, fun x hx => Nat.le_trans (h.small x hx) hb, h.top⟩
theorem LnX.bel (h : LnX w0 w X b s r d B C) : Below w0.heap.size w0 w := by
 obtain ⟨_, _, _, _, _, h, _⟩ := h
 exact h
theorem LnX.ok (h : LnX w0 w X b s r d B C) : s.Ok := by
 obtain ⟨_, _, _, h, _⟩ := h
 exact line_ok h
theorem LnX.sm (h : LnX w0 w X b s r d B C) : SmR s.ring C := by
 obtain ⟨_, _, _, _, _, _, _, _, _, h, _⟩ := h
 exact h
theorem LnX.mem (h : LnX w0 w X b s r d B C) {k : Nat} (hk : X k) : k < w.heap.size ∧ w0.heap.size ≤ k := by
 obtain ⟨_, _, _, _, _, _, _, _, _, _, h⟩ := h
 exact ⟨(h k hk).1, (h k hk).2.1⟩
theorem LnX.below (h : LnX w0 w X b s r d B C) (hb : Below w.heap.size w w') : LnX w0 w' X b s r d B C := by
 obtain ⟨O, F, D, a1, a2, a3, a4, a5, a6, a7, a8⟩ := h
 exact ⟨O, F, D, objLn.below a1 hb, a2, a3.trans (hb.mono a3.size), a4.below hb, a5, a6, a7, fun k hk => ⟨Nat.lt_of_lt_of_le (a8 k hk).1 hb.size, (a8 k hk).2⟩⟩
theorem LnX.more (h : LnX w0 w X b s r d B C) (hb : B ≤ B') (hc : C ≤ C') : LnX w0 w X b s r d B' C' := by
 obtain ⟨O, F, D, a1, a2, a3, a4, a5, a6, a7, a8⟩ := h
 exact ⟨O, F, D, a1, a2, a3, a4, okmore a5 hb, a6, a7.mono hc, a8⟩
theorem LnX.new {Y : Nat → Prop} (h : LnX w0 w X b s r d B C) (hb : Below w.heap.size w w') (hY : ∀ k, Y k → w.heap.size ≤ k ∧ k < w'.heap.size) : LnX w0 w' Y b s r d B C := by
 obtain ⟨O, F, D, a1, a2, a3, a4, a5, a6, a7, a8⟩ := h
 refine ⟨O, F, D, objLn.below a1 hb, a2, a3.trans (hb.mono a3.size), a4.below hb, a5, a6, a7, fun k hk => ?_⟩
 have h1 := hY k hk
 exact ⟨h1.2, Nat.le_trans a3.size h1.1, fun e => absurd (objLn.lt a1 k (.inl e)) (by omega), fun e => absurd (objLn.lt a1 k (.inr e)) (by omega), fun e => absurd (a4.lt k e) (by omega)⟩
theorem LnX.add {Y : Nat → Prop} (h : LnX w0 w X b s r d B C) (hb : Below w.heap.size w w') (hY : ∀ k, Y k → w.heap.size ≤ k ∧ k < w'.heap.size) : LnX w0 w' (fun k => X k ∨ Y k) b s r d B C := by
 obtain ⟨O, F, D, a1, a2, a3, a4, a5, a6, a7, a8⟩ := h
 refine ⟨O, F, D, objLn.below a1 hb, a2, a3.trans (hb.mono a3.size), a4.below hb, a5, a6, a7, fun k hk => ?_⟩
 rcases hk with hk | hk
 ·exact ⟨Nat.lt_of_lt_of_le (a8 k hk).1 hb.size, (a8 k hk).2⟩
 ·have h1 := hY k hk
  exact ⟨h1.2, Nat.le_trans a3.size h1.1, fun e => absurd (objLn.lt a1 k (.inl e)) (by omega), fun e => absurd (objLn.lt a1 k (.inr e)) (by omega), fun e => absurd (a4.lt k e) (by omega)⟩
theorem LnX.out {Y : Nat → Prop} (h : LnX w0 w X b s r d B C) (hY : ∀ k, Y k → X k) : LnX w0 w Y b s r d B C := by
 obtain ⟨O, F, D, a1, a2, a3, a4, a5, a6, a7, a8⟩ := h
 exact ⟨O, F, D, a1, a2, a3, a4, a5, a6, a7, fun k hk => a8 k (hY k hk)⟩
theorem LnX.store (h : LnX w0 w X b s r d B C) {M : Nat} (hM : X M) (ho : Only (fun k => k = M) w w') : LnX w0 w' X b s r d B C := by
 obtain ⟨O, F, D, a1, a2, a3, a4, a5, a6, a7, a8⟩ := h
 obtain ⟨x1, x2, x3, x4, x5⟩ := a8 M hM
 refine ⟨O, F, D, objLn.keep a1 ho (fun k hk (e : k = M) => ?_), a2, a3.trans (ho.below a3.size fun k (e : k = M) => by omega), a4.keep ho (fun k hk (e : k = M) => ?_), a5, a6, a7, fun k hk => ⟨Nat.lt_of_lt_of_le (a8 k hk).1 ho.size, (a8 k hk).2⟩⟩
 ·subst e
  exact hk.elim x3 x4
 ·subst e
  exact x5 hk
theorem LnX.line {E : Ending → Prop} (h : LnX w0 w X b s r d B C) (hs : SmR s'.ring C') (hc : ∀ O F, LineL w O F b s → Calls P f args w fun e w' => E e ∧ ToLn w O F w' b s') :
  Calls P f args w fun e w' => E e ∧ LnX w0 w' X b s' r d B C' ∧ Only (fun k => ¬ X k) w w' := by
 obtain ⟨O, F, D, a1, a2, a3, a4, a5, a6, a7, a8⟩ := h
 refine (hc O F a1).mono ?_
 rintro e w' ⟨he, O', F', b1, b2, b3, b4⟩
 refine ⟨he, ⟨O', F', D, b1, fun k hk => (b3 k hk).elim (a2 k) (fun h => Nat.le_trans a3.size h), a3.trans (b2.below a3.size a2), a4.keep b2 (fun k hk h => a6 k hk h), a5, fun k hk h => (b3 k h).elim (a6 k hk) (fun h => absurd (a4.lt k hk) (by omega)), hs, fun k hk => ?_⟩, b2.mono fun k hk => .inl fun hx => (a8 k hx).2.2.1 hk⟩
 obtain ⟨x1, x2, x3, x4, x5⟩ := a8 k hk
 exact ⟨Nat.lt_of_lt_of_le x1 b2.size, x2, fun e => (b3 k e).elim x3 (fun h => by omega), fun e => (b4 k e).elim x4 (fun h => by omega), x5⟩
theorem LnX.doc {E : Ending → DR → DS → Prop} (h : LnX w0 w X b s r d B C) (hc : ∀ D, DsAt w D r d → d.Ok B → Calls P f args w fun e w' => ∃ r' d', E e r' d' ∧ DsTo w D B' w' r' d') :
  Calls P f args w fun e w' => ∃ r' d', E e r' d' ∧ LnX w0 w' X b s r' d' B' C ∧ Below w.heap.size w w' := by
 obtain ⟨O, F, D, a1, a2, a3, a4, a5, a6, a7, a8⟩ := h
 refine (hc D a4 a5).mono ?_
 rintro e w' ⟨r', d', he, D', b1, b2, b3, b4⟩
 refine ⟨r', d', he, ⟨O, F, D', objLn.below a1 b4, a2, a3.trans (b4.mono a3.size), b1, b2, fun k hk h => (b3 k hk).elim (fun h' => a6 k h' h) (fun h' => absurd (objLn.lt a1 k (.inl h)) (by omega)), a7, fun k hk => ?_⟩, b4⟩
 obtain ⟨x1, x2, x3, x4, x5⟩ := a8 k hk
 exact ⟨Nat.lt_of_lt_of_le x1 b4.size, x2, x3, x4, fun e => (b3 k e).elim x5 (fun h => by omega)⟩
def TwX (w0 w : World) (X : Nat → Prop) (b : Nat) (s : LN) (b' : Nat) (s' : LN) (r : DR) (d : DS) (B C : Nat) : Prop := ∃ O F O' F' D, LineL w O F b s ∧ LineL w O' F' b' s' ∧ (∀ k, O' k ∨ F' k → ¬ O k) ∧ (∀ k, O k → w0.heap.size ≤ k) ∧ (∀ k, O' k → w0.heap.size ≤ k) ∧ Below w0.heap.size w0 w ∧
 DsAt w D r d ∧ d.Ok B ∧ (∀ k, D k → ¬ O k ∧ ¬ O' k) ∧ SmR s'.ring C ∧ ∀ k, X k → k < w.heap.size ∧ w0.heap.size ≤ k ∧ ¬ O k ∧ ¬ O' k ∧ ¬ F' k ∧ ¬ D k
theorem TwX.snd {b' : Nat} (h : TwX w0 w X b s b' s' r d B C) : LnX w0 w X b' s' r d B C := by
 obtain ⟨O, F, O', F', D, a1, a2, a3, a4, a5, a6, a7, a8, a9, a10, a11⟩ := h
 exact ⟨O', F', D, a2, a5, a6, a7, a8, fun k hk => (a9 k hk).2, a10, fun k hk => ⟨(a11 k hk).1, (a11 k hk).2.1, (a11 k hk).2.2.2⟩⟩
theorem TwX.bel {b' : Nat} (h : TwX w0 w X b s b' s' r d B C) : Below w0.heap.size w0 w := h.snd.bel
theorem LnX.copy {E : Nat → Ending → Prop} (h : LnX w0 w X b s r d B C) (hc : ∀ O F, LineL w O F b s → Calls P f args w fun e w' => ∃ b', E b' e ∧ CopF LineL w F w' b' s) :
  Calls P f args w fun e w' => ∃ b', E b' e ∧ TwX w0 w' X b s b' s r d B C ∧ Below w.heap.size w w' := by
 obtain ⟨O, F, D, a1, a2, a3, a4, a5, a6, a7, a8⟩ := h
 refine (hc O F a1).mono ?_
 rintro e w' ⟨b', he, O', F', b1, b2, b3, b4⟩
 have hlt := objLn.lt a1
 refine ⟨b', he, ⟨O, F, O', F', D, objLn.below a1 b4, b1, fun k hk ho => ?_, a2, fun k hk => Nat.le_trans a3.size (b2 k hk), a3.trans (b4.mono a3.size), a4.below b4, a5, fun k hk => ⟨a6 k hk, fun h => ?_⟩, a7, fun k hk => ?_⟩, b4⟩
 ·have h1 := hlt k (.inl ho)
  rcases hk with h2 | h2
  ·have := b2 k h2; omega
  ·rcases b3 k h2 with h3 | h3
   ·exact objLn.dis a1 k ho h3
   ·omega
 ·have h1 := a4.lt k hk
  have := b2 k h
  omega
 ·obtain ⟨x1, x2, x3, x4, x5⟩ := a8 k hk
  exact ⟨Nat.lt_of_lt_of_le x1 b4.size, x2, x3, fun h => by have := b2 k h; omega, fun h => (b3 k h).elim x4 (fun h => by omega), x5⟩
theorem TwX.line {E : Ending → Prop} {b' : Nat} {s2 : LN} (h : TwX w0 w X b s b' s' r d B C) (hc : ∀ O F, LineL w O F b s → Calls P f args w fun e w' => E e ∧ ToLn w O F w' b s2) :
  Calls P f args w fun e w' => E e ∧ TwX w0 w' X b s2 b' s' r d B C ∧ Only (fun k => ¬ X k) w w' := by
 obtain ⟨O, F, O', F', D, a1, a2, a3, a4, a5, a6, a7, a8, a9, a10, a11⟩ := h
 refine (hc O F a1).mono ?_
 rintro e w' ⟨he, O2, F2, b1, b2, b3, b4⟩
 refine ⟨he, ⟨O2, F2, O', F', D, b1, objLn.keep a2 b2 a3, fun k hk h => ?_, fun k hk => (b3 k hk).elim (a4 k) (fun h => Nat.le_trans a6.size h), a5, a6.trans (b2.below a6.size a4), a7.keep b2 (fun k hk h => (a9 k hk).1 h), a8, fun k hk => ⟨fun h => ?_, (a9 k hk).2⟩, a10, fun k hk => ?_⟩, b2.mono fun k hk => .inl fun hx => (a11 k hx).2.2.1 hk⟩
 ·rcases b3 k h with h1 | h1
  ·exact a3 k hk h1
  ·have := objLn.lt a2 k hk; omega
 ·rcases b3 k h with h1 | h1
  ·exact (a9 k hk).1 h1
  ·have := a7.lt k hk; omega
 ·obtain ⟨x1, x2, x3, x4⟩ := a11 k hk
  exact ⟨Nat.lt_of_lt_of_le x1 b2.size, x2, fun e => (b3 k e).elim x3 (fun h => by omega), x4⟩
end
end
section
open Go Go.RowKit
open Go.Lib (hid)
set_option maxRecDepth 100000
theorem boxes7l (w : World) (r : DR) (d : DS) (kk : Int) (o : OpL) (t : List UInt8) : ∃ W3, ((w.alloc (.cells #[.string (bs d.now.1), .int .i64 d.now.2, .slice r.A1 d.back.length r.c1, .slice r.A2 d.forth.length r.c2, .bool d.opn, .slice r.A3 d.kills.length r.c3, .int .i64 d.top, .int .i64 d.last, .int .i64 d.fr, .int .i64 d.to_] 32)).alloc (.cells #[.int .i64 kk, .int .i64 o.q, .string (bs t), .int .i64 o.g] 36)).alloc (.cells #[.string ⟨#[]⟩, .int .i64 0, .slice none 0 0, .slice none 0 0, .bool false, .slice none 0 0, .int .i64 0, .int .i64 0, .int .i64 0, .int .i64 0] 32) = W3 ∧ Below w.heap.size w W3 ∧ W3.heap.size = w.heap.size + 3 ∧
  BxA W3 w.heap.size 32 (dsK r d) ∧ BxA W3 (w.heap.size + 1) 36 [.int .i64 kk, .int .i64 o.q, .string (bs t), .int .i64 o.g] ∧ BxA W3 (w.heap.size + 1 + 1) 32 dsZ := by
 have hx0 := BxA.new w 32 (dsK r d)
 have hx1 := BxA.new (w.alloc (.cells #[.string (bs d.now.1), .int .i64 d.now.2, .slice r.A1 d.back.length r.c1, .slice r.A2 d.forth.length r.c2, .bool d.opn, .slice r.A3 d.kills.length r.c3, .int .i64 d.top, .int .i64 d.last, .int .i64 d.fr, .int .i64 d.to_] 32)) 36 [.int .i64 kk, .int .i64 o.q, .string (bs t), .int .i64 o.g]
 have hx2 := BxA.new ((w.alloc (.cells #[.string (bs d.now.1), .int .i64 d.now.2, .slice r.A1 d.back.length r.c1, .slice r.A2 d.forth.length r.c2, .bool d.opn, .slice r.A3 d.kills.length r.c3, .int .i64 d.top, .int .i64 d.last, .int .i64 d.fr, .int .i64 d.to_] 32)).alloc (.cells #[.int .i64 kk, .int .i64 o.q, .string (bs t), .int .i64 o.g] 36)) 32 dsZ
 rw [World.size_alloc] at hx1
 rw [World.size_alloc, World.size_alloc] at hx2
 exact ⟨_, rfl, (((Below.refl _ w).alloc (Nat.le_refl _) _).alloc (by simp) _).alloc (by simp; omega) _, by simp, (hx0.alloc _).alloc _, hx1.alloc _, hx2⟩
theorem results_bx10'' {P : Program} {fn : Func} {p q z : Tmp} {ty : TypeId} {fs : Array Field} (h : fn.results = #[.tmp z, .cell p ty, .tmp q]) (tmps : Array Value) (w : World) (g : Nat) (v0 v1 v2 v3 v4 v5 v6 v7 v8 v9 v u : Value) (t : TypeId)
  (hp : tmps.getD p undef = .pointer (some ⟨g, 0, none⟩)) (hz : tmps.getD z undef = u) (hq : tmps.getD q undef = v) (hb : BxA w g t [v0, v1, v2, v3, v4, v5, v6, v7, v8, v9]) (hu : P.underlying ty = some (.struct fs)) (hsz : (sizeOf ty).run P w = .ok 10 w) : (results fn tmps).run P w = .ok (.tuple #[u, .agg #[v0, v1, v2, v3, v4, v5, v6, v7, v8, v9], v]) w := by
 have hp' : tmps[p]?.getD undef = .pointer (some ⟨g, 0, none⟩) := by simpa using hp
 have hz' : tmps[z]?.getD undef = u := by simpa using hz
 have hq' : tmps[q]?.getD undef = v := by simpa using hq
 have c0 := hb.c 0 rfl
 have c1 := hb.c 1 rfl
 have c2 := hb.c 2 rfl
 have c3 := hb.c 3 rfl
 have c4 := hb.c 4 rfl
 have c5 := hb.c 5 rfl
 have c6 := hb.c 6 rfl
 have c7 := hb.c 7 rfl
 have c8 := hb.c 8 rfl
 have c9 := hb.c 9 rfl
 simp [results, h, hp', hz', hq', asAddr, loadVar, isAgg, Sem.run_bind, run_underlying hu, hsz, loadCells, loadCellsFrom, Addr.add, c0, c1, c2, c3, c4, c5, c6, c7, c8, c9, go_sem]
theorem DsTo.more7 {w w' : World} {D : Nat → Prop} {B B' : Nat} {r : DR} {d : DS} (h : DsTo w D B w' r d) (hb : B ≤ B') : DsTo w D B' w' r d := by
 obtain ⟨D', a1, a2, a3, a4⟩ := h
 exact ⟨D', a1, okmore a2 hb, a3, a4⟩
theorem BxA.drw {w : World} {g : Nat} {t : TypeId} {vs : List Value} (h : BxA w g t vs) : BxA w.drew g t vs := h.below (Below.refl _ w).drew
set_option maxHeartbeats 8000000 in
theorem ldoes_k0 (w0 w : World) (X0 : Nat → Prop) (b : Nat) (s : LN) (r : DR) (d : DS) (B : Nat) (hB : B ≤ 1000000) (hsp : Spans w0) (o : OpL) (t : List UInt8) (ht : t.length ≤ 100000) (h : LnX w0 w X0 b s r d B B) :
  Calls Tryz.prog 10 #[.pointer (some ⟨b, 0, none⟩), dsV r d, .agg #[.int .i64 0, .int .i64 o.q, .string (bs t), .int .i64 o.g]] w fun e w' => ∃ b' r' d' q, e = .returned (.tuple #[.pointer (some ⟨b', 0, none⟩), dsV r' d', .bool q]) ∧ LnX w0 w' X0 b' (s.key o.q t) r' d' (B + 600) (B + 600) ∧ Only (fun k => ¬ X0 k) w w' := by
 obtain ⟨W3, hW3, hB3, hs3, hb0, hb1, hb2⟩ := boxes7l w r d 0 o t
 have hx : LnX w0 W3 (fun k => X0 k ∨ (w.heap.size ≤ k ∧ k ≤ w.heap.size + 2)) b s r d B B := h.add hB3 (fun k hk => ⟨hk.1, by have := hk.2; omega⟩)
 have HK : Hid (Only (fun k => ¬ X0 k) w W3) := hid (Only.of_below hB3)
 have HX := hid hx
 have H0 := hid hb0
 have H1 := hid hb1
 have H2 := hid hb2
 have HS := hid hsp
 have HW := hid h.bel.size
 have a0 := hb0.c 0 rfl
 have a1 := hb0.c 1 rfl
 have a2 := hb0.c 2 rfl
 have a3 := hb0.c 3 rfl
 have a4 := hb0.c 4 rfl
 have a5 := hb0.c 5 rfl
 have a6 := hb0.c 6 rfl
 have a7 := hb0.c 7 rfl
 have a8 := hb0.c 8 rfl
 have a9 := hb0.c 9 rfl
 have o0 := hb1.c 0 rfl
 have o1 := hb1.c 1 rfl
 have o2 := hb1.c 2 rfl
 have o3 := hb1.c 3 rfl
 clear hb0 hb1 hb2 hx h hB3 hsp
 unfold dsV
 go_enter Tryz.func10, Tryz.ntmps10
 go_wp2_with fail
 refine (HX.out.line (C' := B + 600) (LN.key_sm HX.out.ok HX.out.sm o.q t) (fun O F hl => key_callsL W3 O F b s hl (spans_below HS.out HX.out.bel) o.q t ht (HX.out.sm.mono hB))).mono ?_
 rintro e w4 ⟨rfl, hx, ho⟩
 have h0 := H0.out.keep ho (fun hn => hn (.inr ⟨by omega, by omega⟩))
 have h1 := H1.out.keep ho (fun hn => hn (.inr ⟨by omega, by omega⟩))
 have h2 := H2.out.keep ho (fun hn => hn (.inr ⟨by omega, by omega⟩))
 have HK2 := hid (HK.out.trans ho (fun _ hi => .inl fun hx => hi (.inl hx)))
 clear HK
 have HK := HK2
 clear HK2
 clear HX H0 H1 H2 ho
 have HX := hid hx
 have H0 := hid h0
 have H1 := hid h1
 have H2 := hid h2
 clear a0 a1 a2 a3 a4 a5 a6 a7 a8 a9
 clear o0 o1 o2 o3
 have a0 := h0.c 0 rfl
 have a1 := h0.c 1 rfl
 have a2 := h0.c 2 rfl
 have a3 := h0.c 3 rfl
 have a4 := h0.c 4 rfl
 have a5 := h0.c 5 rfl
 have a6 := h0.c 6 rfl
 have a7 := h0.c 7 rfl
 have a8 := h0.c 8 rfl
 have a9 := h0.c 9 rfl
 have o0 := h1.c 0 rfl
 have o1 := h1.c 1 rfl
 have o2 := h1.c 2 rfl
 have o3 := h1.c 3 rfl
 clear h0 h1 h2 hx
 go_wp2_with fail
 refine (HX.out.doc (B' := B + 600) (E := fun e r' d' => ∃ q, e = .returned (.tuple #[dsV r' d', .bool q])) (fun D hd hok => (dpress_calls w4 D r d B hd hok hB o.q t ht).mono (fun _ _ hh => by obtain ⟨r', d', q, e1, e2⟩ := hh; exact ⟨r', d', ⟨q, e1⟩, e2.more7 (by omega)⟩))).mono ?_
 rintro e w5 ⟨r1, d1, ⟨q, rfl⟩, hx, hbel⟩
 have HK2 := hid (HK.out.trans (Only.of_below (R := fun _ => False) hbel) (fun _ hi => hi.elim))
 clear HK
 have HK := HK2
 clear HK2
 have h0 := H0.out.below hbel
 have h1 := H1.out.below hbel
 have h2 := H2.out.below hbel
 have u0 := h0.free 0
 have u1 := h0.free 1
 have u2 := h0.free 2
 have u3 := h0.free 3
 have u4 := h0.free 4
 have u5 := h0.free 5
 have u6 := h0.free 6
 have u7 := h0.free 7
 have u8 := h0.free 8
 have u9 := h0.free 9
 have k0 := h0.c 0 rfl
 have k1 := h0.c 1 rfl
 have k2 := h0.c 2 rfl
 have k3 := h0.c 3 rfl
 have k4 := h0.c 4 rfl
 have k5 := h0.c 5 rfl
 have k6 := h0.c 6 rfl
 have k7 := h0.c 7 rfl
 have k8 := h0.c 8 rfl
 have k9 := h0.c 9 rfl
 obtain ⟨W6, hW6⟩ : ∃ W6, ((((((((((w5.setCell ⟨w.heap.size, 0, none⟩ (.string (bs d1.now.1))).setCell ⟨w.heap.size, 1, none⟩ (.int .i64 d1.now.2)).setCell ⟨w.heap.size, 2, none⟩ (.slice r1.A1 d1.back.length r1.c1)).setCell ⟨w.heap.size, 3, none⟩ (.slice r1.A2 d1.forth.length r1.c2)).setCell ⟨w.heap.size, 4, none⟩ (.bool d1.opn)).setCell ⟨w.heap.size, 5, none⟩ (.slice r1.A3 d1.kills.length r1.c3)).setCell ⟨w.heap.size, 6, none⟩ (.int .i64 d1.top)).setCell ⟨w.heap.size, 7, none⟩ (.int .i64 d1.last)).setCell ⟨w.heap.size, 8, none⟩ (.int .i64 d1.fr)).setCell ⟨w.heap.size, 9, none⟩ (.int .i64 d1.to_)) = W6 := ⟨_, rfl⟩
 have ho6 : Only (fun i => i = w.heap.size) w5 W6 := by rw [← hW6]; exact ten_onlyD w5 w.heap.size r1 d1
 have h06 : BxA W6 w.heap.size 32 (dsK r1 d1) := by rw [← hW6]; exact ten_boxD h0 r1 d1
 have hx6 := hx.store (.inr ⟨by omega, by omega⟩) ho6
 have HK2 := hid (HK.out.trans ho6 (fun i (hi : i = _) => .inr (by omega)))
 clear HK
 have HK := HK2
 clear HK2
 have h26 := h2.keep ho6 (fun e => by omega)
 clear HX H0 H1 H2 hx h0 h1 h2 ho6
 clear a0 a1 a2 a3 a4 a5 a6 a7 a8 a9
 clear o0 o1 o2 o3
 have HX := hid hx6
 have H0 := hid h06
 have H2 := hid h26
 have c0 := h06.c 0 rfl
 have c1 := h06.c 1 rfl
 have c2 := h06.c 2 rfl
 have c3 := h06.c 3 rfl
 have c4 := h06.c 4 rfl
 have c5 := h06.c 5 rfl
 have c6 := h06.c 6 rfl
 have c7 := h06.c 7 rfl
 have c8 := h06.c 8 rfl
 have c9 := h06.c 9 rfl
 have e0 := h26.c 0 rfl
 have e1 := h26.c 1 rfl
 have e2 := h26.c 2 rfl
 have e3 := h26.c 3 rfl
 have e4 := h26.c 4 rfl
 have e5 := h26.c 5 rfl
 have e6 := h26.c 6 rfl
 have e7 := h26.c 7 rfl
 have e8 := h26.c 8 rfl
 have e9 := h26.c 9 rfl
 have f0 := h26.free 0
 have f1 := h26.free 1
 have f2 := h26.free 2
 have f3 := h26.free 3
 have f4 := h26.free 4
 have f5 := h26.free 5
 have f6 := h26.free 6
 have f7 := h26.free 7
 have f8 := h26.free 8
 have f9 := h26.free 9
 clear hx6 h06 h26
 (try unfold dsV)
 obtain ⟨W8, hW8⟩ : ∃ W8, ((((((((((W6.setCell ⟨w.heap.size + 1 + 1, 0, none⟩ (.string (bs d1.now.1))).setCell ⟨w.heap.size + 1 + 1, 1, none⟩ (.int .i64 d1.now.2)).setCell ⟨w.heap.size + 1 + 1, 2, none⟩ (.slice r1.A1 d1.back.length r1.c1)).setCell ⟨w.heap.size + 1 + 1, 3, none⟩ (.slice r1.A2 d1.forth.length r1.c2)).setCell ⟨w.heap.size + 1 + 1, 4, none⟩ (.bool d1.opn)).setCell ⟨w.heap.size + 1 + 1, 5, none⟩ (.slice r1.A3 d1.kills.length r1.c3)).setCell ⟨w.heap.size + 1 + 1, 6, none⟩ (.int .i64 d1.top)).setCell ⟨w.heap.size + 1 + 1, 7, none⟩ (.int .i64 d1.last)).setCell ⟨w.heap.size + 1 + 1, 8, none⟩ (.int .i64 d1.fr)).setCell ⟨w.heap.size + 1 + 1, 9, none⟩ (.int .i64 d1.to_)) = W8 := ⟨_, rfl⟩
 have ho8 : Only (fun i => i = w.heap.size + 1 + 1) W6 W8 := by rw [← hW8]; exact ten_onlyD W6 (w.heap.size + 1 + 1) r1 d1
 have h28 : BxA W8.drew (w.heap.size + 1 + 1) 32 (dsK r1 d1) := by rw [← hW8]; exact (ten_boxD H2.out r1 d1).drw
 have hs8 : W8.drew.cell? ⟨w.heap.size, 0, none⟩ = some (.string (bs d1.now.1)) ∧ W8.drew.cell? ⟨w.heap.size, 1, none⟩ = some (.int .i64 d1.now.2) ∧ W8.drew.cell? ⟨w.heap.size, 2, none⟩ = some (.slice r1.A1 d1.back.length r1.c1) ∧ W8.drew.cell? ⟨w.heap.size, 3, none⟩ = some (.slice r1.A2 d1.forth.length r1.c2) ∧ W8.drew.cell? ⟨w.heap.size, 4, none⟩ = some (.bool d1.opn) ∧ W8.drew.cell? ⟨w.heap.size, 5, none⟩ = some (.slice r1.A3 d1.kills.length r1.c3) ∧ W8.drew.cell? ⟨w.heap.size, 6, none⟩ = some (.int .i64 d1.top) ∧ W8.drew.cell? ⟨w.heap.size, 7, none⟩ = some (.int .i64 d1.last) ∧ W8.drew.cell? ⟨w.heap.size, 8, none⟩ = some (.int .i64 d1.fr) ∧ W8.drew.cell? ⟨w.heap.size, 9, none⟩ = some (.int .i64 d1.to_) := (H0.out.keep ho8 (fun (e : w.heap.size = w.heap.size + 1 + 1) => by omega)).drw.cellsAll
 have HL := hid (((HX.out.store (M := w.heap.size + 1 + 1) (.inr ⟨by omega, by omega⟩) ho8).out (Y := X0) (fun _ h => .inl h)).below Below.drewR)
 have HKF := hid (HK.out.trans ho8 (fun i (hi : i = _) => .inr (by omega))).drew
 have H28 := hid h28
 clear ho8 h28
 go_wp2_with fail
 refine wp_region_held_drew (S := (fun w' => w'.cell? ⟨w.heap.size, 0, none⟩ = some (.string (bs d1.now.1)) ∧ w'.cell? ⟨w.heap.size, 1, none⟩ = some (.int .i64 d1.now.2) ∧ w'.cell? ⟨w.heap.size, 2, none⟩ = some (.slice r1.A1 d1.back.length r1.c1) ∧ w'.cell? ⟨w.heap.size, 3, none⟩ = some (.slice r1.A2 d1.forth.length r1.c2) ∧ w'.cell? ⟨w.heap.size, 4, none⟩ = some (.bool d1.opn) ∧ w'.cell? ⟨w.heap.size, 5, none⟩ = some (.slice r1.A3 d1.kills.length r1.c3) ∧ w'.cell? ⟨w.heap.size, 6, none⟩ = some (.int .i64 d1.top) ∧ w'.cell? ⟨w.heap.size, 7, none⟩ = some (.int .i64 d1.last) ∧ w'.cell? ⟨w.heap.size, 8, none⟩ = some (.int .i64 d1.fr) ∧ w'.cell? ⟨w.heap.size, 9, none⟩ = some (.int .i64 d1.to_))) (by kernel_rfl) ⟨c0, c1, c2, c3, c4, c5, c6, c7, c8, c9⟩ (fun hHeld => ?_)
 refine tkH 0 ?_
 refine wpAnyH_take (i := 1) (oi := ⟨some 96, _, _, _, _, _⟩) (v := ?_) rfl (by kernel_rfl) (by kernel_rfl) (by kernel_rfl) (fun _ _ _ h => h) (Or.inl ⟨by kernel_rfl, ?hy1⟩) (by assumption) ?_
 case hy1 => (intro w' hSw; obtain ⟨g0, g1, g2, g3, g4, g5, g6, g7, g8, g9⟩ := hSw; go_simp; try with_reducible rfl)
 refine tkH 2 ?_
 refine tkH 3 ?_
 refine tkH 4 ?_
 refine tkH 5 ?_
 refine rdH 6 fun K hK => ?_
 go_simp
 refine hK.out _ _ hs8 (fun hHeld => ?_)
 clear hK K
 refine tkH 7 ?_
 refine wpAnyH_done (by kernel_rfl) ?_ _
 go_wp2_with fail
 refine bodyPost_ret (results_bx10'' rfl _ _ (w.heap.size + 1 + 1) _ _ _ _ _ _ _ _ _ _ _ _ 32 rfl rfl rfl H28.out Tryz.underlying32 (szS _)) rfl ?_
 exact ⟨b, r1, d1, _, rfl, HL.out, HKF.out⟩
set_option maxHeartbeats 8000000 in
theorem ldoes_k1 (w0 w : World) (X0 : Nat → Prop) (b : Nat) (s : LN) (r : DR) (d : DS) (B : Nat) (hB : B ≤ 1000000) (hsp : Spans w0) (o : OpL) (t : List UInt8) (ht : t.length ≤ 100000) (h : LnX w0 w X0 b s r d B B) :
  Calls Tryz.prog 10 #[.pointer (some ⟨b, 0, none⟩), dsV r d, .agg #[.int .i64 1, .int .i64 o.q, .string (bs t), .int .i64 o.g]] w fun e w' => ∃ b' r' d' q, e = .returned (.tuple #[.pointer (some ⟨b', 0, none⟩), dsV r' d', .bool q]) ∧ LnX w0 w' X0 b' (s.set t) r' d' (B + 600) (B + 600) ∧ Only (fun k => ¬ X0 k) w w' := by
 obtain ⟨W3, hW3, hB3, hs3, hb0, hb1, hb2⟩ := boxes7l w r d 1 o t
 have hx : LnX w0 W3 (fun k => X0 k ∨ (w.heap.size ≤ k ∧ k ≤ w.heap.size + 2)) b s r d B B := h.add hB3 (fun k hk => ⟨hk.1, by have := hk.2; omega⟩)
 have HK : Hid (Only (fun k => ¬ X0 k) w W3) := hid (Only.of_below hB3)
 have HX := hid hx
 have H0 := hid hb0
 have H1 := hid hb1
 have H2 := hid hb2
 have HS := hid hsp
 have HW := hid h.bel.size
 have a0 := hb0.c 0 rfl
 have a1 := hb0.c 1 rfl
 have a2 := hb0.c 2 rfl
 have a3 := hb0.c 3 rfl
 have a4 := hb0.c 4 rfl
 have a5 := hb0.c 5 rfl
 have a6 := hb0.c 6 rfl
 have a7 := hb0.c 7 rfl
 have a8 := hb0.c 8 rfl
 have a9 := hb0.c 9 rfl
 have o0 := hb1.c 0 rfl
 have o1 := hb1.c 1 rfl
 have o2 := hb1.c 2 rfl
 have o3 := hb1.c 3 rfl
 clear hb0 hb1 hb2 hx h hB3 hsp
 unfold dsV
 go_enter Tryz.func10, Tryz.ntmps10
 go_wp2_with fail
 refine (HX.out.line (C' := B + 600) ((LN.set_sm HX.out.sm t).mono (Nat.le_add_right B 600)) (fun O F hl => set_callsL W3 O F b s hl (spans_below HS.out HX.out.bel) t ht (HX.out.sm.mono hB))).mono ?_
 rintro e w4 ⟨rfl, hx, ho⟩
 have h0 := H0.out.keep ho (fun hn => hn (.inr ⟨by omega, by omega⟩))
 have h1 := H1.out.keep ho (fun hn => hn (.inr ⟨by omega, by omega⟩))
 have h2 := H2.out.keep ho (fun hn => hn (.inr ⟨by omega, by omega⟩))
 have HK2 := hid (HK.out.trans ho (fun _ hi => .inl fun hx => hi (.inl hx)))
 clear HK
 have HK := HK2
 clear HK2
 clear HX H0 H1 H2 ho
 have HX := hid hx
 have H0 := hid h0
 have H1 := hid h1
 have H2 := hid h2
 clear a0 a1 a2 a3 a4 a5 a6 a7 a8 a9
 clear o0 o1 o2 o3
 have a0 := h0.c 0 rfl
 have a1 := h0.c 1 rfl
 have a2 := h0.c 2 rfl
 have a3 := h0.c 3 rfl
 have a4 := h0.c 4 rfl
 have a5 := h0.c 5 rfl
 have a6 := h0.c 6 rfl
 have a7 := h0.c 7 rfl
 have a8 := h0.c 8 rfl
 have a9 := h0.c 9 rfl
 have o0 := h1.c 0 rfl
 have o1 := h1.c 1 rfl
 have o2 := h1.c 2 rfl
 have o3 := h1.c 3 rfl
 clear h0 h1 h2 hx
 go_wp2_with fail
 refine (HX.out.doc (B' := B + 600) (E := fun e r' d' => e = .returned (dsV r' d')) (fun D hd hok => (dset_calls w4 D r d B hd hok t (by omega)).mono (fun _ _ hh => by obtain ⟨r', d', e1, e2⟩ := hh; exact ⟨r', d', e1, e2.more7 (by omega)⟩))).mono ?_
 rintro e w5 ⟨r1, d1, rfl, hx, hbel⟩
 have HK2 := hid (HK.out.trans (Only.of_below (R := fun _ => False) hbel) (fun _ hi => hi.elim))
 clear HK
 have HK := HK2
 clear HK2
 have h0 := H0.out.below hbel
 have h1 := H1.out.below hbel
 have h2 := H2.out.below hbel
 have u0 := h0.free 0
 have u1 := h0.free 1
 have u2 := h0.free 2
 have u3 := h0.free 3
 have u4 := h0.free 4
 have u5 := h0.free 5
 have u6 := h0.free 6
 have u7 := h0.free 7
 have u8 := h0.free 8
 have u9 := h0.free 9
 have k0 := h0.c 0 rfl
 have k1 := h0.c 1 rfl
 have k2 := h0.c 2 rfl
 have k3 := h0.c 3 rfl
 have k4 := h0.c 4 rfl
 have k5 := h0.c 5 rfl
 have k6 := h0.c 6 rfl
 have k7 := h0.c 7 rfl
 have k8 := h0.c 8 rfl
 have k9 := h0.c 9 rfl
 obtain ⟨W6, hW6⟩ : ∃ W6, ((((((((((w5.setCell ⟨w.heap.size, 0, none⟩ (.string (bs d1.now.1))).setCell ⟨w.heap.size, 1, none⟩ (.int .i64 d1.now.2)).setCell ⟨w.heap.size, 2, none⟩ (.slice r1.A1 d1.back.length r1.c1)).setCell ⟨w.heap.size, 3, none⟩ (.slice r1.A2 d1.forth.length r1.c2)).setCell ⟨w.heap.size, 4, none⟩ (.bool d1.opn)).setCell ⟨w.heap.size, 5, none⟩ (.slice r1.A3 d1.kills.length r1.c3)).setCell ⟨w.heap.size, 6, none⟩ (.int .i64 d1.top)).setCell ⟨w.heap.size, 7, none⟩ (.int .i64 d1.last)).setCell ⟨w.heap.size, 8, none⟩ (.int .i64 d1.fr)).setCell ⟨w.heap.size, 9, none⟩ (.int .i64 d1.to_)) = W6 := ⟨_, rfl⟩
 have ho6 : Only (fun i => i = w.heap.size) w5 W6 := by rw [← hW6]; exact ten_onlyD w5 w.heap.size r1 d1
 have h06 : BxA W6 w.heap.size 32 (dsK r1 d1) := by rw [← hW6]; exact ten_boxD h0 r1 d1
 have hx6 := hx.store (.inr ⟨by omega, by omega⟩) ho6
 have HK2 := hid (HK.out.trans ho6 (fun i (hi : i = _) => .inr (by omega)))
 clear HK
 have HK := HK2
 clear HK2
 have h26 := h2.keep ho6 (fun e => by omega)
 clear HX H0 H1 H2 hx h0 h1 h2 ho6
 clear a0 a1 a2 a3 a4 a5 a6 a7 a8 a9
 clear o0 o1 o2 o3
 have HX := hid hx6
 have H0 := hid h06
 have H2 := hid h26
 have c0 := h06.c 0 rfl
 have c1 := h06.c 1 rfl
 have c2 := h06.c 2 rfl
 have c3 := h06.c 3 rfl
 have c4 := h06.c 4 rfl
 have c5 := h06.c 5 rfl
 have c6 := h06.c 6 rfl
 have c7 := h06.c 7 rfl
 have c8 := h06.c 8 rfl
 have c9 := h06.c 9 rfl
 have e0 := h26.c 0 rfl
 have e1 := h26.c 1 rfl
 have e2 := h26.c 2 rfl
 have e3 := h26.c 3 rfl
 have e4 := h26.c 4 rfl
 have e5 := h26.c 5 rfl
 have e6 := h26.c 6 rfl
 have e7 := h26.c 7 rfl
 have e8 := h26.c 8 rfl
 have e9 := h26.c 9 rfl
 have f0 := h26.free 0
 have f1 := h26.free 1
 have f2 := h26.free 2
 have f3 := h26.free 3
 have f4 := h26.free 4
 have f5 := h26.free 5
 have f6 := h26.free 6
 have f7 := h26.free 7
 have f8 := h26.free 8
 have f9 := h26.free 9
 clear hx6 h06 h26
 (try unfold dsV)
 obtain ⟨W8, hW8⟩ : ∃ W8, ((((((((((W6.setCell ⟨w.heap.size + 1 + 1, 0, none⟩ (.string (bs d1.now.1))).setCell ⟨w.heap.size + 1 + 1, 1, none⟩ (.int .i64 d1.now.2)).setCell ⟨w.heap.size + 1 + 1, 2, none⟩ (.slice r1.A1 d1.back.length r1.c1)).setCell ⟨w.heap.size + 1 + 1, 3, none⟩ (.slice r1.A2 d1.forth.length r1.c2)).setCell ⟨w.heap.size + 1 + 1, 4, none⟩ (.bool d1.opn)).setCell ⟨w.heap.size + 1 + 1, 5, none⟩ (.slice r1.A3 d1.kills.length r1.c3)).setCell ⟨w.heap.size + 1 + 1, 6, none⟩ (.int .i64 d1.top)).setCell ⟨w.heap.size + 1 + 1, 7, none⟩ (.int .i64 d1.last)).setCell ⟨w.heap.size + 1 + 1, 8, none⟩ (.int .i64 d1.fr)).setCell ⟨w.heap.size + 1 + 1, 9, none⟩ (.int .i64 d1.to_)) = W8 := ⟨_, rfl⟩
 have ho8 : Only (fun i => i = w.heap.size + 1 + 1) W6 W8 := by rw [← hW8]; exact ten_onlyD W6 (w.heap.size + 1 + 1) r1 d1
 have h28 : BxA W8.drew (w.heap.size + 1 + 1) 32 (dsK r1 d1) := by rw [← hW8]; exact (ten_boxD H2.out r1 d1).drw
 have hs8 : W8.drew.cell? ⟨w.heap.size, 0, none⟩ = some (.string (bs d1.now.1)) ∧ W8.drew.cell? ⟨w.heap.size, 1, none⟩ = some (.int .i64 d1.now.2) ∧ W8.drew.cell? ⟨w.heap.size, 2, none⟩ = some (.slice r1.A1 d1.back.length r1.c1) ∧ W8.drew.cell? ⟨w.heap.size, 3, none⟩ = some (.slice r1.A2 d1.forth.length r1.c2) ∧ W8.drew.cell? ⟨w.heap.size, 4, none⟩ = some (.bool d1.opn) ∧ W8.drew.cell? ⟨w.heap.size, 5, none⟩ = some (.slice r1.A3 d1.kills.length r1.c3) ∧ W8.drew.cell? ⟨w.heap.size, 6, none⟩ = some (.int .i64 d1.top) ∧ W8.drew.cell? ⟨w.heap.size, 7, none⟩ = some (.int .i64 d1.last) ∧ W8.drew.cell? ⟨w.heap.size, 8, none⟩ = some (.int .i64 d1.fr) ∧ W8.drew.cell? ⟨w.heap.size, 9, none⟩ = some (.int .i64 d1.to_) := (H0.out.keep ho8 (fun (e : w.heap.size = w.heap.size + 1 + 1) => by omega)).drw.cellsAll
 have HL := hid (((HX.out.store (M := w.heap.size + 1 + 1) (.inr ⟨by omega, by omega⟩) ho8).out (Y := X0) (fun _ h => .inl h)).below Below.drewR)
 have HKF := hid (HK.out.trans ho8 (fun i (hi : i = _) => .inr (by omega))).drew
 have H28 := hid h28
 clear ho8 h28
 go_wp2_with fail
 refine wp_region_held_drew (S := (fun w' => w'.cell? ⟨w.heap.size, 0, none⟩ = some (.string (bs d1.now.1)) ∧ w'.cell? ⟨w.heap.size, 1, none⟩ = some (.int .i64 d1.now.2) ∧ w'.cell? ⟨w.heap.size, 2, none⟩ = some (.slice r1.A1 d1.back.length r1.c1) ∧ w'.cell? ⟨w.heap.size, 3, none⟩ = some (.slice r1.A2 d1.forth.length r1.c2) ∧ w'.cell? ⟨w.heap.size, 4, none⟩ = some (.bool d1.opn) ∧ w'.cell? ⟨w.heap.size, 5, none⟩ = some (.slice r1.A3 d1.kills.length r1.c3) ∧ w'.cell? ⟨w.heap.size, 6, none⟩ = some (.int .i64 d1.top) ∧ w'.cell? ⟨w.heap.size, 7, none⟩ = some (.int .i64 d1.last) ∧ w'.cell? ⟨w.heap.size, 8, none⟩ = some (.int .i64 d1.fr) ∧ w'.cell? ⟨w.heap.size, 9, none⟩ = some (.int .i64 d1.to_))) (by kernel_rfl) ⟨c0, c1, c2, c3, c4, c5, c6, c7, c8, c9⟩ (fun hHeld => ?_)
 refine tkH 0 ?_
 refine wpAnyH_take (i := 1) (oi := ⟨some 96, _, _, _, _, _⟩) (v := ?_) rfl (by kernel_rfl) (by kernel_rfl) (by kernel_rfl) (fun _ _ _ h => h) (Or.inl ⟨by kernel_rfl, ?hy1⟩) (by assumption) ?_
 case hy1 => (intro w' hSw; obtain ⟨g0, g1, g2, g3, g4, g5, g6, g7, g8, g9⟩ := hSw; go_simp; try with_reducible rfl)
 refine tkH 2 ?_
 refine tkH 3 ?_
 refine tkH 4 ?_
 refine tkH 5 ?_
 refine rdH 6 fun K hK => ?_
 go_simp
 refine hK.out _ _ hs8 (fun hHeld => ?_)
 clear hK K
 refine tkH 7 ?_
 refine wpAnyH_done (by kernel_rfl) ?_ _
 go_wp2_with fail
 refine bodyPost_ret (results_bx10'' rfl _ _ (w.heap.size + 1 + 1) _ _ _ _ _ _ _ _ _ _ _ _ 32 rfl rfl rfl H28.out Tryz.underlying32 (szS _)) rfl ?_
 exact ⟨b, r1, d1, _, rfl, HL.out, HKF.out⟩
set_option maxHeartbeats 8000000 in
theorem ldoes_k2 (w0 w : World) (X0 : Nat → Prop) (b : Nat) (s : LN) (r : DR) (d : DS) (B : Nat) (hB : B ≤ 1000000) (hsp : Spans w0) (o : OpL) (t : List UInt8) (ht : t.length ≤ 100000) (h : LnX w0 w X0 b s r d B B) :
  Calls Tryz.prog 10 #[.pointer (some ⟨b, 0, none⟩), dsV r d, .agg #[.int .i64 2, .int .i64 o.q, .string (bs t), .int .i64 o.g]] w fun e w' => ∃ b' r' d' q, e = .returned (.tuple #[.pointer (some ⟨b', 0, none⟩), dsV r' d', .bool q]) ∧ LnX w0 w' X0 b' (s.add t) r' d' (B + 600) (B + 600) ∧ Only (fun k => ¬ X0 k) w w' := by
 obtain ⟨W3, hW3, hB3, hs3, hb0, hb1, hb2⟩ := boxes7l w r d 2 o t
 have hx : LnX w0 W3 (fun k => X0 k ∨ (w.heap.size ≤ k ∧ k ≤ w.heap.size + 2)) b s r d B B := h.add hB3 (fun k hk => ⟨hk.1, by have := hk.2; omega⟩)
 have HK : Hid (Only (fun k => ¬ X0 k) w W3) := hid (Only.of_below hB3)
 have HX := hid hx
 have H0 := hid hb0
 have H1 := hid hb1
 have H2 := hid hb2
 have HS := hid hsp
 have HW := hid h.bel.size
 have a0 := hb0.c 0 rfl
 have a1 := hb0.c 1 rfl
 have a2 := hb0.c 2 rfl
 have a3 := hb0.c 3 rfl
 have a4 := hb0.c 4 rfl
 have a5 := hb0.c 5 rfl
 have a6 := hb0.c 6 rfl
 have a7 := hb0.c 7 rfl
 have a8 := hb0.c 8 rfl
 have a9 := hb0.c 9 rfl
 have o0 := hb1.c 0 rfl
 have o1 := hb1.c 1 rfl
 have o2 := hb1.c 2 rfl
 have o3 := hb1.c 3 rfl
 clear hb0 hb1 hb2 hx h hB3 hsp
 unfold dsV
 go_enter Tryz.func10, Tryz.ntmps10
 go_wp2_with fail
 refine (HX.out.line (C' := B + 600) ((LN.add_sm HX.out.sm t).mono (Nat.le_add_right B 600)) (fun O F hl => add_callsL W3 O F b s hl (spans_below HS.out HX.out.bel) t ht (HX.out.sm.mono hB))).mono ?_
 rintro e w4 ⟨rfl, hx, ho⟩
 have h0 := H0.out.keep ho (fun hn => hn (.inr ⟨by omega, by omega⟩))
 have h1 := H1.out.keep ho (fun hn => hn (.inr ⟨by omega, by omega⟩))
 have h2 := H2.out.keep ho (fun hn => hn (.inr ⟨by omega, by omega⟩))
 have HK2 := hid (HK.out.trans ho (fun _ hi => .inl fun hx => hi (.inl hx)))
 clear HK
 have HK := HK2
 clear HK2
 clear HX H0 H1 H2 ho
 have HX := hid hx
 have H0 := hid h0
 have H1 := hid h1
 have H2 := hid h2
 clear a0 a1 a2 a3 a4 a5 a6 a7 a8 a9
 clear o0 o1 o2 o3
 have a0 := h0.c 0 rfl
 have a1 := h0.c 1 rfl
 have a2 := h0.c 2 rfl
 have a3 := h0.c 3 rfl
 have a4 := h0.c 4 rfl
 have a5 := h0.c 5 rfl
 have a6 := h0.c 6 rfl
 have a7 := h0.c 7 rfl
 have a8 := h0.c 8 rfl
 have a9 := h0.c 9 rfl
 have o0 := h1.c 0 rfl
 have o1 := h1.c 1 rfl
 have o2 := h1.c 2 rfl
 have o3 := h1.c 3 rfl
 clear h0 h1 h2 hx
 go_wp2_with fail
 refine (HX.out.doc (B' := B + 600) (E := fun e r' d' => ∃ q, e = .returned (.tuple #[dsV r' d', .bool q])) (fun D hd hok => (dadd_calls w4 D r d B hd hok t ht).mono (fun _ _ hh => by obtain ⟨r', d', q, e1, e2⟩ := hh; exact ⟨r', d', ⟨q, e1⟩, e2.more7 (by omega)⟩))).mono ?_
 rintro e w5 ⟨r1, d1, ⟨q, rfl⟩, hx, hbel⟩
 have HK2 := hid (HK.out.trans (Only.of_below (R := fun _ => False) hbel) (fun _ hi => hi.elim))
 clear HK
 have HK := HK2
 clear HK2
 have h0 := H0.out.below hbel
 have h1 := H1.out.below hbel
 have h2 := H2.out.below hbel
 have u0 := h0.free 0
 have u1 := h0.free 1
 have u2 := h0.free 2
 have u3 := h0.free 3
 have u4 := h0.free 4
 have u5 := h0.free 5
 have u6 := h0.free 6
 have u7 := h0.free 7
 have u8 := h0.free 8
 have u9 := h0.free 9
 have k0 := h0.c 0 rfl
 have k1 := h0.c 1 rfl
 have k2 := h0.c 2 rfl
 have k3 := h0.c 3 rfl
 have k4 := h0.c 4 rfl
 have k5 := h0.c 5 rfl
 have k6 := h0.c 6 rfl
 have k7 := h0.c 7 rfl
 have k8 := h0.c 8 rfl
 have k9 := h0.c 9 rfl
 obtain ⟨W6, hW6⟩ : ∃ W6, ((((((((((w5.setCell ⟨w.heap.size, 0, none⟩ (.string (bs d1.now.1))).setCell ⟨w.heap.size, 1, none⟩ (.int .i64 d1.now.2)).setCell ⟨w.heap.size, 2, none⟩ (.slice r1.A1 d1.back.length r1.c1)).setCell ⟨w.heap.size, 3, none⟩ (.slice r1.A2 d1.forth.length r1.c2)).setCell ⟨w.heap.size, 4, none⟩ (.bool d1.opn)).setCell ⟨w.heap.size, 5, none⟩ (.slice r1.A3 d1.kills.length r1.c3)).setCell ⟨w.heap.size, 6, none⟩ (.int .i64 d1.top)).setCell ⟨w.heap.size, 7, none⟩ (.int .i64 d1.last)).setCell ⟨w.heap.size, 8, none⟩ (.int .i64 d1.fr)).setCell ⟨w.heap.size, 9, none⟩ (.int .i64 d1.to_)) = W6 := ⟨_, rfl⟩
 have ho6 : Only (fun i => i = w.heap.size) w5 W6 := by rw [← hW6]; exact ten_onlyD w5 w.heap.size r1 d1
 have h06 : BxA W6 w.heap.size 32 (dsK r1 d1) := by rw [← hW6]; exact ten_boxD h0 r1 d1
 have hx6 := hx.store (.inr ⟨by omega, by omega⟩) ho6
 have HK2 := hid (HK.out.trans ho6 (fun i (hi : i = _) => .inr (by omega)))
 clear HK
 have HK := HK2
 clear HK2
 have h26 := h2.keep ho6 (fun e => by omega)
 clear HX H0 H1 H2 hx h0 h1 h2 ho6
 clear a0 a1 a2 a3 a4 a5 a6 a7 a8 a9
 clear o0 o1 o2 o3
 have HX := hid hx6
 have H0 := hid h06
 have H2 := hid h26
 have c0 := h06.c 0 rfl
 have c1 := h06.c 1 rfl
 have c2 := h06.c 2 rfl
 have c3 := h06.c 3 rfl
 have c4 := h06.c 4 rfl
 have c5 := h06.c 5 rfl
 have c6 := h06.c 6 rfl
 have c7 := h06.c 7 rfl
 have c8 := h06.c 8 rfl
 have c9 := h06.c 9 rfl
 have e0 := h26.c 0 rfl
 have e1 := h26.c 1 rfl
 have e2 := h26.c 2 rfl
 have e3 := h26.c 3 rfl
 have e4 := h26.c 4 rfl
 have e5 := h26.c 5 rfl
 have e6 := h26.c 6 rfl
 have e7 := h26.c 7 rfl
 have e8 := h26.c 8 rfl
 have e9 := h26.c 9 rfl
 have f0 := h26.free 0
 have f1 := h26.free 1
 have f2 := h26.free 2
 have f3 := h26.free 3
 have f4 := h26.free 4
 have f5 := h26.free 5
 have f6 := h26.free 6
 have f7 := h26.free 7
 have f8 := h26.free 8
 have f9 := h26.free 9
 clear hx6 h06 h26
 (try unfold dsV)
 obtain ⟨W8, hW8⟩ : ∃ W8, ((((((((((W6.setCell ⟨w.heap.size + 1 + 1, 0, none⟩ (.string (bs d1.now.1))).setCell ⟨w.heap.size + 1 + 1, 1, none⟩ (.int .i64 d1.now.2)).setCell ⟨w.heap.size + 1 + 1, 2, none⟩ (.slice r1.A1 d1.back.length r1.c1)).setCell ⟨w.heap.size + 1 + 1, 3, none⟩ (.slice r1.A2 d1.forth.length r1.c2)).setCell ⟨w.heap.size + 1 + 1, 4, none⟩ (.bool d1.opn)).setCell ⟨w.heap.size + 1 + 1, 5, none⟩ (.slice r1.A3 d1.kills.length r1.c3)).setCell ⟨w.heap.size + 1 + 1, 6, none⟩ (.int .i64 d1.top)).setCell ⟨w.heap.size + 1 + 1, 7, none⟩ (.int .i64 d1.last)).setCell ⟨w.heap.size + 1 + 1, 8, none⟩ (.int .i64 d1.fr)).setCell ⟨w.heap.size + 1 + 1, 9, none⟩ (.int .i64 d1.to_)) = W8 := ⟨_, rfl⟩
 have ho8 : Only (fun i => i = w.heap.size + 1 + 1) W6 W8 := by rw [← hW8]; exact ten_onlyD W6 (w.heap.size + 1 + 1) r1 d1
 have h28 : BxA W8.drew (w.heap.size + 1 + 1) 32 (dsK r1 d1) := by rw [← hW8]; exact (ten_boxD H2.out r1 d1).drw
 have hs8 : W8.drew.cell? ⟨w.heap.size, 0, none⟩ = some (.string (bs d1.now.1)) ∧ W8.drew.cell? ⟨w.heap.size, 1, none⟩ = some (.int .i64 d1.now.2) ∧ W8.drew.cell? ⟨w.heap.size, 2, none⟩ = some (.slice r1.A1 d1.back.length r1.c1) ∧ W8.drew.cell? ⟨w.heap.size, 3, none⟩ = some (.slice r1.A2 d1.forth.length r1.c2) ∧ W8.drew.cell? ⟨w.heap.size, 4, none⟩ = some (.bool d1.opn) ∧ W8.drew.cell? ⟨w.heap.size, 5, none⟩ = some (.slice r1.A3 d1.kills.length r1.c3) ∧ W8.drew.cell? ⟨w.heap.size, 6, none⟩ = some (.int .i64 d1.top) ∧ W8.drew.cell? ⟨w.heap.size, 7, none⟩ = some (.int .i64 d1.last) ∧ W8.drew.cell? ⟨w.heap.size, 8, none⟩ = some (.int .i64 d1.fr) ∧ W8.drew.cell? ⟨w.heap.size, 9, none⟩ = some (.int .i64 d1.to_) := (H0.out.keep ho8 (fun (e : w.heap.size = w.heap.size + 1 + 1) => by omega)).drw.cellsAll
 have HL := hid (((HX.out.store (M := w.heap.size + 1 + 1) (.inr ⟨by omega, by omega⟩) ho8).out (Y := X0) (fun _ h => .inl h)).below Below.drewR)
 have HKF := hid (HK.out.trans ho8 (fun i (hi : i = _) => .inr (by omega))).drew
 have H28 := hid h28
 clear ho8 h28
 go_wp2_with fail
 refine wp_region_held_drew (S := (fun w' => w'.cell? ⟨w.heap.size, 0, none⟩ = some (.string (bs d1.now.1)) ∧ w'.cell? ⟨w.heap.size, 1, none⟩ = some (.int .i64 d1.now.2) ∧ w'.cell? ⟨w.heap.size, 2, none⟩ = some (.slice r1.A1 d1.back.length r1.c1) ∧ w'.cell? ⟨w.heap.size, 3, none⟩ = some (.slice r1.A2 d1.forth.length r1.c2) ∧ w'.cell? ⟨w.heap.size, 4, none⟩ = some (.bool d1.opn) ∧ w'.cell? ⟨w.heap.size, 5, none⟩ = some (.slice r1.A3 d1.kills.length r1.c3) ∧ w'.cell? ⟨w.heap.size, 6, none⟩ = some (.int .i64 d1.top) ∧ w'.cell? ⟨w.heap.size, 7, none⟩ = some (.int .i64 d1.last) ∧ w'.cell? ⟨w.heap.size, 8, none⟩ = some (.int .i64 d1.fr) ∧ w'.cell? ⟨w.heap.size, 9, none⟩ = some (.int .i64 d1.to_))) (by kernel_rfl) ⟨c0, c1, c2, c3, c4, c5, c6, c7, c8, c9⟩ (fun hHeld => ?_)
 refine tkH 0 ?_
 refine wpAnyH_take (i := 1) (oi := ⟨some 96, _, _, _, _, _⟩) (v := ?_) rfl (by kernel_rfl) (by kernel_rfl) (by kernel_rfl) (fun _ _ _ h => h) (Or.inl ⟨by kernel_rfl, ?hy1⟩) (by assumption) ?_
 case hy1 => (intro w' hSw; obtain ⟨g0, g1, g2, g3, g4, g5, g6, g7, g8, g9⟩ := hSw; go_simp; try with_reducible rfl)
 refine tkH 2 ?_
 refine tkH 3 ?_
 refine tkH 4 ?_
 refine tkH 5 ?_
 refine rdH 6 fun K hK => ?_
 go_simp
 refine hK.out _ _ hs8 (fun hHeld => ?_)
 clear hK K
 refine tkH 7 ?_
 refine wpAnyH_done (by kernel_rfl) ?_ _
 go_wp2_with fail
 refine bodyPost_ret (results_bx10'' rfl _ _ (w.heap.size + 1 + 1) _ _ _ _ _ _ _ _ _ _ _ _ 32 rfl rfl rfl H28.out Tryz.underlying32 (szS _)) rfl ?_
 exact ⟨b, r1, d1, _, rfl, HL.out, HKF.out⟩
set_option maxHeartbeats 8000000 in
theorem ldoes_k3 (w0 w : World) (X0 : Nat → Prop) (b : Nat) (s : LN) (r : DR) (d : DS) (B : Nat) (hB : B ≤ 1000000) (hsp : Spans w0) (o : OpL) (t : List UInt8) (ht : t.length ≤ 100000) (h : LnX w0 w X0 b s r d B B) :
  Calls Tryz.prog 10 #[.pointer (some ⟨b, 0, none⟩), dsV r d, .agg #[.int .i64 3, .int .i64 o.q, .string (bs t), .int .i64 o.g]] w fun e w' => ∃ b' r' d' q, e = .returned (.tuple #[.pointer (some ⟨b', 0, none⟩), dsV r' d', .bool q]) ∧ LnX w0 w' X0 b' (s.change t o.g) r' d' (B + 600) (B + 600) ∧ Only (fun k => ¬ X0 k) w w' := by
 obtain ⟨W3, hW3, hB3, hs3, hb0, hb1, hb2⟩ := boxes7l w r d 3 o t
 have hx : LnX w0 W3 (fun k => X0 k ∨ (w.heap.size ≤ k ∧ k ≤ w.heap.size + 2)) b s r d B B := h.add hB3 (fun k hk => ⟨hk.1, by have := hk.2; omega⟩)
 have HK : Hid (Only (fun k => ¬ X0 k) w W3) := hid (Only.of_below hB3)
 have HX := hid hx
 have H0 := hid hb0
 have H1 := hid hb1
 have H2 := hid hb2
 have HS := hid hsp
 have HW := hid h.bel.size
 have a0 := hb0.c 0 rfl
 have a1 := hb0.c 1 rfl
 have a2 := hb0.c 2 rfl
 have a3 := hb0.c 3 rfl
 have a4 := hb0.c 4 rfl
 have a5 := hb0.c 5 rfl
 have a6 := hb0.c 6 rfl
 have a7 := hb0.c 7 rfl
 have a8 := hb0.c 8 rfl
 have a9 := hb0.c 9 rfl
 have o0 := hb1.c 0 rfl
 have o1 := hb1.c 1 rfl
 have o2 := hb1.c 2 rfl
 have o3 := hb1.c 3 rfl
 clear hb0 hb1 hb2 hx h hB3 hsp
 unfold dsV
 go_enter Tryz.func10, Tryz.ntmps10
 go_wp2_with fail
 refine (HX.out.line (C' := B + 600) ((LN.change_sm HX.out.sm t o.g).mono (Nat.le_add_right B 600)) (fun O F hl => change_callsL W3 O F b s hl (spans_below HS.out HX.out.bel) o.g t ht (HX.out.sm.mono hB))).mono ?_
 rintro e w4 ⟨rfl, hx, ho⟩
 have h0 := H0.out.keep ho (fun hn => hn (.inr ⟨by omega, by omega⟩))
 have h1 := H1.out.keep ho (fun hn => hn (.inr ⟨by omega, by omega⟩))
 have h2 := H2.out.keep ho (fun hn => hn (.inr ⟨by omega, by omega⟩))
 have HK2 := hid (HK.out.trans ho (fun _ hi => .inl fun hx => hi (.inl hx)))
 clear HK
 have HK := HK2
 clear HK2
 clear HX H0 H1 H2 ho
 have HX := hid hx
 have H0 := hid h0
 have H1 := hid h1
 have H2 := hid h2
 clear a0 a1 a2 a3 a4 a5 a6 a7 a8 a9
 clear o0 o1 o2 o3
 have a0 := h0.c 0 rfl
 have a1 := h0.c 1 rfl
 have a2 := h0.c 2 rfl
 have a3 := h0.c 3 rfl
 have a4 := h0.c 4 rfl
 have a5 := h0.c 5 rfl
 have a6 := h0.c 6 rfl
 have a7 := h0.c 7 rfl
 have a8 := h0.c 8 rfl
 have a9 := h0.c 9 rfl
 have o0 := h1.c 0 rfl
 have o1 := h1.c 1 rfl
 have o2 := h1.c 2 rfl
 have o3 := h1.c 3 rfl
 clear h0 h1 h2 hx
 go_wp2_with fail
 refine (HX.out.doc (B' := B + 600) (E := fun e r' d' => ∃ q, e = .returned (.tuple #[dsV r' d', .bool q])) (fun D hd hok => (dchange_calls w4 D r d B hd hok (t, o.g) (by show t.length ≤ 137438953472; omega)).mono (fun _ _ hh => by obtain ⟨r', d', q, e1, e2⟩ := hh; exact ⟨r', d', ⟨q, e1⟩, e2.more7 (by omega)⟩))).mono ?_
 rintro e w5 ⟨r1, d1, ⟨q, rfl⟩, hx, hbel⟩
 have HK2 := hid (HK.out.trans (Only.of_below (R := fun _ => False) hbel) (fun _ hi => hi.elim))
 clear HK
 have HK := HK2
 clear HK2
 have h0 := H0.out.below hbel
 have h1 := H1.out.below hbel
 have h2 := H2.out.below hbel
 have u0 := h0.free 0
 have u1 := h0.free 1
 have u2 := h0.free 2
 have u3 := h0.free 3
 have u4 := h0.free 4
 have u5 := h0.free 5
 have u6 := h0.free 6
 have u7 := h0.free 7
 have u8 := h0.free 8
 have u9 := h0.free 9
 have k0 := h0.c 0 rfl
 have k1 := h0.c 1 rfl
 have k2 := h0.c 2 rfl
 have k3 := h0.c 3 rfl
 have k4 := h0.c 4 rfl
 have k5 := h0.c 5 rfl
 have k6 := h0.c 6 rfl
 have k7 := h0.c 7 rfl
 have k8 := h0.c 8 rfl
 have k9 := h0.c 9 rfl
 obtain ⟨W6, hW6⟩ : ∃ W6, ((((((((((w5.setCell ⟨w.heap.size, 0, none⟩ (.string (bs d1.now.1))).setCell ⟨w.heap.size, 1, none⟩ (.int .i64 d1.now.2)).setCell ⟨w.heap.size, 2, none⟩ (.slice r1.A1 d1.back.length r1.c1)).setCell ⟨w.heap.size, 3, none⟩ (.slice r1.A2 d1.forth.length r1.c2)).setCell ⟨w.heap.size, 4, none⟩ (.bool d1.opn)).setCell ⟨w.heap.size, 5, none⟩ (.slice r1.A3 d1.kills.length r1.c3)).setCell ⟨w.heap.size, 6, none⟩ (.int .i64 d1.top)).setCell ⟨w.heap.size, 7, none⟩ (.int .i64 d1.last)).setCell ⟨w.heap.size, 8, none⟩ (.int .i64 d1.fr)).setCell ⟨w.heap.size, 9, none⟩ (.int .i64 d1.to_)) = W6 := ⟨_, rfl⟩
 have ho6 : Only (fun i => i = w.heap.size) w5 W6 := by rw [← hW6]; exact ten_onlyD w5 w.heap.size r1 d1
 have h06 : BxA W6 w.heap.size 32 (dsK r1 d1) := by rw [← hW6]; exact ten_boxD h0 r1 d1
 have hx6 := hx.store (.inr ⟨by omega, by omega⟩) ho6
 have HK2 := hid (HK.out.trans ho6 (fun i (hi : i = _) => .inr (by omega)))
 clear HK
 have HK := HK2
 clear HK2
 have h26 := h2.keep ho6 (fun e => by omega)
 clear HX H0 H1 H2 hx h0 h1 h2 ho6
 clear a0 a1 a2 a3 a4 a5 a6 a7 a8 a9
 clear o0 o1 o2 o3
 have HX := hid hx6
 have H0 := hid h06
 have H2 := hid h26
 have c0 := h06.c 0 rfl
 have c1 := h06.c 1 rfl
 have c2 := h06.c 2 rfl
 have c3 := h06.c 3 rfl
 have c4 := h06.c 4 rfl
 have c5 := h06.c 5 rfl
 have c6 := h06.c 6 rfl
 have c7 := h06.c 7 rfl
 have c8 := h06.c 8 rfl
 have c9 := h06.c 9 rfl
 have e0 := h26.c 0 rfl
 have e1 := h26.c 1 rfl
 have e2 := h26.c 2 rfl
 have e3 := h26.c 3 rfl
 have e4 := h26.c 4 rfl
 have e5 := h26.c 5 rfl
 have e6 := h26.c 6 rfl
 have e7 := h26.c 7 rfl
 have e8 := h26.c 8 rfl
 have e9 := h26.c 9 rfl
 have f0 := h26.free 0
 have f1 := h26.free 1
 have f2 := h26.free 2
 have f3 := h26.free 3
 have f4 := h26.free 4
 have f5 := h26.free 5
 have f6 := h26.free 6
 have f7 := h26.free 7
 have f8 := h26.free 8
 have f9 := h26.free 9
 clear hx6 h06 h26
 (try unfold dsV)
 obtain ⟨W8, hW8⟩ : ∃ W8, ((((((((((W6.setCell ⟨w.heap.size + 1 + 1, 0, none⟩ (.string (bs d1.now.1))).setCell ⟨w.heap.size + 1 + 1, 1, none⟩ (.int .i64 d1.now.2)).setCell ⟨w.heap.size + 1 + 1, 2, none⟩ (.slice r1.A1 d1.back.length r1.c1)).setCell ⟨w.heap.size + 1 + 1, 3, none⟩ (.slice r1.A2 d1.forth.length r1.c2)).setCell ⟨w.heap.size + 1 + 1, 4, none⟩ (.bool d1.opn)).setCell ⟨w.heap.size + 1 + 1, 5, none⟩ (.slice r1.A3 d1.kills.length r1.c3)).setCell ⟨w.heap.size + 1 + 1, 6, none⟩ (.int .i64 d1.top)).setCell ⟨w.heap.size + 1 + 1, 7, none⟩ (.int .i64 d1.last)).setCell ⟨w.heap.size + 1 + 1, 8, none⟩ (.int .i64 d1.fr)).setCell ⟨w.heap.size + 1 + 1, 9, none⟩ (.int .i64 d1.to_)) = W8 := ⟨_, rfl⟩
 have ho8 : Only (fun i => i = w.heap.size + 1 + 1) W6 W8 := by rw [← hW8]; exact ten_onlyD W6 (w.heap.size + 1 + 1) r1 d1
 have h28 : BxA W8.drew (w.heap.size + 1 + 1) 32 (dsK r1 d1) := by rw [← hW8]; exact (ten_boxD H2.out r1 d1).drw
 have hs8 : W8.drew.cell? ⟨w.heap.size, 0, none⟩ = some (.string (bs d1.now.1)) ∧ W8.drew.cell? ⟨w.heap.size, 1, none⟩ = some (.int .i64 d1.now.2) ∧ W8.drew.cell? ⟨w.heap.size, 2, none⟩ = some (.slice r1.A1 d1.back.length r1.c1) ∧ W8.drew.cell? ⟨w.heap.size, 3, none⟩ = some (.slice r1.A2 d1.forth.length r1.c2) ∧ W8.drew.cell? ⟨w.heap.size, 4, none⟩ = some (.bool d1.opn) ∧ W8.drew.cell? ⟨w.heap.size, 5, none⟩ = some (.slice r1.A3 d1.kills.length r1.c3) ∧ W8.drew.cell? ⟨w.heap.size, 6, none⟩ = some (.int .i64 d1.top) ∧ W8.drew.cell? ⟨w.heap.size, 7, none⟩ = some (.int .i64 d1.last) ∧ W8.drew.cell? ⟨w.heap.size, 8, none⟩ = some (.int .i64 d1.fr) ∧ W8.drew.cell? ⟨w.heap.size, 9, none⟩ = some (.int .i64 d1.to_) := (H0.out.keep ho8 (fun (e : w.heap.size = w.heap.size + 1 + 1) => by omega)).drw.cellsAll
 have HL := hid (((HX.out.store (M := w.heap.size + 1 + 1) (.inr ⟨by omega, by omega⟩) ho8).out (Y := X0) (fun _ h => .inl h)).below Below.drewR)
 have HKF := hid (HK.out.trans ho8 (fun i (hi : i = _) => .inr (by omega))).drew
 have H28 := hid h28
 clear ho8 h28
 go_wp2_with fail
 refine wp_region_held_drew (S := (fun w' => w'.cell? ⟨w.heap.size, 0, none⟩ = some (.string (bs d1.now.1)) ∧ w'.cell? ⟨w.heap.size, 1, none⟩ = some (.int .i64 d1.now.2) ∧ w'.cell? ⟨w.heap.size, 2, none⟩ = some (.slice r1.A1 d1.back.length r1.c1) ∧ w'.cell? ⟨w.heap.size, 3, none⟩ = some (.slice r1.A2 d1.forth.length r1.c2) ∧ w'.cell? ⟨w.heap.size, 4, none⟩ = some (.bool d1.opn) ∧ w'.cell? ⟨w.heap.size, 5, none⟩ = some (.slice r1.A3 d1.kills.length r1.c3) ∧ w'.cell? ⟨w.heap.size, 6, none⟩ = some (.int .i64 d1.top) ∧ w'.cell? ⟨w.heap.size, 7, none⟩ = some (.int .i64 d1.last) ∧ w'.cell? ⟨w.heap.size, 8, none⟩ = some (.int .i64 d1.fr) ∧ w'.cell? ⟨w.heap.size, 9, none⟩ = some (.int .i64 d1.to_))) (by kernel_rfl) ⟨c0, c1, c2, c3, c4, c5, c6, c7, c8, c9⟩ (fun hHeld => ?_)
 refine tkH 0 ?_
 refine wpAnyH_take (i := 1) (oi := ⟨some 96, _, _, _, _, _⟩) (v := ?_) rfl (by kernel_rfl) (by kernel_rfl) (by kernel_rfl) (fun _ _ _ h => h) (Or.inl ⟨by kernel_rfl, ?hy1⟩) (by assumption) ?_
 case hy1 => (intro w' hSw; obtain ⟨g0, g1, g2, g3, g4, g5, g6, g7, g8, g9⟩ := hSw; go_simp; try with_reducible rfl)
 refine tkH 2 ?_
 refine tkH 3 ?_
 refine tkH 4 ?_
 refine tkH 5 ?_
 refine rdH 6 fun K hK => ?_
 go_simp
 refine hK.out _ _ hs8 (fun hHeld => ?_)
 clear hK K
 refine tkH 7 ?_
 refine wpAnyH_done (by kernel_rfl) ?_ _
 go_wp2_with fail
 refine bodyPost_ret (results_bx10'' rfl _ _ (w.heap.size + 1 + 1) _ _ _ _ _ _ _ _ _ _ _ _ 32 rfl rfl rfl H28.out Tryz.underlying32 (szS _)) rfl ?_
 exact ⟨b, r1, d1, _, rfl, HL.out, HKF.out⟩
set_option maxHeartbeats 8000000 in
theorem ldoes_k4 (w0 w : World) (X0 : Nat → Prop) (b : Nat) (s : LN) (r : DR) (d : DS) (B : Nat) (_ : B ≤ 1000000) (hsp : Spans w0) (o : OpL) (t : List UInt8) (_ : t.length ≤ 100000) (h : LnX w0 w X0 b s r d B B) :
  Calls Tryz.prog 10 #[.pointer (some ⟨b, 0, none⟩), dsV r d, .agg #[.int .i64 4, .int .i64 o.q, .string (bs t), .int .i64 o.g]] w fun e w' => ∃ b' r' d' q, e = .returned (.tuple #[.pointer (some ⟨b', 0, none⟩), dsV r' d', .bool q]) ∧ LnX w0 w' X0 b' (s.clear) r' d' (B + 600) (B + 600) ∧ Only (fun k => ¬ X0 k) w w' := by
 obtain ⟨W3, hW3, hB3, hs3, hb0, hb1, hb2⟩ := boxes7l w r d 4 o t
 have hx : LnX w0 W3 (fun k => X0 k ∨ (w.heap.size ≤ k ∧ k ≤ w.heap.size + 2)) b s r d B B := h.add hB3 (fun k hk => ⟨hk.1, by have := hk.2; omega⟩)
 have HK : Hid (Only (fun k => ¬ X0 k) w W3) := hid (Only.of_below hB3)
 have HX := hid hx
 have H0 := hid hb0
 have H1 := hid hb1
 have H2 := hid hb2
 have HS := hid hsp
 have HW := hid h.bel.size
 have a0 := hb0.c 0 rfl
 have a1 := hb0.c 1 rfl
 have a2 := hb0.c 2 rfl
 have a3 := hb0.c 3 rfl
 have a4 := hb0.c 4 rfl
 have a5 := hb0.c 5 rfl
 have a6 := hb0.c 6 rfl
 have a7 := hb0.c 7 rfl
 have a8 := hb0.c 8 rfl
 have a9 := hb0.c 9 rfl
 have o0 := hb1.c 0 rfl
 have o1 := hb1.c 1 rfl
 have o2 := hb1.c 2 rfl
 have o3 := hb1.c 3 rfl
 clear hb0 hb1 hb2 hx h hB3 hsp
 unfold dsV
 go_enter Tryz.func10, Tryz.ntmps10
 go_wp2_with fail
 refine (HX.out.line (C' := B + 600) ((LN.clear_sm HX.out.sm).mono (Nat.le_add_right B 600)) (fun O F hl => clear_callsL W3 O F b s hl (spans_below HS.out HX.out.bel))).mono ?_
 rintro e w4 ⟨rfl, hx, ho⟩
 have h0 := H0.out.keep ho (fun hn => hn (.inr ⟨by omega, by omega⟩))
 have h1 := H1.out.keep ho (fun hn => hn (.inr ⟨by omega, by omega⟩))
 have h2 := H2.out.keep ho (fun hn => hn (.inr ⟨by omega, by omega⟩))
 have HK2 := hid (HK.out.trans ho (fun _ hi => .inl fun hx => hi (.inl hx)))
 clear HK
 have HK := HK2
 clear HK2
 clear HX H0 H1 H2 ho
 have HX := hid hx
 have H0 := hid h0
 have H1 := hid h1
 have H2 := hid h2
 clear a0 a1 a2 a3 a4 a5 a6 a7 a8 a9
 clear o0 o1 o2 o3
 have a0 := h0.c 0 rfl
 have a1 := h0.c 1 rfl
 have a2 := h0.c 2 rfl
 have a3 := h0.c 3 rfl
 have a4 := h0.c 4 rfl
 have a5 := h0.c 5 rfl
 have a6 := h0.c 6 rfl
 have a7 := h0.c 7 rfl
 have a8 := h0.c 8 rfl
 have a9 := h0.c 9 rfl
 have o0 := h1.c 0 rfl
 have o1 := h1.c 1 rfl
 have o2 := h1.c 2 rfl
 have o3 := h1.c 3 rfl
 clear h0 h1 h2 hx
 go_wp2_with fail
 refine (HX.out.doc (B' := B + 600) (E := fun e r' d' => e = .returned (dsV r' d')) (fun D hd hok => (dclear_calls w4 D r d B hd hok).mono (fun _ _ hh => by obtain ⟨r', d', e1, e2⟩ := hh; exact ⟨r', d', e1, e2.more7 (by omega)⟩))).mono ?_
 rintro e w5 ⟨r1, d1, rfl, hx, hbel⟩
 have HK2 := hid (HK.out.trans (Only.of_below (R := fun _ => False) hbel) (fun _ hi => hi.elim))
 clear HK
 have HK := HK2
 clear HK2
 have h0 := H0.out.below hbel
 have h1 := H1.out.below hbel
 have h2 := H2.out.below hbel
 have u0 := h0.free 0
 have u1 := h0.free 1
 have u2 := h0.free 2
 have u3 := h0.free 3
 have u4 := h0.free 4
 have u5 := h0.free 5
 have u6 := h0.free 6
 have u7 := h0.free 7
 have u8 := h0.free 8
 have u9 := h0.free 9
 have k0 := h0.c 0 rfl
 have k1 := h0.c 1 rfl
 have k2 := h0.c 2 rfl
 have k3 := h0.c 3 rfl
 have k4 := h0.c 4 rfl
 have k5 := h0.c 5 rfl
 have k6 := h0.c 6 rfl
 have k7 := h0.c 7 rfl
 have k8 := h0.c 8 rfl
 have k9 := h0.c 9 rfl
 obtain ⟨W6, hW6⟩ : ∃ W6, ((((((((((w5.setCell ⟨w.heap.size, 0, none⟩ (.string (bs d1.now.1))).setCell ⟨w.heap.size, 1, none⟩ (.int .i64 d1.now.2)).setCell ⟨w.heap.size, 2, none⟩ (.slice r1.A1 d1.back.length r1.c1)).setCell ⟨w.heap.size, 3, none⟩ (.slice r1.A2 d1.forth.length r1.c2)).setCell ⟨w.heap.size, 4, none⟩ (.bool d1.opn)).setCell ⟨w.heap.size, 5, none⟩ (.slice r1.A3 d1.kills.length r1.c3)).setCell ⟨w.heap.size, 6, none⟩ (.int .i64 d1.top)).setCell ⟨w.heap.size, 7, none⟩ (.int .i64 d1.last)).setCell ⟨w.heap.size, 8, none⟩ (.int .i64 d1.fr)).setCell ⟨w.heap.size, 9, none⟩ (.int .i64 d1.to_)) = W6 := ⟨_, rfl⟩
 have ho6 : Only (fun i => i = w.heap.size) w5 W6 := by rw [← hW6]; exact ten_onlyD w5 w.heap.size r1 d1
 have h06 : BxA W6 w.heap.size 32 (dsK r1 d1) := by rw [← hW6]; exact ten_boxD h0 r1 d1
 have hx6 := hx.store (.inr ⟨by omega, by omega⟩) ho6
 have HK2 := hid (HK.out.trans ho6 (fun i (hi : i = _) => .inr (by omega)))
 clear HK
 have HK := HK2
 clear HK2
 have h26 := h2.keep ho6 (fun e => by omega)
 clear HX H0 H1 H2 hx h0 h1 h2 ho6
 clear a0 a1 a2 a3 a4 a5 a6 a7 a8 a9
 clear o0 o1 o2 o3
 have HX := hid hx6
 have H0 := hid h06
 have H2 := hid h26
 have c0 := h06.c 0 rfl
 have c1 := h06.c 1 rfl
 have c2 := h06.c 2 rfl
 have c3 := h06.c 3 rfl
 have c4 := h06.c 4 rfl
 have c5 := h06.c 5 rfl
 have c6 := h06.c 6 rfl
 have c7 := h06.c 7 rfl
 have c8 := h06.c 8 rfl
 have c9 := h06.c 9 rfl
 have e0 := h26.c 0 rfl
 have e1 := h26.c 1 rfl
 have e2 := h26.c 2 rfl
 have e3 := h26.c 3 rfl
 have e4 := h26.c 4 rfl
 have e5 := h26.c 5 rfl
 have e6 := h26.c 6 rfl
 have e7 := h26.c 7 rfl
 have e8 := h26.c 8 rfl
 have e9 := h26.c 9 rfl
 have f0 := h26.free 0
 have f1 := h26.free 1
 have f2 := h26.free 2
 have f3 := h26.free 3
 have f4 := h26.free 4
 have f5 := h26.free 5
 have f6 := h26.free 6
 have f7 := h26.free 7
 have f8 := h26.free 8
 have f9 := h26.free 9
 clear hx6 h06 h26
 (try unfold dsV)
 obtain ⟨W8, hW8⟩ : ∃ W8, ((((((((((W6.setCell ⟨w.heap.size + 1 + 1, 0, none⟩ (.string (bs d1.now.1))).setCell ⟨w.heap.size + 1 + 1, 1, none⟩ (.int .i64 d1.now.2)).setCell ⟨w.heap.size + 1 + 1, 2, none⟩ (.slice r1.A1 d1.back.length r1.c1)).setCell ⟨w.heap.size + 1 + 1, 3, none⟩ (.slice r1.A2 d1.forth.length r1.c2)).setCell ⟨w.heap.size + 1 + 1, 4, none⟩ (.bool d1.opn)).setCell ⟨w.heap.size + 1 + 1, 5, none⟩ (.slice r1.A3 d1.kills.length r1.c3)).setCell ⟨w.heap.size + 1 + 1, 6, none⟩ (.int .i64 d1.top)).setCell ⟨w.heap.size + 1 + 1, 7, none⟩ (.int .i64 d1.last)).setCell ⟨w.heap.size + 1 + 1, 8, none⟩ (.int .i64 d1.fr)).setCell ⟨w.heap.size + 1 + 1, 9, none⟩ (.int .i64 d1.to_)) = W8 := ⟨_, rfl⟩
 have ho8 : Only (fun i => i = w.heap.size + 1 + 1) W6 W8 := by rw [← hW8]; exact ten_onlyD W6 (w.heap.size + 1 + 1) r1 d1
 have h28 : BxA W8.drew (w.heap.size + 1 + 1) 32 (dsK r1 d1) := by rw [← hW8]; exact (ten_boxD H2.out r1 d1).drw
 have hs8 : W8.drew.cell? ⟨w.heap.size, 0, none⟩ = some (.string (bs d1.now.1)) ∧ W8.drew.cell? ⟨w.heap.size, 1, none⟩ = some (.int .i64 d1.now.2) ∧ W8.drew.cell? ⟨w.heap.size, 2, none⟩ = some (.slice r1.A1 d1.back.length r1.c1) ∧ W8.drew.cell? ⟨w.heap.size, 3, none⟩ = some (.slice r1.A2 d1.forth.length r1.c2) ∧ W8.drew.cell? ⟨w.heap.size, 4, none⟩ = some (.bool d1.opn) ∧ W8.drew.cell? ⟨w.heap.size, 5, none⟩ = some (.slice r1.A3 d1.kills.length r1.c3) ∧ W8.drew.cell? ⟨w.heap.size, 6, none⟩ = some (.int .i64 d1.top) ∧ W8.drew.cell? ⟨w.heap.size, 7, none⟩ = some (.int .i64 d1.last) ∧ W8.drew.cell? ⟨w.heap.size, 8, none⟩ = some (.int .i64 d1.fr) ∧ W8.drew.cell? ⟨w.heap.size, 9, none⟩ = some (.int .i64 d1.to_) := (H0.out.keep ho8 (fun (e : w.heap.size = w.heap.size + 1 + 1) => by omega)).drw.cellsAll
 have HL := hid (((HX.out.store (M := w.heap.size + 1 + 1) (.inr ⟨by omega, by omega⟩) ho8).out (Y := X0) (fun _ h => .inl h)).below Below.drewR)
 have HKF := hid (HK.out.trans ho8 (fun i (hi : i = _) => .inr (by omega))).drew
 have H28 := hid h28
 clear ho8 h28
 go_wp2_with fail
 refine wp_region_held_drew (S := (fun w' => w'.cell? ⟨w.heap.size, 0, none⟩ = some (.string (bs d1.now.1)) ∧ w'.cell? ⟨w.heap.size, 1, none⟩ = some (.int .i64 d1.now.2) ∧ w'.cell? ⟨w.heap.size, 2, none⟩ = some (.slice r1.A1 d1.back.length r1.c1) ∧ w'.cell? ⟨w.heap.size, 3, none⟩ = some (.slice r1.A2 d1.forth.length r1.c2) ∧ w'.cell? ⟨w.heap.size, 4, none⟩ = some (.bool d1.opn) ∧ w'.cell? ⟨w.heap.size, 5, none⟩ = some (.slice r1.A3 d1.kills.length r1.c3) ∧ w'.cell? ⟨w.heap.size, 6, none⟩ = some (.int .i64 d1.top) ∧ w'.cell? ⟨w.heap.size, 7, none⟩ = some (.int .i64 d1.last) ∧ w'.cell? ⟨w.heap.size, 8, none⟩ = some (.int .i64 d1.fr) ∧ w'.cell? ⟨w.heap.size, 9, none⟩ = some (.int .i64 d1.to_))) (by kernel_rfl) ⟨c0, c1, c2, c3, c4, c5, c6, c7, c8, c9⟩ (fun hHeld => ?_)
 refine tkH 0 ?_
 refine wpAnyH_take (i := 1) (oi := ⟨some 96, _, _, _, _, _⟩) (v := ?_) rfl (by kernel_rfl) (by kernel_rfl) (by kernel_rfl) (fun _ _ _ h => h) (Or.inl ⟨by kernel_rfl, ?hy1⟩) (by assumption) ?_
 case hy1 => (intro w' hSw; obtain ⟨g0, g1, g2, g3, g4, g5, g6, g7, g8, g9⟩ := hSw; go_simp; try with_reducible rfl)
 refine tkH 2 ?_
 refine tkH 3 ?_
 refine tkH 4 ?_
 refine tkH 5 ?_
 refine rdH 6 fun K hK => ?_
 go_simp
 refine hK.out _ _ hs8 (fun hHeld => ?_)
 clear hK K
 refine tkH 7 ?_
 refine wpAnyH_done (by kernel_rfl) ?_ _
 go_wp2_with fail
 refine bodyPost_ret (results_bx10'' rfl _ _ (w.heap.size + 1 + 1) _ _ _ _ _ _ _ _ _ _ _ _ 32 rfl rfl rfl H28.out Tryz.underlying32 (szS _)) rfl ?_
 exact ⟨b, r1, d1, _, rfl, HL.out, HKF.out⟩
set_option maxHeartbeats 8000000 in
theorem ldoes_k5 (w0 w : World) (X0 : Nat → Prop) (b : Nat) (s : LN) (r : DR) (d : DS) (B : Nat) (hB : B ≤ 1000000) (hsp : Spans w0) (o : OpL) (t : List UInt8) (_ : t.length ≤ 100000) (h : LnX w0 w X0 b s r d B B) :
  Calls Tryz.prog 10 #[.pointer (some ⟨b, 0, none⟩), dsV r d, .agg #[.int .i64 5, .int .i64 o.q, .string (bs t), .int .i64 o.g]] w fun e w' => ∃ b' r' d' q, e = .returned (.tuple #[.pointer (some ⟨b', 0, none⟩), dsV r' d', .bool q]) ∧ LnX w0 w' X0 b' (s) r' d' (B + 600) (B + 600) ∧ Only (fun k => ¬ X0 k) w w' := by
 obtain ⟨W3, hW3, hB3, hs3, hb0, hb1, hb2⟩ := boxes7l w r d 5 o t
 have hx : LnX w0 W3 (fun k => X0 k ∨ (w.heap.size ≤ k ∧ k ≤ w.heap.size + 2)) b s r d B B := h.add hB3 (fun k hk => ⟨hk.1, by have := hk.2; omega⟩)
 have HK : Hid (Only (fun k => ¬ X0 k) w W3) := hid (Only.of_below hB3)
 have HX := hid hx
 have H0 := hid hb0
 have H1 := hid hb1
 have H2 := hid hb2
 have HS := hid hsp
 have HW := hid h.bel.size
 have a0 := hb0.c 0 rfl
 have a1 := hb0.c 1 rfl
 have a2 := hb0.c 2 rfl
 have a3 := hb0.c 3 rfl
 have a4 := hb0.c 4 rfl
 have a5 := hb0.c 5 rfl
 have a6 := hb0.c 6 rfl
 have a7 := hb0.c 7 rfl
 have a8 := hb0.c 8 rfl
 have a9 := hb0.c 9 rfl
 have o0 := hb1.c 0 rfl
 have o1 := hb1.c 1 rfl
 have o2 := hb1.c 2 rfl
 have o3 := hb1.c 3 rfl
 clear hb0 hb1 hb2 hx h hB3 hsp
 unfold dsV
 go_enter Tryz.func10, Tryz.ntmps10
 go_wp2_with fail
 have HM := hid (HX.out.sm.mono hB)
 refine (HX.out.copy (E := fun b' e => e = .returned (.pointer (some ⟨b', 0, none⟩))) (fun O F hl => copy_callsL W3 O F b s hl (spans_below HS.out HX.out.bel))).mono ?_
 rintro e w4 ⟨b', rfl, hx, hbel⟩
 have HK2 := hid (HK.out.trans (Only.of_below (R := fun _ => False) hbel) (fun _ hi => hi.elim))
 clear HK
 have HK := HK2
 clear HK2
 have h0 := H0.out.below hbel
 have h1 := H1.out.below hbel
 have h2 := H2.out.below hbel
 clear HX H0 H1 H2
 have HX := hid hx
 have H0 := hid h0
 have H1 := hid h1
 have H2 := hid h2
 clear a0 a1 a2 a3 a4 a5 a6 a7 a8 a9
 clear o0 o1 o2 o3
 have a0 := h0.c 0 rfl
 have a1 := h0.c 1 rfl
 have a2 := h0.c 2 rfl
 have a3 := h0.c 3 rfl
 have a4 := h0.c 4 rfl
 have a5 := h0.c 5 rfl
 have a6 := h0.c 6 rfl
 have a7 := h0.c 7 rfl
 have a8 := h0.c 8 rfl
 have a9 := h0.c 9 rfl
 have o0 := h1.c 0 rfl
 have o1 := h1.c 1 rfl
 have o2 := h1.c 2 rfl
 have o3 := h1.c 3 rfl
 clear h0 h1 h2 hx
 clear hbel
 go_wp2_with fail
 refine (HX.out.line (fun O F hl => set_callsL w4 O F b s hl (spans_below HS.out HX.out.bel) [110, 111, 110, 101] (by decide) HM.out)).mono ?_
 rintro e w5 ⟨rfl, hx, ho⟩
 have HK2 := hid (HK.out.trans ho (fun _ hi => .inl fun hx => hi (.inl hx)))
 clear HK
 have HK := HK2
 clear HK2
 have h0 := H0.out.keep ho (fun hn => hn (.inr ⟨by omega, by omega⟩))
 have h1 := H1.out.keep ho (fun hn => hn (.inr ⟨by omega, by omega⟩))
 have h2 := H2.out.keep ho (fun hn => hn (.inr ⟨by omega, by omega⟩))
 clear HX H0 H1 H2
 have HX := hid hx
 have H0 := hid h0
 have H1 := hid h1
 have H2 := hid h2
 clear a0 a1 a2 a3 a4 a5 a6 a7 a8 a9
 clear o0 o1 o2 o3
 have a0 := h0.c 0 rfl
 have a1 := h0.c 1 rfl
 have a2 := h0.c 2 rfl
 have a3 := h0.c 3 rfl
 have a4 := h0.c 4 rfl
 have a5 := h0.c 5 rfl
 have a6 := h0.c 6 rfl
 have a7 := h0.c 7 rfl
 have a8 := h0.c 8 rfl
 have a9 := h0.c 9 rfl
 have o0 := h1.c 0 rfl
 have o1 := h1.c 1 rfl
 have o2 := h1.c 2 rfl
 have o3 := h1.c 3 rfl
 clear h0 h1 h2 hx
 clear ho
 go_wp2_with fail
 refine (HX.out.line (fun O F hl => key_callsL w5 O F b _ hl (spans_below HS.out HX.out.bel) 12 [] (by decide) (LN.set_sm HM.out _))).mono ?_
 rintro e w6 ⟨rfl, hx, ho⟩
 have HK2 := hid (HK.out.trans ho (fun _ hi => .inl fun hx => hi (.inl hx)))
 clear HK
 have HK := HK2
 clear HK2
 have h0 := H0.out.keep ho (fun hn => hn (.inr ⟨by omega, by omega⟩))
 have h1 := H1.out.keep ho (fun hn => hn (.inr ⟨by omega, by omega⟩))
 have h2 := H2.out.keep ho (fun hn => hn (.inr ⟨by omega, by omega⟩))
 clear HX H0 H1 H2
 have HX := hid hx
 have H0 := hid h0
 have H1 := hid h1
 have H2 := hid h2
 clear a0 a1 a2 a3 a4 a5 a6 a7 a8 a9
 clear o0 o1 o2 o3
 have a0 := h0.c 0 rfl
 have a1 := h0.c 1 rfl
 have a2 := h0.c 2 rfl
 have a3 := h0.c 3 rfl
 have a4 := h0.c 4 rfl
 have a5 := h0.c 5 rfl
 have a6 := h0.c 6 rfl
 have a7 := h0.c 7 rfl
 have a8 := h0.c 8 rfl
 have a9 := h0.c 9 rfl
 have o0 := h1.c 0 rfl
 have o1 := h1.c 1 rfl
 have o2 := h1.c 2 rfl
 have o3 := h1.c 3 rfl
 clear h0 h1 h2 hx
 clear ho
 have hx := HX.out.snd.more (Nat.le_add_right B 600) (Nat.le_add_right B 600)
 have h0 := H0.out
 have h2 := H2.out
 clear HX H0 H2
 clear a0 a1 a2 a3 a4 a5 a6 a7 a8 a9
 have HX := hid hx
 have H0 := hid h0
 have H2 := hid h2
 have c0 := h0.c 0 rfl
 have c1 := h0.c 1 rfl
 have c2 := h0.c 2 rfl
 have c3 := h0.c 3 rfl
 have c4 := h0.c 4 rfl
 have c5 := h0.c 5 rfl
 have c6 := h0.c 6 rfl
 have c7 := h0.c 7 rfl
 have c8 := h0.c 8 rfl
 have c9 := h0.c 9 rfl
 have e0 := h2.c 0 rfl
 have e1 := h2.c 1 rfl
 have e2 := h2.c 2 rfl
 have e3 := h2.c 3 rfl
 have e4 := h2.c 4 rfl
 have e5 := h2.c 5 rfl
 have e6 := h2.c 6 rfl
 have e7 := h2.c 7 rfl
 have e8 := h2.c 8 rfl
 have e9 := h2.c 9 rfl
 have f0 := h2.free 0
 have f1 := h2.free 1
 have f2 := h2.free 2
 have f3 := h2.free 3
 have f4 := h2.free 4
 have f5 := h2.free 5
 have f6 := h2.free 6
 have f7 := h2.free 7
 have f8 := h2.free 8
 have f9 := h2.free 9
 clear hx h0 h2
 (try unfold dsV)
 obtain ⟨W8, hW8⟩ : ∃ W8, ((((((((((w6.setCell ⟨w.heap.size + 1 + 1, 0, none⟩ (.string (bs d.now.1))).setCell ⟨w.heap.size + 1 + 1, 1, none⟩ (.int .i64 d.now.2)).setCell ⟨w.heap.size + 1 + 1, 2, none⟩ (.slice r.A1 d.back.length r.c1)).setCell ⟨w.heap.size + 1 + 1, 3, none⟩ (.slice r.A2 d.forth.length r.c2)).setCell ⟨w.heap.size + 1 + 1, 4, none⟩ (.bool d.opn)).setCell ⟨w.heap.size + 1 + 1, 5, none⟩ (.slice r.A3 d.kills.length r.c3)).setCell ⟨w.heap.size + 1 + 1, 6, none⟩ (.int .i64 d.top)).setCell ⟨w.heap.size + 1 + 1, 7, none⟩ (.int .i64 d.last)).setCell ⟨w.heap.size + 1 + 1, 8, none⟩ (.int .i64 d.fr)).setCell ⟨w.heap.size + 1 + 1, 9, none⟩ (.int .i64 d.to_)) = W8 := ⟨_, rfl⟩
 have ho8 : Only (fun i => i = w.heap.size + 1 + 1) w6 W8 := by rw [← hW8]; exact ten_onlyD w6 (w.heap.size + 1 + 1) r d
 have h28 : BxA W8.drew (w.heap.size + 1 + 1) 32 (dsK r d) := by rw [← hW8]; exact (ten_boxD H2.out r d).drw
 have hs8 : W8.drew.cell? ⟨w.heap.size, 0, none⟩ = some (.string (bs d.now.1)) ∧ W8.drew.cell? ⟨w.heap.size, 1, none⟩ = some (.int .i64 d.now.2) ∧ W8.drew.cell? ⟨w.heap.size, 2, none⟩ = some (.slice r.A1 d.back.length r.c1) ∧ W8.drew.cell? ⟨w.heap.size, 3, none⟩ = some (.slice r.A2 d.forth.length r.c2) ∧ W8.drew.cell? ⟨w.heap.size, 4, none⟩ = some (.bool d.opn) ∧ W8.drew.cell? ⟨w.heap.size, 5, none⟩ = some (.slice r.A3 d.kills.length r.c3) ∧ W8.drew.cell? ⟨w.heap.size, 6, none⟩ = some (.int .i64 d.top) ∧ W8.drew.cell? ⟨w.heap.size, 7, none⟩ = some (.int .i64 d.last) ∧ W8.drew.cell? ⟨w.heap.size, 8, none⟩ = some (.int .i64 d.fr) ∧ W8.drew.cell? ⟨w.heap.size, 9, none⟩ = some (.int .i64 d.to_) := (H0.out.keep ho8 (fun (e : w.heap.size = w.heap.size + 1 + 1) => by omega)).drw.cellsAll
 have HL := hid (((HX.out.store (M := w.heap.size + 1 + 1) (.inr ⟨by omega, by omega⟩) ho8).out (Y := X0) (fun _ h => .inl h)).below Below.drewR)
 have HKF := hid (HK.out.trans ho8 (fun i (hi : i = _) => .inr (by omega))).drew
 have H28 := hid h28
 clear ho8 h28
 go_wp2_with fail
 refine wp_region_held_drew (S := (fun w' => w'.cell? ⟨w.heap.size, 0, none⟩ = some (.string (bs d.now.1)) ∧ w'.cell? ⟨w.heap.size, 1, none⟩ = some (.int .i64 d.now.2) ∧ w'.cell? ⟨w.heap.size, 2, none⟩ = some (.slice r.A1 d.back.length r.c1) ∧ w'.cell? ⟨w.heap.size, 3, none⟩ = some (.slice r.A2 d.forth.length r.c2) ∧ w'.cell? ⟨w.heap.size, 4, none⟩ = some (.bool d.opn) ∧ w'.cell? ⟨w.heap.size, 5, none⟩ = some (.slice r.A3 d.kills.length r.c3) ∧ w'.cell? ⟨w.heap.size, 6, none⟩ = some (.int .i64 d.top) ∧ w'.cell? ⟨w.heap.size, 7, none⟩ = some (.int .i64 d.last) ∧ w'.cell? ⟨w.heap.size, 8, none⟩ = some (.int .i64 d.fr) ∧ w'.cell? ⟨w.heap.size, 9, none⟩ = some (.int .i64 d.to_))) (by kernel_rfl) ⟨c0, c1, c2, c3, c4, c5, c6, c7, c8, c9⟩ (fun hHeld => ?_)
 refine tkH 0 ?_
 refine wpAnyH_take (i := 1) (oi := ⟨some 96, _, _, _, _, _⟩) (v := ?_) rfl (by kernel_rfl) (by kernel_rfl) (by kernel_rfl) (fun _ _ _ h => h) (Or.inl ⟨by kernel_rfl, ?hy1⟩) (by assumption) ?_
 case hy1 => (intro w' hSw; obtain ⟨g0, g1, g2, g3, g4, g5, g6, g7, g8, g9⟩ := hSw; go_simp; try with_reducible rfl)
 refine tkH 2 ?_
 refine tkH 3 ?_
 refine tkH 4 ?_
 refine tkH 5 ?_
 refine rdH 6 fun K hK => ?_
 go_simp
 refine hK.out _ _ hs8 (fun hHeld => ?_)
 clear hK K
 refine tkH 7 ?_
 refine wpAnyH_done (by kernel_rfl) ?_ _
 go_wp2_with fail
 refine bodyPost_ret (results_bx10'' rfl _ _ (w.heap.size + 1 + 1) _ _ _ _ _ _ _ _ _ _ _ _ 32 rfl rfl rfl H28.out Tryz.underlying32 (szS _)) rfl ?_
 exact ⟨b', r, d, _, rfl, HL.out, HKF.out⟩
set_option maxHeartbeats 8000000 in
theorem ldoes_kn (w0 w : World) (X0 : Nat → Prop) (b : Nat) (s : LN) (r : DR) (d : DS) (B : Nat) (_ : B ≤ 1000000) (hsp : Spans w0) (o : OpL) (t : List UInt8) (_ : t.length ≤ 100000) (kk : Int) (hk : ¬ (0 ≤ kk ∧ kk ≤ 5)) (h : LnX w0 w X0 b s r d B B) :
  Calls Tryz.prog 10 #[.pointer (some ⟨b, 0, none⟩), dsV r d, .agg #[.int .i64 kk, .int .i64 o.q, .string (bs t), .int .i64 o.g]] w fun e w' => ∃ b' r' d' q, e = .returned (.tuple #[.pointer (some ⟨b', 0, none⟩), dsV r' d', .bool q]) ∧ LnX w0 w' X0 b' (s) r' d' (B + 600) (B + 600) ∧ Only (fun k => ¬ X0 k) w w' := by
 have n0 : (kk == (0 : Int)) = false := by simpa using (by omega : kk ≠ 0)
 have n1 : (kk == (1 : Int)) = false := by simpa using (by omega : kk ≠ 1)
 have n2 : (kk == (2 : Int)) = false := by simpa using (by omega : kk ≠ 2)
 have n3 : (kk == (3 : Int)) = false := by simpa using (by omega : kk ≠ 3)
 have n4 : (kk == (4 : Int)) = false := by simpa using (by omega : kk ≠ 4)
 have n5 : (kk == (5 : Int)) = false := by simpa using (by omega : kk ≠ 5)
 obtain ⟨W3, hW3, hB3, hs3, hb0, hb1, hb2⟩ := boxes7l w r d kk o t
 have hx : LnX w0 W3 (fun k => X0 k ∨ (w.heap.size ≤ k ∧ k ≤ w.heap.size + 2)) b s r d B B := h.add hB3 (fun k hk => ⟨hk.1, by have := hk.2; omega⟩)
 have HK : Hid (Only (fun k => ¬ X0 k) w W3) := hid (Only.of_below hB3)
 have HX := hid hx
 have H0 := hid hb0
 have H1 := hid hb1
 have H2 := hid hb2
 have HS := hid hsp
 have HW := hid h.bel.size
 have a0 := hb0.c 0 rfl
 have a1 := hb0.c 1 rfl
 have a2 := hb0.c 2 rfl
 have a3 := hb0.c 3 rfl
 have a4 := hb0.c 4 rfl
 have a5 := hb0.c 5 rfl
 have a6 := hb0.c 6 rfl
 have a7 := hb0.c 7 rfl
 have a8 := hb0.c 8 rfl
 have a9 := hb0.c 9 rfl
 have o0 := hb1.c 0 rfl
 have o1 := hb1.c 1 rfl
 have o2 := hb1.c 2 rfl
 have o3 := hb1.c 3 rfl
 clear hb0 hb1 hb2 hx h hB3 hsp
 unfold dsV
 go_enter Tryz.func10, Tryz.ntmps10
 have hx := HX.out.more (Nat.le_add_right B 600) (Nat.le_add_right B 600)
 have h0 := H0.out
 have h2 := H2.out
 clear HX H0 H2
 clear a0 a1 a2 a3 a4 a5 a6 a7 a8 a9
 have HX := hid hx
 have H0 := hid h0
 have H2 := hid h2
 have c0 := h0.c 0 rfl
 have c1 := h0.c 1 rfl
 have c2 := h0.c 2 rfl
 have c3 := h0.c 3 rfl
 have c4 := h0.c 4 rfl
 have c5 := h0.c 5 rfl
 have c6 := h0.c 6 rfl
 have c7 := h0.c 7 rfl
 have c8 := h0.c 8 rfl
 have c9 := h0.c 9 rfl
 have e0 := h2.c 0 rfl
 have e1 := h2.c 1 rfl
 have e2 := h2.c 2 rfl
 have e3 := h2.c 3 rfl
 have e4 := h2.c 4 rfl
 have e5 := h2.c 5 rfl
 have e6 := h2.c 6 rfl
 have e7 := h2.c 7 rfl
 have e8 := h2.c 8 rfl
 have e9 := h2.c 9 rfl
 have f0 := h2.free 0
 have f1 := h2.free 1
 have f2 := h2.free 2
 have f3 := h2.free 3
 have f4 := h2.free 4
 have f5 := h2.free 5
 have f6 := h2.free 6
 have f7 := h2.free 7
 have f8 := h2.free 8
 have f9 := h2.free 9
 clear hx h0 h2
 (try unfold dsV)
 obtain ⟨W8, hW8⟩ : ∃ W8, ((((((((((W3.setCell ⟨w.heap.size + 1 + 1, 0, none⟩ (.string (bs d.now.1))).setCell ⟨w.heap.size + 1 + 1, 1, none⟩ (.int .i64 d.now.2)).setCell ⟨w.heap.size + 1 + 1, 2, none⟩ (.slice r.A1 d.back.length r.c1)).setCell ⟨w.heap.size + 1 + 1, 3, none⟩ (.slice r.A2 d.forth.length r.c2)).setCell ⟨w.heap.size + 1 + 1, 4, none⟩ (.bool d.opn)).setCell ⟨w.heap.size + 1 + 1, 5, none⟩ (.slice r.A3 d.kills.length r.c3)).setCell ⟨w.heap.size + 1 + 1, 6, none⟩ (.int .i64 d.top)).setCell ⟨w.heap.size + 1 + 1, 7, none⟩ (.int .i64 d.last)).setCell ⟨w.heap.size + 1 + 1, 8, none⟩ (.int .i64 d.fr)).setCell ⟨w.heap.size + 1 + 1, 9, none⟩ (.int .i64 d.to_)) = W8 := ⟨_, rfl⟩
 have ho8 : Only (fun i => i = w.heap.size + 1 + 1) W3 W8 := by rw [← hW8]; exact ten_onlyD W3 (w.heap.size + 1 + 1) r d
 have h28 : BxA W8.drew (w.heap.size + 1 + 1) 32 (dsK r d) := by rw [← hW8]; exact (ten_boxD H2.out r d).drw
 have hs8 : W8.drew.cell? ⟨w.heap.size, 0, none⟩ = some (.string (bs d.now.1)) ∧ W8.drew.cell? ⟨w.heap.size, 1, none⟩ = some (.int .i64 d.now.2) ∧ W8.drew.cell? ⟨w.heap.size, 2, none⟩ = some (.slice r.A1 d.back.length r.c1) ∧ W8.drew.cell? ⟨w.heap.size, 3, none⟩ = some (.slice r.A2 d.forth.length r.c2) ∧ W8.drew.cell? ⟨w.heap.size, 4, none⟩ = some (.bool d.opn) ∧ W8.drew.cell? ⟨w.heap.size, 5, none⟩ = some (.slice r.A3 d.kills.length r.c3) ∧ W8.drew.cell? ⟨w.heap.size, 6, none⟩ = some (.int .i64 d.top) ∧ W8.drew.cell? ⟨w.heap.size, 7, none⟩ = some (.int .i64 d.last) ∧ W8.drew.cell? ⟨w.heap.size, 8, none⟩ = some (.int .i64 d.fr) ∧ W8.drew.cell? ⟨w.heap.size, 9, none⟩ = some (.int .i64 d.to_) := (H0.out.keep ho8 (fun (e : w.heap.size = w.heap.size + 1 + 1) => by omega)).drw.cellsAll
 have HL := hid (((HX.out.store (M := w.heap.size + 1 + 1) (.inr ⟨by omega, by omega⟩) ho8).out (Y := X0) (fun _ h => .inl h)).below Below.drewR)
 have HKF := hid (HK.out.trans ho8 (fun i (hi : i = _) => .inr (by omega))).drew
 have H28 := hid h28
 clear ho8 h28
 go_wp2_with fail
 refine wp_region_held_drew (S := (fun w' => w'.cell? ⟨w.heap.size, 0, none⟩ = some (.string (bs d.now.1)) ∧ w'.cell? ⟨w.heap.size, 1, none⟩ = some (.int .i64 d.now.2) ∧ w'.cell? ⟨w.heap.size, 2, none⟩ = some (.slice r.A1 d.back.length r.c1) ∧ w'.cell? ⟨w.heap.size, 3, none⟩ = some (.slice r.A2 d.forth.length r.c2) ∧ w'.cell? ⟨w.heap.size, 4, none⟩ = some (.bool d.opn) ∧ w'.cell? ⟨w.heap.size, 5, none⟩ = some (.slice r.A3 d.kills.length r.c3) ∧ w'.cell? ⟨w.heap.size, 6, none⟩ = some (.int .i64 d.top) ∧ w'.cell? ⟨w.heap.size, 7, none⟩ = some (.int .i64 d.last) ∧ w'.cell? ⟨w.heap.size, 8, none⟩ = some (.int .i64 d.fr) ∧ w'.cell? ⟨w.heap.size, 9, none⟩ = some (.int .i64 d.to_))) (by kernel_rfl) ⟨c0, c1, c2, c3, c4, c5, c6, c7, c8, c9⟩ (fun hHeld => ?_)
 refine tkH 0 ?_
 refine wpAnyH_take (i := 1) (oi := ⟨some 96, _, _, _, _, _⟩) (v := ?_) rfl (by kernel_rfl) (by kernel_rfl) (by kernel_rfl) (fun _ _ _ h => h) (Or.inl ⟨by kernel_rfl, ?hy1⟩) (by assumption) ?_
 case hy1 => (intro w' hSw; obtain ⟨g0, g1, g2, g3, g4, g5, g6, g7, g8, g9⟩ := hSw; go_simp; try with_reducible rfl)
 refine tkH 2 ?_
 refine tkH 3 ?_
 refine tkH 4 ?_
 refine tkH 5 ?_
 refine rdH 6 fun K hK => ?_
 go_simp
 refine hK.out _ _ hs8 (fun hHeld => ?_)
 clear hK K
 refine tkH 7 ?_
 refine wpAnyH_done (by kernel_rfl) ?_ _
 go_wp2_with fail
 refine bodyPost_ret (results_bx10'' rfl _ _ (w.heap.size + 1 + 1) _ _ _ _ _ _ _ _ _ _ _ _ 32 rfl rfl rfl H28.out Tryz.underlying32 (szS _)) rfl ?_
 exact ⟨b, r, d, _, rfl, HL.out, HKF.out⟩
theorem ldoes_calls (w0 w : World) (X0 : Nat → Prop) (b : Nat) (s : LN) (r : DR) (d : DS) (B : Nat) (hB : B ≤ 1000000) (hsp : Spans w0) (o : OpL) (ht : o.t.size ≤ 100000) (h : LnX w0 w X0 b s r d B B) :
  Calls Tryz.prog 10 #[.pointer (some ⟨b, 0, none⟩), dsV r d, .agg #[.int .i64 o.k, .int .i64 o.q, .string o.t, .int .i64 o.g]] w fun e w' => ∃ b' r' d' q, e = .returned (.tuple #[.pointer (some ⟨b', 0, none⟩), dsV r' d', .bool q]) ∧ LnX w0 w' X0 b' (doL s o) r' d' (B + 600) (B + 600) ∧ Only (fun k => ¬ X0 k) w w' := by
 have hl : (bl o.t).length ≤ 100000 := by rw [← bs_size, bs_bl]; exact ht
 have hb : bs (bl o.t) = o.t := bs_bl o.t
 by_cases hk : 0 ≤ o.k ∧ o.k ≤ 5
 ·rcases (by omega : o.k = 0 ∨ o.k = 1 ∨ o.k = 2 ∨ o.k = 3 ∨ o.k = 4 ∨ o.k = 5) with e | e | e | e | e | e
  ·have := ldoes_k0 w0 w X0 b s r d B hB hsp o (bl o.t) hl h
   rw [hb] at this
   rw [e, show doL s o = s.key o.q (bl o.t) by unfold doL; rw [e]; rfl]
   exact this
  ·have := ldoes_k1 w0 w X0 b s r d B hB hsp o (bl o.t) hl h
   rw [hb] at this
   rw [e, show doL s o = s.set (bl o.t) by unfold doL; rw [e]; rfl]
   exact this
  ·have := ldoes_k2 w0 w X0 b s r d B hB hsp o (bl o.t) hl h
   rw [hb] at this
   rw [e, show doL s o = s.add (bl o.t) by unfold doL; rw [e]; rfl]
   exact this
  ·have := ldoes_k3 w0 w X0 b s r d B hB hsp o (bl o.t) hl h
   rw [hb] at this
   rw [e, show doL s o = s.change (bl o.t) o.g by unfold doL; rw [e]; rfl]
   exact this
  ·have := ldoes_k4 w0 w X0 b s r d B hB hsp o (bl o.t) hl h
   rw [hb] at this
   rw [e, show doL s o = s.clear by unfold doL; rw [e]; rfl]
   exact this
  ·have := ldoes_k5 w0 w X0 b s r d B hB hsp o (bl o.t) hl h
   rw [hb] at this
   rw [e, show doL s o = s by unfold doL; rw [e]; rfl]
   exact this
 ·have := ldoes_kn w0 w X0 b s r d B hB hsp o (bl o.t) hl o.k hk h
  rw [hb] at this
  rw [show doL s o = s by unfold doL; rw [if_neg (by omega), if_neg (by omega), if_neg (by omega), if_neg (by omega), if_neg (by omega)]]
  exact this
end
section
open Go Go.RowKit
open Go.Lib (hid)
set_option maxRecDepth 100000
def dr0 : DR := ⟨none, 0, none, 0, none, 0⟩
def ds0 : DS := ⟨([], 0), [], [], false, [], 0, 0, 0, 0⟩
theorem LnX.start {w0 w : World} {b : Nat} {s : LN} (h : InLn w0 w b s) {C : Nat} (hs : SmR s.ring C) : LnD w0 w b s dr0 ds0 C C := by
 obtain ⟨O, F, a1, a2, a3⟩ := h
 exact ⟨O, F, fun _ => False, a1, a2, a3, ⟨fun _ h => h.elim, RowD.empty _ _ _, RowD.empty _ _ _, RowD.empty _ _ _⟩, ⟨Nat.zero_le _, fun _ h => absurd h List.not_mem_nil, fun _ h => absurd h List.not_mem_nil, Nat.zero_le _, Nat.zero_le _, fun _ h => absurd h List.not_mem_nil, .inl ⟨rfl, rfl⟩⟩, fun _ h => h.elim, hs, fun _ h => h.elim⟩
theorem only_iter (w : World) (k : Nat) (s : ByteArray) (p : Nat) : Only (fun i => i = k) w (w.iterAt k s p) := ⟨rfl, rfl, rfl, Nat.le_of_eq (Lib.iterAt_size _ _ _ _).symm, fun _ _ hn => Lib.iterAt_other _ _ _ _ _ hn⟩
def alF (n : Nat) : LN := (([97, 98, 99] : List UInt8).take n).foldl (fun s c => s.key 1 [c]) LN.new
theorem alF_step (n : Nat) (c : UInt8) (h : ([97, 98, 99] : List UInt8)[n]? = some c) : (alF n).key 1 [c] = alF (n + 1) := by
 match n, h with
 | 0, h => simp at h; subst h; rfl
 | 1, h => simp at h; subst h; rfl
 | 2, h => simp at h; subst h; rfl
theorem alF_dec (n : Nat) (h : n < 3) : ∃ c : UInt8, ([97, 98, 99] : List UInt8)[n]? = some c ∧ Utf8.decode ({ data := #[97, 98, 99] } : ByteArray) n = (c.toNat, 1) ∧ Utf8.encode (c.toNat : Int) = bs [c] := by
 match n, h with
 | 0, _ => exact ⟨97, rfl, by decide +kernel, by decide +kernel⟩
 | 1, _ => exact ⟨98, rfl, by decide +kernel, by decide +kernel⟩
 | 2, _ => exact ⟨99, rfl, by decide +kernel, by decide +kernel⟩
section
variable {P : Program} {f : Nat} {args : Array Value} {w0 w w' : World} {X : Nat → Prop} {b b' : Nat} {s s' : LN} {r : DR} {d : DS} {B C : Nat} {E : Ending → World → Prop}
theorem LnX.rd (h : LnX w0 w X b s r d B C) (hc : ∀ O F, LineL w O F b s → Calls P f args w fun e w' => E e w' ∧ Below w.heap.size w w') : Calls P f args w fun e w' => E e w' ∧ LnX w0 w' X b s r d B C ∧ Below w.heap.size w w' := by
 obtain ⟨O, F, D, a1, a2⟩ := id h
 refine (hc O F a1).mono ?_
 rintro e w' ⟨he, hb⟩
 exact ⟨he, h.below hb, hb⟩
theorem TwX.below (h : TwX w0 w X b s b' s' r d B C) (hb : Below w.heap.size w w') : TwX w0 w' X b s b' s' r d B C := by
 obtain ⟨O, F, O', F', D, a1, a2, a3, a4, a5, a6, a7, a8, a9, a10, a11⟩ := h
 exact ⟨O, F, O', F', D, objLn.below a1 hb, objLn.below a2 hb, a3, a4, a5, a6.trans (hb.mono a6.size), a7.below hb, a8, a9, a10, fun k hk => ⟨Nat.lt_of_lt_of_le (a11 k hk).1 hb.size, (a11 k hk).2⟩⟩
theorem TwX.rd (h : TwX w0 w X b s b' s' r d B C) (hc : ∀ O F, LineL w O F b s → Calls P f args w fun e w' => E e w' ∧ Below w.heap.size w w') : Calls P f args w fun e w' => E e w' ∧ TwX w0 w' X b s b' s' r d B C ∧ Below w.heap.size w w' := by
 obtain ⟨O, F, O', F', D, a1, a2⟩ := id h
 refine (hc O F a1).mono ?_
 rintro e w' ⟨he, hb⟩
 exact ⟨he, h.below hb, hb⟩
end
theorem field_buf0 (a b : Value) : ∀ W : World, (Instr.field 43 (.agg #[a, b]) 0).run Tryz.prog W = .ok a W := fun W => by kernel_rfl
theorem eqT (x : ByteArray) (n : Int) (W : World) : (binOp .eql 43 (.agg #[.string x, .int .i64 n]) (.agg #[.string x, .int .i64 n])).run Tryz.prog W = .ok (.bool true) W := by
 have h1 := Tryz.underlying43
 have h2 := Tryz.underlying9
 have h3 := Tryz.underlying3
 rw [run_eql_struct]
 go_simp
set_option maxHeartbeats 4000000 in
theorem lalive_calls (w : World) (hsp : Spans w) : Calls Tryz.prog 8 #[] w fun e w' => e = .returned (.bool true) ∧ Below w.heap.size w w' := by
 have HS := hid hsp
 clear hsp
 go_enter Tryz.func8, Tryz.ntmps8
 go_wp2_with fail
 refine (new_callsL w HS.out).mono ?_
 rintro e w1 ⟨b, rfl, hi⟩
 have HI := hid (LnX.start hi (C := 0) (LN.new_sm 0))
 clear hi
 go_wp2_with fail
 go_loopw [3] (fun _ wr => ∃ pos, pos ≤ 3 ∧ wr.heap[w1.heap.size]? = some (.stringIter ({ data := #[97, 98, 99] } : ByteArray) pos) ∧ Hid (LnX w wr (fun k => k = w1.heap.size) b (alF pos) dr0 ds0 0 (600 * pos))) (fun _ wr => 3 - wr.iterPos w1.heap.size)
 case atStart => exact ⟨0, Nat.zero_le _, World.iter_heap w1 _ 0, hid (HI.out.new (below_iter w1 _ 0) (fun k (hk : k = w1.heap.size) => ⟨by omega, by rw [hk]; exact (Array.getElem?_eq_some_iff.1 (World.iter_heap w1 ({ data := #[97, 98, 99] } : ByteArray) 0)).1⟩))⟩
 case round =>
  obtain ⟨pos, hle, hit, hX⟩ := hrel
  by_cases hp : pos < 3
  ·obtain ⟨c, hc, hd, he⟩ := alF_dec pos hp
   have hnx : ∀ ty, (Instr.next (.pointer (some ⟨w1.heap.size, 0, none⟩)) true ty).run Tryz.prog wr = _ := fun ty => Lib.run_next_any_at wr w1.heap.size ({ data := #[97, 98, 99] } : ByteArray) pos ty hit hp
   rw [hd] at hnx
   have H2 := hid (hX.out.store (M := w1.heap.size) rfl (only_iter wr w1.heap.size ({ data := #[97, 98, 99] } : ByteArray) (pos + 1)))
   have hit2 := Lib.iterAt_heap wr w1.heap.size ({ data := #[97, 98, 99] } : ByteArray) pos (pos + 1) hit
   have Hit := hid hit
   have Hit2 := hid hit2
   have Hc := hid hc
   have He := hid he
   clear hit hit2 hX hc he hd
   go_wp2_with fail
   rw [He.out]
   refine (H2.out.line (C' := 600 * (pos + 1)) (by rw [show 600 * (pos + 1) = 600 * pos + 600 by omega]; exact LN.key_sm H2.out.ok H2.out.sm 1 [c]) (fun O F hl => key_callsL _ O F b _ hl (spans_below HS.out H2.out.bel) 1 [c] (by simp) (H2.out.sm.mono (by omega)))).mono ?_
   rintro e w2 ⟨rfl, hx, ho⟩
   rw [alF_step pos c Hc.out] at hx
   have hit3 : w2.heap[w1.heap.size]? = some (.stringIter ({ data := #[97, 98, 99] } : ByteArray) (pos + 1)) := (ho.block _ (by exact (Array.getElem?_eq_some_iff.1 Hit2.out).1) (fun h => h rfl)).trans Hit2.out
   have HX := hid hx
   have Hit3 := hid hit3
   clear hx hit3 ho
   go_wp2_with fail
   go_roundw
   case rel => exact ⟨pos + 1, by omega, Hit3.out, HX⟩
   case measure =>
    rw [iterPos_of Hit3.out, iterPos_of Hit.out]
    omega
  ·have hnx : ∀ ty, (Instr.next (.pointer (some ⟨w1.heap.size, 0, none⟩)) true ty).run Tryz.prog wr = _ := fun ty => Lib.run_next_end_at wr w1.heap.size ({ data := #[97, 98, 99] } : ByteArray) pos ty hit hp
   obtain rfl : pos = 3 := by omega
   have HX : Hid (LnX w wr (fun k => k = w1.heap.size) b alA dr0 ds0 0 1800) := hX
   clear hX
   go_wp2_with fail
   refine (HX.out.line (C' := 2400) (LN.key_sm HX.out.ok HX.out.sm 13 []) (fun O F hl => key_callsL wr O F b _ hl (spans_below HS.out HX.out.bel) 13 [] (by simp) (HX.out.sm.mono (by omega)))).mono ?_
   rintro e w3 ⟨rfl, hx, _⟩
   rw [show LN.known 13 = true from rfl]
   clear HX
   have HX : Hid (LnX w w3 (fun k => k = w1.heap.size) b alB dr0 ds0 0 2400) := hid hx
   clear hx
   go_wp2_with fail
   refine (HX.out.line (C' := 3000) (LN.key_sm HX.out.ok HX.out.sm 0 []) (fun O F hl => key_callsL w3 O F b _ hl (spans_below HS.out HX.out.bel) 0 [] (by simp) (HX.out.sm.mono (by omega)))).mono ?_
   rintro e w4 ⟨rfl, hx, _⟩
   rw [show LN.known 0 = false from rfl]
   clear HX
   have HX : Hid (LnX w w4 (fun k => k = w1.heap.size) b alC dr0 ds0 0 3000) := hid hx
   clear hx
   go_wp2_with fail
   have Hk := hid HX.out.ok
   have Hm := hid HX.out.sm
   refine (HX.out.copy (E := fun b' e => e = .returned (.pointer (some ⟨b', 0, none⟩))) (fun O F hl => copy_callsL w4 O F b _ hl (spans_below HS.out HX.out.bel))).mono ?_
   rintro e w5 ⟨b', rfl, hx, _⟩
   have HT := hid hx
   clear hx HX
   go_wp2_with fail
   refine (HT.out.line (fun O F hl => key_callsL w5 O F b _ hl (spans_below HS.out HT.out.bel) 15 [] (by simp) (Hm.out.mono (by omega)))).mono ?_
   rintro e w6 ⟨rfl, hx, _⟩
   clear HT
   have HT : Hid (TwX w w6 (fun k => k = w1.heap.size) b (alC.key 15 []) b' alC dr0 ds0 0 3000) := hid hx
   clear hx
   go_wp2_with fail
   refine (HT.out.line (fun O F hl => key_callsL w6 O F b _ hl (spans_below HS.out HT.out.bel) 15 [] (by simp) ((LN.key_sm Hk.out Hm.out 15 []).mono (by omega)))).mono ?_
   rintro e w7 ⟨rfl, hx, _⟩
   clear HT
   have HT : Hid (TwX w w7 (fun k => k = w1.heap.size) b alD b' alC dr0 ds0 0 3000) := hid hx
   clear hx
   go_wp2_with fail
   have hu := fun O F hl => undos_callsL w7 O F b alD hl (spans_below HS.out HT.out.bel)
   rw [alD_undos.1, alD_undos.2] at hu
   refine (HT.out.rd hu).mono ?_
   rintro e w8 ⟨rfl, hx, _⟩
   clear HT hu
   have HT := hid hx
   clear hx
   go_wp2_with fail
   have hq := fun O F hl => buf_callsL w8 O F b alD hl (spans_below HS.out HT.out.bel)
   rw [alD_buf] at hq
   refine (HT.out.rd hq).mono ?_
   rintro e w9 ⟨rfl, hx, _⟩
   clear HT hq
   have HT := hid hx
   have q1 := eqT ({ data := #[97, 98, 99, 97, 98, 99] } : ByteArray) 6
   clear hx
   rw [show bs ([97, 98, 99, 97, 98, 99], 6).1 = ({ data := #[97, 98, 99, 97, 98, 99] } : ByteArray) from rfl]
   go_wp2_with fail
   refine (HT.out.rd (E := fun e w' => ∃ A c, e = .returned (.slice A alD.ring.l.length c) ∧ RdV Value.string w' A alD.ring.l) (fun O F hl => (kills_callsL w9 O F b alD hl (spans_below HS.out HT.out.bel)).mono (fun _ _ hh => by obtain ⟨A, c, e1, e2, e3⟩ := hh; exact ⟨⟨A, c, e1, e2⟩, e3⟩))).mono ?_
   rintro e w10 ⟨⟨A, c, rfl, _⟩, hx, _⟩
   clear HT
   have HT := hid hx
   clear hx
   rw [show alD.ring.l.length = 1 by rw [alD_kills]; rfl]
   go_wp2_with fail
   refine (HT.out.rd (E := fun e w' => ∃ A c, e = .returned (.slice A alD.ring.l.length c) ∧ RdV Value.string w' A alD.ring.l) (fun O F hl => (kills_callsL w10 O F b alD hl (spans_below HS.out HT.out.bel)).mono (fun _ _ hh => by obtain ⟨A, c, e1, e2, e3⟩ := hh; exact ⟨⟨A, c, e1, e2⟩, e3⟩))).mono ?_
   rintro e w11 ⟨⟨A, c, rfl, hr⟩, hx, _⟩
   clear HT
   have HX := hid hx.snd
   clear hx
   rw [alD_kills] at hr
   obtain ⟨g, o, rfl, _, hcell⟩ := hr (by simp)
   have hc0 : w11.cell? ⟨g, o, none⟩ = some (.string ({ data := #[97, 98, 99] } : ByteArray)) := hcell 0 _ rfl
   clear hcell hr
   rw [show alD.ring.l.length = 1 by rw [alD_kills]; rfl]
   go_wp2_with fail
   have hq := fun O F hl => buf_callsL w11 O F b' alC hl (spans_below HS.out HX.out.bel)
   rw [alC_buf] at hq
   refine (HX.out.rd hq).mono ?_
   rintro e w12 ⟨rfl, hx, _⟩
   clear HX hq hc0
   have HX := hid hx
   have q2 := eqT ({ data := #[] } : ByteArray) 0
   clear hx
   rw [show bs (([] : List UInt8), 0).1 = ({ data := #[] } : ByteArray) from rfl]
   go_wp2_with fail
   refine (HX.out.line (C' := 3000) (LN.add_sm HX.out.sm [120]) (fun O F hl => add_callsL w12 O F b' _ hl (spans_below HS.out HX.out.bel) [120] (by simp) (HX.out.sm.mono (by omega)))).mono ?_
   rintro e w13 ⟨rfl, hx, _⟩
   rw [alC_add.1]
   clear HX
   have HX : Hid (LnX w w13 (fun k => k = w1.heap.size) b' alE dr0 ds0 0 3000) := hid hx
   clear hx
   go_wp2_with fail
   have hq := fun O F hl => buf_callsL w13 O F b' alE hl (spans_below HS.out HX.out.bel)
   rw [show alE.buf = ([120], 1) from alC_add.2] at hq
   refine (HX.out.rd hq).mono ?_
   rintro e w14 ⟨rfl, hx, _⟩
   clear HX hq
   have HX := hid hx
   clear hx
   rw [show bs ([(120 : UInt8)], 1).1 = ({ data := #[120] } : ByteArray) from rfl]
   have q4 := field_buf0 (.string ({ data := #[120] } : ByteArray)) (.int .i64 1)
   go_wp2_with fail
   refine (HX.out.line (C' := 3000) (LN.change_sm HX.out.sm [121, 122] 1) (fun O F hl => change_callsL w14 O F b' _ hl (spans_below HS.out HX.out.bel) 1 [121, 122] (by simp) (HX.out.sm.mono (by omega)))).mono ?_
   rintro e w15 ⟨rfl, hx, _⟩
   rw [decide_eq_true alE_change.1]
   clear HX
   have HX := hid hx
   clear hx
   go_wp2_with fail
   have hq := fun O F hl => buf_callsL w15 O F b' (alE.change [121, 122] 1) hl (spans_below HS.out HX.out.bel)
   rw [alE_change.2] at hq
   refine (HX.out.rd hq).mono ?_
   rintro e w16 ⟨rfl, hx, _⟩
   clear HX hq
   have HX := hid hx
   have q3 := eqT ({ data := #[121, 122] } : ByteArray) 1
   clear hx
   rw [show bs ([(121 : UInt8), 122], 1).1 = ({ data := #[121, 122] } : ByteArray) from rfl]
   go_wp2_with fail
   go_ret
   exact ⟨rfl, HX.out.bel⟩
end
end Go.Proofs.YtoaponaljkhlfaaGreatDoor
