/-
  The document's own rings: New, Top, Do.
-/
import Derived.Test.YtdpijbaolaignaaRingS
import Derived.Test.YtdpijbaolaignaaBx
import Derived.Deep.RegionLaw
import Derived.BigRegion
namespace Go.Proofs.Ytdpijbaolaignaa
open Go Go.RowKit
set_option maxRecDepth 100000

/-- What lies in memory of a state of the document's: its row, and where it lies. -/
structure DocAt (w : World) (A : Option Addr) (c : Nat) (s : RS ByteArray) : Prop where
  rd : RdV Value.string w A s.l
  cap : s.l.length ≤ c
  max : c ≤ maxLen
  nil : A = none → c = 0
def docV (A : Option Addr) (c : Nat) (s : RS ByteArray) : Value := .agg #[.int .i64 (s.lim : Int), .slice A s.l.length c, .int .i64 (s.i : Int)]
theorem DocAt.keep {w w' : World} {A : Option Addr} {c : Nat} {s : RS ByteArray} {R : Nat → Prop} (h : DocAt w A c s) (ho : Only R w w') (hA : ∀ a, A = some a → ¬ R a.block) : DocAt w' A c s := ⟨h.rd.keep ho hA, h.cap, h.max, h.nil⟩
theorem DocAt.below {w w' : World} {A : Option Addr} {c : Nat} {s : RS ByteArray} (h : DocAt w A c s) (hb : Below w.heap.size w w') : DocAt w' A c s := ⟨h.rd.below hb, h.cap, h.max, h.nil⟩
/-- The new row is the old one's, or lies in new memory. -/
def Near (w w' : World) (A A' : Option Addr) : Prop := ∀ a, A' = some a → (∃ a0, A = some a0 ∧ a.block = a0.block) ∨ (w.heap.size ≤ a.block ∧ a.block < w'.heap.size)
theorem Near.refl (w w' : World) (A : Option Addr) : Near w w' A A := fun a e => .inl ⟨a, e, rfl⟩

theorem infoR : (Try.prog.info? 9).map (fun i => (i.zero, i.size, i.bytes)) = some (some (.string ⟨#[]⟩), 1, 16) := by kernel_rfl
theorem results_bx3 {P : Program} {fn : Func} {p : Tmp} {ty : TypeId} {fs : Array Field} (h : fn.results = #[.cell p ty]) (tmps : Array Value) (w : World) (g : Nat) (v0 v1 v2 : Value) (t : TypeId)
    (hp : tmps.getD p undef = .pointer (some ⟨g, 0, none⟩)) (hb : Bx3 w g t v0 v1 v2) (hu : P.underlying ty = some (.struct fs)) (hsz : (sizeOf ty).run P w = .ok 3 w) : (results fn tmps).run P w = .ok (.agg #[v0, v1, v2]) w := by
  have hp' : tmps[p]?.getD undef = .pointer (some ⟨g, 0, none⟩) := by simpa using hp
  have c0 := hb.c0
  have c1 := hb.c1
  have c2 := hb.c2
  simp [results, h, hp', asAddr, loadVar, isAgg, Sem.run_bind, run_underlying hu, hsz, loadCells, loadCellsFrom, Addr.add, c0, c1, c2, go_sem]
theorem sizeState (w : World) : (sizeOf 29).run Try.prog w = .ok 3 w := Try.sizeOf29 w

set_option maxHeartbeats 1000000 in
theorem rnew_calls (n : Int) (w : World) :
    Calls Try.prog 12 #[.int .i64 n] w fun e w' => e = .returned (docV none 0 (RS.new n)) ∧ Below w.heap.size w w' := by
  have fin : ∀ m : Int, m = (limOf n : Int) → Bx3 (w.alloc (.cells #[.int .i64 m, .slice none 0 0, .int .i64 0] 29)) w.heap.size 29 (.int .i64 (limOf n : Int)) (.slice none 0 0) (.int .i64 0) := fun m e => by subst e; exact Bx3.new w _ _ _ _
  go_enter Try.func12, Try.ntmps12
  go_wp2
  all_goals
    refine bodyPost_ret (results_bx3 rfl _ _ w.heap.size _ _ _ 29 rfl (fin _ (by unfold limOf; omega)) Try.underlying29 (sizeState _)) rfl ?_
    exact ⟨rfl, (Below.refl _ w).alloc (Nat.le_refl _) _⟩

set_option maxHeartbeats 1000000 in
theorem rtop_calls (A : Option Addr) (c : Nat) (s : RS ByteArray) (w : World) (h : DocAt w A c s) (hok : s.Ok) :
    Calls Try.prog 35 #[docV A c s] w fun e w' => e = .returned (.tuple #[.string (s.l.getD s.i ⟨#[]⟩), .bool (decide (0 < s.l.length))]) ∧ Below w.heap.size w w' := by
  have hat := hok.at_
  have hle := hok.le
  have hln := hok.len
  have hrd := h.rd
  clear h hok
  unfold docV
  by_cases h0 : s.l.length = 0
  · have e0 : s.l = [] := List.eq_nil_of_length_eq_zero h0
    have He : Hid ((s.l.getD s.i ⟨#[]⟩ : ByteArray) = ⟨#[]⟩ ∧ decide (0 < s.l.length) = false) := Lib.hid (by rw [e0]; exact ⟨rfl, rfl⟩)
    rw [He.out.1, He.out.2, h0]
    clear e0 hat hle hln hrd He
    go_enter Try.func35, Try.ntmps35
    go_wp2
    go_ret2
    exact ⟨rfl, (Below.refl _ _).alloc (Nat.le_refl _) _⟩
  · obtain ⟨g, o, rfl, hg, hc⟩ := hrd.at_ (by omega)
    have hi : s.i < s.l.length := hat.resolve_right fun h1 => by rw [h1.2] at h0; exact h0 rfl
    have hx : s.l[s.i]? = some (s.l.getD s.i ⟨#[]⟩) := by rw [List.getD_eq_getElem?_getD, List.getElem?_eq_getElem hi]; rfl
    have ck := hc _ _ hx
    have Hd : Hid (decide (0 < s.l.length) = true) := Lib.hid (decide_eq_true (by omega))
    have hi' : (s.i : Int) < (s.l.length : Int) := by omega
    have h0' : ((s.l.length : Int) == 0) = false := beq_eq_false_iff_ne.2 (by omega)
    have ck2 : ∀ ob, (w.alloc ob).cell? ⟨g, o + s.i, none⟩ = some (.string (s.l.getD s.i ⟨#[]⟩)) := fun ob => (World.cell?_alloc_lt w ob ⟨g, o + s.i, none⟩ hg).trans ck
    clear hc hx hat
    generalize s.l.getD s.i ⟨#[]⟩ = x at *
    generalize s.l.length = n at *
    generalize s.i = i at *
    go_enter Try.func35, Try.ntmps35
    go_wp2
    go_ret2
    rw [Hd.out]
    exact ⟨rfl, (Below.refl _ _).alloc (Nat.le_refl _) _⟩

/-- What Do answers. -/
def Did (w : World) (A : Option Addr) (s' : RS ByteArray) (e : Ending) (w' : World) : Prop := ∃ A' c', e = .returned (docV A' c' s') ∧ DocAt w' A' c' s' ∧ Near w w' A A' ∧ Below w.heap.size w w'
theorem size3 (w : World) : (w.alloc (.cells #[] 0)).heap.size = w.heap.size + 1 := World.size_alloc _ _

set_option maxHeartbeats 2000000 in
/-- A call that changes nothing, or only the place. -/
theorem rdo_rest (A : Option Addr) (c : Nat) (s : RS ByteArray) (k : Int) (t : ByteArray) (w : World) (h : DocAt w A c s) (hok : s.Ok) (h0 : ¬ k = 0) (h1 : ¬ k = 1) :
    Calls Try.prog 14 #[docV A c s, .agg #[.int .i64 k, .string t]] w (Did w A (doR s ⟨k, t⟩)) := by
  have d0 : (k == 0) = false := beq_eq_false_iff_ne.2 h0
  have d1 : (k == 1) = false := beq_eq_false_iff_ne.2 h1
  have hle := hok.le
  have hln := hok.len
  have hat := hok.at_
  have e2 : (k == 2) = true → doR s ⟨k, t⟩ = s.turn := fun e => by
    rw [beq_iff_eq] at e
    subst e; rfl
  have e3 : (k == 3) = true → doR s ⟨k, t⟩ = s.home := fun e => by
    rw [beq_iff_eq] at e
    subst e; rfl
  have e4 : (k == 2) = false → (k == 3) = false → doR s ⟨k, t⟩ = s := fun a b => by
    rw [beq_eq_false_iff_ne] at a b
    unfold doR
    rw [if_neg h0, if_neg h1, if_neg a, if_neg b]
  unfold docV
  have fin : ∀ (j : Nat) (X Y : Obj) (ji : Int), ji = (j : Int) → (⟨s.lim, s.l, j⟩ : RS ByteArray) = doR s ⟨k, t⟩ →
      Bx3 (((w.alloc X).alloc Y).alloc (.cells #[.int .i64 (s.lim : Int), .slice A s.l.length c, .int .i64 ji] 29)) (w.heap.size + 1 + 1) 29 (.int .i64 (s.lim : Int)) (.slice A s.l.length c) (.int .i64 ji) ∧
      Did w A (doR s ⟨k, t⟩) (.returned (.agg #[.int .i64 (s.lim : Int), .slice A s.l.length c, .int .i64 ji])) (((w.alloc X).alloc Y).alloc (.cells #[.int .i64 (s.lim : Int), .slice A s.l.length c, .int .i64 ji] 29)) := fun j X Y ji ej he => by
    subst ej
    have hb := Bx3.new ((w.alloc X).alloc Y) 29 (.int .i64 (s.lim : Int)) (.slice A s.l.length c) (.int .i64 (j : Int))
    simp only [World.size_alloc] at hb
    have hB : Below w.heap.size w (((w.alloc X).alloc Y).alloc (.cells #[.int .i64 (s.lim : Int), .slice A s.l.length c, .int .i64 (j : Int)] 29)) := (((Below.refl _ w).alloc (Nat.le_refl _) _).alloc (by simp) _).alloc (by simp; omega) _
    rw [← he]
    exact ⟨hb, A, c, rfl, ⟨(h.below hB).rd, h.cap, h.max, h.nil⟩, Near.refl _ _ _, hB⟩
  have Fin := Lib.hid fin
  clear fin h
  go_enter Try.func14, Try.ntmps14
  go_wp2
  · have q2 : (k == 2) = true := by assumption
    have ql : ((s.l.length : Nat) : Int) ≤ (s.i : Int) + 1 := by assumption
    have e : (⟨s.lim, s.l, 0⟩ : RS ByteArray) = doR s ⟨k, t⟩ := by rw [e2 q2]; unfold RS.turn; rw [if_neg (by omega)]
    exact bodyPost_ret (results_bx3 rfl _ _ (w.heap.size + 1 + 1) _ _ _ 29 rfl (Fin.out 0 _ _ _ rfl e).1 Try.underlying29 (sizeState _)) rfl (Fin.out 0 _ _ _ rfl e).2
  · have q2 : (k == 2) = true := by assumption
    have ql : (s.i : Int) + 1 < ((s.l.length : Nat) : Int) := by assumption
    have e : (⟨s.lim, s.l, s.i + 1⟩ : RS ByteArray) = doR s ⟨k, t⟩ := by rw [e2 q2]; unfold RS.turn; rw [if_pos (by omega)]
    exact bodyPost_ret (results_bx3 rfl _ _ (w.heap.size + 1 + 1) _ _ _ 29 rfl (Fin.out (s.i + 1) _ _ _ (by simp) e).1 Try.underlying29 (sizeState _)) rfl (Fin.out (s.i + 1) _ _ _ (by simp) e).2
  · have q3 : (k == 3) = true := by assumption
    have e : (⟨s.lim, s.l, 0⟩ : RS ByteArray) = doR s ⟨k, t⟩ := by rw [e3 q3]; rfl
    exact bodyPost_ret (results_bx3 rfl _ _ (w.heap.size + 1 + 1) _ _ _ 29 rfl (Fin.out 0 _ _ _ rfl e).1 Try.underlying29 (sizeState _)) rfl (Fin.out 0 _ _ _ rfl e).2
  · have q2 : (k == 2) = false := by assumption
    have q3 : (k == 3) = false := by assumption
    have e : (⟨s.lim, s.l, s.i⟩ : RS ByteArray) = doR s ⟨k, t⟩ := by rw [e4 q2 q3]
    exact bodyPost_ret (results_bx3 rfl _ _ (w.heap.size + 1 + 1) _ _ _ 29 rfl (Fin.out s.i _ _ _ rfl e).1 Try.underlying29 (sizeState _)) rfl (Fin.out s.i _ _ _ rfl e).2

/-- What an append to a row of one leaves. -/
theorem run_app1 (w : World) (A : Option Addr) (m c : Nat) (x : ByteArray) (ms : List ByteArray) (hm : m = ms.length) (hR : RdV Value.string w A ms) (hA : A = none → c = 0) (hl : ms.length ≤ 64) :
    ∃ A' c' w2, (Builtin.append_ #[27, 27] 27 #[.slice (some ⟨w.heap.size, 0, none⟩) 1 1, .slice A m c]).run Try.prog (w.alloc (.cells #[.string x] 9)) = .ok (.slice A' (1 + m) c') w2 ∧ Below w.heap.size w w2 ∧
      RdV Value.string w2 A' (x :: ms) ∧ 1 + m ≤ c' ∧ c' ≤ maxLen ∧ (A' = none → c' = 0) ∧ (∀ a, A' = some a → w.heap.size ≤ a.block ∧ a.block < w2.heap.size) := by
  obtain ⟨i0, hi, hz0, hz1, hz2⟩ := info_parts infoR
  obtain ⟨v', w2, hr, ho, hg, _⟩ := run_append_V (P := Try.prog) (V := Value.string) (fun _ => rfl) (w.alloc (.cells #[.string x] 9)) w.heap.size 27 27 9 i0 (.string ⟨#[]⟩) 16 Try.underlying27 hi hz0 hz1 hz2 rfl (by decide)
    (.slice (some ⟨w.heap.size, 0, none⟩) 1 1) 1 [x] rfl (own_one w w.heap.size 9 x (Nat.le_refl _)) A m c ms hm hA (hR.alloc _) (by simp; omega) (by simp)
  obtain ⟨A', c', rfl⟩ := own_form ho
  have e1 : 1 + m = ([x] ++ ms).length := by rw [hm, List.length_append]; rfl
  have ho2 := ho
  rw [e1] at ho2
  obtain ⟨h1, _, h3, h4, h5⟩ := rdV_of_own ho2
  refine ⟨A', c', w2, hr, ((Below.refl _ w).alloc (Nat.le_refl _) _).grown hg (by simp) (fun k e => by injection e with e; simp only at e; omega), h1, by omega, h4, h5, fun a ha => ho.lt a.block (by rw [ha]; rfl)⟩

set_option maxHeartbeats 2000000 in
theorem rdo_push (A : Option Addr) (c : Nat) (s : RS ByteArray) (t : ByteArray) (w : World) (h : DocAt w A c s) (hok : s.Ok) :
    Calls Try.prog 14 #[docV A c s, .agg #[.int .i64 0, .string t]] w (Did w A (doR s ⟨0, t⟩)) := by
  have hle := hok.le
  have hln := hok.len
  have hps := hok.pos
  have e : doR s ⟨0, t⟩ = s.push t := rfl
  rw [e]
  have hcap := h.cap
  obtain ⟨W3, hW3⟩ : ∃ W3, ((w.alloc (.cells #[.int .i64 (s.lim : Int), .slice A s.l.length c, .int .i64 (s.i : Int)] 29)).alloc (.cells #[.int .i64 0, .string t] 32)).alloc (.cells #[.int .i64 0, .slice none 0 0, .int .i64 0] 29) = W3 := ⟨_, rfl⟩
  have hs3 : W3.heap.size = w.heap.size + 1 + 1 + 1 := by rw [← hW3]; simp
  have hB3 : Below w.heap.size w W3 := by
    rw [← hW3]
    exact (((Below.refl _ w).alloc (Nat.le_refl _) _).alloc (by simp) _).alloc (by simp; omega) _
  have b0 := ((Bx3.new w 29 (.int .i64 (s.lim : Int)) (.slice A s.l.length c) (.int .i64 (s.i : Int))).alloc (.cells #[.int .i64 0, .string t] 32)).alloc (.cells #[.int .i64 0, .slice none 0 0, .int .i64 0] 29)
  have z0 := Bx3.new ((w.alloc (.cells #[.int .i64 (s.lim : Int), .slice A s.l.length c, .int .i64 (s.i : Int)] 29)).alloc (.cells #[.int .i64 0, .string t] 32)) 29 (.int .i64 0) (.slice none 0 0) (.int .i64 0)
  simp only [World.size_alloc] at z0
  rw [hW3] at b0 z0
  obtain ⟨A', c', w2, hrun, hB2, hrd2, hc2, hm2, hn2, hfr⟩ := run_app1 W3 A s.l.length c t s.l rfl (h.rd.below hB3) h.nil (by omega)
  have b2 := b0.below hB2
  have z2 := z0.below hB2
  rw [hs3, ← hW3] at hrun
  have hBw : Below w.heap.size w w2 := hB3.trans (hB2.mono hB3.size)
  have fin : ∀ (k : Nat) (ls : List ByteArray), ls = t :: s.l.take (s.lim - 1) → k = ls.length → k ≤ 1 + s.l.length → RdV Value.string w2 A' ls →
      Bx3 (((((w2.setCell ⟨w.heap.size, 1, none⟩ (.slice A' k c')).setCell ⟨w.heap.size, 2, none⟩ (.int .i64 0)).setCell ⟨w.heap.size + 1 + 1, 0, none⟩ (.int .i64 (s.lim : Int))).setCell ⟨w.heap.size + 1 + 1, 1, none⟩ (.slice A' k c')).setCell ⟨w.heap.size + 1 + 1, 2, none⟩ (.int .i64 0)) (w.heap.size + 1 + 1) 29 (.int .i64 (s.lim : Int)) (.slice A' k c') (.int .i64 0) ∧
      Did w A (s.push t) (.returned (.agg #[.int .i64 (s.lim : Int), .slice A' k c', .int .i64 0])) (((((w2.setCell ⟨w.heap.size, 1, none⟩ (.slice A' k c')).setCell ⟨w.heap.size, 2, none⟩ (.int .i64 0)).setCell ⟨w.heap.size + 1 + 1, 0, none⟩ (.int .i64 (s.lim : Int))).setCell ⟨w.heap.size + 1 + 1, 1, none⟩ (.slice A' k c')).setCell ⟨w.heap.size + 1 + 1, 2, none⟩ (.int .i64 0)) := by
    intro k ls hls hk hkl hrd
    subst hls
    have hO : Only (fun i => i = w.heap.size ∨ i = w.heap.size + 1 + 1) w2 (((((w2.setCell ⟨w.heap.size, 1, none⟩ (.slice A' k c')).setCell ⟨w.heap.size, 2, none⟩ (.int .i64 0)).setCell ⟨w.heap.size + 1 + 1, 0, none⟩ (.int .i64 (s.lim : Int))).setCell ⟨w.heap.size + 1 + 1, 1, none⟩ (.slice A' k c')).setCell ⟨w.heap.size + 1 + 1, 2, none⟩ (.int .i64 0)) :=
      (((((Only.refl _ w2).set (p := ⟨w.heap.size, 1, none⟩) (.inl (.inl rfl)) _).set (p := ⟨w.heap.size, 2, none⟩) (.inl (.inl rfl)) _).set (p := ⟨w.heap.size + 1 + 1, 0, none⟩) (.inl (.inr rfl)) _).set (p := ⟨w.heap.size + 1 + 1, 1, none⟩) (.inl (.inr rfl)) _).set (p := ⟨w.heap.size + 1 + 1, 2, none⟩) (.inl (.inr rfl)) _
    refine ⟨((((z2.other (by omega) _).other (by omega) _).set0 _).set1 _).set2 _, A', c', ?_, ⟨?_, ?_, hm2, hn2⟩, fun a ha => .inr (by have := hfr a ha; have := hO.size; omega), hBw.trans (hO.below hBw.size (fun i hi => by omega))⟩
    · rw [hk]; rfl
    · refine RdV.keep (ls := t :: s.l.take (s.lim - 1)) hrd hO (fun a ha hx => ?_)
      have := hfr a ha
      omega
    · show (t :: s.l.take (s.lim - 1)).length ≤ c'
      rw [← hk]; omega
  have Fin := Lib.hid fin
  have Hrun := Lib.hid hrun
  have Hrd := Lib.hid hrd2
  have e0 := b2.c0
  have e1 := b2.c1
  have e2 := b2.c2
  have f1 := b2.f1
  have f2 := b2.f2
  have g0 := z2.c0
  have g1 := z2.c1
  have g2 := z2.c2
  have k0 := z2.f0
  have k1 := z2.f1
  have k2 := z2.f2
  obtain ⟨m, hm⟩ : ∃ m, 1 + s.l.length = m := ⟨_, rfl⟩
  rw [hm] at hc2 Hrun
  clear hrun fin hrd2 b0 z0 b2 z2 hB2 hBw hB3 h e hW3 hs3 hfr hn2 hok
  by_cases hbig : s.lim < m
  · have d1 : decide ((s.lim : Int) < (m : Int)) = true := decide_eq_true (by omega)
    have hkc : (s.lim : Int) ≤ (c' : Int) := by omega
    have Hf := Lib.hid (Fin.out s.lim (t :: s.l.take (s.lim - 1)) rfl (by rw [List.length_cons, List.length_take]; omega) (by omega) (by
      have := Hrd.out.take s.lim
      obtain ⟨q, hq⟩ : ∃ q, s.lim = q + 1 := ⟨s.lim - 1, by omega⟩
      rw [hq] at this ⊢
      exact this))
    clear Fin Hrd hm
    unfold docV
    go_enter Try.func14, Try.ntmps14
    go_wp2_with (at_builtin; refine wpList_append_g (o := ⟨some 15, _, _, _, _, _⟩) (by rfl) (.tmp 12) (.tmp 14) 27 rfl _ _ rfl rfl Hrun.out ?_)
    exact bodyPost_ret (results_bx3 rfl _ _ (w.heap.size + 1 + 1) _ _ _ 29 rfl Hf.out.1 Try.underlying29 (sizeState _)) rfl Hf.out.2
  · have d1 : decide ((s.lim : Int) < (m : Int)) = false := decide_eq_false (by omega)
    have et : s.l.take (s.lim - 1) = s.l := List.take_of_length_le (by omega)
    have Hf := Lib.hid (Fin.out m (t :: s.l.take (s.lim - 1)) rfl (by rw [et, List.length_cons]; omega) (by omega) (by rw [et]; exact Hrd.out))
    clear Fin Hrd hm et
    unfold docV
    go_enter Try.func14, Try.ntmps14
    go_wp2_with (at_builtin; refine wpList_append_g (o := ⟨some 15, _, _, _, _, _⟩) (by rfl) (.tmp 12) (.tmp 14) 27 rfl _ _ rfl rfl Hrun.out ?_)
    exact bodyPost_ret (results_bx3 rfl _ _ (w.heap.size + 1 + 1) _ _ _ 29 rfl Hf.out.1 Try.underlying29 (sizeState _)) rfl Hf.out.2

set_option maxHeartbeats 2000000 in
theorem rdo_none (A : Option Addr) (c : Nat) (s : RS ByteArray) (t : ByteArray) (w : World) (h : DocAt w A c s) (hok : s.Ok) (h0 : s.l = []) :
    Calls Try.prog 14 #[docV A c s, .agg #[.int .i64 1, .string t]] w (Did w A (doR s ⟨1, t⟩)) := by
  have hi0 : s.i = 0 := (hok.at_.resolve_left (by rw [h0]; simp)).1
  have e : doR s ⟨1, t⟩ = s := by
    obtain ⟨lim, l, i⟩ := s
    simp only at h0 hi0
    subst h0; subst hi0
    rfl
  have hb0 := Bx3.new ((w.alloc (.cells #[.int .i64 (s.lim : Int), .slice A 0 c, .int .i64 (s.i : Int)] 29)).alloc (.cells #[.int .i64 1, .string t] 32)) 29 (.int .i64 (s.lim : Int)) (.slice A 0 c) (.int .i64 (s.i : Int))
  simp only [World.size_alloc] at hb0
  have hB : Below w.heap.size w (((w.alloc (.cells #[.int .i64 (s.lim : Int), .slice A 0 c, .int .i64 (s.i : Int)] 29)).alloc (.cells #[.int .i64 1, .string t] 32)).alloc (.cells #[.int .i64 (s.lim : Int), .slice A 0 c, .int .i64 (s.i : Int)] 29)) := (((Below.refl _ w).alloc (Nat.le_refl _) _).alloc (by simp) _).alloc (by simp; omega) _
  have Hd : Hid (Did w A s (.returned (.agg #[.int .i64 (s.lim : Int), .slice A 0 c, .int .i64 (s.i : Int)])) _) := Lib.hid ⟨A, c, by unfold docV; rw [h0]; rfl, h.below hB, Near.refl _ _ _, hB⟩
  have hn : s.l.length = 0 := by rw [h0]; rfl
  rw [e]
  unfold docV
  rw [hn]
  have Hb0 := Lib.hid hb0
  clear h hok h0 hi0 e hb0 hB hn
  go_enter Try.func14, Try.ntmps14
  go_wp2
  exact bodyPost_ret (results_bx3 rfl _ _ (w.heap.size + 1 + 1) _ _ _ 29 rfl Hb0.out Try.underlying29 (sizeState _)) rfl Hd.out

end Go.Proofs.Ytdpijbaolaignaa
