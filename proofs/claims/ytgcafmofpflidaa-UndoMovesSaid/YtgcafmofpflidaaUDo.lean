/-
  The document's own Do (layer 6).
-/
import Derived.Test.YtgcafmofpflidaaUDoc
import Derived.Lib.Strings
import Derived.Deep.RegionHeld3
import Derived.Deep.RegionLaw
import Derived.Deep.Cut
import Derived.BigRegion
namespace Go.Proofs.Ytgcafmofpflidaa
open Go Go.RowKit
set_option maxRecDepth 100000

/-- The three boxes that a call makes. -/
theorem boxes6 (Ab : Option Addr) (cb : Nat) (Af : Option Addr) (cf : Nat) (s : LS ByteArray) (k : Int) (t : ByteArray) (g : Int) (w : World) : ∃ W3, ((w.alloc (.cells #[.int .i64 (s.lim : Int), .slice Ab s.back.length cb, .string s.now, .slice Af s.forth.length cf, .int .i64 s.opn] 29)).alloc (.cells #[.int .i64 k, .string t, .int .i64 g] 32)).alloc (.cells #[.int .i64 0, .slice none 0 0, .string ⟨#[]⟩, .slice none 0 0, .int .i64 0] 29) = W3 ∧ Below w.heap.size w W3 ∧ W3.heap.size = w.heap.size + 3 ∧
    BxA W3 w.heap.size 29 [.int .i64 (s.lim : Int), .slice Ab s.back.length cb, .string s.now, .slice Af s.forth.length cf, .int .i64 s.opn] ∧
    BxA W3 (w.heap.size + 1) 32 [.int .i64 k, .string t, .int .i64 g] ∧
    BxA W3 (w.heap.size + 1 + 1) 29 [.int .i64 0, .slice none 0 0, .string ⟨#[]⟩, .slice none 0 0, .int .i64 0] := by
  have hB : Below w.heap.size w (((w.alloc (.cells #[.int .i64 (s.lim : Int), .slice Ab s.back.length cb, .string s.now, .slice Af s.forth.length cf, .int .i64 s.opn] 29)).alloc (.cells #[.int .i64 k, .string t, .int .i64 g] 32)).alloc (.cells #[.int .i64 0, .slice none 0 0, .string ⟨#[]⟩, .slice none 0 0, .int .i64 0] 29)) := (((Below.refl _ w).alloc (Nat.le_refl _) _).alloc (by simp) _).alloc (by simp; omega) _
  refine ⟨_, rfl, hB, by simp, ((BxA.new w _ [_, _, _, _, _]).alloc _).alloc _, ?_, ?_⟩
  · have := (BxA.new (w.alloc (.cells #[.int .i64 (s.lim : Int), .slice Ab s.back.length cb, .string s.now, .slice Af s.forth.length cf, .int .i64 s.opn] 29)) 32 [.int .i64 k, .string t, .int .i64 g]).alloc (.cells #[.int .i64 0, .slice none 0 0, .string ⟨#[]⟩, .slice none 0 0, .int .i64 0] 29)
    rwa [World.size_alloc] at this
  · have := BxA.new ((w.alloc (.cells #[.int .i64 (s.lim : Int), .slice Ab s.back.length cb, .string s.now, .slice Af s.forth.length cf, .int .i64 s.opn] 29)).alloc (.cells #[.int .i64 k, .string t, .int .i64 g] 32)) 29 [.int .i64 0, .slice none 0 0, .string ⟨#[]⟩, .slice none 0 0, .int .i64 0]
    rwa [World.size_alloc, World.size_alloc] at this
theorem toList_ne6 {x y : ByteArray} (h : x ≠ y) : (x.toList == y.toList) = false := by
  rw [beq_eq_false_iff_ne]
  intro e
  rw [Lib.toList_data, Lib.toList_data] at e
  obtain ⟨⟨a⟩⟩ := x
  obtain ⟨⟨b⟩⟩ := y
  simp only at e
  exact h (by rw [e])
theorem old6 {w W W' : World} {M : Nat} (hb : Below w.heap.size w W) (hM : w.heap.size ≤ M) (ho : Only (fun i => i = M) W W') : Below w.heap.size w W' := hb.trans (ho.below hb.size (fun i hi => by omega))
set_option maxHeartbeats 4000000 in
theorem udo_move (Ab : Option Addr) (cb : Nat) (Af : Option Addr) (cf : Nat) (s : LS ByteArray) (t : ByteArray) (g : Int) (w : World) (h : DocL w Ab cb Af cf s) (hok : s.Ok) :
    Calls Try.prog 13 #[docL Ab cb Af cf s, opV ⟨1, t, g⟩] w (DidU w Ab Af (doU s ⟨1, t, g⟩) (didU s ⟨1, t, g⟩)) := by
  obtain ⟨W3, hW3, hB3, hs3, b0, o0, z0⟩ := boxes6 Ab cb Af cf s 1 t g w
  have w0 := b0.c 0 rfl
  have w1 := b0.c 1 rfl
  have w2 := b0.c 2 rfl
  have w3 := b0.c 3 rfl
  have w4 := b0.c 4 rfl
  have v0 := b0.free 0
  have v1 := b0.free 1
  have v2 := b0.free 2
  have v3 := b0.free 3
  have v4 := b0.free 4
  have o0' := o0.c 0 rfl
  have o1' := o0.c 1 rfl
  have o2' := o0.c 2 rfl
  have g0 := z0.c 0 rfl
  have g1 := z0.c 1 rfl
  have g2 := z0.c 2 rfl
  have g3 := z0.c 3 rfl
  have g4 := z0.c 4 rfl
  have k0 := z0.free 0
  have k1 := z0.free 1
  have k2 := z0.free 2
  have k3 := z0.free 3
  have k4 := z0.free 4
  have hln := hok.len
  have hle := hok.le
  have Hb0 := Lib.hid b0
  have Ho0 := Lib.hid o0
  have Hz0 := Lib.hid z0
  have Hh := Lib.hid h
  have Hok := Lib.hid hok
  have HB3 := Lib.hid hB3
  have Hs3 := Lib.hid hs3
  clear b0 o0 z0 h hok hB3 hs3
  rw [show doU s ⟨1, t, g⟩ = s.move t from rfl, show didU s ⟨1, t, g⟩ = false from rfl]
  obtain ⟨Wn, hWn⟩ : ∃ Wn, (W3.setCell ⟨w.heap.size, 2, none⟩ (.string t)) = Wn := ⟨_, rfl⟩
  have HW : Hid (Below w.heap.size w Wn) := Lib.hid (by rw [← hWn]; exact (HB3.out).setCell (p := ⟨w.heap.size, 2, none⟩) (Nat.le_refl _) _)
  have bN : BxA Wn w.heap.size 29 [.int .i64 (s.lim : Int), .slice Ab s.back.length cb, .string t, .slice Af s.forth.length cf, .int .i64 s.opn] := by rw [← hWn]; exact (Hb0.out.set 2 _)
  have zN : BxA Wn (w.heap.size + 1 + 1) 29 [.int .i64 0, .slice none 0 0, .string ⟨#[]⟩, .slice none 0 0, .int .i64 0] := by rw [← hWn]; exact (Hz0.out).other (by omega) _
  have n0 := bN.c 0 rfl
  have n1 := bN.c 1 rfl
  have n2 := bN.c 2 rfl
  have n3 := bN.c 3 rfl
  have n4 := bN.c 4 rfl
  have a0 := zN.c 0 rfl
  have a1 := zN.c 1 rfl
  have a2 := zN.c 2 rfl
  have a3 := zN.c 3 rfl
  have a4 := zN.c 4 rfl
  have b0 := zN.free 0
  have b1 := zN.free 1
  have b2 := zN.free 2
  have b3 := zN.free 3
  have b4 := zN.free 4
  have Fin := Lib.hid (fin6 (w := w) (M := w.heap.size + 1 + 1) (Ab := Ab) (Af := Af) (Ab' := Ab) (cb' := cb) (Af' := Af) (cf' := cf) (s' := s.move t) false HW.out (by omega) zN (fun W' ho => ⟨Hh.out.rb.below (old6 HW.out (by omega) ho), Hh.out.capb, Hh.out.maxb, Hh.out.nilb, Hh.out.rf.below (old6 HW.out (by omega) ho), Hh.out.capf, Hh.out.maxf, Hh.out.nilf⟩) (NearL.refl _ _ _) (NearL.refl _ _ _))
  clear bN zN
  unfold docL opV
  go_enter Try.func13, Try.ntmps13
  go_wp2
  refine bodyPost_ret (results_bxA2 rfl _ _ (w.heap.size + 1 + 1) _ _ _ _ _ _ 29 rfl rfl Fin.out.1 Try.underlying29 (sizeState6 _)) rfl ?_
  exact Fin.out.2
set_option maxHeartbeats 4000000 in
theorem udo_brk (Ab : Option Addr) (cb : Nat) (Af : Option Addr) (cf : Nat) (s : LS ByteArray) (t : ByteArray) (g : Int) (w : World) (h : DocL w Ab cb Af cf s) (hok : s.Ok) :
    Calls Try.prog 13 #[docL Ab cb Af cf s, opV ⟨2, t, g⟩] w (DidU w Ab Af (doU s ⟨2, t, g⟩) (didU s ⟨2, t, g⟩)) := by
  obtain ⟨W3, hW3, hB3, hs3, b0, o0, z0⟩ := boxes6 Ab cb Af cf s 2 t g w
  have w0 := b0.c 0 rfl
  have w1 := b0.c 1 rfl
  have w2 := b0.c 2 rfl
  have w3 := b0.c 3 rfl
  have w4 := b0.c 4 rfl
  have v0 := b0.free 0
  have v1 := b0.free 1
  have v2 := b0.free 2
  have v3 := b0.free 3
  have v4 := b0.free 4
  have o0' := o0.c 0 rfl
  have o1' := o0.c 1 rfl
  have o2' := o0.c 2 rfl
  have g0 := z0.c 0 rfl
  have g1 := z0.c 1 rfl
  have g2 := z0.c 2 rfl
  have g3 := z0.c 3 rfl
  have g4 := z0.c 4 rfl
  have k0 := z0.free 0
  have k1 := z0.free 1
  have k2 := z0.free 2
  have k3 := z0.free 3
  have k4 := z0.free 4
  have hln := hok.len
  have hle := hok.le
  have Hb0 := Lib.hid b0
  have Ho0 := Lib.hid o0
  have Hz0 := Lib.hid z0
  have Hh := Lib.hid h
  have Hok := Lib.hid hok
  have HB3 := Lib.hid hB3
  have Hs3 := Lib.hid hs3
  clear b0 o0 z0 h hok hB3 hs3
  rw [show doU s ⟨2, t, g⟩ = s.brk from rfl, show didU s ⟨2, t, g⟩ = false from rfl]
  obtain ⟨Wn, hWn⟩ : ∃ Wn, (W3.setCell ⟨w.heap.size, 4, none⟩ (.int .i64 0)) = Wn := ⟨_, rfl⟩
  have HW : Hid (Below w.heap.size w Wn) := Lib.hid (by rw [← hWn]; exact (HB3.out).setCell (p := ⟨w.heap.size, 4, none⟩) (Nat.le_refl _) _)
  have bN : BxA Wn w.heap.size 29 [.int .i64 (s.lim : Int), .slice Ab s.back.length cb, .string s.now, .slice Af s.forth.length cf, .int .i64 0] := by rw [← hWn]; exact (Hb0.out.set 4 _)
  have zN : BxA Wn (w.heap.size + 1 + 1) 29 [.int .i64 0, .slice none 0 0, .string ⟨#[]⟩, .slice none 0 0, .int .i64 0] := by rw [← hWn]; exact (Hz0.out).other (by omega) _
  have n0 := bN.c 0 rfl
  have n1 := bN.c 1 rfl
  have n2 := bN.c 2 rfl
  have n3 := bN.c 3 rfl
  have n4 := bN.c 4 rfl
  have a0 := zN.c 0 rfl
  have a1 := zN.c 1 rfl
  have a2 := zN.c 2 rfl
  have a3 := zN.c 3 rfl
  have a4 := zN.c 4 rfl
  have b0 := zN.free 0
  have b1 := zN.free 1
  have b2 := zN.free 2
  have b3 := zN.free 3
  have b4 := zN.free 4
  have Fin := Lib.hid (fin6 (w := w) (M := w.heap.size + 1 + 1) (Ab := Ab) (Af := Af) (Ab' := Ab) (cb' := cb) (Af' := Af) (cf' := cf) (s' := s.brk) false HW.out (by omega) zN (fun W' ho => ⟨Hh.out.rb.below (old6 HW.out (by omega) ho), Hh.out.capb, Hh.out.maxb, Hh.out.nilb, Hh.out.rf.below (old6 HW.out (by omega) ho), Hh.out.capf, Hh.out.maxf, Hh.out.nilf⟩) (NearL.refl _ _ _) (NearL.refl _ _ _))
  clear bN zN
  unfold docL opV
  go_enter Try.func13, Try.ntmps13
  go_wp2
  refine bodyPost_ret (results_bxA2 rfl _ _ (w.heap.size + 1 + 1) _ _ _ _ _ _ 29 rfl rfl Fin.out.1 Try.underlying29 (sizeState6 _)) rfl ?_
  exact Fin.out.2
set_option maxHeartbeats 4000000 in
theorem udo_other (Ab : Option Addr) (cb : Nat) (Af : Option Addr) (cf : Nat) (s : LS ByteArray) (k : Int) (t : ByteArray) (g : Int) (w : World) (h : DocL w Ab cb Af cf s) (hok : s.Ok) (h0 : k ≠ 0) (h1 : k ≠ 1) (h2 : k ≠ 2) (h3 : k ≠ 3) (h4 : k ≠ 4) :
    Calls Try.prog 13 #[docL Ab cb Af cf s, opV ⟨k, t, g⟩] w (DidU w Ab Af (doU s ⟨k, t, g⟩) (didU s ⟨k, t, g⟩)) := by
  obtain ⟨W3, hW3, hB3, hs3, b0, o0, z0⟩ := boxes6 Ab cb Af cf s k t g w
  have w0 := b0.c 0 rfl
  have w1 := b0.c 1 rfl
  have w2 := b0.c 2 rfl
  have w3 := b0.c 3 rfl
  have w4 := b0.c 4 rfl
  have v0 := b0.free 0
  have v1 := b0.free 1
  have v2 := b0.free 2
  have v3 := b0.free 3
  have v4 := b0.free 4
  have o0' := o0.c 0 rfl
  have o1' := o0.c 1 rfl
  have o2' := o0.c 2 rfl
  have g0 := z0.c 0 rfl
  have g1 := z0.c 1 rfl
  have g2 := z0.c 2 rfl
  have g3 := z0.c 3 rfl
  have g4 := z0.c 4 rfl
  have k0 := z0.free 0
  have k1 := z0.free 1
  have k2 := z0.free 2
  have k3 := z0.free 3
  have k4 := z0.free 4
  have hln := hok.len
  have hle := hok.le
  have Hb0 := Lib.hid b0
  have Ho0 := Lib.hid o0
  have Hz0 := Lib.hid z0
  have Hh := Lib.hid h
  have Hok := Lib.hid hok
  have HB3 := Lib.hid hB3
  have Hs3 := Lib.hid hs3
  clear b0 o0 z0 h hok hB3 hs3
  rw [show doU s ⟨k, t, g⟩ = s by unfold doU; simp only [if_neg h0, if_neg h1, if_neg h2, if_neg h3, if_neg h4], show didU s ⟨k, t, g⟩ = false by unfold didU; simp only [if_neg h0, if_neg h3, if_neg h4]]
  have q0 : (k == 0) = false := beq_eq_false_iff_ne.2 h0
  have q1 : (k == 1) = false := beq_eq_false_iff_ne.2 h1
  have q2 : (k == 2) = false := beq_eq_false_iff_ne.2 h2
  have q3 : (k == 3) = false := beq_eq_false_iff_ne.2 h3
  have q4 : (k == 4) = false := beq_eq_false_iff_ne.2 h4
  clear h0 h1 h2 h3 h4
  have HW : Hid (Below w.heap.size w W3) := Lib.hid HB3.out
  have Fin := Lib.hid (fin6 (w := w) (M := w.heap.size + 1 + 1) (Ab := Ab) (Af := Af) (Ab' := Ab) (cb' := cb) (Af' := Af) (cf' := cf) (s' := s) false HW.out (by omega) Hz0.out (fun W' ho => ⟨Hh.out.rb.below (old6 HW.out (by omega) ho), Hh.out.capb, Hh.out.maxb, Hh.out.nilb, Hh.out.rf.below (old6 HW.out (by omega) ho), Hh.out.capf, Hh.out.maxf, Hh.out.nilf⟩) (NearL.refl _ _ _) (NearL.refl _ _ _))
  unfold docL opV
  go_enter Try.func13, Try.ntmps13
  go_wp2
  refine bodyPost_ret (results_bxA2 rfl _ _ (w.heap.size + 1 + 1) _ _ _ _ _ _ 29 rfl rfl Fin.out.1 Try.underlying29 (sizeState6 _)) rfl ?_
  exact Fin.out.2
set_option maxHeartbeats 4000000 in
theorem udo_same (Ab : Option Addr) (cb : Nat) (Af : Option Addr) (cf : Nat) (s : LS ByteArray) (t : ByteArray) (g : Int) (w : World) (h : DocL w Ab cb Af cf s) (hok : s.Ok) (hs : t = s.now) :
    Calls Try.prog 13 #[docL Ab cb Af cf s, opV ⟨0, t, g⟩] w (DidU w Ab Af (doU s ⟨0, t, g⟩) (didU s ⟨0, t, g⟩)) := by
  obtain ⟨W3, hW3, hB3, hs3, b0, o0, z0⟩ := boxes6 Ab cb Af cf s 0 t g w
  have w0 := b0.c 0 rfl
  have w1 := b0.c 1 rfl
  have w2 := b0.c 2 rfl
  have w3 := b0.c 3 rfl
  have w4 := b0.c 4 rfl
  have v0 := b0.free 0
  have v1 := b0.free 1
  have v2 := b0.free 2
  have v3 := b0.free 3
  have v4 := b0.free 4
  have o0' := o0.c 0 rfl
  have o1' := o0.c 1 rfl
  have o2' := o0.c 2 rfl
  have g0 := z0.c 0 rfl
  have g1 := z0.c 1 rfl
  have g2 := z0.c 2 rfl
  have g3 := z0.c 3 rfl
  have g4 := z0.c 4 rfl
  have k0 := z0.free 0
  have k1 := z0.free 1
  have k2 := z0.free 2
  have k3 := z0.free 3
  have k4 := z0.free 4
  have hln := hok.len
  have hle := hok.le
  have Hb0 := Lib.hid b0
  have Ho0 := Lib.hid o0
  have Hz0 := Lib.hid z0
  have Hh := Lib.hid h
  have Hok := Lib.hid hok
  have HB3 := Lib.hid hB3
  have Hs3 := Lib.hid hs3
  clear b0 o0 z0 h hok hB3 hs3
  rw [show doU s ⟨0, t, g⟩ = s from by rw [show doU s ⟨0, t, g⟩ = s.does t g from rfl]; unfold LS.does; rw [if_pos hs], show didU s ⟨0, t, g⟩ = false from by show decide (t ≠ s.now) = false; simp [hs]]
  subst hs
  have HW : Hid (Below w.heap.size w W3) := Lib.hid HB3.out
  have Fin := Lib.hid (fin6 (w := w) (M := w.heap.size + 1 + 1) (Ab := Ab) (Af := Af) (Ab' := Ab) (cb' := cb) (Af' := Af) (cf' := cf) (s' := s) false HW.out (by omega) Hz0.out (fun W' ho => ⟨Hh.out.rb.below (old6 HW.out (by omega) ho), Hh.out.capb, Hh.out.maxb, Hh.out.nilb, Hh.out.rf.below (old6 HW.out (by omega) ho), Hh.out.capf, Hh.out.maxf, Hh.out.nilf⟩) (NearL.refl _ _ _) (NearL.refl _ _ _))
  unfold docL opV
  go_enter Try.func13, Try.ntmps13
  go_wp2
  refine bodyPost_ret (results_bxA2 rfl _ _ (w.heap.size + 1 + 1) _ _ _ _ _ _ 29 rfl rfl Fin.out.1 Try.underlying29 (sizeState6 _)) rfl ?_
  exact Fin.out.2
set_option maxHeartbeats 4000000 in
theorem udo_noback (Ab : Option Addr) (cb : Nat) (Af : Option Addr) (cf : Nat) (s : LS ByteArray) (t : ByteArray) (g : Int) (w : World) (h : DocL w Ab cb Af cf s) (hok : s.Ok) (hs : s.back = []) :
    Calls Try.prog 13 #[docL Ab cb Af cf s, opV ⟨3, t, g⟩] w (DidU w Ab Af (doU s ⟨3, t, g⟩) (didU s ⟨3, t, g⟩)) := by
  obtain ⟨W3, hW3, hB3, hs3, b0, o0, z0⟩ := boxes6 Ab cb Af cf s 3 t g w
  have w0 := b0.c 0 rfl
  have w1 := b0.c 1 rfl
  have w2 := b0.c 2 rfl
  have w3 := b0.c 3 rfl
  have w4 := b0.c 4 rfl
  have v0 := b0.free 0
  have v1 := b0.free 1
  have v2 := b0.free 2
  have v3 := b0.free 3
  have v4 := b0.free 4
  have o0' := o0.c 0 rfl
  have o1' := o0.c 1 rfl
  have o2' := o0.c 2 rfl
  have g0 := z0.c 0 rfl
  have g1 := z0.c 1 rfl
  have g2 := z0.c 2 rfl
  have g3 := z0.c 3 rfl
  have g4 := z0.c 4 rfl
  have k0 := z0.free 0
  have k1 := z0.free 1
  have k2 := z0.free 2
  have k3 := z0.free 3
  have k4 := z0.free 4
  have hln := hok.len
  have hle := hok.le
  have Hb0 := Lib.hid b0
  have Ho0 := Lib.hid o0
  have Hz0 := Lib.hid z0
  have Hh := Lib.hid h
  have Hok := Lib.hid hok
  have HB3 := Lib.hid hB3
  have Hs3 := Lib.hid hs3
  clear b0 o0 z0 h hok hB3 hs3
  rw [show doU s ⟨3, t, g⟩ = s from by show s.undo = s; unfold LS.undo; rw [if_pos hs], show didU s ⟨3, t, g⟩ = false from by show decide (s.back ≠ []) = false; simp [hs]]
  have hn : ((s.back.length : Int) == 0) = true := by rw [hs]; rfl
  clear hs
  have HW : Hid (Below w.heap.size w W3) := Lib.hid HB3.out
  have Fin := Lib.hid (fin6 (w := w) (M := w.heap.size + 1 + 1) (Ab := Ab) (Af := Af) (Ab' := Ab) (cb' := cb) (Af' := Af) (cf' := cf) (s' := s) false HW.out (by omega) Hz0.out (fun W' ho => ⟨Hh.out.rb.below (old6 HW.out (by omega) ho), Hh.out.capb, Hh.out.maxb, Hh.out.nilb, Hh.out.rf.below (old6 HW.out (by omega) ho), Hh.out.capf, Hh.out.maxf, Hh.out.nilf⟩) (NearL.refl _ _ _) (NearL.refl _ _ _))
  unfold docL opV
  go_enter Try.func13, Try.ntmps13
  go_wp2
  refine bodyPost_ret (results_bxA2 rfl _ _ (w.heap.size + 1 + 1) _ _ _ _ _ _ 29 rfl rfl Fin.out.1 Try.underlying29 (sizeState6 _)) rfl ?_
  exact Fin.out.2
set_option maxHeartbeats 4000000 in
theorem udo_noforth (Ab : Option Addr) (cb : Nat) (Af : Option Addr) (cf : Nat) (s : LS ByteArray) (t : ByteArray) (g : Int) (w : World) (h : DocL w Ab cb Af cf s) (hok : s.Ok) (hs : s.forth = []) :
    Calls Try.prog 13 #[docL Ab cb Af cf s, opV ⟨4, t, g⟩] w (DidU w Ab Af (doU s ⟨4, t, g⟩) (didU s ⟨4, t, g⟩)) := by
  obtain ⟨W3, hW3, hB3, hs3, b0, o0, z0⟩ := boxes6 Ab cb Af cf s 4 t g w
  have w0 := b0.c 0 rfl
  have w1 := b0.c 1 rfl
  have w2 := b0.c 2 rfl
  have w3 := b0.c 3 rfl
  have w4 := b0.c 4 rfl
  have v0 := b0.free 0
  have v1 := b0.free 1
  have v2 := b0.free 2
  have v3 := b0.free 3
  have v4 := b0.free 4
  have o0' := o0.c 0 rfl
  have o1' := o0.c 1 rfl
  have o2' := o0.c 2 rfl
  have g0 := z0.c 0 rfl
  have g1 := z0.c 1 rfl
  have g2 := z0.c 2 rfl
  have g3 := z0.c 3 rfl
  have g4 := z0.c 4 rfl
  have k0 := z0.free 0
  have k1 := z0.free 1
  have k2 := z0.free 2
  have k3 := z0.free 3
  have k4 := z0.free 4
  have hln := hok.len
  have hle := hok.le
  have Hb0 := Lib.hid b0
  have Ho0 := Lib.hid o0
  have Hz0 := Lib.hid z0
  have Hh := Lib.hid h
  have Hok := Lib.hid hok
  have HB3 := Lib.hid hB3
  have Hs3 := Lib.hid hs3
  clear b0 o0 z0 h hok hB3 hs3
  rw [show doU s ⟨4, t, g⟩ = s from by show s.redo = s; unfold LS.redo; rw [if_pos hs], show didU s ⟨4, t, g⟩ = false from by show decide (s.forth ≠ []) = false; simp [hs]]
  have hn : ((s.forth.length : Int) == 0) = true := by rw [hs]; rfl
  clear hs
  have HW : Hid (Below w.heap.size w W3) := Lib.hid HB3.out
  have Fin := Lib.hid (fin6 (w := w) (M := w.heap.size + 1 + 1) (Ab := Ab) (Af := Af) (Ab' := Ab) (cb' := cb) (Af' := Af) (cf' := cf) (s' := s) false HW.out (by omega) Hz0.out (fun W' ho => ⟨Hh.out.rb.below (old6 HW.out (by omega) ho), Hh.out.capb, Hh.out.maxb, Hh.out.nilb, Hh.out.rf.below (old6 HW.out (by omega) ho), Hh.out.capf, Hh.out.maxf, Hh.out.nilf⟩) (NearL.refl _ _ _) (NearL.refl _ _ _))
  unfold docL opV
  go_enter Try.func13, Try.ntmps13
  go_wp2
  refine bodyPost_ret (results_bxA2 rfl _ _ (w.heap.size + 1 + 1) _ _ _ _ _ _ 29 rfl rfl Fin.out.1 Try.underlying29 (sizeState6 _)) rfl ?_
  exact Fin.out.2
set_option maxHeartbeats 4000000 in
theorem udo_group (Ab : Option Addr) (cb : Nat) (Af : Option Addr) (cf : Nat) (s : LS ByteArray) (t : ByteArray) (g : Int) (w : World) (h : DocL w Ab cb Af cf s) (hok : s.Ok) (hs : t ≠ s.now) (hg : 0 < g) (hg2 : g = s.opn) :
    Calls Try.prog 13 #[docL Ab cb Af cf s, opV ⟨0, t, g⟩] w (DidU w Ab Af (doU s ⟨0, t, g⟩) (didU s ⟨0, t, g⟩)) := by
  obtain ⟨W3, hW3, hB3, hs3, b0, o0, z0⟩ := boxes6 Ab cb Af cf s 0 t g w
  have w0 := b0.c 0 rfl
  have w1 := b0.c 1 rfl
  have w2 := b0.c 2 rfl
  have w3 := b0.c 3 rfl
  have w4 := b0.c 4 rfl
  have v0 := b0.free 0
  have v1 := b0.free 1
  have v2 := b0.free 2
  have v3 := b0.free 3
  have v4 := b0.free 4
  have o0' := o0.c 0 rfl
  have o1' := o0.c 1 rfl
  have o2' := o0.c 2 rfl
  have g0 := z0.c 0 rfl
  have g1 := z0.c 1 rfl
  have g2 := z0.c 2 rfl
  have g3 := z0.c 3 rfl
  have g4 := z0.c 4 rfl
  have k0 := z0.free 0
  have k1 := z0.free 1
  have k2 := z0.free 2
  have k3 := z0.free 3
  have k4 := z0.free 4
  have hln := hok.len
  have hle := hok.le
  have Hb0 := Lib.hid b0
  have Ho0 := Lib.hid o0
  have Hz0 := Lib.hid z0
  have Hh := Lib.hid h
  have Hok := Lib.hid hok
  have HB3 := Lib.hid hB3
  have Hs3 := Lib.hid hs3
  clear b0 o0 z0 h hok hB3 hs3
  rw [show doU s ⟨0, t, g⟩ = (⟨s.lim, s.back, t, [], g⟩ : LS ByteArray) from by rw [show doU s ⟨0, t, g⟩ = s.does t g from rfl]; unfold LS.does LS.put; rw [if_neg hs, if_neg (by rintro (h | h); omega; exact h hg2), if_pos hg], show didU s ⟨0, t, g⟩ = true from by show decide (t ≠ s.now) = true; simp [hs]]
  have hq := toList_ne6 hs
  have hq1 : decide (g ≤ 0) = false := decide_eq_false (by omega)
  have hq2 : decide (0 < g) = true := decide_eq_true hg
  subst hg2
  obtain ⟨Wn, hWn⟩ : ∃ Wn, ((((W3.setCell ⟨w.heap.size, 3, none⟩ (.slice none 0 0)).setCell ⟨w.heap.size, 2, none⟩ (.string t)).setCell ⟨w.heap.size, 4, none⟩ (.int .i64 0)).setCell ⟨w.heap.size, 4, none⟩ (.int .i64 s.opn)) = Wn := ⟨_, rfl⟩
  have HW : Hid (Below w.heap.size w Wn) := Lib.hid (by rw [← hWn]; exact ((((HB3.out).setCell (p := ⟨w.heap.size, 3, none⟩) (Nat.le_refl _) _).setCell (p := ⟨w.heap.size, 2, none⟩) (Nat.le_refl _) _).setCell (p := ⟨w.heap.size, 4, none⟩) (Nat.le_refl _) _).setCell (p := ⟨w.heap.size, 4, none⟩) (Nat.le_refl _) _)
  have bN : BxA Wn w.heap.size 29 [.int .i64 (s.lim : Int), .slice Ab s.back.length cb, .string t, .slice none 0 0, .int .i64 s.opn] := by rw [← hWn]; exact ((((Hb0.out.set 3 _).set 2 _).set 4 _).set 4 _)
  have zN : BxA Wn (w.heap.size + 1 + 1) 29 [.int .i64 0, .slice none 0 0, .string ⟨#[]⟩, .slice none 0 0, .int .i64 0] := by rw [← hWn]; exact ((((Hz0.out).other (by omega) _).other (by omega) _).other (by omega) _).other (by omega) _
  have n0 := bN.c 0 rfl
  have n1 := bN.c 1 rfl
  have n2 := bN.c 2 rfl
  have n3 := bN.c 3 rfl
  have n4 := bN.c 4 rfl
  have a0 := zN.c 0 rfl
  have a1 := zN.c 1 rfl
  have a2 := zN.c 2 rfl
  have a3 := zN.c 3 rfl
  have a4 := zN.c 4 rfl
  have b0 := zN.free 0
  have b1 := zN.free 1
  have b2 := zN.free 2
  have b3 := zN.free 3
  have b4 := zN.free 4
  have Fin := Lib.hid (fin6 (w := w) (M := w.heap.size + 1 + 1) (Ab := Ab) (Af := Af) (Ab' := Ab) (cb' := cb) (Af' := none) (cf' := 0) (s' := (⟨s.lim, s.back, t, [], s.opn⟩ : LS ByteArray)) true HW.out (by omega) zN (fun W' ho => ⟨Hh.out.rb.below (old6 HW.out (by omega) ho), Hh.out.capb, Hh.out.maxb, Hh.out.nilb, fun hn => absurd hn (Nat.lt_irrefl 0), Nat.zero_le _, by unfold maxLen; omega, fun _ => rfl⟩) (NearL.refl _ _ _) (NearL.none _ _ _))
  clear bN zN
  unfold docL opV
  go_enter Try.func13, Try.ntmps13
  go_wp2
  refine bodyPost_ret (results_bxA2 rfl _ _ (w.heap.size + 1 + 1) _ _ _ _ _ _ 29 rfl rfl Fin.out.1 Try.underlying29 (sizeState6 _)) rfl ?_
  exact Fin.out.2
end Go.Proofs.Ytgcafmofpflidaa
