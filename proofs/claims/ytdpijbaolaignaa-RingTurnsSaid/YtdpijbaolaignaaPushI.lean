/-
  Package ring at int: Push.
-/
import Derived.Test.YtdpijbaolaignaaRingI
namespace Go.Proofs.Ytdpijbaolaignaa
open Go Go.RowKit
set_option maxRecDepth 100000

theorem infoIV : (Try.prog.info? 3).map (fun i => (i.zero, i.size, i.bytes)) = some (some (.int .i64 0), 1, 8) := by kernel_rfl

set_option maxHeartbeats 2000000 in
theorem push_callsI (w : World) (R : Nat → Prop) (b : Nat) (s : RS Int) (h : RingI w R b s) (x : Int) :
    Calls Try.prog 21 #[.pointer (some ⟨b, 0, none⟩), Value.int .i64 x] w fun e w' => e = .returned (.tuple #[]) ∧ RingToI w R w' b (s.push x) := by
  obtain ⟨i0, hi, hz0, hz1, hz2⟩ := info_parts infoIV
  obtain ⟨A, c, hb, hown, hin, hrd, hlc, hcm, hA⟩ := h.open_
  have c0 := Bx3.c0 hb
  have c1 := Bx3.c1 hb
  have hle := h.ok.le
  have hln := h.ok.len
  have hps := h.ok.pos
  have hok := h.ok.push x
  obtain ⟨k, hk⟩ : ∃ k, k = min s.l.length (s.lim - 1) := ⟨_, rfl⟩
  have hlk : (s.l.take (s.lim - 1)).length = k := by rw [List.length_take, hk, Nat.min_comm]
  obtain ⟨m, hm⟩ : ∃ m, m = 1 + k := ⟨_, rfl⟩
  have Hh := Lib.hid h
  have Hb := Lib.hid hb
  have Hrd := Lib.hid (hrd.take (s.lim - 1))
  have tail : ∀ nq v' w2, w2.ownsRow w.heap.size 3 1 v' m (([x] ++ s.l.take (s.lim - 1)).map (Value.int .i64)) → ((w.drewN nq).alloc (.cells #[Value.int .i64 x] 3)).grownBy w2 (some w.heap.size) → (∃ A' c', v' = .slice A' m c') ∧ Only (fun _ => False) w w2 ∧ RingToI w R ((w2.setCell ⟨b, 1, none⟩ v').setCell ⟨b, 2, none⟩ (.int .i64 0)) b (s.push x) := by
    intro nq v' w2 ho hg
    have hO : Only (fun _ => False) w w2 := (((Only.refl (fun _ => False) w).drewN nq).alloc _).grown hg (fun i e => .inr (by injection e with e; omega))
    refine ⟨own_form ho, hO, ?_⟩
    refine ring_put Hh.out hO (ls := x :: s.l.take (s.lim - 1)) ?_ (fun g hg => (ho.lt g hg).1) hok
    rw [List.length_cons, hlk, Nat.add_comm k 1, ← hm]
    exact own_less ho (Nat.zero_le _)
  have Htail := Lib.hid tail
  have happ : ∀ nq, ∃ v' w2, (Builtin.append_ #[44, 44] 44 #[.slice (some ⟨w.heap.size, 0, none⟩) 1 1, .slice A k c]).run Try.prog ((w.drewN nq).alloc (.cells #[Value.int .i64 x] 3)) = .ok v' w2 ∧ w2.ownsRow w.heap.size 3 1 v' m (([x] ++ s.l.take (s.lim - 1)).map (Value.int .i64)) ∧ ((w.drewN nq).alloc (.cells #[Value.int .i64 x] 3)).grownBy w2 (some w.heap.size) := by
    intro nq
    obtain ⟨v', w2, hr, ho, hg, _⟩ := run_append_V (P := Try.prog) (V := Value.int .i64) (fun _ => rfl) ((w.drewN nq).alloc (.cells #[Value.int .i64 x] 3)) w.heap.size 44 44 3 i0 (.int .i64 0) 8 Try.underlying44 hi hz0 hz1 hz2 rfl (by decide)
      (.slice (some ⟨w.heap.size, 0, none⟩) 1 1) 1 [x] rfl (own_one (w.drewN nq) w.heap.size 3 x (Nat.le_refl _)) A k c (s.l.take (s.lim - 1)) hlk.symm hA (RdV.alloc (w := w.drewN nq) Hrd.out _) (by rw [hlk]; simp; omega) (by simp [World.drewN])
    exact ⟨v', w2, hr, by rw [hm]; exact ho, hg⟩
  have Happ := Lib.hid happ
  clear hb hown hin hrd h tail happ hok hlk hm
  have hsub : IntKind.i64.wrap ((s.lim : Int) - 1) = ((s.lim - 1 : Nat) : Int) := by rw [IntWalk.i64_in _ (by omega)]; omega
  by_cases h1 : s.lim - 1 < s.l.length
  · have hq : decide (((s.lim - 1 : Nat) : Int) < (s.l.length : Int)) = true := decide_eq_true (by omega)
    obtain rfl : k = s.lim - 1 := by omega
    clear hk
    go_enter Try.func21, Try.ntmps21
    go_wp2_with fail
    go_quiet (fail)
    obtain ⟨v', w2, hrun, ho, hg⟩ := Happ.out nq
    obtain ⟨⟨A', c', rfl⟩, hO, hR⟩ := Htail.out nq v' w2 ho hg
    have hb2 : Bx3 w2 b _ _ _ _ := Bx3.keep Hb.out hO (fun h => h)
    have d1 := hb2.c1
    have e1 := hb2.f1
    have d2 := hb2.c2
    have e2 := hb2.f2
    have Hrun := Lib.hid hrun
    have HR := Lib.hid hR
    clear hrun ho hg hO hR hb2 hq hsub
    go_wp2_with (at_builtin; refine wpList_append_g (by rfl) (.tmp 23) (.tmp 24) 44 rfl _ _ rfl rfl Hrun.out ?_)
    go_end0
    exact ⟨rfl, HR.out⟩
  · have hq : decide (((s.lim - 1 : Nat) : Int) < (s.l.length : Int)) = false := decide_eq_false (by omega)
    obtain rfl : k = s.l.length := by omega
    clear hk
    go_enter Try.func21, Try.ntmps21
    go_wp2_with fail
    go_quiet (fail)
    obtain ⟨v', w2, hrun, ho, hg⟩ := Happ.out nq
    obtain ⟨⟨A', c', rfl⟩, hO, hR⟩ := Htail.out nq v' w2 ho hg
    have hb2 : Bx3 w2 b _ _ _ _ := Bx3.keep Hb.out hO (fun h => h)
    have d1 := hb2.c1
    have e1 := hb2.f1
    have d2 := hb2.c2
    have e2 := hb2.f2
    have Hrun := Lib.hid hrun
    have HR := Lib.hid hR
    clear hrun ho hg hO hR hb2 hq hsub
    go_wp2_with (at_builtin; refine wpList_append_g (by rfl) (.tmp 23) (.tmp 24) 44 rfl _ _ rfl rfl Hrun.out ?_)
    go_end0
    exact ⟨rfl, HR.out⟩
end Go.Proofs.Ytdpijbaolaignaa
