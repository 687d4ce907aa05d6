/-
  The walk of JournalFaults (layer 12).
-/
import Derived.Test.YteafcaambnfdoaaGreatDoorPg45
import Derived.Test.YteafcaambnfdoaaGreatDoorPg48
import Derived.Deep.RegionHeld3
namespace Go.Proofs.YteafcaambnfdoaaGreatDoor
open Go Go.RowKit
set_option maxRecDepth 100000
theorem hN_name : nameF hN = true := by decide
theorem otN_name : nameF (otJ hN) = true := by decide
theorem right_snoc {l : List EnJ} {k : Nat} (h : ∀ e ∈ l.take k, rightJ e) (hk : k < l.length) (he : rightJ l[k]) : ∀ e ∈ l.take (k + 1), rightJ e := fun e hm => by
 rw [List.take_succ_eq_append_getElem hk] at hm
 rcases List.mem_append.1 hm with hm | hm
 ·exact h e hm
 ·rw [List.mem_singleton.1 hm]; exact he
structure FltAt (S : FS) (l : List EnJ) (k : Nat) : Prop where
 one : OneJ S hN (recsJ (l.take k))
 keep : KeepJ S hN [] (l.take k)
 at_ : S.At k
 nil_ : k = 0 → S.l = []
theorem FltAt.new (l : List EnJ) : FltAt FS.new l 0 := ⟨by rw [List.take_zero]; exact OneJ.new hN, by rw [List.take_zero]; exact KeepJ.new hN (-1), FS.At.new, fun _ => rfl⟩
theorem FltAt.step {S : FS} {l : List EnJ} {k : Nat} (h : FltAt S l k) (hk : k < l.length) (h12 : l.length ≤ 12) (hr : rightJ l[k]) : (appendJ S hN l[k]).2 = 0 ∧ FltAt (appendJ S hN l[k]).1 l (k + 1) := by
 have h1 := recsJ_le (l := l.take k) (fun e he => h.keep.right e (by simpa using he))
 rw [List.length_take] at h1
 have h2 := h.one.append hN_name hr (by omega)
 rw [← List.take_succ_eq_append_getElem hk] at h2
 refine ⟨h2.1, h2.2, ?_, at_write h.at_ hN _, fun e => by omega⟩
 rcases h.keep.append hN_name l[k] with ⟨_, h3, _⟩ | ⟨_, h3⟩ | ⟨h3, _⟩
 ·exact absurd h2.1 h3
 ·rw [List.take_succ_eq_append_getElem hk]; exact h3
 ·rw [h2.1] at h3; cases h3
set_option maxHeartbeats 16000000 in
theorem lfaults12_calls (LA : Option Addr) (lc : Nat) (l : List EnJ) (NA : Option Addr) (nc : Nat) (next : List EnJ) (n : Int) (w : World) (hl : RowT enC w (fun _ => True) LA l) (hn : RowT enC w (fun _ => True) NA next) (ht : LaysR w) :
  Calls Tryz.prog 7 #[.slice LA l.length lc, .slice NA next.length nc, .int .i64 n] w fun x w' => x = .returned (.bool true) ∧ Below w.heap.size w w' := by
 have HT := Lib.hid ht
 have HL := Lib.hid hl
 have HNx := Lib.hid hn
 clear ht hl hn
 by_cases hlong : l.length ≤ 12 ∧ next.length ≤ 12 ∧ 0 ≤ n ∧ n ≤ 20
 ·have q1 : decide ((12 : Int) < (l.length : Int)) = false := decide_eq_false (by omega)
  have q2 : decide ((12 : Int) < (next.length : Int)) = false := decide_eq_false (by omega)
  have q3 : decide (n < 0) = false := decide_eq_false (by omega)
  have q4 : decide ((20 : Int) < n) = false := decide_eq_false (by omega)
  have HLs := Lib.hid hlong
  clear hlong
  go_enter Tryz.func7, Tryz.ntmps7
  go_wp2_with fail
  refine (wbegin12_calls w HT.out).mono ?_
  rintro e w1 ⟨wb, b, jb, X1, Y1, A1, n1, c1, rfl, hw1⟩
  have HW1 := Lib.hid hw1
  clear hw1
  go_wp2_with fail
  go_loopw [37] (fun v37 wr => ∃ (k : Nat) (X Y : Nat → Prop) (S : FS), k ≤ l.length ∧ v37 = .int .i64 (k : Int) ∧ Hid (WJ w wr X Y wb b jb S FS.new A1 n1 c1) ∧ Hid (FltAt S l k)) (fun v37 _ => l.length - (intOf v37).toNat)
  case atStart => exact ⟨0, X1, Y1, FS.new, Nat.zero_le _, rfl, HW1, Lib.hid (FltAt.new l)⟩
  case round =>
  clear HW1
  obtain ⟨k, X, Y, S, hk, rfl, HW, HFl⟩ := hrel
  have hk12 : k ≤ 12 := Nat.le_trans hk HLs.out.1
  by_cases hlt : k < l.length
  ·have hkl : (k : Int) < (l.length : Int) := by omega
   have hq : l[k]? = some l[k] := List.getElem?_eq_getElem hlt
   obtain ⟨g, o, rfl, _, hg, c0, c1', c2⟩ := en_at (HL.out.below HW.out.wa.fx.bel) hq
   have hbA : Below wr.heap.size wr (wr.alloc (.cells (enC l[k]).toArray 28)).drew := ((Below.refl _ wr).alloc (Nat.le_refl _) (.cells (enC l[k]).toArray 28)).drew
   have HW2 := Lib.hid (HW.out.below hbA)
   have HBx := Lib.hid ((BxA.new wr 28 (enC l[k])).below (Below.refl _ _).drew)
   have HXb : Hid (XN X wr (wr.alloc (.cells (enC l[k]).toArray 28)).drew wr.heap.size) := Lib.hid (XN.new (by show _ < (wr.alloc _).heap.size; simp))
   have HRi := Lib.hid (fun y => rright12_calls l[k] y)
   have HAt := Lib.hid HFl.out.at_
   have HTw : Hid (LaysR (wr.alloc (.cells (enC l[k]).toArray 28)).drew) := Lib.hid (HT.out.on HW2.out.wa.fx.bel)
   clear hq hbA HW
   by_cases hr : rightJ l[k]
   ·have hst := HFl.out.step hlt HLs.out.1 hr
    have HApp := Lib.hid hst
    rw [decide_eq_true hr] at HRi
    clear hr hst HFl
    generalize l[k] = e at *
    obtain ⟨et, ed, ec⟩ := e
    simp only at c0 c1' c2
    have KK0 := And.intro (HBx.out.c 0 rfl) (And.intro (HBx.out.c 1 rfl) (And.intro (HBx.out.c 2 rfl) (HW2.out.wa.box.c 1 rfl)))
    go_upto_region 9 with fail
    refine wp_region_held_drew (S := (fun w' => w'.cell? ⟨wr.heap.size, 0, none⟩ = some (.int .i64 et) ∧ w'.cell? ⟨wr.heap.size, 1, none⟩ = some (.string (bs ed)) ∧ w'.cell? ⟨wr.heap.size, 2, none⟩ = some (.string (bs ec)) ∧ w'.cell? ⟨wb, 1, none⟩ = some (jP jb))) (by kernel_rfl) KK0 (fun hHeld => ?_)
    refine wpAnyH_take (i := 0) (oi := ⟨some 41, _, _, _, _, _⟩) (v := ?_) rfl (by kernel_rfl) (by kernel_rfl) (by kernel_rfl) (fun _ _ _ h => h) (Or.inl ⟨by kernel_rfl, ?hy0⟩) (by assumption) ?_
    case hy0 => (intro w' hSw; (try dsimp only at hSw); go_simp; try with_reducible rfl)
    simp only [Act.put, List.setIfInBounds_toArray, List.set_cons_zero, List.set_cons_succ]
    refine wpAnyH_ready (rs := [1]) (by kernel_rfl) (by simp) ?_
    refine AllReadyH.cons (o := ⟨some 42, _, _, _, _, _⟩) rfl (fun K hK => ?_) AllReadyH.nil
    (rw [if_pos (by kernel_rfl)])
    go_simp
    refine (HRi.out _).mono ?_; rintro e y1 ⟨rfl, hb⟩; have HW3 := Lib.hid (HW2.out.below hb); have HBx3 := Lib.hid (HBx.out.below hb); have KK1 := (And.intro (HBx3.out.c 0 rfl) (And.intro (HBx3.out.c 1 rfl) (And.intro (HBx3.out.c 2 rfl) (HW3.out.wa.box.c 1 rfl)))); clear hb
    refine hK.out _ _ KK1 (fun hHeld => ?_)
    clear hK K
    refine wpAnyH_take (i := 2) (oi := ⟨some 43, _, _, _, _, _⟩) (v := ?_) rfl (by kernel_rfl) (by kernel_rfl) (by kernel_rfl) (fun _ _ _ h => h) (Or.inl ⟨by kernel_rfl, ?hy2⟩) (by assumption) ?_
    case hy2 => (intro w' hSw; (try dsimp only at hSw); go_simp; try with_reducible rfl)
    simp only [Act.put, List.setIfInBounds_toArray, List.set_cons_zero, List.set_cons_succ]
    refine wpAnyH_take (i := 3) (oi := ⟨some 44, _, _, _, _, _⟩) (v := ?_) rfl (by kernel_rfl) (by kernel_rfl) (by kernel_rfl) (fun _ _ _ h => h) (Or.inl ⟨by kernel_rfl, ?hy3⟩) (by assumption) ?_
    case hy3 => (intro w' hSw; (try dsimp only at hSw); go_simp; try with_reducible rfl)
    simp only [Act.put, List.setIfInBounds_toArray, List.set_cons_zero, List.set_cons_succ]
    refine wpAnyH_take (i := 4) (oi := ⟨some 45, _, _, _, _, _⟩) (v := ?_) rfl (by kernel_rfl) (by kernel_rfl) (by kernel_rfl) (fun _ _ _ h => h) (Or.inl ⟨by kernel_rfl, ?hy4⟩) (by assumption) ?_
    case hy4 => (intro w' hSw; (try dsimp only at hSw); go_simp; try with_reducible rfl)
    simp only [Act.put, List.setIfInBounds_toArray, List.set_cons_zero, List.set_cons_succ]
    refine wpAnyH_take (i := 5) (oi := ⟨some 46, _, _, _, _, _⟩) (v := ?_) rfl (by kernel_rfl) (by kernel_rfl) (by kernel_rfl) (fun _ _ _ h => h) (Or.inl ⟨by kernel_rfl, ?hy5⟩) (by assumption) ?_
    case hy5 => (intro w' hSw; (try dsimp only at hSw); go_simp; try with_reducible rfl)
    simp only [Act.put, List.setIfInBounds_toArray, List.set_cons_zero, List.set_cons_succ]
    refine wpAnyH_take (i := 6) (oi := ⟨some 47, _, _, _, _, _⟩) (v := ?_) rfl (by kernel_rfl) (by kernel_rfl) (by kernel_rfl) (fun _ _ _ h => h) (Or.inl ⟨by kernel_rfl, ?hy6⟩) (by assumption) ?_
    case hy6 => (intro w' hSw; (try dsimp only at hSw); go_simp; try with_reducible rfl)
    simp only [Act.put, List.setIfInBounds_toArray, List.set_cons_zero, List.set_cons_succ]
    refine wpAnyH_take (i := 7) (oi := ⟨some 48, _, _, _, _, _⟩) (v := ?_) rfl (by kernel_rfl) (by kernel_rfl) (by kernel_rfl) (fun _ _ _ h => h) (Or.inl ⟨by kernel_rfl, ?hy7⟩) (by assumption) ?_
    case hy7 => (intro w' hSw; (try dsimp only at hSw); go_simp; try with_reducible rfl)
    simp only [Act.put, List.setIfInBounds_toArray, List.set_cons_zero, List.set_cons_succ]
    refine wpAnyH_take (i := 8) (oi := ⟨some 49, _, _, _, _, _⟩) (v := ?_) rfl (by kernel_rfl) (by kernel_rfl) (by kernel_rfl) (fun _ _ _ h => h) (Or.inl ⟨by kernel_rfl, ?hy8⟩) (by assumption) ?_
    case hy8 => (intro w' hSw; (try dsimp only at hSw); go_simp; try with_reducible rfl)
    simp only [Act.put, List.setIfInBounds_toArray, List.set_cons_zero, List.set_cons_succ]
    refine wpAnyH_ready (rs := [9]) (by kernel_rfl) (by simp) ?_
    refine AllReadyH.cons (o := ⟨some 50, _, _, _, _, _⟩) rfl (fun K hK => ?_) AllReadyH.nil
    (rw [if_pos (by kernel_rfl)])
    go_simp
    have HJa := Lib.hid (jappend12_calls w _ _ _ b S jb hN HW3.out.j (HAt.out.fit (by omega)) HT.out ⟨et, ed, ec⟩); rw [HApp.out.1] at HJa; refine HJa.out.mono ?_; rintro e y2 ⟨rfl, hj, ho⟩; have HW4 := Lib.hid (HW3.out.turnJ hj ho); have HBx4 := Lib.hid (HBx3.out.keep ho (fun hn => hn (.inl HXb.out))); have KK2 := (And.intro (HBx4.out.c 0 rfl) (And.intro (HBx4.out.c 1 rfl) (And.intro (HBx4.out.c 2 rfl) (HW4.out.wa.box.c 1 rfl)))); clear hj ho HJa
    refine hK.out _ _ KK2 (fun hHeld => ?_)
    clear hK K
    refine wpAnyH_take (i := 10) (oi := ⟨some 51, _, _, _, _, _⟩) (v := ?_) rfl (by kernel_rfl) (by kernel_rfl) (by kernel_rfl) (fun _ _ _ h => h) (Or.inl ⟨by kernel_rfl, ?hy10⟩) (by assumption) ?_
    case hy10 => (intro w' hSw; (try dsimp only at hSw); go_simp; try with_reducible rfl)
    simp only [Act.put, List.setIfInBounds_toArray, List.set_cons_zero, List.set_cons_succ]
    refine wpAnyH_take (i := 11) (oi := ⟨some 52, _, _, _, _, _⟩) (v := ?_) rfl (by kernel_rfl) (by kernel_rfl) (by kernel_rfl) (fun _ _ _ h => h) (Or.inl ⟨by kernel_rfl, ?hy11⟩) (by assumption) ?_
    case hy11 => (intro w' hSw; (try dsimp only at hSw); go_simp; try with_reducible rfl)
    simp only [Act.put, List.setIfInBounds_toArray, List.set_cons_zero, List.set_cons_succ]
    refine wpAnyH_done (by kernel_rfl) ?_ _
    clear KK0 KK1 KK2
    go_wp2_with fail
    go_roundw
    case rel => exact ⟨k + 1, _, _, _, by omega, by go_num, HW4, Lib.hid HApp.out.2⟩
    case measure => simp [intOf]; omega
   ·rw [decide_eq_false hr] at HRi
    clear hr HFl
    generalize l[k] = e at *
    obtain ⟨et, ed, ec⟩ := e
    simp only at c0 c1' c2
    have KK0 := And.intro (HBx.out.c 0 rfl) (And.intro (HBx.out.c 1 rfl) (And.intro (HBx.out.c 2 rfl) (HW2.out.wa.box.c 1 rfl)))
    go_upto_region 9 with fail
    refine wp_region_held_drew (S := (fun w' => w'.cell? ⟨wr.heap.size, 0, none⟩ = some (.int .i64 et) ∧ w'.cell? ⟨wr.heap.size, 1, none⟩ = some (.string (bs ed)) ∧ w'.cell? ⟨wr.heap.size, 2, none⟩ = some (.string (bs ec)) ∧ w'.cell? ⟨wb, 1, none⟩ = some (jP jb))) (by kernel_rfl) KK0 (fun hHeld => ?_)
    refine wpAnyH_take (i := 0) (oi := ⟨some 41, _, _, _, _, _⟩) (v := ?_) rfl (by kernel_rfl) (by kernel_rfl) (by kernel_rfl) (fun _ _ _ h => h) (Or.inl ⟨by kernel_rfl, ?hy0⟩) (by assumption) ?_
    case hy0 => (intro w' hSw; (try dsimp only at hSw); go_simp; try with_reducible rfl)
    simp only [Act.put, List.setIfInBounds_toArray, List.set_cons_zero, List.set_cons_succ]
    refine wpAnyH_ready (rs := [1]) (by kernel_rfl) (by simp) ?_
    refine AllReadyH.cons (o := ⟨some 42, _, _, _, _, _⟩) rfl (fun K hK => ?_) AllReadyH.nil
    (rw [if_pos (by kernel_rfl)])
    go_simp
    refine (HRi.out _).mono ?_; rintro e y1 ⟨rfl, hb⟩; have HW3 := Lib.hid (HW2.out.below hb); have HBx3 := Lib.hid (HBx.out.below hb); have KK1 := (And.intro (HBx3.out.c 0 rfl) (And.intro (HBx3.out.c 1 rfl) (And.intro (HBx3.out.c 2 rfl) (HW3.out.wa.box.c 1 rfl)))); clear hb
    refine hK.out _ _ KK1 (fun hHeld => ?_)
    clear hK K
    refine wpAnyH_take (i := 2) (oi := ⟨some 43, _, _, _, _, _⟩) (v := ?_) rfl (by kernel_rfl) (by kernel_rfl) (by kernel_rfl) (fun _ _ _ h => h) (Or.inl ⟨by kernel_rfl, ?hy2⟩) (by assumption) ?_
    case hy2 => (intro w' hSw; (try dsimp only at hSw); go_simp; try with_reducible rfl)
    simp only [Act.put, List.setIfInBounds_toArray, List.set_cons_zero, List.set_cons_succ]
    refine wpAnyH_take (i := 3) (oi := ⟨some 44, _, _, _, _, _⟩) (v := ?_) rfl (by kernel_rfl) (by kernel_rfl) (by kernel_rfl) (fun _ _ _ h => h) (Or.inl ⟨by kernel_rfl, ?hy3⟩) (by assumption) ?_
    case hy3 => (intro w' hSw; (try dsimp only at hSw); go_simp; try with_reducible rfl)
    simp only [Act.put, List.setIfInBounds_toArray, List.set_cons_zero, List.set_cons_succ]
    refine wpAnyH_take (i := 4) (oi := ⟨some 45, _, _, _, _, _⟩) (v := undef) rfl (by kernel_rfl) (by kernel_rfl) (by kernel_rfl) (fun _ _ _ h => h) (Or.inr ⟨by kernel_rfl, rfl⟩) (by assumption) ?_
    simp only [Act.put, List.setIfInBounds_toArray, List.set_cons_zero, List.set_cons_succ]
    refine wpAnyH_take (i := 5) (oi := ⟨some 46, _, _, _, _, _⟩) (v := undef) rfl (by kernel_rfl) (by kernel_rfl) (by kernel_rfl) (fun _ _ _ h => h) (Or.inr ⟨by kernel_rfl, rfl⟩) (by assumption) ?_
    simp only [Act.put, List.setIfInBounds_toArray, List.set_cons_zero, List.set_cons_succ]
    refine wpAnyH_take (i := 6) (oi := ⟨some 47, _, _, _, _, _⟩) (v := undef) rfl (by kernel_rfl) (by kernel_rfl) (by kernel_rfl) (fun _ _ _ h => h) (Or.inr ⟨by kernel_rfl, rfl⟩) (by assumption) ?_
    simp only [Act.put, List.setIfInBounds_toArray, List.set_cons_zero, List.set_cons_succ]
    refine wpAnyH_take (i := 7) (oi := ⟨some 48, _, _, _, _, _⟩) (v := undef) rfl (by kernel_rfl) (by kernel_rfl) (by kernel_rfl) (fun _ _ _ h => h) (Or.inr ⟨by kernel_rfl, rfl⟩) (by assumption) ?_
    simp only [Act.put, List.setIfInBounds_toArray, List.set_cons_zero, List.set_cons_succ]
    refine wpAnyH_take (i := 8) (oi := ⟨some 49, _, _, _, _, _⟩) (v := undef) rfl (by kernel_rfl) (by kernel_rfl) (by kernel_rfl) (fun _ _ _ h => h) (Or.inr ⟨by kernel_rfl, rfl⟩) (by assumption) ?_
    simp only [Act.put, List.setIfInBounds_toArray, List.set_cons_zero, List.set_cons_succ]
    refine wpAnyH_take (i := 9) (oi := ⟨some 50, _, _, _, _, _⟩) (v := undef) rfl (by kernel_rfl) (by kernel_rfl) (by kernel_rfl) (fun _ _ _ h => h) (Or.inr ⟨by kernel_rfl, rfl⟩) (by assumption) ?_
    simp only [Act.put, List.setIfInBounds_toArray, List.set_cons_zero, List.set_cons_succ]
    refine wpAnyH_take (i := 10) (oi := ⟨some 51, _, _, _, _, _⟩) (v := undef) rfl (by kernel_rfl) (by kernel_rfl) (by kernel_rfl) (fun _ _ _ h => h) (Or.inr ⟨by kernel_rfl, rfl⟩) (by assumption) ?_
    simp only [Act.put, List.setIfInBounds_toArray, List.set_cons_zero, List.set_cons_succ]
    refine wpAnyH_take (i := 11) (oi := ⟨some 52, _, _, _, _, _⟩) (v := ?_) rfl (by kernel_rfl) (by kernel_rfl) (by kernel_rfl) (fun _ _ _ h => h) (Or.inl ⟨by kernel_rfl, ?hy11⟩) (by assumption) ?_
    case hy11 => (intro w' hSw; (try dsimp only at hSw); go_simp; try with_reducible rfl)
    simp only [Act.put, List.setIfInBounds_toArray, List.set_cons_zero, List.set_cons_succ]
    refine wpAnyH_done (by kernel_rfl) ?_ _
    have HA := Lib.hid (jalive12_calls y1 (HT.out.on HW3.out.wa.fx.bel))
    clear KK0 KK1
    go_wp2_with fail
    refine HA.out.mono ?_
    rintro x w3 ⟨rfl, hb3⟩
    have HB3 := Lib.hid (HW3.out.below hb3).wa.fx.bel
    clear hb3 HA
    go_wp2_with fail
    go_ret
    exact ⟨rfl, HB3.out⟩
  ·obtain rfl : k = l.length := by omega
   clear hlt hk
   have HS0 := Lib.hid HFl
   clear HFl
   have HFl := HS0.out
   go_wp2_with fail
   go_loopw [57] (fun v57 wr => ∃ (k : Nat) (X Y : Nat → Prop), k ≤ next.length ∧ v57 = .int .i64 (k : Int) ∧ Hid (WJ w wr X Y wb b jb S FS.new A1 n1 c1) ∧ Hid (∀ e ∈ next.take k, rightJ e)) (fun v57 _ => next.length - (intOf v57).toNat)
   case atStart => exact ⟨0, X, Y, Nat.zero_le _, rfl, HW, Lib.hid (fun e he => by simp at he)⟩
   case round =>
   clear HW
   obtain ⟨k, X, Y, hk, rfl, HW, HRi⟩ := hrel
   by_cases hlt : k < next.length
   ·have hkl : (k : Int) < (next.length : Int) := by omega
    have hwi : IntKind.i64.wrap ((k : Int) + 1) = (k : Int) + 1 := IntWalk.i64_in _ (by have := HLs.out.2.1; omega)
    have hq : next[k]? = some next[k] := List.getElem?_eq_getElem hlt
    obtain ⟨g, o, rfl, _, hg, c0, c1', c2⟩ := en_at (HNx.out.below HW.out.wa.fx.bel) hq
    have hbA := (Below.refl _ wr).alloc (Nat.le_refl _) (.cells (enC next[k]).toArray 28)
    have HW2 := Lib.hid (HW.out.below hbA)
    have HBx := Lib.hid (BxA.new wr 28 (enC next[k]))
    have HR := Lib.hid (rright12_calls next[k] (wr.alloc (.cells (enC next[k]).toArray 28)))
    have HRn := Lib.hid (right_snoc HRi.out hlt)
    clear hq hbA HW
    by_cases hr : rightJ next[k]
    ·have HRn2 := Lib.hid (HRn.out hr)
     rw [decide_eq_true hr] at HR
     clear hr HRn HRi
     generalize next[k] = e at *
     obtain ⟨et, ed, ec⟩ := e
     simp only at c0 c1' c2
     obtain ⟨b0, b1, b2⟩ := HBx.out.three
     go_wp2_with fail
     refine HR.out.mono ?_
     rintro x w3 ⟨rfl, hb3⟩
     have HW3 := Lib.hid (HW2.out.below hb3)
     clear hb3 HR c0 c1' c2 b0 b1 b2
     go_wp2_with fail
     go_roundw
     case rel => exact ⟨k + 1, _, _, by omega, by go_num, HW3, HRn2⟩
     case measure => simp [intOf]; omega
    ·rw [decide_eq_false hr] at HR
     clear hr HRn HRi
     generalize next[k] = e at *
     obtain ⟨et, ed, ec⟩ := e
     simp only at c0 c1' c2
     obtain ⟨b0, b1, b2⟩ := HBx.out.three
     go_wp2_with fail
     refine HR.out.mono ?_
     rintro x w3 ⟨rfl, hb3⟩
     have HW3 := Lib.hid (HW2.out.below hb3)
     have HA := Lib.hid (jalive12_calls w3 (HT.out.on HW3.out.wa.fx.bel))
     clear hb3 HR c0 c1' c2 b0 b1 b2
     go_wp2_with fail
     refine HA.out.mono ?_
     rintro x w4 ⟨rfl, hb4⟩
     have HB4 := Lib.hid (HW3.out.below hb4).wa.fx.bel
     clear hb4 HA
     go_wp2_with fail
     go_ret
     exact ⟨rfl, HB4.out⟩
   ·obtain rfl : k = next.length := by omega
    clear hlt hk
    rw [List.take_length] at HRi
    obtain ⟨kn, rfl⟩ : ∃ kn : Nat, n = (kn : Int) := ⟨n.toNat, by have := HLs.out.2.2.1; omega⟩
    have hkeep := HFl.out.keep
    rw [List.take_length] at hkeep
    have HFc := Lib.hid (faults_compact hkeep HFl.out.one.up (fun e => HFl.out.nil_ (by rw [e]; rfl)) hN_name otN_name HRi.out HLs.out.2.1 kn)
    have HAt4 : Hid ((S.fault_ (kn : Int)).At 13) := Lib.hid ((HFl.out.at_.does ⟨6, ⟨#[]⟩, ⟨#[]⟩, [], (kn : Int), []⟩ (by show (kn : Int) ≤ _; have := HLs.out.2.2.2; omega)).mono (by have := HLs.out.1; omega))
    have HAt := Lib.hid HFl.out.at_
    have x0 := HW.out.wa.box.c 0 rfl
    clear hkeep HS0 HFl
    go_wp2_with fail
    refine (HW.out.wa.fx.step (S2 := S.fault_ (kn : Int)) (fun O D hh _ => ffault_calls _ O D b S hh (HAt.out.fit (by have := HLs.out.1; omega)) (kn : Int) (by omega) (by have := HLs.out.2.2.2; omega))).mono ?_
    rintro x w4 ⟨rfl, hf4, ho4⟩
    have hw4 := (HW.out.turn hf4 (fun _ h => h) (fun _ h => h) ho4).below (Below.refl _ w4).drew
    obtain ⟨X4, hX4⟩ : ∃ X4, XN X w4 w4.drew = X4 := ⟨_, rfl⟩
    obtain ⟨Y4, hY4⟩ : ∃ Y4, XN Y w4 w4.drew = Y4 := ⟨_, rfl⟩
    rw [hX4, hY4] at hw4
    have HW4 := Lib.hid hw4
    have HNw := Lib.hid (new12_calls w4.drew _ NA nc next (rowT_old HNx.out hw4.wa.fx.bel hw4.wa.old) (by have := HLs.out.2.1; omega))
    have KK0 := HW4.out.wa.box.c 1 rfl
    clear hf4 ho4 hw4 hX4 hY4 x0 HW HAt
    go_upto_region 19 with fail
    refine wp_region_held_drew (S := (fun w' => w'.cell? ⟨wb, 1, none⟩ = some (jP jb))) (by kernel_rfl) KK0 (fun hHeld => ?_)
    refine wpAnyH_take (i := 0) (oi := ⟨some 72, _, _, _, _, _⟩) (v := ?_) rfl (by kernel_rfl) (by kernel_rfl) (by kernel_rfl) (fun _ _ _ h => h) (Or.inl ⟨by kernel_rfl, ?hy0⟩) (by assumption) ?_
    case hy0 => (intro w' hSw; (try dsimp only at hSw); go_simp; try with_reducible rfl)
    simp only [Act.put, List.setIfInBounds_toArray, List.set_cons_zero, List.set_cons_succ]
    refine wpAnyH_take (i := 1) (oi := ⟨some 73, _, _, _, _, _⟩) (v := ?_) rfl (by kernel_rfl) (by kernel_rfl) (by kernel_rfl) (fun _ _ _ h => h) (Or.inl ⟨by kernel_rfl, ?hy1⟩) (by assumption) ?_
    case hy1 => (intro w' hSw; (try dsimp only at hSw); go_simp; try with_reducible rfl)
    simp only [Act.put, List.setIfInBounds_toArray, List.set_cons_zero, List.set_cons_succ]
    refine wpAnyH_take (i := 2) (oi := ⟨some 74, _, _, _, _, _⟩) (v := ?_) rfl (by kernel_rfl) (by kernel_rfl) (by kernel_rfl) (fun _ _ _ h => h) (Or.inl ⟨by kernel_rfl, ?hy2⟩) (by assumption) ?_
    case hy2 => (intro w' hSw; (try dsimp only at hSw); go_simp; try with_reducible rfl)
    simp only [Act.put, List.setIfInBounds_toArray, List.set_cons_zero, List.set_cons_succ]
    refine wpAnyH_take (i := 3) (oi := ⟨some 75, _, _, _, _, _⟩) (v := ?_) rfl (by kernel_rfl) (by kernel_rfl) (by kernel_rfl) (fun _ _ _ h => h) (Or.inl ⟨by kernel_rfl, ?hy3⟩) (by assumption) ?_
    case hy3 => (intro w' hSw; (try dsimp only at hSw); go_simp; try with_reducible rfl)
    simp only [Act.put, List.setIfInBounds_toArray, List.set_cons_zero, List.set_cons_succ]
    refine wpAnyH_take (i := 4) (oi := ⟨some 76, _, _, _, _, _⟩) (v := ?_) rfl (by kernel_rfl) (by kernel_rfl) (by kernel_rfl) (fun _ _ _ h => h) (Or.inl ⟨by kernel_rfl, ?hy4⟩) (by assumption) ?_
    case hy4 => (intro w' hSw; (try dsimp only at hSw); go_simp; try with_reducible rfl)
    simp only [Act.put, List.setIfInBounds_toArray, List.set_cons_zero, List.set_cons_succ]
    refine wpAnyH_ready (rs := [5]) (by kernel_rfl) (by simp) ?_
    refine AllReadyH.cons (o := ⟨some 77, _, _, _, _, _⟩) rfl (fun K hK => ?_) AllReadyH.nil
    (rw [if_pos (by kernel_rfl)])
    go_simp
    refine HNw.out.mono ?_; rintro e y1 ⟨A5, c5, rfl, hown, hb⟩; have HW5 := Lib.hid (HW4.out.below hb); have HN5 := Lib.hid (rowT_of_own (C := enC) (R := XN X4 w4.drew y1) hown (fun g hg => .inr (hown.lt g hg))); have KK1 := HW5.out.wa.box.c 1 rfl; clear hown hb
    refine hK.out _ _ KK1 (fun hHeld => ?_)
    clear hK K
    refine wpAnyH_ready (rs := [6]) (by kernel_rfl) (by simp) ?_
    refine AllReadyH.cons (o := ⟨some 78, _, _, _, _, _⟩) rfl (fun K hK => ?_) AllReadyH.nil
    (rw [if_pos (by kernel_rfl)])
    go_simp
    have HCo := Lib.hid (jcompact12_calls w y1 _ _ b _ jb hN HW5.out.j 13 HAt4.out hN_le HT.out A5 c5 next HN5.out (by have := HLs.out; omega)); refine HCo.out.mono ?_; rintro e y2 ⟨rfl, hj, ho⟩; have HW6 := Lib.hid (HW5.out.turnJ hj ho); have KK2 := HW6.out.wa.box.c 1 rfl; clear hj ho HCo
    refine hK.out _ _ KK2 (fun hHeld => ?_)
    clear hK K
    refine wpAnyH_take (i := 7) (oi := ⟨some 12, _, _, _, _, _⟩) (v := ?_) rfl (by kernel_rfl) (by kernel_rfl) (by kernel_rfl) (fun _ _ _ h => h) (Or.inl ⟨by kernel_rfl, ?hy7⟩) (by assumption) ?_
    case hy7 => (intro w' hSw; (try dsimp only at hSw); go_simp; try with_reducible rfl)
    simp only [Act.put, List.setIfInBounds_toArray, List.set_cons_zero, List.set_cons_succ]
    refine wpAnyH_done (by kernel_rfl) ?_ _
    have x1 := HW6.out.wa.box.c 1 rfl
    have HAt6 := Lib.hid (HAt4.out.compactJ hN next)
    clear KK0 KK1 KK2 HN5 HNw HW4 HAt4
    have HRd := Lib.hid (jread12_calls w y2 _ _ b _ jb hN HW6.out.j (HAt6.out.fit (by have := HLs.out.2.1; omega)) HT.out)
    have hlen1 := HLs.out.1
    have hlen2 := HLs.out.2.1
    obtain ⟨S6, hS6⟩ : ∃ S6, S6 = (compactJ (S.fault_ (kn : Int)) hN next).1 := ⟨_, rfl⟩
    obtain ⟨z6, hz6⟩ : ∃ z6, z6 = (compactJ (S.fault_ (kn : Int)) hN next).2 := ⟨_, rfl⟩
    rw [← hS6] at HFc HW6 HAt6 HRd
    rw [← hz6] at HFc ⊢
    clear hS6 hz6
    by_cases hm : kn < max next.length 1
    ·obtain ⟨rfl, hrd, hfl⟩ := HFc.out.1 hm
     rw [hrd] at HRd
     simp only at HRd
     have HFl := Lib.hid hfl
     have q5 : decide ((kn : Int) < max (next.length : Int) 1) = true := decide_eq_true (by omega)
     clear hm hrd hfl HFc
     go_wp2_with fail
     refine HRd.out.mono ?_
     rintro x w7 ⟨A7, c7, rfl, hown7, hb7⟩
     have HW7 := Lib.hid (HW6.out.below hb7)
     have HR7 := Lib.hid (rowT_of_own (C := enC) (R := fun _ => True) hown7 (fun _ _ => trivial))
     have HA := Lib.hid (jalive12_calls w7 (HT.out.on HW7.out.wa.fx.bel))
     clear hown7 hb7 HRd HW6 x1
     go_wp2_with fail
     refine HA.out.mono ?_
     rintro x w8 ⟨rfl, hb8⟩
     have HW8 := Lib.hid (HW7.out.below hb8)
     have HOl := Lib.hid (old12_calls w8 _ A7 c7 l (HR7.out.below hb8) (by omega))
     clear hb8 HA HW7 HR7
     go_wp2_with fail
     refine HOl.out.mono ?_
     rintro x w9 ⟨A9, c9, rfl, hown9, hb9⟩
     have HW9 := Lib.hid (HW8.out.below hb9)
     have HSm := Lib.hid (rsame12_calls w9 _ _ A9 LA c9 lc l l (rowT_of_own (C := enC) (R := fun _ => True) hown9 (fun _ _ => trivial)) (HL.out.below HW9.out.wa.fx.bel) (by omega) (by omega))
     rw [decide_eq_true rfl] at HSm
     clear hown9 hb9 HOl HW8
     go_wp2_with fail
     refine HSm.out.mono ?_
     rintro x w10 ⟨rfl, hb10⟩
     have HW10 := Lib.hid (HW9.out.below hb10)
     obtain ⟨O, D, hat⟩ := HW10.out.wa.fx.at_
     have HNm := Lib.hid (fnames_calls _ O D b _ hat (HAt6.out.fit (by omega)))
     have x0 := HW10.out.wa.box.c 0 rfl
     clear hb10 HSm HW9 hat
     go_wp2_with fail
     refine HNm.out.mono ?_
     rintro x w11 ⟨u, rfl, hown11, hb11⟩
     obtain ⟨A11, c11, rfl⟩ := own_form hown11
     have HW11 := Lib.hid (HW10.out.below hb11)
     have HB11 := Lib.hid HW11.out.wa.fx.bel
     have q6 : ((S6.l.length : Int) == min (l.length : Int) 1) = true := beq_iff_eq.2 (by have := HFl.out; omega)
     clear hown11 hb11 HNm HW10 x0 HW11
     go_wp2_with fail
     go_ret
     exact ⟨rfl, HB11.out⟩
    ·obtain ⟨rfl, hrd, hfl, hpe⟩ := HFc.out.2 (by omega)
     rw [hrd] at HRd
     simp only at HRd
     have HFl := Lib.hid hfl
     have HPe := Lib.hid hpe
     have q5 : decide ((kn : Int) < max (next.length : Int) 1) = false := decide_eq_false (by omega)
     clear hm hrd hfl HFc
     go_wp2_with fail
     refine HRd.out.mono ?_
     rintro x w7 ⟨A7, c7, rfl, hown7, hb7⟩
     have HW7 := Lib.hid (HW6.out.below hb7)
     have HR7 := Lib.hid (rowT_of_own (C := enC) (R := fun _ => True) hown7 (fun _ _ => trivial))
     have HA := Lib.hid (jalive12_calls w7 (HT.out.on HW7.out.wa.fx.bel))
     clear hown7 hb7 HRd HW6 x1
     go_wp2_with fail
     refine HA.out.mono ?_
     rintro x w8 ⟨rfl, hb8⟩
     have HW8 := Lib.hid (HW7.out.below hb8)
     have HOl := Lib.hid (old12_calls w8 _ A7 c7 next (HR7.out.below hb8) (by omega))
     clear hb8 HA HW7 HR7
     go_wp2_with fail
     refine HOl.out.mono ?_
     rintro x w9 ⟨A9, c9, rfl, hown9, hb9⟩
     have HW9 := Lib.hid (HW8.out.below hb9)
     have HSm := Lib.hid (rsame12_calls w9 _ _ A9 NA c9 nc next next (rowT_of_own (C := enC) (R := fun _ => True) hown9 (fun _ _ => trivial)) (HNx.out.below HW9.out.wa.fx.bel) (by omega) (by omega))
     rw [decide_eq_true rfl] at HSm
     clear hown9 hb9 HOl HW8
     go_wp2_with fail
     refine HSm.out.mono ?_
     rintro x w10 ⟨rfl, hb10⟩
     have HW10 := Lib.hid (HW9.out.below hb10)
     obtain ⟨O, D, hat⟩ := HW10.out.wa.fx.at_
     have HNm := Lib.hid (fnames_calls _ O D b _ hat (HAt6.out.fit (by omega)))
     have x0 := HW10.out.wa.box.c 0 rfl
     clear hb10 HSm HW9 hat
     go_wp2_with fail
     refine HNm.out.mono ?_
     rintro x w11 ⟨u, rfl, hown11, hb11⟩
     obtain ⟨A11, c11, rfl⟩ := own_form hown11
     have HW11 := Lib.hid (HW10.out.below hb11)
     have q6 : ((S6.l.length : Int) == 1) = true := beq_iff_eq.2 (by have := HFl.out; omega)
     obtain ⟨O, D, hat⟩ := HW11.out.wa.fx.at_
     have HPd := Lib.hid (fpending_calls _ O D b _ hat (HAt6.out.fit (by omega)))
     have x0 := HW11.out.wa.box.c 0 rfl
     rw [HPe.out] at HPd
     clear hown11 hb11 HNm HW10 hat
     go_wp2_with fail
     refine HPd.out.mono ?_
     rintro x w12 ⟨rfl, hb12⟩
     have HB12 := Lib.hid (HW11.out.below hb12).wa.fx.bel
     clear hb12 HPd HW11 x0
     go_wp2_with fail
     go_ret
     exact ⟨rfl, HB12.out⟩
 ·have HA := Lib.hid (jalive12_calls w HT.out)
  rcases (show 12 < l.length ∨ (¬ 12 < l.length ∧ 12 < next.length) ∨ (¬ 12 < l.length ∧ ¬ 12 < next.length ∧ n < 0) ∨ (¬ 12 < l.length ∧ ¬ 12 < next.length ∧ ¬ n < 0 ∧ 20 < n) by omega) with h | ⟨h, h2⟩ | ⟨h, h2, h3⟩ | ⟨h, h2, h3, h4⟩
  ·have q1 : decide ((12 : Int) < (l.length : Int)) = true := decide_eq_true (by omega)
   clear hlong h 
   go_enter Tryz.func7, Tryz.ntmps7
   go_wp2_with fail
   refine HA.out.mono ?_
   rintro x w1 ⟨rfl, hb1⟩
   have HB1 := Lib.hid hb1
   clear hb1 HA
   go_wp2_with fail
   go_ret
   exact ⟨rfl, HB1.out⟩
  ·have q1 : decide ((12 : Int) < (l.length : Int)) = false := decide_eq_false (by omega)
   have q2 : decide ((12 : Int) < (next.length : Int)) = true := decide_eq_true (by omega)
   clear hlong h h2
   go_enter Tryz.func7, Tryz.ntmps7
   go_wp2_with fail
   refine HA.out.mono ?_
   rintro x w1 ⟨rfl, hb1⟩
   have HB1 := Lib.hid hb1
   clear hb1 HA
   go_wp2_with fail
   go_ret
   exact ⟨rfl, HB1.out⟩
  ·have q1 : decide ((12 : Int) < (l.length : Int)) = false := decide_eq_false (by omega)
   have q2 : decide ((12 : Int) < (next.length : Int)) = false := decide_eq_false (by omega)
   have q3 : decide (n < 0) = true := decide_eq_true (by omega)
   clear hlong h h2 h3
   go_enter Tryz.func7, Tryz.ntmps7
   go_wp2_with fail
   refine HA.out.mono ?_
   rintro x w1 ⟨rfl, hb1⟩
   have HB1 := Lib.hid hb1
   clear hb1 HA
   go_wp2_with fail
   go_ret
   exact ⟨rfl, HB1.out⟩
  ·have q1 : decide ((12 : Int) < (l.length : Int)) = false := decide_eq_false (by omega)
   have q2 : decide ((12 : Int) < (next.length : Int)) = false := decide_eq_false (by omega)
   have q3 : decide (n < 0) = false := decide_eq_false (by omega)
   have q4 : decide ((20 : Int) < n) = true := decide_eq_true (by omega)
   clear hlong h h2 h3 h4
   go_enter Tryz.func7, Tryz.ntmps7
   go_wp2_with fail
   refine HA.out.mono ?_
   rintro x w1 ⟨rfl, hb1⟩
   have HB1 := Lib.hid hb1
   clear hb1 HA
   go_wp2_with fail
   go_ret
   exact ⟨rfl, HB1.out⟩
end Go.Proofs.YteafcaambnfdoaaGreatDoor
