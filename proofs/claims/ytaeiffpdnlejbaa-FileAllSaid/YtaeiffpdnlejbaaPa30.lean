/-
  Layer 7 and what it stands on, part 30 (FStands).
-/
import Derived.Test.YtaeiffpdnlejbaaPa25
import Derived.Test.YtaeiffpdnlejbaaPa29
import Derived.Deep.RegionHeld3
namespace Go.Proofs.Ytaeiffpdnlejbaa
section
open Go Go.RowKit
set_option maxRecDepth 100000
def nameC (x : ByteArray) : List Value := [.string x]
set_option maxHeartbeats 8000000 in
theorem stands10_calls (w : World) (O D : Nat → Prop) (b : Nat) (S : FS) (h : FileAt w O D b S) (hF : S.Fit) (Ds : Nat → Prop) (v : Value) (hs : StAt w Ds v S) :
    Calls Try.prog 17 #[fp b, v] w fun e w' => e = .returned (.bool true) ∧ Below w.heap.size w w' := by
  have HST0 := Lib.hid hs
  obtain ⟨A, c, vs, rfl, hr, ha⟩ := hs
  have hlen := all2_len ha
  have hb := (Below.refl _ w).alloc (Nat.le_refl _) (.cells (stC A vs.length c S).toArray 29)
  have hx := BxA.new w 29 (stC A vs.length c S)
  have hlw : w.heap.size < (w.alloc (.cells (stC A vs.length c S).toArray 29)).heap.size := by simp
  unfold stV
  go_enter Try.func17, Try.ntmps17
  obtain ⟨W, hW⟩ : ∃ W, w.alloc (.cells (stC A vs.length c S).toArray 29) = W := ⟨_, rfl⟩
  rw [hW] at hb hx hlw
  have HST := Lib.hid (HST0.out.below hb)
  have HR := Lib.hid (hr.below hb)
  have HA := Lib.hid (all2_imp (fun _ _ h => FileR.below h hb) ha)
  have HB := Lib.hid hb
  have HX := Lib.hid hx
  have HL := Lib.hid hlw
  have H := Lib.hid (objFile.below h hb)
  have HF := Lib.hid hF
  have HN := Lib.hid (fnames_calls W O D b S H.out hF)
  have HLen := Lib.hid hlen
  unfold stC at *
  clear hr ha hb hx h hF hlw hlen HST0
  go_wp2_with fail
  refine HN.out.mono ?_
  rintro e w2 ⟨u, rfl, hown, hb2⟩
  obtain ⟨NA, nc, rfl⟩ := own_form hown
  have HOwn : Hid (RowT nameC w2 (fun _ => True) NA (S.l.map FileF.name)) := Lib.hid (rowT_of_own (C := nameC) (n := S.l.length) (by
    have e1 : (S.l.map FileF.name).flatMap nameC = S.l.map fun f => Value.string f.name := by
      rw [List.flatMap_map]
      show S.l.flatMap (fun f => [Value.string f.name]) = _
      induction S.l with
      | nil => rfl
      | cons a t ih => rw [List.flatMap_cons, ih]; rfl
    rw [e1, List.length_map]
    exact hown) (fun _ _ => trivial))
  rw [← HLen.out]
  have CX : Hid (∀ W', Below w2.heap.size w2 W' → W'.cell? ⟨w.heap.size, 0, none⟩ = some (.slice A vs.length c) ∧ W'.cell? ⟨w.heap.size, 1, none⟩ = some (.int .i64 (S.no : Int)) ∧ W'.cell? ⟨w.heap.size, 2, none⟩ = some (.int .i64 (S.ops : Int)) ∧ W'.cell? ⟨w.heap.size, 3, none⟩ = some (.int .i64 S.fuse) ∧ W'.cell? ⟨w.heap.size, 4, none⟩ = some (.int .i64 S.fault) ∧ W'.cell? ⟨w.heap.size, 5, none⟩ = some (.bool S.down)) := Lib.hid (fun W' h => by
    have q := (HX.out.below hb2).below h
    exact ⟨q.c 0 rfl, q.c 1 rfl, q.c 2 rfl, q.c 3 rfl, q.c 4 rfl, q.c 5 rfl⟩)
  have HPend : Hid (∀ W', Below w2.heap.size w2 W' → Calls Try.prog 23 #[fp b] W' fun e w' => e = .returned (.int .i64 (S.pend : Int)) ∧ Below W'.heap.size W' w') := Lib.hid (fun W' h => fpending_calls W' O D b S (objFile.below (objFile.below H.out hb2) h) HF.out)
  have HRPend : Hid (∀ W', Below w2.heap.size w2 W' → Calls Try.prog 37 #[.agg #[.slice A vs.length c, .int .i64 (S.no : Int), .int .i64 (S.ops : Int), .int .i64 S.fuse, .int .i64 S.fault, .bool S.down]] W' fun e w' => e = .returned (.int .i64 (S.pend : Int)) ∧ Below W'.heap.size W' w') := Lib.hid (fun W' h => rpending10_calls W' Ds _ S ((HST.out.below hb2).below h) (by have := HF.out.ok.few; omega) (fun f hf => by have := HF.out.rows f hf; omega))
  have HOps : Hid (∀ W', Below w2.heap.size w2 W' → Calls Try.prog 27 #[fp b] W' fun e w' => e = .returned (.int .i64 (S.ops : Int)) ∧ Below W'.heap.size W' w') := Lib.hid (fun W' h => fops_calls W' O D b S (objFile.below (objFile.below H.out hb2) h) HF.out)
  have HDown : Hid (∀ W', Below w2.heap.size w2 W' → Calls Try.prog 26 #[fp b] W' fun e w' => e = .returned (.bool S.down) ∧ Below W'.heap.size W' w') := Lib.hid (fun W' h => fdown_calls W' O D b S (objFile.below (objFile.below H.out hb2) h) HF.out)
  have hW2 : Hid (Below w.heap.size w w2) := Lib.hid (HB.out.trans (hb2.mono HB.out.size))
  have HFAt : Hid (FileAt w2 O D b S) := Lib.hid (objFile.below H.out hb2)
  have HST2 := Lib.hid (HST.out.below hb2)
  have HR2 := Lib.hid (HR.out.below hb2)
  have HA2 := Lib.hid (all2_imp (fun _ _ h => FileR.below h hb2) HA.out)
  have HX2 := Lib.hid (HX.out.below hb2)
  clear hown hb2 HX H HN hW HB HL HST HR HA
  have KK0 : Hid (Below w2.heap.size w2 w2.drew) := Lib.hid (Below.refl _ w2).drew
  have k0 := CX.out _ KK0.out
  have t1 : ((vs.length : Int) != (vs.length : Int)) = false := bne_self_eq_false _
  have t2 : ((S.pend : Int) != (S.pend : Int)) = false := bne_self_eq_false _
  have t3 : ((S.ops : Int) != (S.ops : Int)) = false := bne_self_eq_false _
  have t4 : (S.down != S.down) = false := bne_self_eq_false _
  go_upto_region 2 with fail
  refine wp_region_held_drew (S := (fun w' => Below w2.heap.size w2 w' ∧ w'.cell? ⟨w.heap.size, 0, none⟩ = some (.slice A vs.length c) ∧ w'.cell? ⟨w.heap.size, 1, none⟩ = some (.int .i64 (S.no : Int)) ∧ w'.cell? ⟨w.heap.size, 2, none⟩ = some (.int .i64 (S.ops : Int)) ∧ w'.cell? ⟨w.heap.size, 3, none⟩ = some (.int .i64 S.fuse) ∧ w'.cell? ⟨w.heap.size, 4, none⟩ = some (.int .i64 S.fault) ∧ w'.cell? ⟨w.heap.size, 5, none⟩ = some (.bool S.down))) (by kernel_rfl) ⟨KK0.out, k0⟩ (fun hHeld => ?_)
  refine wpAnyH_take (i := 0) (oi := ⟨some 14, _, _, _, _, _⟩) (v := ?_) rfl (by kernel_rfl) (by kernel_rfl) (by kernel_rfl) (fun _ _ _ h => h) (Or.inl ⟨by kernel_rfl, ?hy0⟩) (by assumption) ?_
  case hy0 => (intro w' hSw; (try dsimp only at hSw); go_simp; try with_reducible rfl)
  simp only [Act.put, List.setIfInBounds_toArray, List.set_cons_zero, List.set_cons_succ]
  refine wpAnyH_take (i := 1) (oi := ⟨some 15, _, _, _, _, _⟩) (v := ?_) rfl (by kernel_rfl) (by kernel_rfl) (by kernel_rfl) (fun _ _ _ h => h) (Or.inl ⟨by kernel_rfl, ?hy1⟩) (by assumption) ?_
  case hy1 => (intro w' hSw; (try dsimp only at hSw); go_simp; try with_reducible rfl)
  simp only [Act.put, List.setIfInBounds_toArray, List.set_cons_zero, List.set_cons_succ]
  refine wpAnyH_take (i := 2) (oi := ⟨some 16, _, _, _, _, _⟩) (v := ?_) rfl (by kernel_rfl) (by kernel_rfl) (by kernel_rfl) (fun _ _ _ h => h) (Or.inl ⟨by kernel_rfl, ?hy2⟩) (by assumption) ?_
  case hy2 => (intro w' hSw; (try dsimp only at hSw); go_simp; try with_reducible rfl)
  simp only [Act.put, List.setIfInBounds_toArray, List.set_cons_zero, List.set_cons_succ]
  refine wpAnyH_take (i := 3) (oi := ⟨some 17, _, _, _, _, _⟩) (v := ?_) rfl (by kernel_rfl) (by kernel_rfl) (by kernel_rfl) (fun _ _ _ h => h) (Or.inl ⟨by kernel_rfl, ?hy3⟩) (by assumption) ?_
  case hy3 => (intro w' hSw; (try dsimp only at hSw); go_simp; try with_reducible rfl)
  simp only [Act.put, List.setIfInBounds_toArray, List.set_cons_zero, List.set_cons_succ]
  refine wpAnyH_take (i := 4) (oi := ⟨some 18, _, _, _, _, _⟩) (v := ?_) rfl (by kernel_rfl) (by kernel_rfl) (by kernel_rfl) (fun _ _ _ h => h) (Or.inl ⟨by kernel_rfl, ?hy4⟩) (by assumption) ?_
  case hy4 => (intro w' hSw; (try dsimp only at hSw); go_simp; try with_reducible rfl)
  simp only [Act.put, List.setIfInBounds_toArray, List.set_cons_zero, List.set_cons_succ]
  refine wpAnyH_take (i := 5) (oi := ⟨some 19, _, _, _, _, _⟩) (v := ?_) rfl (by kernel_rfl) (by kernel_rfl) (by kernel_rfl) (fun _ _ _ h => h) (Or.inl ⟨by kernel_rfl, ?hy5⟩) (by assumption) ?_
  case hy5 => (intro w' hSw; (try dsimp only at hSw); go_simp; try with_reducible rfl)
  simp only [Act.put, List.setIfInBounds_toArray, List.set_cons_zero, List.set_cons_succ]
  refine wpAnyH_take (i := 6) (oi := ⟨some 20, _, _, _, _, _⟩) (v := ?_) rfl (by kernel_rfl) (by kernel_rfl) (by kernel_rfl) (fun _ _ _ h => h) (Or.inl ⟨by kernel_rfl, ?hy6⟩) (by assumption) ?_
  case hy6 => (intro w' hSw; (try dsimp only at hSw); go_simp; try with_reducible rfl)
  simp only [Act.put, List.setIfInBounds_toArray, List.set_cons_zero, List.set_cons_succ]
  refine wpAnyH_take (i := 7) (oi := ⟨some 21, _, _, _, _, _⟩) (v := ?_) rfl (by kernel_rfl) (by kernel_rfl) (by kernel_rfl) (fun _ _ _ h => h) (Or.inl ⟨by kernel_rfl, ?hy7⟩) (by assumption) ?_
  case hy7 => (intro w' hSw; (try dsimp only at hSw); go_simp; try with_reducible rfl)
  simp only [Act.put, List.setIfInBounds_toArray, List.set_cons_zero, List.set_cons_succ]
  refine wpAnyH_take (i := 9) (oi := ⟨some 23, _, _, _, _, _⟩) (v := ?_) rfl (by kernel_rfl) (by kernel_rfl) (by kernel_rfl) (fun _ _ _ h => h) (Or.inl ⟨by kernel_rfl, ?hy9⟩) (by assumption) ?_
  case hy9 => (intro w' hSw; (try dsimp only at hSw); go_simp; try with_reducible rfl)
  simp only [Act.put, List.setIfInBounds_toArray, List.set_cons_zero, List.set_cons_succ]
  refine wpAnyH_ready (rs := [8]) (by kernel_rfl) (by simp) ?_
  refine AllReadyH.cons (o := ⟨some 22, _, _, _, _, _⟩) rfl (fun K hK => ?_) AllReadyH.nil
  (rw [if_pos (by kernel_rfl)])
  go_simp
  refine (HPend.out _ KK0.out).mono ?_; rintro e y1 ⟨rfl, hb⟩; have KK1 : Hid (Below w2.heap.size w2 y1) := Lib.hid (KK0.out.trans (hb.mono KK0.out.size)); have k1 := CX.out _ KK1.out; clear hb
  refine hK.out _ _ ⟨KK1.out, k1⟩ (fun hHeld => ?_)
  clear hK K
  refine wpAnyH_ready (rs := [10]) (by kernel_rfl) (by simp) ?_
  refine AllReadyH.cons (o := ⟨some 24, _, _, _, _, _⟩) rfl (fun K hK => ?_) AllReadyH.nil
  (rw [if_pos (by kernel_rfl)])
  go_simp
  refine (HRPend.out _ KK1.out).mono ?_; rintro e y2 ⟨rfl, hb⟩; have KK2 : Hid (Below w2.heap.size w2 y2) := Lib.hid (KK1.out.trans (hb.mono KK1.out.size)); have k2 := CX.out _ KK2.out; clear hb
  refine hK.out _ _ ⟨KK2.out, k2⟩ (fun hHeld => ?_)
  clear hK K
  refine wpAnyH_take (i := 11) (oi := ⟨some 25, _, _, _, _, _⟩) (v := ?_) rfl (by kernel_rfl) (by kernel_rfl) (by kernel_rfl) (fun _ _ _ h => h) (Or.inl ⟨by kernel_rfl, ?hy11⟩) (by assumption) ?_
  case hy11 => (intro w' hSw; (try dsimp only at hSw); go_simp; try with_reducible rfl)
  simp only [Act.put, List.setIfInBounds_toArray, List.set_cons_zero, List.set_cons_succ]
  refine wpAnyH_take (i := 12) (oi := ⟨some 26, _, _, _, _, _⟩) (v := ?_) rfl (by kernel_rfl) (by kernel_rfl) (by kernel_rfl) (fun _ _ _ h => h) (Or.inl ⟨by kernel_rfl, ?hy12⟩) (by assumption) ?_
  case hy12 => (intro w' hSw; (try dsimp only at hSw); go_simp; try with_reducible rfl)
  simp only [Act.put, List.setIfInBounds_toArray, List.set_cons_zero, List.set_cons_succ]
  refine wpAnyH_take (i := 13) (oi := ⟨some 27, _, _, _, _, _⟩) (v := ?_) rfl (by kernel_rfl) (by kernel_rfl) (by kernel_rfl) (fun _ _ _ h => h) (Or.inl ⟨by kernel_rfl, ?hy13⟩) (by assumption) ?_
  case hy13 => (intro w' hSw; (try dsimp only at hSw); go_simp; try with_reducible rfl)
  simp only [Act.put, List.setIfInBounds_toArray, List.set_cons_zero, List.set_cons_succ]
  refine wpAnyH_take (i := 14) (oi := ⟨some 28, _, _, _, _, _⟩) (v := ?_) rfl (by kernel_rfl) (by kernel_rfl) (by kernel_rfl) (fun _ _ _ h => h) (Or.inl ⟨by kernel_rfl, ?hy14⟩) (by assumption) ?_
  case hy14 => (intro w' hSw; (try dsimp only at hSw); go_simp; try with_reducible rfl)
  simp only [Act.put, List.setIfInBounds_toArray, List.set_cons_zero, List.set_cons_succ]
  refine wpAnyH_take (i := 16) (oi := ⟨some 30, _, _, _, _, _⟩) (v := ?_) rfl (by kernel_rfl) (by kernel_rfl) (by kernel_rfl) (fun _ _ _ h => h) (Or.inl ⟨by kernel_rfl, ?hy16⟩) (by assumption) ?_
  case hy16 => (intro w' hSw; (try dsimp only at hSw); go_simp; try with_reducible rfl)
  simp only [Act.put, List.setIfInBounds_toArray, List.set_cons_zero, List.set_cons_succ]
  refine wpAnyH_take (i := 17) (oi := ⟨some 31, _, _, _, _, _⟩) (v := ?_) rfl (by kernel_rfl) (by kernel_rfl) (by kernel_rfl) (fun _ _ _ h => h) (Or.inl ⟨by kernel_rfl, ?hy17⟩) (by assumption) ?_
  case hy17 => (intro w' hSw; (try dsimp only at hSw); go_simp; try with_reducible rfl)
  simp only [Act.put, List.setIfInBounds_toArray, List.set_cons_zero, List.set_cons_succ]
  refine wpAnyH_ready (rs := [15]) (by kernel_rfl) (by simp) ?_
  refine AllReadyH.cons (o := ⟨some 29, _, _, _, _, _⟩) rfl (fun K hK => ?_) AllReadyH.nil
  (rw [if_pos (by kernel_rfl)])
  go_simp
  refine (HOps.out _ KK2.out).mono ?_; rintro e y3 ⟨rfl, hb⟩; have KK3 : Hid (Below w2.heap.size w2 y3) := Lib.hid (KK2.out.trans (hb.mono KK2.out.size)); have k3 := CX.out _ KK3.out; clear hb
  refine hK.out _ _ ⟨KK3.out, k3⟩ (fun hHeld => ?_)
  clear hK K
  refine wpAnyH_take (i := 18) (oi := ⟨some 32, _, _, _, _, _⟩) (v := ?_) rfl (by kernel_rfl) (by kernel_rfl) (by kernel_rfl) (fun _ _ _ h => h) (Or.inl ⟨by kernel_rfl, ?hy18⟩) (by assumption) ?_
  case hy18 => (intro w' hSw; (try dsimp only at hSw); go_simp; try with_reducible rfl)
  simp only [Act.put, List.setIfInBounds_toArray, List.set_cons_zero, List.set_cons_succ]
  refine wpAnyH_take (i := 19) (oi := ⟨some 33, _, _, _, _, _⟩) (v := ?_) rfl (by kernel_rfl) (by kernel_rfl) (by kernel_rfl) (fun _ _ _ h => h) (Or.inl ⟨by kernel_rfl, ?hy19⟩) (by assumption) ?_
  case hy19 => (intro w' hSw; (try dsimp only at hSw); go_simp; try with_reducible rfl)
  simp only [Act.put, List.setIfInBounds_toArray, List.set_cons_zero, List.set_cons_succ]
  refine wpAnyH_take (i := 20) (oi := ⟨some 34, _, _, _, _, _⟩) (v := ?_) rfl (by kernel_rfl) (by kernel_rfl) (by kernel_rfl) (fun _ _ _ h => h) (Or.inl ⟨by kernel_rfl, ?hy20⟩) (by assumption) ?_
  case hy20 => (intro w' hSw; (try dsimp only at hSw); go_simp; try with_reducible rfl)
  simp only [Act.put, List.setIfInBounds_toArray, List.set_cons_zero, List.set_cons_succ]
  refine wpAnyH_take (i := 21) (oi := ⟨some 35, _, _, _, _, _⟩) (v := ?_) rfl (by kernel_rfl) (by kernel_rfl) (by kernel_rfl) (fun _ _ _ h => h) (Or.inl ⟨by kernel_rfl, ?hy21⟩) (by assumption) ?_
  case hy21 => (intro w' hSw; (try dsimp only at hSw); go_simp; try with_reducible rfl)
  simp only [Act.put, List.setIfInBounds_toArray, List.set_cons_zero, List.set_cons_succ]
  refine wpAnyH_take (i := 23) (oi := ⟨some 37, _, _, _, _, _⟩) (v := ?_) rfl (by kernel_rfl) (by kernel_rfl) (by kernel_rfl) (fun _ _ _ h => h) (Or.inl ⟨by kernel_rfl, ?hy23⟩) (by assumption) ?_
  case hy23 => (intro w' hSw; (try dsimp only at hSw); go_simp; try with_reducible rfl)
  simp only [Act.put, List.setIfInBounds_toArray, List.set_cons_zero, List.set_cons_succ]
  refine wpAnyH_take (i := 24) (oi := ⟨some 38, _, _, _, _, _⟩) (v := ?_) rfl (by kernel_rfl) (by kernel_rfl) (by kernel_rfl) (fun _ _ _ h => h) (Or.inl ⟨by kernel_rfl, ?hy24⟩) (by assumption) ?_
  case hy24 => (intro w' hSw; (try dsimp only at hSw); go_simp; try with_reducible rfl)
  simp only [Act.put, List.setIfInBounds_toArray, List.set_cons_zero, List.set_cons_succ]
  refine wpAnyH_ready (rs := [22]) (by kernel_rfl) (by simp) ?_
  refine AllReadyH.cons (o := ⟨some 36, _, _, _, _, _⟩) rfl (fun K hK => ?_) AllReadyH.nil
  (rw [if_pos (by kernel_rfl)])
  go_simp
  refine (HDown.out _ KK3.out).mono ?_; rintro e y4 ⟨rfl, hb⟩; have KK4 : Hid (Below w2.heap.size w2 y4) := Lib.hid (KK3.out.trans (hb.mono KK3.out.size)); have k4 := CX.out _ KK4.out; clear hb
  refine hK.out _ _ ⟨KK4.out, k4⟩ (fun hHeld => ?_)
  clear hK K
  refine wpAnyH_take (i := 25) (oi := ⟨some 39, _, _, _, _, _⟩) (v := ?_) rfl (by kernel_rfl) (by kernel_rfl) (by kernel_rfl) (fun _ _ _ h => h) (Or.inl ⟨by kernel_rfl, ?hy25⟩) (by assumption) ?_
  case hy25 => (intro w' hSw; (try dsimp only at hSw); go_simp; try with_reducible rfl)
  simp only [Act.put, List.setIfInBounds_toArray, List.set_cons_zero, List.set_cons_succ]
  refine wpAnyH_take (i := 26) (oi := ⟨some 40, _, _, _, _, _⟩) (v := ?_) rfl (by kernel_rfl) (by kernel_rfl) (by kernel_rfl) (fun _ _ _ h => h) (Or.inl ⟨by kernel_rfl, ?hy26⟩) (by assumption) ?_
  case hy26 => (intro w' hSw; (try dsimp only at hSw); go_simp; try with_reducible rfl)
  simp only [Act.put, List.setIfInBounds_toArray, List.set_cons_zero, List.set_cons_succ]
  refine wpAnyH_done (by kernel_rfl) ?_ _
  obtain ⟨x0, _, _, _, _, _⟩ := k4
  have HB4 : Hid (Below w2.heap.size w2 y4) := KK4
  clear k0 k1 k2 k3 KK0 KK1 KK2 KK3 t1 t2 t3 t4 HPend HRPend HOps HDown KK4
  go_wp2_with fail
  go_loopw [44] (fun v44 wr => ∃ k : Nat, k ≤ vs.length ∧ v44 = .int .i64 (k : Int) ∧ Below w2.heap.size w2 wr) (fun v44 _ => vs.length - (intOf v44).toNat)
  case atStart => exact ⟨0, Nat.zero_le _, rfl, HB4.out⟩
  case round =>
    obtain ⟨k, hk, rfl, hbel⟩ := hrel
    by_cases hlt : k < vs.length
    · obtain ⟨f, hf⟩ : ∃ f, S.l[k]? = some f := ⟨_, List.getElem?_eq_getElem (by rw [← HLen.out]; exact hlt)⟩
      obtain ⟨g, o, q, rfl, hg, _, hfr, c0, c1, c2⟩ := file_of (HR2.out.below hbel) (all2_imp (fun _ _ h => FileR.below h hbel) HA2.out) hf
      obtain ⟨gn, on, rfl, _, hgn, hcn⟩ := (HOwn.out.below hbel) (by rw [List.length_map, ← HLen.out]; omega)
      have cn := hcn (k * 1 + 0) (.string f.name) (flat_get (C := nameC) (k := 1) (fun _ => rfl) (x := f.name) (by rw [List.getElem?_map, hf]; rfl) (j := 0) rfl)
      rw [Nat.mul_one, Nat.add_zero] at cn
      have hnm := hfr.name
      rw [hnm] at c0
      have hkk : (k : Int) < (vs.length : Int) := by omega
      have hlim : (vs.length : Int) ≤ 1000 := by have := HLen.out; have := HF.out.ok.few; omega
      have HBl := Lib.hid hbel
      have HRead : Hid (∀ W', Below w2.heap.size w2 W' → Calls Try.prog 18 #[fp b, .string f.name] W' fun e w' => ∃ u, e = .returned (.tuple #[u, .int .i64 (S.read f.name).2]) ∧ w'.ownsRow W'.heap.size 5 1 u (S.read f.name).1.length (Lib.byteCells (S.read f.name).1) ∧ Below W'.heap.size W' w') := Lib.hid (fun W' h => fread_calls W' O D b S (objFile.below HFAt.out h) HF.out f.name)
      have HRRead : Hid (∀ W', Below w2.heap.size w2 W' → Calls Try.prog 38 #[.agg #[.slice (some ⟨g, o, none⟩) vs.length c, .int .i64 (S.no : Int), .int .i64 (S.ops : Int), .int .i64 S.fuse, .int .i64 S.fault, .bool S.down], .string f.name] W' fun e w' => ∃ u, e = .returned (.tuple #[u, .int .i64 (S.read f.name).2]) ∧ w'.ownsRow W'.heap.size 5 1 u (S.read f.name).1.length (Lib.byteCells (S.read f.name).1) ∧ Below W'.heap.size W' w') := Lib.hid (fun W' h => rread10_calls W' Ds _ S f.name (HST2.out.below h) HF.out)
      have ba := (Below.refl _ wr).alloc (Nat.le_refl _) (.cells #[.string f.name, .slice q.A q.n q.c, .slice q.R q.rn q.rc] 50)
      have HXX := Lib.hid (BxA.new wr 50 [.string f.name, .slice q.A q.n q.c, .slice q.R q.rn q.rc])
      have HBa : Hid (Below w2.heap.size w2 (wr.alloc (.cells #[.string f.name, .slice q.A q.n q.c, .slice q.R q.rn q.rc] 50))) := Lib.hid (HBl.out.trans (ba.mono HBl.out.size))
      have Hcn := Lib.hid ((ba.cell (p := ⟨gn, on + k, none⟩) hgn).trans cn)
      have hgn2 : Hid (gn < (wr.alloc (.cells #[.string f.name, .slice q.A q.n q.c, .slice q.R q.rn q.rc] 50)).heap.size) := Lib.hid (Nat.lt_of_lt_of_le hgn ba.size)
      clear hfr hcn hnm hf hbel ba cn
      go_wp2_with fail
      generalize S.read f.name = rz at *
      obtain ⟨l, z⟩ := rz
      simp only at HRead HRRead
      refine (HRead.out _ HBa.out).mono ?_
      rintro e w5 ⟨u5, rfl, hown5, hb5⟩
      obtain ⟨A5, n5, rfl⟩ := own_form hown5
      have HL5 := Lib.hid (byt_of_own hown5).1
      have HB5 : Hid (Below w2.heap.size w2 w5) := Lib.hid (HBa.out.trans (hb5.mono HBa.out.size))
      have Hcn5 := Lib.hid ((hb5.cell (p := ⟨gn, on + k, none⟩) hgn2.out).trans Hcn.out)
      have HX5 := Lib.hid (HXX.out.below hb5)
      have hgn5 : Hid (gn < w5.heap.size) := Lib.hid (Nat.lt_of_lt_of_le hgn2.out hb5.size)
      obtain ⟨d0, d1, d2, d3, d4, d5⟩ := CX.out _ HB5.out
      have xx := HX5.out.c 0 rfl
      clear hown5 hb5 HBa HXX Hcn hgn2 HRead x0 c0 c1 c2
      go_wp2_with fail
      refine (HRRead.out _ HB5.out).mono ?_
      rintro e w6 ⟨u6, rfl, hown6, hb6⟩
      obtain ⟨A6, n6, rfl⟩ := own_form hown6
      have HL6 := Lib.hid (byt_of_own hown6).1
      have HL56 := Lib.hid (HL5.out.below hb6)
      have HB6 : Hid (Below w2.heap.size w2 w6) := Lib.hid (HB5.out.trans (hb6.mono HB5.out.size))
      have cn6 := (hb6.cell (p := ⟨gn, on + k, none⟩) hgn5.out).trans Hcn5.out
      have hgn6 : Hid (gn < w6.heap.size) := Lib.hid (Nat.lt_of_lt_of_le hgn5.out hb6.size)
      have hxn6 : Hid (wr.heap.size < w6.heap.size) := Lib.hid (HX5.out.below hb6).lt
      have xx6 := (HX5.out.below hb6).c 0 rfl
      clear hown6 hb6 HRRead d0 d1 d2 d3 d4 d5 xx HL5 Hcn5 HX5
      have t1 : (f.name.toList != f.name.toList) = false := bne_self_eq_false _
      have t2 : (z != z) = false := bne_self_eq_false _
      have JJ0 : Hid (Below w6.heap.size w6 w6.drew) := Lib.hid (Below.refl _ w6).drew
      have HBq := Lib.hid (beq_calls A5 A6 n5 n6 l l w6.drew (HL56.out.below JJ0.out) (HL6.out.below JJ0.out))
      rw [decide_eq_true rfl] at HBq
      go_upto_region 9 with fail
      refine wp_region_held_drew (S := (fun w' => Below w6.heap.size w6 w' ∧ w'.cell? ⟨gn, on + k, none⟩ = some (.string f.name) ∧ w'.cell? ⟨wr.heap.size, 0, none⟩ = some (.string f.name))) (by kernel_rfl) ⟨JJ0.out, cn6, xx6⟩ (fun hHeld => ?_)
      refine wpAnyH_take (i := 0) (oi := ⟨some 63, _, _, _, _, _⟩) (v := ?_) rfl (by kernel_rfl) (by kernel_rfl) (by kernel_rfl) (fun _ _ _ h => h) (Or.inl ⟨by kernel_rfl, ?hy0⟩) (by assumption) ?_
      case hy0 => (intro w' hSw; (try dsimp only at hSw); go_simp; try with_reducible rfl)
      simp only [Act.put, List.setIfInBounds_toArray, List.set_cons_zero, List.set_cons_succ]
      refine wpAnyH_take (i := 1) (oi := ⟨some 64, _, _, _, _, _⟩) (v := ?_) rfl (by kernel_rfl) (by kernel_rfl) (by kernel_rfl) (fun _ _ _ h => h) (Or.inl ⟨by kernel_rfl, ?hy1⟩) (by assumption) ?_
      case hy1 => (intro w' hSw; (try dsimp only at hSw); go_simp; try with_reducible rfl)
      simp only [Act.put, List.setIfInBounds_toArray, List.set_cons_zero, List.set_cons_succ]
      refine wpAnyH_take (i := 2) (oi := ⟨some 65, _, _, _, _, _⟩) (v := ?_) rfl (by kernel_rfl) (by kernel_rfl) (by kernel_rfl) (fun _ _ _ h => h) (Or.inl ⟨by kernel_rfl, ?hy2⟩) (by assumption) ?_
      case hy2 => (intro w' hSw; (try dsimp only at hSw); go_simp; try with_reducible rfl)
      simp only [Act.put, List.setIfInBounds_toArray, List.set_cons_zero, List.set_cons_succ]
      refine wpAnyH_take (i := 3) (oi := ⟨some 66, _, _, _, _, _⟩) (v := ?_) rfl (by kernel_rfl) (by kernel_rfl) (by kernel_rfl) (fun _ _ _ h => h) (Or.inl ⟨by kernel_rfl, ?hy3⟩) (by assumption) ?_
      case hy3 => (intro w' hSw; (try dsimp only at hSw); go_simp; try with_reducible rfl)
      simp only [Act.put, List.setIfInBounds_toArray, List.set_cons_zero, List.set_cons_succ]
      refine wpAnyH_take (i := 4) (oi := ⟨some 67, _, _, _, _, _⟩) (v := ?_) rfl (by kernel_rfl) (by kernel_rfl) (by kernel_rfl) (fun _ _ _ h => h) (Or.inl ⟨by kernel_rfl, ?hy4⟩) (by assumption) ?_
      case hy4 => (intro w' hSw; (try dsimp only at hSw); go_simp; try with_reducible rfl)
      simp only [Act.put, List.setIfInBounds_toArray, List.set_cons_zero, List.set_cons_succ]
      refine wpAnyH_take (i := 5) (oi := ⟨some 68, _, _, _, _, _⟩) (v := ?_) rfl (by kernel_rfl) (by kernel_rfl) (by kernel_rfl) (fun _ _ _ h => h) (Or.inl ⟨by kernel_rfl, ?hy5⟩) (by assumption) ?_
      case hy5 => (intro w' hSw; (try dsimp only at hSw); go_simp; try with_reducible rfl)
      simp only [Act.put, List.setIfInBounds_toArray, List.set_cons_zero, List.set_cons_succ]
      refine wpAnyH_take (i := 6) (oi := ⟨some 69, _, _, _, _, _⟩) (v := ?_) rfl (by kernel_rfl) (by kernel_rfl) (by kernel_rfl) (fun _ _ _ h => h) (Or.inl ⟨by kernel_rfl, ?hy6⟩) (by assumption) ?_
      case hy6 => (intro w' hSw; (try dsimp only at hSw); go_simp; try with_reducible rfl)
      simp only [Act.put, List.setIfInBounds_toArray, List.set_cons_zero, List.set_cons_succ]
      refine wpAnyH_take (i := 7) (oi := ⟨some 70, _, _, _, _, _⟩) (v := ?_) rfl (by kernel_rfl) (by kernel_rfl) (by kernel_rfl) (fun _ _ _ h => h) (Or.inl ⟨by kernel_rfl, ?hy7⟩) (by assumption) ?_
      case hy7 => (intro w' hSw; (try dsimp only at hSw); go_simp; try with_reducible rfl)
      simp only [Act.put, List.setIfInBounds_toArray, List.set_cons_zero, List.set_cons_succ]
      refine wpAnyH_take (i := 8) (oi := ⟨some 71, _, _, _, _, _⟩) (v := ?_) rfl (by kernel_rfl) (by kernel_rfl) (by kernel_rfl) (fun _ _ _ h => h) (Or.inl ⟨by kernel_rfl, ?hy8⟩) (by assumption) ?_
      case hy8 => (intro w' hSw; (try dsimp only at hSw); go_simp; try with_reducible rfl)
      simp only [Act.put, List.setIfInBounds_toArray, List.set_cons_zero, List.set_cons_succ]
      refine wpAnyH_take (i := 9) (oi := ⟨some 72, _, _, _, _, _⟩) (v := ?_) rfl (by kernel_rfl) (by kernel_rfl) (by kernel_rfl) (fun _ _ _ h => h) (Or.inl ⟨by kernel_rfl, ?hy9⟩) (by assumption) ?_
      case hy9 => (intro w' hSw; (try dsimp only at hSw); go_simp; try with_reducible rfl)
      simp only [Act.put, List.setIfInBounds_toArray, List.set_cons_zero, List.set_cons_succ]
      refine wpAnyH_take (i := 10) (oi := ⟨some 73, _, _, _, _, _⟩) (v := ?_) rfl (by kernel_rfl) (by kernel_rfl) (by kernel_rfl) (fun _ _ _ h => h) (Or.inl ⟨by kernel_rfl, ?hy10⟩) (by assumption) ?_
      case hy10 => (intro w' hSw; (try dsimp only at hSw); go_simp; try with_reducible rfl)
      simp only [Act.put, List.setIfInBounds_toArray, List.set_cons_zero, List.set_cons_succ]
      refine wpAnyH_take (i := 11) (oi := ⟨some 74, _, _, _, _, _⟩) (v := ?_) rfl (by kernel_rfl) (by kernel_rfl) (by kernel_rfl) (fun _ _ _ h => h) (Or.inl ⟨by kernel_rfl, ?hy11⟩) (by assumption) ?_
      case hy11 => (intro w' hSw; (try dsimp only at hSw); go_simp; try with_reducible rfl)
      simp only [Act.put, List.setIfInBounds_toArray, List.set_cons_zero, List.set_cons_succ]
      refine wpAnyH_take (i := 12) (oi := ⟨some 75, _, _, _, _, _⟩) (v := ?_) rfl (by kernel_rfl) (by kernel_rfl) (by kernel_rfl) (fun _ _ _ h => h) (Or.inl ⟨by kernel_rfl, ?hy12⟩) (by assumption) ?_
      case hy12 => (intro w' hSw; (try dsimp only at hSw); go_simp; try with_reducible rfl)
      simp only [Act.put, List.setIfInBounds_toArray, List.set_cons_zero, List.set_cons_succ]
      refine wpAnyH_take (i := 13) (oi := ⟨some 76, _, _, _, _, _⟩) (v := ?_) rfl (by kernel_rfl) (by kernel_rfl) (by kernel_rfl) (fun _ _ _ h => h) (Or.inl ⟨by kernel_rfl, ?hy13⟩) (by assumption) ?_
      case hy13 => (intro w' hSw; (try dsimp only at hSw); go_simp; try with_reducible rfl)
      simp only [Act.put, List.setIfInBounds_toArray, List.set_cons_zero, List.set_cons_succ]
      refine wpAnyH_take (i := 14) (oi := ⟨some 77, _, _, _, _, _⟩) (v := ?_) rfl (by kernel_rfl) (by kernel_rfl) (by kernel_rfl) (fun _ _ _ h => h) (Or.inl ⟨by kernel_rfl, ?hy14⟩) (by assumption) ?_
      case hy14 => (intro w' hSw; (try dsimp only at hSw); go_simp; try with_reducible rfl)
      simp only [Act.put, List.setIfInBounds_toArray, List.set_cons_zero, List.set_cons_succ]
      refine wpAnyH_ready (rs := [15]) (by kernel_rfl) (by simp) ?_
      refine AllReadyH.cons (o := ⟨some 78, _, _, _, _, _⟩) rfl (fun K hK => ?_) AllReadyH.nil
      (rw [if_pos (by kernel_rfl)])
      go_simp
      refine HBq.out.mono ?_; rintro e w7 ⟨rfl, hb7⟩; have HB7 : Hid (Below w2.heap.size w2 w7) := Lib.hid (HB6.out.trans ((JJ0.out.trans (hb7.mono JJ0.out.size)).mono HB6.out.size)); have hw7 := JJ0.out.trans (hb7.mono JJ0.out.size); have cn7 := (hw7.cell (p := ⟨gn, on + k, none⟩) hgn6.out).trans cn6; have xx7 := (hw7.cell (p := ⟨wr.heap.size, 0, none⟩) hxn6.out).trans xx6
      refine hK.out _ _ ⟨hw7, cn7, xx7⟩ (fun hHeld => ?_)
      clear hK K
      refine wpAnyH_take (i := 16) (oi := ⟨some 79, _, _, _, _, _⟩) (v := ?_) rfl (by kernel_rfl) (by kernel_rfl) (by kernel_rfl) (fun _ _ _ h => h) (Or.inl ⟨by kernel_rfl, ?hy16⟩) (by assumption) ?_
      case hy16 => (intro w' hSw; (try dsimp only at hSw); go_simp; try with_reducible rfl)
      simp only [Act.put, List.setIfInBounds_toArray, List.set_cons_zero, List.set_cons_succ]
      refine wpAnyH_take (i := 17) (oi := ⟨some 80, _, _, _, _, _⟩) (v := ?_) rfl (by kernel_rfl) (by kernel_rfl) (by kernel_rfl) (fun _ _ _ h => h) (Or.inl ⟨by kernel_rfl, ?hy17⟩) (by assumption) ?_
      case hy17 => (intro w' hSw; (try dsimp only at hSw); go_simp; try with_reducible rfl)
      simp only [Act.put, List.setIfInBounds_toArray, List.set_cons_zero, List.set_cons_succ]
      refine wpAnyH_done (by kernel_rfl) ?_ _
      go_wp2_with fail
      go_roundw
      case rel => exact ⟨k + 1, by omega, by go_num, HB7.out⟩
      case measure => simp [intOf]; omega
    · obtain rfl : k = vs.length := by omega
      have hbb := Lib.hid (hW2.out.trans (hbel.mono hW2.out.size))
      clear hbel
      go_wp2_with fail
      go_ret
      exact ⟨rfl, hbb.out⟩
end
end Go.Proofs.Ytaeiffpdnlejbaa
