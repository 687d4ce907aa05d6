/-
  Layer 7 and what it stands on, part 39 (JnWrite JnTurn JnOpenC JnComp JnCompact JnOpen JRows JAt JnOpenN JAlive).
-/
import Derived.Test.YteafcaambnfdoaaGreatDoorPq28
import Derived.Test.YteafcaambnfdoaaGreatDoorPq38
import Derived.BigRegion
namespace Go.Proofs.YteafcaambnfdoaaGreatDoor
section
open Go Go.RowKit
open Go.Lib (hid)
set_option maxRecDepth 100000
theorem at_write {k : Nat} {S : FS} (h : S.At k) (n : ByteArray) (e : EnJ) : (appendJ S n e).1.At (k + 1) := by
 unfold appendJ
 split
 ·exact h.write n _
 ·exact h.mono (Nat.le_succ k)
section
variable (w0 w : World) (X Y : Nat → Prop) (b : Nat) (S : FS) (jb : Nat) (n : ByteArray) (h : JX w0 w X Y b S jb n) (hS : S.Fit) (ht : LaysR w0)
include h hS ht
set_option maxHeartbeats 2000000 in
theorem jwrite12_calls (m : ByteArray) (e : EnJ) : Calls Tryz.prog 57 #[.pointer (some ⟨jb, 0, none⟩), .string m, .agg (enC e).toArray] w fun x w' => x = .returned (.int .i64 (appendJ S m e).2) ∧ JX w0 w' X Y b (appendJ S m e).1 jb n ∧ Only (fun k => ¬ X k) w w' := by
 obtain ⟨t, d, c⟩ := e
 have hj0 := JG.start h
 have hbA := (Below.refl _ w).alloc (Nat.le_refl _) (.cells (enC ⟨t, d, c⟩).toArray 56)
 have hx := BxA.new w 56 (enC ⟨t, d, c⟩)
 have HXs := hid h.xs
 go_enter Tryz.func57, Tryz.ntmps57
 obtain ⟨W, hW⟩ : ∃ W, w.alloc (.cells (enC ⟨t, d, c⟩).toArray 56) = W := ⟨_, rfl⟩
 rw [hW] at hbA hx
 have HJ1 := hid (hj0.below hbA)
 have x0 := hx.c 0 rfl
 have x1 := hx.c 1 rfl
 have x2 := hx.c 2 rfl
 clear hj0 hx h hbA
 simp only at x0 x1 x2
 by_cases he : rightJ ⟨t, d, c⟩
 ·have HP := hid (jpack12_calls _ he W (ht.on HJ1.out.bel))
  have HE : Hid (appendJ S m ⟨t, d, c⟩ = S.write m (recJ ⟨t, d, c⟩)) := hid (if_pos he)
  have HLn : Hid ((recJ ⟨t, d, c⟩).length ≤ 1000000) := hid (Nat.le_trans (recJ_le he) (by decide))
  clear he
  generalize recJ ⟨t, d, c⟩ = rc at *
  go_wp2_with fail
  refine HP.out.mono ?_
  rintro e w1 ⟨A1, c1, rfl, hown1, hb1⟩
  have HJ2 := hid (HJ1.out.below hb1)
  have HBy := hid (byR_of_own (D := XN (XN X w W) W w1) hown1 (fun g hg => .inr (hown1.lt g hg)))
  have HNo := hid (own_none hown1)
  obtain ⟨k0, k1⟩ := HJ2.out.cells
  clear hown1 hb1 HP x0 x1 x2
  go_wp2_with fail
  refine (HJ2.out.jx.fx.step (S2 := (S.write m rc).1) (fun O D hh hXO => fwrite_calls _ O D b S hh hS m A1 c1 rc (HBy.out.mono fun k hk => (hXO k hk).2) HNo.out HLn.out)).mono ?_
  rintro e w2 ⟨rfl, hf2, ho2⟩
  have HJ3 := hid (HJ2.out.step hf2 ho2)
  clear hf2 ho2
  go_wp2_with fail
  go_ret
  rw [HE.out]
  exact ⟨rfl, HJ3.out.fin HXs.out⟩
 ·have HP := hid (jpack12_not _ he W)
  have HE : Hid (appendJ S m ⟨t, d, c⟩ = (S, 120)) := hid (if_neg he)
  clear he
  go_wp2_with fail
  refine HP.out.mono ?_
  rintro e w1 ⟨rfl, hb1⟩
  have HJ2 := hid (HJ1.out.below hb1)
  clear hb1 HP
  go_wp2_with fail
  go_ret
  rw [HE.out]
  exact ⟨rfl, HJ2.out.fin HXs.out⟩
set_option maxHeartbeats 2000000 in
theorem jappend12_calls (e : EnJ) : Calls Tryz.prog 19 #[.pointer (some ⟨jb, 0, none⟩), .agg (enC e).toArray] w fun x w' => x = .returned (.int .i64 (appendJ S n e).2) ∧ JX w0 w' X Y b (appendJ S n e).1 jb n ∧ Only (fun k => ¬ X k) w w' := by
 obtain ⟨t, d, c⟩ := e
 have hj0 := JG.start h
 have hbA : Below w.heap.size w (w.alloc (.cells (enC ⟨t, d, c⟩).toArray 56)).drew := ((Below.refl _ w).alloc (Nat.le_refl _) _).drew
 have hx := (BxA.new w 56 (enC ⟨t, d, c⟩)).below (Below.refl _ _).drew
 have HXs := hid h.xs
 have HJ1 := hid (hj0.below hbA)
 have HXB := hid hx
 have HXi : Hid (XN X w (w.alloc (.cells (enC ⟨t, d, c⟩).toArray 56)).drew w.heap.size) := hid (XN.new (by show w.heap.size < (w.alloc _).heap.size; simp))
 have KK1 := And.intro HJ1.out.cells.1 (And.intro HJ1.out.cells.2 hx.three)
 simp only at KK1
 clear hj0 hx h hbA
 go_enter Tryz.func19, Tryz.ntmps19
 go_upto_region 1 with fail
 refine wp_region_held_drew (S := (fun w' => w'.cell? ⟨jb, 0, none⟩ = some (fp b) ∧ w'.cell? ⟨jb, 1, none⟩ = some (.string n) ∧ w'.cell? ⟨w.heap.size, 0, none⟩ = some (.int .i64 t) ∧ w'.cell? ⟨w.heap.size, 1, none⟩ = some (.string (bs d)) ∧ w'.cell? ⟨w.heap.size, 2, none⟩ = some (.string (bs c)))) (by kernel_rfl) KK1 (fun hHeld => ?_)
 refine tkH 0 ?_
 refine tkH 1 ?_
 refine tkH 2 ?_
 refine tkH 3 ?_
 refine tkH 4 ?_
 refine tkH 5 ?_
 refine rdH 6 fun K hK => ?_
 go_simp
 refine (jwrite12_calls w0 _ _ _ b S jb n HJ1.out.jx hS ht n ⟨t, d, c⟩).mono ?_; rintro e y2 ⟨rfl, hj2, ho2⟩; have HJ2 := hid (HJ1.out.jump hj2 ho2); have KK2 := And.intro HJ2.out.cells.1 (And.intro HJ2.out.cells.2 ((HXB.out.keep ho2 (fun hn => hn HXi.out)).three)); clear hj2 ho2
 refine hK.out _ _ KK2 (fun hHeld => ?_)
 clear hK K
 refine tkH 7 ?_
 refine wpAnyH_done (by kernel_rfl) ?_ _
 go_wp2_with fail
 go_ret
 exact ⟨rfl, HJ2.out.fin HXs.out⟩
set_option maxHeartbeats 2000000 in
theorem jread12_calls : Calls Tryz.prog 29 #[.pointer (some ⟨jb, 0, none⟩)] w fun e w' => ∃ A c, e = .returned (.tuple #[.slice A (readJs S n).1.length c, .int .i64 (readJs S n).2]) ∧ w'.ownsRow w.heap.size 56 3 (.slice A (readJs S n).1.length c) (readJs S n).1.length ((readJs S n).1.flatMap enC) ∧ Below w.heap.size w w' := by
 have HB := hid (jbytes12_calls w0 w X Y b S jb n h hS)
 have HR1 : Hid ((entriesJ (S.read n).1).1 = (readJs S n).1) := hid (congrArg Prod.fst (readC_is S n))
 have HR2 : Hid ((if (S.read n).2 = 101 then (0 : Int) else (S.read n).2) = (readJs S n).2) := hid (congrArg Prod.snd (readC_is S n))
 rw [HR2.out] at HB
 have HLn := hid (read_len hS.ok n)
 have HT : Hid (LaysR w) := hid (ht.on h.fx.bel)
 clear h hS ht
 generalize (S.read n).1 = rb at *
 generalize (readJs S n).1 = rl at *
 generalize (readJs S n).2 = rz at *
 clear HR2
 go_enter Tryz.func29, Tryz.ntmps29
 go_wp2_with fail
 refine HB.out.mono ?_
 rintro e w1 ⟨A1, c1, rfl, hown1, hb1⟩
 have HB1 := hid hb1
 have HEn := hid (jents12_calls A1 c1 rb w1 (byt_of_own hown1).1 (own_none hown1) (byt_of_own hown1).2.2.1 (by have := HLn.out; omega) (HT.out.on hb1))
 rw [HR1.out] at HEn
 clear hown1 hb1 HB HLn
 go_wp2_with fail
 refine HEn.out.mono ?_
 rintro e w2 ⟨A2, c2, rfl, hown2, hb2⟩
 have HB2 := hid (HB1.out.trans (hb2.mono HB1.out.size))
 have HO2 := hid (own_less hown2 HB1.out.size)
 clear hown2 hb2 HEn
 go_wp2_with fail
 go_ret2
 exact ⟨A2, c2, rfl, HO2.out, HB2.out⟩
end
end
section
open Go Go.RowKit
open Go.Lib (hid)
set_option maxRecDepth 100000
abbrev fnC (x : Nat × Array Value) : List Value := [.func (.func x.1) #[] x.2]
set_option maxHeartbeats 2000000 in
theorem jturn12_calls (w : World) (A : Option Addr) (c : Nat) (fs : List (Nat × Array Value)) (D : Nat → Prop) (P : Nat → World → Prop) (Q : Int → World → Prop) (hl : fs.length ≤ 1000)
  (hP : ∀ i W, P i W → RowT fnC W D A fs) (eg : ∀ x ∈ fs, ∀ args W, (callFunc x.1 args).run Tryz.prog W = .ok (.enter x.1 args) W)
  (hf : ∀ i x, fs[i]? = some x → ∀ W, P i W → Calls Tryz.prog x.1 x.2 W fun e W' => ∃ z, e = .returned (.int .i64 z) ∧ (z = 0 → P (i + 1) W') ∧ (z ≠ 0 → Q z W')) (h0 : P 0 w) :
  Calls Tryz.prog 43 #[.slice A fs.length c] w fun e w' => ∃ z, e = .returned (.int .i64 z) ∧ (z = 0 → P fs.length w') ∧ (z ≠ 0 → Q z w') := by
 have HP := hid hP
 have HEg := hid eg
 have HF := hid hf
 have H0 := hid h0
 clear hP eg hf h0
 go_enter Tryz.func43, Tryz.ntmps43
 go_wp2_with fail
 go_loopw [8] (fun v8 wr => ∃ k : Nat, k ≤ fs.length ∧ v8 = .int .i64 (k : Int) ∧ Hid (P k wr)) (fun v8 _ => fs.length - (intOf v8).toNat)
 case atStart => exact ⟨0, Nat.zero_le _, rfl, H0⟩
 case round =>
  obtain ⟨k, hk, rfl, HPk⟩ := hrel
  by_cases hlt : k < fs.length
  ·have hkl : (k : Int) < (fs.length : Int) := by omega
   have hq : fs[k]? = some fs[k] := List.getElem?_eq_getElem hlt
   have HC := hid (HF.out k _ hq wr HPk.out)
   have eg := HEg.out _ (List.getElem_mem hlt)
   obtain ⟨g, o, rfl, _, hg, hc⟩ := HP.out k wr HPk.out (by omega)
   have c0 := hc (k * 1 + 0) _ (flat_get (C := fnC) (k := 1) (fun _ => rfl) hq (j := 0) rfl)
   rw [Nat.mul_one, Nat.add_zero] at c0
   clear hc hq HPk
   generalize fs[k] = x at *
   obtain ⟨kf, cap⟩ := x
   simp only at c0 HC eg
   go_wp2_with fail
   refine HC.out.mono ?_
   rintro e w1 ⟨z, rfl, hz0, hz1⟩
   have HZ0 := hid hz0
   have HZ1 := hid hz1
   clear hz0 hz1 HC c0 eg
   by_cases hz : z = 0
   ·subst hz
    go_wp2_with fail
    go_roundw
    case rel => exact ⟨k + 1, by omega, by go_num, hid (HZ0.out (by trivial))⟩
    case measure => simp [intOf]; omega
   ·have q : (z != 0) = true := bne_iff_ne.2 hz
    have HZ := hid hz
    clear hz
    go_wp2_with fail
    go_ret
    exact ⟨z, rfl, fun h => absurd h HZ.out, HZ1.out⟩
  ·obtain rfl : k = fs.length := by omega
   go_wp2_with fail
   go_ret
   exact ⟨0, rfl, fun _ => HPk.out, fun h => absurd rfl h⟩
theorem stepsJ_one (f : FS → FS × Int) (S : FS) : stepsJ [f] S = f S := by
 show (if (f S).2 = 0 then ((f S).1, 0) else f S) = f S
 split
 ·rename_i h; exact Prod.ext rfl h.symm
 ·rfl
theorem at_writes (n : ByteArray) : ∀ (xs : List (List UInt8)) {S : FS} {k : Nat}, S.At k → (stepsJ (writesJ n xs) S).1.At (k + xs.length)
 | [], _, _, h => h
 | x :: r, S, k, h => by
  have h1 := h.write (otJ n) x
  show (if (S.write (otJ n) x).2 = 0 then stepsJ (writesJ n r) (S.write (otJ n) x).1 else S.write (otJ n) x).1.At _
  split
  ·have := at_writes n r h1
   rw [List.length_cons, show k + (r.length + 1) = k + 1 + r.length by omega]
   exact this
  ·exact h1.mono (by rw [List.length_cons]; omega)
set_option maxHeartbeats 4000000 in
theorem jwriteo12_calls (w0 w : World) (X Y : Nat → Prop) (b : Nat) (S : FS) (jb : Nat) (n : ByteArray) (h : JX w0 w X Y b S jb n) (m : Nat) (hA : S.At m) (hn : n.size ≤ 1000) (ht : LaysR w0) (LA : Option Addr) (lc : Nat) (l : List EnJ) (hrow : RowT enC w X LA l) (hr : ∀ e ∈ l, rightJ e) (hm : m + l.length + 1 ≤ 100000) :
  Calls Tryz.prog 62 #[.pointer (some ⟨jb, 0, none⟩), .slice LA l.length lc] w fun x w' => x = .returned (.int .i64 (stepsJ (writesJ n (bodiesJ l)) S).2) ∧ JX w0 w' X Y b (stepsJ (writesJ n (bodiesJ l)) S).1 jb n ∧ Only (fun k => ¬ X k) w w' := by
 have hj00 := JG.start h
 have HXs := hid h.xs
 by_cases h0 : l = []
 ·subst h0
  have HF := hid (hA.fit (by omega))
  have HE : Hid (stepsJ (writesJ n (bodiesJ [])) S = S.write (otJ n) []) := hid (stepsJ_one (fun S => S.write (otJ n) []) S)
  have HJ0 := hid (hj00.below (Below.refl _ w).drew)
  have KK0 := HJ0.out.cells
  rw [HE.out]
  clear h hA hrow hr hm hj00
  go_enter Tryz.func62, Tryz.ntmps62
  go_upto_region 2 with fail
  refine wp_region_held_drew (S := (fun w' => w'.cell? ⟨jb, 0, none⟩ = some (fp b) ∧ w'.cell? ⟨jb, 1, none⟩ = some (.string n))) (by kernel_rfl) KK0 (fun hHeld => ?_)
  refine tkH 0 ?_
  refine tkH 1 ?_
  refine tkH 2 ?_
  refine tkH 3 ?_
  refine tkH 4 ?_
  refine rdH 5 fun K hK => ?_
  go_simp
  refine (jother12_calls _ b jb n HJ0.out.jx.box hn).mono ?_; rintro e y1 ⟨rfl, hb1⟩; have HJ1 := hid (HJ0.out.below hb1); have KK1 := HJ1.out.cells; clear hb1
  refine hK.out _ _ KK1 (fun hHeld => ?_)
  clear hK K
  refine rdH 6 fun K hK => ?_
  go_simp
  refine (HJ1.out.jx.fx.step (S2 := (S.write (otJ n) []).1) (fun O D hh _ => fwrite_calls _ O D b S hh HF.out (otJ n) none 0 [] (fun h => absurd h (by simp)) (fun _ => rfl) (by decide))).mono ?_; rintro e y2 ⟨rfl, hf2, ho2⟩; have HJ2 := hid (HJ1.out.step hf2 ho2); have KK2 := HJ2.out.cells; clear hf2 ho2
  refine hK.out _ _ KK2 (fun hHeld => ?_)
  clear hK K
  refine tkH 7 ?_
  refine wpAnyH_done (by kernel_rfl) ?_ _
  go_wp2_with fail
  go_ret
  exact ⟨rfl, HJ2.out.fin HXs.out⟩
 ·have hB : bodiesJ l = l.map recJ := by unfold bodiesJ; rw [if_neg h0]
  have hlp : 0 < l.length := List.length_pos_iff.2 h0
  have q0 : ((l.length : Int) == 0) = false := beq_eq_false_iff_ne.2 (by omega)
  rw [hB]
  have HRow := hid hrow
  have HR := hid hr
  have HA := hid hA
  have HJ00 := hid hj00
  obtain ⟨res, hres⟩ : ∃ res, res = stepsJ (writesJ n (l.map recJ)) S := ⟨_, rfl⟩
  rw [← hres]
  have HRes := hid hres
  clear h hA hrow hr hj00 h0 hB hres
  go_enter Tryz.func62, Tryz.ntmps62
  go_wp2_with fail
  go_loopw [20] (fun v20 wr => ∃ k : Nat, k ≤ l.length ∧ v20 = .int .i64 (k : Int) ∧ Hid ((stepsJ (writesJ n ((l.map recJ).take k)) S).2 = 0) ∧ Hid (∃ X2 Y2, JG w0 w X Y b jb n wr X2 Y2 (stepsJ (writesJ n ((l.map recJ).take k)) S).1)) (fun v20 _ => l.length - (intOf v20).toNat)
  case atStart => exact ⟨0, Nat.zero_le _, rfl, hid rfl, hid ⟨X, Y, HJ00.out⟩⟩
  case round =>
  obtain ⟨k, hk, rfl, HZk, HJk⟩ := hrel
  by_cases hlt : k < l.length
  ·have hkl : (k : Int) < (l.length : Int) := by omega
   have hq : l[k]? = some l[k] := List.getElem?_eq_getElem hlt
   obtain ⟨X2, Y2, hjk⟩ := HJk.out
   have HX2 := hid hjk.hx
   have HRe := hid (HR.out _ (List.getElem_mem hlt))
   have hwr : writesJ n ((l.map recJ).take (k + 1)) = writesJ n ((l.map recJ).take k) ++ [fun S => S.write (otJ n) (recJ l[k])] := by
    unfold writesJ
    rw [List.take_succ_eq_append_getElem (by rw [List.length_map]; exact hlt), List.map_append, List.getElem_map]
    rfl
   have hall : writesJ n (l.map recJ) = writesJ n ((l.map recJ).take (k + 1)) ++ writesJ n ((l.map recJ).drop (k + 1)) := by
    unfold writesJ
    rw [← List.map_append, List.take_append_drop]
   have hsn := stepsJ_is (writesJ n ((l.map recJ).take k)) (fun S => S.write (otJ n) (recJ l[k])) S HZk.out
   rw [← hwr] at hsn
   have HFk := hid ((at_writes n ((l.map recJ).take k) HA.out).fit (by rw [List.length_take]; omega))
   have HEnd : Hid ((stepsJ (writesJ n ((l.map recJ).take (k + 1))) S).2 ≠ 0 → res = stepsJ (writesJ n ((l.map recJ).take (k + 1))) S) := hid (fun hz => by
    rw [HRes.out, hall, stepsJ_stop _ _ _ hz])
   have HSn := hid hsn
   obtain ⟨g, o, rfl, _, hg, c0, c1, c2⟩ := en_at (HRow.out.keep hjk.only (fun _ hi hn => hn hi)) hq
   have HHk := hid hjk
   clear hq hwr hall hsn hjk HJk
   generalize hsk : (stepsJ (writesJ n ((l.map recJ).take k)) S).1 = Sk at *
   clear hsk
   generalize l[k] = e at *
   obtain ⟨et, ed, ec⟩ := e
   simp only at c0 c1 c2
   have hbA : Below wr.heap.size wr (wr.alloc (.cells (enC ⟨et, ed, ec⟩).toArray 56)).drew := ((Below.refl _ wr).alloc (Nat.le_refl _) _).drew
   have hx := (BxA.new wr 56 (enC ⟨et, ed, ec⟩)).below (Below.refl _ _).drew
   have HJ0 := hid (HHk.out.below hbA)
   have HXB := hid hx
   have HXi : Hid (XN X2 wr (wr.alloc (.cells (enC ⟨et, ed, ec⟩).toArray 56)).drew wr.heap.size) := hid (XN.new (by show wr.heap.size < (wr.alloc _).heap.size; simp))
   have KK0 := And.intro HJ0.out.cells.1 (And.intro HJ0.out.cells.2 hx.three)
   simp only at KK0
   have HW : Hid (appendJ Sk (otJ n) ⟨et, ed, ec⟩ = stepsJ (writesJ n ((l.map recJ).take (k + 1))) S) := hid (by rw [HSn.out]; exact if_pos HRe.out)
   clear hx hbA HHk HSn
   go_upto_region 6 with fail
   refine wp_region_held_drew (S := (fun w' => w'.cell? ⟨jb, 0, none⟩ = some (fp b) ∧ w'.cell? ⟨jb, 1, none⟩ = some (.string n) ∧ w'.cell? ⟨wr.heap.size, 0, none⟩ = some (.int .i64 et) ∧ w'.cell? ⟨wr.heap.size, 1, none⟩ = some (.string (bs ed)) ∧ w'.cell? ⟨wr.heap.size, 2, none⟩ = some (.string (bs ec)))) (by kernel_rfl) KK0 (fun hHeld => ?_)
   refine tkH 0 ?_
   refine tkH 1 ?_
   refine tkH 3 ?_
   refine rdH 2 fun K hK => ?_
   go_simp
   refine (jother12_calls _ b jb n HJ0.out.jx.box hn).mono ?_; rintro e y1 ⟨rfl, hb1⟩; have HJ1 := hid (HJ0.out.below hb1); have HXB1 := hid (HXB.out.below hb1); have KK1 := And.intro HJ1.out.cells.1 (And.intro HJ1.out.cells.2 HXB1.out.three); clear hb1
   refine hK.out _ _ KK1 (fun hHeld => ?_)
   clear hK K
   refine rdH 4 fun K hK => ?_
   go_simp
   refine (jwrite12_calls w0 _ _ _ b Sk jb n HJ1.out.jx HFk.out ht (otJ n) ⟨et, ed, ec⟩).mono ?_; rintro e y2 ⟨rfl, hj2, ho2⟩; have HJ2 := hid (HJ1.out.jump hj2 ho2); have KK2 := And.intro HJ2.out.cells.1 (And.intro HJ2.out.cells.2 ((HXB1.out.keep ho2 (fun hn => hn (.inl HXi.out))).three)); clear hj2 ho2
   refine hK.out _ _ KK2 (fun hHeld => ?_)
   clear hK K
   refine tkH 5 ?_
   refine wpAnyH_done (by kernel_rfl) ?_ _
   rw [HW.out] at HJ2
   generalize hst : stepsJ (writesJ n ((l.map recJ).take (k + 1))) S = st at *
   have hzz := HW.out
   obtain ⟨z, hz⟩ : ∃ z, z = (appendJ Sk (otJ n) ⟨et, ed, ec⟩).2 := ⟨_, rfl⟩
   rw [← hz]
   rw [hzz] at hz
   have HZ := hid hz
   have HSt := hid hst
   clear hz hzz hst KK0 KK1 KK2 c0 c1 c2
   by_cases hz0 : z = 0
   ·subst hz0
    go_wp2_with fail
    go_roundw
    case rel => exact ⟨k + 1, by omega, by go_num, hid (by rw [HSt.out]; exact HZ.out.symm), hid ⟨_, _, by rw [HSt.out]; exact HJ2.out⟩⟩
    case measure => simp [intOf]; omega
   ·have q : (z != 0) = true := bne_iff_ne.2 hz0
    have HZ0 := hid hz0
    clear hz0
    go_wp2_with fail
    go_ret
    have hres := HEnd.out (fun e => HZ0.out (by rw [HZ.out, e]))
    rw [hres, ← HZ.out]
    exact ⟨rfl, HJ2.out.fin HXs.out⟩
  ·obtain rfl : k = l.length := by omega
   have hres : stepsJ (writesJ n ((l.map recJ).take l.length)) S = res := by rw [HRes.out, List.take_of_length_le (by rw [List.length_map]; exact Nat.le_refl _)]
   have hz := HZk.out
   rw [hres] at hz
   obtain ⟨X2, Y2, hjk⟩ := HJk.out
   rw [hres] at hjk
   have HHk := hid hjk
   have HZ := hid hz
   clear hjk hz HJk HZk hres
   go_wp2_with fail
   go_ret
   rw [HZ.out]
   exact ⟨rfl, HHk.out.fin HXs.out⟩
end
section
open Go Go.RowKit
open Go.Lib (hid)
set_option maxRecDepth 100000
theorem FX.lt {w0 W : World} {X Y : Nat → Prop} {b : Nat} {S : FS} (h : FX w0 W X Y b S) : (∀ k, X k → k < W.heap.size) ∧ ∀ k, Y k → k < W.heap.size := by
 obtain ⟨O, D, _, h2, h3, _⟩ := h
 exact ⟨fun k hk => (h2 k hk).1, fun k hk => (h3 k hk).1⟩
theorem JG.wrote {w0 W V V2 : World} {X Y X2 Y2 R : Nat → Prop} {b jb : Nat} {S : FS} {n : ByteArray} (h : JG w0 W X Y b jb n V X2 Y2 S) (hX : ∀ k, X k → k < W.heap.size) (hw0 : w0.heap.size ≤ W.heap.size) (ho : Only R V V2) (hR : ∀ k, R k → Y2 k) (hw : ∀ k, R k → W.heap.size ≤ k) (hj : ¬ R jb) : JG w0 W X Y b jb n V2 X2 Y2 S :=
 ⟨⟨h.jx.fx.wrote ho hR (fun k hk => Nat.le_trans hw0 (hw k hk)), h.jx.box.keep ho hj, h.jx.xs⟩, h.hx, h.hy, h.only.trans ho (fun k hk => .inl (fun hXk => by have h1 := hX k hXk; have h2 := hw k hk; omega))⟩
structure OpenAt (w0 w : World) (X Y : Nat → Prop) (b jb : Nat) (n : ByteArray) (A : Option Addr) (fs : List (Nat × Array Value)) (fb nb jc bb lb : Nat) (V : World) (S : FS) (X2 Y2 : Nat → Prop) (bl : List UInt8) (l : List EnJ) : Prop where
 jg : JG w0 w X Y b jb n V X2 Y2 S
 hX : ∀ k, X k → k < w.heap.size
 hw0 : w0.heap.size ≤ w.heap.size
 row : RowT fnC V (fun k => X2 k ∧ k ≠ bb ∧ k ≠ lb) A fs
 bf : BxA V fb 35 [fp b]
 bn : BxA V nb 9 [.string n]
 bj : BxA V jc 37 [.pointer (some ⟨jb, 0, none⟩)]
 bs_ : ∃ BA bc, BxA V bb 30 [.slice BA bl.length bc] ∧ ByR V (fun k => X2 k ∧ k ≠ bb ∧ k ≠ lb) BA bl ∧ (BA = none → bc = 0) ∧ bl.length ≤ bc
 es : ∃ LA lc, BxA V lb 38 [.slice LA l.length lc] ∧ RowT enC V (fun k => X2 k ∧ k ≠ bb ∧ k ≠ lb) LA l ∧ (LA = none → lc = 0)
 xf : X2 fb ∧ X2 nb ∧ X2 jc ∧ X2 bb ∧ X2 lb
 ys : Y2 bb ∧ Y2 lb
 ws : w.heap.size ≤ bb ∧ w.heap.size ≤ lb
 ne : fb ≠ bb ∧ nb ≠ bb ∧ jc ≠ bb ∧ jb ≠ bb ∧ fb ≠ lb ∧ nb ≠ lb ∧ jc ≠ lb ∧ jb ≠ lb ∧ bb ≠ lb
section
variable {w0 w V V2 : World} {X Y X2 Y2 : Nat → Prop} {b jb : Nat} {n : ByteArray} {A : Option Addr} {fs : List (Nat × Array Value)} {fb nb jc bb lb : Nat} {S S2 : FS} {bl : List UInt8} {l : List EnJ}
theorem OpenAt.jump (h : OpenAt w0 w X Y b jb n A fs fb nb jc bb lb V S X2 Y2 bl l) (hf : FX w0 V2 X2 Y2 b S2) (ho : Only (fun k => ¬ X2 k) V V2) : OpenAt w0 w X Y b jb n A fs fb nb jc bb lb V2 S2 X2 Y2 bl l := by
 obtain ⟨BA, bc, h1, h2, h3, h3'⟩ := h.bs_
 obtain ⟨LA, lc, h4, h5, h6⟩ := h.es
 have kp : ∀ k, (X2 k ∧ k ≠ bb ∧ k ≠ lb) → ¬ ¬ X2 k := fun k hk hn => hn hk.1
 exact ⟨h.jg.step hf ho, h.hX, h.hw0, h.row.keep ho kp, h.bf.keep ho (fun hn => hn h.xf.1), h.bn.keep ho (fun hn => hn h.xf.2.1), h.bj.keep ho (fun hn => hn h.xf.2.2.1),
  ⟨BA, bc, h1.keep ho (fun hn => hn h.xf.2.2.2.1), h2.keep ho kp, h3, h3'⟩, ⟨LA, lc, h4.keep ho (fun hn => hn h.xf.2.2.2.2), h5.keep ho kp, h6⟩, h.xf, h.ys, h.ws, h.ne⟩
theorem OpenAt.below (h : OpenAt w0 w X Y b jb n A fs fb nb jc bb lb V S X2 Y2 bl l) (hb : Below V.heap.size V V2) : OpenAt w0 w X Y b jb n A fs fb nb jc bb lb V2 S (XN X2 V V2) (XN Y2 V V2) bl l := by
 obtain ⟨BA, bc, h1, h2, h3, h3'⟩ := h.bs_
 obtain ⟨LA, lc, h4, h5, h6⟩ := h.es
 have kp : ∀ k, (X2 k ∧ k ≠ bb ∧ k ≠ lb) → (XN X2 V V2 k ∧ k ≠ bb ∧ k ≠ lb) := fun k hk => ⟨.inl hk.1, hk.2⟩
 exact ⟨h.jg.below hb, h.hX, h.hw0, (h.row.below hb).mono kp, h.bf.below hb, h.bn.below hb, h.bj.below hb, ⟨BA, bc, h1.below hb, (h2.below hb).mono kp, h3, h3'⟩, ⟨LA, lc, h4.below hb, (h5.below hb).mono kp, h6⟩,
  ⟨.inl h.xf.1, .inl h.xf.2.1, .inl h.xf.2.2.1, .inl h.xf.2.2.2.1, .inl h.xf.2.2.2.2⟩, ⟨.inl h.ys.1, .inl h.ys.2⟩, h.ws, h.ne⟩
theorem OpenAt.setb (h : OpenAt w0 w X Y b jb n A fs fb nb jc bb lb V S X2 Y2 bl l) (BA : Option Addr) (bc : Nat) (r : List UInt8) (hr : ByR V (fun k => X2 k ∧ k ≠ bb ∧ k ≠ lb) BA r) (hn : BA = none → bc = 0) (hl : r.length ≤ bc) :
  OpenAt w0 w X Y b jb n A fs fb nb jc bb lb (V.setCell ⟨bb, 0, none⟩ (.slice BA r.length bc)) S X2 Y2 r l := by
 obtain ⟨_, _, h1, _, _, _⟩ := h.bs_
 obtain ⟨LA, lc, h4, h5, h6⟩ := h.es
 have ho := only_set V ⟨bb, 0, none⟩ (.slice BA r.length bc)
 have kp : ∀ k, (X2 k ∧ k ≠ bb ∧ k ≠ lb) → ¬ k = bb := fun k hk => hk.2.1
 obtain ⟨n1, n2, n3, n4, n5, n6, n7, n8, n9⟩ := h.ne
 exact ⟨h.jg.wrote h.hX h.hw0 ho (fun k hk => by rw [hk]; exact h.ys.1) (fun k hk => by rw [hk]; exact h.ws.1) n4, h.hX, h.hw0, h.row.keep ho kp, h.bf.keep ho n1, h.bn.keep ho n2, h.bj.keep ho n3, ⟨BA, bc, h1.set 0 _, hr.keep ho kp, hn, hl⟩, ⟨LA, lc, h4.keep ho (fun e => n9 e.symm), h5.keep ho kp, h6⟩, h.xf, h.ys, h.ws, h.ne⟩
theorem OpenAt.sete (h : OpenAt w0 w X Y b jb n A fs fb nb jc bb lb V S X2 Y2 bl l) (LA : Option Addr) (lc : Nat) (r : List EnJ) (hr : RowT enC V (fun k => X2 k ∧ k ≠ bb ∧ k ≠ lb) LA r) (hn : LA = none → lc = 0) :
  OpenAt w0 w X Y b jb n A fs fb nb jc bb lb (V.setCell ⟨lb, 0, none⟩ (.slice LA r.length lc)) S X2 Y2 bl r := by
 obtain ⟨BA, bc, h1, h2, h3, h3'⟩ := h.bs_
 obtain ⟨_, _, h4, _, _⟩ := h.es
 have ho := only_set V ⟨lb, 0, none⟩ (.slice LA r.length lc)
 have kp : ∀ k, (X2 k ∧ k ≠ bb ∧ k ≠ lb) → ¬ k = lb := fun k hk => hk.2.2
 obtain ⟨n1, n2, n3, n4, n5, n6, n7, n8, n9⟩ := h.ne
 exact ⟨h.jg.wrote h.hX h.hw0 ho (fun k hk => by rw [hk]; exact h.ys.2) (fun k hk => by rw [hk]; exact h.ws.2) n8, h.hX, h.hw0, h.row.keep ho kp, h.bf.keep ho n5, h.bn.keep ho n6, h.bj.keep ho n7, ⟨BA, bc, h1.keep ho n9, h2.keep ho kp, h3, h3'⟩, ⟨LA, lc, h4.set 0 _, hr.keep ho kp, hn⟩, h.xf, h.ys, h.ws, h.ne⟩
end
section
variable (w0 w V : World) (X Y X2 Y2 : Nat → Prop) (b jb : Nat) (n : ByteArray) (A : Option Addr) (fs : List (Nat × Array Value)) (fb nb jc bb lb : Nat) (S : FS) (bl : List UInt8) (l : List EnJ) (h : OpenAt w0 w X Y b jb n A fs fb nb jc bb lb V S X2 Y2 bl l) (hS : S.Fit) (hn : n.size ≤ 1000)
include h hS
set_option maxHeartbeats 1000000 in
theorem jopen1_calls : Calls Tryz.prog 44 #[.pointer (some ⟨fb, 0, none⟩), .pointer (some ⟨nb, 0, none⟩)] V fun e V2 => e = .returned (.int .i64 (amissJ S n)) ∧ ∃ X3 Y3, (∀ k, X2 k → X3 k) ∧ OpenAt w0 w X Y b jb n A fs fb nb jc bb lb V2 S X3 Y3 bl l := by
 have c0 := h.bf.c 0 rfl
 have c1 := h.bn.c 0 rfl
 obtain ⟨O, D, hat⟩ := h.jg.jx.fx.at_
 have HC := hid (jamiss12_calls V O D b S hat hS n)
 have H := hid h
 clear h hat
 generalize amissJ S n = z at *
 go_enter Tryz.func44, Tryz.ntmps44
 go_wp2_with fail
 refine HC.out.mono ?_
 rintro e w1 ⟨rfl, hb⟩
 have HB := hid (H.out.below hb)
 clear hb HC
 go_wp2_with fail
 go_ret
 exact ⟨rfl, _, _, fun _ h => .inl h, HB.out⟩
include hn in
set_option maxHeartbeats 1000000 in
theorem jopen2_calls : Calls Tryz.prog 46 #[.pointer (some ⟨jc, 0, none⟩)] V fun e V2 => e = .returned (.int .i64 (remJ S n).2) ∧ ∃ X3 Y3, (∀ k, X2 k → X3 k) ∧ OpenAt w0 w X Y b jb n A fs fb nb jc bb lb V2 (remJ S n).1 X3 Y3 bl l := by
 have c0 := h.bj.c 0 rfl
 have HC := hid (jremove12_calls w0 V X2 Y2 b S jb n h.jg.jx hS hn)
 have H := hid h
 clear h
 generalize (remJ S n).2 = z at *
 generalize (remJ S n).1 = S2 at *
 go_enter Tryz.func46, Tryz.ntmps46
 go_wp2_with fail
 refine HC.out.mono ?_
 rintro e w1 ⟨rfl, hj, ho⟩
 have HB := hid (H.out.jump hj.fx ho)
 clear hj ho HC
 go_wp2_with fail
 go_ret
 exact ⟨rfl, _, _, fun _ h => h, HB.out⟩
theorem OpenAt.far (k : Nat) (hk : V.heap.size ≤ k) : k ≠ bb ∧ k ≠ lb := by
 have _ := hS
 have h1 := h.jg.jx.fx.lt.1 _ h.xf.2.2.2.1
 have h2 := h.jg.jx.fx.lt.1 _ h.xf.2.2.2.2
 omega
set_option maxHeartbeats 1000000 in
theorem jopen3_calls : Calls Tryz.prog 48 #[.pointer (some ⟨jc, 0, none⟩), .pointer (some ⟨bb, 0, none⟩)] V fun e V2 => e = .returned (.int .i64 (if (S.read n).2 = 101 then 0 else (S.read n).2)) ∧ ∃ X3 Y3, (∀ k, X2 k → X3 k) ∧ OpenAt w0 w X Y b jb n A fs fb nb jc bb lb V2 S X3 Y3 (S.read n).1 l := by
 have c0 := h.bj.c 0 rfl
 obtain ⟨_, _, hbb, _⟩ := h.bs_
 have HBb := hid hbb
 have HC := hid (jbytes12_calls w0 V X2 Y2 b S jb n h.jg.jx hS)
 have HFar := hid (OpenAt.far w0 w V X Y X2 Y2 b jb n A fs fb nb jc bb lb S bl l h hS)
 have H := hid h
 clear h hbb
 generalize (if (S.read n).2 = 101 then 0 else (S.read n).2) = z at *
 generalize (S.read n).1 = rb at *
 go_enter Tryz.func48, Tryz.ntmps48
 go_wp2_with fail
 refine HC.out.mono ?_
 rintro e w1 ⟨A1, c1, rfl, hown, hb⟩
 have hq := H.out.below hb
 have HB := hid (hq.setb A1 c1 rb (byR_of_own hown (fun g hg => ⟨.inr (hown.lt g hg), HFar.out g (hown.lt g hg).1⟩)) (own_none hown) (byt_of_own hown).2.2.1)
 have y0 := (HBb.out.below hb).c 0 rfl
 have f0 := (HBb.out.below hb).free 0
 clear hb HC hq hown HFar
 go_wp2_with fail
 go_ret
 exact ⟨rfl, _, _, fun _ h => .inl h, HB.out⟩
set_option maxHeartbeats 2000000 in
theorem jopen4_calls (hl : bl.length ≤ 100000) (ht : LaysR w0) : Calls Tryz.prog 50 #[.pointer (some ⟨bb, 0, none⟩), .pointer (some ⟨lb, 0, none⟩), .pointer (some ⟨fb, 0, none⟩), .pointer (some ⟨nb, 0, none⟩)] V fun e V2 =>
  e = .returned (.int .i64 (if (entriesJ bl).2 < bl.length then (S.cut n (entriesJ bl).2).2 else 0)) ∧ ∃ X3 Y3, (∀ k, X2 k → X3 k) ∧ OpenAt w0 w X Y b jb n A fs fb nb jc bb lb V2 (if (entriesJ bl).2 < bl.length then (S.cut n (entriesJ bl).2).1 else S) X3 Y3 bl (entriesJ bl).1 := by
 obtain ⟨BA, bc, hbb, hby, hbn, hbl⟩ := h.bs_
 obtain ⟨_, _, hlb, _⟩ := h.es
 have c0 := hbb.c 0 rfl
 have HLb := hid hlb
 have HBb := hid hbb
 have HC := hid (jents12_calls BA bc bl V hby.byt hbn hbl hl (ht.on h.jg.bel))
 have HFar := hid (OpenAt.far w0 w V X Y X2 Y2 b jb n A fs fb nb jc bb lb S bl l h hS)
 have hle := (entries_is bl).2.2.2
 have H := hid h
 have hne := h.ne.2.2.2.2.2.2.2.2
 have hne2 : lb ≠ bb := fun e => hne e.symm
 clear h hbb hlb hby hbn
 generalize (entriesJ bl).1 = es at *
 generalize (entriesJ bl).2 = good at *
 obtain ⟨zz, hzz⟩ : ∃ zz, zz = (if good < bl.length then (S.cut n good).2 else 0) := ⟨_, rfl⟩
 obtain ⟨SS, hSS⟩ : ∃ SS, SS = (if good < bl.length then (S.cut n good).1 else S) := ⟨_, rfl⟩
 rw [← hzz, ← hSS]
 have HZ := hid hzz
 have HSS := hid hSS
 clear hzz hSS
 go_enter Tryz.func50, Tryz.ntmps50
 go_wp2_with fail
 refine HC.out.mono ?_
 rintro e w1 ⟨A1, c1, rfl, hown, hb⟩
 have hq := H.out.below hb
 have hown2 := rowT_of_own (C := enC) (R := fun k => XN X2 V w1 k ∧ k ≠ bb ∧ k ≠ lb) hown (fun g hg => ⟨.inr (hown.lt g hg), HFar.out g (hown.lt g hg).1⟩)
 have HB := hid (hq.sete A1 c1 es hown2 (own_none hown))
 have y0 := (HLb.out.below hb).c 0 rfl
 have f0 := (HLb.out.below hb).free 0
 have b0 := (HBb.out.below hb).c 0 rfl
 clear hb HC hq hown hown2 HFar HLb HBb c0 H
 by_cases hg : good < bl.length
 ·have q1 : decide ((good : Int) < (bl.length : Int)) = true := decide_eq_true (by omega)
  have q2 : decide (good < bl.length) = true := decide_eq_true hg
  rw [if_pos hg] at HZ HSS
  have HCut := hid (HB.out.jg.jx.fx.step (S2 := (S.cut n good).1) (fun O D hh _ => fcut_calls _ O D b S hh hS n (good : Int) (by omega) (by omega)))
  have d0 := HB.out.bf.c 0 rfl
  have d1 := HB.out.bn.c 0 rfl
  clear hg
  go_wp2_with fail
  refine HCut.out.mono ?_
  rintro e w2 ⟨rfl, hf, ho⟩
  have HB2 := hid (HB.out.jump hf ho)
  clear hf ho HCut
  go_wp2_with fail
  go_ret
  rw [HZ.out, HSS.out]
  exact ⟨rfl, _, _, fun _ h => .inl h, HB2.out⟩
 ·have q1 : decide ((good : Int) < (bl.length : Int)) = false := decide_eq_false (by omega)
  have q2 : decide (good < bl.length) = false := decide_eq_false hg
  rw [if_neg hg] at HZ HSS
  clear hg
  go_wp2_with fail
  go_ret
  rw [HZ.out, HSS.out]
  exact ⟨rfl, _, _, fun _ h => .inl h, HB.out⟩
end
end
section
open Go Go.RowKit
open Go.Lib (hid)
set_option maxRecDepth 100000
set_option maxHeartbeats 1000000 in
theorem jcomp1_calls (e : EnJ) (w : World) : Calls Tryz.prog 59 #[.agg (enC e).toArray] w fun x w' => x = .returned (.bool (!decide (rightJ e))) ∧ Below w.heap.size w w' := by
 have HR := hid (fun y => jright12_calls e y)
 obtain ⟨r, hr⟩ : ∃ r, r = decide (rightJ e) := ⟨_, rfl⟩
 rw [← hr] at HR ⊢
 clear hr
 obtain ⟨t, d, c⟩ := e
 have hbA := (Below.refl _ w).alloc (Nat.le_refl _) (.cells (enC ⟨t, d, c⟩).toArray 56)
 have hx := BxA.new w 56 (enC ⟨t, d, c⟩)
 go_enter Tryz.func59, Tryz.ntmps59
 obtain ⟨W, hW⟩ : ∃ W, w.alloc (.cells (enC ⟨t, d, c⟩).toArray 56) = W := ⟨_, rfl⟩
 rw [hW] at hbA hx
 have HB := hid hbA
 have x0 := hx.c 0 rfl
 have x1 := hx.c 1 rfl
 have x2 := hx.c 2 rfl
 clear hx hbA
 simp only at x0 x1 x2
 go_wp2_with fail
 refine (HR.out _).mono ?_
 rintro x w1 ⟨rfl, hb1⟩
 have HB1 := hid (HB.out.trans (hb1.mono HB.out.size))
 clear hb1 HR
 go_wp2_with fail
 go_ret
 exact ⟨rfl, HB1.out⟩
set_option maxHeartbeats 2000000 in
theorem jindex12_calls (w : World) (D : Nat → Prop) (A : Option Addr) (c : Nat) (l : List EnJ) (hr : RowT enC w D A l) (hl : l.length ≤ 1000000000) :
  Calls Tryz.prog 94 #[.slice A l.length c, .func (.func 59) #[] #[]] w fun e w' => ∃ r, e = .returned (.int .i64 r) ∧ (0 ≤ r ↔ ¬ ∀ x ∈ l, rightJ x) ∧ Below w.heap.size w w' := by
 have H := hid hr
 clear hr
 go_enter Tryz.func94, Tryz.ntmps94
 go_wp2_with fail
 go_loopw [8] (fun v8 wr => ∃ k : Nat, k ≤ l.length ∧ v8 = .int .i64 (k : Int) ∧ Hid (∀ v ∈ l.take k, rightJ v) ∧ Hid (Below w.heap.size w wr)) (fun v8 _ => l.length - (intOf v8).toNat)
 case atStart => exact ⟨0, Nat.zero_le _, rfl, hid (fun v hv => by simp at hv), hid (Below.refl _ w)⟩
 case round =>
  obtain ⟨k, hk, rfl, hno, hbel⟩ := hrel
  by_cases hlt : k < l.length
  ·have hq : l[k]? = some l[k] := List.getElem?_eq_getElem hlt
   have HM := hid (List.getElem_mem hlt)
   have HT : Hid (l.take (k + 1) = l.take k ++ [l[k]]) := hid (List.take_succ_eq_append_getElem hlt)
   obtain ⟨g, o, rfl, _, hg, c0, c1, c2⟩ := en_at (H.out.below hbel.out) hq
   have hkl : (k : Int) < (l.length : Int) := by omega
   have HL := hid (jcomp1_calls l[k] wr)
   clear hq
   generalize l[k] = e at *
   by_cases hn : rightJ e
   ·rw [decide_eq_true hn] at HL
    have HN : Hid (∀ v ∈ l.take (k + 1), rightJ v) := hid (fun v hv => by
     rw [HT.out] at hv
     rcases List.mem_append.1 hv with hv | hv
     ·exact hno.out v hv
     ·rw [List.mem_singleton.1 hv]; exact hn)
    clear hn hno
    obtain ⟨et, ed, ec⟩ := e
    simp only at c0 c1 c2
    go_wp2_with fail
    refine HL.out.mono ?_
    rintro e w1 ⟨rfl, hb1⟩
    have HB1 := hid (hbel.out.trans (hb1.mono hbel.out.size))
    clear HL hbel hb1
    go_wp2_with fail
    go_roundw
    case rel => exact ⟨k + 1, by omega, by go_num, HN, HB1⟩
    case measure => simp [intOf]; omega
   ·rw [decide_eq_false hn] at HL
    have HI : Hid (0 ≤ (k : Int) ↔ ¬ ∀ x ∈ l, rightJ x) := hid ⟨fun _ h => hn (h _ HM.out), fun _ => by omega⟩
    clear hn hno
    obtain ⟨et, ed, ec⟩ := e
    simp only at c0 c1 c2
    go_wp2_with fail
    refine HL.out.mono ?_
    rintro e w1 ⟨rfl, hb1⟩
    have HB1 := hid (hbel.out.trans (hb1.mono hbel.out.size))
    clear HL hbel hb1
    go_wp2_with fail
    go_ret
    exact ⟨_, rfl, HI.out, HB1.out⟩
  ·obtain rfl : k = l.length := by omega
   have HI : Hid (0 ≤ (-1 : Int) ↔ ¬ ∀ x ∈ l, rightJ x) := hid ⟨fun h => by omega, fun h => absurd (fun x hx => hno.out x (by rw [List.take_length]; exact hx)) h⟩
   clear hno
   go_wp2_with fail
   go_ret
   exact ⟨_, rfl, HI.out, hbel.out⟩
set_option maxHeartbeats 1000000 in
theorem jcontains12_calls (w : World) (D : Nat → Prop) (A : Option Addr) (c : Nat) (l : List EnJ) (hr : RowT enC w D A l) (hl : l.length ≤ 1000000000) :
  Calls Tryz.prog 58 #[.slice A l.length c, .func (.func 59) #[] #[]] w fun e w' => e = .returned (.bool (!decide (∀ x ∈ l, rightJ x))) ∧ Below w.heap.size w w' := by
 have HI := hid (jindex12_calls w D A c l hr hl)
 obtain ⟨q, hq⟩ : ∃ q, q = decide (∀ x ∈ l, rightJ x) := ⟨_, rfl⟩
 rw [← hq]
 have HQ := hid hq
 clear hr hq
 go_enter Tryz.func58, Tryz.ntmps58
 go_wp2_with fail
 refine HI.out.mono ?_
 rintro e w1 ⟨r, rfl, hr, hb1⟩
 have HB1 := hid hb1
 have HD : Hid (decide ((0 : Int) ≤ r) = !q) := hid (by
  rw [HQ.out]
  by_cases h : ∀ x ∈ l, rightJ x
  ·rw [decide_eq_true h, decide_eq_false (fun h2 => (hr.1 h2) h)]; rfl
  ·rw [decide_eq_false h, decide_eq_true (hr.2 h)]; rfl)
 clear hb1 HI hr HQ
 cases q with
 | true =>
  have h1 := HD.out
  simp only [Bool.not_true] at h1
  go_wp2_with fail
  go_ret
  exact ⟨rfl, HB1.out⟩
 | false =>
  have h1 := HD.out
  simp only [Bool.not_false] at h1
  go_wp2_with fail
  go_ret
  exact ⟨rfl, HB1.out⟩
section
variable (w0 w : World) (X Y : Nat → Prop) (b : Nat) (S : FS) (jb : Nat) (n : ByteArray) (h : JX w0 w X Y b S jb n) (hS : S.Fit) (hn : n.size ≤ 1000) (jc : Nat) (hc : BxA w jc 37 [.pointer (some ⟨jb, 0, none⟩)]) (hxc : X jc)
include h hS hc
include hn in
set_option maxHeartbeats 1000000 in
theorem jcomp2_calls : Calls Tryz.prog 60 #[.pointer (some ⟨jc, 0, none⟩)] w fun e w' => e = .returned (.int .i64 (remJ S n).2) ∧ JX w0 w' X Y b (remJ S n).1 jb n ∧ Only (fun k => ¬ X k) w w' := by
 have c0 := hc.c 0 rfl
 have HC := hid (jremove12_calls w0 w X Y b S jb n h hS hn)
 clear h hc
 generalize (remJ S n).2 = z at *
 generalize (remJ S n).1 = S2 at *
 go_enter Tryz.func60, Tryz.ntmps60
 go_wp2_with fail
 refine HC.out.mono ?_
 rintro e w1 ⟨rfl, hj, ho⟩
 have HJ := hid (And.intro hj ho)
 clear hj ho HC
 go_wp2_with fail
 go_ret
 exact ⟨rfl, HJ.out⟩
omit hS in
include hn in
set_option maxHeartbeats 1000000 in
theorem jcomp3_calls (m : Nat) (hA : S.At m) (ht : LaysR w0) (lb : Nat) (LA : Option Addr) (lc : Nat) (l : List EnJ) (hb : BxA w lb 38 [.slice LA l.length lc]) (hrow : RowT enC w X LA l) (hr : ∀ e ∈ l, rightJ e) (hm : m + l.length + 1 ≤ 100000) :
  Calls Tryz.prog 61 #[.pointer (some ⟨jc, 0, none⟩), .pointer (some ⟨lb, 0, none⟩)] w fun e w' => e = .returned (.int .i64 (stepsJ (writesJ n (bodiesJ l)) S).2) ∧ JX w0 w' X Y b (stepsJ (writesJ n (bodiesJ l)) S).1 jb n ∧ Only (fun k => ¬ X k) w w' := by
 have c0 := hc.c 0 rfl
 have c1 := hb.c 0 rfl
 have HC := hid (jwriteo12_calls w0 w X Y b S jb n h m hA hn ht LA lc l hrow hr hm)
 clear h hc hb hrow hr hm
 generalize stepsJ (writesJ n (bodiesJ l)) S = st at *
 go_enter Tryz.func61, Tryz.ntmps61
 go_wp2_with fail
 refine HC.out.mono ?_
 rintro e w1 ⟨rfl, hj, ho⟩
 have HJ := hid (And.intro hj ho)
 clear hj ho HC
 go_wp2_with fail
 go_ret
 exact ⟨rfl, HJ.out⟩
include hn hxc in
set_option maxHeartbeats 2000000 in
theorem jcomp4_calls : Calls Tryz.prog 63 #[.pointer (some ⟨jc, 0, none⟩)] w fun e w' => e = .returned (.int .i64 (S.sync (otJ n)).2) ∧ JX w0 w' X Y b (S.sync (otJ n)).1 jb n ∧ Only (fun k => ¬ X k) w w' := by
 have HXs := hid h.xs
 have HXc := hid hxc
 have HJ0 := hid ((JG.start h).below (Below.refl _ w).drew)
 have HC0 := hid (hc.below (Below.refl _ w).drew)
 have KK0 := And.intro HJ0.out.cells.1 (And.intro HJ0.out.cells.2 (HC0.out.c 0 rfl))
 clear h hc hxc
 go_enter Tryz.func63, Tryz.ntmps63
 go_upto_region 1 with fail
 refine wp_region_held_drew (S := (fun w' => w'.cell? ⟨jb, 0, none⟩ = some (fp b) ∧ w'.cell? ⟨jb, 1, none⟩ = some (.string n) ∧ w'.cell? ⟨jc, 0, none⟩ = some (.pointer (some ⟨jb, 0, none⟩)))) (by kernel_rfl) KK0 (fun hHeld => ?_)
 refine tkH 0 ?_
 refine tkH 1 ?_
 refine tkH 2 ?_
 refine tkH 3 ?_
 refine tkH 4 ?_
 refine rdH 5 fun K hK => ?_
 go_simp
 refine (jother12_calls _ b jb n HJ0.out.jx.box hn).mono ?_; rintro e y1 ⟨rfl, hb1⟩; have HJ1 := hid (HJ0.out.below hb1); have HC1 := hid (HC0.out.below hb1); have KK1 := And.intro HJ1.out.cells.1 (And.intro HJ1.out.cells.2 (HC1.out.c 0 rfl)); clear hb1
 refine hK.out _ _ KK1 (fun hHeld => ?_)
 clear hK K
 refine rdH 6 fun K hK => ?_
 go_simp
 refine (HJ1.out.jx.fx.step (S2 := (S.sync (otJ n)).1) (fun O D hh _ => fsync_calls _ O D b S hh hS (otJ n))).mono ?_; rintro e y2 ⟨rfl, hf2, ho2⟩; have HJ2 := hid (HJ1.out.step hf2 ho2); have KK2 := And.intro HJ2.out.cells.1 (And.intro HJ2.out.cells.2 ((HC1.out.keep ho2 (fun hn => hn (.inl (HJ0.out.hx _ HXc.out)))).c 0 rfl)); clear hf2 ho2
 refine hK.out _ _ KK2 (fun hHeld => ?_)
 clear hK K
 refine tkH 7 ?_
 refine wpAnyH_done (by kernel_rfl) ?_ _
 go_wp2_with fail
 go_ret
 exact ⟨rfl, HJ2.out.fin HXs.out⟩
include hn hxc in
set_option maxHeartbeats 2000000 in
theorem jcomp5_calls : Calls Tryz.prog 65 #[.pointer (some ⟨jc, 0, none⟩)] w fun e w' => e = .returned (.int .i64 (S.rename (otJ n) n).2) ∧ JX w0 w' X Y b (S.rename (otJ n) n).1 jb n ∧ Only (fun k => ¬ X k) w w' := by
 have HXs := hid h.xs
 have HXc := hid hxc
 have HJ0 := hid ((JG.start h).below (Below.refl _ w).drew)
 have HC0 := hid (hc.below (Below.refl _ w).drew)
 have KK0 := And.intro HJ0.out.cells.1 (And.intro HJ0.out.cells.2 (HC0.out.c 0 rfl))
 clear h hc hxc
 go_enter Tryz.func65, Tryz.ntmps65
 go_upto_region 1 with fail
 refine wp_region_held_drew (S := (fun w' => w'.cell? ⟨jb, 0, none⟩ = some (fp b) ∧ w'.cell? ⟨jb, 1, none⟩ = some (.string n) ∧ w'.cell? ⟨jc, 0, none⟩ = some (.pointer (some ⟨jb, 0, none⟩)))) (by kernel_rfl) KK0 (fun hHeld => ?_)
 refine tkH 0 ?_
 refine tkH 1 ?_
 refine tkH 2 ?_
 refine tkH 3 ?_
 refine tkH 4 ?_
 refine tkH 6 ?_
 refine tkH 7 ?_
 refine tkH 8 ?_
 refine tkH 9 ?_
 refine rdH 5 fun K hK => ?_
 go_simp
 refine (jother12_calls _ b jb n HJ0.out.jx.box hn).mono ?_; rintro e y1 ⟨rfl, hb1⟩; have HJ1 := hid (HJ0.out.below hb1); have HC1 := hid (HC0.out.below hb1); have KK1 := And.intro HJ1.out.cells.1 (And.intro HJ1.out.cells.2 (HC1.out.c 0 rfl)); clear hb1
 refine hK.out _ _ KK1 (fun hHeld => ?_)
 clear hK K
 refine rdH 10 fun K hK => ?_
 go_simp
 refine (HJ1.out.jx.fx.step (S2 := (S.rename (otJ n) n).1) (fun O D hh _ => frename_calls _ O D b S hh hS (otJ n) n)).mono ?_; rintro e y2 ⟨rfl, hf2, ho2⟩; have HJ2 := hid (HJ1.out.step hf2 ho2); have KK2 := And.intro HJ2.out.cells.1 (And.intro HJ2.out.cells.2 ((HC1.out.keep ho2 (fun hn => hn (.inl (HJ0.out.hx _ HXc.out)))).c 0 rfl)); clear hf2 ho2
 refine hK.out _ _ KK2 (fun hHeld => ?_)
 clear hK K
 refine tkH 11 ?_
 refine wpAnyH_done (by kernel_rfl) ?_ _
 go_wp2_with fail
 go_ret
 exact ⟨rfl, HJ2.out.fin HXs.out⟩
end
theorem at_stepsJ (c : Nat) : ∀ (fs : List (FS → FS × Int)) {S : FS} {k : Nat}, (∀ f ∈ fs, ∀ (S : FS) (k : Nat), S.At k → (f S).1.At (k + c)) → S.At k → (stepsJ fs S).1.At (k + fs.length * c)
 | [], _, k, _, h => by rw [List.length_nil, Nat.zero_mul]; exact h
 | f :: r, S, k, hf, h => by
  have h1 := hf f List.mem_cons_self S k h
  show (if (f S).2 = 0 then stepsJ r (f S).1 else f S).1.At _
  have e : k + (f :: r).length * c = k + c + r.length * c := by rw [List.length_cons, Nat.add_mul, Nat.one_mul]; omega
  rw [e]
  split
  ·exact at_stepsJ c r (fun g hg => hf g (List.mem_cons_of_mem _ hg)) h1
  ·exact h1.mono (Nat.le_add_right _ _)
def fsC (n : ByteArray) (l : List EnJ) : List (FS → FS × Int) := [fun S => remJ S n, fun S => stepsJ (writesJ n (bodiesJ l)) S, fun S => S.sync (otJ n), fun S => S.rename (otJ n) n]
theorem bodies_le (l : List EnJ) : (bodiesJ l).length ≤ l.length + 1 := by rw [bodies_len]; omega
theorem fsC_at (n : ByteArray) (l : List EnJ) : ∀ f ∈ fsC n l, ∀ (S : FS) (k : Nat), S.At k → (f S).1.At (k + (l.length + 2)) := by
 intro f hf S k h
 unfold fsC at hf
 simp only [List.mem_cons, List.not_mem_nil, or_false] at hf
 rcases hf with rfl | rfl | rfl | rfl
 ·exact (h.does ⟨3, otJ n, ⟨#[]⟩, [], 0, []⟩ (by show (0 : Int) ≤ _; decide)).mono (by omega)
 ·exact (at_writes n (bodiesJ l) h).mono (by have := bodies_le l; omega)
 ·exact (h.does ⟨1, otJ n, ⟨#[]⟩, [], 0, []⟩ (by show (0 : Int) ≤ _; decide)).mono (by omega)
 ·exact (h.does ⟨2, otJ n, n, [], 0, []⟩ (by show (0 : Int) ≤ _; decide)).mono (by omega)
theorem fsC_take (n : ByteArray) (l : List EnJ) {S : FS} {k : Nat} (h : S.At k) (i : Nat) : (stepsJ ((fsC n l).take i) S).1.At (k + 4 * (l.length + 2)) :=
 (at_stepsJ (l.length + 2) ((fsC n l).take i) (fun f hf => fsC_at n l f (List.mem_of_mem_take hf)) h).mono (by
  have : ((fsC n l).take i).length ≤ 4 := by rw [List.length_take]; exact Nat.min_le_right _ _
  have := Nat.mul_le_mul_right (l.length + 2) this
  omega)
structure CompAt (w0 w : World) (X Y : Nat → Prop) (b jb : Nat) (n : ByteArray) (LA : Option Addr) (lc : Nat) (l : List EnJ) (A : Option Addr) (fs : List (Nat × Array Value)) (jc lb : Nat) (V : World) (S : FS) (X2 Y2 : Nat → Prop) : Prop where
 jg : JG w0 w X Y b jb n V X2 Y2 S
 row : RowT fnC V X2 A fs
 bj : BxA V jc 37 [.pointer (some ⟨jb, 0, none⟩)]
 xj : X2 jc
 bl : BxA V lb 38 [.slice LA l.length lc]
 xl : X2 lb
 es : RowT enC V X2 LA l
section
variable {w0 w V V2 : World} {X Y X2 Y2 : Nat → Prop} {b jb : Nat} {n : ByteArray} {LA : Option Addr} {lc : Nat} {l : List EnJ} {A : Option Addr} {fs : List (Nat × Array Value)} {jc lb : Nat} {S S2 : FS}
theorem CompAt.jump (h : CompAt w0 w X Y b jb n LA lc l A fs jc lb V S X2 Y2) (hj : JX w0 V2 X2 Y2 b S2 jb n) (ho : Only (fun k => ¬ X2 k) V V2) : CompAt w0 w X Y b jb n LA lc l A fs jc lb V2 S2 X2 Y2 :=
 ⟨h.jg.jump hj ho, h.row.keep ho (fun _ hi hn => hn hi), h.bj.keep ho (fun hn => hn h.xj), h.xj, h.bl.keep ho (fun hn => hn h.xl), h.xl, h.es.keep ho (fun _ hi hn => hn hi)⟩
end
def compFs (jc lb : Nat) : List (Nat × Array Value) := [(60, #[.pointer (some ⟨jc, 0, none⟩)]), (61, #[.pointer (some ⟨jc, 0, none⟩), .pointer (some ⟨lb, 0, none⟩)]), (63, #[.pointer (some ⟨jc, 0, none⟩)]), (65, #[.pointer (some ⟨jc, 0, none⟩)])]
theorem jcompt12_calls (w0 w : World) (X Y : Nat → Prop) (b jb : Nat) (n : ByteArray) (LA : Option Addr) (lc : Nat) (l : List EnJ) (A : Option Addr) (c jc lb : Nat) (V : World) (S : FS) (X2 Y2 : Nat → Prop) (h : CompAt w0 w X Y b jb n LA lc l A (compFs jc lb) jc lb V S X2 Y2)
  (hn : n.size ≤ 1000) (m : Nat) (hA : S.At m) (ht : LaysR w0) (hr : ∀ e ∈ l, rightJ e) (hm : m + 5 * (l.length + 2) ≤ 99000) :
  Calls Tryz.prog 43 #[.slice A 4 c] V fun e V2 => e = .returned (.int .i64 (packC S n l).2) ∧ CompAt w0 w X Y b jb n LA lc l A (compFs jc lb) jc lb V2 (packC S n l).1 X2 Y2 := by
 have hat := fun i => fsC_take n l hA i
 have hpk : packC S n l = stepsJ (fsC n l) S := rfl
 refine (jturn12_calls V A c (compFs jc lb) X2 (fun i W => (stepsJ ((fsC n l).take i) S).2 = 0 ∧ CompAt w0 w X Y b jb n LA lc l A (compFs jc lb) jc lb W (stepsJ ((fsC n l).take i) S).1 X2 Y2)
  (fun z W => z = (packC S n l).2 ∧ CompAt w0 w X Y b jb n LA lc l A (compFs jc lb) jc lb W (packC S n l).1 X2 Y2) (by show 4 ≤ 1000; decide) (fun i W hP => hP.2.row) ?_ ?_ ⟨rfl, h⟩).mono ?_
 ·intro x hx args W
  unfold compFs at hx
  simp only [List.mem_cons, List.not_mem_nil, or_false] at hx
  rcases hx with rfl | rfl | rfl | rfl
  ·exact enters_of Tryz.func60 (by kernel_rfl) rfl args W
  ·exact enters_of Tryz.func61 (by kernel_rfl) rfl args W
  ·exact enters_of Tryz.func63 (by kernel_rfl) rfl args W
  ·exact enters_of Tryz.func65 (by kernel_rfl) rfl args W
 ·intro i x hx W ⟨hz, hW⟩
  have key : ∀ (f : FS → FS × Int) (K : Nat) (args : Array Value), (fsC n l)[i]? = some f → Calls Tryz.prog K args W (fun e W2 => e = .returned (.int .i64 (f (stepsJ ((fsC n l).take i) S).1).2) ∧ JX w0 W2 X2 Y2 b (f (stepsJ ((fsC n l).take i) S).1).1 jb n ∧ Only (fun k => ¬ X2 k) W W2) →
    Calls Tryz.prog K args W fun e W' => ∃ z, e = .returned (.int .i64 z) ∧ (z = 0 → (stepsJ ((fsC n l).take (i + 1)) S).2 = 0 ∧ CompAt w0 w X Y b jb n LA lc l A (compFs jc lb) jc lb W' (stepsJ ((fsC n l).take (i + 1)) S).1 X2 Y2) ∧
     (z ≠ 0 → z = (packC S n l).2 ∧ CompAt w0 w X Y b jb n LA lc l A (compFs jc lb) jc lb W' (packC S n l).1 X2 Y2) := fun f K args hf hC => by
   have e1 : (fsC n l).take (i + 1) = (fsC n l).take i ++ [f] := by rw [List.take_add_one, hf]; rfl
   have e2 := stepsJ_is ((fsC n l).take i) f S hz
   rw [← e1] at e2
   refine hC.mono ?_
   rintro e W2 ⟨rfl, hj, ho⟩
   rw [← e2] at hj ⊢
   refine ⟨_, rfl, fun h0 => ⟨h0, hW.jump hj ho⟩, fun h0 => ?_⟩
   have e3 : packC S n l = stepsJ ((fsC n l).take (i + 1)) S := by
    rw [hpk]
    conv => lhs; rw [← List.take_append_drop (i + 1) (fsC n l)]
    exact stepsJ_stop _ _ _ h0
   rw [e3]
   exact ⟨rfl, hW.jump hj ho⟩
  have hfit := (hat i).fit (by omega)
  match i, hx with
  | 0, hx => injection hx with hx; subst hx; exact key (fun S => remJ S n) _ _ rfl (jcomp2_calls w0 W X2 Y2 b _ jb n hW.jg.jx hfit hn jc hW.bj)
  | 1, hx => injection hx with hx; subst hx; exact key (fun S => stepsJ (writesJ n (bodiesJ l)) S) _ _ rfl (jcomp3_calls w0 W X2 Y2 b _ jb n hW.jg.jx hn jc hW.bj _ (hat 1) ht lb LA lc l hW.bl hW.es hr (by omega))
  | 2, hx => injection hx with hx; subst hx; exact key (fun S => S.sync (otJ n)) _ _ rfl (jcomp4_calls w0 W X2 Y2 b _ jb n hW.jg.jx hfit hn jc hW.bj hW.xj)
  | 3, hx => injection hx with hx; subst hx; exact key (fun S => S.rename (otJ n) n) _ _ rfl (jcomp5_calls w0 W X2 Y2 b _ jb n hW.jg.jx hfit hn jc hW.bj hW.xj)
  | i + 4, hx => exact absurd hx (by simp [compFs])
 ·rintro e W ⟨z, rfl, h0, h1⟩
  by_cases hz : z = 0
  ·subst hz
   obtain ⟨h2, h3⟩ := h0 rfl
   have e4 : stepsJ ((fsC n l).take (compFs jc lb).length) S = packC S n l := rfl
   rw [e4] at h2 h3
   rw [h2]
   exact ⟨rfl, h3⟩
  ·obtain ⟨h2, h3⟩ := h1 hz
   rw [← h2]
   exact ⟨rfl, h3⟩
end
section
open Go Go.RowKit
open Go.Lib (hid)
set_option maxRecDepth 100000
theorem rowT_box {α : Type} {C : α → List Value} {w : World} {g : Nat} {t : TypeId} {ls : List α} {D : Nat → Prop} (h : BxA w g t (ls.flatMap C)) (hD : D g) : RowT C w D (some ⟨g, 0, none⟩) ls := fun _ =>
 ⟨g, 0, rfl, hD, h.lt, fun j v hj => by rw [Nat.zero_add]; exact h.c j hj⟩
set_option maxHeartbeats 4000000 in
theorem jcompact12_calls (w0 w : World) (X Y : Nat → Prop) (b : Nat) (S : FS) (jb : Nat) (n : ByteArray) (h : JX w0 w X Y b S jb n) (m : Nat) (hA : S.At m) (hn : n.size ≤ 1000) (ht : LaysR w0) (LA : Option Addr) (lc : Nat) (l : List EnJ) (hrow : RowT enC w X LA l) (hm : m + 5 * (l.length + 2) ≤ 99000) :
  Calls Tryz.prog 22 #[.pointer (some ⟨jb, 0, none⟩), .slice LA l.length lc] w fun x w' => x = .returned (.int .i64 (compactJ S n l).2) ∧ JX w0 w' X Y b (compactJ S n l).1 jb n ∧ Only (fun k => ¬ X k) w w' := by
 have hCi := compactC_is S n l
 obtain ⟨res, hres⟩ : ∃ res, res = compactJ S n l := ⟨_, rfl⟩
 rw [← hres] at hCi ⊢
 have HRes := hid hCi.symm
 clear hres hCi
 have hj0 := JG.start h
 have HXs := hid h.xs
 have hbA := ((Below.refl _ w).alloc (Nat.le_refl _) (.cells #[.pointer (some ⟨jb, 0, none⟩)] 37)).alloc (by simp) (.cells #[.slice LA l.length lc] 38)
 have hx1 := (BxA.new w 37 [.pointer (some ⟨jb, 0, none⟩)]).alloc (.cells #[.slice LA l.length lc] 38)
 have hx2 := BxA.new (w.alloc (.cells #[.pointer (some ⟨jb, 0, none⟩)] 37)) 38 [.slice LA l.length lc]
 have hsz : ((w.alloc (.cells #[.pointer (some ⟨jb, 0, none⟩)] 37)).alloc (.cells #[.slice LA l.length lc] 38)).heap.size = w.heap.size + 2 := by simp
 rw [World.size_alloc] at hx2
 go_enter Tryz.func22, Tryz.ntmps22
 obtain ⟨W, hW⟩ : ∃ W, (w.alloc (.cells #[.pointer (some ⟨jb, 0, none⟩)] 37)).alloc (.cells #[.slice LA l.length lc] 38) = W := ⟨_, rfl⟩
 have hx1' : BxA W w.heap.size 37 [.pointer (some ⟨jb, 0, none⟩)] := by rw [← hW]; exact hx1
 have hx2' : BxA W (w.heap.size + 1) 38 [.slice LA l.length lc] := by rw [← hW]; exact hx2
 rw [hW] at hbA hsz
 have HJ1 := hid (hj0.below hbA)
 have HSz := hid hsz
 have HC1 := hid hx1'
 have HL1 := hid hx2'
 have HE1 := hid (hrow.below hbA)
 have HCo := hid (jcontains12_calls W X LA lc l HE1.out (by omega))
 have c0 := hx1'.c 0 rfl
 have c1 := hx2'.c 0 rfl
 clear hj0 hx1 hx2 hx1' hx2' hbA hsz hrow h
 by_cases hr : ∀ e ∈ l, rightJ e
 ·rw [decide_eq_true hr] at HCo
  have HR := hid hr
  have HE : Hid (res = if (packC S n l).2 ≠ 0 ∧ (packC S n l).2 ≠ 100 then ((remJ (packC S n l).1 n).1, (packC S n l).2) else packC S n l) := hid (by
   rw [HRes.out]
   unfold compactC
   rw [if_pos hr])
  clear hr
  go_wp2_with fail
  refine HCo.out.mono ?_
  rintro x w1 ⟨rfl, hb1⟩
  have HJ2 := hid (HJ1.out.below hb1)
  have HC2 := hid (HC1.out.below hb1)
  have HL2 := hid (HL1.out.below hb1)
  have HE2 := hid (HE1.out.below hb1)
  have HXc : Hid (XN (XN X w W) W w1 w.heap.size ∧ XN (XN X w W) W w1 (w.heap.size + 1)) := hid ⟨.inl (.inr ⟨Nat.le_refl _, by have := HSz.out; omega⟩), .inl (.inr ⟨Nat.le_succ _, by have := HSz.out; omega⟩)⟩
  clear hb1 HCo c0 c1
  have hbB := (Below.refl _ w1).alloc (Nat.le_refl _) (.cells ((compFs w.heap.size (w.heap.size + 1)).flatMap fnC).toArray 44)
  have hxB := BxA.new w1 44 ((compFs w.heap.size (w.heap.size + 1)).flatMap fnC)
  have hlt : w1.heap.size < (w1.alloc (.cells ((compFs w.heap.size (w.heap.size + 1)).flatMap fnC).toArray 44)).heap.size := by simp
  have HT := hid (jcompt12_calls w0 w X Y b jb n LA lc l (some ⟨w1.heap.size, 0, none⟩) 4 w.heap.size (w.heap.size + 1) (w1.alloc (.cells ((compFs w.heap.size (w.heap.size + 1)).flatMap fnC).toArray 44)) S (XN (XN (XN X w W) W w1) w1 (w1.alloc (.cells ((compFs w.heap.size (w.heap.size + 1)).flatMap fnC).toArray 44))) (XN (XN (XN Y w W) W w1) w1 (w1.alloc (.cells ((compFs w.heap.size (w.heap.size + 1)).flatMap fnC).toArray 44)))
   ⟨HJ2.out.below hbB, rowT_box hxB (XN.new hlt), HC2.out.below hbB, .inl HXc.out.1, HL2.out.below hbB, .inl HXc.out.2, (HE2.out.below hbB).mono (fun _ h => .inl (.inl (.inl h)))⟩ hn m hA ht HR.out hm)
  have HAt := hid (at_stepsJ (l.length + 2) (fsC n l) (fsC_at n l) hA)
  have HPk : Hid (packC S n l = stepsJ (fsC n l) S) := hid rfl
  rw [← HPk.out] at HAt
  clear hbB hxB hlt HR HRes hA
  generalize packC S n l = pk at *
  obtain ⟨S2, z⟩ := pk
  simp only at HE HT HAt
  unfold compFs at HT
  simp only [List.flatMap_cons, List.flatMap_nil, List.append_nil, List.cons_append, List.nil_append] at HT
  go_wp2_with fail
  refine HT.out.mono ?_
  rintro x w2 ⟨rfl, hc⟩
  have HK := hid hc
  have c0 := hc.bj.c 0 rfl
  clear hc HT HJ2 HC2 HL2 HE2 HXc
  by_cases h0 : z = 0
  ·subst h0
   have HF : Hid (res = (S2, 0)) := hid (by rw [HE.out]; exact if_neg (fun h => h.1 rfl))
   clear HE
   go_wp2_with fail
   go_ret
   rw [HF.out]
   exact ⟨rfl, HK.out.jg.fin HXs.out⟩
  ·have q1 : (z != 0) = true := bne_iff_ne.2 h0
   by_cases h1 : z = 100
   ·subst h1
    have HF : Hid (res = (S2, 100)) := hid (by rw [HE.out]; exact if_neg (fun h => h.2 rfl))
    clear HE h0
    go_wp2_with fail
    go_ret
    rw [HF.out]
    exact ⟨rfl, HK.out.jg.fin HXs.out⟩
   ·have q2 : (z != 100) = true := bne_iff_ne.2 h1
    have HF : Hid (res = ((remJ S2 n).1, z)) := hid (by rw [HE.out]; exact if_pos ⟨h0, h1⟩)
    have HRm := hid (jremove12_calls w0 w2 _ _ b S2 jb n HK.out.jg.jx (HAt.out.fit (by have : (fsC n l).length = 4 := rfl; rw [this]; omega)) hn)
    clear HE h0 h1
    go_wp2_with fail
    refine HRm.out.mono ?_
    rintro x w3 ⟨rfl, hj3, ho3⟩
    have HJ3 := hid (HK.out.jg.jump hj3 ho3)
    clear hj3 ho3 HRm c0
    go_wp2_with fail
    go_ret
    rw [HF.out]
    exact ⟨rfl, HJ3.out.fin HXs.out⟩
 ·rw [decide_eq_false hr] at HCo
  have HE : Hid (res = (S, 120)) := hid (by
   rw [HRes.out]
   unfold compactC
   rw [if_neg hr])
  clear hr
  go_wp2_with fail
  refine HCo.out.mono ?_
  rintro x w1 ⟨rfl, hb1⟩
  have HJ2 := hid (HJ1.out.below hb1)
  clear hb1 HCo c0 c1
  go_wp2_with fail
  go_ret
  rw [HE.out]
  exact ⟨rfl, HJ2.out.fin HXs.out⟩
end
section
open Go Go.RowKit
open Go.Lib (hid)
set_option maxRecDepth 100000
theorem open_code (S : FS) (n : ByteArray) : openJ S n = if amissJ S n ≠ 0 then (S, [], amissJ S n) else openC S n := by
 by_cases hd : S.down = true
 ·have e : amissJ S n = 100 := by unfold amissJ; rw [if_pos hd]
  rw [e, if_pos (by decide)]
  unfold openJ
  rw [if_pos hd]
 ·by_cases hn : n.size < 1 ∨ 16 < n.size
  ·have e : amissJ S n = 101 := by unfold amissJ; rw [if_neg hd, if_pos hn]
   rw [e, if_pos (by decide)]
   unfold openJ
   rw [if_neg hd, if_pos hn]
  ·have e : amissJ S n = 0 := by unfold amissJ; rw [if_neg hd, if_neg hn]
   rw [e, if_neg (fun h => h rfl), openC_is S n (by simpa using hd) (by omega) (by omega)]
def openFs (fb nb jc bb lb : Nat) : List (Nat × Array Value) := [(44, #[.pointer (some ⟨fb, 0, none⟩), .pointer (some ⟨nb, 0, none⟩)]), (46, #[.pointer (some ⟨jc, 0, none⟩)]), (48, #[.pointer (some ⟨jc, 0, none⟩), .pointer (some ⟨bb, 0, none⟩)]), (50, #[.pointer (some ⟨bb, 0, none⟩), .pointer (some ⟨lb, 0, none⟩), .pointer (some ⟨fb, 0, none⟩), .pointer (some ⟨nb, 0, none⟩)])]
theorem jopent12_calls (w0 w : World) (X Y : Nat → Prop) (b jb : Nat) (n : ByteArray) (A : Option Addr) (c fb nb jc bb lb : Nat) (V : World) (S : FS) (X2 Y2 : Nat → Prop) (h : OpenAt w0 w X Y b jb n A (openFs fb nb jc bb lb) fb nb jc bb lb V S X2 Y2 [] [])
  (hn : n.size ≤ 1000) (m : Nat) (hA : S.At m) (ht : LaysR w0) (hm : m + 10 ≤ 100000) :
  Calls Tryz.prog 43 #[.slice A 4 c] V fun e V2 => e = .returned (.int .i64 (openJ S n).2.2) ∧ ∃ X3 Y3 bl l, OpenAt w0 w X Y b jb n A (openFs fb nb jc bb lb) fb nb jc bb lb V2 (openJ S n).1 X3 Y3 bl l ∧ ((openJ S n).2.2 = 0 → l = (openJ S n).2.1) ∧ ((openJ S n).2.2 ≠ 0 → (openJ S n).2.1 = []) := by
 obtain ⟨res, hres⟩ : ∃ res, res = openJ S n := ⟨_, rfl⟩
 obtain ⟨a, ha⟩ : ∃ a, a = amissJ S n := ⟨_, rfl⟩
 obtain ⟨R, hR⟩ : ∃ R, R = remJ S n := ⟨_, rfl⟩
 obtain ⟨rb, hrb⟩ : ∃ rb, rb = (R.1.read n).1 := ⟨_, rfl⟩
 obtain ⟨rz, hrz⟩ : ∃ rz, rz = (if (R.1.read n).2 = 101 then (0 : Int) else (R.1.read n).2) := ⟨_, rfl⟩
 rw [← hres]
 have hc := open_code S n
 rw [← hres, ← ha] at hc
 have hRA : R.1.At (m + 1) := by rw [hR]; exact hA.does ⟨3, otJ n, ⟨#[]⟩, [], 0, []⟩ (by show (0 : Int) ≤ _; decide)
 have hrl : rb.length ≤ 65536 := by rw [hrb]; exact read_len hRA.ok n
 have hoc : openC S n = if R.2 ≠ 0 then (R.1, [], R.2) else if rz ≠ 0 then (R.1, [], rz) else
   if (entriesJ rb).2 < rb.length then (if (R.1.cut n (entriesJ rb).2).2 ≠ 0 then ((R.1.cut n (entriesJ rb).2).1, [], (R.1.cut n (entriesJ rb).2).2) else ((R.1.cut n (entriesJ rb).2).1, (entriesJ rb).1, 0)) else (R.1, (entriesJ rb).1, 0) := by
  unfold openC
  rw [← hR, ← hrb]
  by_cases h1 : R.2 ≠ 0
  ·rw [if_pos h1, if_pos h1]
  ·rw [if_neg h1, if_neg h1]
   by_cases h2 : (R.1.read n).2 ≠ 0 ∧ (R.1.read n).2 ≠ 101
   ·have h3 : rz = (R.1.read n).2 := by rw [hrz, if_neg h2.2]
    rw [if_pos h2, h3, if_pos h2.1]
   ·have h3 : rz = 0 := by
     rw [hrz]
     split
     ·rfl
     ·rename_i h4
      exact Classical.byContradiction fun h5 => h2 ⟨h5, h4⟩
    rw [if_neg h2, if_neg (show ¬ rz ≠ 0 by rw [h3]; exact fun h => h rfl)]
 rw [hoc] at hc
 refine (jturn12_calls V A c (openFs fb nb jc bb lb) (fun _ => True) (fun i W => match i with
   | 0 => ∃ X3 Y3, OpenAt w0 w X Y b jb n A (openFs fb nb jc bb lb) fb nb jc bb lb W S X3 Y3 [] []
   | 1 => a = 0 ∧ ∃ X3 Y3, OpenAt w0 w X Y b jb n A (openFs fb nb jc bb lb) fb nb jc bb lb W S X3 Y3 [] []
   | 2 => a = 0 ∧ R.2 = 0 ∧ ∃ X3 Y3, OpenAt w0 w X Y b jb n A (openFs fb nb jc bb lb) fb nb jc bb lb W R.1 X3 Y3 [] []
   | 3 => a = 0 ∧ R.2 = 0 ∧ rz = 0 ∧ ∃ X3 Y3, OpenAt w0 w X Y b jb n A (openFs fb nb jc bb lb) fb nb jc bb lb W R.1 X3 Y3 rb []
   | _ => res.2.2 = 0 ∧ ∃ X3 Y3, OpenAt w0 w X Y b jb n A (openFs fb nb jc bb lb) fb nb jc bb lb W res.1 X3 Y3 rb res.2.1)
  (fun z W => z = res.2.2 ∧ res.2.1 = [] ∧ ∃ X3 Y3 bl l, OpenAt w0 w X Y b jb n A (openFs fb nb jc bb lb) fb nb jc bb lb W res.1 X3 Y3 bl l) (by show 4 ≤ 1000; decide) ?_ ?_ ?_ ⟨X2, Y2, h⟩).mono ?_
 ·intro i W hP
  match i, hP with
  | 0, ⟨_, _, hP⟩ => exact hP.row.mono (fun _ _ => trivial)
  | 1, ⟨_, _, _, hP⟩ => exact hP.row.mono (fun _ _ => trivial)
  | 2, ⟨_, _, _, _, hP⟩ => exact hP.row.mono (fun _ _ => trivial)
  | 3, ⟨_, _, _, _, _, hP⟩ => exact hP.row.mono (fun _ _ => trivial)
  | _ + 4, ⟨_, _, _, hP⟩ => exact hP.row.mono (fun _ _ => trivial)
 ·intro x hx args W
  unfold openFs at hx
  simp only [List.mem_cons, List.not_mem_nil, or_false] at hx
  rcases hx with rfl | rfl | rfl | rfl
  ·exact enters_of Tryz.func44 (by kernel_rfl) rfl args W
  ·exact enters_of Tryz.func46 (by kernel_rfl) rfl args W
  ·exact enters_of Tryz.func48 (by kernel_rfl) rfl args W
  ·exact enters_of Tryz.func50 (by kernel_rfl) rfl args W
 ·intro i x hx W hP
  match i, hx, hP with
  | 0, hx, ⟨X3, Y3, hP⟩ =>
   injection hx with hx
   subst hx
   refine (jopen1_calls w0 w W X Y X3 Y3 b jb n A _ fb nb jc bb lb S [] [] hP (hA.fit (by omega))).mono ?_
   rintro e W2 ⟨rfl, X4, Y4, _, hq⟩
   rw [← ha]
   refine ⟨a, rfl, fun h0 => ⟨h0, X4, Y4, hq⟩, fun h0 => ?_⟩
   rw [if_pos h0] at hc
   rw [hc]
   exact ⟨rfl, rfl, X4, Y4, [], [], hq⟩
  | 1, hx, ⟨h0, X3, Y3, hP⟩ =>
   injection hx with hx
   subst hx
   refine (jopen2_calls w0 w W X Y X3 Y3 b jb n A _ fb nb jc bb lb S [] [] hP (hA.fit (by omega)) hn).mono ?_
   rintro e W2 ⟨rfl, X4, Y4, _, hq⟩
   rw [← hR] at hq ⊢
   refine ⟨R.2, rfl, fun h1 => ⟨h0, h1, X4, Y4, hq⟩, fun h1 => ?_⟩
   rw [if_neg (fun h => h h0), if_pos h1] at hc
   rw [hc]
   exact ⟨rfl, rfl, X4, Y4, [], [], hq⟩
  | 2, hx, ⟨h0, h1, X3, Y3, hP⟩ =>
   injection hx with hx
   subst hx
   refine (jopen3_calls w0 w W X Y X3 Y3 b jb n A _ fb nb jc bb lb R.1 [] [] hP (hRA.fit (by omega))).mono ?_
   rintro e W2 ⟨rfl, X4, Y4, _, hq⟩
   rw [← hrb] at hq
   rw [← hrz]
   refine ⟨rz, rfl, fun h2 => ⟨h0, h1, h2, X4, Y4, hq⟩, fun h2 => ?_⟩
   rw [if_neg (fun h => h h0), if_neg (fun h => h h1), if_pos h2] at hc
   rw [hc]
   exact ⟨rfl, rfl, X4, Y4, _, [], hq⟩
  | 3, hx, ⟨h0, h1, h2, X3, Y3, hP⟩ =>
   injection hx with hx
   subst hx
   refine (jopen4_calls w0 w W X Y X3 Y3 b jb n A _ fb nb jc bb lb R.1 rb [] hP (hRA.fit (by omega)) (by omega) ht).mono ?_
   rintro e W2 ⟨rfl, X4, Y4, _, hq⟩
   rw [if_neg (fun h => h h0), if_neg (fun h => h h1), if_neg (fun h => h h2)] at hc
   by_cases hg : (entriesJ rb).2 < rb.length
   ·rw [if_pos hg] at hq hc ⊢
    by_cases hz : (R.1.cut n (entriesJ rb).2).2 ≠ 0
    ·rw [if_pos hz] at hc
     rw [hc]
     exact ⟨_, rfl, fun h => absurd h hz, fun _ => ⟨rfl, rfl, X4, Y4, _, _, hq⟩⟩
    ·rw [if_neg hz] at hc
     rw [hc]
     exact ⟨_, rfl, fun _ => ⟨rfl, X4, Y4, hq⟩, fun h => absurd h hz⟩
   ·rw [if_neg hg] at hq hc ⊢
    rw [hc]
    exact ⟨_, rfl, fun _ => ⟨rfl, X4, Y4, hq⟩, fun h => absurd rfl h⟩
  | i + 4, hx, _ => exact absurd hx (by simp [openFs])
 ·rintro e W ⟨z, rfl, h0, h1⟩
  by_cases hz : z = 0
  ·subst hz
   obtain ⟨h2, X3, Y3, h3⟩ := h0 rfl
   rw [h2]
   exact ⟨rfl, X3, Y3, _, _, h3, fun _ => rfl, fun h => absurd rfl h⟩
  ·obtain ⟨h2, h3, X3, Y3, bl, l, h4⟩ := h1 hz
   rw [← h2]
   exact ⟨rfl, X3, Y3, bl, l, h4, fun h => absurd h hz, fun _ => h3⟩
structure OpenTo (w0 w : World) (X Y : Nat → Prop) (b : Nat) (n : ByteArray) (w' : World) (S : FS) (v : Value) (A : Option Addr) (c : Nat) (l : List EnJ) (z : Int) (X2 Y2 : Nat → Prop) : Prop where
 fx : FX w0 w' X2 Y2 b S
 hx : ∀ k, X k → X2 k
 hy : ∀ k, Y k → Y2 k
 only : Only (fun k => ¬ X k) w w'
 row : RowT enC w' X2 A l
 nil_ : A = none → c = 0
 j : if z = 0 then ∃ jb, v = .pointer (some ⟨jb, 0, none⟩) ∧ X2 jb ∧ w.heap.size ≤ jb ∧ BxA w' jb 90 (jnC b n) else v = .pointer none
set_option maxHeartbeats 4000000 in
theorem jopen12_calls (w0 w : World) (X Y : Nat → Prop) (b : Nat) (S : FS) (h : FX w0 w X Y b S) (n : ByteArray) (hn : n.size ≤ 1000) (m : Nat) (hA : S.At m) (hm : m + 10 ≤ 100000) (ht : LaysR w0) :
  Calls Tryz.prog 14 #[fp b, .string n] w fun e w' => ∃ v A c X2 Y2, e = .returned (.tuple #[v, .slice A (openJ S n).2.1.length c, .int .i64 (openJ S n).2.2]) ∧ OpenTo w0 w X Y b n w' (openJ S n).1 v A c (openJ S n).2.1 (openJ S n).2.2 X2 Y2 := by
 obtain ⟨w1, hw1⟩ : ∃ w1, w1 = w.alloc (.cells #[fp b] 35) := ⟨_, rfl⟩
 obtain ⟨w2, hw2⟩ : ∃ w2, w2 = w1.alloc (.cells #[.string n] 9) := ⟨_, rfl⟩
 obtain ⟨w3, hw3⟩ : ∃ w3, w3 = w2.alloc (.cells #[fp b, .string n] 90) := ⟨_, rfl⟩
 obtain ⟨w4, hw4⟩ : ∃ w4, w4 = w3.alloc (.cells #[.pointer (some ⟨w.heap.size + 1 + 1, 0, none⟩)] 37) := ⟨_, rfl⟩
 obtain ⟨w5, hw5⟩ : ∃ w5, w5 = w4.alloc (.cells #[.slice none 0 0] 30) := ⟨_, rfl⟩
 obtain ⟨w6, hw6⟩ : ∃ w6, w6 = w5.alloc (.cells #[.slice none 0 0] 38) := ⟨_, rfl⟩
 obtain ⟨fs, hfs⟩ : ∃ fs, fs = openFs w.heap.size (w.heap.size + 1) (w.heap.size + 1 + 1 + 1) (w.heap.size + 1 + 1 + 1 + 1) (w.heap.size + 1 + 1 + 1 + 1 + 1) := ⟨_, rfl⟩
 obtain ⟨w7, hw7⟩ : ∃ w7, w7 = w6.alloc (.cells (fs.flatMap fnC).toArray 44) := ⟨_, rfl⟩
 have s1 : w1.heap.size = w.heap.size + 1 := by rw [hw1]; simp
 have s2 : w2.heap.size = w.heap.size + 1 + 1 := by rw [hw2, World.size_alloc, s1]
 have s3 : w3.heap.size = w.heap.size + 1 + 1 + 1 := by rw [hw3, World.size_alloc, s2]
 have s4 : w4.heap.size = w.heap.size + 1 + 1 + 1 + 1 := by rw [hw4, World.size_alloc, s3]
 have s5 : w5.heap.size = w.heap.size + 1 + 1 + 1 + 1 + 1 := by rw [hw5, World.size_alloc, s4]
 have s6 : w6.heap.size = w.heap.size + 1 + 1 + 1 + 1 + 1 + 1 := by rw [hw6, World.size_alloc, s5]
 have s7 : w7.heap.size = w.heap.size + 1 + 1 + 1 + 1 + 1 + 1 + 1 := by rw [hw7, World.size_alloc, s6]
 have b1 : Below w.heap.size w w1 := by rw [hw1]; exact (Below.refl _ w).alloc (Nat.le_refl _) _
 have b2 : Below w1.heap.size w1 w2 := by rw [hw2]; exact (Below.refl _ w1).alloc (Nat.le_refl _) _
 have b3 : Below w2.heap.size w2 w3 := by rw [hw3]; exact (Below.refl _ w2).alloc (Nat.le_refl _) _
 have b4 : Below w3.heap.size w3 w4 := by rw [hw4]; exact (Below.refl _ w3).alloc (Nat.le_refl _) _
 have b5 : Below w4.heap.size w4 w5 := by rw [hw5]; exact (Below.refl _ w4).alloc (Nat.le_refl _) _
 have b6 : Below w5.heap.size w5 w6 := by rw [hw6]; exact (Below.refl _ w5).alloc (Nat.le_refl _) _
 have b7 : Below w6.heap.size w6 w7 := by rw [hw7]; exact (Below.refl _ w6).alloc (Nat.le_refl _) _
 have b67 := b6.trans (b7.mono b6.size)
 have b57 := b5.trans (b67.mono b5.size)
 have b47 := b4.trans (b57.mono b4.size)
 have b37 := b3.trans (b47.mono b3.size)
 have b27 := b2.trans (b37.mono b2.size)
 have b17 := b1.trans (b27.mono b1.size)
 have x1 : BxA w7 w.heap.size 35 [fp b] := by
  have q := BxA.new w 35 [fp b]
  exact BxA.below (by rw [hw1]; exact q) b27
 have x2 : BxA w7 (w.heap.size + 1) 9 [.string n] := by
  have q := BxA.new w1 9 [.string n]
  rw [s1] at q
  exact BxA.below (by rw [hw2]; exact q) b37
 have x3 : BxA w7 (w.heap.size + 1 + 1) 90 (jnC b n) := by
  have q := BxA.new w2 90 (jnC b n)
  rw [s2] at q
  exact BxA.below (by rw [hw3]; exact q) b47
 have x4 : BxA w7 (w.heap.size + 1 + 1 + 1) 37 [.pointer (some ⟨w.heap.size + 1 + 1, 0, none⟩)] := by
  have q := BxA.new w3 37 [.pointer (some ⟨w.heap.size + 1 + 1, 0, none⟩)]
  rw [s3] at q
  exact BxA.below (by rw [hw4]; exact q) b57
 have x5 : BxA w7 (w.heap.size + 1 + 1 + 1 + 1) 30 [.slice none ([] : List UInt8).length 0] := by
  have q := BxA.new w4 30 [.slice none 0 0]
  rw [s4] at q
  exact BxA.below (by rw [hw5]; exact q) b67
 have x6 : BxA w7 (w.heap.size + 1 + 1 + 1 + 1 + 1) 38 [.slice none ([] : List EnJ).length 0] := by
  have q := BxA.new w5 38 [.slice none 0 0]
  rw [s5] at q
  exact BxA.below (by rw [hw6]; exact q) b7
 have x7 : BxA w7 w6.heap.size 44 (fs.flatMap fnC) := by rw [hw7]; exact BxA.new w6 _ _
 have hXl := h.lt.1
 have hin : ∀ k, w.heap.size ≤ k → k < w7.heap.size → XN X w w7 k := fun k h1 h2 => .inr ⟨h1, h2⟩
 have hiy : ∀ k, w.heap.size ≤ k → k < w7.heap.size → XN Y w w7 k := fun k h1 h2 => .inr ⟨h1, h2⟩
 have hjx : JX w0 w7 (XN X w w7) (XN Y w w7) b S (w.heap.size + 1 + 1) n := ⟨h.below b17, x3, hin _ (by omega) (by omega)⟩
 have hop : OpenAt w0 w X Y b (w.heap.size + 1 + 1) n (some ⟨w6.heap.size, 0, none⟩) fs w.heap.size (w.heap.size + 1) (w.heap.size + 1 + 1 + 1) (w.heap.size + 1 + 1 + 1 + 1) (w.heap.size + 1 + 1 + 1 + 1 + 1) w7 S (XN X w w7) (XN Y w w7) [] [] :=
  ⟨⟨hjx, fun k hk => .inl hk, fun k hk => .inl hk, Only.of_below b17⟩, hXl, h.bel.size, rowT_box x7 ⟨hin _ (by omega) (by omega), by omega, by omega⟩, x1, x2, x4, ⟨none, 0, x5, fun hh => absurd hh (Nat.lt_irrefl 0), fun _ => rfl, Nat.le_refl _⟩, ⟨none, 0, x6, fun hh => absurd hh (Nat.lt_irrefl 0), fun _ => rfl⟩,
   ⟨hin _ (by omega) (by omega), hin _ (by omega) (by omega), hin _ (by omega) (by omega), hin _ (by omega) (by omega), hin _ (by omega) (by omega)⟩, ⟨hiy _ (by omega) (by omega), hiy _ (by omega) (by omega)⟩, ⟨by omega, by omega⟩, by omega⟩
 rw [s6, hfs] at hop
 have HT := hid (jopent12_calls w0 w X Y b (w.heap.size + 1 + 1) n _ 4 _ _ _ _ _ w7 S _ _ hop hn m hA ht hm)
 have HW7 : Hid (w7 = (((((((w.alloc (.cells #[fp b] 35)).alloc (.cells #[.string n] 9)).alloc (.cells #[fp b, .string n] 90)).alloc (.cells #[.pointer (some ⟨w.heap.size + 1 + 1, 0, none⟩)] 37)).alloc (.cells #[.slice none 0 0] 30)).alloc (.cells #[.slice none 0 0] 38)).alloc (.cells (fs.flatMap fnC).toArray 44))) := hid (by rw [hw7, hw6, hw5, hw4, hw3, hw2, hw1])
 rw [hfs] at HW7
 unfold openFs at HW7
 simp only [List.flatMap_cons, List.flatMap_nil, List.append_nil, List.cons_append, List.nil_append] at HW7
 rw [HW7.out] at HT
 obtain ⟨res, hres⟩ : ∃ res, res = openJ S n := ⟨_, rfl⟩
 rw [← hres] at HT ⊢
 obtain ⟨S2, l2, z2⟩ := res
 simp only at HT
 clear hres hop hjx hin hiy hXl x1 x2 x3 x4 x5 x6 x7 b17 b27 b37 b47 b57 b67 b1 b2 b3 b4 b5 b6 b7 s1 s2 s3 s4 s5 s6 s7 hw1 hw2 hw3 hw4 hw5 hw6 hw7 hfs HW7 h hA ht
 go_enter Tryz.func14, Tryz.ntmps14
 go_wp2_with fail
 refine HT.out.mono ?_
 rintro e v1 ⟨rfl, X3, Y3, bl, l, hO, h0, h1⟩
 have HO := hid hO
 have H0 := hid h0
 have H1 := hid h1
 clear hO h0 h1 HT
 by_cases hz : z2 = 0
 ·subst hz
  obtain rfl : l = l2 := H0.out rfl
  have hd := HO.out.below (Below.refl _ v1).drew
  have HD := hid hd
  have c0 := HO.out.bj.c 0 rfl
  have e0 := hd.bj.c 0 rfl
  obtain ⟨LA, lc, hl1, hl2, hl3⟩ := HO.out.es
  have c1 := hl1.c 0 rfl
  have e1 := (hl1.below (Below.refl _ v1).drew).c 0 rfl
  have HL : Hid (RowT enC v1.drew (XN X3 v1 v1.drew) LA l ∧ (LA = none → lc = 0)) := hid ⟨(hl2.below (Below.refl _ v1).drew).mono (fun _ hk => .inl hk.1), hl3⟩
  clear hl1 hl2 hl3 H0 H1 hd HO
  go_wp2_with fail
  go_region
  go_wp2_with fail
  go_ret3
  refine ⟨_, LA, lc, _, _, rfl, HD.out.jg.jx.fx, HD.out.jg.hx, HD.out.jg.hy, HD.out.jg.only, HL.out.1, HL.out.2, ?_⟩
  rw [if_pos rfl]
  exact ⟨_, rfl, HD.out.jg.jx.xs, by omega, HD.out.jg.jx.box⟩
 ·have q : (z2 != 0) = true := bne_iff_ne.2 hz
  have hl := H1.out hz
  subst hl
  have HZ := hid hz
  clear hz
  go_wp2_with fail
  go_ret3
  exact ⟨_, none, 0, X3, Y3, rfl, HO.out.jg.jx.fx, HO.out.jg.hx, HO.out.jg.hy, HO.out.jg.only, fun hh => absurd hh (Nat.lt_irrefl 0), fun _ => rfl, by rw [if_neg HZ.out]; rfl⟩
end
section
open Go Go.RowKit
set_option maxRecDepth 100000
theorem own_ne_bxA {W : World} {b e s B t : Nat} {v : Value} {cs : List Value} {n : Nat} {xs : List Value} (h : W.ownsRow b e s v n xs) (h' : BxA W B t cs) (hne : e ≠ t) : v.ownBlock ≠ some B := fun he => by
 rcases h.2 with ⟨rfl, _⟩ | ⟨g, cap, cur, rfl, _, hg, _⟩
 ·cases he
 ·obtain rfl : g = B := by simpa [Value.ownBlock] using he
  rw [show W.heap[g]? = _ from h'] at hg
  injection hg with h1
  injection h1 with _ h2
  exact hne h2.symm
theorem run_append_E (t e : TypeId) (ht : Tryz.prog.underlying t = some (.slice e)) (hinf : (Tryz.prog.info? e).map (fun i => (i.zero, i.size, i.bytes)) = some (some (.agg #[.int .i64 0, .string ⟨#[]⟩, .string ⟨#[]⟩]), 3, 40)) (w : World) (base : Nat)
  (v : Value) (xs : List EnJ) (hown : w.ownsRow base e 3 v xs.length (xs.flatMap enC)) (A : Option Addr) (c : Nat) (ms : List EnJ) (hA : A = none → c = 0) {R : Nat → Prop} (hR : RowT enC w R A ms) (hb : xs.length + ms.length ≤ 1099511627776) (hbase : base ≤ w.heap.size) :
  ∃ A' c' w', (Builtin.append_ #[t, t] t #[v, .slice A ms.length c]).run Tryz.prog w = .ok (.slice A' (xs ++ ms).length c') w' ∧ w'.ownsRow base e 3 (.slice A' (xs ++ ms).length c') (xs ++ ms).length ((xs ++ ms).flatMap enC) ∧ w.grownBy w' v.ownBlock ∧ ((Value.slice A' (xs ++ ms).length c').ownBlock = v.ownBlock ∨ (Value.slice A' (xs ++ ms).length c').ownBlock = some w.heap.size) := by
 obtain ⟨i, hi, hz, hsize, hby⟩ := info_parts hinf
 have key : ∃ v' w', (Builtin.append_ #[t, t] t #[v, .slice A ms.length c]).run Tryz.prog w = .ok v' w' ∧ w'.ownsRow base e 3 v' (xs ++ ms).length ((xs ++ ms).flatMap enC) ∧ w.grownBy w' v.ownBlock ∧ (v'.ownBlock = v.ownBlock ∨ v'.ownBlock = some w.heap.size) := by
  rcases A with _ | a
  ·obtain rfl := hA rfl
   have h0 : ms = [] := by
    by_cases hn : 0 < ms.length
    ·obtain ⟨_, _, e, _⟩ := hR hn; cases e
    ·exact List.eq_nil_of_length_eq_zero (by omega)
   subst h0
   exact ⟨v, w, run_append_owned_none (P := Tryz.prog) (w := w) base t t e i 3 ht hi v xs.length (xs.flatMap enC) hown, by simpa using hown, World.grownBy.refl w _, .inl rfl⟩
  ·obtain ⟨v', w', hr, h2, h3, _, h5⟩ := run_append_own_at (P := Tryz.prog) (w := w) base t t e i _ 3 40 ht hi hz hsize hby rfl (by decide) v xs.length (xs.flatMap enC) hown a ms.length c (ms.flatMap enC) (flat_length enC_length ms) (fun j u hj => by
     have hjl := (List.getElem?_eq_some_iff.1 hj).1
     rw [flat_length enC_length] at hjl
     obtain ⟨g, o, e, _, _, hc⟩ := hR (by omega)
     injection e with e
     subst e
     rw [Addr.add_lit]
     exact hc j u hj) (fun u hu => by
     obtain ⟨x, _, hx⟩ := List.mem_flatMap.1 hu
     exact enC_one x u hx) (by unfold maxLen; omega) (by omega) hbase
   rw [List.flatMap_append, List.length_append]
   exact ⟨v', w', hr, h2, h3, h5⟩
 obtain ⟨v', w', h1, h2, h3, h4⟩ := key
 obtain ⟨A', c', rfl⟩ := own_form h2
 exact ⟨A', c', w', h1, h2, h3, h4⟩
structure OwnN (w0 W : World) (e : TypeId) (X Y : Nat → Prop) (v : Value) (l : List EnJ) : Prop where
 own : W.ownsRow w0.heap.size e 3 v l.length (l.flatMap enC)
 xy : ∀ g, v.ownBlock = some g → X g ∧ Y g
section
variable {w0 W W2 : World} {e : TypeId} {X Y : Nat → Prop} {b : Nat} {S S2 : FS} {v : Value} {l : List EnJ}
theorem OwnN.nil (w0 W : World) (e : TypeId) (X Y : Nat → Prop) : OwnN w0 W e X Y (.slice none 0 0) [] := ⟨World.ownsRow_nil _ _ _ _, fun g hg => by cases hg⟩
theorem OwnN.below (h : OwnN w0 W e X Y v l) (hb : Below W.heap.size W W2) : OwnN w0 W2 e (XN X W W2) (XN Y W W2) v l := ⟨own_below h.own hb, fun g hg => ⟨.inl (h.xy g hg).1, .inl (h.xy g hg).2⟩⟩
theorem OwnN.keep {R : Nat → Prop} (h : OwnN w0 W e X Y v l) (ho : Only R W W2) (hR : ∀ k, R k → ¬ X k) : OwnN w0 W2 e X Y v l := ⟨own_onlyE h.own ho fun g hg hr => hR g hr (h.xy g hg).1, h.xy⟩
theorem OwnN.apart {R : Nat → Prop} (h : OwnN w0 W e X Y v l) (ho : Only R W W2) (hR : ∀ g, v.ownBlock = some g → ¬ R g) : OwnN w0 W2 e (XN X W W2) (XN Y W W2) v l := ⟨own_onlyE h.own ho hR, fun g hg => ⟨.inl (h.xy g hg).1, .inl (h.xy g hg).2⟩⟩
theorem OwnN.none_ {A : Option Addr} {n c : Nat} (h : OwnN w0 W e X Y (.slice A n c) l) : A = none → c = 0 := own_none h.own
theorem OwnN.row {A : Option Addr} {c : Nat} (h : OwnN w0 W e X Y (.slice A l.length c) l) : RowT enC W X A l := rowT_of_own h.own fun g hg => (h.xy g hg).1
theorem OwnN.form {v : Value} (h : OwnN w0 W e X Y v l) : ∃ A c, v = .slice A l.length c := own_form h.own
theorem OwnN.of_new {A : Option Addr} {c : Nat} (h : W2.ownsRow W.heap.size e 3 (.slice A l.length c) l.length (l.flatMap enC)) (hw : w0.heap.size ≤ W.heap.size) : OwnN w0 W2 e (XN X W W2) (XN Y W W2) (.slice A l.length c) l := ⟨own_less h hw, fun g hg => ⟨.inr (h.lt g hg), .inr (h.lt g hg)⟩⟩
end
theorem rowT_old {w0 W : World} {X : Nat → Prop} {A : Option Addr} {l : List EnJ} {D : Nat → Prop} (h : RowT enC w0 D A l) (hb : Below w0.heap.size w0 W) (hX : ∀ k, k < w0.heap.size → X k) : RowT enC W X A l := ((h.cap).below hb).mono fun k hk => hX k hk.2
theorem JX.grew {w0 W W2 : World} {X Y : Nat → Prop} {b jb : Nat} {S : FS} {n : ByteArray} {R : Nat → Prop} (h : JX w0 W X Y b S jb n) (hf : FX w0 W2 (XN X W W2) (XN Y W W2) b S) (ho : Only R W W2) (hj : ¬ R jb) : JX w0 W2 (XN X W W2) (XN Y W W2) b S jb n := ⟨hf, h.box.keep ho hj, .inl h.xs⟩
end
section
open Go
theorem FS.At.clearJ {k : Nat} {S : FS} (h : S.At k) (n : ByteArray) : (clearJ S n).1.At (k + 1) := by
 unfold Go.Proofs.YteafcaambnfdoaaGreatDoor.clearJ
 split
 ·exact h.does ⟨3, otJ n, ⟨#[]⟩, [], 0, []⟩ (by show (0 : Int) ≤ _; decide)
 ·exact h.mono (Nat.le_succ k)
theorem FS.At.remJ {k : Nat} {S : FS} (h : S.At k) (n : ByteArray) : (remJ S n).1.At (k + 1) := h.does ⟨3, otJ n, ⟨#[]⟩, [], 0, []⟩ (by show (0 : Int) ≤ _; decide)
theorem FS.At.syncJ {k : Nat} {S : FS} (h : S.At k) (n : ByteArray) : (syncJ S n).1.At (k + 1) := by
 unfold Go.Proofs.YteafcaambnfdoaaGreatDoor.syncJ
 split
 ·exact h.mono (Nat.le_succ k)
 ·exact h.does ⟨1, n, ⟨#[]⟩, [], 0, []⟩ (by show (0 : Int) ≤ _; decide)
theorem FS.At.openJ {k : Nat} {S : FS} (h : S.At k) (n : ByteArray) : (openJ S n).1.At (k + 2) := by
 have h1 := h.clearJ n
 have hl := read_len h1.ok n
 have h2 : ((Go.Proofs.YteafcaambnfdoaaGreatDoor.clearJ S n).1.cut n (entriesJ ((Go.Proofs.YteafcaambnfdoaaGreatDoor.clearJ S n).1.read n).1).2).1.At (k + 2) := h1.does ⟨4, n, ⟨#[]⟩, [], ((entriesJ ((Go.Proofs.YteafcaambnfdoaaGreatDoor.clearJ S n).1.read n).1).2 : Int), []⟩ (by
  show ((entriesJ ((Go.Proofs.YteafcaambnfdoaaGreatDoor.clearJ S n).1.read n).1).2 : Int) ≤ _
  have := (entries_is ((Go.Proofs.YteafcaambnfdoaaGreatDoor.clearJ S n).1.read n).1).2.2.2
  omega)
 have h1' := h1.mono (Nat.le_succ (k + 1))
 have h0 := h.mono (show k ≤ k + 2 by omega)
 unfold Go.Proofs.YteafcaambnfdoaaGreatDoor.openJ
 repeat' split
 all_goals first | exact h0 | exact h1' | exact h2
theorem FS.At.compactJ {k : Nat} {S : FS} (h : S.At k) (n : ByteArray) (l : List EnJ) : (compactJ S n l).1.At (k + 4 * (l.length + 2) + 1) := by
 rw [← compactC_is]
 have h1 : (packC S n l).1.At (k + 4 * (l.length + 2)) := at_stepsJ (l.length + 2) (fsC n l) (fsC_at n l) h
 unfold compactC
 split
 ·split
  ·exact h1.remJ n
  ·exact h1.mono (Nat.le_succ _)
 ·exact h.mono (by omega)
end
section
open Go Go.RowKit
set_option maxRecDepth 100000
set_option maxHeartbeats 1000000 in
theorem jopenN1_calls (V : World) (fb nb : Nat) (n : ByteArray) (h1 : BxA V fb 35 [.pointer none]) (h2 : BxA V nb 9 [.string n]) : Calls Tryz.prog 44 #[.pointer (some ⟨fb, 0, none⟩), .pointer (some ⟨nb, 0, none⟩)] V fun e V2 => e = .returned (.int .i64 1) ∧ Below V.heap.size V V2 := by
 have c0 := h1.c 0 rfl
 have c1 := h2.c 0 rfl
 have HC := Lib.hid (jamiss12_nil V n)
 clear h1 h2
 go_enter Tryz.func44, Tryz.ntmps44
 go_wp2_with fail
 refine HC.out.mono ?_
 rintro e w1 ⟨rfl, hb⟩
 have HB := Lib.hid hb
 clear hb HC
 go_wp2_with fail
 go_ret
 exact ⟨rfl, HB.out⟩
set_option maxHeartbeats 4000000 in
theorem jopen12_nil (w : World) (n : ByteArray) : Calls Tryz.prog 14 #[.pointer none, .string n] w fun e w' => e = .returned (.tuple #[.pointer none, .slice none 0 0, .int .i64 1]) ∧ Below w.heap.size w w' := by
 obtain ⟨w1, hw1⟩ : ∃ w1, w1 = w.alloc (.cells #[.pointer none] 35) := ⟨_, rfl⟩
 obtain ⟨w2, hw2⟩ : ∃ w2, w2 = w1.alloc (.cells #[.string n] 9) := ⟨_, rfl⟩
 obtain ⟨w3, hw3⟩ : ∃ w3, w3 = w2.alloc (.cells #[.pointer none, .string n] 90) := ⟨_, rfl⟩
 obtain ⟨w4, hw4⟩ : ∃ w4, w4 = w3.alloc (.cells #[.pointer (some ⟨w.heap.size + 1 + 1, 0, none⟩)] 37) := ⟨_, rfl⟩
 obtain ⟨w5, hw5⟩ : ∃ w5, w5 = w4.alloc (.cells #[.slice none 0 0] 30) := ⟨_, rfl⟩
 obtain ⟨w6, hw6⟩ : ∃ w6, w6 = w5.alloc (.cells #[.slice none 0 0] 38) := ⟨_, rfl⟩
 obtain ⟨fs, hfs⟩ : ∃ fs, fs = openFs w.heap.size (w.heap.size + 1) (w.heap.size + 1 + 1 + 1) (w.heap.size + 1 + 1 + 1 + 1) (w.heap.size + 1 + 1 + 1 + 1 + 1) := ⟨_, rfl⟩
 obtain ⟨w7, hw7⟩ : ∃ w7, w7 = w6.alloc (.cells (fs.flatMap fnC).toArray 44) := ⟨_, rfl⟩
 have s1 : w1.heap.size = w.heap.size + 1 := by rw [hw1]; simp
 have s2 : w2.heap.size = w.heap.size + 1 + 1 := by rw [hw2, World.size_alloc, s1]
 have s3 : w3.heap.size = w.heap.size + 1 + 1 + 1 := by rw [hw3, World.size_alloc, s2]
 have s4 : w4.heap.size = w.heap.size + 1 + 1 + 1 + 1 := by rw [hw4, World.size_alloc, s3]
 have s5 : w5.heap.size = w.heap.size + 1 + 1 + 1 + 1 + 1 := by rw [hw5, World.size_alloc, s4]
 have s6 : w6.heap.size = w.heap.size + 1 + 1 + 1 + 1 + 1 + 1 := by rw [hw6, World.size_alloc, s5]
 have b1 : Below w.heap.size w w1 := by rw [hw1]; exact (Below.refl _ w).alloc (Nat.le_refl _) _
 have b2 : Below w1.heap.size w1 w2 := by rw [hw2]; exact (Below.refl _ w1).alloc (Nat.le_refl _) _
 have b3 : Below w2.heap.size w2 w3 := by rw [hw3]; exact (Below.refl _ w2).alloc (Nat.le_refl _) _
 have b4 : Below w3.heap.size w3 w4 := by rw [hw4]; exact (Below.refl _ w3).alloc (Nat.le_refl _) _
 have b5 : Below w4.heap.size w4 w5 := by rw [hw5]; exact (Below.refl _ w4).alloc (Nat.le_refl _) _
 have b6 : Below w5.heap.size w5 w6 := by rw [hw6]; exact (Below.refl _ w5).alloc (Nat.le_refl _) _
 have b7 : Below w6.heap.size w6 w7 := by rw [hw7]; exact (Below.refl _ w6).alloc (Nat.le_refl _) _
 have b67 := b6.trans (b7.mono b6.size)
 have b57 := b5.trans (b67.mono b5.size)
 have b47 := b4.trans (b57.mono b4.size)
 have b37 := b3.trans (b47.mono b3.size)
 have b27 := b2.trans (b37.mono b2.size)
 have b17 := b1.trans (b27.mono b1.size)
 have x1 : BxA w7 w.heap.size 35 [.pointer none] := by
  have q := BxA.new w 35 [.pointer none]
  exact BxA.below (by rw [hw1]; exact q) b27
 have x2 : BxA w7 (w.heap.size + 1) 9 [.string n] := by
  have q := BxA.new w1 9 [.string n]
  rw [s1] at q
  exact BxA.below (by rw [hw2]; exact q) b37
 have x7 : BxA w7 w6.heap.size 44 (fs.flatMap fnC) := by rw [hw7]; exact BxA.new w6 _ _
 rw [s6] at x7
 subst hfs
 have HT : Hid (Calls Tryz.prog 43 #[.slice (some ⟨w.heap.size + 1 + 1 + 1 + 1 + 1 + 1, 0, none⟩) 4 4] w7 fun e V2 => e = .returned (.int .i64 1) ∧ Below w.heap.size w V2) := Lib.hid (by
  refine (jturn12_calls w7 _ 4 (openFs w.heap.size (w.heap.size + 1) (w.heap.size + 1 + 1 + 1) (w.heap.size + 1 + 1 + 1 + 1) (w.heap.size + 1 + 1 + 1 + 1 + 1)) (fun _ => True) (fun i W => i = 0 ∧ W = w7) (fun z W => z = 1 ∧ Below w.heap.size w W) (by show 4 ≤ 1000; decide) ?_ ?_ ?_ ⟨rfl, rfl⟩).mono ?_
  ·rintro i W ⟨_, rfl⟩
   exact rowT_box x7 trivial
  ·intro x hx args W
   unfold openFs at hx
   simp only [List.mem_cons, List.not_mem_nil, or_false] at hx
   rcases hx with rfl | rfl | rfl | rfl
   ·exact enters_of Tryz.func44 (by kernel_rfl) rfl args W
   ·exact enters_of Tryz.func46 (by kernel_rfl) rfl args W
   ·exact enters_of Tryz.func48 (by kernel_rfl) rfl args W
   ·exact enters_of Tryz.func50 (by kernel_rfl) rfl args W
  ·rintro i x hx W ⟨rfl, rfl⟩
   injection hx with hx
   subst hx
   refine (jopenN1_calls W _ _ n x1 x2).mono ?_
   rintro e W2 ⟨rfl, hb⟩
   exact ⟨1, rfl, fun h => absurd h (by decide), fun _ => ⟨rfl, b17.trans (hb.mono b17.size)⟩⟩
  ·rintro e W ⟨z, rfl, h0, h1⟩
   by_cases hz : z = 0
   ·have := (h0 hz).1
    exact absurd this (by simp [openFs])
   ·obtain ⟨rfl, hb⟩ := h1 hz
    exact ⟨rfl, hb⟩)
 have HW7 : Hid (w7 = (((((((w.alloc (.cells #[.pointer none] 35)).alloc (.cells #[.string n] 9)).alloc (.cells #[.pointer none, .string n] 90)).alloc (.cells #[.pointer (some ⟨w.heap.size + 1 + 1, 0, none⟩)] 37)).alloc (.cells #[.slice none 0 0] 30)).alloc (.cells #[.slice none 0 0] 38)).alloc (.cells ((openFs w.heap.size (w.heap.size + 1) (w.heap.size + 1 + 1 + 1) (w.heap.size + 1 + 1 + 1 + 1) (w.heap.size + 1 + 1 + 1 + 1 + 1)).flatMap fnC).toArray 44))) := Lib.hid (by rw [hw7, hw6, hw5, hw4, hw3, hw2, hw1])
 unfold openFs at HW7
 simp only [List.flatMap_cons, List.flatMap_nil, List.append_nil, List.cons_append, List.nil_append] at HW7
 rw [HW7.out] at HT
 clear x1 x2 x7 b17 b27 b37 b47 b57 b67 b1 b2 b3 b4 b5 b6 b7 s1 s2 s3 s4 s5 s6 hw1 hw2 hw3 hw4 hw5 hw6 hw7 HW7
 go_enter Tryz.func14, Tryz.ntmps14
 go_wp2_with fail
 refine HT.out.mono ?_
 rintro e v1 ⟨rfl, hb⟩
 have HB := Lib.hid hb
 clear hb HT
 go_wp2_with fail
 go_ret3
 exact ⟨rfl, HB.out⟩
end
section
open Go Go.RowKit
open Go.Lib (hid)
set_option maxRecDepth 100000
theorem OpenTo.jx {w0 w w' : World} {X Y X2 Y2 : Nat → Prop} {b : Nat} {n : ByteArray} {S : FS} {v : Value} {A : Option Addr} {c : Nat} {l : List EnJ} (h : OpenTo w0 w X Y b n w' S v A c l 0 X2 Y2) : ∃ jb, v = .pointer (some ⟨jb, 0, none⟩) ∧ JX w0 w' X2 Y2 b S jb n ∧ w.heap.size ≤ jb := by
 have hj := h.j
 rw [if_pos rfl] at hj
 obtain ⟨jb, hv, h1, h2, h3⟩ := hj
 exact ⟨jb, hv, ⟨h.fx, h3, h1⟩, h2⟩
theorem en_first {w : World} {D : Nat → Prop} {A : Option Addr} {v : EnJ} {r : List EnJ} (h : RowT enC w D A (v :: r)) : ∃ g o, A = some ⟨g, o, none⟩ ∧ w.cell? ⟨g, o, none⟩ = some (.int .i64 v.t) ∧ w.cell? ⟨g, o + 1, none⟩ = some (.string (bs v.d)) ∧ w.cell? ⟨g, o + 2, none⟩ = some (.string (bs v.c)) := by
 obtain ⟨g, o, e, _, _, c0, c1, c2⟩ := en_at h (k := 0) (v := v) rfl
 rw [Nat.zero_mul, Nat.add_zero] at c0 c1 c2
 exact ⟨g, o, e, c0, c1, c2⟩
set_option maxHeartbeats 8000000 in
theorem jalive12_calls (w : World) (ht : LaysR w) : Calls Tryz.prog 9 #[] w fun e w' => e = .returned (.bool true) ∧ Below w.heap.size w w' := by
 have at1 : av1.At 1 := at_write FS.At.new hN eaJ
 have at2 : av2.At 2 := at1.syncJ hN
 have at3 : av3.At 3 := at_write at2 hN ebJ
 have at4 : av4.At 4 := at_write at3 hN ecJ
 have at5 : av5.At 4 := at4.crash _
 have at6 : av6.At 6 := at5.openJ hN
 have at7 : av7.At 30 := (at6.compactJ hN [exJ]).mono (by decide)
 have HAt := hid (And.intro at1 (And.intro at2 (And.intro at3 (And.intro at4 (And.intro at5 (And.intro at6 at7))))))
 have HT := hid ht
 have hnn : hN.size ≤ 1000 := by decide
 clear at1 at2 at3 at4 at5 at6 at7 ht
 go_enter Tryz.func9, Tryz.ntmps9
 go_wp2_with fail
 refine (fnew_calls w).mono ?_
 rintro e w1 ⟨b, rfl, hin⟩
 have HO := hid (jopen12_calls w w1 _ _ b FS.new (FX.of_in hin) hN hnn 0 FS.At.new (by decide) HT.out)
 rw [open_new hN (by decide) (by decide)] at HO
 simp only at HO
 clear hin
 go_wp2_with fail
 refine HO.out.mono ?_
 rintro e w2 ⟨v, A, c, X2, Y2, rfl, hO⟩
 obtain ⟨jb, rfl, hj, _⟩ := hO.jx
 have HA1 := hid (jappend12_calls w w2 X2 Y2 b FS.new jb hN hj (FS.At.new.fit (by decide)) HT.out eaJ)
 rw [av_1] at HA1
 clear hO hj HO
 go_wp2_with fail
 refine HA1.out.mono ?_
 rintro e w3 ⟨rfl, hj, _⟩
 have HS := hid (jsync12_calls w w3 X2 Y2 b av1 jb hN hj (HAt.out.1.fit (by decide)))
 rw [av_2] at HS
 clear hj HA1
 go_wp2_with fail
 refine HS.out.mono ?_
 rintro e w4 ⟨rfl, hj, _⟩
 have HA2 := hid (jappend12_calls w w4 X2 Y2 b av2 jb hN hj (HAt.out.2.1.fit (by decide)) HT.out ebJ)
 clear hj HS
 go_wp2_with fail
 refine HA2.out.mono ?_
 rintro e w5 ⟨rfl, hj, _⟩
 have HA3 := hid (jappend12_calls w w5 X2 Y2 b av3 jb hN hj (HAt.out.2.2.1.fit (by decide)) HT.out ecJ)
 clear hj HA2
 go_wp2_with fail
 refine HA3.out.mono ?_
 rintro e w6 ⟨rfl, hj, _⟩
 have hbK := (Below.refl _ w6).alloc (Nat.le_refl _) (.cells #[.bool false, .bool true] 4)
 have hjK := hj.below hbK
 have hltK : w6.heap.size < (w6.alloc (.cells #[.bool false, .bool true] 4)).heap.size := by simp
 have hrK : RowT boolC (w6.alloc (.cells #[.bool false, .bool true] 4)) (XN X2 w6 (w6.alloc (.cells #[.bool false, .bool true] 4))) (some ⟨w6.heap.size, 0, none⟩) [false, true] := rowT_box (t := 4) (BxA.new w6 4 [.bool false, .bool true]) (XN.new hltK)
 have HCr := hid (hjK.fx.step (S2 := av5) (fun O D hh hXO => fcrash_calls _ O D b av4 hh (HAt.out.2.2.2.1.fit (by decide)) (some ⟨w6.heap.size, 0, none⟩) 2 [false, true] (hrK.mono fun k hk => (hXO k hk).2) (by decide)))
 clear hj hbK hjK hltK hrK HA3
 go_wp2_with fail
 refine HCr.out.mono ?_
 rintro e w7 ⟨rfl, hf, _⟩
 have HO2 := hid (jopen12_calls w w7 _ _ b av5 hf hN hnn 4 HAt.out.2.2.2.2.1 (by decide) HT.out)
 rw [av_5] at HO2
 simp only at HO2
 clear hf HCr
 go_wp2_with fail
 refine HO2.out.mono ?_
 rintro e w8 ⟨v, A2, c2, X3, Y3, rfl, hO⟩
 obtain ⟨jk, rfl, hj, _⟩ := hO.jx
 have hbE := (Below.refl _ w8).alloc (Nat.le_refl _) (.cells (enC exJ).toArray 56)
 have hltE : w8.heap.size < (w8.alloc (.cells (enC exJ).toArray 56)).heap.size := by simp
 have hjE := hj.below hbE
 have hrE : RowT enC (w8.alloc (.cells (enC exJ).toArray 56)) (XN X3 w8 (w8.alloc (.cells (enC exJ).toArray 56))) (some ⟨w8.heap.size, 0, none⟩) [exJ] := rowT_box (t := 56) (BxA.new w8 56 (enC exJ)) (XN.new hltE)
 have HL := hid ((hO.row.below hbE).mono (fun k hk => (.inl hk : XN X3 w8 (w8.alloc (.cells (enC exJ).toArray 56)) k)))
 have HC := hid (jcompact12_calls w _ _ _ b av6 jk hN hjE 6 HAt.out.2.2.2.2.2.1 hnn HT.out (some ⟨w8.heap.size, 0, none⟩) 1 [exJ] hrE (by decide))
 rw [av_6] at HC
 clear hO hj hbE hltE hjE hrE HO2
 go_wp2_with fail
 refine HC.out.mono ?_
 rintro e w9 ⟨rfl, hj, ho⟩
 have HL9 := hid (HL.out.keep ho (fun _ hi hn => hn hi))
 have HR := hid (jread12_calls w w9 _ _ b av7 jk hN hj (HAt.out.2.2.2.2.2.2.fit (by decide)) HT.out)
 rw [av_7] at HR
 simp only at HR
 have HB9 := hid hj.fx.bel
 clear hj ho HC HL
 go_wp2_with fail
 refine HR.out.mono ?_
 rintro e w10 ⟨A3, c3, rfl, hown, hb⟩
 have HM := hid (rowT_of_own (C := enC) (R := fun _ => True) hown (fun _ _ => trivial))
 have HL10 := hid (HL9.out.below hb)
 have HB10 := hid (HB9.out.trans (hb.mono HB9.out.size))
 clear hown hb HR HL9 HB9
 go_wp2_with fail
 refine (jopen12_nil w10 hN).mono ?_
 rintro e w11 ⟨rfl, hb⟩
 obtain ⟨g1, o1, rfl, p0, p1, p2⟩ := en_first (HL10.out.below hb)
 obtain ⟨g2, o2, rfl, q0, q1, q2⟩ := en_first (HM.out.below hb)
 have HB11 := hid (HB10.out.trans (hb.mono HB10.out.size))
 have HRi : Hid (Calls Tryz.prog 30 #[.agg #[.int .i64 0, .string ⟨#[]⟩, .string ⟨#[]⟩]] w11 fun x w' => x = .returned (.bool false) ∧ Below w11.heap.size w11 w') := hid (by
  have h := jright12_calls EnJ.none_ w11
  rwa [decide_eq_false av_right.2.2.2.2] at h)
 have p2' : w11.cell? ⟨g1, o1 + 2, none⟩ = some (.string ⟨#[97]⟩) := p2
 have q0' : w11.cell? ⟨g2, o2, none⟩ = some (.int .i64 5) := q0
 have q1' : w11.cell? ⟨g2, o2 + 1, none⟩ = some (.string ⟨#[47]⟩) := q1
 have q2' : w11.cell? ⟨g2, o2 + 2, none⟩ = some (.string ⟨#[120]⟩) := q2
 clear hb HL10 HM HB10 p0 p1 p2 q0 q1 q2
 go_wp2_with fail
 refine HRi.out.mono ?_
 rintro e w12 ⟨rfl, hb⟩
 have HB12 := hid (HB11.out.trans (hb.mono HB11.out.size))
 clear hb HRi
 go_wp2_with fail
 go_ret
 exact ⟨rfl, HB12.out⟩
end
end Go.Proofs.YteafcaambnfdoaaGreatDoor
