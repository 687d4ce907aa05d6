/-
  Layer 7 and what it stands on, part 45 (JBnd JW JWOpen).
-/
import Derived.Test.YteafcaambnfdoaaGreatDoorPg37
import Derived.Test.YteafcaambnfdoaaGreatDoorPg39
import Derived.Test.YteafcaambnfdoaaGreatDoorPg44
namespace Go.Proofs.YteafcaambnfdoaaGreatDoor
section
open Go
theorem hN_le : hN.size ≤ 1000 := by decide
def EnJ.len (e : EnJ) : Nat := e.d.length + e.c.length
def sumE (l : List EnJ) : Nat := (l.map EnJ.len).sum
def OpH.len (x : OpH) : Nat := x.e.d.length + x.e.c.length + x.b.length + x.ks.length + 20 * x.l.length + sumE x.l
def OpH.lv (x : OpH) : Nat := 4 * x.l.length + 20
def totH (xs : List OpH) : Nat := (xs.map OpH.len).sum
def lvH (xs : List OpH) : Nat := (xs.map OpH.lv).sum
section
variable {α : Type} (f : α → Nat)
end
def doH (S : FS) (x : OpH) : FS × Int :=
 if x.k = 0 then appendJ S hN x.e else if x.k = 1 then syncJ S hN else if x.k = 2 then compactJ S hN x.l else if x.k = 3 then ((openJ S hN).1, 0) else if x.k = 4 then (S.arm x.i, 0) else if x.k = 5 then (S.fault_ x.i, 0) else
 if x.k = 6 then ((openJ (S.crash x.ks) hN).1, 0) else if x.k = 7 then S.write hN x.b else if x.k = 8 then S.write (otJ hN) x.b else (S, 0)
end
section
open Go Go.RowKit
set_option maxRecDepth 100000
abbrev jP (jb : Nat) : Value := .pointer (some ⟨jb, 0, none⟩)
abbrev wldC (b : Nat) (jv : Value) (A : Option Addr) (n c : Nat) (S : FS) : List Value := [fp b, jv, .slice A n c, .int .i64 (S.no : Int), .int .i64 (S.ops : Int), .int .i64 S.fuse, .int .i64 S.fault, .bool S.down]
theorem rowE_ne {W : World} {D : Nat → Prop} {A : Option Addr} {l : List EnJ} {wb : Nat} {t : TypeId} {cs : List Value} (h : RowT enC W D A l) (hb : BxA W wb t cs) (hs : ∀ s, Value.string s ∉ cs) : RowT enC W (fun k => D k ∧ k ≠ wb) A l := fun hn => by
 obtain ⟨g, o, e, hD, hg, hc⟩ := h hn
 refine ⟨g, o, e, ⟨hD, fun he => ?_⟩, hg, hc⟩
 subst he
 obtain ⟨x, r, rfl⟩ : ∃ x r, l = x :: r := by
  match l, hn with
  | x :: r, _ => exact ⟨x, r, rfl⟩
 have h1 := hc 1 (.string (bs x.d)) rfl
 simp [World.cell?, show W.heap[g]? = _ from hb] at h1
 exact hs _ (List.mem_of_getElem? h1)
theorem stA_ext {W : World} {D : Nat → Prop} {v : Value} {S : FS} (h : StAt W D v S) : ∃ A n c, v = stV A n c S ∧ StAt W D (stV A n c S) S := by
 obtain ⟨A, c, vs, rfl, h1, h2⟩ := h
 exact ⟨A, vs.length, c, rfl, A, c, vs, rfl, h1, h2⟩
structure WA (w0 W : World) (X Y : Nat → Prop) (wb b : Nat) (jv : Value) (S Sd : FS) (A : Option Addr) (n c : Nat) : Prop where
 fx : FX w0 W X Y b S
 box : BxA W wb 53 (wldC b jv A n c Sd)
 st : StAt W (fun k => X k ∧ k ≠ wb) (stV A n c Sd) Sd
 xs : X wb
 ys : Y wb
 ge : w0.heap.size ≤ wb
 old : ∀ k, k < w0.heap.size → X k
section
variable {w0 W W2 : World} {X Y X2 Y2 : Nat → Prop} {wb b : Nat} {jv : Value} {p : Option Addr} {S S2 Sd Sd2 : FS} {A A2 : Option Addr} {n n2 c c2 : Nat}
theorem WA.below (h : WA w0 W X Y wb b jv S Sd A n c) (hb : Below W.heap.size W W2) : WA w0 W2 (XN X W W2) (XN Y W W2) wb b jv S Sd A n c :=
 ⟨h.fx.below hb, h.box.below hb, (h.st.below hb).mono (fun _ hk => ⟨.inl hk.1, hk.2⟩), .inl h.xs, .inl h.ys, h.ge, fun k hk => .inl (h.old k hk)⟩
theorem WA.lt (h : WA w0 W X Y wb b jv S Sd A n c) : wb < W.heap.size := h.box.lt
theorem WA.turn (h : WA w0 W X Y wb b jv S Sd A n c) (hf : FX w0 W2 X2 Y2 b S2) (hX : ∀ k, X k → X2 k) (hY : ∀ k, Y k → Y2 k) (ho : Only (fun k => ¬ X k) W W2) : WA w0 W2 X2 Y2 wb b jv S2 Sd A n c :=
 ⟨hf, h.box.keep ho (fun hn => hn h.xs), (h.st.keep ho (fun _ hk hn => hn hk.1)).mono (fun k hk => ⟨hX k hk.1, hk.2⟩), hX _ h.xs, hY _ h.ys, h.ge, fun k hk => hX k (h.old k hk)⟩
theorem WA.doc (h : WA w0 W X Y wb b jv S Sd A n c) {v : Value} (hs : StAt W2 (DW (fun k => X k ∧ k ≠ wb) W) v Sd2) : StAt W2 (fun k => XN X W W2 k ∧ k ≠ wb) v Sd2 :=
 hs.cap.mono fun k hk => by
  have := h.lt
  rcases hk with ⟨⟨h1, h2⟩ | h1, h3⟩
  ·exact ⟨.inl h1, h2⟩
  ·exact ⟨.inr ⟨h1, h3⟩, fun e => by omega⟩
def sixW (W : World) (M : Nat) (v0 v1 v2 v3 v4 v5 : Value) : World := (((((W.setCell ⟨M, 2, none⟩ v0).setCell ⟨M, 3, none⟩ v1).setCell ⟨M, 4, none⟩ v2).setCell ⟨M, 5, none⟩ v3).setCell ⟨M, 6, none⟩ v4).setCell ⟨M, 7, none⟩ v5
theorem sixW_only (W : World) (M : Nat) (v0 v1 v2 v3 v4 v5 : Value) : Only (fun i => i = M) W (sixW W M v0 v1 v2 v3 v4 v5) :=
 ((((((Only.refl (fun i => i = M) W).set (p := ⟨M, 2, none⟩) (.inl rfl) _).set (p := ⟨M, 3, none⟩) (.inl rfl) _).set (p := ⟨M, 4, none⟩) (.inl rfl) _).set (p := ⟨M, 5, none⟩) (.inl rfl) _).set (p := ⟨M, 6, none⟩) (.inl rfl) _).set (p := ⟨M, 7, none⟩) (.inl rfl) _
theorem sixW_box {W : World} {M : Nat} {t : TypeId} {y0 y1 z0 z1 z2 z3 z4 z5 : Value} (h : BxA W M t [y0, y1, z0, z1, z2, z3, z4, z5]) (v0 v1 v2 v3 v4 v5 : Value) : BxA (sixW W M v0 v1 v2 v3 v4 v5) M t [y0, y1, v0, v1, v2, v3, v4, v5] := (((((h.set 2 v0).set 3 v1).set 4 v2).set 5 v3).set 6 v4).set 7 v5
theorem WA.put (h : WA w0 W X Y wb b jv S Sd A n c) (hs : StAt W (fun k => X k ∧ k ≠ wb) (stV A2 n2 c2 Sd2) Sd2) :
  WA w0 (sixW W wb (.slice A2 n2 c2) (.int .i64 (Sd2.no : Int)) (.int .i64 (Sd2.ops : Int)) (.int .i64 Sd2.fuse) (.int .i64 Sd2.fault) (.bool Sd2.down)) X Y wb b jv S Sd2 A2 n2 c2 :=
 have ho := sixW_only W wb (.slice A2 n2 c2) (.int .i64 (Sd2.no : Int)) (.int .i64 (Sd2.ops : Int)) (.int .i64 Sd2.fuse) (.int .i64 Sd2.fault) (.bool Sd2.down)
 ⟨h.fx.wrote ho (fun k e => by rw [e]; exact h.ys) (fun k e => by rw [e]; exact h.ge), sixW_box h.box _ _ _ _ _ _, hs.keep ho (fun k hk e => hk.2 e), h.xs, h.ys, h.ge, h.old⟩
theorem WA.setj (h : WA w0 W X Y wb b jv S Sd A n c) (v : Value) : WA w0 (W.setCell ⟨wb, 1, none⟩ v) X Y wb b v S Sd A n c :=
 have ho : Only (fun i => i = wb) W (W.setCell ⟨wb, 1, none⟩ v) := (Only.refl (fun i => i = wb) W).set (p := ⟨wb, 1, none⟩) (.inl rfl) v
 ⟨h.fx.wrote ho (fun k e => by rw [e]; exact h.ys) (fun k e => by rw [e]; exact h.ge), h.box.set 1 v, h.st.keep ho (fun k hk e => hk.2 e), h.xs, h.ys, h.ge, h.old⟩
theorem WA.cells (h : WA w0 W X Y wb b jv S Sd A n c) : W.cell? ⟨wb, 0, none⟩ = some (fp b) ∧ W.cell? ⟨wb, 1, none⟩ = some jv ∧ W.cell? ⟨wb, 2, none⟩ = some (.slice A n c) ∧ W.cell? ⟨wb, 3, none⟩ = some (.int .i64 (Sd.no : Int)) ∧ W.cell? ⟨wb, 4, none⟩ = some (.int .i64 (Sd.ops : Int)) ∧ W.cell? ⟨wb, 5, none⟩ = some (.int .i64 Sd.fuse) ∧ W.cell? ⟨wb, 6, none⟩ = some (.int .i64 Sd.fault) ∧ W.cell? ⟨wb, 7, none⟩ = some (.bool Sd.down) :=
 ⟨h.box.c 0 rfl, h.box.c 1 rfl, h.box.c 2 rfl, h.box.c 3 rfl, h.box.c 4 rfl, h.box.c 5 rfl, h.box.c 6 rfl, h.box.c 7 rfl⟩
theorem WA.ents (h : WA w0 W X Y wb b (.pointer p) S Sd A n c) {D : Nat → Prop} {LA : Option Addr} {l : List EnJ} (hr : RowT enC W D LA l) : RowT enC W (fun k => D k ∧ k ≠ wb) LA l :=
 rowE_ne hr h.box (fun s hs => by simp [wldC, fp] at hs)
end
structure WJ (w0 W : World) (X Y : Nat → Prop) (wb b jb : Nat) (S Sd : FS) (A : Option Addr) (n c : Nat) : Prop where
 wa : WA w0 W X Y wb b (jP jb) S Sd A n c
 jbx : BxA W jb 90 (jnC b hN)
 jx : X jb
 ne : jb ≠ wb
section
variable {w0 W W2 : World} {X Y X2 Y2 : Nat → Prop} {wb b jb : Nat} {S S2 Sd Sd2 : FS} {A A2 : Option Addr} {n n2 c c2 : Nat}
theorem WJ.j (h : WJ w0 W X Y wb b jb S Sd A n c) : JX w0 W X Y b S jb hN := ⟨h.wa.fx, h.jbx, h.jx⟩
theorem WJ.below (h : WJ w0 W X Y wb b jb S Sd A n c) (hb : Below W.heap.size W W2) : WJ w0 W2 (XN X W W2) (XN Y W W2) wb b jb S Sd A n c := ⟨h.wa.below hb, h.jbx.below hb, .inl h.jx, h.ne⟩
theorem WJ.turn (h : WJ w0 W X Y wb b jb S Sd A n c) (hf : FX w0 W2 X2 Y2 b S2) (hX : ∀ k, X k → X2 k) (hY : ∀ k, Y k → Y2 k) (ho : Only (fun k => ¬ X k) W W2) : WJ w0 W2 X2 Y2 wb b jb S2 Sd A n c := ⟨h.wa.turn hf hX hY ho, h.jbx.keep ho (fun hn => hn h.jx), hX _ h.jx, h.ne⟩
theorem WJ.turnJ (h : WJ w0 W X Y wb b jb S Sd A n c) (hj : JX w0 W2 X Y b S2 jb hN) (ho : Only (fun k => ¬ X k) W W2) : WJ w0 W2 X Y wb b jb S2 Sd A n c := h.turn hj.fx (fun _ h => h) (fun _ h => h) ho
end
end
section
open Go Go.RowKit
set_option maxRecDepth 100000
theorem entsJ_len : ∀ l : List (List UInt8), (entsJ l).1.length ≤ l.length
 | [] => Nat.le_refl _
 | p :: l => by
  have h := entsJ_len l
  rw [ents_cons]
  cases unpackJ p with
  | none => exact Nat.zero_le _
  | some x => simp only [List.length_cons]; omega
theorem entries_few (b : List UInt8) : (entriesJ b).1.length ≤ b.length := by
 have h1 := entsJ_len (scanF b).1
 have h2 := packs_six (scanF b).1
 have h3 := congrArg List.length (scan_is b).1
 rw [List.length_append] at h3
 show (entsJ (scanF b).1).1.length ≤ _
 omega
theorem openJ_len {S : FS} {k : Nat} (h : S.At k) (n : ByteArray) : (openJ S n).2.1.length ≤ 65536 := by
 have h1 := read_len (h.clearJ n).ok n
 have h2 := entries_few ((clearJ S n).1.read n).1
 unfold openJ
 repeat' split
 all_goals first
  | exact Nat.zero_le _
  | (show (entriesJ ((clearJ S n).1.read n).1).1.length ≤ _; omega)
def OpenedW (W' : World) (X' : Nat → Prop) (wb b : Nat) (jv jv' : Value) (z : Int) : Prop := if z = 0 then ∃ jb, jv' = jP jb ∧ X' jb ∧ jb ≠ wb ∧ BxA W' jb 90 (jnC b hN) else jv' = jv
set_option maxHeartbeats 8000000 in
theorem wopen12_calls (w0 W : World) (X Y : Nat → Prop) (wb b : Nat) (p : Option Addr) (S : FS) (A : Option Addr) (n c : Nat) (h : WA w0 W X Y wb b (.pointer p) S S A n c) (m : Nat) (hA : S.At m) (hm : m + 10 ≤ 100000) (ht : LaysR w0) :
  Calls Tryz.prog 32 #[.pointer (some ⟨wb, 0, none⟩)] W fun e W' => e = .returned (.bool true) ∧ ∃ X2 Y2 jv' A2 n2 c2, WA w0 W' X2 Y2 wb b jv' (openJ S hN).1 (openJ S hN).1 A2 n2 c2 ∧ (∀ k, X k → X2 k) ∧ (∀ k, Y k → Y2 k) ∧ Only (fun k => ¬ X k ∨ k = wb) W W' ∧ OpenedW W' X2 wb b (.pointer p) jv' (openJ S hN).2.2 := by
 have hln := openJ_len hA hN
 have hO := jopen12_calls w0 W X Y b S h.fx hN hN_le m hA hm ht
 have hAo := hA.openJ hN
 have hD := fun w1 D v hs => ropen12_calls w1 D v S hN m (by decide) hs hA hm
 obtain ⟨res, hres⟩ : ∃ res, res = openJ S hN := ⟨_, rfl⟩
 rw [← hres] at hO hAo hln ⊢
 simp only [← hres] at hD
 obtain ⟨S2, l, z⟩ := res
 simp only at hO hAo hln hD ⊢
 have HO := Lib.hid hO
 have HD := Lib.hid hD
 have HW := Lib.hid h
 have HLn := Lib.hid hln
 obtain ⟨x0, x1, x2, x3, x4, x5, x6, x7⟩ := h.cells
 clear hO hAo hD hres h hA hln
 go_enter Tryz.func32, Tryz.ntmps32
 go_wp2_with fail
 refine HO.out.mono ?_
 rintro e w1 ⟨v, A1, c1, X1, Y1, rfl, hO⟩
 have hw1 := HW.out.turn hO.fx hO.hx hO.hy hO.only
 have HR1 := Lib.hid (hw1.ents hO.row)
 have HJ := Lib.hid hO.j
 have HHx := Lib.hid hO.hx
 have HHy := Lib.hid hO.hy
 have HOn := Lib.hid (hO.only.mono (R' := fun k => ¬ X k ∨ k = wb) (fun k hk => .inl (.inl hk)))
 have HNl := Lib.hid hO.nil_
 have HW1 := Lib.hid hw1
 have HWlt := Lib.hid (show wb < W.heap.size from HW.out.lt)
 clear x0 x1 x2 x3 x4 x5 x6 x7 HO hw1
 obtain ⟨x0, x1, x2, x3, x4, x5, x6, x7⟩ := HW1.out.cells
 have HD1 := Lib.hid (HD.out w1 _ _ HW1.out.st)
 unfold stV at HD1
 clear HD hO
 go_wp2_with fail
 refine HD1.out.mono ?_
 rintro e w2 ⟨v2, A2, c2, rfl, hst2, hrow2, hnil2, hb2⟩
 obtain ⟨A6, n6, c6, rfl, hst3⟩ := stA_ext (HW1.out.doc hst2)
 have hwlt7 : wb ≠ w2.heap.size := by have := HW1.out.lt; have := hb2.size; omega
 have ba := (Below.refl _ w2).alloc (Nat.le_refl _) (.cells (stC A6 n6 c6 S2).toArray 51)
 have hW7 := (HW1.out.below hb2).below ba
 have hS7 := (hst3.below ba).mono (D' := fun k => XN (XN X1 w1 w2) w2 (w2.alloc (.cells (stC A6 n6 c6 S2).toArray 51)) k ∧ k ≠ wb) (fun k hk => ⟨.inl hk.1, hk.2⟩)
 have nb := BxA.new w2 51 (stC A6 n6 c6 S2)
 have HR7 := Lib.hid ((HR1.out.below hb2).below ba)
 have HM7 := Lib.hid (((hrow2.below ba).mono (R' := fun k => w1.heap.size ≤ k ∧ k ≠ wb) (fun k hk => ⟨hk, fun e => by have := HW1.out.lt; omega⟩)))
 have HOn7 := Lib.hid ((HOn.out.trans (R' := fun _ => False) (Only.of_below hb2) (fun _ h => h.elim)).trans (R' := fun _ => False) (Only.of_below ba) (fun _ h => h.elim))
 have HHx7 : Hid (∀ k, X k → XN (XN X1 w1 w2) w2 (w2.alloc (.cells (stC A6 n6 c6 S2).toArray 51)) k) := Lib.hid (fun k hk => .inl (.inl (HHx.out k hk)))
 have HX17 : Hid (∀ k, X1 k → XN (XN X1 w1 w2) w2 (w2.alloc (.cells (stC A6 n6 c6 S2).toArray 51)) k) := Lib.hid (fun k hk => .inl (.inl hk))
 have HHy7 : Hid (∀ k, Y k → XN (XN Y1 w1 w2) w2 (w2.alloc (.cells (stC A6 n6 c6 S2).toArray 51)) k) := Lib.hid (fun k hk => .inl (.inl (HHy.out k hk)))
 have HOn17 := Lib.hid (((Only.of_below hb2 : Only (fun _ => False) w1 w2).trans (R' := fun _ => False) (Only.of_below ba) (fun _ h => h.elim)))
 generalize XN (XN X1 w1 w2) w2 (w2.alloc (.cells (stC A6 n6 c6 S2).toArray 51)) = X7 at hW7 hS7 HHx7 HX17
 generalize XN (XN Y1 w1 w2) w2 (w2.alloc (.cells (stC A6 n6 c6 S2).toArray 51)) = Y7 at hW7 HHy7
 obtain ⟨W7, hW7e⟩ : ∃ W7, w2.alloc (.cells (stC A6 n6 c6 S2).toArray 51) = W7 := ⟨_, rfl⟩
 rw [hW7e] at hW7 hS7 nb HR7 HM7 HOn7 HOn17
 unfold stV
 unfold stC at nb hW7e
 clear x0 x1 x2 x3 x4 x5 x6 x7 ba hst2 hst3 hrow2 HD1 HR1 hb2
 have HW8 := Lib.hid (hW7.put hS7)
 have n0 := nb.c 0 rfl
 have n1 := nb.c 1 rfl
 have n2 := nb.c 2 rfl
 have n3 := nb.c 3 rfl
 have n4 := nb.c 4 rfl
 have n5 := nb.c 5 rfl
 have f1 := hW7.box.free 1
 have f2 := hW7.box.free 2
 have f3 := hW7.box.free 3
 have f4 := hW7.box.free 4
 have f5 := hW7.box.free 5
 have f6 := hW7.box.free 6
 have f7 := hW7.box.free 7
 obtain ⟨y0, y1, y2, y3, y4, y5, y6, y7⟩ := hW7.cells
 have HR8 := Lib.hid (HR7.out.keep (sixW_only W7 wb (.slice A6 n6 c6) (.int .i64 (S2.no : Int)) (.int .i64 (S2.ops : Int)) (.int .i64 S2.fuse) (.int .i64 S2.fault) (.bool S2.down)) (fun k hk e => hk.2 e))
 have HM8 := Lib.hid (HM7.out.keep (sixW_only W7 wb (.slice A6 n6 c6) (.int .i64 (S2.no : Int)) (.int .i64 (S2.ops : Int)) (.int .i64 S2.fuse) (.int .i64 S2.fault) (.bool S2.down)) (fun k hk e => hk.2 e))
 have HOn8 := Lib.hid (HOn7.out.trans (sixW_only W7 wb (.slice A6 n6 c6) (.int .i64 (S2.no : Int)) (.int .i64 (S2.ops : Int)) (.int .i64 S2.fuse) (.int .i64 S2.fault) (.bool S2.down)) (fun k hk => .inl (.inr hk)))
 have HOn18 := Lib.hid ((HOn17.out.mono (R' := fun k => k = wb) (fun _ h => h.elim)).trans (sixW_only W7 wb (.slice A6 n6 c6) (.int .i64 (S2.no : Int)) (.int .i64 (S2.ops : Int)) (.int .i64 S2.fuse) (.int .i64 S2.fault) (.bool S2.down)) (fun k hk => .inl hk))
 clear hW7 hS7 nb HR7 HM7 HOn7 HOn17
 have q2 : (z == z) = true := beq_self_eq_true z
 by_cases hz : z = 0
 ·subst hz
  have hj := HJ.out
  rw [if_pos rfl] at hj
  obtain ⟨jb, rfl, hjX, hjge, hjbx⟩ := hj
  have hjne : jb ≠ wb := fun e => by have := HWlt.out; omega
  have ho9 : Only (fun i => i = wb) (sixW W7 wb (.slice A6 n6 c6) (.int .i64 (S2.no : Int)) (.int .i64 (S2.ops : Int)) (.int .i64 S2.fuse) (.int .i64 S2.fault) (.bool S2.down)) ((sixW W7 wb (.slice A6 n6 c6) (.int .i64 (S2.no : Int)) (.int .i64 (S2.ops : Int)) (.int .i64 S2.fuse) (.int .i64 S2.fault) (.bool S2.down)).setCell ⟨wb, 1, none⟩ (jP jb)) := (Only.refl (fun i => i = wb) _).set (p := ⟨wb, 1, none⟩) (.inl rfl) _
  have HW9 := Lib.hid (HW8.out.setj (jP jb))
  have HR9 := Lib.hid (HR8.out.keep ho9 (fun k hk e => hk.2 e))
  have HM9 := Lib.hid (HM8.out.keep ho9 (fun k hk e => hk.2 e))
  have HOn9 := Lib.hid (HOn8.out.trans ho9 (fun k hk => .inl (.inr hk)))
  have HJ9 := Lib.hid ((hjbx.keep HOn18.out hjne).keep ho9 hjne)
  have HJx := Lib.hid (HX17.out jb hjX)
  have HNe := Lib.hid hjne
  have HOld := Lib.hid (old12_calls _ _ A1 c1 l HR9.out (by have := HLn.out; omega))
  clear ho9 hjbx hjX hjge hjne HR8 HM8 HOn8 HOn18 HR9 HW8 HX17 HJ
  go_wp2_with fail
  refine HOld.out.mono ?_
  rintro e w10 ⟨A10, c10, rfl, hown10, hb10⟩
  have HSm := Lib.hid (rsame12_calls w10 (fun _ => True) _ A10 A2 c10 c2 l l (rowT_of_own hown10 (fun _ _ => trivial)) (HM9.out.below hb10) (by have := HLn.out; omega) (by have := HLn.out; omega))
  rw [decide_eq_true rfl] at HSm
  have HW10 := Lib.hid (HW9.out.below hb10)
  have HOn10 := Lib.hid (HOn9.out.trans (R' := fun _ => False) (Only.of_below hb10) (fun _ h => h.elim))
  have HJ10 := Lib.hid (HJ9.out.below hb10)
  clear hown10 hb10 HM9 HW9 HOn9 HJ9 HOld y0 y1 y2 y3 y4 y5 y6 y7 f1 f2 f3 f4 f5 f6 f7 n0 n1 n2 n3 n4 n5
  go_wp2_with fail
  refine HSm.out.mono ?_
  rintro e w11 ⟨rfl, hb11⟩
  have HW11 := Lib.hid (HW10.out.below hb11)
  have HOn11 := Lib.hid (HOn10.out.trans (R' := fun _ => False) (Only.of_below hb11) (fun _ h => h.elim))
  have HJ11 := Lib.hid (HJ10.out.below hb11)
  clear hb11 HSm HW10 HOn10 HJ10
  go_wp2_with fail
  go_ret
  exact ⟨rfl, _, _, _, _, _, _, HW11.out, fun k hk => .inl (.inl (HHx7.out k hk)), fun k hk => .inl (.inl (HHy7.out k hk)), HOn11.out, jb, rfl, .inl (.inl HJx.out), HNe.out, HJ11.out⟩
 ·have hj := HJ.out
  rw [if_neg hz] at hj
  subst hj
  have q1 : (z == 0) = false := beq_eq_false_iff_ne.2 hz
  have q3 : (z != 0) = true := bne_iff_ne.2 hz
  have HZ := Lib.hid hz
  have HOld := Lib.hid (old12_calls _ _ A1 c1 l HR8.out (by have := HLn.out; omega))
  clear HOn18 HR8 HX17 HJ hz
  go_wp2_with fail
  refine HOld.out.mono ?_
  rintro e w10 ⟨A10, c10, rfl, hown10, hb10⟩
  have HSm := Lib.hid (rsame12_calls w10 (fun _ => True) _ A10 A2 c10 c2 l l (rowT_of_own hown10 (fun _ _ => trivial)) (HM8.out.below hb10) (by have := HLn.out; omega) (by have := HLn.out; omega))
  rw [decide_eq_true rfl] at HSm
  have HW10 := Lib.hid (HW8.out.below hb10)
  have HOn10 := Lib.hid (HOn8.out.trans (R' := fun _ => False) (Only.of_below hb10) (fun _ h => h.elim))
  clear hown10 hb10 HM8 HW8 HOn8 HOld y0 y1 y2 y3 y4 y5 y6 y7 f1 f2 f3 f4 f5 f6 f7 n0 n1 n2 n3 n4 n5
  go_wp2_with fail
  refine HSm.out.mono ?_
  rintro e w11 ⟨rfl, hb11⟩
  have HW11 := Lib.hid (HW10.out.below hb11)
  have HOn11 := Lib.hid (HOn10.out.trans (R' := fun _ => False) (Only.of_below hb11) (fun _ h => h.elim))
  clear hb11 HSm HW10 HOn10
  go_wp2_with fail
  go_ret
  exact ⟨rfl, _, _, _, _, _, _, HW11.out, fun k hk => .inl (.inl (HHx7.out k hk)), fun k hk => .inl (.inl (HHy7.out k hk)), HOn11.out, by unfold OpenedW; rw [if_neg HZ.out]⟩
set_option maxHeartbeats 4000000 in
theorem wbegin12_calls (w : World) (ht : LaysR w) :
  Calls Tryz.prog 10 #[] w fun e w' => ∃ wb b jb X Y A n c, e = .returned (.pointer (some ⟨wb, 0, none⟩)) ∧ WJ w w' X Y wb b jb FS.new FS.new A n c := by
 have HT := Lib.hid ht
 clear ht
 go_enter Tryz.func10, Tryz.ntmps10
 go_wp2_with fail
 refine (fnew_calls w).mono ?_
 rintro e w1 ⟨b, rfl, hin⟩
 have HF1 := Lib.hid (FX.of_in hin)
 clear hin
 go_wp2_with fail
 refine (rnew10_calls w1).mono ?_
 rintro e w2 ⟨rfl, hb2⟩
 have ba := (Below.refl _ w2).alloc (Nat.le_refl _) (.cells (wldC b (.pointer none) none 0 0 FS.new).toArray 53)
 have nb := BxA.new w2 53 (wldC b (.pointer none) none 0 0 FS.new)
 have hf := (HF1.out.below hb2).below ba
 have hsz : w2.heap.size < (w2.alloc (.cells (wldC b (.pointer none) none 0 0 FS.new).toArray 53)).heap.size := by simp
 have hge : w.heap.size ≤ w2.heap.size := Nat.le_trans HF1.out.bel.size hb2.size
 have HW := Lib.hid (show WA w (w2.alloc (.cells (wldC b (.pointer none) none 0 0 FS.new).toArray 53)) _ _ w2.heap.size b (.pointer none) FS.new FS.new none 0 0 from ⟨hf, nb, new_at _ _, XN.new hsz, XN.new hsz, hge, fun k hk => .inl (.inl hk)⟩)
 have HO := Lib.hid (wopen12_calls w _ _ _ w2.heap.size b none FS.new none 0 0 HW.out 0 FS.At.new (by decide) HT.out)
 have he : openJ FS.new hN = (FS.new, [], 0) := open_new hN (by decide) (by decide)
 rw [he] at HO
 simp only at HO
 have x0 := nb.c 0 rfl
 unfold wldC at HO x0
 clear ba nb hf hsz hge he hb2 HF1
 go_wp2_with fail
 refine HO.out.mono ?_
 rintro e w3 ⟨rfl, X3, Y3, jv, A3, n3, c3, hw3, _, _, _, hj⟩
 unfold OpenedW at hj
 rw [if_pos rfl] at hj
 obtain ⟨jb, rfl, h1, h2, h3⟩ := hj
 have HW3 := Lib.hid (show WJ w w3 X3 Y3 w2.heap.size b jb FS.new FS.new A3 n3 c3 from ⟨hw3, h3, h1, h2⟩)
 clear hw3 h1 h2 h3 HO HW x0
 go_wp2_with fail
 go_ret
 exact ⟨_, _, _, _, _, _, _, _, rfl, HW3.out⟩
end
end Go.Proofs.YteafcaambnfdoaaGreatDoor
