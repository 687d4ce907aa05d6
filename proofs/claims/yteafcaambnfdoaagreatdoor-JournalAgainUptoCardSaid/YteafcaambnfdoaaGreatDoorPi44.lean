/-
  Layer 7 and what it stands on, part 44 (JBnd JW JS0 JS1 JS3 JWOpen JS4 JFew).
-/
import Derived.Test.YteafcaambnfdoaaGreatDoorPi22
import Derived.Test.YteafcaambnfdoaaGreatDoorPi39
import Derived.Test.YteafcaambnfdoaaGreatDoorPi43
import Derived.Deep.RegionHeld3
namespace Go.Proofs.YteafcaambnfdoaaGreatDoor
section
open Go
theorem hN_le : hN.size ≤ 1000 := by decide
def EnJ.len (e : EnJ) : Nat := e.d.length + e.c.length
def sumE (l : List EnJ) : Nat := (l.map EnJ.len).sum
def OpH.len (x : OpH) : Nat := x.e.d.length + x.e.c.length + x.b.length + x.ks.length + 20 * x.l.length + sumE x.l
def OpH.lv (x : OpH) : Nat := 4 * x.l.length + 20
def totH (xs : List OpH) : Nat := (xs.map OpH.len).sum
def lvH (xs : List OpH) : Nat := (xs.map OpH.lv).sum
section
variable {α : Type} (f : α → Nat)
theorem sum_take (xs : List α) {k : Nat} {x : α} (h : xs[k]? = some x) : ((xs.take (k + 1)).map f).sum = ((xs.take k).map f).sum + f x := by
 rw [List.take_add_one, h, List.map_append, List.sum_append]
 simp
theorem sum_take_le : ∀ (xs : List α) (k : Nat), ((xs.take k).map f).sum ≤ (xs.map f).sum
 | [], _ => by simp
 | _ :: _, 0 => by simp
 | x :: xs, k + 1 => by
  have := sum_take_le xs k
  simp only [List.take_succ_cons, List.map_cons, List.sum_cons]
  omega
theorem sum_at (xs : List α) {k : Nat} {x : α} (h : xs[k]? = some x) : f x ≤ (xs.map f).sum := by
 have h1 := sum_take f xs h
 have h2 := sum_take_le f xs (k + 1)
 omega
theorem sum_le (B : Nat) : ∀ (xs : List α), (∀ x ∈ xs, f x ≤ B) → (xs.map f).sum ≤ xs.length * B
 | [], _ => by simp
 | x :: xs, h => by
  have h1 := sum_le B xs (fun y hy => h y (List.mem_cons_of_mem _ hy))
  have h2 := h x List.mem_cons_self
  simp only [List.map_cons, List.sum_cons, List.length_cons, Nat.add_mul, Nat.one_mul]
  omega
end
theorem lv_len : ∀ xs : List OpH, 5 * lvH xs ≤ totH xs + 100 * xs.length
 | [] => by simp [lvH, totH]
 | x :: xs => by
  have h := lv_len xs
  unfold lvH totH at *
  simp only [List.map_cons, List.sum_cons, List.length_cons]
  have : x.len ≥ 20 * x.l.length := by unfold OpH.len; omega
  unfold OpH.lv at *
  omega
theorem lv_le {xs : List OpH} (h1 : xs.length ≤ 50) (h2 : totH xs ≤ 6000) : lvH xs ≤ 2200 := by have := lv_len xs; omega
theorem lv_take {xs : List OpH} {k : Nat} {x : OpH} (h : xs[k]? = some x) : lvH (xs.take (k + 1)) = lvH (xs.take k) + x.lv := sum_take OpH.lv xs h
theorem lv_take_le (xs : List OpH) (k : Nat) : lvH (xs.take k) ≤ lvH xs := sum_take_le OpH.lv xs k
theorem len_at {xs : List OpH} {k : Nat} {x : OpH} (h : xs[k]? = some x) : x.len ≤ totH xs := sum_at OpH.len xs h
def doH (S : FS) (x : OpH) : FS × Int :=
 if x.k = 0 then appendJ S hN x.e else if x.k = 1 then syncJ S hN else if x.k = 2 then compactJ S hN x.l else if x.k = 3 then ((openJ S hN).1, 0) else if x.k = 4 then (S.arm x.i, 0) else if x.k = 5 then (S.fault_ x.i, 0) else
 if x.k = 6 then ((openJ (S.crash x.ks) hN).1, 0) else if x.k = 7 then S.write hN x.b else if x.k = 8 then S.write (otJ hN) x.b else (S, 0)
theorem FS.At.doH {k : Nat} {S : FS} (h : S.At k) (x : OpH) (hi : x.i ≤ 9223372036854775807) : (doH S x).1.At (k + x.lv) := by
 have h0 := h.mono (show k ≤ k + x.lv by omega)
 have e : 20 ≤ x.lv := by unfold OpH.lv; omega
 unfold Go.Proofs.YteafcaambnfdoaaGreatDoor.doH
 repeat' split
 ·exact (at_write h hN x.e).mono (by omega)
 ·exact (h.syncJ hN).mono (by omega)
 ·exact (h.compactJ hN x.l).mono (by unfold OpH.lv; omega)
 ·exact (h.openJ hN).mono (by omega)
 ·exact (h.does ⟨5, ⟨#[]⟩, ⟨#[]⟩, [], x.i, []⟩ hi).mono (by omega)
 ·exact (h.does ⟨6, ⟨#[]⟩, ⟨#[]⟩, [], x.i, []⟩ hi).mono (by omega)
 ·exact ((h.crash x.ks).openJ hN).mono (by omega)
 ·exact (h.write hN x.b).mono (by omega)
 ·exact (h.write (otJ hN) x.b).mono (by omega)
 ·exact h0
end
section
open Go Go.RowKit
set_option maxRecDepth 100000
abbrev jP (jb : Nat) : Value := .pointer (some ⟨jb, 0, none⟩)
abbrev wldC (b : Nat) (jv : Value) (A : Option Addr) (n c : Nat) (S : FS) : List Value := [fp b, jv, .slice A n c, .int .i64 (S.no : Int), .int .i64 (S.ops : Int), .int .i64 S.fuse, .int .i64 S.fault, .bool S.down]
theorem rowE_ne {W : World} {D : Nat → Prop} {A : Option Addr} {l : List EnJ} {wb : Nat} {t : TypeId} {cs : List Value} (h : RowT enC W D A l) (hb : BxA W wb t cs) (hs : ∀ s, Value.string s ∉ cs) : RowT enC W (fun k => D k ∧ k ≠ wb) A l := fun hn => by
 obtain ⟨g, o, e, hD, hg, hc⟩ := h hn
 refine ⟨g, o, e, ⟨hD, fun he => ?_⟩, hg, hc⟩
 subst he
 obtain ⟨x, r, rfl⟩ : ∃ x r, l = x :: r := by
  match l, hn with
  | x :: r, _ => exact ⟨x, r, rfl⟩
 have h1 := hc 1 (.string (bs x.d)) rfl
 simp [World.cell?, show W.heap[g]? = _ from hb] at h1
 exact hs _ (List.mem_of_getElem? h1)
theorem stA_ext {W : World} {D : Nat → Prop} {v : Value} {S : FS} (h : StAt W D v S) : ∃ A n c, v = stV A n c S ∧ StAt W D (stV A n c S) S := by
 obtain ⟨A, c, vs, rfl, h1, h2⟩ := h
 exact ⟨A, vs.length, c, rfl, A, c, vs, rfl, h1, h2⟩
structure WA (w0 W : World) (X Y : Nat → Prop) (wb b : Nat) (jv : Value) (S Sd : FS) (A : Option Addr) (n c : Nat) : Prop where
 fx : FX w0 W X Y b S
 box : BxA W wb 53 (wldC b jv A n c Sd)
 st : StAt W (fun k => X k ∧ k ≠ wb) (stV A n c Sd) Sd
 xs : X wb
 ys : Y wb
 ge : w0.heap.size ≤ wb
 old : ∀ k, k < w0.heap.size → X k
section
variable {w0 W W2 : World} {X Y X2 Y2 : Nat → Prop} {wb b : Nat} {jv : Value} {p : Option Addr} {S S2 Sd Sd2 : FS} {A A2 : Option Addr} {n n2 c c2 : Nat}
theorem WA.below (h : WA w0 W X Y wb b jv S Sd A n c) (hb : Below W.heap.size W W2) : WA w0 W2 (XN X W W2) (XN Y W W2) wb b jv S Sd A n c :=
 ⟨h.fx.below hb, h.box.below hb, (h.st.below hb).mono (fun _ hk => ⟨.inl hk.1, hk.2⟩), .inl h.xs, .inl h.ys, h.ge, fun k hk => .inl (h.old k hk)⟩
theorem WA.lt (h : WA w0 W X Y wb b jv S Sd A n c) : wb < W.heap.size := h.box.lt
theorem WA.turn (h : WA w0 W X Y wb b jv S Sd A n c) (hf : FX w0 W2 X2 Y2 b S2) (hX : ∀ k, X k → X2 k) (hY : ∀ k, Y k → Y2 k) (ho : Only (fun k => ¬ X k) W W2) : WA w0 W2 X2 Y2 wb b jv S2 Sd A n c :=
 ⟨hf, h.box.keep ho (fun hn => hn h.xs), (h.st.keep ho (fun _ hk hn => hn hk.1)).mono (fun k hk => ⟨hX k hk.1, hk.2⟩), hX _ h.xs, hY _ h.ys, h.ge, fun k hk => hX k (h.old k hk)⟩
theorem WA.doc (h : WA w0 W X Y wb b jv S Sd A n c) {v : Value} (hs : StAt W2 (DW (fun k => X k ∧ k ≠ wb) W) v Sd2) : StAt W2 (fun k => XN X W W2 k ∧ k ≠ wb) v Sd2 :=
 hs.cap.mono fun k hk => by
  have := h.lt
  rcases hk with ⟨⟨h1, h2⟩ | h1, h3⟩
  ·exact ⟨.inl h1, h2⟩
  ·exact ⟨.inr ⟨h1, h3⟩, fun e => by omega⟩
def sixW (W : World) (M : Nat) (v0 v1 v2 v3 v4 v5 : Value) : World := (((((W.setCell ⟨M, 2, none⟩ v0).setCell ⟨M, 3, none⟩ v1).setCell ⟨M, 4, none⟩ v2).setCell ⟨M, 5, none⟩ v3).setCell ⟨M, 6, none⟩ v4).setCell ⟨M, 7, none⟩ v5
theorem sixW_only (W : World) (M : Nat) (v0 v1 v2 v3 v4 v5 : Value) : Only (fun i => i = M) W (sixW W M v0 v1 v2 v3 v4 v5) :=
 ((((((Only.refl (fun i => i = M) W).set (p := ⟨M, 2, none⟩) (.inl rfl) _).set (p := ⟨M, 3, none⟩) (.inl rfl) _).set (p := ⟨M, 4, none⟩) (.inl rfl) _).set (p := ⟨M, 5, none⟩) (.inl rfl) _).set (p := ⟨M, 6, none⟩) (.inl rfl) _).set (p := ⟨M, 7, none⟩) (.inl rfl) _
theorem sixW_box {W : World} {M : Nat} {t : TypeId} {y0 y1 z0 z1 z2 z3 z4 z5 : Value} (h : BxA W M t [y0, y1, z0, z1, z2, z3, z4, z5]) (v0 v1 v2 v3 v4 v5 : Value) : BxA (sixW W M v0 v1 v2 v3 v4 v5) M t [y0, y1, v0, v1, v2, v3, v4, v5] := (((((h.set 2 v0).set 3 v1).set 4 v2).set 5 v3).set 6 v4).set 7 v5
theorem WA.put (h : WA w0 W X Y wb b jv S Sd A n c) (hs : StAt W (fun k => X k ∧ k ≠ wb) (stV A2 n2 c2 Sd2) Sd2) :
  WA w0 (sixW W wb (.slice A2 n2 c2) (.int .i64 (Sd2.no : Int)) (.int .i64 (Sd2.ops : Int)) (.int .i64 Sd2.fuse) (.int .i64 Sd2.fault) (.bool Sd2.down)) X Y wb b jv S Sd2 A2 n2 c2 :=
 have ho := sixW_only W wb (.slice A2 n2 c2) (.int .i64 (Sd2.no : Int)) (.int .i64 (Sd2.ops : Int)) (.int .i64 Sd2.fuse) (.int .i64 Sd2.fault) (.bool Sd2.down)
 ⟨h.fx.wrote ho (fun k e => by rw [e]; exact h.ys) (fun k e => by rw [e]; exact h.ge), sixW_box h.box _ _ _ _ _ _, hs.keep ho (fun k hk e => hk.2 e), h.xs, h.ys, h.ge, h.old⟩
theorem WA.setj (h : WA w0 W X Y wb b jv S Sd A n c) (v : Value) : WA w0 (W.setCell ⟨wb, 1, none⟩ v) X Y wb b v S Sd A n c :=
 have ho : Only (fun i => i = wb) W (W.setCell ⟨wb, 1, none⟩ v) := (Only.refl (fun i => i = wb) W).set (p := ⟨wb, 1, none⟩) (.inl rfl) v
 ⟨h.fx.wrote ho (fun k e => by rw [e]; exact h.ys) (fun k e => by rw [e]; exact h.ge), h.box.set 1 v, h.st.keep ho (fun k hk e => hk.2 e), h.xs, h.ys, h.ge, h.old⟩
theorem WA.cells (h : WA w0 W X Y wb b jv S Sd A n c) : W.cell? ⟨wb, 0, none⟩ = some (fp b) ∧ W.cell? ⟨wb, 1, none⟩ = some jv ∧ W.cell? ⟨wb, 2, none⟩ = some (.slice A n c) ∧ W.cell? ⟨wb, 3, none⟩ = some (.int .i64 (Sd.no : Int)) ∧ W.cell? ⟨wb, 4, none⟩ = some (.int .i64 (Sd.ops : Int)) ∧ W.cell? ⟨wb, 5, none⟩ = some (.int .i64 Sd.fuse) ∧ W.cell? ⟨wb, 6, none⟩ = some (.int .i64 Sd.fault) ∧ W.cell? ⟨wb, 7, none⟩ = some (.bool Sd.down) :=
 ⟨h.box.c 0 rfl, h.box.c 1 rfl, h.box.c 2 rfl, h.box.c 3 rfl, h.box.c 4 rfl, h.box.c 5 rfl, h.box.c 6 rfl, h.box.c 7 rfl⟩
theorem WA.ents (h : WA w0 W X Y wb b (.pointer p) S Sd A n c) {D : Nat → Prop} {LA : Option Addr} {l : List EnJ} (hr : RowT enC W D LA l) : RowT enC W (fun k => D k ∧ k ≠ wb) LA l :=
 rowE_ne hr h.box (fun s hs => by simp [wldC, fp] at hs)
theorem WA.oldB (h : WA w0 W X Y wb b jv S Sd A n c) {BA : Option Addr} {l : List UInt8} (hb : Byt w0 BA l) : ByR W (fun k => X k ∧ k ≠ wb) BA l :=
 ((byR_of_byt (D := fun _ => True) hb (fun _ _ => trivial)).cap.below h.fx.bel).mono fun k hk => ⟨h.old k hk.2, fun e => by have := h.ge; omega⟩
theorem WA.oldK (h : WA w0 W X Y wb b jv S Sd A n c) {KA : Option Addr} {l : List Bool} {D : Nat → Prop} (hb : RowT boolC w0 D KA l) : RowT boolC W (fun k => X k ∧ k ≠ wb) KA l :=
 ((hb.cap).below h.fx.bel).mono fun k hk => ⟨h.old k hk.2, fun e => by have := h.ge; omega⟩
theorem WA.oldE (h : WA w0 W X Y wb b jv S Sd A n c) {LA : Option Addr} {l : List EnJ} {D : Nat → Prop} (hb : RowT enC w0 D LA l) : RowT enC W (fun k => X k ∧ k ≠ wb) LA l :=
 ((hb.cap).below h.fx.bel).mono fun k hk => ⟨h.old k hk.2, fun e => by have := h.ge; omega⟩
end
structure WJ (w0 W : World) (X Y : Nat → Prop) (wb b jb : Nat) (S Sd : FS) (A : Option Addr) (n c : Nat) : Prop where
 wa : WA w0 W X Y wb b (jP jb) S Sd A n c
 jbx : BxA W jb 90 (jnC b hN)
 jx : X jb
 ne : jb ≠ wb
section
variable {w0 W W2 : World} {X Y X2 Y2 : Nat → Prop} {wb b jb : Nat} {S S2 Sd Sd2 : FS} {A A2 : Option Addr} {n n2 c c2 : Nat}
theorem WJ.j (h : WJ w0 W X Y wb b jb S Sd A n c) : JX w0 W X Y b S jb hN := ⟨h.wa.fx, h.jbx, h.jx⟩
theorem WJ.below (h : WJ w0 W X Y wb b jb S Sd A n c) (hb : Below W.heap.size W W2) : WJ w0 W2 (XN X W W2) (XN Y W W2) wb b jb S Sd A n c := ⟨h.wa.below hb, h.jbx.below hb, .inl h.jx, h.ne⟩
theorem WJ.turn (h : WJ w0 W X Y wb b jb S Sd A n c) (hf : FX w0 W2 X2 Y2 b S2) (hX : ∀ k, X k → X2 k) (hY : ∀ k, Y k → Y2 k) (ho : Only (fun k => ¬ X k) W W2) : WJ w0 W2 X2 Y2 wb b jb S2 Sd A n c := ⟨h.wa.turn hf hX hY ho, h.jbx.keep ho (fun hn => hn h.jx), hX _ h.jx, h.ne⟩
theorem WJ.turnJ (h : WJ w0 W X Y wb b jb S Sd A n c) (hj : JX w0 W2 X Y b S2 jb hN) (ho : Only (fun k => ¬ X k) W W2) : WJ w0 W2 X Y wb b jb S2 Sd A n c := h.turn hj.fx (fun _ h => h) (fun _ h => h) ho
theorem WJ.put (h : WJ w0 W X Y wb b jb S Sd A n c) (hs : StAt W (fun k => X k ∧ k ≠ wb) (stV A2 n2 c2 Sd2) Sd2) :
  WJ w0 (sixW W wb (.slice A2 n2 c2) (.int .i64 (Sd2.no : Int)) (.int .i64 (Sd2.ops : Int)) (.int .i64 Sd2.fuse) (.int .i64 Sd2.fault) (.bool Sd2.down)) X Y wb b jb S Sd2 A2 n2 c2 :=
 ⟨h.wa.put hs, h.jbx.keep (sixW_only _ _ _ _ _ _ _ _) h.ne, h.jx, h.ne⟩
end
end
section
open Go Go.RowKit
open Go.Lib (hid)
set_option maxRecDepth 100000
set_option maxHeartbeats 8000000 in
theorem wstep0_calls (w0 W : World) (X Y : Nat → Prop) (wb b jb : Nat) (S : FS) (A : Option Addr) (n c : Nat) (h : WJ w0 W X Y wb b jb S S A n c) (x : OpH) (hx : OphIn w0 x) (m : Nat) (hA : S.At m) (hm : m + 5 * x.l.length + 30 ≤ 99000) (hbl : x.b.length ≤ 6000) (hkl : x.ks.length ≤ 6000) (hll : x.l.length ≤ 300) (ht : LaysR w0) (hk : x.k = 0) :
  Calls Tryz.prog 11 #[.pointer (some ⟨wb, 0, none⟩), .agg (ophC x).toArray] W fun e W' => e = .returned (.bool true) ∧ ∃ X2 Y2 jb2 A2 n2 c2, WJ w0 W' X2 Y2 wb b jb2 (doH S x).1 (doH S x).1 A2 n2 c2 := by
 obtain ⟨xk, ⟨xt, xd, xc⟩, xl, xi, xb, xks, LA, lc, BA, bc, KA, kc⟩ := x
 simp only at hk hm hbl hkl hll
 subst hk
 have hdo : doH S ⟨0, ⟨xt, xd, xc⟩, xl, xi, xb, xks, LA, lc, BA, bc, KA, kc⟩ = appendJ S hN ⟨xt, xd, xc⟩ := rfl
 rw [hdo]
 clear hdo
 have hbA : Below W.heap.size W (W.alloc (.cells (ophC ⟨0, ⟨xt, xd, xc⟩, xl, xi, xb, xks, LA, lc, BA, bc, KA, kc⟩).toArray 33)).drew := ((Below.refl _ W).alloc (Nat.le_refl _) (.cells (ophC ⟨0, ⟨xt, xd, xc⟩, xl, xi, xb, xks, LA, lc, BA, bc, KA, kc⟩).toArray 33)).drew
 have HW1 := hid (h.below hbA)
 have HOb := hid ((BxA.new W 33 (ophC ⟨0, ⟨xt, xd, xc⟩, xl, xi, xb, xks, LA, lc, BA, bc, KA, kc⟩)).below (Below.refl _ _).drew)
 have HXb : Hid (XN X W (W.alloc (.cells (ophC ⟨0, ⟨xt, xd, xc⟩, xl, xi, xb, xks, LA, lc, BA, bc, KA, kc⟩).toArray 33)).drew W.heap.size) := hid (XN.new (by show _ < (W.alloc _).heap.size; simp))
 have HIn := hid hx
 have HAt := hid hA
 have HFt := hid (hA.fit (by omega))
 have HT := hid ht
 have hsb : W.heap.size ≠ wb := fun e => by have := h.wa.lt; omega
 clear hbA h hx hA ht
 have HCa := hid (jappend12_calls w0 _ _ _ b S jb hN HW1.out.j HFt.out HT.out ⟨xt, xd, xc⟩)
 have HDa := hid (fun y D v hs => rappend12_calls y D v S hN ⟨xt, xd, xc⟩ hs HFt.out)
 obtain ⟨res, hres⟩ : ∃ res, res = appendJ S hN ⟨xt, xd, xc⟩ := ⟨_, rfl⟩
 rw [← hres] at HCa ⊢
 simp only [← hres] at HDa
 obtain ⟨S6, z6⟩ := res
 simp only at HCa HDa ⊢
 have q2 : (z6 == z6) = true := beq_self_eq_true z6
 clear hres
 go_enter Tryz.func11, Tryz.ntmps11
 have KK0 := (And.intro (HW1.out.wa.box.c 1 rfl) (And.intro (HOb.out.c 1 rfl) (And.intro (HOb.out.c 2 rfl) (HOb.out.c 3 rfl))))
 go_upto_region 4 with fail
 refine wp_region_held_drew (S := (fun w' => w'.cell? ⟨wb, 1, none⟩ = some (jP jb) ∧ w'.cell? ⟨W.heap.size, 1, none⟩ = some (.int .i64 xt) ∧ w'.cell? ⟨W.heap.size, 2, none⟩ = some (.string (bs xd)) ∧ w'.cell? ⟨W.heap.size, 3, none⟩ = some (.string (bs xc)))) (by kernel_rfl) KK0 (fun hHeld => ?_)
 refine tkH 0 ?_
 refine tkH 1 ?_
 refine tkH 2 ?_
 refine tkH 3 ?_
 refine tkH 4 ?_
 refine tkH 5 ?_
 refine rdH 6 fun K hK => ?_
 go_simp
 refine (HCa.out).mono ?_; rintro e y1 ⟨rfl, hj, ho⟩; have HW2 := hid (HW1.out.turnJ hj ho); have HOb2 := hid (HOb.out.keep ho (fun hn => hn HXb.out)); have KK1 := (And.intro (HW2.out.wa.box.c 1 rfl) (And.intro (HOb2.out.c 1 rfl) (And.intro (HOb2.out.c 2 rfl) (HOb2.out.c 3 rfl)))); clear hj ho HCa
 refine hK.out _ _ KK1 (fun hHeld => ?_)
 clear hK K
 refine tkH 7 ?_
 refine wpAnyH_done (by kernel_rfl) ?_ _
 have HW2d := hid (HW2.out.below (Below.refl _ y1).drew)
 have HOb2d := hid (HOb2.out.below (Below.refl _ y1).drew)
 clear KK0 KK1
 have KL0 := (And.intro (HW2d.out.wa.box.c 2 rfl) (And.intro (HW2d.out.wa.box.c 3 rfl) (And.intro (HW2d.out.wa.box.c 4 rfl) (And.intro (HW2d.out.wa.box.c 5 rfl) (And.intro (HW2d.out.wa.box.c 6 rfl) (And.intro (HW2d.out.wa.box.c 7 rfl) (And.intro (HOb2d.out.c 1 rfl) (And.intro (HOb2d.out.c 2 rfl) (HOb2d.out.c 3 rfl)))))))))
 go_upto_region 5 with fail
 refine wp_region_later (S := (fun w' => w'.cell? ⟨wb, 2, none⟩ = some (.slice A n c) ∧ w'.cell? ⟨wb, 3, none⟩ = some (.int .i64 (S.no : Int)) ∧ w'.cell? ⟨wb, 4, none⟩ = some (.int .i64 (S.ops : Int)) ∧ w'.cell? ⟨wb, 5, none⟩ = some (.int .i64 S.fuse) ∧ w'.cell? ⟨wb, 6, none⟩ = some (.int .i64 S.fault) ∧ w'.cell? ⟨wb, 7, none⟩ = some (.bool S.down) ∧ w'.cell? ⟨W.heap.size, 1, none⟩ = some (.int .i64 xt) ∧ w'.cell? ⟨W.heap.size, 2, none⟩ = some (.string (bs xd)) ∧ w'.cell? ⟨W.heap.size, 3, none⟩ = some (.string (bs xc)))) 13 (by kernel_rfl) KL0 (fun hHeld => ?_)
 refine tkB 0 ?_
 refine tkB 1 ?_
 refine tkB 2 ?_
 refine tkB 3 ?_
 refine tkB 4 ?_
 refine tkB 5 ?_
 refine tkB 6 ?_
 refine rdB 7 fun K hK => ?_
 go_simp
 have HDo := hid (HDa.out _ _ _ HW2d.out.wa.st)
 first | unfold stV at HDo | skip
 first | unfold opC at HDo | skip
 refine HDo.out.mono ?_
 rintro e y2 ⟨v2, rfl, hst2, hb2⟩
 obtain ⟨A6, n6, c6, rfl, hst3⟩ := stA_ext (HW2d.out.wa.doc hst2)
 have hw3 := HW2d.out.below hb2
 have hp3 := hw3.put hst3
 have HWq := hid hw3
 have x0 := HWq.out.wa.box.c 0 rfl
 have x1 := HWq.out.wa.box.c 1 rfl
 have x2 := HWq.out.wa.box.c 2 rfl
 have x3 := HWq.out.wa.box.c 3 rfl
 have x4 := HWq.out.wa.box.c 4 rfl
 have x5 := HWq.out.wa.box.c 5 rfl
 have x6 := HWq.out.wa.box.c 6 rfl
 have x7 := HWq.out.wa.box.c 7 rfl
 have e2 := HWq.out.wa.box.free 2
 have e3 := HWq.out.wa.box.free 3
 have e4 := HWq.out.wa.box.free 4
 have e5 := HWq.out.wa.box.free 5
 have e6 := HWq.out.wa.box.free 6
 have e7 := HWq.out.wa.box.free 7
 unfold stV
 have HObq := hid (HOb2d.out.below hb2)
 have q9 := (And.intro (HWq.out.wa.box.c 2 rfl) (And.intro (HWq.out.wa.box.c 3 rfl) (And.intro (HWq.out.wa.box.c 4 rfl) (And.intro (HWq.out.wa.box.c 5 rfl) (And.intro (HWq.out.wa.box.c 6 rfl) (And.intro (HWq.out.wa.box.c 7 rfl) (And.intro (HObq.out.c 1 rfl) (And.intro (HObq.out.c 2 rfl) (HObq.out.c 3 rfl)))))))))
 obtain ⟨W9, hW9⟩ : ∃ W9, sixW y2 wb (.slice A6 n6 c6) (.int .i64 (S6.no : Int)) (.int .i64 (S6.ops : Int)) (.int .i64 S6.fuse) (.int .i64 S6.fault) (.bool S6.down) = W9 := ⟨_, rfl⟩
 rw [hW9] at hp3
 have HW9 := hid hp3
 unfold sixW at hW9
 clear hst2 hst3 hw3 hp3 hb2 HDo
 refine hK.out _ _ q9 (fun hHeld => ?_)
 clear hK K
 refine tkB 8 ?_
 refine tkB 9 ?_
 refine laterAny_ready (rs := [10, 11]) (by kernel_rfl) (by simp) ?_
 refine AllReadyB.cons (o := ⟨some 29, _, _, _, _, _⟩) rfl (fun K hK => ?_) (AllReadyB.cons (o := ⟨some 30, _, _, _, _, _⟩) rfl (fun K hK => ?_) AllReadyB.nil)
 ·(rw [if_pos (by kernel_rfl)])
  go_simp
  refine hK.out _ _ q9 (fun hHeld => ?_)
  clear hK K
  refine rdB 11 fun K hK => ?_
  go_simp
  refine hK.out _ _ q9 (fun hHeld => ?_)
  clear hK K
  refine tkB 12 ?_
  refine psB 13 fun K hK => ?_
  go_simp
  refine hK.out _ _ ?_
  clear hK K
  refine psB 14 fun K hK => ?_
  go_simp
  refine hK.out _ _ ?_
  clear hK K
  refine laterAny_done (by kernel_rfl) ?_
  first | rw [hW9] | skip
  clear hW9 x0 x1 x2 x3 x4 x5 x6 x7 e2 e3 e4 e5 e6 e7
  go_wp2_with fail
  go_ret
  exact ⟨rfl, _, _, _, _, _, _, HW9.out⟩
 ·(rw [if_pos (by kernel_rfl)])
  go_simp
  refine hK.out _ _ q9 (fun hHeld => ?_)
  clear hK K
  refine tkB 12 ?_
  refine laterAny_ready (rs := [10, 13]) (by kernel_rfl) (by simp) ?_
  refine AllReadyB.cons (o := ⟨some 29, _, _, _, _, _⟩) rfl (fun K hK => ?_) (AllReadyB.past (o := ⟨none, _, _, _, _, _⟩) rfl (by kernel_rfl) (fun K hK => ?_) AllReadyB.nil)
  ·(rw [if_pos (by kernel_rfl)])
   go_simp
   refine hK.out _ _ q9 (fun hHeld => ?_)
   clear hK K
   refine psB 13 fun K hK => ?_
   go_simp
   refine hK.out _ _ ?_
   clear hK K
   refine psB 14 fun K hK => ?_
   go_simp
   refine hK.out _ _ ?_
   clear hK K
   refine laterAny_done (by kernel_rfl) ?_
   first | rw [hW9] | skip
   clear hW9 x0 x1 x2 x3 x4 x5 x6 x7 e2 e3 e4 e5 e6 e7
   go_wp2_with fail
   go_ret
   exact ⟨rfl, _, _, _, _, _, _, HW9.out⟩
  ·(rw [if_pos (by kernel_rfl)])
   go_simp
   refine hK.out _ _ ?_
   clear hK K
   refine psB 10 fun K hK => ?_
   go_simp
   refine hK.out _ _ ?_
   clear hK K
   refine psB 14 fun K hK => ?_
   go_simp
   refine hK.out _ _ ?_
   clear hK K
   refine laterAny_done (by kernel_rfl) ?_
   first | rw [hW9] | skip
   clear hW9 x0 x1 x2 x3 x4 x5 x6 x7 e2 e3 e4 e5 e6 e7
   go_wp2_with fail
   go_ret
   exact ⟨rfl, _, _, _, _, _, _, HW9.out⟩
set_option maxHeartbeats 8000000 in
theorem wstep1_calls (w0 W : World) (X Y : Nat → Prop) (wb b jb : Nat) (S : FS) (A : Option Addr) (n c : Nat) (h : WJ w0 W X Y wb b jb S S A n c) (x : OpH) (hx : OphIn w0 x) (m : Nat) (hA : S.At m) (hm : m + 5 * x.l.length + 30 ≤ 99000) (hbl : x.b.length ≤ 6000) (hkl : x.ks.length ≤ 6000) (hll : x.l.length ≤ 300) (ht : LaysR w0) (hk : x.k = 1) :
  Calls Tryz.prog 11 #[.pointer (some ⟨wb, 0, none⟩), .agg (ophC x).toArray] W fun e W' => e = .returned (.bool true) ∧ ∃ X2 Y2 jb2 A2 n2 c2, WJ w0 W' X2 Y2 wb b jb2 (doH S x).1 (doH S x).1 A2 n2 c2 := by
 obtain ⟨xk, ⟨xt, xd, xc⟩, xl, xi, xb, xks, LA, lc, BA, bc, KA, kc⟩ := x
 simp only at hk hm hbl hkl hll
 subst hk
 have hdo : doH S ⟨1, ⟨xt, xd, xc⟩, xl, xi, xb, xks, LA, lc, BA, bc, KA, kc⟩ = syncJ S hN := rfl
 rw [hdo]
 clear hdo
 have hbA : Below W.heap.size W (W.alloc (.cells (ophC ⟨1, ⟨xt, xd, xc⟩, xl, xi, xb, xks, LA, lc, BA, bc, KA, kc⟩).toArray 33)) := ((Below.refl _ W).alloc (Nat.le_refl _) (.cells (ophC ⟨1, ⟨xt, xd, xc⟩, xl, xi, xb, xks, LA, lc, BA, bc, KA, kc⟩).toArray 33))
 have HW1 := hid (h.below hbA)
 have HOb := hid ((BxA.new W 33 (ophC ⟨1, ⟨xt, xd, xc⟩, xl, xi, xb, xks, LA, lc, BA, bc, KA, kc⟩)).below (Below.refl _ _))
 have HXb : Hid (XN X W (W.alloc (.cells (ophC ⟨1, ⟨xt, xd, xc⟩, xl, xi, xb, xks, LA, lc, BA, bc, KA, kc⟩).toArray 33)) W.heap.size) := hid (XN.new (by show _ < (W.alloc _).heap.size; simp))
 have HIn := hid hx
 have HAt := hid hA
 have HFt := hid (hA.fit (by omega))
 have HT := hid ht
 have hsb : W.heap.size ≠ wb := fun e => by have := h.wa.lt; omega
 clear hbA h hx hA ht
 have HCa := hid (jsync12_calls w0 _ _ _ b S jb hN HW1.out.j HFt.out)
 have HDa := hid (fun y D v hs => rsync12_calls y D v S hN hs HFt.out)
 obtain ⟨res, hres⟩ : ∃ res, res = syncJ S hN := ⟨_, rfl⟩
 rw [← hres] at HCa ⊢
 simp only [← hres] at HDa
 obtain ⟨S6, z6⟩ := res
 simp only at HCa HDa ⊢
 have q2 : (z6 == z6) = true := beq_self_eq_true z6
 clear hres
 have x1 := HW1.out.wa.box.c 1 rfl
 have o0 := HOb.out.c 0 rfl
 go_enter Tryz.func11, Tryz.ntmps11
 go_wp2_with fail
 refine HCa.out.mono ?_
 rintro e y1 ⟨rfl, hj, ho⟩
 have HW2 := hid (HW1.out.turnJ hj ho)
 clear hj ho HCa x1 o0
 have x0 := HW2.out.wa.box.c 0 rfl
 have x1 := HW2.out.wa.box.c 1 rfl
 have x2 := HW2.out.wa.box.c 2 rfl
 have x3 := HW2.out.wa.box.c 3 rfl
 have x4 := HW2.out.wa.box.c 4 rfl
 have x5 := HW2.out.wa.box.c 5 rfl
 have x6 := HW2.out.wa.box.c 6 rfl
 have x7 := HW2.out.wa.box.c 7 rfl
 have e2 := HW2.out.wa.box.free 2
 have e3 := HW2.out.wa.box.free 3
 have e4 := HW2.out.wa.box.free 4
 have e5 := HW2.out.wa.box.free 5
 have e6 := HW2.out.wa.box.free 6
 have e7 := HW2.out.wa.box.free 7
 have HD := hid (HDa.out _ _ _ HW2.out.wa.st)
 unfold stV at HD
 clear HDa
 go_wp2_with fail
 refine HD.out.mono ?_
 rintro e y2 ⟨v2, rfl, hst2, hb2⟩
 clear x0 x1 x2 x3 x4 x5 x6 x7 e2 e3 e4 e5 e6 e7
 obtain ⟨A6, n6, c6, rfl, hst3⟩ := stA_ext (HW2.out.wa.doc hst2)
 have hw3 := HW2.out.below hb2
 have hp3 := hw3.put hst3
 have HWq := hid hw3
 have x0 := HWq.out.wa.box.c 0 rfl
 have x1 := HWq.out.wa.box.c 1 rfl
 have x2 := HWq.out.wa.box.c 2 rfl
 have x3 := HWq.out.wa.box.c 3 rfl
 have x4 := HWq.out.wa.box.c 4 rfl
 have x5 := HWq.out.wa.box.c 5 rfl
 have x6 := HWq.out.wa.box.c 6 rfl
 have x7 := HWq.out.wa.box.c 7 rfl
 have e2 := HWq.out.wa.box.free 2
 have e3 := HWq.out.wa.box.free 3
 have e4 := HWq.out.wa.box.free 4
 have e5 := HWq.out.wa.box.free 5
 have e6 := HWq.out.wa.box.free 6
 have e7 := HWq.out.wa.box.free 7
 unfold stV
 have HW9 := hid hp3
 clear hst2 hst3 hw3 hp3 hb2 HD
 go_wp2_with fail
 go_ret
 exact ⟨rfl, _, _, _, _, _, _, HW9.out⟩
end
section
open Go Go.RowKit
open Go.Lib (hid)
set_option maxRecDepth 100000
set_option maxHeartbeats 8000000 in
theorem wstep2_calls (w0 W : World) (X Y : Nat → Prop) (wb b jb : Nat) (S : FS) (A : Option Addr) (n c : Nat) (h : WJ w0 W X Y wb b jb S S A n c) (x : OpH) (hx : OphIn w0 x) (m : Nat) (hA : S.At m) (hm : m + 5 * x.l.length + 30 ≤ 99000) (hbl : x.b.length ≤ 6000) (hkl : x.ks.length ≤ 6000) (hll : x.l.length ≤ 300) (ht : LaysR w0) (hk : x.k = 2) :
  Calls Tryz.prog 11 #[.pointer (some ⟨wb, 0, none⟩), .agg (ophC x).toArray] W fun e W' => e = .returned (.bool true) ∧ ∃ X2 Y2 jb2 A2 n2 c2, WJ w0 W' X2 Y2 wb b jb2 (doH S x).1 (doH S x).1 A2 n2 c2 := by
 obtain ⟨xk, ⟨xt, xd, xc⟩, xl, xi, xb, xks, LA, lc, BA, bc, KA, kc⟩ := x
 simp only at hk hm hbl hkl hll
 subst hk
 have hdo : doH S ⟨2, ⟨xt, xd, xc⟩, xl, xi, xb, xks, LA, lc, BA, bc, KA, kc⟩ = compactJ S hN xl := rfl
 rw [hdo]
 clear hdo
 have hbA : Below W.heap.size W (W.alloc (.cells (ophC ⟨2, ⟨xt, xd, xc⟩, xl, xi, xb, xks, LA, lc, BA, bc, KA, kc⟩).toArray 33)).drew := ((Below.refl _ W).alloc (Nat.le_refl _) (.cells (ophC ⟨2, ⟨xt, xd, xc⟩, xl, xi, xb, xks, LA, lc, BA, bc, KA, kc⟩).toArray 33)).drew
 have HW1 := hid (h.below hbA)
 have HOb := hid ((BxA.new W 33 (ophC ⟨2, ⟨xt, xd, xc⟩, xl, xi, xb, xks, LA, lc, BA, bc, KA, kc⟩)).below (Below.refl _ _).drew)
 have HXb : Hid (XN X W (W.alloc (.cells (ophC ⟨2, ⟨xt, xd, xc⟩, xl, xi, xb, xks, LA, lc, BA, bc, KA, kc⟩).toArray 33)).drew W.heap.size) := hid (XN.new (by show _ < (W.alloc _).heap.size; simp))
 have HIn := hid hx
 have HAt := hid hA
 have HFt := hid (hA.fit (by omega))
 have HT := hid ht
 have hsb : W.heap.size ≠ wb := fun e => by have := h.wa.lt; omega
 clear hbA h hx hA ht
 have HNw := hid (new12_calls _ _ LA lc xl (HW1.out.wa.oldE HIn.out.l) (by omega))
 have HDa := hid (fun y D v E hs hE => rcompact12_calls y D E v S hN LA lc xl m hN_le hs hE HAt.out (by omega))
 have HCa := hid (fun y X2 Y2 A2 c2 hj hr => jcompact12_calls w0 y X2 Y2 b S jb hN hj m HAt.out hN_le HT.out A2 c2 xl hr (by omega))
 obtain ⟨res, hres⟩ : ∃ res, res = compactJ S hN xl := ⟨_, rfl⟩
 rw [← hres]
 simp only [← hres] at HDa HCa
 obtain ⟨S6, z6⟩ := res
 simp only at HDa HCa ⊢
 have q2 : (z6 == z6) = true := beq_self_eq_true z6
 clear hres
 go_enter Tryz.func11, Tryz.ntmps11
 have KK0 := (And.intro (HW1.out.wa.box.c 1 rfl) (And.intro (HOb.out.c 2 rfl) (HOb.out.c 4 rfl)))
 go_upto_region 10 with fail
 refine wp_region_held_drew (S := (fun w' => w'.cell? ⟨wb, 1, none⟩ = some (jP jb) ∧ w'.cell? ⟨W.heap.size, 2, none⟩ = some (.string (bs xd)) ∧ w'.cell? ⟨W.heap.size, 4, none⟩ = some (.slice LA xl.length lc))) (by kernel_rfl) KK0 (fun hHeld => ?_)
 refine tkH 0 ?_
 refine tkH 1 ?_
 refine tkH 2 ?_
 refine tkH 3 ?_
 refine tkH 4 ?_
 refine tkH 5 ?_
 refine rdH 6 fun K hK => ?_
 go_simp
 refine HNw.out.mono ?_; rintro e y0 ⟨A5, c5, rfl, hown, hb⟩; have HWa := hid (HW1.out.below hb); have HOba := hid (HOb.out.below hb); have HNr := hid (rowT_of_own (C := enC) (R := XN (XN X W (W.alloc (.cells (ophC ⟨2, ⟨xt, xd, xc⟩, xl, xi, xb, xks, LA, lc, BA, bc, KA, kc⟩).toArray 33)).drew) (W.alloc (.cells (ophC ⟨2, ⟨xt, xd, xc⟩, xl, xi, xb, xks, LA, lc, BA, bc, KA, kc⟩).toArray 33)).drew y0) hown (fun g hg => .inr (hown.lt g hg))); have KKa := (And.intro (HWa.out.wa.box.c 1 rfl) (And.intro (HOba.out.c 2 rfl) (HOba.out.c 4 rfl))); clear hown hb HNw
 refine hK.out _ _ KKa (fun hHeld => ?_)
 clear hK K
 refine rdH 7 fun K hK => ?_
 go_simp
 refine (HCa.out _ _ _ _ _ HWa.out.j HNr.out).mono ?_; rintro e y1 ⟨rfl, hj, ho⟩; have HW2 := hid (HWa.out.turnJ hj ho); have HOb2 := hid (HOba.out.keep ho (fun hn => hn (.inl HXb.out))); have KK1 := (And.intro (HW2.out.wa.box.c 1 rfl) (And.intro (HOb2.out.c 2 rfl) (HOb2.out.c 4 rfl))); clear hj ho HCa
 refine hK.out _ _ KK1 (fun hHeld => ?_)
 clear hK K
 refine tkH 8 ?_
 refine wpAnyH_done (by kernel_rfl) ?_ _
 have HW2d := hid (HW2.out.below (Below.refl _ y1).drew)
 have HOb2d := hid (HOb2.out.below (Below.refl _ y1).drew)
 clear KK0 KKa KK1
 have KL0 := (And.intro (HW2d.out.wa.box.c 2 rfl) (And.intro (HW2d.out.wa.box.c 3 rfl) (And.intro (HW2d.out.wa.box.c 4 rfl) (And.intro (HW2d.out.wa.box.c 5 rfl) (And.intro (HW2d.out.wa.box.c 6 rfl) (And.intro (HW2d.out.wa.box.c 7 rfl) (And.intro (HOb2d.out.c 2 rfl) (HOb2d.out.c 4 rfl))))))))
 go_upto_region 11 with fail
 refine wp_region_later (S := (fun w' => w'.cell? ⟨wb, 2, none⟩ = some (.slice A n c) ∧ w'.cell? ⟨wb, 3, none⟩ = some (.int .i64 (S.no : Int)) ∧ w'.cell? ⟨wb, 4, none⟩ = some (.int .i64 (S.ops : Int)) ∧ w'.cell? ⟨wb, 5, none⟩ = some (.int .i64 S.fuse) ∧ w'.cell? ⟨wb, 6, none⟩ = some (.int .i64 S.fault) ∧ w'.cell? ⟨wb, 7, none⟩ = some (.bool S.down) ∧ w'.cell? ⟨W.heap.size, 2, none⟩ = some (.string (bs xd)) ∧ w'.cell? ⟨W.heap.size, 4, none⟩ = some (.slice LA xl.length lc))) 13 (by kernel_rfl) KL0 (fun hHeld => ?_)
 refine tkB 0 ?_
 refine tkB 1 ?_
 refine tkB 2 ?_
 refine tkB 3 ?_
 refine tkB 4 ?_
 refine tkB 5 ?_
 refine tkB 6 ?_
 refine rdB 7 fun K hK => ?_
 go_simp
 have HDo := hid (HDa.out _ _ _ _ HW2d.out.wa.st (HW2d.out.wa.oldE HIn.out.l))
 first | unfold stV at HDo | skip
 first | unfold opC at HDo | skip
 refine HDo.out.mono ?_
 rintro e y2 ⟨v2, rfl, hst2, hb2⟩
 obtain ⟨A6, n6, c6, rfl, hst3⟩ := stA_ext (HW2d.out.wa.doc hst2)
 have hw3 := HW2d.out.below hb2
 have hp3 := hw3.put hst3
 have HWq := hid hw3
 have x0 := HWq.out.wa.box.c 0 rfl
 have x1 := HWq.out.wa.box.c 1 rfl
 have x2 := HWq.out.wa.box.c 2 rfl
 have x3 := HWq.out.wa.box.c 3 rfl
 have x4 := HWq.out.wa.box.c 4 rfl
 have x5 := HWq.out.wa.box.c 5 rfl
 have x6 := HWq.out.wa.box.c 6 rfl
 have x7 := HWq.out.wa.box.c 7 rfl
 have e2 := HWq.out.wa.box.free 2
 have e3 := HWq.out.wa.box.free 3
 have e4 := HWq.out.wa.box.free 4
 have e5 := HWq.out.wa.box.free 5
 have e6 := HWq.out.wa.box.free 6
 have e7 := HWq.out.wa.box.free 7
 unfold stV
 have HObq := hid (HOb2d.out.below hb2)
 have q9 := (And.intro (HWq.out.wa.box.c 2 rfl) (And.intro (HWq.out.wa.box.c 3 rfl) (And.intro (HWq.out.wa.box.c 4 rfl) (And.intro (HWq.out.wa.box.c 5 rfl) (And.intro (HWq.out.wa.box.c 6 rfl) (And.intro (HWq.out.wa.box.c 7 rfl) (And.intro (HObq.out.c 2 rfl) (HObq.out.c 4 rfl))))))))
 obtain ⟨W9, hW9⟩ : ∃ W9, sixW y2 wb (.slice A6 n6 c6) (.int .i64 (S6.no : Int)) (.int .i64 (S6.ops : Int)) (.int .i64 S6.fuse) (.int .i64 S6.fault) (.bool S6.down) = W9 := ⟨_, rfl⟩
 rw [hW9] at hp3
 have HW9 := hid hp3
 unfold sixW at hW9
 clear hst2 hst3 hw3 hp3 hb2 HDo
 refine hK.out _ _ q9 (fun hHeld => ?_)
 clear hK K
 refine tkB 8 ?_
 refine tkB 9 ?_
 refine laterAny_ready (rs := [10, 11]) (by kernel_rfl) (by simp) ?_
 refine AllReadyB.cons (o := ⟨some 70, _, _, _, _, _⟩) rfl (fun K hK => ?_) (AllReadyB.cons (o := ⟨some 71, _, _, _, _, _⟩) rfl (fun K hK => ?_) AllReadyB.nil)
 ·(rw [if_pos (by kernel_rfl)])
  go_simp
  refine hK.out _ _ q9 (fun hHeld => ?_)
  clear hK K
  refine rdB 11 fun K hK => ?_
  go_simp
  refine hK.out _ _ q9 (fun hHeld => ?_)
  clear hK K
  refine tkB 12 ?_
  refine psB 13 fun K hK => ?_
  go_simp
  refine hK.out _ _ ?_
  clear hK K
  refine psB 14 fun K hK => ?_
  go_simp
  refine hK.out _ _ ?_
  clear hK K
  refine laterAny_done (by kernel_rfl) ?_
  first | rw [hW9] | skip
  clear hW9 x0 x1 x2 x3 x4 x5 x6 x7 e2 e3 e4 e5 e6 e7
  go_wp2_with fail
  go_ret
  exact ⟨rfl, _, _, _, _, _, _, HW9.out⟩
 ·(rw [if_pos (by kernel_rfl)])
  go_simp
  refine hK.out _ _ q9 (fun hHeld => ?_)
  clear hK K
  refine tkB 12 ?_
  refine laterAny_ready (rs := [10, 13]) (by kernel_rfl) (by simp) ?_
  refine AllReadyB.cons (o := ⟨some 70, _, _, _, _, _⟩) rfl (fun K hK => ?_) (AllReadyB.past (o := ⟨none, _, _, _, _, _⟩) rfl (by kernel_rfl) (fun K hK => ?_) AllReadyB.nil)
  ·(rw [if_pos (by kernel_rfl)])
   go_simp
   refine hK.out _ _ q9 (fun hHeld => ?_)
   clear hK K
   refine psB 13 fun K hK => ?_
   go_simp
   refine hK.out _ _ ?_
   clear hK K
   refine psB 14 fun K hK => ?_
   go_simp
   refine hK.out _ _ ?_
   clear hK K
   refine laterAny_done (by kernel_rfl) ?_
   first | rw [hW9] | skip
   clear hW9 x0 x1 x2 x3 x4 x5 x6 x7 e2 e3 e4 e5 e6 e7
   go_wp2_with fail
   go_ret
   exact ⟨rfl, _, _, _, _, _, _, HW9.out⟩
  ·(rw [if_pos (by kernel_rfl)])
   go_simp
   refine hK.out _ _ ?_
   clear hK K
   refine psB 10 fun K hK => ?_
   go_simp
   refine hK.out _ _ ?_
   clear hK K
   refine psB 14 fun K hK => ?_
   go_simp
   refine hK.out _ _ ?_
   clear hK K
   refine laterAny_done (by kernel_rfl) ?_
   first | rw [hW9] | skip
   clear hW9 x0 x1 x2 x3 x4 x5 x6 x7 e2 e3 e4 e5 e6 e7
   go_wp2_with fail
   go_ret
   exact ⟨rfl, _, _, _, _, _, _, HW9.out⟩
end
section
open Go Go.RowKit
open Go.Lib (hid)
set_option maxRecDepth 100000
set_option maxHeartbeats 8000000 in
theorem wstep7_calls (w0 W : World) (X Y : Nat → Prop) (wb b jb : Nat) (S : FS) (A : Option Addr) (n c : Nat) (h : WJ w0 W X Y wb b jb S S A n c) (x : OpH) (hx : OphIn w0 x) (m : Nat) (hA : S.At m) (hm : m + 5 * x.l.length + 30 ≤ 99000) (hbl : x.b.length ≤ 6000) (hkl : x.ks.length ≤ 6000) (hll : x.l.length ≤ 300) (ht : LaysR w0) (hk : x.k = 7) :
  Calls Tryz.prog 11 #[.pointer (some ⟨wb, 0, none⟩), .agg (ophC x).toArray] W fun e W' => e = .returned (.bool true) ∧ ∃ X2 Y2 jb2 A2 n2 c2, WJ w0 W' X2 Y2 wb b jb2 (doH S x).1 (doH S x).1 A2 n2 c2 := by
 obtain ⟨xk, ⟨xt, xd, xc⟩, xl, xi, xb, xks, LA, lc, BA, bc, KA, kc⟩ := x
 simp only at hk hm hbl hkl hll
 subst hk
 have hdo : doH S ⟨7, ⟨xt, xd, xc⟩, xl, xi, xb, xks, LA, lc, BA, bc, KA, kc⟩ = S.write hN xb := rfl
 rw [hdo]
 clear hdo
 have hbA : Below W.heap.size W (W.alloc (.cells (ophC ⟨7, ⟨xt, xd, xc⟩, xl, xi, xb, xks, LA, lc, BA, bc, KA, kc⟩).toArray 33)).drew := ((Below.refl _ W).alloc (Nat.le_refl _) (.cells (ophC ⟨7, ⟨xt, xd, xc⟩, xl, xi, xb, xks, LA, lc, BA, bc, KA, kc⟩).toArray 33)).drew
 have HW1 := hid (h.below hbA)
 have HOb := hid ((BxA.new W 33 (ophC ⟨7, ⟨xt, xd, xc⟩, xl, xi, xb, xks, LA, lc, BA, bc, KA, kc⟩)).below (Below.refl _ _).drew)
 have HXb : Hid (XN X W (W.alloc (.cells (ophC ⟨7, ⟨xt, xd, xc⟩, xl, xi, xb, xks, LA, lc, BA, bc, KA, kc⟩).toArray 33)).drew W.heap.size) := hid (XN.new (by show _ < (W.alloc _).heap.size; simp))
 have HIn := hid hx
 have HAt := hid hA
 have HFt := hid (hA.fit (by omega))
 have HT := hid ht
 have hsb : W.heap.size ≠ wb := fun e => by have := h.wa.lt; omega
 clear hbA h hx hA ht
 have HDa := hid (fun y D v hs hB => rdo10_calls y D v S ⟨0, hN, ⟨#[]⟩, xb, 0, []⟩ BA bc none 0 hs HFt.out (by show (0 : Int) ≤ 0; decide) (by show (0 : Int) ≤ 8; decide) hB HIn.out.bn (by show xb.length ≤ _; omega) (fun hn => absurd hn (Nat.lt_irrefl 0)) (Nat.zero_le _))
 have HCa := hid (HW1.out.wa.fx.step (S2 := (S.write hN xb).1) (fun O D hh hXO => fwrite_calls _ O D b S hh HFt.out hN BA bc xb ((HW1.out.wa.oldB HIn.out.b).mono fun k hk => (hXO k hk.1).2) HIn.out.bn (by omega)))
 have hres2 : doF S ⟨0, hN, ⟨#[]⟩, xb, 0, []⟩ = S.write hN xb := rfl
 simp only [hres2] at HDa
 clear hres2
 obtain ⟨res, hres⟩ : ∃ res, res = S.write hN xb := ⟨_, rfl⟩
 rw [← hres] at HCa ⊢
 simp only [← hres] at HDa
 obtain ⟨S6, z6⟩ := res
 simp only at HCa HDa ⊢
 have q2 : (z6 == z6) = true := beq_self_eq_true z6
 clear hres
 have o0 := HOb.out.c 0 rfl
 go_enter Tryz.func11, Tryz.ntmps11
 have KK0 := (And.intro (HW1.out.wa.box.c 0 rfl) (HOb.out.c 6 rfl))
 go_upto_region 29 with fail
 refine wp_region_held_drew (S := (fun w' => w'.cell? ⟨wb, 0, none⟩ = some (fp b) ∧ w'.cell? ⟨W.heap.size, 6, none⟩ = some (.slice BA xb.length bc))) (by kernel_rfl) KK0 (fun hHeld => ?_)
 refine tkH 0 ?_
 refine tkH 1 ?_
 refine tkH 2 ?_
 refine tkH 3 ?_
 refine tkH 4 ?_
 refine tkH 5 ?_
 refine tkH 6 ?_
 refine rdH 7 fun K hK => ?_
 go_simp
 refine HCa.out.mono ?_; rintro e y1 ⟨rfl, hf, ho⟩; have HW2 := hid (HW1.out.turn hf (fun _ h => h) (fun _ h => h) ho); have HOb2 := hid (HOb.out.keep ho (fun hn => hn HXb.out)); have KK1 := (And.intro (HW2.out.wa.box.c 0 rfl) (HOb2.out.c 6 rfl)); clear hf ho HCa
 refine hK.out _ _ KK1 (fun hHeld => ?_)
 clear hK K
 refine tkH 8 ?_
 refine wpAnyH_done (by kernel_rfl) ?_ _
 have HW2d := hid (HW2.out.below (Below.refl _ y1).drew)
 have HOb2d := hid (HOb2.out.below (Below.refl _ y1).drew)
 clear KK0 KK1
 have KL0 := (And.intro (HW2d.out.wa.box.c 2 rfl) (And.intro (HW2d.out.wa.box.c 3 rfl) (And.intro (HW2d.out.wa.box.c 4 rfl) (And.intro (HW2d.out.wa.box.c 5 rfl) (And.intro (HW2d.out.wa.box.c 6 rfl) (And.intro (HW2d.out.wa.box.c 7 rfl) (HOb2d.out.c 6 rfl)))))))
 go_upto_region 30 with fail
 refine wp_region_later (S := (fun w' => w'.cell? ⟨wb, 2, none⟩ = some (.slice A n c) ∧ w'.cell? ⟨wb, 3, none⟩ = some (.int .i64 (S.no : Int)) ∧ w'.cell? ⟨wb, 4, none⟩ = some (.int .i64 (S.ops : Int)) ∧ w'.cell? ⟨wb, 5, none⟩ = some (.int .i64 S.fuse) ∧ w'.cell? ⟨wb, 6, none⟩ = some (.int .i64 S.fault) ∧ w'.cell? ⟨wb, 7, none⟩ = some (.bool S.down) ∧ w'.cell? ⟨W.heap.size, 6, none⟩ = some (.slice BA xb.length bc))) 15 (by kernel_rfl) KL0 (fun hHeld => ?_)
 refine tkB 0 ?_
 refine tkB 1 ?_
 refine tkB 2 ?_
 refine tkB 3 ?_
 refine tkB 4 ?_
 refine tkB 5 ?_
 refine tkB 6 ?_
 refine tkB 7 ?_
 refine tkB 8 ?_
 refine rdB 9 fun K hK => ?_
 go_simp
 have HDo := hid (HDa.out _ _ _ HW2d.out.wa.st (HW2d.out.wa.oldB HIn.out.b))
 first | unfold stV at HDo | skip
 first | unfold opC at HDo | skip
 refine HDo.out.mono ?_
 rintro e y2 ⟨v2, rfl, hst2, hb2⟩
 obtain ⟨A6, n6, c6, rfl, hst3⟩ := stA_ext (HW2d.out.wa.doc hst2)
 have hw3 := HW2d.out.below hb2
 have hp3 := hw3.put hst3
 have HWq := hid hw3
 have x0 := HWq.out.wa.box.c 0 rfl
 have x1 := HWq.out.wa.box.c 1 rfl
 have x2 := HWq.out.wa.box.c 2 rfl
 have x3 := HWq.out.wa.box.c 3 rfl
 have x4 := HWq.out.wa.box.c 4 rfl
 have x5 := HWq.out.wa.box.c 5 rfl
 have x6 := HWq.out.wa.box.c 6 rfl
 have x7 := HWq.out.wa.box.c 7 rfl
 have e2 := HWq.out.wa.box.free 2
 have e3 := HWq.out.wa.box.free 3
 have e4 := HWq.out.wa.box.free 4
 have e5 := HWq.out.wa.box.free 5
 have e6 := HWq.out.wa.box.free 6
 have e7 := HWq.out.wa.box.free 7
 unfold stV
 have HObq := hid (HOb2d.out.below hb2)
 have q9 := (And.intro (HWq.out.wa.box.c 2 rfl) (And.intro (HWq.out.wa.box.c 3 rfl) (And.intro (HWq.out.wa.box.c 4 rfl) (And.intro (HWq.out.wa.box.c 5 rfl) (And.intro (HWq.out.wa.box.c 6 rfl) (And.intro (HWq.out.wa.box.c 7 rfl) (HObq.out.c 6 rfl)))))))
 obtain ⟨W9, hW9⟩ : ∃ W9, sixW y2 wb (.slice A6 n6 c6) (.int .i64 (S6.no : Int)) (.int .i64 (S6.ops : Int)) (.int .i64 S6.fuse) (.int .i64 S6.fault) (.bool S6.down) = W9 := ⟨_, rfl⟩
 rw [hW9] at hp3
 have HW9 := hid hp3
 unfold sixW at hW9
 clear hst2 hst3 hw3 hp3 hb2 HDo
 refine hK.out _ _ q9 (fun hHeld => ?_)
 clear hK K
 refine tkB 10 ?_
 refine tkB 11 ?_
 refine laterAny_ready (rs := [12, 13]) (by kernel_rfl) (by simp) ?_
 refine AllReadyB.cons (o := ⟨some 174, _, _, _, _, _⟩) rfl (fun K hK => ?_) (AllReadyB.cons (o := ⟨some 175, _, _, _, _, _⟩) rfl (fun K hK => ?_) AllReadyB.nil)
 ·(rw [if_pos (by kernel_rfl)])
  go_simp
  refine hK.out _ _ q9 (fun hHeld => ?_)
  clear hK K
  refine rdB 13 fun K hK => ?_
  go_simp
  refine hK.out _ _ q9 (fun hHeld => ?_)
  clear hK K
  refine tkB 14 ?_
  refine psB 15 fun K hK => ?_
  go_simp
  refine hK.out _ _ ?_
  clear hK K
  refine psB 16 fun K hK => ?_
  go_simp
  refine hK.out _ _ ?_
  clear hK K
  refine laterAny_done (by kernel_rfl) ?_
  first | rw [hW9] | skip
  clear hW9 x0 x1 x2 x3 x4 x5 x6 x7 e2 e3 e4 e5 e6 e7
  go_wp2_with fail
  go_ret
  exact ⟨rfl, _, _, _, _, _, _, HW9.out⟩
 ·(rw [if_pos (by kernel_rfl)])
  go_simp
  refine hK.out _ _ q9 (fun hHeld => ?_)
  clear hK K
  refine tkB 14 ?_
  refine laterAny_ready (rs := [12, 15]) (by kernel_rfl) (by simp) ?_
  refine AllReadyB.cons (o := ⟨some 174, _, _, _, _, _⟩) rfl (fun K hK => ?_) (AllReadyB.past (o := ⟨none, _, _, _, _, _⟩) rfl (by kernel_rfl) (fun K hK => ?_) AllReadyB.nil)
  ·(rw [if_pos (by kernel_rfl)])
   go_simp
   refine hK.out _ _ q9 (fun hHeld => ?_)
   clear hK K
   refine psB 15 fun K hK => ?_
   go_simp
   refine hK.out _ _ ?_
   clear hK K
   refine psB 16 fun K hK => ?_
   go_simp
   refine hK.out _ _ ?_
   clear hK K
   refine laterAny_done (by kernel_rfl) ?_
   first | rw [hW9] | skip
   clear hW9 x0 x1 x2 x3 x4 x5 x6 x7 e2 e3 e4 e5 e6 e7
   go_wp2_with fail
   go_ret
   exact ⟨rfl, _, _, _, _, _, _, HW9.out⟩
  ·(rw [if_pos (by kernel_rfl)])
   go_simp
   refine hK.out _ _ ?_
   clear hK K
   refine psB 12 fun K hK => ?_
   go_simp
   refine hK.out _ _ ?_
   clear hK K
   refine psB 16 fun K hK => ?_
   go_simp
   refine hK.out _ _ ?_
   clear hK K
   refine laterAny_done (by kernel_rfl) ?_
   first | rw [hW9] | skip
   clear hW9 x0 x1 x2 x3 x4 x5 x6 x7 e2 e3 e4 e5 e6 e7
   go_wp2_with fail
   go_ret
   exact ⟨rfl, _, _, _, _, _, _, HW9.out⟩
set_option maxHeartbeats 8000000 in
theorem wstep8_calls (w0 W : World) (X Y : Nat → Prop) (wb b jb : Nat) (S : FS) (A : Option Addr) (n c : Nat) (h : WJ w0 W X Y wb b jb S S A n c) (x : OpH) (hx : OphIn w0 x) (m : Nat) (hA : S.At m) (hm : m + 5 * x.l.length + 30 ≤ 99000) (hbl : x.b.length ≤ 6000) (hkl : x.ks.length ≤ 6000) (hll : x.l.length ≤ 300) (ht : LaysR w0) (hk : x.k = 8) :
  Calls Tryz.prog 11 #[.pointer (some ⟨wb, 0, none⟩), .agg (ophC x).toArray] W fun e W' => e = .returned (.bool true) ∧ ∃ X2 Y2 jb2 A2 n2 c2, WJ w0 W' X2 Y2 wb b jb2 (doH S x).1 (doH S x).1 A2 n2 c2 := by
 obtain ⟨xk, ⟨xt, xd, xc⟩, xl, xi, xb, xks, LA, lc, BA, bc, KA, kc⟩ := x
 simp only at hk hm hbl hkl hll
 subst hk
 have hdo : doH S ⟨8, ⟨xt, xd, xc⟩, xl, xi, xb, xks, LA, lc, BA, bc, KA, kc⟩ = S.write (otJ hN) xb := rfl
 rw [hdo]
 clear hdo
 have hbA : Below W.heap.size W (W.alloc (.cells (ophC ⟨8, ⟨xt, xd, xc⟩, xl, xi, xb, xks, LA, lc, BA, bc, KA, kc⟩).toArray 33)).drew := ((Below.refl _ W).alloc (Nat.le_refl _) (.cells (ophC ⟨8, ⟨xt, xd, xc⟩, xl, xi, xb, xks, LA, lc, BA, bc, KA, kc⟩).toArray 33)).drew
 have HW1 := hid (h.below hbA)
 have HOb := hid ((BxA.new W 33 (ophC ⟨8, ⟨xt, xd, xc⟩, xl, xi, xb, xks, LA, lc, BA, bc, KA, kc⟩)).below (Below.refl _ _).drew)
 have HXb : Hid (XN X W (W.alloc (.cells (ophC ⟨8, ⟨xt, xd, xc⟩, xl, xi, xb, xks, LA, lc, BA, bc, KA, kc⟩).toArray 33)).drew W.heap.size) := hid (XN.new (by show _ < (W.alloc _).heap.size; simp))
 have HIn := hid hx
 have HAt := hid hA
 have HFt := hid (hA.fit (by omega))
 have HT := hid ht
 have hsb : W.heap.size ≠ wb := fun e => by have := h.wa.lt; omega
 clear hbA h hx hA ht
 have HDa := hid (fun y D v hs hB => rdo10_calls y D v S ⟨0, (otJ hN), ⟨#[]⟩, xb, 0, []⟩ BA bc none 0 hs HFt.out (by show (0 : Int) ≤ 0; decide) (by show (0 : Int) ≤ 8; decide) hB HIn.out.bn (by show xb.length ≤ _; omega) (fun hn => absurd hn (Nat.lt_irrefl 0)) (Nat.zero_le _))
 have HCa := hid (HW1.out.wa.fx.step (S2 := (S.write (otJ hN) xb).1) (fun O D hh hXO => fwrite_calls _ O D b S hh HFt.out (otJ hN) BA bc xb ((HW1.out.wa.oldB HIn.out.b).mono fun k hk => (hXO k hk.1).2) HIn.out.bn (by omega)))
 have hres2 : doF S ⟨0, (otJ hN), ⟨#[]⟩, xb, 0, []⟩ = S.write (otJ hN) xb := rfl
 simp only [hres2] at HDa
 clear hres2
 obtain ⟨res, hres⟩ : ∃ res, res = S.write (otJ hN) xb := ⟨_, rfl⟩
 rw [← hres] at HCa ⊢
 simp only [← hres] at HDa
 obtain ⟨S6, z6⟩ := res
 simp only at HCa HDa ⊢
 have q2 : (z6 == z6) = true := beq_self_eq_true z6
 clear hres
 have o0 := HOb.out.c 0 rfl
 go_enter Tryz.func11, Tryz.ntmps11
 have KK0 := (And.intro (HW1.out.wa.box.c 0 rfl) (HOb.out.c 6 rfl))
 go_upto_region 29 with fail
 refine wp_region_held_drew (S := (fun w' => w'.cell? ⟨wb, 0, none⟩ = some (fp b) ∧ w'.cell? ⟨W.heap.size, 6, none⟩ = some (.slice BA xb.length bc))) (by kernel_rfl) KK0 (fun hHeld => ?_)
 refine tkH 0 ?_
 refine tkH 1 ?_
 refine tkH 2 ?_
 refine tkH 3 ?_
 refine tkH 4 ?_
 refine tkH 5 ?_
 refine tkH 6 ?_
 refine rdH 7 fun K hK => ?_
 go_simp
 refine HCa.out.mono ?_; rintro e y1 ⟨rfl, hf, ho⟩; have HW2 := hid (HW1.out.turn hf (fun _ h => h) (fun _ h => h) ho); have HOb2 := hid (HOb.out.keep ho (fun hn => hn HXb.out)); have KK1 := (And.intro (HW2.out.wa.box.c 0 rfl) (HOb2.out.c 6 rfl)); clear hf ho HCa
 refine hK.out _ _ KK1 (fun hHeld => ?_)
 clear hK K
 refine tkH 8 ?_
 refine wpAnyH_done (by kernel_rfl) ?_ _
 have HW2d := hid (HW2.out.below (Below.refl _ y1).drew)
 have HOb2d := hid (HOb2.out.below (Below.refl _ y1).drew)
 clear KK0 KK1
 have KL0 := (And.intro (HW2d.out.wa.box.c 2 rfl) (And.intro (HW2d.out.wa.box.c 3 rfl) (And.intro (HW2d.out.wa.box.c 4 rfl) (And.intro (HW2d.out.wa.box.c 5 rfl) (And.intro (HW2d.out.wa.box.c 6 rfl) (And.intro (HW2d.out.wa.box.c 7 rfl) (HOb2d.out.c 6 rfl)))))))
 go_upto_region 30 with fail
 refine wp_region_later (S := (fun w' => w'.cell? ⟨wb, 2, none⟩ = some (.slice A n c) ∧ w'.cell? ⟨wb, 3, none⟩ = some (.int .i64 (S.no : Int)) ∧ w'.cell? ⟨wb, 4, none⟩ = some (.int .i64 (S.ops : Int)) ∧ w'.cell? ⟨wb, 5, none⟩ = some (.int .i64 S.fuse) ∧ w'.cell? ⟨wb, 6, none⟩ = some (.int .i64 S.fault) ∧ w'.cell? ⟨wb, 7, none⟩ = some (.bool S.down) ∧ w'.cell? ⟨W.heap.size, 6, none⟩ = some (.slice BA xb.length bc))) 15 (by kernel_rfl) KL0 (fun hHeld => ?_)
 refine tkB 0 ?_
 refine tkB 1 ?_
 refine tkB 2 ?_
 refine tkB 3 ?_
 refine tkB 4 ?_
 refine tkB 5 ?_
 refine tkB 6 ?_
 refine tkB 7 ?_
 refine tkB 8 ?_
 refine rdB 9 fun K hK => ?_
 go_simp
 have HDo := hid (HDa.out _ _ _ HW2d.out.wa.st (HW2d.out.wa.oldB HIn.out.b))
 first | unfold stV at HDo | skip
 first | unfold opC at HDo | skip
 refine HDo.out.mono ?_
 rintro e y2 ⟨v2, rfl, hst2, hb2⟩
 obtain ⟨A6, n6, c6, rfl, hst3⟩ := stA_ext (HW2d.out.wa.doc hst2)
 have hw3 := HW2d.out.below hb2
 have hp3 := hw3.put hst3
 have HWq := hid hw3
 have x0 := HWq.out.wa.box.c 0 rfl
 have x1 := HWq.out.wa.box.c 1 rfl
 have x2 := HWq.out.wa.box.c 2 rfl
 have x3 := HWq.out.wa.box.c 3 rfl
 have x4 := HWq.out.wa.box.c 4 rfl
 have x5 := HWq.out.wa.box.c 5 rfl
 have x6 := HWq.out.wa.box.c 6 rfl
 have x7 := HWq.out.wa.box.c 7 rfl
 have e2 := HWq.out.wa.box.free 2
 have e3 := HWq.out.wa.box.free 3
 have e4 := HWq.out.wa.box.free 4
 have e5 := HWq.out.wa.box.free 5
 have e6 := HWq.out.wa.box.free 6
 have e7 := HWq.out.wa.box.free 7
 unfold stV
 have HObq := hid (HOb2d.out.below hb2)
 have q9 := (And.intro (HWq.out.wa.box.c 2 rfl) (And.intro (HWq.out.wa.box.c 3 rfl) (And.intro (HWq.out.wa.box.c 4 rfl) (And.intro (HWq.out.wa.box.c 5 rfl) (And.intro (HWq.out.wa.box.c 6 rfl) (And.intro (HWq.out.wa.box.c 7 rfl) (HObq.out.c 6 rfl)))))))
 obtain ⟨W9, hW9⟩ : ∃ W9, sixW y2 wb (.slice A6 n6 c6) (.int .i64 (S6.no : Int)) (.int .i64 (S6.ops : Int)) (.int .i64 S6.fuse) (.int .i64 S6.fault) (.bool S6.down) = W9 := ⟨_, rfl⟩
 rw [hW9] at hp3
 have HW9 := hid hp3
 unfold sixW at hW9
 clear hst2 hst3 hw3 hp3 hb2 HDo
 refine hK.out _ _ q9 (fun hHeld => ?_)
 clear hK K
 refine tkB 10 ?_
 refine tkB 11 ?_
 refine laterAny_ready (rs := [12, 13]) (by kernel_rfl) (by simp) ?_
 refine AllReadyB.cons (o := ⟨some 174, _, _, _, _, _⟩) rfl (fun K hK => ?_) (AllReadyB.cons (o := ⟨some 175, _, _, _, _, _⟩) rfl (fun K hK => ?_) AllReadyB.nil)
 ·(rw [if_pos (by kernel_rfl)])
  go_simp
  refine hK.out _ _ q9 (fun hHeld => ?_)
  clear hK K
  refine rdB 13 fun K hK => ?_
  go_simp
  refine hK.out _ _ q9 (fun hHeld => ?_)
  clear hK K
  refine tkB 14 ?_
  refine psB 15 fun K hK => ?_
  go_simp
  refine hK.out _ _ ?_
  clear hK K
  refine psB 16 fun K hK => ?_
  go_simp
  refine hK.out _ _ ?_
  clear hK K
  refine laterAny_done (by kernel_rfl) ?_
  first | rw [hW9] | skip
  clear hW9 x0 x1 x2 x3 x4 x5 x6 x7 e2 e3 e4 e5 e6 e7
  go_wp2_with fail
  go_ret
  exact ⟨rfl, _, _, _, _, _, _, HW9.out⟩
 ·(rw [if_pos (by kernel_rfl)])
  go_simp
  refine hK.out _ _ q9 (fun hHeld => ?_)
  clear hK K
  refine tkB 14 ?_
  refine laterAny_ready (rs := [12, 15]) (by kernel_rfl) (by simp) ?_
  refine AllReadyB.cons (o := ⟨some 174, _, _, _, _, _⟩) rfl (fun K hK => ?_) (AllReadyB.past (o := ⟨none, _, _, _, _, _⟩) rfl (by kernel_rfl) (fun K hK => ?_) AllReadyB.nil)
  ·(rw [if_pos (by kernel_rfl)])
   go_simp
   refine hK.out _ _ q9 (fun hHeld => ?_)
   clear hK K
   refine psB 15 fun K hK => ?_
   go_simp
   refine hK.out _ _ ?_
   clear hK K
   refine psB 16 fun K hK => ?_
   go_simp
   refine hK.out _ _ ?_
   clear hK K
   refine laterAny_done (by kernel_rfl) ?_
   first | rw [hW9] | skip
   clear hW9 x0 x1 x2 x3 x4 x5 x6 x7 e2 e3 e4 e5 e6 e7
   go_wp2_with fail
   go_ret
   exact ⟨rfl, _, _, _, _, _, _, HW9.out⟩
  ·(rw [if_pos (by kernel_rfl)])
   go_simp
   refine hK.out _ _ ?_
   clear hK K
   refine psB 12 fun K hK => ?_
   go_simp
   refine hK.out _ _ ?_
   clear hK K
   refine psB 16 fun K hK => ?_
   go_simp
   refine hK.out _ _ ?_
   clear hK K
   refine laterAny_done (by kernel_rfl) ?_
   first | rw [hW9] | skip
   clear hW9 x0 x1 x2 x3 x4 x5 x6 x7 e2 e3 e4 e5 e6 e7
   go_wp2_with fail
   go_ret
   exact ⟨rfl, _, _, _, _, _, _, HW9.out⟩
end
section
open Go Go.RowKit
open Go.Lib (hid)
set_option maxRecDepth 100000
theorem entsJ_len : ∀ l : List (List UInt8), (entsJ l).1.length ≤ l.length
 | [] => Nat.le_refl _
 | p :: l => by
  have h := entsJ_len l
  rw [ents_cons]
  cases unpackJ p with
  | none => exact Nat.zero_le _
  | some x => simp only [List.length_cons]; omega
theorem entries_few (b : List UInt8) : (entriesJ b).1.length ≤ b.length := by
 have h1 := entsJ_len (scanF b).1
 have h2 := packs_six (scanF b).1
 have h3 := congrArg List.length (scan_is b).1
 rw [List.length_append] at h3
 show (entsJ (scanF b).1).1.length ≤ _
 omega
theorem openJ_len {S : FS} {k : Nat} (h : S.At k) (n : ByteArray) : (openJ S n).2.1.length ≤ 65536 := by
 have h1 := read_len (h.clearJ n).ok n
 have h2 := entries_few ((clearJ S n).1.read n).1
 unfold openJ
 repeat' split
 all_goals first
  | exact Nat.zero_le _
  | (show (entriesJ ((clearJ S n).1.read n).1).1.length ≤ _; omega)
def OpenedW (W' : World) (X' : Nat → Prop) (wb b : Nat) (jv jv' : Value) (z : Int) : Prop := if z = 0 then ∃ jb, jv' = jP jb ∧ X' jb ∧ jb ≠ wb ∧ BxA W' jb 90 (jnC b hN) else jv' = jv
set_option maxHeartbeats 8000000 in
theorem wopen12_calls (w0 W : World) (X Y : Nat → Prop) (wb b : Nat) (p : Option Addr) (S : FS) (A : Option Addr) (n c : Nat) (h : WA w0 W X Y wb b (.pointer p) S S A n c) (m : Nat) (hA : S.At m) (hm : m + 10 ≤ 100000) (ht : LaysR w0) :
  Calls Tryz.prog 32 #[.pointer (some ⟨wb, 0, none⟩)] W fun e W' => e = .returned (.bool true) ∧ ∃ X2 Y2 jv' A2 n2 c2, WA w0 W' X2 Y2 wb b jv' (openJ S hN).1 (openJ S hN).1 A2 n2 c2 ∧ (∀ k, X k → X2 k) ∧ (∀ k, Y k → Y2 k) ∧ Only (fun k => ¬ X k ∨ k = wb) W W' ∧ OpenedW W' X2 wb b (.pointer p) jv' (openJ S hN).2.2 := by
 have hln := openJ_len hA hN
 have hO := jopen12_calls w0 W X Y b S h.fx hN hN_le m hA hm ht
 have hAo := hA.openJ hN
 have hD := fun w1 D v hs => ropen12_calls w1 D v S hN m (by decide) hs hA hm
 obtain ⟨res, hres⟩ : ∃ res, res = openJ S hN := ⟨_, rfl⟩
 rw [← hres] at hO hAo hln ⊢
 simp only [← hres] at hD
 obtain ⟨S2, l, z⟩ := res
 simp only at hO hAo hln hD ⊢
 have HO := hid hO
 have HD := hid hD
 have HW := hid h
 have HLn := hid hln
 obtain ⟨x0, x1, x2, x3, x4, x5, x6, x7⟩ := h.cells
 clear hO hAo hD hres h hA hln
 go_enter Tryz.func32, Tryz.ntmps32
 go_wp2_with fail
 refine HO.out.mono ?_
 rintro e w1 ⟨v, A1, c1, X1, Y1, rfl, hO⟩
 have hw1 := HW.out.turn hO.fx hO.hx hO.hy hO.only
 have HR1 := hid (hw1.ents hO.row)
 have HJ := hid hO.j
 have HHx := hid hO.hx
 have HHy := hid hO.hy
 have HOn := hid (hO.only.mono (R' := fun k => ¬ X k ∨ k = wb) (fun k hk => .inl (.inl hk)))
 have HNl := hid hO.nil_
 have HW1 := hid hw1
 have HWlt := hid (show wb < W.heap.size from HW.out.lt)
 clear x0 x1 x2 x3 x4 x5 x6 x7 HO hw1
 obtain ⟨x0, x1, x2, x3, x4, x5, x6, x7⟩ := HW1.out.cells
 have HD1 := hid (HD.out w1 _ _ HW1.out.st)
 unfold stV at HD1
 clear HD hO
 go_wp2_with fail
 refine HD1.out.mono ?_
 rintro e w2 ⟨v2, A2, c2, rfl, hst2, hrow2, hnil2, hb2⟩
 obtain ⟨A6, n6, c6, rfl, hst3⟩ := stA_ext (HW1.out.doc hst2)
 have hwlt7 : wb ≠ w2.heap.size := by have := HW1.out.lt; have := hb2.size; omega
 have ba := (Below.refl _ w2).alloc (Nat.le_refl _) (.cells (stC A6 n6 c6 S2).toArray 51)
 have hW7 := (HW1.out.below hb2).below ba
 have hS7 := (hst3.below ba).mono (D' := fun k => XN (XN X1 w1 w2) w2 (w2.alloc (.cells (stC A6 n6 c6 S2).toArray 51)) k ∧ k ≠ wb) (fun k hk => ⟨.inl hk.1, hk.2⟩)
 have nb := BxA.new w2 51 (stC A6 n6 c6 S2)
 have HR7 := hid ((HR1.out.below hb2).below ba)
 have HM7 := hid (((hrow2.below ba).mono (R' := fun k => w1.heap.size ≤ k ∧ k ≠ wb) (fun k hk => ⟨hk, fun e => by have := HW1.out.lt; omega⟩)))
 have HOn7 := hid ((HOn.out.trans (R' := fun _ => False) (Only.of_below hb2) (fun _ h => h.elim)).trans (R' := fun _ => False) (Only.of_below ba) (fun _ h => h.elim))
 have HHx7 : Hid (∀ k, X k → XN (XN X1 w1 w2) w2 (w2.alloc (.cells (stC A6 n6 c6 S2).toArray 51)) k) := hid (fun k hk => .inl (.inl (HHx.out k hk)))
 have HX17 : Hid (∀ k, X1 k → XN (XN X1 w1 w2) w2 (w2.alloc (.cells (stC A6 n6 c6 S2).toArray 51)) k) := hid (fun k hk => .inl (.inl hk))
 have HHy7 : Hid (∀ k, Y k → XN (XN Y1 w1 w2) w2 (w2.alloc (.cells (stC A6 n6 c6 S2).toArray 51)) k) := hid (fun k hk => .inl (.inl (HHy.out k hk)))
 have HOn17 := hid (((Only.of_below hb2 : Only (fun _ => False) w1 w2).trans (R' := fun _ => False) (Only.of_below ba) (fun _ h => h.elim)))
 generalize XN (XN X1 w1 w2) w2 (w2.alloc (.cells (stC A6 n6 c6 S2).toArray 51)) = X7 at hW7 hS7 HHx7 HX17
 generalize XN (XN Y1 w1 w2) w2 (w2.alloc (.cells (stC A6 n6 c6 S2).toArray 51)) = Y7 at hW7 HHy7
 obtain ⟨W7, hW7e⟩ : ∃ W7, w2.alloc (.cells (stC A6 n6 c6 S2).toArray 51) = W7 := ⟨_, rfl⟩
 rw [hW7e] at hW7 hS7 nb HR7 HM7 HOn7 HOn17
 unfold stV
 unfold stC at nb hW7e
 clear x0 x1 x2 x3 x4 x5 x6 x7 ba hst2 hst3 hrow2 HD1 HR1 hb2
 have HW8 := hid (hW7.put hS7)
 have n0 := nb.c 0 rfl
 have n1 := nb.c 1 rfl
 have n2 := nb.c 2 rfl
 have n3 := nb.c 3 rfl
 have n4 := nb.c 4 rfl
 have n5 := nb.c 5 rfl
 have f1 := hW7.box.free 1
 have f2 := hW7.box.free 2
 have f3 := hW7.box.free 3
 have f4 := hW7.box.free 4
 have f5 := hW7.box.free 5
 have f6 := hW7.box.free 6
 have f7 := hW7.box.free 7
 obtain ⟨y0, y1, y2, y3, y4, y5, y6, y7⟩ := hW7.cells
 have HR8 := hid (HR7.out.keep (sixW_only W7 wb (.slice A6 n6 c6) (.int .i64 (S2.no : Int)) (.int .i64 (S2.ops : Int)) (.int .i64 S2.fuse) (.int .i64 S2.fault) (.bool S2.down)) (fun k hk e => hk.2 e))
 have HM8 := hid (HM7.out.keep (sixW_only W7 wb (.slice A6 n6 c6) (.int .i64 (S2.no : Int)) (.int .i64 (S2.ops : Int)) (.int .i64 S2.fuse) (.int .i64 S2.fault) (.bool S2.down)) (fun k hk e => hk.2 e))
 have HOn8 := hid (HOn7.out.trans (sixW_only W7 wb (.slice A6 n6 c6) (.int .i64 (S2.no : Int)) (.int .i64 (S2.ops : Int)) (.int .i64 S2.fuse) (.int .i64 S2.fault) (.bool S2.down)) (fun k hk => .inl (.inr hk)))
 have HOn18 := hid ((HOn17.out.mono (R' := fun k => k = wb) (fun _ h => h.elim)).trans (sixW_only W7 wb (.slice A6 n6 c6) (.int .i64 (S2.no : Int)) (.int .i64 (S2.ops : Int)) (.int .i64 S2.fuse) (.int .i64 S2.fault) (.bool S2.down)) (fun k hk => .inl hk))
 clear hW7 hS7 nb HR7 HM7 HOn7 HOn17
 have q2 : (z == z) = true := beq_self_eq_true z
 by_cases hz : z = 0
 ·subst hz
  have hj := HJ.out
  rw [if_pos rfl] at hj
  obtain ⟨jb, rfl, hjX, hjge, hjbx⟩ := hj
  have hjne : jb ≠ wb := fun e => by have := HWlt.out; omega
  have ho9 : Only (fun i => i = wb) (sixW W7 wb (.slice A6 n6 c6) (.int .i64 (S2.no : Int)) (.int .i64 (S2.ops : Int)) (.int .i64 S2.fuse) (.int .i64 S2.fault) (.bool S2.down)) ((sixW W7 wb (.slice A6 n6 c6) (.int .i64 (S2.no : Int)) (.int .i64 (S2.ops : Int)) (.int .i64 S2.fuse) (.int .i64 S2.fault) (.bool S2.down)).setCell ⟨wb, 1, none⟩ (jP jb)) := (Only.refl (fun i => i = wb) _).set (p := ⟨wb, 1, none⟩) (.inl rfl) _
  have HW9 := hid (HW8.out.setj (jP jb))
  have HR9 := hid (HR8.out.keep ho9 (fun k hk e => hk.2 e))
  have HM9 := hid (HM8.out.keep ho9 (fun k hk e => hk.2 e))
  have HOn9 := hid (HOn8.out.trans ho9 (fun k hk => .inl (.inr hk)))
  have HJ9 := hid ((hjbx.keep HOn18.out hjne).keep ho9 hjne)
  have HJx := hid (HX17.out jb hjX)
  have HNe := hid hjne
  have HOld := hid (old12_calls _ _ A1 c1 l HR9.out (by have := HLn.out; omega))
  clear ho9 hjbx hjX hjge hjne HR8 HM8 HOn8 HOn18 HR9 HW8 HX17 HJ
  go_wp2_with fail
  refine HOld.out.mono ?_
  rintro e w10 ⟨A10, c10, rfl, hown10, hb10⟩
  have HSm := hid (rsame12_calls w10 (fun _ => True) _ A10 A2 c10 c2 l l (rowT_of_own hown10 (fun _ _ => trivial)) (HM9.out.below hb10) (by have := HLn.out; omega) (by have := HLn.out; omega))
  rw [decide_eq_true rfl] at HSm
  have HW10 := hid (HW9.out.below hb10)
  have HOn10 := hid (HOn9.out.trans (R' := fun _ => False) (Only.of_below hb10) (fun _ h => h.elim))
  have HJ10 := hid (HJ9.out.below hb10)
  clear hown10 hb10 HM9 HW9 HOn9 HJ9 HOld y0 y1 y2 y3 y4 y5 y6 y7 f1 f2 f3 f4 f5 f6 f7 n0 n1 n2 n3 n4 n5
  go_wp2_with fail
  refine HSm.out.mono ?_
  rintro e w11 ⟨rfl, hb11⟩
  have HW11 := hid (HW10.out.below hb11)
  have HOn11 := hid (HOn10.out.trans (R' := fun _ => False) (Only.of_below hb11) (fun _ h => h.elim))
  have HJ11 := hid (HJ10.out.below hb11)
  clear hb11 HSm HW10 HOn10 HJ10
  go_wp2_with fail
  go_ret
  exact ⟨rfl, _, _, _, _, _, _, HW11.out, fun k hk => .inl (.inl (HHx7.out k hk)), fun k hk => .inl (.inl (HHy7.out k hk)), HOn11.out, jb, rfl, .inl (.inl HJx.out), HNe.out, HJ11.out⟩
 ·have hj := HJ.out
  rw [if_neg hz] at hj
  subst hj
  have q1 : (z == 0) = false := beq_eq_false_iff_ne.2 hz
  have q3 : (z != 0) = true := bne_iff_ne.2 hz
  have HZ := hid hz
  have HOld := hid (old12_calls _ _ A1 c1 l HR8.out (by have := HLn.out; omega))
  clear HOn18 HR8 HX17 HJ hz
  go_wp2_with fail
  refine HOld.out.mono ?_
  rintro e w10 ⟨A10, c10, rfl, hown10, hb10⟩
  have HSm := hid (rsame12_calls w10 (fun _ => True) _ A10 A2 c10 c2 l l (rowT_of_own hown10 (fun _ _ => trivial)) (HM8.out.below hb10) (by have := HLn.out; omega) (by have := HLn.out; omega))
  rw [decide_eq_true rfl] at HSm
  have HW10 := hid (HW8.out.below hb10)
  have HOn10 := hid (HOn8.out.trans (R' := fun _ => False) (Only.of_below hb10) (fun _ h => h.elim))
  clear hown10 hb10 HM8 HW8 HOn8 HOld y0 y1 y2 y3 y4 y5 y6 y7 f1 f2 f3 f4 f5 f6 f7 n0 n1 n2 n3 n4 n5
  go_wp2_with fail
  refine HSm.out.mono ?_
  rintro e w11 ⟨rfl, hb11⟩
  have HW11 := hid (HW10.out.below hb11)
  have HOn11 := hid (HOn10.out.trans (R' := fun _ => False) (Only.of_below hb11) (fun _ h => h.elim))
  clear hb11 HSm HW10 HOn10
  go_wp2_with fail
  go_ret
  exact ⟨rfl, _, _, _, _, _, _, HW11.out, fun k hk => .inl (.inl (HHx7.out k hk)), fun k hk => .inl (.inl (HHy7.out k hk)), HOn11.out, by unfold OpenedW; rw [if_neg HZ.out]⟩
theorem WJ.open_ {w0 W W' : World} {X Y X2 Y2 : Nat → Prop} {wb b jb : Nat} {S S2 S3 Sd : FS} {A A2 : Option Addr} {n c n2 c2 : Nat} {jv' : Value} {z : Int} (h : WJ w0 W X Y wb b jb S Sd A n c) (hw : WA w0 W' X2 Y2 wb b jv' S2 S3 A2 n2 c2) (hX : ∀ k, X k → X2 k)
  (ho : Only (fun k => ¬ X k ∨ k = wb) W W') (hj : OpenedW W' X2 wb b (jP jb) jv' z) : ∃ jb', WJ w0 W' X2 Y2 wb b jb' S2 S3 A2 n2 c2 := by
 unfold OpenedW at hj
 split at hj
 ·obtain ⟨jb', rfl, h1, h2, h3⟩ := hj
  exact ⟨jb', hw, h3, h1, h2⟩
 ·subst hj
  exact ⟨jb, hw, h.jbx.keep ho (fun hn => hn.elim (fun h1 => h1 h.jx) h.ne), hX _ h.jx, h.ne⟩
set_option maxHeartbeats 4000000 in
theorem wbegin12_calls (w : World) (ht : LaysR w) :
  Calls Tryz.prog 10 #[] w fun e w' => ∃ wb b jb X Y A n c, e = .returned (.pointer (some ⟨wb, 0, none⟩)) ∧ WJ w w' X Y wb b jb FS.new FS.new A n c := by
 have HT := hid ht
 clear ht
 go_enter Tryz.func10, Tryz.ntmps10
 go_wp2_with fail
 refine (fnew_calls w).mono ?_
 rintro e w1 ⟨b, rfl, hin⟩
 have HF1 := hid (FX.of_in hin)
 clear hin
 go_wp2_with fail
 refine (rnew10_calls w1).mono ?_
 rintro e w2 ⟨rfl, hb2⟩
 have ba := (Below.refl _ w2).alloc (Nat.le_refl _) (.cells (wldC b (.pointer none) none 0 0 FS.new).toArray 53)
 have nb := BxA.new w2 53 (wldC b (.pointer none) none 0 0 FS.new)
 have hf := (HF1.out.below hb2).below ba
 have hsz : w2.heap.size < (w2.alloc (.cells (wldC b (.pointer none) none 0 0 FS.new).toArray 53)).heap.size := by simp
 have hge : w.heap.size ≤ w2.heap.size := Nat.le_trans HF1.out.bel.size hb2.size
 have HW := hid (show WA w (w2.alloc (.cells (wldC b (.pointer none) none 0 0 FS.new).toArray 53)) _ _ w2.heap.size b (.pointer none) FS.new FS.new none 0 0 from ⟨hf, nb, new_at _ _, XN.new hsz, XN.new hsz, hge, fun k hk => .inl (.inl hk)⟩)
 have HO := hid (wopen12_calls w _ _ _ w2.heap.size b none FS.new none 0 0 HW.out 0 FS.At.new (by decide) HT.out)
 have he : openJ FS.new hN = (FS.new, [], 0) := open_new hN (by decide) (by decide)
 rw [he] at HO
 simp only at HO
 have x0 := nb.c 0 rfl
 unfold wldC at HO x0
 clear ba nb hf hsz hge he hb2 HF1
 go_wp2_with fail
 refine HO.out.mono ?_
 rintro e w3 ⟨rfl, X3, Y3, jv, A3, n3, c3, hw3, _, _, _, hj⟩
 unfold OpenedW at hj
 rw [if_pos rfl] at hj
 obtain ⟨jb, rfl, h1, h2, h3⟩ := hj
 have HW3 := hid (show WJ w w3 X3 Y3 w2.heap.size b jb FS.new FS.new A3 n3 c3 from ⟨hw3, h3, h1, h2⟩)
 clear hw3 h1 h2 h3 HO HW x0
 go_wp2_with fail
 go_ret
 exact ⟨_, _, _, _, _, _, _, _, rfl, HW3.out⟩
end
section
open Go Go.RowKit
open Go.Lib (hid)
set_option maxRecDepth 100000
set_option maxHeartbeats 8000000 in
theorem wstep3_calls (w0 W : World) (X Y : Nat → Prop) (wb b jb : Nat) (S : FS) (A : Option Addr) (n c : Nat) (h : WJ w0 W X Y wb b jb S S A n c) (x : OpH) (hx : OphIn w0 x) (m : Nat) (hA : S.At m) (hm : m + 5 * x.l.length + 30 ≤ 99000) (hbl : x.b.length ≤ 6000) (hkl : x.ks.length ≤ 6000) (hll : x.l.length ≤ 300) (ht : LaysR w0) (hk : x.k = 3) :
  Calls Tryz.prog 11 #[.pointer (some ⟨wb, 0, none⟩), .agg (ophC x).toArray] W fun e W' => e = .returned (.bool true) ∧ ∃ X2 Y2 jb2 A2 n2 c2, WJ w0 W' X2 Y2 wb b jb2 (doH S x).1 (doH S x).1 A2 n2 c2 := by
 obtain ⟨xk, ⟨xt, xd, xc⟩, xl, xi, xb, xks, LA, lc, BA, bc, KA, kc⟩ := x
 simp only at hk hm hbl hkl hll
 subst hk
 have hdo : doH S ⟨3, ⟨xt, xd, xc⟩, xl, xi, xb, xks, LA, lc, BA, bc, KA, kc⟩ = ((openJ S hN).1, 0) := rfl
 rw [hdo]
 clear hdo
 have hbA : Below W.heap.size W (W.alloc (.cells (ophC ⟨3, ⟨xt, xd, xc⟩, xl, xi, xb, xks, LA, lc, BA, bc, KA, kc⟩).toArray 33)) := ((Below.refl _ W).alloc (Nat.le_refl _) (.cells (ophC ⟨3, ⟨xt, xd, xc⟩, xl, xi, xb, xks, LA, lc, BA, bc, KA, kc⟩).toArray 33))
 have HW1 := hid (h.below hbA)
 have HOb := hid ((BxA.new W 33 (ophC ⟨3, ⟨xt, xd, xc⟩, xl, xi, xb, xks, LA, lc, BA, bc, KA, kc⟩)).below (Below.refl _ _))
 have HXb : Hid (XN X W (W.alloc (.cells (ophC ⟨3, ⟨xt, xd, xc⟩, xl, xi, xb, xks, LA, lc, BA, bc, KA, kc⟩).toArray 33)) W.heap.size) := hid (XN.new (by show _ < (W.alloc _).heap.size; simp))
 have HIn := hid hx
 have HAt := hid hA
 have HFt := hid (hA.fit (by omega))
 have HT := hid ht
 have hsb : W.heap.size ≠ wb := fun e => by have := h.wa.lt; omega
 clear hbA h hx hA ht
 have HO := hid (wopen12_calls w0 _ _ _ wb b _ S A n c HW1.out.wa m HAt.out (by omega) HT.out)
 have o0 := HOb.out.c 0 rfl
 go_enter Tryz.func11, Tryz.ntmps11
 go_wp2_with fail
 refine HO.out.mono ?_
 rintro e y1 ⟨rfl, X2, Y2, jv, A2, n2, c2, hw, hX, hY, ho, hj⟩
 obtain ⟨jb2, hq⟩ := HW1.out.open_ hw hX ho hj
 have HQ := hid hq
 clear hw hX hY ho hj hq HO o0
 go_wp2_with fail
 go_ret
 exact ⟨rfl, _, _, _, _, _, _, HQ.out⟩
set_option maxHeartbeats 8000000 in
theorem wstep6_calls (w0 W : World) (X Y : Nat → Prop) (wb b jb : Nat) (S : FS) (A : Option Addr) (n c : Nat) (h : WJ w0 W X Y wb b jb S S A n c) (x : OpH) (hx : OphIn w0 x) (m : Nat) (hA : S.At m) (hm : m + 5 * x.l.length + 30 ≤ 99000) (hbl : x.b.length ≤ 6000) (hkl : x.ks.length ≤ 6000) (hll : x.l.length ≤ 300) (ht : LaysR w0) (hk : x.k = 6) :
  Calls Tryz.prog 11 #[.pointer (some ⟨wb, 0, none⟩), .agg (ophC x).toArray] W fun e W' => e = .returned (.bool true) ∧ ∃ X2 Y2 jb2 A2 n2 c2, WJ w0 W' X2 Y2 wb b jb2 (doH S x).1 (doH S x).1 A2 n2 c2 := by
 obtain ⟨xk, ⟨xt, xd, xc⟩, xl, xi, xb, xks, LA, lc, BA, bc, KA, kc⟩ := x
 simp only at hk hm hbl hkl hll
 subst hk
 have hdo : doH S ⟨6, ⟨xt, xd, xc⟩, xl, xi, xb, xks, LA, lc, BA, bc, KA, kc⟩ = ((openJ (S.crash xks) hN).1, 0) := rfl
 rw [hdo]
 clear hdo
 have hbA : Below W.heap.size W (W.alloc (.cells (ophC ⟨6, ⟨xt, xd, xc⟩, xl, xi, xb, xks, LA, lc, BA, bc, KA, kc⟩).toArray 33)).drew := ((Below.refl _ W).alloc (Nat.le_refl _) (.cells (ophC ⟨6, ⟨xt, xd, xc⟩, xl, xi, xb, xks, LA, lc, BA, bc, KA, kc⟩).toArray 33)).drew
 have HW1 := hid (h.below hbA)
 have HOb := hid ((BxA.new W 33 (ophC ⟨6, ⟨xt, xd, xc⟩, xl, xi, xb, xks, LA, lc, BA, bc, KA, kc⟩)).below (Below.refl _ _).drew)
 have HXb : Hid (XN X W (W.alloc (.cells (ophC ⟨6, ⟨xt, xd, xc⟩, xl, xi, xb, xks, LA, lc, BA, bc, KA, kc⟩).toArray 33)).drew W.heap.size) := hid (XN.new (by show _ < (W.alloc _).heap.size; simp))
 have HIn := hid hx
 have HAt := hid hA
 have HFt := hid (hA.fit (by omega))
 have HT := hid ht
 have hsb : W.heap.size ≠ wb := fun e => by have := h.wa.lt; omega
 clear hbA h hx hA ht
 have HDa := hid (fun y D v hs hK => rdo10_calls y D v S ⟨7, ⟨#[]⟩, ⟨#[]⟩, [], 0, xks⟩ none 0 KA kc hs HFt.out (by show (0 : Int) ≤ 7; decide) (by show (7 : Int) ≤ 8; decide) (fun hn => absurd hn (Nat.lt_irrefl 0)) (fun _ => rfl) (Nat.zero_le _) hK (by show xks.length ≤ _; omega))
 have HCa := hid (HW1.out.wa.fx.step (S2 := S.crash xks) (fun O D hh hXO => fcrash_calls _ O D b S hh HFt.out KA kc xks ((HW1.out.wa.oldK HIn.out.k).mono fun k hk => (hXO k hk.1).2) (by omega)))
 have hres : doF S ⟨7, ⟨#[]⟩, ⟨#[]⟩, [], 0, xks⟩ = (S.crash xks, 0) := rfl
 simp only [hres] at HDa
 have HAt6 := hid (HAt.out.crash xks)
 generalize S.crash xks = S6 at HCa HDa HAt6 ⊢
 clear hres
 go_enter Tryz.func11, Tryz.ntmps11
 have KK0 := (And.intro (HW1.out.wa.box.c 0 rfl) (HOb.out.c 7 rfl))
 go_upto_region 21 with fail
 refine wp_region_held_drew (S := (fun w' => w'.cell? ⟨wb, 0, none⟩ = some (fp b) ∧ w'.cell? ⟨W.heap.size, 7, none⟩ = some (.slice KA xks.length kc))) (by kernel_rfl) KK0 (fun hHeld => ?_)
 refine tkH 0 ?_
 refine tkH 1 ?_
 refine tkH 2 ?_
 refine tkH 3 ?_
 refine tkH 4 ?_
 refine tkH 5 ?_
 refine rdH 6 fun K hK => ?_
 go_simp
 refine HCa.out.mono ?_; rintro e y1 ⟨rfl, hf, ho⟩; have HW2 := hid (HW1.out.turn hf (fun _ h => h) (fun _ h => h) ho); have HOb2 := hid (HOb.out.keep ho (fun hn => hn HXb.out)); have KK1 := (And.intro (HW2.out.wa.box.c 0 rfl) (HOb2.out.c 7 rfl)); clear hf ho HCa
 refine hK.out _ _ KK1 (fun hHeld => ?_)
 clear hK K
 refine wpAnyH_done (by kernel_rfl) ?_ _
 have HW2d := hid (HW2.out.below (Below.refl _ y1).drew)
 have HOb2d := hid (HOb2.out.below (Below.refl _ y1).drew)
 clear KK0 KK1
 have KL0 := (And.intro (HW2d.out.wa.box.c 2 rfl) (And.intro (HW2d.out.wa.box.c 3 rfl) (And.intro (HW2d.out.wa.box.c 4 rfl) (And.intro (HW2d.out.wa.box.c 5 rfl) (And.intro (HW2d.out.wa.box.c 6 rfl) (And.intro (HW2d.out.wa.box.c 7 rfl) (HOb2d.out.c 7 rfl)))))))
 go_upto_region 22 with fail
 refine wp_region_later (S := (fun w' => w'.cell? ⟨wb, 2, none⟩ = some (.slice A n c) ∧ w'.cell? ⟨wb, 3, none⟩ = some (.int .i64 (S.no : Int)) ∧ w'.cell? ⟨wb, 4, none⟩ = some (.int .i64 (S.ops : Int)) ∧ w'.cell? ⟨wb, 5, none⟩ = some (.int .i64 S.fuse) ∧ w'.cell? ⟨wb, 6, none⟩ = some (.int .i64 S.fault) ∧ w'.cell? ⟨wb, 7, none⟩ = some (.bool S.down) ∧ w'.cell? ⟨W.heap.size, 7, none⟩ = some (.slice KA xks.length kc))) 14 (by kernel_rfl) KL0 (fun hHeld => ?_)
 refine tkB 0 ?_
 refine tkB 1 ?_
 refine tkB 2 ?_
 refine tkB 3 ?_
 refine tkB 4 ?_
 refine tkB 5 ?_
 refine tkB 6 ?_
 refine tkB 7 ?_
 refine rdB 8 fun K hK => ?_
 go_simp
 have HDo := hid (HDa.out _ _ _ HW2d.out.wa.st (HW2d.out.wa.oldK HIn.out.k))
 first | unfold stV at HDo | skip
 first | unfold opC at HDo | skip
 refine HDo.out.mono ?_
 rintro e y2 ⟨v2, rfl, hst2, hb2⟩
 obtain ⟨A6, n6, c6, rfl, hst3⟩ := stA_ext (HW2d.out.wa.doc hst2)
 have hw3 := HW2d.out.below hb2
 have hp3 := hw3.put hst3
 have HWq := hid hw3
 have x0 := HWq.out.wa.box.c 0 rfl
 have x1 := HWq.out.wa.box.c 1 rfl
 have x2 := HWq.out.wa.box.c 2 rfl
 have x3 := HWq.out.wa.box.c 3 rfl
 have x4 := HWq.out.wa.box.c 4 rfl
 have x5 := HWq.out.wa.box.c 5 rfl
 have x6 := HWq.out.wa.box.c 6 rfl
 have x7 := HWq.out.wa.box.c 7 rfl
 have e2 := HWq.out.wa.box.free 2
 have e3 := HWq.out.wa.box.free 3
 have e4 := HWq.out.wa.box.free 4
 have e5 := HWq.out.wa.box.free 5
 have e6 := HWq.out.wa.box.free 6
 have e7 := HWq.out.wa.box.free 7
 unfold stV
 have HObq := hid (HOb2d.out.below hb2)
 have q9 := (And.intro (HWq.out.wa.box.c 2 rfl) (And.intro (HWq.out.wa.box.c 3 rfl) (And.intro (HWq.out.wa.box.c 4 rfl) (And.intro (HWq.out.wa.box.c 5 rfl) (And.intro (HWq.out.wa.box.c 6 rfl) (And.intro (HWq.out.wa.box.c 7 rfl) (HObq.out.c 7 rfl)))))))
 obtain ⟨W9, hW9⟩ : ∃ W9, sixW y2 wb (.slice A6 n6 c6) (.int .i64 (S6.no : Int)) (.int .i64 (S6.ops : Int)) (.int .i64 S6.fuse) (.int .i64 S6.fault) (.bool S6.down) = W9 := ⟨_, rfl⟩
 rw [hW9] at hp3
 have HW9 := hid hp3
 unfold sixW at hW9
 clear hst2 hst3 hw3 hp3 hb2 HDo
 refine hK.out _ _ q9 (fun hHeld => ?_)
 clear hK K
 refine tkB 9 ?_
 refine tkB 10 ?_
 refine laterAny_ready (rs := [11, 12]) (by kernel_rfl) (by simp) ?_
 refine AllReadyB.cons (o := ⟨some 143, _, _, _, _, _⟩) rfl (fun K hK => ?_) (AllReadyB.cons (o := ⟨some 144, _, _, _, _, _⟩) rfl (fun K hK => ?_) AllReadyB.nil)
 ·(rw [if_pos (by kernel_rfl)])
  go_simp
  refine hK.out _ _ q9 (fun hHeld => ?_)
  clear hK K
  refine rdB 12 fun K hK => ?_
  go_simp
  refine hK.out _ _ q9 (fun hHeld => ?_)
  clear hK K
  refine tkB 13 ?_
  refine psB 14 fun K hK => ?_
  go_simp
  refine hK.out _ _ ?_
  clear hK K
  refine laterAny_done (by kernel_rfl) ?_
  first | rw [hW9] | skip
  clear hW9 x0 x1 x2 x3 x4 x5 x6 x7 e2 e3 e4 e5 e6 e7
  go_wp2_with fail
  refine (wopen12_calls w0 _ _ _ wb b _ S6 _ _ _ HW9.out.wa m HAt6.out (by omega) HT.out).mono ?_
  rintro e y3 ⟨rfl, X3, Y3, jv, A3, n3, c3, hw, hX, hY, ho, hj⟩
  obtain ⟨jb2, hq⟩ := HW9.out.open_ hw hX ho hj
  have HQ := hid hq
  clear hw hX hY ho hj hq HW9
  go_wp2_with fail
  go_ret
  exact ⟨rfl, _, _, _, _, _, _, HQ.out⟩
 ·(rw [if_pos (by kernel_rfl)])
  go_simp
  refine hK.out _ _ q9 (fun hHeld => ?_)
  clear hK K
  refine tkB 13 ?_
  refine laterAny_ready (rs := [11, 14]) (by kernel_rfl) (by simp) ?_
  refine AllReadyB.cons (o := ⟨some 143, _, _, _, _, _⟩) rfl (fun K hK => ?_) (AllReadyB.past (o := ⟨none, _, _, _, _, _⟩) rfl (by kernel_rfl) (fun K hK => ?_) AllReadyB.nil)
  ·(rw [if_pos (by kernel_rfl)])
   go_simp
   refine hK.out _ _ q9 (fun hHeld => ?_)
   clear hK K
   refine psB 14 fun K hK => ?_
   go_simp
   refine hK.out _ _ ?_
   clear hK K
   refine laterAny_done (by kernel_rfl) ?_
   first | rw [hW9] | skip
   clear hW9 x0 x1 x2 x3 x4 x5 x6 x7 e2 e3 e4 e5 e6 e7
   go_wp2_with fail
   refine (wopen12_calls w0 _ _ _ wb b _ S6 _ _ _ HW9.out.wa m HAt6.out (by omega) HT.out).mono ?_
   rintro e y3 ⟨rfl, X3, Y3, jv, A3, n3, c3, hw, hX, hY, ho, hj⟩
   obtain ⟨jb2, hq⟩ := HW9.out.open_ hw hX ho hj
   have HQ := hid hq
   clear hw hX hY ho hj hq HW9
   go_wp2_with fail
   go_ret
   exact ⟨rfl, _, _, _, _, _, _, HQ.out⟩
  ·(rw [if_pos (by kernel_rfl)])
   go_simp
   refine hK.out _ _ ?_
   clear hK K
   refine psB 11 fun K hK => ?_
   go_simp
   refine hK.out _ _ ?_
   clear hK K
   refine laterAny_done (by kernel_rfl) ?_
   first | rw [hW9] | skip
   clear hW9 x0 x1 x2 x3 x4 x5 x6 x7 e2 e3 e4 e5 e6 e7
   go_wp2_with fail
   refine (wopen12_calls w0 _ _ _ wb b _ S6 _ _ _ HW9.out.wa m HAt6.out (by omega) HT.out).mono ?_
   rintro e y3 ⟨rfl, X3, Y3, jv, A3, n3, c3, hw, hX, hY, ho, hj⟩
   obtain ⟨jb2, hq⟩ := HW9.out.open_ hw hX ho hj
   have HQ := hid hq
   clear hw hX hY ho hj hq HW9
   go_wp2_with fail
   go_ret
   exact ⟨rfl, _, _, _, _, _, _, HQ.out⟩
set_option maxHeartbeats 8000000 in
theorem wstepn_calls (w0 W : World) (X Y : Nat → Prop) (wb b jb : Nat) (S : FS) (A : Option Addr) (n c : Nat) (h : WJ w0 W X Y wb b jb S S A n c) (x : OpH) (hx : OphIn w0 x) (m : Nat) (hA : S.At m) (hm : m + 5 * x.l.length + 30 ≤ 99000) (hbl : x.b.length ≤ 6000) (hkl : x.ks.length ≤ 6000) (hll : x.l.length ≤ 300) (ht : LaysR w0) (hk : x.k < 0 ∨ 8 < x.k) :
  Calls Tryz.prog 11 #[.pointer (some ⟨wb, 0, none⟩), .agg (ophC x).toArray] W fun e W' => e = .returned (.bool true) ∧ ∃ X2 Y2 jb2 A2 n2 c2, WJ w0 W' X2 Y2 wb b jb2 (doH S x).1 (doH S x).1 A2 n2 c2 := by
 obtain ⟨xk, ⟨xt, xd, xc⟩, xl, xi, xb, xks, LA, lc, BA, bc, KA, kc⟩ := x
 simp only at hk hm hbl hkl hll
 have hbA : Below W.heap.size W (W.alloc (.cells (ophC ⟨xk, ⟨xt, xd, xc⟩, xl, xi, xb, xks, LA, lc, BA, bc, KA, kc⟩).toArray 33)) := ((Below.refl _ W).alloc (Nat.le_refl _) (.cells (ophC ⟨xk, ⟨xt, xd, xc⟩, xl, xi, xb, xks, LA, lc, BA, bc, KA, kc⟩).toArray 33))
 have HW1 := hid (h.below hbA)
 have HOb := hid ((BxA.new W 33 (ophC ⟨xk, ⟨xt, xd, xc⟩, xl, xi, xb, xks, LA, lc, BA, bc, KA, kc⟩)).below (Below.refl _ _))
 have HXb : Hid (XN X W (W.alloc (.cells (ophC ⟨xk, ⟨xt, xd, xc⟩, xl, xi, xb, xks, LA, lc, BA, bc, KA, kc⟩).toArray 33)) W.heap.size) := hid (XN.new (by show _ < (W.alloc _).heap.size; simp))
 have HIn := hid hx
 have HAt := hid hA
 have HFt := hid (hA.fit (by omega))
 have HT := hid ht
 have hsb : W.heap.size ≠ wb := fun e => by have := h.wa.lt; omega
 clear hbA h hx hA ht
 have hdo : doH S ⟨xk, ⟨xt, xd, xc⟩, xl, xi, xb, xks, LA, lc, BA, bc, KA, kc⟩ = (S, 0) := by
  unfold doH
  simp only
  rw [if_neg (by omega), if_neg (by omega), if_neg (by omega), if_neg (by omega), if_neg (by omega), if_neg (by omega), if_neg (by omega), if_neg (by omega), if_neg (by omega)]
 rw [hdo]
 clear hdo
 have o0 := HOb.out.c 0 rfl
 have t0 : (xk == 0) = false := beq_eq_false_iff_ne.2 (by omega)
 have t1 : (xk == 1) = false := beq_eq_false_iff_ne.2 (by omega)
 have t2 : (xk == 2) = false := beq_eq_false_iff_ne.2 (by omega)
 have t3 : (xk == 3) = false := beq_eq_false_iff_ne.2 (by omega)
 have t4 : (xk == 4) = false := beq_eq_false_iff_ne.2 (by omega)
 have t5 : (xk == 5) = false := beq_eq_false_iff_ne.2 (by omega)
 have t6 : (xk == 6) = false := beq_eq_false_iff_ne.2 (by omega)
 have t7 : (xk == 7) = false := beq_eq_false_iff_ne.2 (by omega)
 have t8 : (xk == 8) = false := beq_eq_false_iff_ne.2 (by omega)
 clear hk
 go_enter Tryz.func11, Tryz.ntmps11
 go_wp2_with fail
 go_ret
 exact ⟨rfl, _, _, _, _, _, _, HW1.out⟩
end
section
open Go Go.RowKit
open Go.Lib (hid)
set_option maxRecDepth 100000
theorem sm_len {x : OpH} (h : OphSm x 1048576) : x.len ≤ 4398046511104 := by
 have h1 := sum_le EnJ.len 2097152 x.l (fun e he => by have := h.le e he; unfold EnJ.len; omega)
 have h2 := Nat.mul_le_mul_right 2097152 h.ll
 have h3 := h.ed
 have h4 := h.ec
 have h5 := h.b
 have h6 := h.k
 have h7 := h.ll
 unfold OpH.len sumE
 omega
theorem totH_take_le {xs : List OpH} (hs : ∀ x ∈ xs, OphSm x 1048576) (h50 : xs.length ≤ 50) (k : Nat) : totH (xs.take k) ≤ 219902325555200 := by
 have h1 := sum_take_le OpH.len xs k
 have h2 := sum_le OpH.len 4398046511104 xs (fun x hx => sm_len (hs x hx))
 have h3 := Nat.mul_le_mul_right 4398046511104 h50
 unfold totH
 omega
theorem sumE_take_le {x : OpH} (h : OphSm x 1048576) (i : Nat) : sumE (x.l.take i) ≤ 2199023255552 := by
 have h0 := sum_take_le EnJ.len x.l i
 have h1 := sum_le EnJ.len 2097152 x.l (fun e he => by have := h.le e he; unfold EnJ.len; omega)
 have h2 := Nat.mul_le_mul_right 2097152 h.ll
 unfold sumE
 omega
theorem few_at {xs : List OpH} (h : xs.length ≤ 50 ∧ totH xs ≤ 6000) {k : Nat} {x : OpH} (hq : xs[k]? = some x) : x.b.length ≤ 6000 ∧ x.ks.length ≤ 6000 ∧ x.l.length ≤ 300 ∧ lvH (xs.take k) ≤ 2200 ∧ lvH (xs.take (k + 1)) ≤ 2200 ∧ lvH (xs.take (k + 1)) = lvH (xs.take k) + x.lv := by
 have h1 := len_at hq
 have h2 := lv_le h.1 h.2
 have h3 := lv_take_le xs k
 have h4 := lv_take hq
 have h5 := lv_take_le xs (k + 1)
 unfold OpH.len at h1
 exact ⟨by omega, by omega, by omega, by omega, by omega, h4⟩
set_option maxHeartbeats 8000000 in
theorem few12_calls (A : Option Addr) (c : Nat) (xs : List OpH) (w : World) (hR : RdO12 w A xs) (hs : ∀ x ∈ xs, OphSm x 1048576) (hl : xs.length ≤ 1048576) :
  Calls Tryz.prog 8 #[.slice A xs.length c] w fun e w' => e = .returned (.bool (decide (xs.length ≤ 50 ∧ totH xs ≤ 6000))) ∧ Below w.heap.size w w' := by
 have HR := hid hR
 have HSm := hid hs
 clear hR hs
 go_enter Tryz.func8, Tryz.ntmps8
 go_wp2_with fail
 go_loopw [3, 10] (fun v3 v10 wr => ∃ (k : Nat) (z : Int), k ≤ xs.length ∧ v10 = .int .i64 (k : Int) ∧ v3 = .int .i64 z ∧ Hid (xs.length ≤ 50 → z = (totH (xs.take k) : Int)) ∧ Hid (Below w.heap.size w wr)) (fun _ v10 _ => xs.length - (intOf v10).toNat)
 case atStart => exact ⟨0, 0, Nat.zero_le _, rfl, rfl, hid (fun _ => rfl), hid (Below.refl _ _)⟩
 case round =>
  obtain ⟨k, z, hk, rfl, rfl, hz, hbel⟩ := hrel
  by_cases hlt : k < xs.length
  ·have hq : xs[k]? = some xs[k] := List.getElem?_eq_getElem hlt
   obtain ⟨g, o, rfl, hg, hcs, hin⟩ := (HR.out.below hbel.out).at_ hq
   have hsm := HSm.out _ (List.getElem_mem hlt)
   have HTot := hid (show totH (xs.take (k + 1)) = totH (xs.take k) + xs[k].len from sum_take OpH.len xs hq)
   have HTl := hid (fun h50 => totH_take_le HSm.out h50 k)
   have c0 := hcs 0 _ rfl
   have c1 := hcs 1 _ rfl
   have c2 := hcs 2 _ rfl
   have c3 := hcs 3 _ rfl
   have c4 := hcs 4 _ rfl
   have c5 := hcs 5 _ rfl
   have c6 := hcs 6 _ rfl
   have c7 := hcs 7 _ rfl
   rw [Nat.add_zero] at c0
   have hkk : (k : Int) < (xs.length : Int) := by omega
   have hsz := hbel.out.size
   clear hcs hq
   generalize xs[k] = x at *
   obtain ⟨xk, ⟨xt, xd, xc⟩, xl, xi, xb, xks, XLA, xlc, XBA, xbc, XKA, xkc⟩ := x
   simp only at c0 c1 c2 c3 c4 c5 c6 c7
   have HIn := hid hin.l
   have HSx := hid hsm
   have b1 := hsm.ed
   have b2 := hsm.ec
   have b3 := hsm.b
   have b4 := hsm.k
   have b5 := hsm.ll
   clear hin hsm
   simp only at b1 b2 b3 b4 b5
   obtain ⟨s, hs⟩ : ∃ s : Nat, s = xd.length + xc.length + xb.length + xks.length + 20 * xl.length := ⟨_, rfl⟩
   have hs0 : IntKind.i64.wrap ((xd.length : Int) + (xc.length : Int)) = (xd.length : Int) + (xc.length : Int) := IntWalk.i64_in _ (by omega)
   have hs1 : IntKind.i64.wrap ((xd.length : Int) + (xc.length : Int) + (xb.length : Int)) = (xd.length : Int) + (xc.length : Int) + (xb.length : Int) := IntWalk.i64_in _ (by omega)
   have hs2 : IntKind.i64.wrap ((xd.length : Int) + (xc.length : Int) + (xb.length : Int) + (xks.length : Int)) = (xd.length : Int) + (xc.length : Int) + (xb.length : Int) + (xks.length : Int) := IntWalk.i64_in _ (by omega)
   have hs3 : IntKind.i64.wrap (20 * (xl.length : Int)) = 20 * (xl.length : Int) := IntWalk.i64_in _ (by omega)
   have hs4 : IntKind.i64.wrap ((xd.length : Int) + (xc.length : Int) + (xb.length : Int) + (xks.length : Int) + 20 * (xl.length : Int)) = (s : Int) := by rw [IntWalk.i64_in _ (by omega)]; omega
   obtain ⟨z1, hz1⟩ : ∃ z1, z1 = IntKind.i64.wrap (z + (s : Int)) := ⟨_, rfl⟩
   have hsl : s ≤ 1099511627776 := by omega
   have HZ1 : Hid (xs.length ≤ 50 → z1 = (totH (xs.take k) : Int) + (s : Int)) := hid fun h => by
    have h1 := hz.out h
    have h2 := HTl.out h
    rw [hz1, h1]
    exact IntWalk.i64_in _ (by omega)
   have HTot2 : Hid (totH (xs.take (k + 1)) = totH (xs.take k) + s + sumE xl) := hid (by have h1 := HTot.out; simp only [OpH.len] at h1; omega)
   have hsum : IntKind.i64.wrap (z + (s : Int)) = z1 := hz1.symm
   have hkx : (k : Int) + 1 ≤ 9223372036854775807 := by omega
   have HSl := hid hsl
   have HBel := hid hbel.out
   clear hz1 hs hz b1 b2 b3 b4 hsl hbel HTot
   go_wp2_with fail
   go_loopw [3, 41] (fun v3 v41 wi => ∃ (i : Nat) (y : Int), i ≤ xl.length ∧ v41 = .int .i64 (i : Int) ∧ v3 = .int .i64 y ∧ Hid (xs.length ≤ 50 → y = (totH (xs.take k) : Int) + (s : Int) + (sumE (xl.take i) : Int)) ∧ Hid (Below wr.heap.size wr wi)) (fun _ v41 _ => xl.length - (intOf v41).toNat)
   case atStart => exact ⟨0, z1, Nat.zero_le _, rfl, rfl, hid (fun h => by rw [HZ1.out h]; simp [sumE]), hid ((Below.refl _ wr).alloc (Nat.le_refl _) _)⟩
   case round =>
    obtain ⟨i, y, hi, rfl, rfl, hy, hbi⟩ := hrel
    by_cases hil : i < xl.length
    ·have hii : (i : Int) < (xl.length : Int) := by omega
     have hq : xl[i]? = some xl[i] := List.getElem?_eq_getElem hil
     obtain ⟨g', o', rfl, _, hg', d0, d1, d2⟩ := en_at (HIn.out.below hbi.out) hq
     have HSe := hid (show sumE (xl.take (i + 1)) = sumE (xl.take i) + (xl[i]).len from sum_take EnJ.len xl hq)
     have hle := HSx.out.le _ (List.getElem_mem hil)
     have HSl2 := hid (sumE_take_le HSx.out i)
     have hsi := hbi.out.size
     clear hq
     generalize xl[i] = e at *
     obtain ⟨et, ed, ec⟩ := e
     simp only at d0 d1 d2 hle
     obtain ⟨u, hu⟩ : ∃ u : Nat, u = ed.length + ec.length := ⟨_, rfl⟩
     have ht0 : IntKind.i64.wrap ((ed.length : Int) + (ec.length : Int)) = (u : Int) := by rw [IntWalk.i64_in _ (by omega)]; omega
     obtain ⟨y1, hy1⟩ : ∃ y1, y1 = IntKind.i64.wrap (y + (u : Int)) := ⟨_, rfl⟩
     have HY1 : Hid (xs.length ≤ 50 → y1 = (totH (xs.take k) : Int) + (s : Int) + (sumE (xl.take (i + 1)) : Int)) := hid fun h => by
      have h1 := hy.out h
      have h2 := HTl.out h
      have h3 := HSl.out
      have h4 := HSl2.out
      simp only at h4
      rw [hy1, h1, IntWalk.i64_in _ (by omega), HSe.out]
      show _ = _ + ((sumE (xl.take i) + (ed.length + ec.length) : Nat) : Int)
      omega
     have hsum1 : IntKind.i64.wrap (y + (u : Int)) = y1 := hy1.symm
     have hik : (i : Int) + 1 ≤ 9223372036854775807 := by omega
     clear hy1 hu hy hle
     go_wp2_with fail
     go_roundw
     case rel => exact ⟨i + 1, y1, by omega, by go_num, by first | rfl | (rw [← hsum1]; rfl) | go_num, HY1, hid (hbi.out.alloc hsi _)⟩
     case measure => simp [intOf]; omega
    ·obtain rfl : i = xl.length := by omega
     have hii : ¬ (xl.length : Int) < (xl.length : Int) := by omega
     have hyf := hy.out
     rw [List.take_length] at hyf
     have HYf : Hid (xs.length ≤ 50 → y = (totH (xs.take (k + 1)) : Int)) := hid fun h => by rw [hyf h, HTot2.out]; omega
     have HBn := hid (HBel.out.trans (hbi.out.mono HBel.out.size))
     clear hy hyf hbi
     go_wp2_with fail
     go_roundw
     case rel => exact ⟨k + 1, y, by omega, by go_num, rfl, HYf, HBn⟩
     case measure => simp [intOf]; omega
  ·obtain rfl : k = xs.length := by omega
   have hzf := hz.out
   rw [List.take_length] at hzf
   have Hzf := hid hzf
   clear hz hzf hlt hk
   by_cases h50 : xs.length ≤ 50
   ·have d1 : decide (xs.length ≤ 50) = true := decide_eq_true h50
    have d1' : decide ((xs.length : Int) ≤ 50) = true := decide_eq_true (by omega)
    have e2 : decide (z ≤ 6000) = decide (xs.length ≤ 50 ∧ totH xs ≤ 6000) := by
     rw [decide_eq_decide, Hzf.out h50]; omega
    have E2 := hid e2
    clear e2 h50 Hzf
    go_wp2_with fail
    go_ret
    exact ⟨by rw [← E2.out]; rfl, hbel.out⟩
   ·have d1 : decide (xs.length ≤ 50) = false := decide_eq_false h50
    have d1' : decide ((xs.length : Int) ≤ 50) = false := decide_eq_false (by omega)
    have e2 : decide (xs.length ≤ 50 ∧ totH xs ≤ 6000) = false := decide_eq_false (fun h => h50 h.1)
    have E2 := hid e2
    clear e2 h50 Hzf
    go_wp2_with fail
    go_ret
    exact ⟨by rw [E2.out]; rfl, hbel.out⟩
end
end Go.Proofs.YteafcaambnfdoaaGreatDoor
