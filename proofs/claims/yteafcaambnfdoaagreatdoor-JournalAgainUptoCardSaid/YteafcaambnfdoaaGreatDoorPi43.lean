/-
  Layer 7 and what it stands on, part 43 (RJAppend RJMid RJOps RJOpen RJCompact).
-/
import Derived.Test.YteafcaambnfdoaaGreatDoorPi34
import Derived.Test.YteafcaambnfdoaaGreatDoorPi42
namespace Go.Proofs.YteafcaambnfdoaaGreatDoor
section
open Go Go.RowKit
open Go.Lib (hid)
set_option maxRecDepth 100000
theorem own_at {w : World} {base : Nat} {e : TypeId} {size : Nat} {A : Option Addr} {n c : Nat} {k : Nat} {xs : List Value} (h : w.ownsRow base e size (.slice A n c) k xs) : ∀ g, (Value.slice A n c).ownBlock = some g → base ≤ g := fun g hg => (h.lt g hg).1
set_option maxHeartbeats 4000000 in
theorem rappend12_calls (w : World) (D : Nat → Prop) (v : Value) (S : FS) (n : ByteArray) (e : EnJ) (h : StAt w D v S) (hS : S.Fit) :
  Calls Tryz.prog 33 #[v, .string n, .agg (enC e).toArray] w fun x w' => ∃ v', x = .returned (.tuple #[v', .int .i64 (appendJ S n e).2]) ∧ StAt w' (DW D w) v' (appendJ S n e).1 ∧ Below w.heap.size w w' := by
 have hcap := h.cap
 obtain ⟨A, c, vs, rfl, hr, ha⟩ := hcap
 have hb := (((Below.refl _ w).alloc (Nat.le_refl _) (.cells (stC A vs.length c S).toArray 51)).alloc (by simp) (.cells (enC e).toArray 28)).alloc (by simp; omega) (.cells zeroSt.toArray 51)
 have hx := ((BxA.new w 51 (stC A vs.length c S)).alloc (.cells (enC e).toArray 28)).alloc (.cells zeroSt.toArray 51)
 have hz := bx_new3 w (.cells (stC A vs.length c S).toArray 51) (.cells (enC e).toArray 28) 51 zeroSt
 have hy := (bx_new2 w (.cells (stC A vs.length c S).toArray 51) 28 (enC e)).alloc (.cells zeroSt.toArray 51)
 have hst : StAt (((w.alloc (.cells (stC A vs.length c S).toArray 51)).alloc (.cells (enC e).toArray 28)).alloc (.cells zeroSt.toArray 51)) (fun k => D k ∧ k < w.heap.size) (stV A vs.length c S) S := StAt.below ⟨A, c, vs, rfl, hr, ha⟩ hb
 have HSt := hid hst
 have HR := hid (hr.below hb)
 have HA := hid (all2_imp (fun _ _ h => FileR.below h hb) ha)
 have HB := hid hb
 have HX := hid hx
 have HZ := hid hz
 have HY := hid hy
 have HS := hid hS
 obtain ⟨W, hW⟩ : ∃ W, (((w.alloc (.cells (stC A vs.length c S).toArray 51)).alloc (.cells (enC e).toArray 28)).alloc (.cells zeroSt.toArray 51)) = W := ⟨_, rfl⟩
 rw [hW] at HSt HR HA HB HX HZ HY
 have HWs : Hid (W.heap.size = w.heap.size + 1 + 1 + 1) := hid (by rw [← hW]; simp)
 clear hr ha hb hx hz hst hS h hy
 have HFew : Hid (S.l.length ≤ 1000) := hid (by have := HS.out.ok.few; omega)
 have HPn : Hid (¬ rightJ e → Calls Tryz.prog 70 #[.agg (enC e).toArray] W fun x w' => x = .returned (.tuple #[.slice none 0 0, .int .i64 120]) ∧ Below W.heap.size W w') := hid (fun he => rpack12_not e he W)
 have HPy : Hid (rightJ e → Calls Tryz.prog 70 #[.agg (enC e).toArray] W fun x w' => ∃ A k, x = .returned (.tuple #[.slice A (recJ e).length k, .int .i64 0]) ∧ w'.ownsRow W.heap.size 5 1 (.slice A (recJ e).length k) (recJ e).length (Lib.byteCells (recJ e)) ∧ Below W.heap.size W w') := hid (fun he => rpack12_calls e he W)
 have HRl : Hid (rightJ e → (recJ e).length ≤ 1000000) := hid (fun he => by rw [recJ_length]; have h1 := he.2.2.1; have h2 := he.2.2.2.2.1; omega)
 have HE : Hid (appendJ S n e = if rightJ e then doF S ⟨0, n, ⟨#[]⟩, recJ e, 0, []⟩ else (S, 120)) := hid rfl
 obtain ⟨et, ed, ec⟩ := e
 unfold stV stC at *
 go_enter Tryz.func33, Tryz.ntmps33
 have x0 := HX.out.c 0 rfl
 have x1 := HX.out.c 1 rfl
 have x2 := HX.out.c 2 rfl
 have x3 := HX.out.c 3 rfl
 have x4 := HX.out.c 4 rfl
 have x5 := HX.out.c 5 rfl
 have y0 := HY.out.c 0 rfl
 have y1 := HY.out.c 1 rfl
 have y2 := HY.out.c 2 rfl
 by_cases he : rightJ ⟨et, ed, ec⟩
 ·have HP := hid (HPy.out he)
  have hrl := HRl.out he
  rw [if_pos he] at HE
  clear HPn HPy HRl he
  generalize recJ ⟨et, ed, ec⟩ = rec_ at *
  go_wp2_with fail
  refine HP.out.mono ?_
  rintro e w1 ⟨A1, k1, rfl, hown1, hb1⟩
  have HB1 := hid hb1
  have HBy : Hid (ByR w1 (DW (fun k => D k ∧ k < w.heap.size) W) A1 rec_) := hid (byR_of_own hown1 (fun g hg => .inr (own_at hown1 g hg)))
  have HNo := hid (own_none hown1)
  have HSt1 : Hid (StAt w1 (DW (fun k => D k ∧ k < w.heap.size) W) _ S) := hid ((HSt.out.below hb1).mono (fun _ h => .inl h))
  clear x0 x1 x2 x3 x4 x5 y0 y1 y2 hown1 hb1 HP hW
  have x0 := (HX.out.below HB1.out).c 0 rfl
  have x1 := (HX.out.below HB1.out).c 1 rfl
  have x2 := (HX.out.below HB1.out).c 2 rfl
  have x3 := (HX.out.below HB1.out).c 3 rfl
  have x4 := (HX.out.below HB1.out).c 4 rfl
  have x5 := (HX.out.below HB1.out).c 5 rfl
  have y0 := (HY.out.below HB1.out).c 0 rfl
  have y1 := (HY.out.below HB1.out).c 1 rfl
  have y2 := (HY.out.below HB1.out).c 2 rfl
  go_wp2_with fail
  refine (rdo10_calls w1 (DW (fun k => D k ∧ k < w.heap.size) W) _ S ⟨0, n, ⟨#[]⟩, rec_, 0, []⟩ A1 k1 none 0 HSt1.out HS.out (show (0 : Int) ≤ 0 by decide) (show (0 : Int) ≤ 8 by decide) HBy.out HNo.out hrl (fun hn => absurd hn (Nat.lt_irrefl 0)) (by simp)).mono ?_
  rintro x wd ⟨vd, rfl, hsd, hbd⟩
  obtain ⟨Ad, cd, vsd, rfl, hrd, had⟩ := hsd
  have HBD : Hid (Below w.heap.size w wd) := hid (HB.out.trans ((HB1.out.trans (hbd.mono HB1.out.size)).mono HB.out.size))
  have HZD := hid (HZ.out.below (HB1.out.trans (hbd.mono HB1.out.size)))
  have HRD := hid hrd
  have HAD := hid had
  clear hrd had hbd
  generalize doF S ⟨0, n, ⟨#[]⟩, rec_, 0, []⟩ = q at *
  unfold stV
  clear x0 x1 x2 x3 x4 x5 y0 y1 y2
  have z0 := HZD.out.c 0 rfl
  have z1 := HZD.out.c 1 rfl
  have z2 := HZD.out.c 2 rfl
  have z3 := HZD.out.c 3 rfl
  have z4 := HZD.out.c 4 rfl
  have z5 := HZD.out.c 5 rfl
  have f0 := HZD.out.free 0
  have f1 := HZD.out.free 1
  have f2 := HZD.out.free 2
  have f3 := HZD.out.free 3
  have f4 := HZD.out.free 4
  have f5 := HZD.out.free 5
  go_wp2_with fail
  rw [HE.out]
  exact fin10e (HBD.out) (by omega) (D := DW (DW (fun k => D k ∧ k < w.heap.size) W) w1) (fun k hk => Or.elim hk (fun hk => Or.elim hk (fun hk => by have := hk.2; omega) (fun hk => by have h2 := HWs.out; omega)) (fun hk => by have h1 := HB1.out.size; have h2 := HWs.out; omega)) (fun k hk => Or.elim hk (fun hk => Or.elim hk (fun hk => .inl hk.1) (fun hk => .inr (by have h2 := HB.out.size; omega))) (fun hk => .inr (by have h1 := HB1.out.size; have h2 := HB.out.size; omega))) HZD.out HRD.out HAD.out rfl rfl _ rfl rfl _ rfl
 ·have HP := hid (HPn.out he)
  rw [if_neg he] at HE
  clear HPn HPy HRl he
  go_wp2_with fail
  refine HP.out.mono ?_
  rintro e w1 ⟨rfl, hb1⟩
  have HB1 := hid hb1
  clear x0 x1 x2 x3 x4 x5 y0 y1 y2 hb1 HP hW
  have x0 := (HX.out.below HB1.out).c 0 rfl
  have x1 := (HX.out.below HB1.out).c 1 rfl
  have x2 := (HX.out.below HB1.out).c 2 rfl
  have x3 := (HX.out.below HB1.out).c 3 rfl
  have x4 := (HX.out.below HB1.out).c 4 rfl
  have x5 := (HX.out.below HB1.out).c 5 rfl
  have y0 := (HY.out.below HB1.out).c 0 rfl
  have y1 := (HY.out.below HB1.out).c 1 rfl
  have y2 := (HY.out.below HB1.out).c 2 rfl
  have z0 := (HZ.out.below HB1.out).c 0 rfl
  have z1 := (HZ.out.below HB1.out).c 1 rfl
  have z2 := (HZ.out.below HB1.out).c 2 rfl
  have z3 := (HZ.out.below HB1.out).c 3 rfl
  have z4 := (HZ.out.below HB1.out).c 4 rfl
  have z5 := (HZ.out.below HB1.out).c 5 rfl
  have f0 := (HZ.out.below HB1.out).free 0
  have f1 := (HZ.out.below HB1.out).free 1
  have f2 := (HZ.out.below HB1.out).free 2
  have f3 := (HZ.out.below HB1.out).free 3
  have f4 := (HZ.out.below HB1.out).free 4
  have f5 := (HZ.out.below HB1.out).free 5
  go_wp2_with fail
  rw [HE.out]
  exact fin10e (HB.out.trans (HB1.out.mono HB.out.size)) (by omega) (D := fun k => D k ∧ k < w.heap.size) (fun k hk => by have := hk.2; omega) (fun k hk => .inl hk.1) (HZ.out.below HB1.out) (HR.out.below HB1.out) (all2_imp (fun _ _ h => FileR.below h HB1.out) HA.out) rfl rfl _ rfl rfl _ rfl
end
section
open Go Go.RowKit
set_option maxRecDepth 100000
theorem results_st3 {P : Program} {fn : Func} {p q r : Tmp} {ty : TypeId} {fs : Array Field} (h : fn.results = #[.cell p ty, .tmp q, .tmp r]) (tmps : Array Value) (w : World) (g : Nat) (v0 v1 v2 v3 v4 v5 v v' : Value) (t : TypeId)
  (hp : tmps.getD p undef = .pointer (some ⟨g, 0, none⟩)) (hq : tmps.getD q undef = v) (hr : tmps.getD r undef = v') (hb : BxA w g t [v0, v1, v2, v3, v4, v5]) (hu : P.underlying ty = some (.struct fs)) (hsz : (sizeOf ty).run P w = .ok 6 w) : (results fn tmps).run P w = .ok (.tuple #[.agg #[v0, v1, v2, v3, v4, v5], v, v']) w := by
 have hp' : tmps[p]?.getD undef = .pointer (some ⟨g, 0, none⟩) := by simpa using hp
 have hq' : tmps[q]?.getD undef = v := by simpa using hq
 have hr' : tmps[r]?.getD undef = v' := by simpa using hr
 have c0 := hb.c 0 rfl
 have c1 := hb.c 1 rfl
 have c2 := hb.c 2 rfl
 have c3 := hb.c 3 rfl
 have c4 := hb.c 4 rfl
 have c5 := hb.c 5 rfl
 simp [results, h, hp', hq', hr', asAddr, loadVar, isAgg, Sem.run_bind, run_underlying hu, hsz, loadCells, loadCellsFrom, Addr.add, c0, c1, c2, c3, c4, c5, go_sem]
abbrev ED (D : Nat → Prop) (w : World) (m : Nat) (k : Nat) : Prop := (D k ∧ k < w.heap.size) ∨ m ≤ k
structure MidO (w y : World) (D : Nat → Prop) (b0 b1 m : Nat) (S : FS) (A : Option Addr) (c : Nat) (vs : List FileV) : Prop where
 below : Below w.heap.size w y
 bs : BxA y b0 51 (stC A vs.length c S)
 bz : BxA y b1 51 zeroSt
 row : RowT fileC y (ED D w m) A vs
 all : All2 (FileR y (ED D w m)) vs S.l
 sz : m ≤ y.heap.size
 b0w : w.heap.size ≤ b0
 b1w : w.heap.size ≤ b1
 b0m : b0 < m
 b1m : b1 < m
 ne : b0 ≠ b1
theorem MidO.go {w y y' : World} {D : Nat → Prop} {b0 b1 m : Nat} {S : FS} {A : Option Addr} {c : Nat} {vs : List FileV} (h : MidO w y D b0 b1 m S A c vs) (hb : Below y.heap.size y y') : MidO w y' D b0 b1 m S A c vs :=
 ⟨h.below.trans (hb.mono h.below.size), h.bs.below hb, h.bz.below hb, h.row.below hb, all2_imp (fun _ _ h => FileR.below h hb) h.all, Nat.le_trans h.sz hb.size, h.b0w, h.b1w, h.b0m, h.b1m, h.ne⟩
theorem MidO.st {w y : World} {D : Nat → Prop} {b0 b1 m : Nat} {S : FS} {A : Option Addr} {c : Nat} {vs : List FileV} (h : MidO w y D b0 b1 m S A c vs) (d : Bool) (hd : d = S.down) : StAt y (ED D w m) (.agg #[.slice A vs.length c, .int .i64 (S.no : Int), .int .i64 (S.ops : Int), .int .i64 S.fuse, .int .i64 S.fault, .bool d]) S := by
 subst hd
 exact ⟨A, c, vs, rfl, h.row, h.all⟩
theorem MidO.put {w y y' : World} {D : Nat → Prop} {b0 b1 m : Nat} {S S' : FS} {A A' : Option Addr} {c c' : Nat} {vs vs' : List FileV} (h : MidO w y D b0 b1 m S A c vs) (hb : Below y.heap.size y y') (hr : RowT fileC y' (DW (ED D w m) y) A' vs') (ha : All2 (FileR y' (DW (ED D w m) y)) vs' S'.l) :
  MidO w (six y' b0 (.slice A' vs'.length c') (.int .i64 (S'.no : Int)) (.int .i64 (S'.ops : Int)) (.int .i64 S'.fuse) (.int .i64 S'.fault) (.bool S'.down)) D b0 b1 m S' A' c' vs' := by
 have ho := six_only y' b0 (.slice A' vs'.length c') (.int .i64 (S'.no : Int)) (.int .i64 (S'.ops : Int)) (.int .i64 S'.fuse) (.int .i64 S'.fault) (.bool S'.down)
 have hB := h.below.trans (hb.mono h.below.size)
 have hm : ∀ k, DW (ED D w m) y k → ED D w m k := fun k hk => hk.elim id (fun hk => .inr (Nat.le_trans h.sz hk))
 have hn : ∀ k, ED D w m k → ¬ k = b0 := fun k hk e => by
  have h1 := h.b0w; have h2 := h.b0m
  rcases hk with hk | hk
  ·have := hk.2; omega
  ·omega
 refine ⟨hB.trans (ho.below hB.size fun k e => by rw [e]; exact h.b0w), six_box (h.bs.below hb) _ _ _ _ _ _, (h.bz.below hb).keep ho (fun e => h.ne e.symm), (hr.mono hm).keep ho hn, all2_imp (fun _ _ h => (h.mono hm).keep ho hn) ha, Nat.le_trans h.sz (Nat.le_trans hb.size ho.size), h.b0w, h.b1w, h.b0m, h.b1m, h.ne⟩
theorem MidO.fin {w y : World} {D : Nat → Prop} {b0 b1 m : Nat} {S : FS} {A : Option Addr} {c : Nat} {vs : List FileV} (h : MidO w y D b0 b1 m S A c vs) {f : Func} {p q r : Tmp} (hf : f.results = #[.cell p 51, .tmp q, .tmp r]) (tmps : Array Value) {l : List EnJ} {LA : Option Addr} {lc : Nat} {z : Int}
  (ht : tmps.getD p undef = .pointer (some ⟨b1, 0, none⟩)) (hq : tmps.getD q undef = .slice LA l.length lc) (hz : tmps.getD r undef = .int .i64 z) (hrow : RowT enC y (fun k => m ≤ k) LA l) (hnil : LA = none → lc = 0) (d : Bool) (hd : d = S.down) :
  bodyPost Tryz.prog f (fun x w' => ∃ v' A' c', x = .returned (.tuple #[v', .slice A' l.length c', .int .i64 z]) ∧ StAt w' (DW D w) v' S ∧ RowT enC w' (fun k => w.heap.size ≤ k) A' l ∧ (A' = none → c' = 0) ∧ Below w.heap.size w w') Exit.ret { tmps := tmps, defers := [] }
   (six y b1 (.slice A vs.length c) (.int .i64 (S.no : Int)) (.int .i64 (S.ops : Int)) (.int .i64 S.fuse) (.int .i64 S.fault) (.bool d)) := by
 subst hd
 have ho := six_only y b1 (.slice A vs.length c) (.int .i64 (S.no : Int)) (.int .i64 (S.ops : Int)) (.int .i64 S.fuse) (.int .i64 S.fault) (.bool S.down)
 have h1 := h.b1w
 have h2 := h.b1m
 have hn : ∀ k, ED D w m k → ¬ k = b1 := fun k hk e => by
  rcases hk with hk | hk
  ·have := hk.2; omega
  ·omega
 have hm : ∀ k, ED D w m k → DW D w k := fun k hk => hk.elim (fun hk => .inl hk.1) (fun hk => .inr (by omega))
 refine bodyPost_ret (results_st3 hf _ _ b1 _ _ _ _ _ _ _ _ 51 ht hq hz (six_box h.bz _ _ _ _ _ _) Tryz.underlying51 (sizeState10 _)) rfl ?_
 exact ⟨_, LA, lc, rfl, ⟨A, c, vs, rfl, (h.row.keep ho hn).mono hm, all2_imp (fun _ _ h => (h.keep ho hn).mono hm) h.all⟩, (hrow.keep ho (fun k hk e => by omega)).mono (fun k hk => by omega), hnil, h.below.trans (ho.below h.below.size fun k e => by rw [e]; exact h1)⟩
end
section
open Go Go.RowKit
set_option maxRecDepth 100000
theorem own_neE {W : World} {b b' e e' z z' : Nat} {v v' : Value} {n n' : Nat} {xs xs' : List Value} (h : W.ownsRow b e z v n xs) (h' : W.ownsRow b' e' z' v' n' xs') (hne : e ≠ e') : v.ownBlock = none ∨ v.ownBlock ≠ v'.ownBlock := by
 rcases h.2 with ⟨rfl, _⟩ | ⟨g, cap, cur, rfl, _, hg, _⟩
 ·exact .inl rfl
 ·refine .inr fun he => ?_
  rcases h'.2 with ⟨rfl, _⟩ | ⟨g', cap', cur', rfl, _, hg', _⟩
  ·cases he
  ·obtain rfl : g = g' := by simpa [Value.ownBlock] using he
   rw [hg] at hg'
   injection hg' with h1
   injection h1 with _ h2
   exact hne h2
structure OpX where
 o : OpF
 A : Option Addr
 c : Nat
abbrev opxC (x : OpX) : List Value := [.int .i64 x.o.k, .string x.o.n, .string x.o.t, .slice x.A x.o.b.length x.c, .int .i64 x.o.i, .slice none 0 0]
theorem opxC_length (x : OpX) : (opxC x).length = 6 := rfl
theorem opxC_one (x : OpX) : ∀ u ∈ opxC x, u.oneCell' = true := by
 intro u hu
 simp only [opxC, List.mem_cons, List.not_mem_nil, or_false] at hu
 rcases hu with rfl | rfl | rfl | rfl | rfl | rfl <;> rfl
theorem infoOp10 : (Tryz.prog.info? 76).map (fun i => (i.zero, i.size, i.bytes)) = some (some (.agg #[.int .i64 0, .string ⟨#[]⟩, .string ⟨#[]⟩, .slice none 0 0, .int .i64 0, .slice none 0 0]), 6, 96) := by kernel_rfl
def FrIn (m : Nat) (xs : List OpX) (W : World) : Prop := ∀ x ∈ xs, W.ownsRow m 5 1 (.slice x.A x.o.b.length x.c) x.o.b.length (Lib.byteCells x.o.b)
structure OpRow (m : Nat) (W : World) (v : Value) (xs : List OpX) : Prop where
 own : W.ownsRow m 76 6 v xs.length (xs.flatMap opxC)
 fr : FrIn m xs W
section
variable {m : Nat} {W W2 : World} {v : Value} {xs : List OpX}
theorem OpRow.nil (m : Nat) (W : World) : OpRow m W (.slice none 0 0) [] := ⟨World.ownsRow_nil _ _ _ _, fun x hx => by cases hx⟩
theorem OpRow.below (h : OpRow m W v xs) (hb : Below W.heap.size W W2) : OpRow m W2 v xs := ⟨own_below h.own hb, fun x hx => own_below (h.fr x hx) hb⟩
theorem OpRow.form (h : OpRow m W v xs) : ∃ A c, v = .slice A xs.length c := own_form h.own
theorem OpRow.only {R : Nat → Prop} (h : OpRow m W v xs) (ho : Only R W W2) (hR : ∀ k, R k → k < m) : OpRow m W2 v xs :=
 ⟨own_onlyE h.own ho (fun g hg hr => by have := (h.own.lt g hg).1; have := hR g hr; omega), fun x hx => own_onlyE (h.fr x hx) ho (fun g hg hr => by have := ((h.fr x hx).lt g hg).1; have := hR g hr; omega)⟩
theorem OpRow.app (h : OpRow m W v xs) (g : Nat) (c : Nat) (ys : List OpX) (hy : ∀ j u, (ys.flatMap opxC)[j]? = some u → W.cell? ⟨g, j, none⟩ = some u) (hf : FrIn m ys W) (hb : xs.length + ys.length ≤ 1000000000) (hm : m ≤ W.heap.size) :
  ∃ v' w', (Builtin.append_ #[118, 118] 118 #[v, .slice (some ⟨g, 0, none⟩) ys.length c]).run Tryz.prog W = .ok v' w' ∧ OpRow m w' v' (xs ++ ys) ∧ Below m W w' := by
 obtain ⟨i, hi, hz, hsize, hby⟩ := info_parts infoOp10
 obtain ⟨v', w', hr, h2, h3, _, h5⟩ := run_append_own_at (P := Tryz.prog) (w := W) m 118 118 76 i _ 6 96 Tryz.underlying118 hi hz hsize hby rfl (by decide) v xs.length (xs.flatMap opxC) h.own ⟨g, 0, none⟩ ys.length c (ys.flatMap opxC) (flat_length opxC_length ys) (fun j u hj => by
   rw [Addr.add_lit, Nat.zero_add]
   exact hy j u hj) (fun u hu => by
   obtain ⟨x, _, hx⟩ := List.mem_flatMap.1 hu
   exact opxC_one x u hx) (by unfold maxLen; omega) (by omega) hm
 refine ⟨v', w', hr, ⟨by rw [List.length_append, List.flatMap_append]; exact h2, fun x hx => ?_⟩, (Below.refl m W).grown h3 hm (fun k hk => (h.own.lt k hk).1)⟩
 have hx1 : W.ownsRow m 5 1 (.slice x.A x.o.b.length x.c) x.o.b.length (Lib.byteCells x.o.b) := by
  rcases List.mem_append.1 hx with hx | hx
  ·exact h.fr x hx
  ·exact hf x hx
 exact hx1.kept h3 (own_neE hx1 h.own (by decide))
theorem OpRow.at_ {A : Option Addr} {n c : Nat} (h : OpRow m W (.slice A n c) xs) {k : Nat} {x : OpX} (hq : xs[k]? = some x) : ∃ g o, A = some ⟨g, o, none⟩ ∧ g < W.heap.size ∧ m ≤ g ∧ (∀ j u, (opxC x)[j]? = some u → W.cell? ⟨g, o + k * 6 + j, none⟩ = some u) ∧ W.ownsRow m 5 1 (.slice x.A x.o.b.length x.c) x.o.b.length (Lib.byteCells x.o.b) := by
 have hr := rowT_of_own (C := opxC) (R := fun k => m ≤ k) h.own (fun g hg => (h.own.lt g hg).1)
 have hk : k < xs.length := (List.getElem?_eq_some_iff.1 hq).1
 obtain ⟨g, o, e, hm, hg, hc⟩ := hr (by omega)
 refine ⟨g, o, e, hg, hm, fun j u hj => ?_, h.fr x (List.mem_of_getElem? hq)⟩
 rw [Nat.add_assoc]
 exact hc (k * 6 + j) u (flat_get opxC_length hq hj)
end
end
section
open Go Go.RowKit
open Go.Lib (hid)
set_option maxRecDepth 100000
theorem clear_at {k : Nat} {S : FS} (h : S.At k) (n : ByteArray) : (clearJ S n).1.At (k + 1) := by
 unfold clearJ
 split
 ·exact h.does ⟨3, otJ n, ⟨#[]⟩, [], 0, []⟩ (by show (0 : Int) ≤ _; decide)
 ·exact h.mono (Nat.le_succ k)
set_option maxHeartbeats 8000000 in
theorem ropen12_calls (w : World) (D : Nat → Prop) (v : Value) (S : FS) (n : ByteArray) (k : Nat) (hn : n.size ≤ 137438953472) (h : StAt w D v S) (hA : S.At k) (hk : k + 10 ≤ 100000) :
  Calls Tryz.prog 69 #[v, .string n] w fun x w' => ∃ v' A' c', x = .returned (.tuple #[v', .slice A' (openJ S n).2.1.length c', .int .i64 (openJ S n).2.2]) ∧ StAt w' (DW D w) v' (openJ S n).1 ∧ RowT enC w' (fun k => w.heap.size ≤ k) A' (openJ S n).2.1 ∧ (A' = none → c' = 0) ∧ Below w.heap.size w w' := by
 have hcap := h.cap
 obtain ⟨A, c, vs, rfl, hr, ha⟩ := hcap
 have hb := ((Below.refl _ w).alloc (Nat.le_refl _) (.cells (stC A vs.length c S).toArray 51)).alloc (by simp) (.cells zeroSt.toArray 51)
 have hM : MidO w ((w.alloc (.cells (stC A vs.length c S).toArray 51)).alloc (.cells zeroSt.toArray 51)) D w.heap.size (w.heap.size + 1) (w.heap.size + 2) S A c vs :=
  ⟨hb, (BxA.new w 51 (stC A vs.length c S)).alloc (.cells zeroSt.toArray 51), bx_new2 w (.cells (stC A vs.length c S).toArray 51) 51 zeroSt, (hr.below hb).mono (fun _ h => .inl h), all2_imp (fun _ _ h => (FileR.below h hb).mono (fun _ h => .inl h)) ha, by simp, Nat.le_refl _, Nat.le_succ _, by omega, by omega, by omega⟩
 have HAt := hid hA
 have HO : Hid (openJ S n = if S.down = true then (S, [], 100) else if n.size < 1 ∨ 16 < n.size then (S, [], 101) else if (clearJ S n).2 ≠ 0 then ((clearJ S n).1, [], (clearJ S n).2) else
  if ((clearJ S n).1.read n).2 ≠ 0 then ((clearJ S n).1, [], 0) else
  if (entriesJ ((clearJ S n).1.read n).1).2 < ((clearJ S n).1.read n).1.length then
   if ((clearJ S n).1.cut n (entriesJ ((clearJ S n).1.read n).1).2).2 ≠ 0 then (((clearJ S n).1.cut n (entriesJ ((clearJ S n).1.read n).1).2).1, [], ((clearJ S n).1.cut n (entriesJ ((clearJ S n).1.read n).1).2).2)
   else (((clearJ S n).1.cut n (entriesJ ((clearJ S n).1.read n).1).2).1, (entriesJ ((clearJ S n).1.read n).1).1, 0)
  else ((clearJ S n).1, (entriesJ ((clearJ S n).1.read n).1).1, 0)) := hid rfl
 have HCAt := hid (clear_at hA n)
 have HLen := hid (read_len HCAt.out.ok n)
 have HCall := hid (fun y hs => rclear12_calls y (ED D w (w.heap.size + 2)) (.agg #[.slice A vs.length c, .int .i64 (S.no : Int), .int .i64 (S.ops : Int), .int .i64 S.fuse, .int .i64 S.fault, .bool S.down]) S n hn hs (hA.fit (by omega)))
 obtain ⟨W, hW⟩ : ∃ W, ((w.alloc (.cells (stC A vs.length c S).toArray 51)).alloc (.cells zeroSt.toArray 51)) = W := ⟨_, rfl⟩
 rw [hW] at hM
 have HM := hid hM
 have x0 := (hM).bs.c 0 rfl
 have x1 := (hM).bs.c 1 rfl
 have x2 := (hM).bs.c 2 rfl
 have x3 := (hM).bs.c 3 rfl
 have x4 := (hM).bs.c 4 rfl
 have x5 := (hM).bs.c 5 rfl
 have e0 := (hM).bs.free 0
 have e1 := (hM).bs.free 1
 have e2 := (hM).bs.free 2
 have e3 := (hM).bs.free 3
 have e4 := (hM).bs.free 4
 have e5 := (hM).bs.free 5
 have z0 := (hM).bz.c 0 rfl
 have z1 := (hM).bz.c 1 rfl
 have z2 := (hM).bz.c 2 rfl
 have z3 := (hM).bz.c 3 rfl
 have z4 := (hM).bz.c 4 rfl
 have z5 := (hM).bz.c 5 rfl
 have f0 := (hM).bz.free 0
 have f1 := (hM).bz.free 1
 have f2 := (hM).bz.free 2
 have f3 := (hM).bz.free 3
 have f4 := (hM).bz.free 4
 have f5 := (hM).bz.free 5
 clear hr ha hb hM h hA hn
 unfold stV stC at *
 go_enter Tryz.func69, Tryz.ntmps69
 generalize hdn : S.down = dn at *
 cases dn with
 | true =>
  rw [if_pos rfl] at HO
  go_wp2_with fail
  rw [HO.out]
  exact HM.out.fin (l := []) rfl _ rfl rfl rfl (fun hn => absurd hn (Nat.lt_irrefl 0)) (fun _ => rfl) true hdn.symm
 | false =>
  rw [if_neg (by decide)] at HO
  by_cases h1 : n.size < 1
  ·have q1 : decide ((n.size : Int) < 1) = true := decide_eq_true (by omega)
   rw [if_pos (.inl h1)] at HO
   go_wp2_with fail
   rw [HO.out]
   exact HM.out.fin (l := []) rfl _ rfl rfl rfl (fun hn => absurd hn (Nat.lt_irrefl 0)) (fun _ => rfl) false hdn.symm
  have q1 : decide ((n.size : Int) < 1) = false := decide_eq_false (by omega)
  by_cases h2 : 16 < n.size
  ·have q2 : decide ((16 : Int) < (n.size : Int)) = true := decide_eq_true (by omega)
   rw [if_pos (.inr h2)] at HO
   go_wp2_with fail
   rw [HO.out]
   exact HM.out.fin (l := []) rfl _ rfl rfl rfl (fun hn => absurd hn (Nat.lt_irrefl 0)) (fun _ => rfl) false hdn.symm
  have q2 : decide ((16 : Int) < (n.size : Int)) = false := decide_eq_false (by omega)
  rw [if_neg (by omega)] at HO
  generalize clearJ S n = q at *
  obtain ⟨C, ec⟩ := q
  simp only at HO HCAt HLen HCall
  clear e0 e1 e2 e3 e4 e5 z0 z1 z2 z3 z4 z5 f0 f1 f2 f3 f4 f5
  go_wp2_with fail
  refine (HCall.out _ (HM.out.st false hdn.symm)).mono ?_
  rintro x w1 ⟨v1, rfl, hs1, hb1⟩
  obtain ⟨A1, c1, vs1, rfl, hr1, ha1⟩ := hs1
  have HMa := hid (HM.out.go hb1)
  have hM1 := HM.out.put (c' := c1) hb1 hr1 ha1
  obtain ⟨W1, hW1⟩ : ∃ W1, six w1 w.heap.size (.slice A1 vs1.length c1) (.int .i64 (C.no : Int)) (.int .i64 (C.ops : Int)) (.int .i64 C.fuse) (.int .i64 C.fault) (.bool C.down) = W1 := ⟨_, rfl⟩
  rw [hW1] at hM1
  have HM1 := hid hM1
  unfold six at hW1
  unfold stV
  clear x0 x1 x2 x3 x4 x5 hM1 hb1 hr1 ha1 HM HCall hW
  have x0 := (HMa.out).bs.c 0 rfl
  have x1 := (HMa.out).bs.c 1 rfl
  have x2 := (HMa.out).bs.c 2 rfl
  have x3 := (HMa.out).bs.c 3 rfl
  have x4 := (HMa.out).bs.c 4 rfl
  have x5 := (HMa.out).bs.c 5 rfl
  have e0 := (HMa.out).bs.free 0
  have e1 := (HMa.out).bs.free 1
  have e2 := (HMa.out).bs.free 2
  have e3 := (HMa.out).bs.free 3
  have e4 := (HMa.out).bs.free 4
  have e5 := (HMa.out).bs.free 5
  have y0 := (HM1.out).bs.c 0 rfl
  have y1 := (HM1.out).bs.c 1 rfl
  have y2 := (HM1.out).bs.c 2 rfl
  have y3 := (HM1.out).bs.c 3 rfl
  have y4 := (HM1.out).bs.c 4 rfl
  have y5 := (HM1.out).bs.c 5 rfl
  have z0 := (HM1.out).bz.c 0 rfl
  have z1 := (HM1.out).bz.c 1 rfl
  have z2 := (HM1.out).bz.c 2 rfl
  have z3 := (HM1.out).bz.c 3 rfl
  have z4 := (HM1.out).bz.c 4 rfl
  have z5 := (HM1.out).bz.c 5 rfl
  have f0 := (HM1.out).bz.free 0
  have f1 := (HM1.out).bz.free 1
  have f2 := (HM1.out).bz.free 2
  have f3 := (HM1.out).bz.free 3
  have f4 := (HM1.out).bz.free 4
  have f5 := (HM1.out).bz.free 5
  by_cases he : ec = 0
  ·subst he
   rw [if_neg (fun h => h rfl)] at HO
   clear z0 z1 z2 z3 z4 z5 f0 f1 f2 f3 f4 f5
   have HRead := hid (rread10_calls W1 (ED D w (w.heap.size + 2)) _ C n (HM1.out.st C.down rfl) (HCAt.out.fit (by omega)))
   generalize C.read n = rd at *
   obtain ⟨b, er⟩ := rd
   simp only at HO HLen
   go_wp2_with fail
   refine HRead.out.mono ?_
   rintro x w2 ⟨u, rfl, hown2, hb2⟩
   obtain ⟨BA, bc, rfl⟩ := own_form hown2
   have HBy := hid (byt_of_own hown2)
   have HM2 := hid (HM1.out.go hb2)
   clear x0 x1 x2 x3 x4 x5 e0 e1 e2 e3 e4 e5 y0 y1 y2 y3 y4 y5 hown2 hb2 HRead hW1
   have x0 := (HM2.out).bs.c 0 rfl
   have x1 := (HM2.out).bs.c 1 rfl
   have x2 := (HM2.out).bs.c 2 rfl
   have x3 := (HM2.out).bs.c 3 rfl
   have x4 := (HM2.out).bs.c 4 rfl
   have x5 := (HM2.out).bs.c 5 rfl
   have z0 := (HM2.out).bz.c 0 rfl
   have z1 := (HM2.out).bz.c 1 rfl
   have z2 := (HM2.out).bz.c 2 rfl
   have z3 := (HM2.out).bz.c 3 rfl
   have z4 := (HM2.out).bz.c 4 rfl
   have z5 := (HM2.out).bz.c 5 rfl
   have f0 := (HM2.out).bz.free 0
   have f1 := (HM2.out).bz.free 1
   have f2 := (HM2.out).bz.free 2
   have f3 := (HM2.out).bz.free 3
   have f4 := (HM2.out).bz.free 4
   have f5 := (HM2.out).bz.free 5
   by_cases hr : er = 0
   ·subst hr
    rw [if_neg (fun h => h rfl)] at HO
    have hbl := HLen.out
    have hz2 := HM2.out.sz
    have HEn := hid (rentries12_calls BA bc b w2 HBy.out.1 HBy.out.2.2.1 (by omega))
    have HLe := hid (entries_is b).2.2.2
    generalize entriesJ b = en at *
    obtain ⟨l, good⟩ := en
    simp only at HO HEn HLe
    clear z0 z1 z2 z3 z4 z5 f0 f1 f2 f3 f4 f5
    go_wp2_with fail
    refine HEn.out.mono ?_
    rintro x w3 ⟨LA, lc, rfl, hown3, hb3⟩
    have HM3 := hid (HM2.out.go hb3)
    have HRow : Hid (RowT enC w3 (fun k => w.heap.size + 2 ≤ k) LA l) := hid (rowT_of_own hown3 (fun g hg => Nat.le_trans hz2 (own_at hown3 g hg)))
    have HNil := hid (own_none hown3)
    clear x0 x1 x2 x3 x4 x5 hown3 hb3 HEn hz2
    have x0 := (HM3.out).bs.c 0 rfl
    have x1 := (HM3.out).bs.c 1 rfl
    have x2 := (HM3.out).bs.c 2 rfl
    have x3 := (HM3.out).bs.c 3 rfl
    have x4 := (HM3.out).bs.c 4 rfl
    have x5 := (HM3.out).bs.c 5 rfl
    have z0 := (HM3.out).bz.c 0 rfl
    have z1 := (HM3.out).bz.c 1 rfl
    have z2 := (HM3.out).bz.c 2 rfl
    have z3 := (HM3.out).bz.c 3 rfl
    have z4 := (HM3.out).bz.c 4 rfl
    have z5 := (HM3.out).bz.c 5 rfl
    have f0 := (HM3.out).bz.free 0
    have f1 := (HM3.out).bz.free 1
    have f2 := (HM3.out).bz.free 2
    have f3 := (HM3.out).bz.free 3
    have f4 := (HM3.out).bz.free 4
    have f5 := (HM3.out).bz.free 5
    by_cases hg : good < b.length
    ·have q3 : decide ((good : Int) < (b.length : Int)) = true := decide_eq_true (by omega)
     rw [if_pos hg] at HO
     clear z0 z1 z2 z3 z4 z5 f0 f1 f2 f3 f4 f5
     rw [show C.cut n (good : Int) = doF C ⟨4, n, ⟨#[]⟩, [], (good : Int), []⟩ from rfl] at HO
     go_wp2_with fail
     refine (rdo10_calls w3 (ED D w (w.heap.size + 2)) _ C ⟨4, n, ⟨#[]⟩, [], (good : Int), []⟩ none 0 none 0 (HM3.out.st C.down rfl) (HCAt.out.fit (by omega)) (show (0 : Int) ≤ 4 by decide) (show (4 : Int) ≤ 8 by decide) (fun hn => absurd hn (Nat.lt_irrefl 0)) (fun _ => rfl) (by simp) (fun hn => absurd hn (Nat.lt_irrefl 0)) (by simp)).mono ?_
     rintro x w4 ⟨v4, rfl, hs4, hb4⟩
     generalize doF C ⟨4, n, ⟨#[]⟩, [], (good : Int), []⟩ = dq at *
     obtain ⟨C4, er4⟩ := dq
     simp only at HO hs4
     obtain ⟨A4, c4, vs4, rfl, hr4, ha4⟩ := hs4
     have HMb := hid (HM3.out.go hb4)
     have hM5 := HM3.out.put (c' := c4) hb4 hr4 ha4
     have ho5 := six_only w4 w.heap.size (.slice A4 vs4.length c4) (.int .i64 (C4.no : Int)) (.int .i64 (C4.ops : Int)) (.int .i64 C4.fuse) (.int .i64 C4.fault) (.bool C4.down)
     have hrow5 := (HRow.out.below hb4).keep ho5 (fun k hk e => by omega)
     obtain ⟨W5, hW5⟩ : ∃ W5, six w4 w.heap.size (.slice A4 vs4.length c4) (.int .i64 (C4.no : Int)) (.int .i64 (C4.ops : Int)) (.int .i64 C4.fuse) (.int .i64 C4.fault) (.bool C4.down) = W5 := ⟨_, rfl⟩
     rw [hW5] at hM5 hrow5
     have HM5 := hid hM5
     have HRow5 := hid hrow5
     unfold six at hW5
     unfold stV
     clear x0 x1 x2 x3 x4 x5 hM5 hrow5 ho5 hb4 hr4 ha4
     have x0 := (HMb.out).bs.c 0 rfl
     have x1 := (HMb.out).bs.c 1 rfl
     have x2 := (HMb.out).bs.c 2 rfl
     have x3 := (HMb.out).bs.c 3 rfl
     have x4 := (HMb.out).bs.c 4 rfl
     have x5 := (HMb.out).bs.c 5 rfl
     have e0 := (HMb.out).bs.free 0
     have e1 := (HMb.out).bs.free 1
     have e2 := (HMb.out).bs.free 2
     have e3 := (HMb.out).bs.free 3
     have e4 := (HMb.out).bs.free 4
     have e5 := (HMb.out).bs.free 5
     have y0 := (HM5.out).bs.c 0 rfl
     have y1 := (HM5.out).bs.c 1 rfl
     have y2 := (HM5.out).bs.c 2 rfl
     have y3 := (HM5.out).bs.c 3 rfl
     have y4 := (HM5.out).bs.c 4 rfl
     have y5 := (HM5.out).bs.c 5 rfl
     have z0 := (HM5.out).bz.c 0 rfl
     have z1 := (HM5.out).bz.c 1 rfl
     have z2 := (HM5.out).bz.c 2 rfl
     have z3 := (HM5.out).bz.c 3 rfl
     have z4 := (HM5.out).bz.c 4 rfl
     have z5 := (HM5.out).bz.c 5 rfl
     have f0 := (HM5.out).bz.free 0
     have f1 := (HM5.out).bz.free 1
     have f2 := (HM5.out).bz.free 2
     have f3 := (HM5.out).bz.free 3
     have f4 := (HM5.out).bz.free 4
     have f5 := (HM5.out).bz.free 5
     by_cases he4 : er4 = 0
     ·subst he4
      rw [if_neg (fun h => h rfl)] at HO
      go_wp2_with fail
      rw [HO.out]
      exact HM5.out.fin (l := l) rfl _ rfl rfl rfl HRow5.out HNil.out C4.down rfl
     ·have t1 : (er4 == 0) = false := beq_eq_false_iff_ne.2 he4
      have t2 : (er4 != 0) = true := by simpa using he4
      rw [if_pos he4] at HO
      go_wp2_with fail
      rw [HO.out]
      exact HM5.out.fin (l := []) rfl _ rfl rfl rfl (fun hn => absurd hn (Nat.lt_irrefl 0)) (fun _ => rfl) C4.down rfl
    ·have q3 : decide ((good : Int) < (b.length : Int)) = false := decide_eq_false (by omega)
     rw [if_neg hg] at HO
     go_wp2_with fail
     rw [HO.out]
     exact HM3.out.fin (l := l) rfl _ rfl rfl rfl HRow.out HNil.out C.down rfl
   ·have t1 : (er == 0) = false := beq_eq_false_iff_ne.2 hr
    have t2 : (er != 0) = true := by simpa using hr
    rw [if_pos hr] at HO
    go_wp2_with fail
    rw [HO.out]
    exact HM2.out.fin (l := []) rfl _ rfl rfl rfl (fun hn => absurd hn (Nat.lt_irrefl 0)) (fun _ => rfl) C.down rfl
  ·have t1 : (ec == 0) = false := beq_eq_false_iff_ne.2 he
   have t2 : (ec != 0) = true := by simpa using he
   rw [if_pos he] at HO
   go_wp2_with fail
   rw [HO.out]
   exact HM1.out.fin (l := []) rfl _ rfl rfl rfl (fun hn => absurd hn (Nat.lt_irrefl 0)) (fun _ => rfl) C.down rfl
end
section
open Go Go.RowKit
open Go.Lib (hid)
set_option maxRecDepth 100000
theorem MidO.fin2 {w y : World} {D : Nat → Prop} {b0 b1 m : Nat} {S : FS} {A : Option Addr} {c : Nat} {vs : List FileV} (h : MidO w y D b0 b1 m S A c vs) {f : Func} {p q : Tmp} (hf : f.results = #[.cell p 51, .tmp q]) (tmps : Array Value) {z : Int}
  (ht : tmps.getD p undef = .pointer (some ⟨b1, 0, none⟩)) (hq : tmps.getD q undef = .int .i64 z) (d : Bool) (hd : d = S.down) :
  bodyPost Tryz.prog f (fun x w' => ∃ v', x = .returned (.tuple #[v', .int .i64 z]) ∧ StAt w' (DW D w) v' S ∧ Below w.heap.size w w') Exit.ret { tmps := tmps, defers := [] }
   (six y b1 (.slice A vs.length c) (.int .i64 (S.no : Int)) (.int .i64 (S.ops : Int)) (.int .i64 S.fuse) (.int .i64 S.fault) (.bool d)) := by
 subst hd
 have h1 := h.b1w
 have h2 := h.b1m
 exact fin10e h.below h.b1w (D := ED D w m) (fun k hk e => by
  rcases hk with hk | hk
  ·have := hk.2; omega
  ·omega) (fun k hk => hk.elim (fun hk => .inl hk.1) (fun hk => .inr (by omega))) h.bz h.row h.all rfl hf tmps ht hq z rfl
theorem opC_x (x : OpX) (h : x.o.ks = []) : opC x.o x.A x.c none 0 = opxC x := by
 unfold opC opxC
 rw [h]
 rfl
theorem opsJ_right (n : ByteArray) (l : List EnJ) : ∀ o ∈ opsJ n l, 0 ≤ o.k ∧ o.k ≤ 8 ∧ o.ks = [] ∧ o.i = 0 := fun o ho => by
 unfold opsJ at ho
 rcases List.mem_append.1 ho with ho | ho
 ·obtain ⟨x, _, rfl⟩ := List.mem_map.1 ho
  exact ⟨by show (0 : Int) ≤ 0; decide, by show (0 : Int) ≤ 8; decide, rfl, rfl⟩
 ·simp only [List.mem_cons, List.not_mem_nil, or_false] at ho
  rcases ho with rfl | rfl
  ·exact ⟨by show (0 : Int) ≤ 1; decide, by show (1 : Int) ≤ 8; decide, rfl, rfl⟩
  ·exact ⟨by show (0 : Int) ≤ 2; decide, by show (2 : Int) ≤ 8; decide, rfl, rfl⟩
theorem opsJ_bytes (n : ByteArray) (l : List EnJ) (h : ∀ e ∈ l, rightJ e) : ∀ o ∈ opsJ n l, o.b.length ≤ 1000000 := fun o ho => by
 unfold opsJ at ho
 rcases List.mem_append.1 ho with ho | ho
 ·obtain ⟨x, hx, rfl⟩ := List.mem_map.1 ho
  show x.length ≤ 1000000
  unfold bodiesJ at hx
  split at hx
  ·rw [List.mem_singleton.1 hx]; simp
  ·obtain ⟨e, he, rfl⟩ := List.mem_map.1 hx
   have h1 := (h e he).2.2.1
   have h2 := (h e he).2.2.2.2.1
   rw [recJ_length]
   omega
 ·simp only [List.mem_cons, List.not_mem_nil, or_false] at ho
  rcases ho with rfl | rfl <;> simp
theorem fr_nil {W : World} {m : Nat} {x : OpX} (h : W.ownsRow m 5 1 (.slice x.A x.o.b.length x.c) x.o.b.length (Lib.byteCells x.o.b)) : x.A = none → x.c = 0 := fun hn => by
 rcases h.2 with ⟨e, _⟩ | ⟨g, cap, cur, e, _⟩
 ·injection e
 ·rw [hn] at e
  injection e with e
  cases e
theorem at_doesJ : ∀ (os : List OpF) {S : FS} {k : Nat}, (∀ o ∈ os, o.i = 0) → S.At k → (stepsJ (doesJ os) S).1.At (k + os.length)
 | [], _, _, _, h => h
 | o :: r, S, k, ho, h => by
  have h1 := h.does o (by rw [ho o List.mem_cons_self]; decide)
  show (if (doF S o).2 = 0 then stepsJ (doesJ r) (doF S o).1 else doF S o).1.At _
  split
  ·have := at_doesJ r (fun x hx => ho x (List.mem_cons_of_mem _ hx)) h1
   rw [List.length_cons, show k + (r.length + 1) = k + 1 + r.length by omega]
   exact this
  ·exact h1.mono (by rw [List.length_cons]; omega)
def compI (S : FS) (n : ByteArray) (l : List EnJ) (i : Nat) : FS × Int := stepsJ ((fun S => clearJ S n) :: doesJ ((opsJ n l).take i)) S
theorem compI_zero (S : FS) (n : ByteArray) (l : List EnJ) : compI S n l 0 = clearJ S n := by
 unfold compI
 rw [List.take_zero]
 show (if (clearJ S n).2 = 0 then ((clearJ S n).1, (0 : Int)) else clearJ S n) = clearJ S n
 split
 ·rename_i h; exact Prod.ext rfl h.symm
 ·rfl
theorem compI_succ (S : FS) (n : ByteArray) (l : List EnJ) {i : Nat} {o : OpF} (ho : (opsJ n l)[i]? = some o) (h : (compI S n l i).2 = 0) : compI S n l (i + 1) = doF (compI S n l i).1 o := by
 unfold compI at *
 rw [does_take ho]
 exact stepsJ_is ((fun S => clearJ S n) :: doesJ ((opsJ n l).take i)) (fun S => doF S o) S h
theorem compI_end (S : FS) (n : ByteArray) (l : List EnJ) {i : Nat} (h : (compI S n l i).2 ≠ 0 ∨ i = (opsJ n l).length) : packJ S n l = compI S n l i := by
 rw [pack_ops]
 rcases h with h | rfl
 ·have e : ((fun S => clearJ S n) :: doesJ (opsJ n l)) = ((fun S => clearJ S n) :: doesJ ((opsJ n l).take i)) ++ doesJ ((opsJ n l).drop i) := by
   unfold doesJ
   rw [List.cons_append, ← List.map_append, List.take_append_drop]
  rw [e]
  exact stepsJ_stop _ _ _ h
 ·unfold compI
  rw [List.take_length]
theorem compI_at {S : FS} {k : Nat} (h : S.At k) (n : ByteArray) (l : List EnJ) (i : Nat) (hi : i ≤ l.length + 3) : (compI S n l i).1.At (k + l.length + 4) := by
 unfold compI
 show (if (clearJ S n).2 = 0 then stepsJ (doesJ ((opsJ n l).take i)) (clearJ S n).1 else clearJ S n).1.At _
 have h1 := clear_at h n
 split
 ·have := at_doesJ ((opsJ n l).take i) (fun o ho => (opsJ_right n l o (List.mem_of_mem_take ho)).2.2.2) h1
  exact this.mono (by rw [List.length_take]; omega)
 ·exact h1.mono (by omega)
set_option maxHeartbeats 16000000 in
theorem rcompact12_calls (w : World) (D E : Nat → Prop) (v : Value) (S : FS) (n : ByteArray) (LA : Option Addr) (lc : Nat) (l : List EnJ) (k : Nat) (hn : n.size ≤ 1000) (h : StAt w D v S) (hE : RowT enC w E LA l) (hA : S.At k) (hk : k + l.length + 10 ≤ 99000) :
  Calls Tryz.prog 35 #[v, .string n, .slice LA l.length lc] w fun x w' => ∃ v', x = .returned (.tuple #[v', .int .i64 (compactJ S n l).2]) ∧ StAt w' (DW D w) v' (compactJ S n l).1 ∧ Below w.heap.size w w' := by
 have hcap := h.cap
 obtain ⟨A, c, vs, rfl, hr, ha⟩ := hcap
 have hb := ((Below.refl _ w).alloc (Nat.le_refl _) (.cells (stC A vs.length c S).toArray 51)).alloc (by simp) (.cells zeroSt.toArray 51)
 have hM : MidO w ((w.alloc (.cells (stC A vs.length c S).toArray 51)).alloc (.cells zeroSt.toArray 51)) D w.heap.size (w.heap.size + 1) (w.heap.size + 2) S A c vs :=
  ⟨hb, (BxA.new w 51 (stC A vs.length c S)).alloc (.cells zeroSt.toArray 51), bx_new2 w (.cells (stC A vs.length c S).toArray 51) 51 zeroSt, (hr.below hb).mono (fun _ h => .inl h), all2_imp (fun _ _ h => (FileR.below h hb).mono (fun _ h => .inl h)) ha, by simp, Nat.le_refl _, Nat.le_succ _, by omega, by omega, by omega⟩
 have HAt := hid hA
 have HKk := hid hk
 obtain ⟨res, hres⟩ : ∃ res, res = compactJ S n l := ⟨_, rfl⟩
 rw [← hres]
 have HRes := hid hres
 obtain ⟨W, hW⟩ : ∃ W, ((w.alloc (.cells (stC A vs.length c S).toArray 51)).alloc (.cells zeroSt.toArray 51)) = W := ⟨_, rfl⟩
 have hWs : W.heap.size = w.heap.size + 2 := by rw [← hW]; simp
 rw [hW] at hM
 have HM := hid hM
 have HWs := hid hWs
 have HEr := hid (hE.below hM.below)
 clear hr ha hb hM h hA hWs hE hk hres
 unfold stV stC at *
 go_enter Tryz.func35, Tryz.ntmps35
 go_wp2_with fail
 clear hW
 go_loopw [8, 9] (fun v8 v9 wr => ∃ (i : Nat) (xs : List OpX), i ≤ l.length ∧ v9 = .int .i64 (i : Int) ∧ Hid (OpRow W.heap.size wr v8 xs) ∧ Hid (xs.map OpX.o = (l.take i).map fun e => (⟨0, otJ n, ⟨#[]⟩, recJ e, 0, []⟩ : OpF)) ∧ Hid (∀ e ∈ l.take i, rightJ e) ∧ Hid (Below W.heap.size W wr)) (fun _ v9 _ => l.length - (intOf v9).toNat)
 case atStart => exact ⟨0, [], Nat.zero_le _, rfl, hid (OpRow.nil _ _), hid rfl, hid (fun e he => by simp at he), hid (Below.refl _ _)⟩
 case round =>
  obtain ⟨i, xs, hi, rfl, HOp, HXs, HRi, HB⟩ := hrel
  by_cases hlt : i < l.length
  ·have hil : (i : Int) < (l.length : Int) := by omega
   have hq : l[i]? = some l[i] := List.getElem?_eq_getElem hlt
   have HTk : Hid (l.take (i + 1) = l.take i ++ [l[i]]) := hid (List.take_succ_eq_append_getElem hlt)
   have HMe : Hid (l[i] ∈ l) := hid (List.getElem_mem hlt)
   have HXl : Hid (xs.length = i) := hid (by have := congrArg List.length HXs.out; rw [List.length_map, List.length_map, List.length_take] at this; omega)
   obtain ⟨g, o, rfl, _, hg, c0, c1, c2⟩ := en_at (HEr.out.below HB.out) hq
   have hwi : IntKind.i64.wrap ((i : Int) + 1) = (i : Int) + 1 := IntWalk.i64_in _ (by have := HKk.out; omega)
   clear hq
   by_cases hr : rightJ l[i]
   ·have HP := hid (rpack12_calls _ hr wr)
    have HRn : Hid (∀ e ∈ l.take (i + 1), rightJ e) := hid (fun e he => by
     rw [HTk.out] at he
     rcases List.mem_append.1 he with he | he
     ·exact HRi.out e he
     ·rw [List.mem_singleton.1 he]; exact hr)
    clear hr
    generalize l[i] = e at *
    obtain ⟨et, ed, ec⟩ := e
    simp only at c0 c1 c2
    generalize hrc : recJ ⟨et, ed, ec⟩ = rc at *
    have HRc := hid hrc
    clear hrc
    go_wp2_with fail
    refine HP.out.mono ?_
    rintro x w2 ⟨A2, u2, rfl, hown2, hb2⟩
    have hB2 := HB.out.trans (hb2.mono HB.out.size)
    have hO2 := HOp.out.below hb2
    obtain ⟨y, hy⟩ : ∃ y : OpX, y = ⟨⟨0, otJ n, ⟨#[]⟩, rc, 0, []⟩, A2, u2⟩ := ⟨_, rfl⟩
    have hq1 : w2.ownsRow W.heap.size 5 1 (.slice y.A y.o.b.length y.c) y.o.b.length (Lib.byteCells y.o.b) := by rw [hy]; exact own_less hown2 HB.out.size
    have hbx := BxA.new w2 76 (opxC y)
    have hbA := hB2.alloc hB2.size (.cells (opxC y).toArray 76)
    have hbN := (Below.refl _ w2).alloc (Nat.le_refl _) (.cells (opxC y).toArray 76)
    obtain ⟨v8', w8, hrun, hrow8, hb8⟩ := (hO2.below hbN).app w2.heap.size 1 [y] (fun j u hj => hbx.c j (by simpa using hj)) (fun x hx => by
     rw [List.mem_singleton.1 hx]
     exact own_below hq1 hbN) (by have := HXl.out; have := HKk.out; simp; omega) hbA.size
    have HRun := hid hrun
    have HO8 := hid hrow8
    have HB8 := hid (hbA.trans hb8)
    have HX8 : Hid ((xs ++ [y]).map OpX.o = (l.take (i + 1)).map fun e => (⟨0, otJ n, ⟨#[]⟩, recJ e, 0, []⟩ : OpF)) := hid (by rw [HTk.out, List.map_append, List.map_append, HXs.out, hy, ← HRc.out]; rfl)
    rw [hy] at HRun
    clear hown2 hb2 hB2 hO2 hq1 hbx hbA hbN hrun hrow8 hb8 HP c0 c1 c2 HOp HXs HTk HRi HB
    go_wp2_with (at_builtin; refine wpList_append_g (by rfl) (.tmp 32) (.tmp 37) 118 rfl _ _ rfl rfl HRun.out ?_)
    go_roundw
    case rel => exact ⟨i + 1, _, by omega, by go_num, HO8, HX8, HRn, HB8⟩
    case measure => simp [intOf]; omega
   ·have HP := hid (rpack12_not _ hr wr)
    have HF : Hid (res = (S, 120)) := hid (by
     rw [HRes.out]
     unfold compactJ
     rw [if_neg (fun h => hr (h _ HMe.out))])
    clear hr
    generalize l[i] = e at *
    obtain ⟨et, ed, ec⟩ := e
    simp only at c0 c1 c2
    go_wp2_with fail
    refine HP.out.mono ?_
    rintro x w2 ⟨rfl, hb2⟩
    have HM2 : Hid (MidO w w2 D w.heap.size (w.heap.size + 1) (w.heap.size + 2) S A c vs) := hid (HM.out.go (HB.out.trans (hb2.mono HB.out.size)))
    have x0 := (HM2.out).bs.c 0 rfl
    have x1 := (HM2.out).bs.c 1 rfl
    have x2 := (HM2.out).bs.c 2 rfl
    have x3 := (HM2.out).bs.c 3 rfl
    have x4 := (HM2.out).bs.c 4 rfl
    have x5 := (HM2.out).bs.c 5 rfl
    have e0 := (HM2.out).bs.free 0
    have e1 := (HM2.out).bs.free 1
    have e2 := (HM2.out).bs.free 2
    have e3 := (HM2.out).bs.free 3
    have e4 := (HM2.out).bs.free 4
    have e5 := (HM2.out).bs.free 5
    have z0 := (HM2.out).bz.c 0 rfl
    have z1 := (HM2.out).bz.c 1 rfl
    have z2 := (HM2.out).bz.c 2 rfl
    have z3 := (HM2.out).bz.c 3 rfl
    have z4 := (HM2.out).bz.c 4 rfl
    have z5 := (HM2.out).bz.c 5 rfl
    have f0 := (HM2.out).bz.free 0
    have f1 := (HM2.out).bz.free 1
    have f2 := (HM2.out).bz.free 2
    have f3 := (HM2.out).bz.free 3
    have f4 := (HM2.out).bz.free 4
    have f5 := (HM2.out).bz.free 5
    clear hb2 HP c0 c1 c2 HOp HXs HTk HRi HB
    go_wp2_with fail
    rw [HF.out]
    exact HM2.out.fin2 rfl _ rfl rfl S.down rfl
  ·obtain rfl : i = l.length := by omega
   rw [List.take_length] at HXs HRi
   have HXl : Hid (xs.length = l.length) := hid (by have := congrArg List.length HXs.out; rwa [List.length_map, List.length_map] at this)
   have HCo : Hid (res = if (packJ S n l).2 ≠ 0 ∧ (packJ S n l).2 ≠ 100 then ((clearJ (packJ S n l).1 n).1, (packJ S n l).2) else packJ S n l) := hid (by
    rw [HRes.out]
    unfold compactJ
    rw [if_pos HRi.out])
   have HBl := hid (opsJ_bytes n l HRi.out)
   clear HRes HRi
   go_upto_if 41 with fail
   go_cut [8] from 42 (fun s8 wc => ∃ xs2 : List OpX, Hid (OpRow W.heap.size wc s8 xs2) ∧ Hid (xs2.map OpX.o = (bodiesJ l).map fun x => (⟨0, otJ n, ⟨#[]⟩, x, 0, []⟩ : OpF)) ∧ Hid (Below W.heap.size W wc))
   case first =>
    by_cases h0 : l = []
    ·subst h0
     have hx0 : xs = [] := List.length_eq_zero_iff.1 HXl.out
     subst hx0
     obtain ⟨y, hy⟩ : ∃ y : OpX, y = ⟨⟨0, otJ n, ⟨#[]⟩, [], 0, []⟩, none, 0⟩ := ⟨_, rfl⟩
     have hbx := BxA.new wr 76 (opxC y)
     have hbA := HB.out.alloc HB.out.size (.cells (opxC y).toArray 76)
     have hbN := (Below.refl _ wr).alloc (Nat.le_refl _) (.cells (opxC y).toArray 76)
     obtain ⟨v8', w8, hrun, hrow8, hb8⟩ := (HOp.out.below hbN).app wr.heap.size 1 [y] (fun j u hj => hbx.c j (by simpa using hj)) (fun x hx => by
      rw [List.mem_singleton.1 hx, hy]
      exact World.ownsRow_nil _ _ _ _) (by simp) hbA.size
     have HRun := hid hrun
     have HO8 := hid hrow8
     have HB8 := hid (hbA.trans hb8)
     have HX8 : Hid (([] ++ [y]).map OpX.o = (bodiesJ []).map fun x => (⟨0, otJ n, ⟨#[]⟩, x, 0, []⟩ : OpF)) := hid (by rw [hy]; rfl)
     rw [hy] at HRun
     clear hbx hbA hbN hrun hrow8 hb8 HOp HXs HB
     go_wp2_with (at_builtin; refine wpList_append_g (by rfl) (.tmp 42) (.tmp 46) 118 rfl _ _ rfl rfl HRun.out ?_)
     go_meet
     exact ⟨_, HO8, HX8, HB8⟩
    ·have hlp : 0 < l.length := List.length_pos_iff.2 h0
     have q0 : ((l.length : Int) == 0) = false := beq_eq_false_iff_ne.2 (by omega)
     have HX8 : Hid (xs.map OpX.o = (bodiesJ l).map fun x => (⟨0, otJ n, ⟨#[]⟩, x, 0, []⟩ : OpF)) := hid (by
      rw [HXs.out]
      unfold bodiesJ
      rw [if_neg h0, List.map_map]
      rfl)
     clear hlp h0
     go_wp2_with fail
     go_meet
     exact ⟨_, HOp, HX8, HB⟩
   case rest =>
   obtain ⟨xs2, HOp2, HXs2, HB2⟩ := hcut
   clear HOp HXs HXl HB
   have HXl : Hid (xs2.length ≤ l.length + 1) := hid (by
    have := congrArg List.length HXs2.out
    rw [List.length_map, List.length_map, bodies_len] at this
    omega)
   obtain ⟨ys, hys⟩ : ∃ ys : List OpX, ys = [⟨⟨1, otJ n, ⟨#[]⟩, [], 0, []⟩, none, 0⟩, ⟨⟨2, otJ n, n, [], 0, []⟩, none, 0⟩] := ⟨_, rfl⟩
   have hbx := BxA.new wc 76 (ys.flatMap opxC)
   have hbA := HB2.out.alloc HB2.out.size (.cells (ys.flatMap opxC).toArray 76)
   have hbN := (Below.refl _ wc).alloc (Nat.le_refl _) (.cells (ys.flatMap opxC).toArray 76)
   have hyl : ys.length = 2 := by rw [hys]; rfl
   obtain ⟨v8', w8, hrun, hrow8, hb8⟩ := (HOp2.out.below hbN).app wc.heap.size 2 ys (fun j u hj => hbx.c j hj) (fun x hx => by
    rw [hys] at hx
    simp only [List.mem_cons, List.not_mem_nil, or_false] at hx
    rcases hx with rfl | rfl <;> exact World.ownsRow_nil _ _ _ _) (by have := HXl.out; have := HKk.out; rw [hyl]; omega) hbA.size
   have HX8 : Hid ((xs2 ++ ys).map OpX.o = opsJ n l) := hid (by rw [List.map_append, HXs2.out, hys]; rfl)
   rw [hys] at hrun
   simp only [List.flatMap_cons, List.flatMap_nil, List.append_nil, List.cons_append, List.nil_append, List.length_cons, List.length_nil, Nat.zero_add, Nat.reduceAdd] at hrun
   have HRun := hid hrun
   have HL3 : Hid ((xs2 ++ ys).length ≤ l.length + 3) := hid (by have := HXl.out; rw [List.length_append, hyl]; omega)
   have HO8 := hid hrow8
   have hB8 := hbA.trans hb8
   have HM8 : Hid (MidO w w8 D w.heap.size (w.heap.size + 1) (w.heap.size + 2) S A c vs) := hid (HM.out.go hB8)
   clear hbx hbA hbN hyl hrun hrow8 hb8 HOp2 HXs2 HB2 HXl hB8 hys HEr
   generalize xs2 ++ ys = xs3 at *
   have HAt2 := hid (fun i hi => compI_at HAt.out n l i hi)
   have HC0 := hid (compI_zero S n l)
   have HCall := hid (rclear12_calls w8 (ED D w (w.heap.size + 2)) _ S n (by omega) (HM8.out.st S.down rfl) (HAt.out.fit (by have := HKk.out; omega)))
   rw [← HC0.out] at HCall
   have x0 := (HM8.out).bs.c 0 rfl
   have x1 := (HM8.out).bs.c 1 rfl
   have x2 := (HM8.out).bs.c 2 rfl
   have x3 := (HM8.out).bs.c 3 rfl
   have x4 := (HM8.out).bs.c 4 rfl
   have x5 := (HM8.out).bs.c 5 rfl
   have e0 := (HM8.out).bs.free 0
   have e1 := (HM8.out).bs.free 1
   have e2 := (HM8.out).bs.free 2
   have e3 := (HM8.out).bs.free 3
   have e4 := (HM8.out).bs.free 4
   have e5 := (HM8.out).bs.free 5
   clear HC0 HM
   go_wp2_with (at_builtin; refine wpList_append_g (by rfl) (.tmp 48) (.tmp 56) 118 rfl _ _ rfl rfl HRun.out ?_)
   refine HCall.out.mono ?_
   rintro x w9 ⟨v9, rfl, hs9, hb9⟩
   obtain ⟨A9, c9, vs9, rfl, hr9, ha9⟩ := hs9
   have hM9 := HM8.out.put (c' := c9) hb9 hr9 ha9
   have hO9 := HO8.out.below hb9
   have ho9 := six_only w9 w.heap.size (.slice A9 vs9.length c9) (.int .i64 ((compI S n l 0).1.no : Int)) (.int .i64 ((compI S n l 0).1.ops : Int)) (.int .i64 (compI S n l 0).1.fuse) (.int .i64 (compI S n l 0).1.fault) (.bool (compI S n l 0).1.down)
   have HO9 := hid (hO9.only ho9 (fun k hk => by rw [hk]; have := HWs.out; omega))
   have HMa := hid (HM8.out.go hb9)
   obtain ⟨W9, hW9⟩ : ∃ W9, six w9 w.heap.size (.slice A9 vs9.length c9) (.int .i64 ((compI S n l 0).1.no : Int)) (.int .i64 ((compI S n l 0).1.ops : Int)) (.int .i64 (compI S n l 0).1.fuse) (.int .i64 (compI S n l 0).1.fault) (.bool (compI S n l 0).1.down) = W9 := ⟨_, rfl⟩
   rw [hW9] at hM9 HO9
   have HM9 := hid hM9
   obtain ⟨St, hSt⟩ : ∃ St, St = compI S n l 0 := ⟨_, rfl⟩
   rw [← hSt] at hW9 HM9 ⊢
   have HSt := hid hSt
   unfold six at hW9
   unfold stV
   have x0 := (HMa.out).bs.c 0 rfl
   have x1 := (HMa.out).bs.c 1 rfl
   have x2 := (HMa.out).bs.c 2 rfl
   have x3 := (HMa.out).bs.c 3 rfl
   have x4 := (HMa.out).bs.c 4 rfl
   have x5 := (HMa.out).bs.c 5 rfl
   have e0 := (HMa.out).bs.free 0
   have e1 := (HMa.out).bs.free 1
   have e2 := (HMa.out).bs.free 2
   have e3 := (HMa.out).bs.free 3
   have e4 := (HMa.out).bs.free 4
   have e5 := (HMa.out).bs.free 5
   clear hM9 hO9 ho9 hb9 hr9 ha9 hSt HM8 HO8 HCall HRun
   obtain ⟨OA, oc, rfl⟩ := HO9.out.form
   go_wp2_with fail
   clear hW9 x0 x1 x2 x3 x4 x5 e0 e1 e2 e3 e4 e5
   go_loopw [12, 13] (fun s12 s13 wr => ∃ (i : Nat) (A : Option Addr) (c : Nat) (vs : List FileV), i ≤ xs3.length ∧ s13 = .int .i64 (i : Int) ∧ s12 = .int .i64 (compI S n l i).2 ∧ Hid (MidO w wr D w.heap.size (w.heap.size + 1) (w.heap.size + 2) (compI S n l i).1 A c vs) ∧ Hid (OpRow W.heap.size wr (.slice OA xs3.length oc) xs3)) (fun _ s13 _ => xs3.length - (intOf s13).toNat)
   case atStart => exact ⟨0, A9, c9, vs9, Nat.zero_le _, rfl, by rw [HSt.out], by rw [← HSt.out]; exact HM9, HO9⟩
   case round =>
   clear HM9 HO9 HSt HMa
   obtain ⟨i, A, c, vs, hi2, rfl, rfl, HMi, HOi⟩ := hrel
   by_cases hlt2 : i < xs3.length
   ·have hil : (i : Int) < (xs3.length : Int) := by omega
    have hq : xs3[i]? = some xs3[i] := List.getElem?_eq_getElem hlt2
    by_cases hz : (compI S n l i).2 = 0
    ·have q0 : ((compI S n l i).2 == 0) = true := by rw [hz]; rfl
     obtain ⟨g, o, rfl, hg, hgm, hcs, hbytes⟩ := HOi.out.at_ hq
     have c0 := hcs 0 _ rfl
     have c1 := hcs 1 _ rfl
     have c2 := hcs 2 _ rfl
     have c3 := hcs 3 _ rfl
     have c4 := hcs 4 _ rfl
     have c5 := hcs 5 _ rfl
     rw [Nat.add_zero] at c0
     have hi2' := hi2
     have hmem : xs3[i].o ∈ opsJ n l := by rw [← HX8.out]; exact List.mem_map_of_mem (List.getElem_mem hlt2)
     have hoi : (opsJ n l)[i]? = some xs3[i].o := by rw [← HX8.out, List.getElem?_map, hq]; rfl
     obtain ⟨hk0, hk8, hks, -⟩ := opsJ_right n l _ hmem
     have hbl := HBl.out _ hmem
     have HSu := hid (compI_succ S n l hoi hz)
     have hiN : (i : Int) + 1 ≤ 1000000 := by have := HL3.out; have := HKk.out; omega
     have hwi : IntKind.i64.wrap ((i : Int) + 1) = (i : Int) + 1 := IntWalk.i64_in _ (by omega)
     have HIt : Hid (k + l.length + 4 ≤ 100000 ∧ i ≤ l.length + 3) := hid ⟨by have := HKk.out; omega, by have := HL3.out; omega⟩
     clear hoi hmem hiN
     generalize xs3[i] = y at *
     have HBn := hid (fr_nil hbytes)
     have hMd := HMi.out.go (Below.refl _ wr).drew
     have hbd := own_below hbytes (Below.refl _ wr).drew
     have HMd := hid hMd
     have HDo := hid (rdo10_calls wr.drew (ED D w (w.heap.size + 2)) _ _ y.o y.A y.c none 0 (hMd.st (compI S n l i).1.down rfl) ((HAt2.out i HIt.out.2).fit HIt.out.1) hk0 hk8 (byR_of_own hbd (fun g hg => Or.inr (by have := (hbd.lt g hg).1; rw [HWs.out] at this; exact this))) HBn.out hbl (fun h => absurd h (by rw [hks]; simp)) (by rw [hks]; simp))
     rw [opC_x y hks, ← HSu.out] at HDo
     have HOd := hid (HOi.out.below (Below.refl _ wr).drew)
     have HCs : Hid (∀ W2, Below wr.drew.heap.size wr.drew W2 → (W2.cell? ⟨w.heap.size, 0, none⟩ = some (.slice A vs.length c) ∧ W2.cell? ⟨w.heap.size, 1, none⟩ = some (.int .i64 ((compI S n l i).1.no : Int)) ∧ W2.cell? ⟨w.heap.size, 2, none⟩ = some (.int .i64 ((compI S n l i).1.ops : Int)) ∧ W2.cell? ⟨w.heap.size, 3, none⟩ = some (.int .i64 (compI S n l i).1.fuse) ∧ W2.cell? ⟨w.heap.size, 4, none⟩ = some (.int .i64 (compI S n l i).1.fault) ∧ W2.cell? ⟨w.heap.size, 5, none⟩ = some (.bool (compI S n l i).1.down)) ∧ (W2.cell? ⟨g, o + i * 6, none⟩ = some (.int .i64 y.o.k) ∧ W2.cell? ⟨g, o + i * 6 + 1, none⟩ = some (.string y.o.n) ∧ W2.cell? ⟨g, o + i * 6 + 2, none⟩ = some (.string y.o.t) ∧ W2.cell? ⟨g, o + i * 6 + 3, none⟩ = some (.slice y.A y.o.b.length y.c) ∧ W2.cell? ⟨g, o + i * 6 + 4, none⟩ = some (.int .i64 y.o.i) ∧ W2.cell? ⟨g, o + i * 6 + 5, none⟩ = some (.slice none 0 0))) := hid (fun W2 hb => by
      have hM2 := hMd.go hb
      obtain ⟨g', o', e', _, _, hc, _⟩ := (HOd.out.below hb).at_ hq
      injection e' with e'
      injection e' with e1 e2
      subst e1 e2
      exact ⟨⟨hM2.bs.c 0 rfl, hM2.bs.c 1 rfl, hM2.bs.c 2 rfl, hM2.bs.c 3 rfl, hM2.bs.c 4 rfl, hM2.bs.c 5 rfl⟩, hc 0 _ rfl, hc 1 _ rfl, hc 2 _ rfl, hc 3 _ rfl, hc 4 _ rfl, hc 5 _ rfl⟩)
     have x0 := (HMi.out).bs.c 0 rfl
     have x1 := (HMi.out).bs.c 1 rfl
     have x2 := (HMi.out).bs.c 2 rfl
     have x3 := (HMi.out).bs.c 3 rfl
     have x4 := (HMi.out).bs.c 4 rfl
     have x5 := (HMi.out).bs.c 5 rfl
     have e0 := (HMi.out).bs.free 0
     have e1 := (HMi.out).bs.free 1
     have e2 := (HMi.out).bs.free 2
     have e3 := (HMi.out).bs.free 3
     have e4 := (HMi.out).bs.free 4
     have e5 := (HMi.out).bs.free 5
     clear hq hMd hbd hbytes hcs hks hbl hk0 hk8 HMi HOi hz
     unfold opxC at HDo
     go_upto_region 16 with fail
     refine wp_region_later (S := fun w' => (w'.cell? ⟨w.heap.size, 0, none⟩ = some (.slice A vs.length c) ∧ w'.cell? ⟨w.heap.size, 1, none⟩ = some (.int .i64 ((compI S n l i).1.no : Int)) ∧ w'.cell? ⟨w.heap.size, 2, none⟩ = some (.int .i64 ((compI S n l i).1.ops : Int)) ∧ w'.cell? ⟨w.heap.size, 3, none⟩ = some (.int .i64 (compI S n l i).1.fuse) ∧ w'.cell? ⟨w.heap.size, 4, none⟩ = some (.int .i64 (compI S n l i).1.fault) ∧ w'.cell? ⟨w.heap.size, 5, none⟩ = some (.bool (compI S n l i).1.down)) ∧ (w'.cell? ⟨g, o + i * 6, none⟩ = some (.int .i64 y.o.k) ∧ w'.cell? ⟨g, o + i * 6 + 1, none⟩ = some (.string y.o.n) ∧ w'.cell? ⟨g, o + i * 6 + 2, none⟩ = some (.string y.o.t) ∧ w'.cell? ⟨g, o + i * 6 + 3, none⟩ = some (.slice y.A y.o.b.length y.c) ∧ w'.cell? ⟨g, o + i * 6 + 4, none⟩ = some (.int .i64 y.o.i) ∧ w'.cell? ⟨g, o + i * 6 + 5, none⟩ = some (.slice none 0 0))) 9 (by kernel_rfl) (HCs.out _ (Below.refl _ _)) (fun hHeld => ?_)
     refine tkB 0 ?_
     refine tkB 1 ?_
     refine tkB 2 ?_
     refine tkB 3 ?_
     refine tkB 4 ?_
     refine rdB 5 fun K hK => ?_
     go_simp
     refine HDo.out.mono ?_
     rintro x w9 ⟨v9, rfl, hs9, hb9⟩
     obtain ⟨A9, c9, vs9, rfl, hr9, ha9⟩ := hs9
     have hM9 := HMd.out.put (c' := c9) hb9 hr9 ha9
     have hO9 := HOd.out.below hb9
     have ho9 := six_only w9 w.heap.size (.slice A9 vs9.length c9) (.int .i64 ((compI S n l (i + 1)).1.no : Int)) (.int .i64 ((compI S n l (i + 1)).1.ops : Int)) (.int .i64 (compI S n l (i + 1)).1.fuse) (.int .i64 (compI S n l (i + 1)).1.fault) (.bool (compI S n l (i + 1)).1.down)
     have HO9 := hid (hO9.only ho9 (fun k hk => by rw [hk]; have := HWs.out; omega))
     have HMa := hid (HMd.out.go hb9)
     have q9 := HCs.out w9 hb9
     have x0 := (HMa.out).bs.c 0 rfl
     have x1 := (HMa.out).bs.c 1 rfl
     have x2 := (HMa.out).bs.c 2 rfl
     have x3 := (HMa.out).bs.c 3 rfl
     have x4 := (HMa.out).bs.c 4 rfl
     have x5 := (HMa.out).bs.c 5 rfl
     have e0 := (HMa.out).bs.free 0
     have e1 := (HMa.out).bs.free 1
     have e2 := (HMa.out).bs.free 2
     have e3 := (HMa.out).bs.free 3
     have e4 := (HMa.out).bs.free 4
     have e5 := (HMa.out).bs.free 5
     unfold stV
     clear hO9 ho9 hb9 hr9 ha9 HDo HCs
     refine hK.out _ _ q9 (fun hHeld => ?_)
     clear hK K
     refine tkB 6 ?_
     refine tkB 7 ?_
     obtain ⟨W9, hW9⟩ : ∃ W9, six w9 w.heap.size (.slice A9 vs9.length c9) (.int .i64 ((compI S n l (i + 1)).1.no : Int)) (.int .i64 ((compI S n l (i + 1)).1.ops : Int)) (.int .i64 (compI S n l (i + 1)).1.fuse) (.int .i64 (compI S n l (i + 1)).1.fault) (.bool (compI S n l (i + 1)).1.down) = W9 := ⟨_, rfl⟩
     rw [hW9] at hM9 HO9
     have HM9 := hid hM9
     unfold six at hW9
     clear hM9
     refine laterAny_ready (rs := [8, 9]) (by kernel_rfl) (by simp) ?_
     refine AllReadyB.cons (o := ⟨some 82, _, _, _, _, _⟩) rfl (fun K hK => ?_) (AllReadyB.past (o := ⟨none, _, _, _, _, _⟩) rfl (by kernel_rfl) (fun K hK => ?_) AllReadyB.nil)
     ·(rw [if_pos (by kernel_rfl)])
      go_simp
      refine hK.out _ _ q9 (fun hHeld => ?_)
      clear hK K
      refine psB 9 fun K hK => ?_
      go_simp
      refine hK.out _ _ ?_
      clear hK K
      refine psB 10 fun K hK => ?_
      go_simp
      refine hK.out _ _ ?_
      clear hK K
      refine laterAny_done (by kernel_rfl) ?_
      first | rw [hW9] | skip
      go_wp2_with fail
      go_roundw
      case rel => exact ⟨i + 1, A9, c9, vs9, by omega, by go_num, rfl, HM9, HO9⟩
      case measure => simp [intOf]; omega
     ·(rw [if_pos (by kernel_rfl)])
      go_simp
      refine hK.out _ _ ?_
      clear hK K
      refine psB 8 fun K hK => ?_
      go_simp
      refine hK.out _ _ ?_
      clear hK K
      refine psB 10 fun K hK => ?_
      go_simp
      refine hK.out _ _ ?_
      clear hK K
      refine laterAny_done (by kernel_rfl) ?_
      first | rw [hW9] | skip
      go_wp2_with fail
      go_roundw
      case rel => exact ⟨i + 1, A9, c9, vs9, by omega, by go_num, rfl, HM9, HO9⟩
      case measure => simp [intOf]; omega
    ·have hil : (i : Int) < (xs3.length : Int) := by omega
     have HTa := hid (HAt2.out i (by have := HL3.out; omega))
     have hE := compI_end S n l (i := i) (.inl hz)
     rw [hE] at HCo
     clear hE HAt2
     generalize compI S n l i = T at *
     obtain ⟨T, z⟩ := T
     simp only at HCo HTa HMi
     have HTf := hid (HTa.out.fit (by have := HKk.out; omega))
     have q0 : (z == 0) = false := beq_eq_false_iff_ne.2 hz
     by_cases h0 : z = 0
     ·exact absurd h0 hz
     ·have q2 : (z != 0) = true := bne_iff_ne.2 h0
      by_cases h1 : z = 100
      ·have q3 : (z != 100) = false := by rw [h1]; rfl
       have HF : Hid (res = (T, z)) := hid (by rw [HCo.out, if_neg (fun h => h.2 h1)])
       have x0 := (HMi.out).bs.c 0 rfl
       have x1 := (HMi.out).bs.c 1 rfl
       have x2 := (HMi.out).bs.c 2 rfl
       have x3 := (HMi.out).bs.c 3 rfl
       have x4 := (HMi.out).bs.c 4 rfl
       have x5 := (HMi.out).bs.c 5 rfl
       have e0 := (HMi.out).bs.free 0
       have e1 := (HMi.out).bs.free 1
       have e2 := (HMi.out).bs.free 2
       have e3 := (HMi.out).bs.free 3
       have e4 := (HMi.out).bs.free 4
       have e5 := (HMi.out).bs.free 5
       have z0 := (HMi.out).bz.c 0 rfl
       have z1 := (HMi.out).bz.c 1 rfl
       have z2 := (HMi.out).bz.c 2 rfl
       have z3 := (HMi.out).bz.c 3 rfl
       have z4 := (HMi.out).bz.c 4 rfl
       have z5 := (HMi.out).bz.c 5 rfl
       have f0 := (HMi.out).bz.free 0
       have f1 := (HMi.out).bz.free 1
       have f2 := (HMi.out).bz.free 2
       have f3 := (HMi.out).bz.free 3
       have f4 := (HMi.out).bz.free 4
       have f5 := (HMi.out).bz.free 5
       clear HCo h0 h1
       go_wp2_with fail
       rw [HF.out]
       exact HMi.out.fin2 rfl _ rfl rfl T.down rfl
      ·have q3 : (z != 100) = true := bne_iff_ne.2 h1
       have HF : Hid (res = ((clearJ T n).1, z)) := hid (by rw [HCo.out, if_pos ⟨h0, h1⟩])
       have HCall := hid (rclear12_calls wr (ED D w (w.heap.size + 2)) _ T n (by omega) (HMi.out.st T.down rfl) HTf.out)
       have x0 := (HMi.out).bs.c 0 rfl
       have x1 := (HMi.out).bs.c 1 rfl
       have x2 := (HMi.out).bs.c 2 rfl
       have x3 := (HMi.out).bs.c 3 rfl
       have x4 := (HMi.out).bs.c 4 rfl
       have x5 := (HMi.out).bs.c 5 rfl
       have e0 := (HMi.out).bs.free 0
       have e1 := (HMi.out).bs.free 1
       have e2 := (HMi.out).bs.free 2
       have e3 := (HMi.out).bs.free 3
       have e4 := (HMi.out).bs.free 4
       have e5 := (HMi.out).bs.free 5
       have z0 := (HMi.out).bz.c 0 rfl
       have z1 := (HMi.out).bz.c 1 rfl
       have z2 := (HMi.out).bz.c 2 rfl
       have z3 := (HMi.out).bz.c 3 rfl
       have z4 := (HMi.out).bz.c 4 rfl
       have z5 := (HMi.out).bz.c 5 rfl
       have f0 := (HMi.out).bz.free 0
       have f1 := (HMi.out).bz.free 1
       have f2 := (HMi.out).bz.free 2
       have f3 := (HMi.out).bz.free 3
       have f4 := (HMi.out).bz.free 4
       have f5 := (HMi.out).bz.free 5
       clear HCo h0 h1
       go_wp2_with fail
       refine HCall.out.mono ?_
       rintro x w9 ⟨v9, rfl, hs9, hb9⟩
       obtain ⟨A9, c9, vs9, rfl, hr9, ha9⟩ := hs9
       have hM9 := HMi.out.put (c' := c9) hb9 hr9 ha9
       have HMa := hid (HMi.out.go hb9)
       obtain ⟨W9, hW9⟩ : ∃ W9, six w9 w.heap.size (.slice A9 vs9.length c9) (.int .i64 ((clearJ T n).1.no : Int)) (.int .i64 ((clearJ T n).1.ops : Int)) (.int .i64 (clearJ T n).1.fuse) (.int .i64 (clearJ T n).1.fault) (.bool (clearJ T n).1.down) = W9 := ⟨_, rfl⟩
       rw [hW9] at hM9
       have HM9 := hid hM9
       unfold six at hW9
       unfold stV
       clear x0 x1 x2 x3 x4 x5 e0 e1 e2 e3 e4 e5 z0 z1 z2 z3 z4 z5 f0 f1 f2 f3 f4 f5
       have x0 := (HMa.out).bs.c 0 rfl
       have x1 := (HMa.out).bs.c 1 rfl
       have x2 := (HMa.out).bs.c 2 rfl
       have x3 := (HMa.out).bs.c 3 rfl
       have x4 := (HMa.out).bs.c 4 rfl
       have x5 := (HMa.out).bs.c 5 rfl
       have e0 := (HMa.out).bs.free 0
       have e1 := (HMa.out).bs.free 1
       have e2 := (HMa.out).bs.free 2
       have e3 := (HMa.out).bs.free 3
       have e4 := (HMa.out).bs.free 4
       have e5 := (HMa.out).bs.free 5
       clear hM9 hb9 hr9 ha9 HCall
       go_upto_region 19 with fail
       clear hW9 x0 x1 x2 x3 x4 x5 e0 e1 e2 e3 e4 e5
       have x0 := (HM9.out).bs.c 0 rfl
       have x1 := (HM9.out).bs.c 1 rfl
       have x2 := (HM9.out).bs.c 2 rfl
       have x3 := (HM9.out).bs.c 3 rfl
       have x4 := (HM9.out).bs.c 4 rfl
       have x5 := (HM9.out).bs.c 5 rfl
       have e0 := (HM9.out).bs.free 0
       have e1 := (HM9.out).bs.free 1
       have e2 := (HM9.out).bs.free 2
       have e3 := (HM9.out).bs.free 3
       have e4 := (HM9.out).bs.free 4
       have e5 := (HM9.out).bs.free 5
       have z0 := (HM9.out).bz.c 0 rfl
       have z1 := (HM9.out).bz.c 1 rfl
       have z2 := (HM9.out).bz.c 2 rfl
       have z3 := (HM9.out).bz.c 3 rfl
       have z4 := (HM9.out).bz.c 4 rfl
       have z5 := (HM9.out).bz.c 5 rfl
       have f0 := (HM9.out).bz.free 0
       have f1 := (HM9.out).bz.free 1
       have f2 := (HM9.out).bz.free 2
       have f3 := (HM9.out).bz.free 3
       have f4 := (HM9.out).bz.free 4
       have f5 := (HM9.out).bz.free 5
       go_wp2_with fail
       rw [HF.out]
       exact HM9.out.fin2 rfl _ rfl rfl (clearJ T n).1.down rfl
   ·have hil : ¬ (i : Int) < (xs3.length : Int) := by omega
    have HTa := hid (HAt2.out i (by have := HL3.out; omega))
    have hE := compI_end S n l (i := i) (.inr (by rw [show i = xs3.length by omega, ← HX8.out, List.length_map]))
    rw [hE] at HCo
    clear hE HAt2
    generalize compI S n l i = T at *
    obtain ⟨T, z⟩ := T
    simp only at HCo HTa HMi
    have HTf := hid (HTa.out.fit (by have := HKk.out; omega))
    by_cases h0 : z = 0
    ·subst h0
     have HF : Hid (res = (T, 0)) := hid (by rw [HCo.out, if_neg (fun h => h.1 rfl)])
     have x0 := (HMi.out).bs.c 0 rfl
     have x1 := (HMi.out).bs.c 1 rfl
     have x2 := (HMi.out).bs.c 2 rfl
     have x3 := (HMi.out).bs.c 3 rfl
     have x4 := (HMi.out).bs.c 4 rfl
     have x5 := (HMi.out).bs.c 5 rfl
     have e0 := (HMi.out).bs.free 0
     have e1 := (HMi.out).bs.free 1
     have e2 := (HMi.out).bs.free 2
     have e3 := (HMi.out).bs.free 3
     have e4 := (HMi.out).bs.free 4
     have e5 := (HMi.out).bs.free 5
     have z0 := (HMi.out).bz.c 0 rfl
     have z1 := (HMi.out).bz.c 1 rfl
     have z2 := (HMi.out).bz.c 2 rfl
     have z3 := (HMi.out).bz.c 3 rfl
     have z4 := (HMi.out).bz.c 4 rfl
     have z5 := (HMi.out).bz.c 5 rfl
     have f0 := (HMi.out).bz.free 0
     have f1 := (HMi.out).bz.free 1
     have f2 := (HMi.out).bz.free 2
     have f3 := (HMi.out).bz.free 3
     have f4 := (HMi.out).bz.free 4
     have f5 := (HMi.out).bz.free 5
     clear HCo
     go_wp2_with fail
     rw [HF.out]
     exact HMi.out.fin2 rfl _ rfl rfl T.down rfl
    ·have q2 : (z != 0) = true := bne_iff_ne.2 h0
     by_cases h1 : z = 100
     ·have q3 : (z != 100) = false := by rw [h1]; rfl
      have HF : Hid (res = (T, z)) := hid (by rw [HCo.out, if_neg (fun h => h.2 h1)])
      have x0 := (HMi.out).bs.c 0 rfl
      have x1 := (HMi.out).bs.c 1 rfl
      have x2 := (HMi.out).bs.c 2 rfl
      have x3 := (HMi.out).bs.c 3 rfl
      have x4 := (HMi.out).bs.c 4 rfl
      have x5 := (HMi.out).bs.c 5 rfl
      have e0 := (HMi.out).bs.free 0
      have e1 := (HMi.out).bs.free 1
      have e2 := (HMi.out).bs.free 2
      have e3 := (HMi.out).bs.free 3
      have e4 := (HMi.out).bs.free 4
      have e5 := (HMi.out).bs.free 5
      have z0 := (HMi.out).bz.c 0 rfl
      have z1 := (HMi.out).bz.c 1 rfl
      have z2 := (HMi.out).bz.c 2 rfl
      have z3 := (HMi.out).bz.c 3 rfl
      have z4 := (HMi.out).bz.c 4 rfl
      have z5 := (HMi.out).bz.c 5 rfl
      have f0 := (HMi.out).bz.free 0
      have f1 := (HMi.out).bz.free 1
      have f2 := (HMi.out).bz.free 2
      have f3 := (HMi.out).bz.free 3
      have f4 := (HMi.out).bz.free 4
      have f5 := (HMi.out).bz.free 5
      clear HCo h0 h1
      go_wp2_with fail
      rw [HF.out]
      exact HMi.out.fin2 rfl _ rfl rfl T.down rfl
     ·have q3 : (z != 100) = true := bne_iff_ne.2 h1
      have HF : Hid (res = ((clearJ T n).1, z)) := hid (by rw [HCo.out, if_pos ⟨h0, h1⟩])
      have HCall := hid (rclear12_calls wr (ED D w (w.heap.size + 2)) _ T n (by omega) (HMi.out.st T.down rfl) HTf.out)
      have x0 := (HMi.out).bs.c 0 rfl
      have x1 := (HMi.out).bs.c 1 rfl
      have x2 := (HMi.out).bs.c 2 rfl
      have x3 := (HMi.out).bs.c 3 rfl
      have x4 := (HMi.out).bs.c 4 rfl
      have x5 := (HMi.out).bs.c 5 rfl
      have e0 := (HMi.out).bs.free 0
      have e1 := (HMi.out).bs.free 1
      have e2 := (HMi.out).bs.free 2
      have e3 := (HMi.out).bs.free 3
      have e4 := (HMi.out).bs.free 4
      have e5 := (HMi.out).bs.free 5
      have z0 := (HMi.out).bz.c 0 rfl
      have z1 := (HMi.out).bz.c 1 rfl
      have z2 := (HMi.out).bz.c 2 rfl
      have z3 := (HMi.out).bz.c 3 rfl
      have z4 := (HMi.out).bz.c 4 rfl
      have z5 := (HMi.out).bz.c 5 rfl
      have f0 := (HMi.out).bz.free 0
      have f1 := (HMi.out).bz.free 1
      have f2 := (HMi.out).bz.free 2
      have f3 := (HMi.out).bz.free 3
      have f4 := (HMi.out).bz.free 4
      have f5 := (HMi.out).bz.free 5
      clear HCo h0 h1
      go_wp2_with fail
      refine HCall.out.mono ?_
      rintro x w9 ⟨v9, rfl, hs9, hb9⟩
      obtain ⟨A9, c9, vs9, rfl, hr9, ha9⟩ := hs9
      have hM9 := HMi.out.put (c' := c9) hb9 hr9 ha9
      have HMa := hid (HMi.out.go hb9)
      obtain ⟨W9, hW9⟩ : ∃ W9, six w9 w.heap.size (.slice A9 vs9.length c9) (.int .i64 ((clearJ T n).1.no : Int)) (.int .i64 ((clearJ T n).1.ops : Int)) (.int .i64 (clearJ T n).1.fuse) (.int .i64 (clearJ T n).1.fault) (.bool (clearJ T n).1.down) = W9 := ⟨_, rfl⟩
      rw [hW9] at hM9
      have HM9 := hid hM9
      unfold six at hW9
      unfold stV
      clear x0 x1 x2 x3 x4 x5 e0 e1 e2 e3 e4 e5 z0 z1 z2 z3 z4 z5 f0 f1 f2 f3 f4 f5
      have x0 := (HMa.out).bs.c 0 rfl
      have x1 := (HMa.out).bs.c 1 rfl
      have x2 := (HMa.out).bs.c 2 rfl
      have x3 := (HMa.out).bs.c 3 rfl
      have x4 := (HMa.out).bs.c 4 rfl
      have x5 := (HMa.out).bs.c 5 rfl
      have e0 := (HMa.out).bs.free 0
      have e1 := (HMa.out).bs.free 1
      have e2 := (HMa.out).bs.free 2
      have e3 := (HMa.out).bs.free 3
      have e4 := (HMa.out).bs.free 4
      have e5 := (HMa.out).bs.free 5
      clear hM9 hb9 hr9 ha9 HCall
      go_upto_region 19 with fail
      clear hW9 x0 x1 x2 x3 x4 x5 e0 e1 e2 e3 e4 e5
      have x0 := (HM9.out).bs.c 0 rfl
      have x1 := (HM9.out).bs.c 1 rfl
      have x2 := (HM9.out).bs.c 2 rfl
      have x3 := (HM9.out).bs.c 3 rfl
      have x4 := (HM9.out).bs.c 4 rfl
      have x5 := (HM9.out).bs.c 5 rfl
      have e0 := (HM9.out).bs.free 0
      have e1 := (HM9.out).bs.free 1
      have e2 := (HM9.out).bs.free 2
      have e3 := (HM9.out).bs.free 3
      have e4 := (HM9.out).bs.free 4
      have e5 := (HM9.out).bs.free 5
      have z0 := (HM9.out).bz.c 0 rfl
      have z1 := (HM9.out).bz.c 1 rfl
      have z2 := (HM9.out).bz.c 2 rfl
      have z3 := (HM9.out).bz.c 3 rfl
      have z4 := (HM9.out).bz.c 4 rfl
      have z5 := (HM9.out).bz.c 5 rfl
      have f0 := (HM9.out).bz.free 0
      have f1 := (HM9.out).bz.free 1
      have f2 := (HM9.out).bz.free 2
      have f3 := (HM9.out).bz.free 3
      have f4 := (HM9.out).bz.free 4
      have f5 := (HM9.out).bz.free 5
      go_wp2_with fail
      rw [HF.out]
      exact HM9.out.fin2 rfl _ rfl rfl (clearJ T n).1.down rfl
end
end Go.Proofs.YteafcaambnfdoaaGreatDoor
