/-
  Layer 7 and what it stands on, part 43 (RJAppend RJMid RJOpen).
-/
import Derived.Test.YteafcaambnfdoaaGreatDoorPq34
import Derived.Test.YteafcaambnfdoaaGreatDoorPq42
namespace Go.Proofs.YteafcaambnfdoaaGreatDoor
section
open Go Go.RowKit
open Go.Lib (hid)
set_option maxRecDepth 100000
theorem own_at {w : World} {base : Nat} {e : TypeId} {size : Nat} {A : Option Addr} {n c : Nat} {k : Nat} {xs : List Value} (h : w.ownsRow base e size (.slice A n c) k xs) : ∀ g, (Value.slice A n c).ownBlock = some g → base ≤ g := fun g hg => (h.lt g hg).1
end
section
open Go Go.RowKit
set_option maxRecDepth 100000
theorem results_st3 {P : Program} {fn : Func} {p q r : Tmp} {ty : TypeId} {fs : Array Field} (h : fn.results = #[.cell p ty, .tmp q, .tmp r]) (tmps : Array Value) (w : World) (g : Nat) (v0 v1 v2 v3 v4 v5 v v' : Value) (t : TypeId)
  (hp : tmps.getD p undef = .pointer (some ⟨g, 0, none⟩)) (hq : tmps.getD q undef = v) (hr : tmps.getD r undef = v') (hb : BxA w g t [v0, v1, v2, v3, v4, v5]) (hu : P.underlying ty = some (.struct fs)) (hsz : (sizeOf ty).run P w = .ok 6 w) : (results fn tmps).run P w = .ok (.tuple #[.agg #[v0, v1, v2, v3, v4, v5], v, v']) w := by
 have hp' : tmps[p]?.getD undef = .pointer (some ⟨g, 0, none⟩) := by simpa using hp
 have hq' : tmps[q]?.getD undef = v := by simpa using hq
 have hr' : tmps[r]?.getD undef = v' := by simpa using hr
 have c0 := hb.c 0 rfl
 have c1 := hb.c 1 rfl
 have c2 := hb.c 2 rfl
 have c3 := hb.c 3 rfl
 have c4 := hb.c 4 rfl
 have c5 := hb.c 5 rfl
 simp [results, h, hp', hq', hr', asAddr, loadVar, isAgg, Sem.run_bind, run_underlying hu, hsz, loadCells, loadCellsFrom, Addr.add, c0, c1, c2, c3, c4, c5, go_sem]
abbrev ED (D : Nat → Prop) (w : World) (m : Nat) (k : Nat) : Prop := (D k ∧ k < w.heap.size) ∨ m ≤ k
structure MidO (w y : World) (D : Nat → Prop) (b0 b1 m : Nat) (S : FS) (A : Option Addr) (c : Nat) (vs : List FileV) : Prop where
 below : Below w.heap.size w y
 bs : BxA y b0 51 (stC A vs.length c S)
 bz : BxA y b1 51 zeroSt
 row : RowT fileC y (ED D w m) A vs
 all : All2 (FileR y (ED D w m)) vs S.l
 sz : m ≤ y.heap.size
 b0w : w.heap.size ≤ b0
 b1w : w.heap.size ≤ b1
 b0m : b0 < m
 b1m : b1 < m
 ne : b0 ≠ b1
theorem MidO.go {w y y' : World} {D : Nat → Prop} {b0 b1 m : Nat} {S : FS} {A : Option Addr} {c : Nat} {vs : List FileV} (h : MidO w y D b0 b1 m S A c vs) (hb : Below y.heap.size y y') : MidO w y' D b0 b1 m S A c vs :=
 ⟨h.below.trans (hb.mono h.below.size), h.bs.below hb, h.bz.below hb, h.row.below hb, all2_imp (fun _ _ h => FileR.below h hb) h.all, Nat.le_trans h.sz hb.size, h.b0w, h.b1w, h.b0m, h.b1m, h.ne⟩
theorem MidO.st {w y : World} {D : Nat → Prop} {b0 b1 m : Nat} {S : FS} {A : Option Addr} {c : Nat} {vs : List FileV} (h : MidO w y D b0 b1 m S A c vs) (d : Bool) (hd : d = S.down) : StAt y (ED D w m) (.agg #[.slice A vs.length c, .int .i64 (S.no : Int), .int .i64 (S.ops : Int), .int .i64 S.fuse, .int .i64 S.fault, .bool d]) S := by
 subst hd
 exact ⟨A, c, vs, rfl, h.row, h.all⟩
theorem MidO.put {w y y' : World} {D : Nat → Prop} {b0 b1 m : Nat} {S S' : FS} {A A' : Option Addr} {c c' : Nat} {vs vs' : List FileV} (h : MidO w y D b0 b1 m S A c vs) (hb : Below y.heap.size y y') (hr : RowT fileC y' (DW (ED D w m) y) A' vs') (ha : All2 (FileR y' (DW (ED D w m) y)) vs' S'.l) :
  MidO w (six y' b0 (.slice A' vs'.length c') (.int .i64 (S'.no : Int)) (.int .i64 (S'.ops : Int)) (.int .i64 S'.fuse) (.int .i64 S'.fault) (.bool S'.down)) D b0 b1 m S' A' c' vs' := by
 have ho := six_only y' b0 (.slice A' vs'.length c') (.int .i64 (S'.no : Int)) (.int .i64 (S'.ops : Int)) (.int .i64 S'.fuse) (.int .i64 S'.fault) (.bool S'.down)
 have hB := h.below.trans (hb.mono h.below.size)
 have hm : ∀ k, DW (ED D w m) y k → ED D w m k := fun k hk => hk.elim id (fun hk => .inr (Nat.le_trans h.sz hk))
 have hn : ∀ k, ED D w m k → ¬ k = b0 := fun k hk e => by
  have h1 := h.b0w; have h2 := h.b0m
  rcases hk with hk | hk
  ·have := hk.2; omega
  ·omega
 refine ⟨hB.trans (ho.below hB.size fun k e => by rw [e]; exact h.b0w), six_box (h.bs.below hb) _ _ _ _ _ _, (h.bz.below hb).keep ho (fun e => h.ne e.symm), (hr.mono hm).keep ho hn, all2_imp (fun _ _ h => (h.mono hm).keep ho hn) ha, Nat.le_trans h.sz (Nat.le_trans hb.size ho.size), h.b0w, h.b1w, h.b0m, h.b1m, h.ne⟩
theorem MidO.fin {w y : World} {D : Nat → Prop} {b0 b1 m : Nat} {S : FS} {A : Option Addr} {c : Nat} {vs : List FileV} (h : MidO w y D b0 b1 m S A c vs) {f : Func} {p q r : Tmp} (hf : f.results = #[.cell p 51, .tmp q, .tmp r]) (tmps : Array Value) {l : List EnJ} {LA : Option Addr} {lc : Nat} {z : Int}
  (ht : tmps.getD p undef = .pointer (some ⟨b1, 0, none⟩)) (hq : tmps.getD q undef = .slice LA l.length lc) (hz : tmps.getD r undef = .int .i64 z) (hrow : RowT enC y (fun k => m ≤ k) LA l) (hnil : LA = none → lc = 0) (d : Bool) (hd : d = S.down) :
  bodyPost Tryz.prog f (fun x w' => ∃ v' A' c', x = .returned (.tuple #[v', .slice A' l.length c', .int .i64 z]) ∧ StAt w' (DW D w) v' S ∧ RowT enC w' (fun k => w.heap.size ≤ k) A' l ∧ (A' = none → c' = 0) ∧ Below w.heap.size w w') Exit.ret { tmps := tmps, defers := [] }
   (six y b1 (.slice A vs.length c) (.int .i64 (S.no : Int)) (.int .i64 (S.ops : Int)) (.int .i64 S.fuse) (.int .i64 S.fault) (.bool d)) := by
 subst hd
 have ho := six_only y b1 (.slice A vs.length c) (.int .i64 (S.no : Int)) (.int .i64 (S.ops : Int)) (.int .i64 S.fuse) (.int .i64 S.fault) (.bool S.down)
 have h1 := h.b1w
 have h2 := h.b1m
 have hn : ∀ k, ED D w m k → ¬ k = b1 := fun k hk e => by
  rcases hk with hk | hk
  ·have := hk.2; omega
  ·omega
 have hm : ∀ k, ED D w m k → DW D w k := fun k hk => hk.elim (fun hk => .inl hk.1) (fun hk => .inr (by omega))
 refine bodyPost_ret (results_st3 hf _ _ b1 _ _ _ _ _ _ _ _ 51 ht hq hz (six_box h.bz _ _ _ _ _ _) Tryz.underlying51 (sizeState10 _)) rfl ?_
 exact ⟨_, LA, lc, rfl, ⟨A, c, vs, rfl, (h.row.keep ho hn).mono hm, all2_imp (fun _ _ h => (h.keep ho hn).mono hm) h.all⟩, (hrow.keep ho (fun k hk e => by omega)).mono (fun k hk => by omega), hnil, h.below.trans (ho.below h.below.size fun k e => by rw [e]; exact h1)⟩
end
section
open Go Go.RowKit
open Go.Lib (hid)
set_option maxRecDepth 100000
theorem clear_at {k : Nat} {S : FS} (h : S.At k) (n : ByteArray) : (clearJ S n).1.At (k + 1) := by
 unfold clearJ
 split
 ·exact h.does ⟨3, otJ n, ⟨#[]⟩, [], 0, []⟩ (by show (0 : Int) ≤ _; decide)
 ·exact h.mono (Nat.le_succ k)
set_option maxHeartbeats 8000000 in
theorem ropen12_calls (w : World) (D : Nat → Prop) (v : Value) (S : FS) (n : ByteArray) (k : Nat) (hn : n.size ≤ 137438953472) (h : StAt w D v S) (hA : S.At k) (hk : k + 10 ≤ 100000) :
  Calls Tryz.prog 69 #[v, .string n] w fun x w' => ∃ v' A' c', x = .returned (.tuple #[v', .slice A' (openJ S n).2.1.length c', .int .i64 (openJ S n).2.2]) ∧ StAt w' (DW D w) v' (openJ S n).1 ∧ RowT enC w' (fun k => w.heap.size ≤ k) A' (openJ S n).2.1 ∧ (A' = none → c' = 0) ∧ Below w.heap.size w w' := by
 have hcap := h.cap
 obtain ⟨A, c, vs, rfl, hr, ha⟩ := hcap
 have hb := ((Below.refl _ w).alloc (Nat.le_refl _) (.cells (stC A vs.length c S).toArray 51)).alloc (by simp) (.cells zeroSt.toArray 51)
 have hM : MidO w ((w.alloc (.cells (stC A vs.length c S).toArray 51)).alloc (.cells zeroSt.toArray 51)) D w.heap.size (w.heap.size + 1) (w.heap.size + 2) S A c vs :=
  ⟨hb, (BxA.new w 51 (stC A vs.length c S)).alloc (.cells zeroSt.toArray 51), bx_new2 w (.cells (stC A vs.length c S).toArray 51) 51 zeroSt, (hr.below hb).mono (fun _ h => .inl h), all2_imp (fun _ _ h => (FileR.below h hb).mono (fun _ h => .inl h)) ha, by simp, Nat.le_refl _, Nat.le_succ _, by omega, by omega, by omega⟩
 have HAt := hid hA
 have HO : Hid (openJ S n = if S.down = true then (S, [], 100) else if n.size < 1 ∨ 16 < n.size then (S, [], 101) else if (clearJ S n).2 ≠ 0 then ((clearJ S n).1, [], (clearJ S n).2) else
  if ((clearJ S n).1.read n).2 ≠ 0 then ((clearJ S n).1, [], 0) else
  if (entriesJ ((clearJ S n).1.read n).1).2 < ((clearJ S n).1.read n).1.length then
   if ((clearJ S n).1.cut n (entriesJ ((clearJ S n).1.read n).1).2).2 ≠ 0 then (((clearJ S n).1.cut n (entriesJ ((clearJ S n).1.read n).1).2).1, [], ((clearJ S n).1.cut n (entriesJ ((clearJ S n).1.read n).1).2).2)
   else (((clearJ S n).1.cut n (entriesJ ((clearJ S n).1.read n).1).2).1, (entriesJ ((clearJ S n).1.read n).1).1, 0)
  else ((clearJ S n).1, (entriesJ ((clearJ S n).1.read n).1).1, 0)) := hid rfl
 have HCAt := hid (clear_at hA n)
 have HLen := hid (read_len HCAt.out.ok n)
 have HCall := hid (fun y hs => rclear12_calls y (ED D w (w.heap.size + 2)) (.agg #[.slice A vs.length c, .int .i64 (S.no : Int), .int .i64 (S.ops : Int), .int .i64 S.fuse, .int .i64 S.fault, .bool S.down]) S n hn hs (hA.fit (by omega)))
 obtain ⟨W, hW⟩ : ∃ W, ((w.alloc (.cells (stC A vs.length c S).toArray 51)).alloc (.cells zeroSt.toArray 51)) = W := ⟨_, rfl⟩
 rw [hW] at hM
 have HM := hid hM
 have x0 := (hM).bs.c 0 rfl
 have x1 := (hM).bs.c 1 rfl
 have x2 := (hM).bs.c 2 rfl
 have x3 := (hM).bs.c 3 rfl
 have x4 := (hM).bs.c 4 rfl
 have x5 := (hM).bs.c 5 rfl
 have e0 := (hM).bs.free 0
 have e1 := (hM).bs.free 1
 have e2 := (hM).bs.free 2
 have e3 := (hM).bs.free 3
 have e4 := (hM).bs.free 4
 have e5 := (hM).bs.free 5
 have z0 := (hM).bz.c 0 rfl
 have z1 := (hM).bz.c 1 rfl
 have z2 := (hM).bz.c 2 rfl
 have z3 := (hM).bz.c 3 rfl
 have z4 := (hM).bz.c 4 rfl
 have z5 := (hM).bz.c 5 rfl
 have f0 := (hM).bz.free 0
 have f1 := (hM).bz.free 1
 have f2 := (hM).bz.free 2
 have f3 := (hM).bz.free 3
 have f4 := (hM).bz.free 4
 have f5 := (hM).bz.free 5
 clear hr ha hb hM h hA hn
 unfold stV stC at *
 go_enter Tryz.func69, Tryz.ntmps69
 generalize hdn : S.down = dn at *
 cases dn with
 | true =>
  rw [if_pos rfl] at HO
  go_wp2_with fail
  rw [HO.out]
  exact HM.out.fin (l := []) rfl _ rfl rfl rfl (fun hn => absurd hn (Nat.lt_irrefl 0)) (fun _ => rfl) true hdn.symm
 | false =>
  rw [if_neg (by decide)] at HO
  by_cases h1 : n.size < 1
  ·have q1 : decide ((n.size : Int) < 1) = true := decide_eq_true (by omega)
   rw [if_pos (.inl h1)] at HO
   go_wp2_with fail
   rw [HO.out]
   exact HM.out.fin (l := []) rfl _ rfl rfl rfl (fun hn => absurd hn (Nat.lt_irrefl 0)) (fun _ => rfl) false hdn.symm
  have q1 : decide ((n.size : Int) < 1) = false := decide_eq_false (by omega)
  by_cases h2 : 16 < n.size
  ·have q2 : decide ((16 : Int) < (n.size : Int)) = true := decide_eq_true (by omega)
   rw [if_pos (.inr h2)] at HO
   go_wp2_with fail
   rw [HO.out]
   exact HM.out.fin (l := []) rfl _ rfl rfl rfl (fun hn => absurd hn (Nat.lt_irrefl 0)) (fun _ => rfl) false hdn.symm
  have q2 : decide ((16 : Int) < (n.size : Int)) = false := decide_eq_false (by omega)
  rw [if_neg (by omega)] at HO
  generalize clearJ S n = q at *
  obtain ⟨C, ec⟩ := q
  simp only at HO HCAt HLen HCall
  clear e0 e1 e2 e3 e4 e5 z0 z1 z2 z3 z4 z5 f0 f1 f2 f3 f4 f5
  go_wp2_with fail
  refine (HCall.out _ (HM.out.st false hdn.symm)).mono ?_
  rintro x w1 ⟨v1, rfl, hs1, hb1⟩
  obtain ⟨A1, c1, vs1, rfl, hr1, ha1⟩ := hs1
  have HMa := hid (HM.out.go hb1)
  have hM1 := HM.out.put (c' := c1) hb1 hr1 ha1
  obtain ⟨W1, hW1⟩ : ∃ W1, six w1 w.heap.size (.slice A1 vs1.length c1) (.int .i64 (C.no : Int)) (.int .i64 (C.ops : Int)) (.int .i64 C.fuse) (.int .i64 C.fault) (.bool C.down) = W1 := ⟨_, rfl⟩
  rw [hW1] at hM1
  have HM1 := hid hM1
  unfold six at hW1
  unfold stV
  clear x0 x1 x2 x3 x4 x5 hM1 hb1 hr1 ha1 HM HCall hW
  have x0 := (HMa.out).bs.c 0 rfl
  have x1 := (HMa.out).bs.c 1 rfl
  have x2 := (HMa.out).bs.c 2 rfl
  have x3 := (HMa.out).bs.c 3 rfl
  have x4 := (HMa.out).bs.c 4 rfl
  have x5 := (HMa.out).bs.c 5 rfl
  have e0 := (HMa.out).bs.free 0
  have e1 := (HMa.out).bs.free 1
  have e2 := (HMa.out).bs.free 2
  have e3 := (HMa.out).bs.free 3
  have e4 := (HMa.out).bs.free 4
  have e5 := (HMa.out).bs.free 5
  have y0 := (HM1.out).bs.c 0 rfl
  have y1 := (HM1.out).bs.c 1 rfl
  have y2 := (HM1.out).bs.c 2 rfl
  have y3 := (HM1.out).bs.c 3 rfl
  have y4 := (HM1.out).bs.c 4 rfl
  have y5 := (HM1.out).bs.c 5 rfl
  have z0 := (HM1.out).bz.c 0 rfl
  have z1 := (HM1.out).bz.c 1 rfl
  have z2 := (HM1.out).bz.c 2 rfl
  have z3 := (HM1.out).bz.c 3 rfl
  have z4 := (HM1.out).bz.c 4 rfl
  have z5 := (HM1.out).bz.c 5 rfl
  have f0 := (HM1.out).bz.free 0
  have f1 := (HM1.out).bz.free 1
  have f2 := (HM1.out).bz.free 2
  have f3 := (HM1.out).bz.free 3
  have f4 := (HM1.out).bz.free 4
  have f5 := (HM1.out).bz.free 5
  by_cases he : ec = 0
  ·subst he
   rw [if_neg (fun h => h rfl)] at HO
   clear z0 z1 z2 z3 z4 z5 f0 f1 f2 f3 f4 f5
   have HRead := hid (rread10_calls W1 (ED D w (w.heap.size + 2)) _ C n (HM1.out.st C.down rfl) (HCAt.out.fit (by omega)))
   generalize C.read n = rd at *
   obtain ⟨b, er⟩ := rd
   simp only at HO HLen
   go_wp2_with fail
   refine HRead.out.mono ?_
   rintro x w2 ⟨u, rfl, hown2, hb2⟩
   obtain ⟨BA, bc, rfl⟩ := own_form hown2
   have HBy := hid (byt_of_own hown2)
   have HM2 := hid (HM1.out.go hb2)
   clear x0 x1 x2 x3 x4 x5 e0 e1 e2 e3 e4 e5 y0 y1 y2 y3 y4 y5 hown2 hb2 HRead hW1
   have x0 := (HM2.out).bs.c 0 rfl
   have x1 := (HM2.out).bs.c 1 rfl
   have x2 := (HM2.out).bs.c 2 rfl
   have x3 := (HM2.out).bs.c 3 rfl
   have x4 := (HM2.out).bs.c 4 rfl
   have x5 := (HM2.out).bs.c 5 rfl
   have z0 := (HM2.out).bz.c 0 rfl
   have z1 := (HM2.out).bz.c 1 rfl
   have z2 := (HM2.out).bz.c 2 rfl
   have z3 := (HM2.out).bz.c 3 rfl
   have z4 := (HM2.out).bz.c 4 rfl
   have z5 := (HM2.out).bz.c 5 rfl
   have f0 := (HM2.out).bz.free 0
   have f1 := (HM2.out).bz.free 1
   have f2 := (HM2.out).bz.free 2
   have f3 := (HM2.out).bz.free 3
   have f4 := (HM2.out).bz.free 4
   have f5 := (HM2.out).bz.free 5
   by_cases hr : er = 0
   ·subst hr
    rw [if_neg (fun h => h rfl)] at HO
    have hbl := HLen.out
    have hz2 := HM2.out.sz
    have HEn := hid (rentries12_calls BA bc b w2 HBy.out.1 HBy.out.2.2.1 (by omega))
    have HLe := hid (entries_is b).2.2.2
    generalize entriesJ b = en at *
    obtain ⟨l, good⟩ := en
    simp only at HO HEn HLe
    clear z0 z1 z2 z3 z4 z5 f0 f1 f2 f3 f4 f5
    go_wp2_with fail
    refine HEn.out.mono ?_
    rintro x w3 ⟨LA, lc, rfl, hown3, hb3⟩
    have HM3 := hid (HM2.out.go hb3)
    have HRow : Hid (RowT enC w3 (fun k => w.heap.size + 2 ≤ k) LA l) := hid (rowT_of_own hown3 (fun g hg => Nat.le_trans hz2 (own_at hown3 g hg)))
    have HNil := hid (own_none hown3)
    clear x0 x1 x2 x3 x4 x5 hown3 hb3 HEn hz2
    have x0 := (HM3.out).bs.c 0 rfl
    have x1 := (HM3.out).bs.c 1 rfl
    have x2 := (HM3.out).bs.c 2 rfl
    have x3 := (HM3.out).bs.c 3 rfl
    have x4 := (HM3.out).bs.c 4 rfl
    have x5 := (HM3.out).bs.c 5 rfl
    have z0 := (HM3.out).bz.c 0 rfl
    have z1 := (HM3.out).bz.c 1 rfl
    have z2 := (HM3.out).bz.c 2 rfl
    have z3 := (HM3.out).bz.c 3 rfl
    have z4 := (HM3.out).bz.c 4 rfl
    have z5 := (HM3.out).bz.c 5 rfl
    have f0 := (HM3.out).bz.free 0
    have f1 := (HM3.out).bz.free 1
    have f2 := (HM3.out).bz.free 2
    have f3 := (HM3.out).bz.free 3
    have f4 := (HM3.out).bz.free 4
    have f5 := (HM3.out).bz.free 5
    by_cases hg : good < b.length
    ·have q3 : decide ((good : Int) < (b.length : Int)) = true := decide_eq_true (by omega)
     rw [if_pos hg] at HO
     clear z0 z1 z2 z3 z4 z5 f0 f1 f2 f3 f4 f5
     rw [show C.cut n (good : Int) = doF C ⟨4, n, ⟨#[]⟩, [], (good : Int), []⟩ from rfl] at HO
     go_wp2_with fail
     refine (rdo10_calls w3 (ED D w (w.heap.size + 2)) _ C ⟨4, n, ⟨#[]⟩, [], (good : Int), []⟩ none 0 none 0 (HM3.out.st C.down rfl) (HCAt.out.fit (by omega)) (show (0 : Int) ≤ 4 by decide) (show (4 : Int) ≤ 8 by decide) (fun hn => absurd hn (Nat.lt_irrefl 0)) (fun _ => rfl) (by simp) (fun hn => absurd hn (Nat.lt_irrefl 0)) (by simp)).mono ?_
     rintro x w4 ⟨v4, rfl, hs4, hb4⟩
     generalize doF C ⟨4, n, ⟨#[]⟩, [], (good : Int), []⟩ = dq at *
     obtain ⟨C4, er4⟩ := dq
     simp only at HO hs4
     obtain ⟨A4, c4, vs4, rfl, hr4, ha4⟩ := hs4
     have HMb := hid (HM3.out.go hb4)
     have hM5 := HM3.out.put (c' := c4) hb4 hr4 ha4
     have ho5 := six_only w4 w.heap.size (.slice A4 vs4.length c4) (.int .i64 (C4.no : Int)) (.int .i64 (C4.ops : Int)) (.int .i64 C4.fuse) (.int .i64 C4.fault) (.bool C4.down)
     have hrow5 := (HRow.out.below hb4).keep ho5 (fun k hk e => by omega)
     obtain ⟨W5, hW5⟩ : ∃ W5, six w4 w.heap.size (.slice A4 vs4.length c4) (.int .i64 (C4.no : Int)) (.int .i64 (C4.ops : Int)) (.int .i64 C4.fuse) (.int .i64 C4.fault) (.bool C4.down) = W5 := ⟨_, rfl⟩
     rw [hW5] at hM5 hrow5
     have HM5 := hid hM5
     have HRow5 := hid hrow5
     unfold six at hW5
     unfold stV
     clear x0 x1 x2 x3 x4 x5 hM5 hrow5 ho5 hb4 hr4 ha4
     have x0 := (HMb.out).bs.c 0 rfl
     have x1 := (HMb.out).bs.c 1 rfl
     have x2 := (HMb.out).bs.c 2 rfl
     have x3 := (HMb.out).bs.c 3 rfl
     have x4 := (HMb.out).bs.c 4 rfl
     have x5 := (HMb.out).bs.c 5 rfl
     have e0 := (HMb.out).bs.free 0
     have e1 := (HMb.out).bs.free 1
     have e2 := (HMb.out).bs.free 2
     have e3 := (HMb.out).bs.free 3
     have e4 := (HMb.out).bs.free 4
     have e5 := (HMb.out).bs.free 5
     have y0 := (HM5.out).bs.c 0 rfl
     have y1 := (HM5.out).bs.c 1 rfl
     have y2 := (HM5.out).bs.c 2 rfl
     have y3 := (HM5.out).bs.c 3 rfl
     have y4 := (HM5.out).bs.c 4 rfl
     have y5 := (HM5.out).bs.c 5 rfl
     have z0 := (HM5.out).bz.c 0 rfl
     have z1 := (HM5.out).bz.c 1 rfl
     have z2 := (HM5.out).bz.c 2 rfl
     have z3 := (HM5.out).bz.c 3 rfl
     have z4 := (HM5.out).bz.c 4 rfl
     have z5 := (HM5.out).bz.c 5 rfl
     have f0 := (HM5.out).bz.free 0
     have f1 := (HM5.out).bz.free 1
     have f2 := (HM5.out).bz.free 2
     have f3 := (HM5.out).bz.free 3
     have f4 := (HM5.out).bz.free 4
     have f5 := (HM5.out).bz.free 5
     by_cases he4 : er4 = 0
     ·subst he4
      rw [if_neg (fun h => h rfl)] at HO
      go_wp2_with fail
      rw [HO.out]
      exact HM5.out.fin (l := l) rfl _ rfl rfl rfl HRow5.out HNil.out C4.down rfl
     ·have t1 : (er4 == 0) = false := beq_eq_false_iff_ne.2 he4
      have t2 : (er4 != 0) = true := by simpa using he4
      rw [if_pos he4] at HO
      go_wp2_with fail
      rw [HO.out]
      exact HM5.out.fin (l := []) rfl _ rfl rfl rfl (fun hn => absurd hn (Nat.lt_irrefl 0)) (fun _ => rfl) C4.down rfl
    ·have q3 : decide ((good : Int) < (b.length : Int)) = false := decide_eq_false (by omega)
     rw [if_neg hg] at HO
     go_wp2_with fail
     rw [HO.out]
     exact HM3.out.fin (l := l) rfl _ rfl rfl rfl HRow.out HNil.out C.down rfl
   ·have t1 : (er == 0) = false := beq_eq_false_iff_ne.2 hr
    have t2 : (er != 0) = true := by simpa using hr
    rw [if_pos hr] at HO
    go_wp2_with fail
    rw [HO.out]
    exact HM2.out.fin (l := []) rfl _ rfl rfl rfl (fun hn => absurd hn (Nat.lt_irrefl 0)) (fun _ => rfl) C.down rfl
  ·have t1 : (ec == 0) = false := beq_eq_false_iff_ne.2 he
   have t2 : (ec != 0) = true := by simpa using he
   rw [if_pos he] at HO
   go_wp2_with fail
   rw [HO.out]
   exact HM1.out.fin (l := []) rfl _ rfl rfl rfl (fun hn => absurd hn (Nat.lt_irrefl 0)) (fun _ => rfl) C.down rfl
end
end Go.Proofs.YteafcaambnfdoaaGreatDoor
