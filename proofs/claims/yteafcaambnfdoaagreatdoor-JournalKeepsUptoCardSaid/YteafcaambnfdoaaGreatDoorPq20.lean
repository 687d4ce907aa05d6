/-
  Layer 7 and what it stands on, part 20 (FWith0 FCrash0 FWith FWriteB FCrash).
-/
import Derived.Test.YteafcaambnfdoaaGreatDoorPq19
import Derived.Laws.Cover1
import Derived.Deep.QuietTactic
import Derived.BigQuiet
namespace Go.Proofs.YteafcaambnfdoaaGreatDoor
section
open Go Go.RowKit
set_option maxRecDepth 100000
def dropV (l : List FileV) (n : ByteArray) : List FileV := l.filter fun v => decide (v.name ≠ n)
theorem dropV_step {l : List FileV} {k : Nat} {q : FileV} (n : ByteArray) (hq : l[k]? = some q) : dropV (l.take (k + 1)) n = if q.name = n then dropV (l.take k) n else dropV (l.take k) n ++ [q] := by
 rw [List.take_add_one, hq]
 unfold dropV
 rw [List.filter_append]
 by_cases h : q.name = n
 ·rw [if_pos h]; simp [h]
 ·rw [if_neg h]; simp [h]
theorem dropV_len (l : List FileV) (n : ByteArray) : (dropV l n).length ≤ l.length := List.length_filter_le _ _
theorem dropV_rel {w : World} {D : Nat → Prop} {vs : List FileV} {l : List FileF} (n : ByteArray) (h : All2 (FileR w D) vs l) : All2 (FileR w D) (dropV vs n) (withoutF l n) :=
 all2_filter (fun a b hr => by rw [hr.name]) h
def insV (x : FileV) : List FileV → List FileV
 | [] => [x]
 | q :: r => if gtB q.name x.name then x :: q :: r else q :: insV x r
theorem insV_now {p q : FileV} : ∀ {l : List FileV}, (∀ x ∈ l, gtB x.name p.name = false) → gtB q.name p.name = true → insV p (l ++ [q]) = l ++ [p] ++ [q]
 | [], _, hq => by
  show (if gtB q.name p.name = true then p :: q :: [] else q :: insV p []) = _
  rw [if_pos hq]; rfl
 | x :: r, h, hq => by
  show (if gtB x.name p.name = true then p :: x :: (r ++ [q]) else x :: insV p (r ++ [q])) = _
  rw [h x List.mem_cons_self, if_neg (by simp), insV_now (fun y hy => h y (List.mem_cons_of_mem _ hy)) hq]
  rfl
theorem insV_none {p : FileV} : ∀ {l : List FileV}, (∀ q ∈ l, gtB q.name p.name = false) → insV p l = l ++ [p]
 | [], _ => rfl
 | q :: r, h => by
  unfold insV
  rw [h q List.mem_cons_self, if_neg (by simp), insV_none (fun x hx => h x (List.mem_cons_of_mem _ hx))]
  rfl
theorem insV_length (p : FileV) : ∀ l : List FileV, (insV p l).length = l.length + 1
 | [] => rfl
 | q :: r => by
  unfold insV
  split
  ·rfl
  ·rw [List.length_cons, insV_length p r, List.length_cons]
theorem insV_any {p q : FileV} : ∀ {l : List FileV}, (l.any fun x => gtB x.name p.name) = true → insV p (l ++ [q]) = insV p l ++ [q]
 | [], h => by cases h
 | x :: r, h => by
  show (if gtB x.name p.name = true then p :: x :: (r ++ [q]) else x :: insV p (r ++ [q])) = (if gtB x.name p.name = true then p :: x :: r else x :: insV p r) ++ [q]
  by_cases hx : gtB x.name p.name = true
  ·rw [if_pos hx, if_pos hx]; rfl
  ·rw [if_neg hx, if_neg hx]
   have hr : (r.any fun x => gtB x.name p.name) = true := by
    rw [List.any_cons] at h
    simpa [hx] using h
   rw [insV_any hr]
   rfl
def insVK (p : FileV) (l : List FileV) (k : Nat) : List FileV := if ((l.take k).any fun x => gtB x.name p.name) = true then insV p (l.take k) else l.take k
theorem insVK_step {p q : FileV} {l : List FileV} {k : Nat} (hq : l[k]? = some q) :
  insVK p l (k + 1) = (if ((l.take k).any fun x => gtB x.name p.name) = false ∧ gtB q.name p.name = true then insVK p l k ++ [p] ++ [q] else insVK p l k ++ [q]) ∧
   ((l.take (k + 1)).any fun x => gtB x.name p.name) = (((l.take k).any fun x => gtB x.name p.name) || gtB q.name p.name) := by
 have ht : l.take (k + 1) = l.take k ++ [q] := by rw [List.take_add_one, hq]; rfl
 have ha : ((l.take (k + 1)).any fun x => gtB x.name p.name) = (((l.take k).any fun x => gtB x.name p.name) || gtB q.name p.name) := by rw [ht, List.any_append]; simp
 refine ⟨?_, ha⟩
 unfold insVK
 rw [ha, ht]
 cases h1 : ((l.take k).any fun x => gtB x.name p.name) with
 | true => simp [insV_any h1]
 | false =>
  have hn : ∀ x ∈ l.take k, gtB x.name p.name = false := fun x hx => by
   cases hh : gtB x.name p.name with
   | false => rfl
   | true => rw [List.any_eq_true.2 ⟨x, hx, hh⟩] at h1; cases h1
  cases h2 : gtB q.name p.name with
  | true => simp [insV_now hn h2]
  | false => simp
theorem insVK_end (p : FileV) (l : List FileV) : (if (l.any fun x => gtB x.name p.name) = true then insVK p l l.length else insVK p l l.length ++ [p]) = insV p l := by
 unfold insVK
 rw [List.take_length]
 cases h1 : (l.any fun x => gtB x.name p.name) with
 | true => simp
 | false =>
  have hn : ∀ x ∈ l, gtB x.name p.name = false := fun x hx => by
   cases hh : gtB x.name p.name with
   | false => rfl
   | true => rw [List.any_eq_true.2 ⟨x, hx, hh⟩] at h1; cases h1
  simp [insV_none hn]
theorem insVK_length (p : FileV) (l : List FileV) (k : Nat) : (insVK p l k).length ≤ l.length + 1 := by
 unfold insVK
 split
 ·rw [insV_length, List.length_take]; omega
 ·rw [List.length_take]; omega
theorem insV_rel {w : World} {D : Nat → Prop} {x : FileV} {y : FileF} (hx : FileR w D x y) : ∀ {vs : List FileV} {l : List FileF}, All2 (FileR w D) vs l → All2 (FileR w D) (insV x vs) (insF y l)
 | _, _, .nil => .cons hx .nil
 | _, _, .cons (a := a) (b := b) h1 h2 => by
  unfold insV insF
  rw [h1.name, hx.name]
  split
  ·exact .cons hx (.cons h1 h2)
  ·exact .cons h1 (insV_rel hx h2)
theorem withV_rel {w : World} {D : Nat → Prop} {vs : List FileV} {l : List FileF} {x : FileV} {y : FileF} (hx : FileR w D x y) (h : All2 (FileR w D) vs (withoutF l y.name)) : All2 (FileR w D) (insV x vs) (withF l y) := insV_rel hx h
theorem bx_new3 (w : World) (o o2 : Obj) (t : TypeId) (vs : List Value) : BxA (((w.alloc o).alloc o2).alloc (.cells vs.toArray t)) (w.heap.size + 2) t vs := by
 have := BxA.new ((w.alloc o).alloc o2) t vs
 rwa [World.size_alloc, World.size_alloc] at this
end
section
open Go Go.RowKit
set_option maxRecDepth 100000
abbrev boolC (b : Bool) : List Value := [.bool b]
theorem bool_at {w : World} {D : Nat → Prop} {A : Option Addr} {l : List Bool} (h : RowT boolC w D A l) {i : Nat} (hi : i < l.length) : ∃ g o, A = some ⟨g, o, none⟩ ∧ g < w.heap.size ∧ w.cell? ⟨g, o + i, none⟩ = some (.bool (l.getD i false)) := by
 obtain ⟨g, o, e, _, hg, hc⟩ := h (by omega)
 refine ⟨g, o, e, hg, ?_⟩
 have := hc (i * 1 + 0) _ (flat_get (C := boolC) (k := 1) (fun _ => rfl) (List.getElem?_eq_getElem hi) (j := 0) rfl)
 rw [Nat.mul_one, Nat.add_zero] at this
 rw [this, List.getD_eq_getElem?_getD, List.getElem?_eq_getElem hi]
 rfl
def crJ (q : PartF → Bool) (f : FileF) (j : Nat) : List UInt8 := ((f.row.take j).filter q).foldl overL f.b
theorem crJ_s {q : PartF → Bool} {f : FileF} {j : Nat} {p : PartF} (hp : f.row[j]? = some p) : crJ q f (j + 1) = if q p then overL (crJ q f j) p else crJ q f j := by
 unfold crJ
 rw [List.take_add_one, hp, Option.toList_some, List.filter_append, List.foldl_append]
 by_cases h : q p = true
 ·rw [if_pos h, List.filter_cons_of_pos h]; rfl
 ·rw [if_neg h, List.filter_cons_of_neg h]; rfl
theorem crJ_len {q : PartF → Bool} {f : FileF} {j : Nat} {p : PartF} (hb : Behind f.b.length f.row) (hp : f.row[j]? = some p) : (crJ q f j).length ≤ p.at_ := by
 have h1 := (foldl_kept q (f.row.take j) f.b.length f.b (behind_take _ _ j hb) (Nat.le_refl _)).2
 rw [behind_at f.row _ j p hb hp]
 exact h1
end
section
open Go Go.RowKit
open Go.Lib (hid)
set_option maxRecDepth 100000
theorem fin10 {W : World} {g r : Nat} {D D' : Nat → Prop} {w : World} {f : Func} {A A0 : Option Addr} {c n0 c0 : Nat} {vs : List FileV} {S : FS} {t : TypeId} {z0 z1 z2 z3 z4 z5 : Value} {p : Tmp}
  (hB : Below w.heap.size w W) (hg : w.heap.size ≤ g) (hrb : w.heap.size ≤ r) (hgr : g ≠ r) (hD : ∀ k, D k → k ≠ g ∧ k ≠ r) (hDD : ∀ k, D k → D' k) (hbx : BxA W g t (stC A0 n0 c0 S)) (hbr : BxA W r t [z0, z1, z2, z3, z4, z5]) (hrow : RowT fileC W D A vs) (hall : All2 (FileR W D) vs S.l)
  (hf : f.results = #[.cell p 51]) (tmps : Array Value) (ht : tmps.getD p undef = .pointer (some ⟨r, 0, none⟩)) :
  bodyPost Tryz.prog f (fun e w' => ∃ v', e = .returned v' ∧ StAt w' D' v' S ∧ Below w.heap.size w w') Exit.ret { tmps := tmps, defers := [] }
   (six (W.setCell ⟨g, 0, none⟩ (.slice A vs.length c)) r (.slice A vs.length c) (.int .i64 (S.no : Int)) (.int .i64 (S.ops : Int)) (.int .i64 S.fuse) (.int .i64 S.fault) (.bool S.down)) := by
 have ho : Only (fun k => k = g ∨ k = r) W (six (W.setCell ⟨g, 0, none⟩ (.slice A vs.length c)) r (.slice A vs.length c) (.int .i64 (S.no : Int)) (.int .i64 (S.ops : Int)) (.int .i64 S.fuse) (.int .i64 S.fault) (.bool S.down)) :=
  ((Only.refl _ W).set (R := fun k => k = g ∨ k = r) (p := ⟨g, 0, none⟩) (.inl (.inl rfl)) _).trans (six_only _ r _ _ _ _ _ _) (fun i (e : i = r) => .inl (.inr e))
 refine bodyPost_ret (results_st hf _ _ r _ _ _ _ _ _ t ht (six_box (hbr.other (Ne.symm hgr) _) _ _ _ _ _ _) Tryz.underlying51 (sizeState10 _)) rfl ?_
 have hd : ∀ i, D i → ¬ (i = g ∨ i = r) := fun i hi e => e.elim (hD i hi).1 (hD i hi).2
 exact ⟨_, rfl, ⟨A, c, vs, rfl, (hrow.keep ho hd).mono hDD, all2_imp (fun _ _ h => (h.keep ho hd).mono hDD) hall⟩, hB.trans (ho.below hB.size fun k e => by rcases e with rfl | rfl <;> assumption)⟩
set_option maxHeartbeats 4000000 in
theorem rwithout10_calls (w : World) (D : Nat → Prop) (v : Value) (S : FS) (n : ByteArray) (h : StAt w D v S) (hl : S.l.length ≤ 1000) :
  Calls Tryz.prog 106 #[v, .string n] w fun e w' => ∃ v', e = .returned v' ∧ StAt w' (DW D w) v' { S with l := withoutF S.l n } ∧ Below w.heap.size w w' := by
 obtain ⟨A, c, vs, rfl, hr, ha⟩ := h.cap
 obtain ⟨i1, hi1, hy0, hy1, hy2⟩ := info_parts infoFile
 have HLen := hid (all2_len ha)
 have hvl : vs.length ≤ 1000 := by have := HLen.out; omega
 have hb := ((Below.refl _ w).alloc (Nat.le_refl _) (.cells (stC A vs.length c S).toArray 51)).alloc (by simp) (.cells #[.slice none 0 0, .int .i64 0, .int .i64 0, .int .i64 0, .int .i64 0, .bool false] 51)
 have hx := (BxA.new w 51 (stC A vs.length c S)).alloc (.cells #[.slice none 0 0, .int .i64 0, .int .i64 0, .int .i64 0, .int .i64 0, .bool false] 51)
 have hz := bx_new2 w (.cells (stC A vs.length c S).toArray 51) 51 [.slice none 0 0, .int .i64 0, .int .i64 0, .int .i64 0, .int .i64 0, .bool false]
 have H := hid (hr.below hb)
 have HA := hid (all2_imp (fun _ _ h => FileR.below h hb) ha)
 have HB := hid hb
 have HX := hid hx
 have HZ := hid hz
 clear hr ha hb hx hz hl
 unfold stV
 go_enter Tryz.func106, Tryz.ntmps106
 obtain ⟨W, hW⟩ : ∃ W, (w.alloc (.cells (stC A vs.length c S).toArray 51)).alloc (.cells #[.slice none 0 0, .int .i64 0, .int .i64 0, .int .i64 0, .int .i64 0, .bool false] 51) = W := ⟨_, rfl⟩
 rw [hW] at H HB HX HZ HA
 have HWs : Hid (W.heap.size = w.heap.size + 1 + 1) := hid (by rw [← hW]; simp)
 go_wp2_with fail
 clear hW
 go_loopw [5, 6] (fun v5 v6 wr => ∃ k : Nat, k ≤ vs.length ∧ v6 = .int .i64 (k : Int) ∧ wr.ownsRow W.heap.size 130 3 v5 (dropV (vs.take k) n).length ((dropV (vs.take k) n).flatMap fileC) ∧ Below W.heap.size W wr) (fun _ v6 _ => vs.length - (intOf v6).toNat)
 case atStart => exact ⟨0, Nat.zero_le _, rfl, World.ownsRow_nil _ _ _ _, Below.refl _ _⟩
 case round =>
  obtain ⟨k, hk, rfl, hown, hbel⟩ := hrel
  have x0 := (HX.out.below hbel).c 0 rfl
  have hsz := hbel.size
  by_cases hlt : k < vs.length
  ·obtain ⟨g, o, q, rfl, hg, hq, c0, c1, c2⟩ := file_at (H.out.below hbel) hlt
   have HDr := hid (dropV_step n hq)
   have hkl : (k : Int) < (vs.length : Int) := by omega
   have Hlen : Hid ((dropV (vs.take k) n).length ≤ k) := hid (by have := dropV_len (vs.take k) n; rw [List.length_take] at this; omega)
   have HBl := hid hbel
   have HO := hid hown
   clear hq hbel hown
   by_cases hn : q.name = n
   ·have t1 : (q.name.toList == n.toList) = true := by rw [tl_beq]; exact decide_eq_true hn
    have HO2 : Hid (wr.ownsRow W.heap.size 130 3 u5 (dropV (vs.take (k + 1)) n).length ((dropV (vs.take (k + 1)) n).flatMap fileC)) := hid (by rw [HDr.out, if_pos hn]; exact HO.out)
    clear HDr hn HO Hlen c1 c2
    go_wp2_with fail
    go_roundw
    case rel => exact ⟨k + 1, by omega, by go_num, HO2.out, HBl.out⟩
    case measure => simp [intOf]; omega
   ·have t1 : (q.name.toList == n.toList) = false := by rw [tl_beq]; exact decide_eq_false hn
    have HD2 : Hid (dropV (vs.take (k + 1)) n = dropV (vs.take k) n ++ [q]) := hid (by rw [HDr.out, if_neg hn])
    clear HDr hn
    generalize dropV (vs.take k) n = acc at *
    go_wp2_with (at_builtin; refine wpList_append_own _ rfl _ _ 49 rfl W.heap.size 130 i1 _ 3 64 Tryz.underlying49 hi1 hy0 hy1 hy2 rfl (by decide) _ _ _ rfl (HO.out.alloc _) ⟨wr.heap.size, 0, none⟩ 1 1 (fileC q) rfl rfl ?d1 ?d2 ?d3 ?d4 ?d5 ?_)
    case d1 => exact row_cells (C := fileC) wr q _ _ rfl
    case d2 => exact fileC_one q
    case d3 => have := Hlen.out; unfold maxLen; omega
    case d4 => have := Hlen.out; omega
    case d5 => have := Hlen.out; simp; omega
    intro v' w5 hown5 hgrow _
    have Hown5 := hid hown5
    have hb5 : Below W.heap.size W w5 := (HBl.out.alloc hsz _).grown hgrow (by simp; omega) (fun k hk => (HO.out.lt k hk).1)
    have HB5 := hid hb5
    clear hown5 hgrow hb5
    go_wp2_with fail
    go_roundw
    case rel => exact ⟨k + 1, by omega, by go_num, by rw [HD2.out, List.length_append, List.flatMap_append]; simpa using Hown5.out, HB5.out⟩
    case measure => simp [intOf]; omega
  ·obtain rfl : k = vs.length := by omega
   rw [List.take_length] at hown
   obtain ⟨A2, c2, rfl⟩ := own_form hown
   have hWs := HWs.out
   have hx := HX.out.below hbel
   have hz := HZ.out.below hbel
   have hrow : RowT fileC wr (fun k => (D k ∧ k < w.heap.size) ∨ w.heap.size + 2 ≤ k) A2 (dropV vs n) := rowT_of_own hown (fun g hg => .inr (by have := (hown.lt g hg).1; omega))
   have hall : All2 (FileR wr (fun k => (D k ∧ k < w.heap.size) ∨ w.heap.size + 2 ≤ k)) (dropV vs n) (withoutF S.l n) := all2_imp (fun _ _ h => (FileR.below h hbel).mono (fun _ hi => .inl hi)) (dropV_rel n HA.out)
   have Fin := hid (fin10 (f := Tryz.f106) (D := fun k => (D k ∧ k < w.heap.size) ∨ w.heap.size + 2 ≤ k) (c := c2) (S := { S with l := withoutF S.l n }) (HB.out.trans (hbel.mono HB.out.size)) (Nat.le_refl _) (Nat.le_succ _) (by omega) (fun k hk => (show (D k ∧ k < w.heap.size) ∨ w.heap.size + 2 ≤ k from hk).elim (fun hk => by omega) (fun hk => by omega)) (D' := DW D w) (fun k hk => hk.elim (fun h => .inl h.1) (fun h => .inr (by omega))) (A0 := A) (n0 := vs.length) (c0 := c) hx hz hrow hall rfl)
   have x1 := hx.c 1 rfl
   have x2 := hx.c 2 rfl
   have x3 := hx.c 3 rfl
   have x4 := hx.c 4 rfl
   have x5 := hx.c 5 rfl
   have f0 := hx.free 0
   have hgl : w.heap.size < wr.heap.size := by omega
   have hgl1 : w.heap.size + 1 < wr.heap.size := by omega
   have q0 := hz.c 0 rfl
   have q1 := hz.c 1 rfl
   have q2 := hz.c 2 rfl
   have q3 := hz.c 3 rfl
   have q4 := hz.c 4 rfl
   have q5 := hz.c 5 rfl
   have g0 := hz.free 0
   have g1 := hz.free 1
   have g2 := hz.free 2
   have g3 := hz.free 3
   have g4 := hz.free 4
   have g5 := hz.free 5
   clear hWs hown hbel hrow hall hx hz H HA HB HX HZ HLen
   go_wp2_with fail
   exact Fin.out _ rfl
set_option maxHeartbeats 8000000 in
theorem rwith10_calls (w : World) (D : Nat → Prop) (v : Value) (S : FS) (p : FileV) (f : FileF) (h : StAt w D v S) (hp : FileR w D p f) (hl : S.l.length ≤ 900) :
  Calls Tryz.prog 105 #[v, .agg #[.string p.name, .slice p.A p.n p.c, .slice p.R p.rn p.rc]] w fun e w' => ∃ v', e = .returned v' ∧ StAt w' (DW D w) v' { S with l := withF S.l f } ∧ Below w.heap.size w w' := by
 obtain ⟨i1, hi1, hy0, hy1, hy2⟩ := info_parts infoFile
 have hcap := h.cap
 have hpc := hp.cap
 obtain ⟨A, c, vs, rfl, hr, ha⟩ := hcap
 have hb := (((Below.refl _ w).alloc (Nat.le_refl _) (.cells (stC A vs.length c S).toArray 51)).alloc (by simp) (.cells (fileC p).toArray 130)).alloc (by simp; omega) (.cells #[.slice none 0 0, .int .i64 0, .int .i64 0, .int .i64 0, .int .i64 0, .bool false] 51)
 have hx := ((BxA.new w 51 (stC A vs.length c S)).alloc (.cells (fileC p).toArray 130)).alloc (.cells #[.slice none 0 0, .int .i64 0, .int .i64 0, .int .i64 0, .int .i64 0, .bool false] 51)
 have hy := (bx_new2 w (.cells (stC A vs.length c S).toArray 51) 130 (fileC p)).alloc (.cells #[.slice none 0 0, .int .i64 0, .int .i64 0, .int .i64 0, .int .i64 0, .bool false] 51)
 have hz := bx_new3 w (.cells (stC A vs.length c S).toArray 51) (.cells (fileC p).toArray 130) 51 [.slice none 0 0, .int .i64 0, .int .i64 0, .int .i64 0, .int .i64 0, .bool false]
 have hst : StAt ((((w.alloc (.cells (stC A vs.length c S).toArray 51)).alloc (.cells (fileC p).toArray 130)).alloc (.cells #[.slice none 0 0, .int .i64 0, .int .i64 0, .int .i64 0, .int .i64 0, .bool false] 51))) (fun k => D k ∧ k < w.heap.size) (stV A vs.length c S) S := StAt.below ⟨A, c, vs, rfl, hr, ha⟩ hb
 have HPf := hid (FileR.below hpc hb)
 have HB := hid hb
 have HX := hid hx
 have HY := hid hy
 have HZ := hid hz
 have HLen := hid (all2_len ha)
 obtain ⟨W, hW⟩ : ∃ W, (((w.alloc (.cells (stC A vs.length c S).toArray 51)).alloc (.cells (fileC p).toArray 130)).alloc (.cells #[.slice none 0 0, .int .i64 0, .int .i64 0, .int .i64 0, .int .i64 0, .bool false] 51)) = W := ⟨_, rfl⟩
 rw [hW] at HB HX HY HZ HPf hst
 have HWs : Hid (W.heap.size = w.heap.size + 1 + 1 + 1) := hid (by rw [← hW]; simp)
 have HWo := hid (rwithout10_calls W _ _ S p.name hst (by omega))
 clear hr ha hb hx hy hz hst hpc hp h
 unfold stV
 have a0 := HX.out.c 0 rfl
 have a1 := HX.out.c 1 rfl
 have a2 := HX.out.c 2 rfl
 have a3 := HX.out.c 3 rfl
 have a4 := HX.out.c 4 rfl
 have a5 := HX.out.c 5 rfl
 have b0 := HY.out.c 0 rfl
 go_enter Tryz.func105, Tryz.ntmps105
 go_wp2_with fail
 clear hW a0 a1 a2 a3 a4 a5 b0
 refine HWo.out.mono ?_
 rintro e w1 ⟨v1, rfl, ⟨A1, c1, vs1, rfl, hr1, ha1⟩, hb1⟩
 have hs1 := hb1.size
 have hWs := HWs.out
 have hx1 := HX.out.below hb1
 have hsix := six_only w1 w.heap.size (.slice A1 vs1.length c1) (.int .i64 (S.no : Int)) (.int .i64 (S.ops : Int)) (.int .i64 S.fuse) (.int .i64 S.fault) (.bool S.down)
 have hxx := six_box hx1 (.slice A1 vs1.length c1) (.int .i64 (S.no : Int)) (.int .i64 (S.ops : Int)) (.int .i64 S.fuse) (.int .i64 S.fault) (.bool S.down)
 have hd : ∀ i, ((D i ∧ i < w.heap.size) ∨ W.heap.size ≤ i) → ¬ i = w.heap.size := fun i hi => by omega
 have HR1 := hid (hr1.keep hsix hd)
 have HA1 := hid (all2_imp (fun _ _ h => FileR.keep h hsix hd) ha1)
 have HPf1 := hid ((HPf.out.below hb1).keep hsix (fun i hi => by omega))
 have hyy := (HY.out.below hb1).keep hsix (by omega)
 have hzz := (HZ.out.below hb1).keep hsix (by omega)
 have hBB : Below w.heap.size w (six w1 w.heap.size (.slice A1 vs1.length c1) (.int .i64 (S.no : Int)) (.int .i64 (S.ops : Int)) (.int .i64 S.fuse) (.int .i64 S.fault) (.bool S.down)) := (HB.out.trans (hb1.mono HB.out.size)).trans (hsix.below (Nat.le_trans HB.out.size hs1) (fun k e => by omega))
 have f0 := hx1.free 0
 have f1 := hx1.free 1
 have f2 := hx1.free 2
 have f3 := hx1.free 3
 have f4 := hx1.free 4
 have f5 := hx1.free 5
 have a0 := hx1.c 0 rfl
 have a1 := hx1.c 1 rfl
 have a2 := hx1.c 2 rfl
 have a3 := hx1.c 3 rfl
 have a4 := hx1.c 4 rfl
 have a5 := hx1.c 5 rfl
 have hgl : w.heap.size < w1.heap.size := by omega
 obtain ⟨W1, hW1⟩ : ∃ W1, six w1 w.heap.size (.slice A1 vs1.length c1) (.int .i64 (S.no : Int)) (.int .i64 (S.ops : Int)) (.int .i64 S.fuse) (.int .i64 S.fault) (.bool S.down) = W1 := ⟨_, rfl⟩
 rw [hW1] at HR1 HA1 HPf1 hxx hyy hzz hBB hsix
 have HXX := hid hxx
 have HYY := hid hyy
 have HZZ := hid hzz
 have HBB := hid hBB
 have hW1s : w.heap.size + 3 ≤ W1.heap.size := by have := hsix.size; omega
 have HW1s := hid hW1s
 have HWs3 : Hid (w.heap.size + 3 ≤ W.heap.size) := hid (by omega)
 unfold six at hW1
 have HVL : Hid (vs1.length ≤ 900) := hid (by
  have h1 := all2_len HA1.out
  have h2 := without_len_le S.l p.name
  simp only at h1
  omega)
 clear hxx hyy hzz hBB hr1 ha1 hb1 hx1 hsix hd HWo HX HY HZ HB HPf hs1 hW1s hWs HWs HLen
 unfold stV
 dsimp only at *
 go_wp2_with fail
 clear f0 f1 f2 f3 f4 f5 a0 a1 a2 a3 a4 a5 hW1 hgl
 have hvl := HVL.out
 go_loopw [5, 6, 7] (fun v5 v6 v7 wr => ∃ k : Nat, k ≤ vs1.length ∧ v7 = .int .i64 (k : Int) ∧ v6 = .bool ((vs1.take k).any fun x => gtB x.name p.name) ∧ wr.ownsRow W1.heap.size 130 3 v5 (insVK p vs1 k).length ((insVK p vs1 k).flatMap fileC) ∧ Below W1.heap.size W1 wr) (fun _ _ v7 _ => vs1.length - (intOf v7).toNat)
 case atStart => exact ⟨0, Nat.zero_le _, rfl, rfl, World.ownsRow_nil _ _ _ _, Below.refl _ _⟩
 case round =>
  obtain ⟨k, hk, rfl, rfl, hown, hbel⟩ := hrel
  have HO := hid hown
  have HBl := hid hbel
  have hx := HXX.out.below hbel
  have hy := HYY.out.below hbel
  have x0 := hx.c 0 rfl
  have y0 := hy.c 0 rfl
  have y1 := hy.c 1 rfl
  have y2 := hy.c 2 rfl
  clear hown hbel hx hy
  by_cases hlt : k < vs1.length
  ·obtain ⟨g, o, q, rfl, hg, hq, c0, c1, c2⟩ := file_at (HR1.out.below HBl.out) hlt
   obtain ⟨hs, ha⟩ := insVK_step (p := p) hq
   have hkl : (k : Int) < (vs1.length : Int) := by omega
   have Hlen : Hid ((insVK p vs1 k).length ≤ 2000) := hid (by
    have h1 := insVK_length p vs1 k
    omega)
   have hne : q.name ≠ p.name := by
    obtain ⟨b, hb, hfr⟩ := all2_get HA1.out hq
    rw [hfr.name]
    exact (mem_without.1 (List.mem_of_getElem? hb)).2
   have t2 : (q.name.toList == p.name.toList) = false := by rw [tl_beq]; exact decide_eq_false hne
   have hgt : gtB q.name p.name = !(Op.bytesLess q.name.toList p.name.toList) := by unfold gtB; rw [t2, Bool.or_false]
   rw [hgt] at hs ha
   have HQ := hid hq
   clear hgt hq hne
   generalize insVK p vs1 k = acc at *
   cases hd : (vs1.take k).any fun x => gtB x.name p.name with
   | true =>
    rw [hd] at hs ha
    have HA : Hid (((vs1.take (k + 1)).any fun x => gtB x.name p.name) = true) := hid (by rw [ha]; rfl)
    have HS : Hid (insVK p vs1 (k + 1) = acc ++ [q]) := hid (by rw [hs, if_neg (by simp)])
    clear hs ha hd
    go_wp2_with fail
    go_quiet (fail)
    go_wp2_with (at_builtin; refine wpList_append_own _ rfl _ _ 49 rfl W1.heap.size 130 i1 _ 3 64 Tryz.underlying49 hi1 hy0 hy1 hy2 rfl (by decide) _ _ _ rfl (HO.out.alloc _) ⟨wr.heap.size, 0, none⟩ 1 1 (fileC q) rfl rfl ?d1 ?d2 ?d3 ?d4 ?d5 ?_)
    case d1 => exact row_cells (C := fileC) wr q _ _ rfl
    case d2 => exact fileC_one q
    case d3 => have := Hlen.out; unfold maxLen; omega
    case d4 => have := Hlen.out; omega
    case d5 => have := Hlen.out; have := HBl.out.size; simp; omega
    intro v' w5 hown5 hgrow _
    have HB5 := hid (((bel_drewN HBl.out _).alloc (bel_drewN HBl.out _).size _).grown hgrow (by simp; have := HBl.out.size; omega) (fun k hk => (HO.out.lt k hk).1))
    have HO5 := hid hown5
    clear hown5 hgrow
    go_wp2_with fail
    go_roundw
    case rel => exact ⟨k + 1, by omega, by go_num, by rw [HA.out], by rw [HS.out, List.length_append, List.flatMap_append]; simpa using HO5.out, HB5.out⟩
    case measure => simp [intOf]; omega
   | false =>
    rw [hd] at hs ha
    clear hd
    cases t1 : Op.bytesLess q.name.toList p.name.toList with
    | true =>
     rw [t1] at hs ha
     have HA : Hid (((vs1.take (k + 1)).any fun x => gtB x.name p.name) = false) := hid (by rw [ha]; rfl)
     have HS : Hid (insVK p vs1 (k + 1) = acc ++ [q]) := hid (by rw [hs, if_neg (by simp)])
     clear hs ha
     go_wp2_with fail
     go_quiet (fail)
     go_wp2_with (at_builtin; refine wpList_append_own _ rfl _ _ 49 rfl W1.heap.size 130 i1 _ 3 64 Tryz.underlying49 hi1 hy0 hy1 hy2 rfl (by decide) _ _ _ rfl (HO.out.alloc _) ⟨wr.heap.size, 0, none⟩ 1 1 (fileC q) rfl rfl ?d1 ?d2 ?d3 ?d4 ?d5 ?_)
     case d1 => exact row_cells (C := fileC) wr q _ _ rfl
     case d2 => exact fileC_one q
     case d3 => have := Hlen.out; unfold maxLen; omega
     case d4 => have := Hlen.out; omega
     case d5 => have := Hlen.out; have := HBl.out.size; simp; omega
     intro v' w5 hown5 hgrow _
     have HB5 := hid (((bel_drewN HBl.out _).alloc (bel_drewN HBl.out _).size _).grown hgrow (by simp; have := HBl.out.size; omega) (fun k hk => (HO.out.lt k hk).1))
     have HO5 := hid hown5
     clear hown5 hgrow
     go_wp2_with fail
     go_roundw
     case rel => exact ⟨k + 1, by omega, by go_num, by rw [HA.out], by rw [HS.out, List.length_append, List.flatMap_append]; simpa using HO5.out, HB5.out⟩
     case measure => simp [intOf]; omega
    | false =>
     rw [t1] at hs ha
     have HA : Hid (((vs1.take (k + 1)).any fun x => gtB x.name p.name) = true) := hid (by rw [ha]; rfl)
     have HS : Hid (insVK p vs1 (k + 1) = (acc ++ [p]) ++ [q]) := hid (by rw [hs, if_pos (by simp)])
     clear hs ha
     go_wp2_with fail
     go_quiet (fail)
     go_wp2_with (at_builtin; refine wpList_append_own _ rfl _ _ 49 rfl W1.heap.size 130 i1 _ 3 64 Tryz.underlying49 hi1 hy0 hy1 hy2 rfl (by decide) _ _ _ rfl (HO.out.alloc _) ⟨wr.heap.size, 0, none⟩ 1 1 (fileC p) rfl rfl ?d1 ?d2 ?d3 ?d4 ?d5 ?_)
     case d1 => exact row_cells (C := fileC) wr p _ _ rfl
     case d2 => exact fileC_one p
     case d3 => have := Hlen.out; unfold maxLen; omega
     case d4 => have := Hlen.out; omega
     case d5 => have := Hlen.out; have := HBl.out.size; simp; omega
     intro v' w5 hown5 hgrow _
     have HB5 := hid (((bel_drewN HBl.out _).alloc (bel_drewN HBl.out _).size _).grown hgrow (by simp; have := HBl.out.size; omega) (fun k hk => (HO.out.lt k hk).1))
     have HO5' : Hid (w5.ownsRow W1.heap.size 130 3 v' (acc ++ [p]).length ((acc ++ [p]).flatMap fileC)) := hid (by rw [List.length_append, List.flatMap_append]; simpa using hown5)
     have Hlen5 : Hid ((acc ++ [p]).length ≤ 2001) := hid (by have := Hlen.out; simp; omega)
     have hx5 := HXX.out.below HB5.out
     have x05 := hx5.c 0 rfl
     obtain ⟨g', o', q', e', hg', hq', d0, d1, d2⟩ := file_at (HR1.out.below HB5.out) hlt
     have eqq : q' = q ∧ g' = g ∧ o' = o := by
      injection e' with e'
      injection e' with e1 e2
      exact ⟨Option.some.inj (hq'.symm.trans HQ.out), e1.symm, e2.symm⟩
     obtain ⟨rfl, rfl, rfl⟩ := eqq
     clear hown5 hgrow HO HBl Hlen hx5 hq' e' c0 c1 c2 x0 y0 y1 y2
     generalize acc ++ [p] = acc2 at *
     have Hlen := Hlen5
     go_wp2_with (at_builtin; refine wpList_append_own _ rfl _ _ 49 rfl W1.heap.size 130 i1 _ 3 64 Tryz.underlying49 hi1 hy0 hy1 hy2 rfl (by decide) _ _ _ rfl (HO5'.out.alloc _) ⟨w5.heap.size, 0, none⟩ 1 1 (fileC q') rfl rfl ?d1 ?d2 ?d3 ?d4 ?d5 ?_)
     case d1 => exact row_cells (C := fileC) w5 q' _ _ rfl
     case d2 => exact fileC_one q'
     case d3 => have := Hlen.out; unfold maxLen; omega
     case d4 => have := Hlen.out; omega
     case d5 => have := Hlen.out; have := HB5.out.size; simp; omega
     intro v' w6 hown5 hgrow _
     have HB6 := hid ((HB5.out.alloc HB5.out.size _).grown hgrow (by simp; have := HB5.out.size; omega) (fun k hk => (HO5'.out.lt k hk).1))
     have HO6 := hid hown5
     clear hown5 hgrow
     go_wp2_with fail
     go_roundw
     case rel => exact ⟨k + 1, by omega, by go_num, by rw [HA.out], by rw [HS.out, List.length_append, List.flatMap_append]; simpa using HO6.out, HB6.out⟩
     case measure => simp [intOf]; omega
  ·obtain rfl : k = vs1.length := by omega
   have HIE := hid (insVK_end p vs1)
   have Hlen : Hid ((insVK p vs1 vs1.length).length ≤ 2000) := hid (by
    have h1 := insVK_length p vs1 vs1.length
    omega)
   rw [List.take_length]
   generalize insVK p vs1 vs1.length = acc at *
   cases hd : vs1.any fun x => gtB x.name p.name with
   | true =>
    have HO2 : Hid (wr.ownsRow W1.heap.size 130 3 u5 (insV p vs1).length ((insV p vs1).flatMap fileC)) := hid (by
     have := HIE.out
     rw [hd, if_pos rfl] at this
     rw [← this]
     exact HO.out)
    clear HO HIE hd
    have hx := HXX.out.below HBl.out
    have hz := HZZ.out.below HBl.out
    have hs3 := HW1s.out
    have hsz := HBl.out.size
    obtain ⟨A2, c2, rfl⟩ := own_form HO2.out
    have hrow : RowT fileC wr (fun i => (D i ∧ i < w.heap.size) ∨ w.heap.size + 3 ≤ i) A2 (insV p vs1) := rowT_of_own HO2.out (fun g hg => .inr (by have := (HO2.out.lt g hg).1; omega))
    have hall : All2 (FileR wr (fun i => (D i ∧ i < w.heap.size) ∨ w.heap.size + 3 ≤ i)) (insV p vs1) (withF S.l f) := withV_rel ((HPf1.out.below HBl.out).mono (fun _ h => .inl h)) (by
     rw [← HPf1.out.name]
     exact all2_imp (fun _ _ h => (FileR.below h HBl.out).mono (fun _ h => h.imp id (fun h => by have := HWs3.out; omega))) HA1.out)
    have Fin := hid (fin10 (f := Tryz.f105) (D := fun i => (D i ∧ i < w.heap.size) ∨ w.heap.size + 3 ≤ i) (D' := DW D w) (c := c2) (S := { S with l := withF S.l f }) (HBB.out.trans (HBl.out.mono HBB.out.size)) (Nat.le_refl _) (Nat.le_add_right _ 2) (by omega) (fun k hk => (show (D k ∧ k < w.heap.size) ∨ w.heap.size + 3 ≤ k from hk).elim (fun hk => by omega) (fun hk => by omega)) (fun k hk => hk.elim (fun h => .inl h.1) (fun h => .inr (by omega))) (A0 := A1) (n0 := vs1.length) (c0 := c1) hx hz hrow hall rfl)
    have q0 := hz.c 0 rfl
    have q1 := hz.c 1 rfl
    have q2 := hz.c 2 rfl
    have q3 := hz.c 3 rfl
    have q4 := hz.c 4 rfl
    have q5 := hz.c 5 rfl
    have g0 := hz.free 0
    have g1 := hz.free 1
    have g2 := hz.free 2
    have g3 := hz.free 3
    have g4 := hz.free 4
    have g5 := hz.free 5
    have x1 := hx.c 1 rfl
    have x2 := hx.c 2 rfl
    have x3 := hx.c 3 rfl
    have x4 := hx.c 4 rfl
    have x5 := hx.c 5 rfl
    have f0 := hx.free 0
    have hgl : w.heap.size < wr.heap.size := by omega
    have hgl1 : w.heap.size + 1 + 1 < wr.heap.size := by omega
    clear hrow hall hx hz hs3 hsz
    clear HO2
    go_wp2_with fail
    exact Fin.out _ rfl
   | false =>
    rw [hd, if_neg (by simp)] at HIE
    clear hd
    go_wp2_with (at_builtin; refine wpList_append_own _ rfl _ _ 49 rfl W1.heap.size 130 i1 _ 3 64 Tryz.underlying49 hi1 hy0 hy1 hy2 rfl (by decide) _ _ _ rfl (HO.out.alloc _) ⟨wr.heap.size, 0, none⟩ 1 1 (fileC p) rfl rfl ?d1 ?d2 ?d3 ?d4 ?d5 ?_)
    case d1 => exact row_cells (C := fileC) wr p _ _ rfl
    case d2 => exact fileC_one p
    case d3 => have := Hlen.out; unfold maxLen; omega
    case d4 => have := Hlen.out; omega
    case d5 => have := Hlen.out; have := HBl.out.size; simp; omega
    intro v' w5 hown5 hgrow _
    have HB5 := hid ((HBl.out.alloc HBl.out.size _).grown hgrow (by simp; have := HBl.out.size; omega) (fun k hk => (HO.out.lt k hk).1))
    have HO5 : Hid (w5.ownsRow W1.heap.size 130 3 v' (insV p vs1).length ((insV p vs1).flatMap fileC)) := hid (by rw [← HIE.out, List.length_append, List.flatMap_append]; simpa using hown5)
    clear hown5 hgrow HO HIE HBl x0 y0 y1 y2
    have hx := HXX.out.below HB5.out
    have hz := HZZ.out.below HB5.out
    have hs3 := HW1s.out
    have hsz := HB5.out.size
    obtain ⟨A2, c2, rfl⟩ := own_form HO5.out
    have hrow : RowT fileC w5 (fun i => (D i ∧ i < w.heap.size) ∨ w.heap.size + 3 ≤ i) A2 (insV p vs1) := rowT_of_own HO5.out (fun g hg => .inr (by have := (HO5.out.lt g hg).1; omega))
    have hall : All2 (FileR w5 (fun i => (D i ∧ i < w.heap.size) ∨ w.heap.size + 3 ≤ i)) (insV p vs1) (withF S.l f) := withV_rel ((HPf1.out.below HB5.out).mono (fun _ h => .inl h)) (by
     rw [← HPf1.out.name]
     exact all2_imp (fun _ _ h => (FileR.below h HB5.out).mono (fun _ h => h.imp id (fun h => by have := HWs3.out; omega))) HA1.out)
    have Fin := hid (fin10 (f := Tryz.f105) (D := fun i => (D i ∧ i < w.heap.size) ∨ w.heap.size + 3 ≤ i) (D' := DW D w) (c := c2) (S := { S with l := withF S.l f }) (HBB.out.trans (HB5.out.mono HBB.out.size)) (Nat.le_refl _) (Nat.le_add_right _ 2) (by omega) (fun k hk => (show (D k ∧ k < w.heap.size) ∨ w.heap.size + 3 ≤ k from hk).elim (fun hk => by omega) (fun hk => by omega)) (fun k hk => hk.elim (fun h => .inl h.1) (fun h => .inr (by omega))) (A0 := A1) (n0 := vs1.length) (c0 := c1) hx hz hrow hall rfl)
    have q0 := hz.c 0 rfl
    have q1 := hz.c 1 rfl
    have q2 := hz.c 2 rfl
    have q3 := hz.c 3 rfl
    have q4 := hz.c 4 rfl
    have q5 := hz.c 5 rfl
    have g0 := hz.free 0
    have g1 := hz.free 1
    have g2 := hz.free 2
    have g3 := hz.free 3
    have g4 := hz.free 4
    have g5 := hz.free 5
    have x1 := hx.c 1 rfl
    have x2 := hx.c 2 rfl
    have x3 := hx.c 3 rfl
    have x4 := hx.c 4 rfl
    have x5 := hx.c 5 rfl
    have f0 := hx.free 0
    have hgl : w.heap.size < w5.heap.size := by omega
    have hgl1 : w.heap.size + 1 + 1 < w5.heap.size := by omega
    clear hrow hall hx hz hs3 hsz
    clear HO5
    have x0 := (HXX.out.below HB5.out).c 0 rfl
    go_wp2_with fail
    exact Fin.out _ rfl
end
section
open Go Go.RowKit
open Go.Lib (hid)
set_option maxRecDepth 100000
abbrev opC (o : OpF) (BA : Option Addr) (bc : Nat) (KA : Option Addr) (kc : Nat) : List Value := [.int .i64 o.k, .string o.n, .string o.t, .slice BA o.b.length bc, .int .i64 o.i, .slice KA o.ks.length kc]
abbrev zeroSt : List Value := [.slice none 0 0, .int .i64 0, .int .i64 0, .int .i64 0, .int .i64 0, .bool false]
theorem fin10e {W w : World} {r : Nat} {D D' : Nat → Prop} {f : Func} {A : Option Addr} {n c : Nat} {vs : List FileV} {S : FS} {t : TypeId} {z0 z1 z2 z3 z4 z5 : Value} {p q : Tmp} {z : Int}
  (hB : Below w.heap.size w W) (hrb : w.heap.size ≤ r) (hD : ∀ k, D k → k ≠ r) (hDD : ∀ k, D k → D' k) (hbr : BxA W r t [z0, z1, z2, z3, z4, z5]) (hrow : RowT fileC W D A vs) (hall : All2 (FileR W D) vs S.l) (hn : n = vs.length)
  (hf : f.results = #[.cell p 51, .tmp q]) (tmps : Array Value) (ht : tmps.getD p undef = .pointer (some ⟨r, 0, none⟩)) (hq : tmps.getD q undef = .int .i64 z) (z' : Int) (hz : z = z') :
  bodyPost Tryz.prog f (fun e w' => ∃ v', e = .returned (.tuple #[v', .int .i64 z']) ∧ StAt w' D' v' S ∧ Below w.heap.size w w') Exit.ret { tmps := tmps, defers := [] }
   (six W r (.slice A n c) (.int .i64 (S.no : Int)) (.int .i64 (S.ops : Int)) (.int .i64 S.fuse) (.int .i64 S.fault) (.bool S.down)) := by
 subst hn; subst hz
 have ho := six_only W r (.slice A vs.length c) (.int .i64 (S.no : Int)) (.int .i64 (S.ops : Int)) (.int .i64 S.fuse) (.int .i64 S.fault) (.bool S.down)
 refine bodyPost_ret (results_st2 hf _ _ r _ _ _ _ _ _ _ t ht hq (six_box hbr _ _ _ _ _ _) Tryz.underlying51 (sizeState10 _)) rfl ?_
 exact ⟨_, rfl, ⟨A, c, vs, rfl, (hrow.keep ho hD).mono hDD, all2_imp (fun _ _ h => (h.keep ho hD).mono hDD) hall⟩, hB.trans (ho.below hB.size fun k e => by rw [e]; exact hrb)⟩
theorem name_cases (n : ByteArray) : (n.size < 1 ∧ nameF n = false) ∨ (¬ n.size < 1 ∧ 20 < n.size ∧ nameF n = false) ∨ (¬ n.size < 1 ∧ ¬ 20 < n.size ∧ nameF n = true) := by
 unfold nameF
 by_cases h1 : n.size < 1
 ·exact .inl ⟨h1, by rw [decide_eq_false (by omega), Bool.false_and]⟩
 ·by_cases h2 : 20 < n.size
  ·exact .inr (.inl ⟨h1, h2, by rw [decide_eq_false (p := n.size ≤ 20) (by omega), Bool.and_false]⟩)
  ·exact .inr (.inr ⟨h1, h2, by rw [decide_eq_true (by omega), decide_eq_true (by omega)]; rfl⟩)
set_option maxHeartbeats 16000000 in
theorem rwrite10_bad (w : World) (D : Nat → Prop) (v : Value) (S : FS) (o : OpF) (BA : Option Addr) (bc : Nat) (KA : Option Addr) (kc : Nat) (h : StAt w D v S) (hS : S.Fit) (hd : S.down = false) (hB : ByR w D BA o.b) (hBn : BA = none → bc = 0) (_ : o.b.length ≤ 1000000) (hbad : nameF o.n = false ∨ (findF S.l o.n).isNone ∧ 8 ≤ S.l.length) :
  Calls Tryz.prog 74 #[v, .agg (opC o BA bc KA kc).toArray] w fun e w' => ∃ v', e = .returned (.tuple #[v', .int .i64 (S.write o.n o.b).2]) ∧ StAt w' (DW D w) v' (S.write o.n o.b).1 ∧ Below w.heap.size w w' := by
 have hcap := h.cap
 obtain ⟨A, c, vs, rfl, hr, ha⟩ := hcap
 have hb := (((Below.refl _ w).alloc (Nat.le_refl _) (.cells (stC A vs.length c S).toArray 51)).alloc (by simp) (.cells (opC o BA bc KA kc).toArray 76)).alloc (by simp; omega) (.cells zeroSt.toArray 51)
 have hx := ((BxA.new w 51 (stC A vs.length c S)).alloc (.cells (opC o BA bc KA kc).toArray 76)).alloc (.cells zeroSt.toArray 51)
 have hy := (bx_new2 w (.cells (stC A vs.length c S).toArray 51) 76 (opC o BA bc KA kc)).alloc (.cells zeroSt.toArray 51)
 have hz := bx_new3 w (.cells (stC A vs.length c S).toArray 51) (.cells (opC o BA bc KA kc).toArray 76) 51 zeroSt
 have hst : StAt (((w.alloc (.cells (stC A vs.length c S).toArray 51)).alloc (.cells (opC o BA bc KA kc).toArray 76)).alloc (.cells zeroSt.toArray 51)) (fun k => D k ∧ k < w.heap.size) (stV A vs.length c S) S := StAt.below ⟨A, c, vs, rfl, hr, ha⟩ hb
 have HF := hid (rfind10_calls _ _ _ S o.n hst (by have := hS.ok.few; omega))
 have HR := hid (hr.below hb)
 have HA := hid (all2_imp (fun _ _ h => FileR.below h hb) ha)
 have HB := hid hb
 have HX := hid hx
 have HY := hid hy
 have HZ := hid hz
 have HS := hid hS
 have HVl := hid (all2_len ha)
 have HBr := hid (hB.cap.below hb)
 have HBn := hid hBn
 have HDn := hid hd
 clear hB hBn hd
 have hfew : vs.length ≤ 8 := by rw [HVl.out]; exact hS.ok.few
 obtain ⟨W, hW⟩ : ∃ W, (((w.alloc (.cells (stC A vs.length c S).toArray 51)).alloc (.cells (opC o BA bc KA kc).toArray 76)).alloc (.cells zeroSt.toArray 51)) = W := ⟨_, rfl⟩
 rw [hW] at HBr HF HR HA HB HX HY HZ
 have HWs : Hid (W.heap.size = w.heap.size + 1 + 1 + 1) := hid (by rw [← hW]; simp)
 clear hr ha hb hx hy hz hst hS h
 unfold stV stC at *
 go_enter Tryz.func74, Tryz.ntmps74
 have x0 := HX.out.c 0 rfl
 have x1 := HX.out.c 1 rfl
 have x2 := HX.out.c 2 rfl
 have x3 := HX.out.c 3 rfl
 have x4 := HX.out.c 4 rfl
 have x5 := HX.out.c 5 rfl
 have y0 := HY.out.c 0 rfl
 have y1 := HY.out.c 1 rfl
 have y2 := HY.out.c 2 rfl
 have y3 := HY.out.c 3 rfl
 have y4 := HY.out.c 4 rfl
 have y5 := HY.out.c 5 rfl
 have HE : Hid (S.write o.n o.b = if nameF o.n = false ∨ (findF S.l o.n).isNone ∧ 8 ≤ S.l.length then (S, 101) else if 65536 < (S.found o.n).all.length + o.b.length then (S, 103) else
  if S.fault = 0 then (S.burn.count, if S.burn.count.down then 100 else 102) else (S.burn.count.put (S.found o.n) o.b, if S.burn.count.down then 100 else 0)) := hid (by
  unfold FS.write
  rw [HDn.out, if_neg (by simp)])
 go_wp2_with fail
 clear hW x0 x1 x2 x3 x4 x5 y0 y1 y2 y3 y4 y5
 refine HF.out.mono ?_
 rintro e w1 ⟨z, rfl, hz, hb1⟩
 have HB1 := hid hb1
 clear hb1 HF
 rcases name_cases o.n with ⟨n1, n3⟩ | ⟨n1, n2, n3⟩ | ⟨n1, n2, n3⟩
 ·have m1 : decide ((o.n.size : Int) < 1) = true := decide_eq_true (by omega)
  have m2 : (o.n.size : Int) < 1 := by omega
  clear hz hbad
  have HEE : Hid (S.write o.n o.b = (S, 101)) := hid (by rw [HE.out, if_pos (.inl n3)])
  have hws := HWs.out
  have hsz := HB1.out.size
  have Fin := hid (fin10e (f := Tryz.f74) (z := 101) (D := fun k => D k ∧ k < w.heap.size) (D' := DW D w) (c := c) (HB.out.trans (HB1.out.mono HB.out.size)) (Nat.le_add_right _ 2) (fun k hk => by have := hk.2; omega) (fun k hk => .inl hk.1) (HZ.out.below HB1.out) (HR.out.below HB1.out) (all2_imp (fun _ _ h => FileR.below h HB1.out) HA.out) rfl rfl)
  have hg0 : w.heap.size + 1 + 1 < w1.heap.size := by omega
  have hx := HX.out.below HB1.out
  have hy := HY.out.below HB1.out
  have hz := HZ.out.below HB1.out
  have x0 := hx.c 0 rfl
  have x1 := hx.c 1 rfl
  have x2 := hx.c 2 rfl
  have x3 := hx.c 3 rfl
  have x4 := hx.c 4 rfl
  have x5 := hx.c 5 rfl
  have y0 := hy.c 0 rfl
  have y1 := hy.c 1 rfl
  have y2 := hy.c 2 rfl
  have y3 := hy.c 3 rfl
  have y4 := hy.c 4 rfl
  have y5 := hy.c 5 rfl
  have q0 := hz.c 0 rfl
  have q1 := hz.c 1 rfl
  have q2 := hz.c 2 rfl
  have q3 := hz.c 3 rfl
  have q4 := hz.c 4 rfl
  have q5 := hz.c 5 rfl
  have r0 := hz.free 0
  have r1 := hz.free 1
  have r2 := hz.free 2
  have r3 := hz.free 3
  have r4 := hz.free 4
  have r5 := hz.free 5
  clear hx hy hz
  clear hws hsz
  go_wp2_with fail
  rw [HEE.out]
  exact Fin.out _ rfl rfl _ rfl
 ·have m1 : decide ((o.n.size : Int) < 1) = false := decide_eq_false (by omega)
  have m2 : decide ((20 : Int) < (o.n.size : Int)) = true := decide_eq_true (by omega)
  clear hz hbad
  have HEE : Hid (S.write o.n o.b = (S, 101)) := hid (by rw [HE.out, if_pos (.inl n3)])
  have hws := HWs.out
  have hsz := HB1.out.size
  have Fin := hid (fin10e (f := Tryz.f74) (z := 101) (D := fun k => D k ∧ k < w.heap.size) (D' := DW D w) (c := c) (HB.out.trans (HB1.out.mono HB.out.size)) (Nat.le_add_right _ 2) (fun k hk => by have := hk.2; omega) (fun k hk => .inl hk.1) (HZ.out.below HB1.out) (HR.out.below HB1.out) (all2_imp (fun _ _ h => FileR.below h HB1.out) HA.out) rfl rfl)
  have hg0 : w.heap.size + 1 + 1 < w1.heap.size := by omega
  have hx := HX.out.below HB1.out
  have hy := HY.out.below HB1.out
  have hz := HZ.out.below HB1.out
  have x0 := hx.c 0 rfl
  have x1 := hx.c 1 rfl
  have x2 := hx.c 2 rfl
  have x3 := hx.c 3 rfl
  have x4 := hx.c 4 rfl
  have x5 := hx.c 5 rfl
  have y0 := hy.c 0 rfl
  have y1 := hy.c 1 rfl
  have y2 := hy.c 2 rfl
  have y3 := hy.c 3 rfl
  have y4 := hy.c 4 rfl
  have y5 := hy.c 5 rfl
  have q0 := hz.c 0 rfl
  have q1 := hz.c 1 rfl
  have q2 := hz.c 2 rfl
  have q3 := hz.c 3 rfl
  have q4 := hz.c 4 rfl
  have q5 := hz.c 5 rfl
  have r0 := hz.free 0
  have r1 := hz.free 1
  have r2 := hz.free 2
  have r3 := hz.free 3
  have r4 := hz.free 4
  have r5 := hz.free 5
  clear hx hy hz
  clear hws hsz
  go_wp2_with fail
  rw [HEE.out]
  exact Fin.out _ rfl rfl _ rfl
 ·have m1 : decide ((o.n.size : Int) < 1) = false := decide_eq_false (by omega)
  have m2 : decide ((20 : Int) < (o.n.size : Int)) = false := decide_eq_false (by omega)
  have hb2 : (findF S.l o.n).isNone ∧ 8 ≤ S.l.length := hbad.resolve_left (by rw [n3]; simp)
  rcases hz with ⟨rfl, hfn⟩ | ⟨k, f, rfl, hk, hf, hfd⟩
  ·have h8 : 8 ≤ vs.length := by rw [HVl.out]; exact hb2.2
   have m3 : decide ((8 : Int) ≤ (vs.length : Int)) = true := decide_eq_true (by omega)
   have hb3 := hid hb2
   clear hbad hb2
   have HEE : Hid (S.write o.n o.b = (S, 101)) := hid (by rw [HE.out, if_pos (.inr hb3.out)])
   have hws := HWs.out
   have hsz := HB1.out.size
   have Fin := hid (fin10e (f := Tryz.f74) (z := 101) (D := fun k => D k ∧ k < w.heap.size) (D' := DW D w) (c := c) (HB.out.trans (HB1.out.mono HB.out.size)) (Nat.le_add_right _ 2) (fun k hk => by have := hk.2; omega) (fun k hk => .inl hk.1) (HZ.out.below HB1.out) (HR.out.below HB1.out) (all2_imp (fun _ _ h => FileR.below h HB1.out) HA.out) rfl rfl)
   have hg0 : w.heap.size + 1 + 1 < w1.heap.size := by omega
   have hx := HX.out.below HB1.out
   have hy := HY.out.below HB1.out
   have hz := HZ.out.below HB1.out
   have x0 := hx.c 0 rfl
   have x1 := hx.c 1 rfl
   have x2 := hx.c 2 rfl
   have x3 := hx.c 3 rfl
   have x4 := hx.c 4 rfl
   have x5 := hx.c 5 rfl
   have y0 := hy.c 0 rfl
   have y1 := hy.c 1 rfl
   have y2 := hy.c 2 rfl
   have y3 := hy.c 3 rfl
   have y4 := hy.c 4 rfl
   have y5 := hy.c 5 rfl
   have q0 := hz.c 0 rfl
   have q1 := hz.c 1 rfl
   have q2 := hz.c 2 rfl
   have q3 := hz.c 3 rfl
   have q4 := hz.c 4 rfl
   have q5 := hz.c 5 rfl
   have r0 := hz.free 0
   have r1 := hz.free 1
   have r2 := hz.free 2
   have r3 := hz.free 3
   have r4 := hz.free 4
   have r5 := hz.free 5
   clear hx hy hz
   clear hws hsz
   go_wp2_with fail
   rw [HEE.out]
   exact Fin.out _ rfl rfl _ rfl
  ·rw [hfd] at hb2
   cases hb2.1
end
section
open Go Go.RowKit
open Go.Lib (hid)
set_option maxRecDepth 100000
theorem run_append_F (w : World) (base : Nat) (i : TypeInfo) (hi : Tryz.prog.info? 130 = some i) (hz : i.zero = some (.agg #[.string ⟨#[]⟩, .slice none 0 0, .slice none 0 0])) (hsize : i.size = 3) (hby : i.bytes = 64)
  (v : Value) (n : Nat) (xs : List FileV) (hn : n = xs.length) (hown : w.ownsRow base 130 3 v n (xs.flatMap fileC)) (A : Option Addr) (m c : Nat) (ms : List FileV) (hm : m = ms.length) (hA : A = none → c = 0) {R : Nat → Prop} (hR : RowT fileC w R A ms) (hb : n + m ≤ 1099511627776) (hbase : base ≤ w.heap.size) :
  ∃ v' w', (Builtin.append_ #[49, 49] 49 #[v, .slice A m c]).run Tryz.prog w = .ok v' w' ∧ w'.ownsRow base 130 3 v' (n + m) ((xs ++ ms).flatMap fileC) ∧ w.grownBy w' v.ownBlock ∧ (v'.ownBlock = v.ownBlock ∨ v'.ownBlock = some w.heap.size) := by
 subst hm
 rcases A with _ | a
 ·obtain rfl := hA rfl
  have h0 : ms = [] := by
   by_cases hn : 0 < ms.length
   ·obtain ⟨_, _, e, _⟩ := hR hn; cases e
   ·exact List.eq_nil_of_length_eq_zero (by omega)
  subst h0
  exact ⟨v, w, run_append_owned_none (P := Tryz.prog) (w := w) base 49 49 130 i 3 Tryz.underlying49 hi v n (xs.flatMap fileC) hown, by simpa using hown, World.grownBy.refl w _, .inl rfl⟩
 ·obtain ⟨v', w', hr, h2, h3, _, h5⟩ := run_append_own_at (P := Tryz.prog) (w := w) base 49 49 130 i _ 3 64 Tryz.underlying49 hi hz hsize hby rfl (by decide) v n (xs.flatMap fileC) hown a ms.length c (ms.flatMap fileC) (flat_length fileC_length ms) (fun j u hj => by
    have hjl := (List.getElem?_eq_some_iff.1 hj).1
    rw [flat_length fileC_length] at hjl
    obtain ⟨g, o, e, _, _, hc⟩ := hR (by omega)
    injection e with e
    subst e
    rw [Addr.add_lit]
    exact hc j u hj) (fun u hu => by
    obtain ⟨x, _, hx⟩ := List.mem_flatMap.1 hu
    exact fileC_one x u hx) (by unfold maxLen; omega) (by omega) hbase
  rw [List.flatMap_append]
  exact ⟨v', w', hr, h2, h3, h5⟩
set_option maxHeartbeats 8000000 in
theorem rcrash10_calls (w : World) (D : Nat → Prop) (v : Value) (S : FS) (KA : Option Addr) (kc : Nat) (ks : List Bool) (h : StAt w D v S) (hS : S.Fit) (hK : RowT boolC w D KA ks) (hkl : ks.length ≤ 100000) :
  Calls Tryz.prog 73 #[v, .slice KA ks.length kc] w fun e w' => ∃ v', e = .returned v' ∧ StAt w' (DW D w) v' (S.crash ks) ∧ Below w.heap.size w w' := by
 obtain ⟨i1, hi1, hy0, hy1, hy2⟩ := info_parts infoFile
 have hcap := h.cap
 obtain ⟨A, c, vs, rfl, hr, ha⟩ := hcap
 have hb := ((Below.refl _ w).alloc (Nat.le_refl _) (.cells (stC A vs.length c S).toArray 51)).alloc (by simp) (.cells #[.slice none 0 0, .int .i64 0, .int .i64 0, .int .i64 0, .int .i64 0, .bool false] 51)
 have hx := (BxA.new w 51 (stC A vs.length c S)).alloc (.cells #[.slice none 0 0, .int .i64 0, .int .i64 0, .int .i64 0, .int .i64 0, .bool false] 51)
 have hz := bx_new2 w (.cells (stC A vs.length c S).toArray 51) 51 [.slice none 0 0, .int .i64 0, .int .i64 0, .int .i64 0, .int .i64 0, .bool false]
 have HR := hid (hr.below hb)
 have HA := hid (all2_imp (fun _ _ h => FileR.below h hb) ha)
 have HK := hid (hK.cap.below hb)
 have HB := hid hb
 have HX := hid hx
 have HZ := hid hz
 have HS := hid hS
 have HVl := hid (all2_len ha)
 have hfew : vs.length ≤ 8 := by rw [HVl.out]; exact hS.ok.few
 obtain ⟨W, hW⟩ : ∃ W, (w.alloc (.cells (stC A vs.length c S).toArray 51)).alloc (.cells #[.slice none 0 0, .int .i64 0, .int .i64 0, .int .i64 0, .int .i64 0, .bool false] 51) = W := ⟨_, rfl⟩
 rw [hW] at HR HA HK HB HX HZ
 have HWs : Hid (W.heap.size = w.heap.size + 1 + 1) := hid (by rw [← hW]; simp)
 have HN := hid (rnew10_calls W)
 clear hr ha hb hx hz hS hK h
 unfold stV stC at *
 go_enter Tryz.func73, Tryz.ntmps73
 go_wp2_with fail
 clear hW
 refine HN.out.mono ?_
 rintro e w1 ⟨rfl, hb1⟩
 have HB1 := hid hb1
 have hx := HX.out.below hb1
 have x0 := hx.c 0 rfl
 have x1 := hx.c 1 rfl
 have x2 := hx.c 2 rfl
 have hg1 : w.heap.size < w1.heap.size := by have := HWs.out; have := hb1.size; omega
 clear hx hb1 HN
 go_wp2_with fail
 have HO2 : Hid (BxA (w1.alloc (.cells #[.slice none 0 0, .int .i64 (S.no : Int), .int .i64 (S.ops : Int), .int .i64 (-1), .int .i64 (-1), .bool false] 51)) w1.heap.size 51 [.slice none 0 0, .int .i64 (S.no : Int), .int .i64 (S.ops : Int), .int .i64 (-1), .int .i64 (-1), .bool false]) := hid (BxA.new w1 _ [.slice none 0 0, .int .i64 (S.no : Int), .int .i64 (S.ops : Int), .int .i64 (-1), .int .i64 (-1), .bool false])
 have hb2 : Below W.heap.size W (w1.alloc (.cells #[.slice none 0 0, .int .i64 (S.no : Int), .int .i64 (S.ops : Int), .int .i64 (-1), .int .i64 (-1), .bool false] 51)) := HB1.out.alloc HB1.out.size _
 have HR2 := hid (HR.out.below hb2)
 have HA2 := hid (all2_imp (fun _ _ h => FileR.below h hb2) HA.out)
 have HK2 := hid (HK.out.below hb2)
 have HX2 := hid (HX.out.below hb2)
 have HZ2 := hid (HZ.out.below hb2)
 have HB2 := hid (HB.out.trans (hb2.mono HB.out.size))
 obtain ⟨W2, hW2⟩ : ∃ W2, w1.alloc (.cells #[.slice none 0 0, .int .i64 (S.no : Int), .int .i64 (S.ops : Int), .int .i64 (-1), .int .i64 (-1), .bool false] 51) = W2 := ⟨_, rfl⟩
 rw [hW2] at HO2 hb2 HR2 HA2 HK2 HX2 HZ2 HB2 ⊢
 have HW2s : Hid (W2.heap.size = w1.heap.size + 1) := hid (by rw [← hW2]; simp)
 have HW1s : Hid (w.heap.size + 2 ≤ w1.heap.size) := hid (by have := HWs.out; have := HB1.out.size; omega)
 clear hb2 hW2 x0 x1 x2 HX HZ HR HA HK HB1 hg1
 go_loopw [6, 7, 8, 9] (fun v6 v7 v8 v9 wr => ∃ (k : Nat) (acc : List FileV) (AL : Option Addr) (cL : Nat) (Bk : Nat → Prop), k ≤ vs.length ∧ v6 = .int .i64 (k : Int) ∧ Hid (BxA wr w1.heap.size 51 [.slice AL acc.length cL, .int .i64 (S.no : Int), .int .i64 (S.ops : Int), .int .i64 (-1), .int .i64 (-1), .bool false]) ∧
  Hid (wr.ownsRow W2.heap.size 130 3 (.slice AL acc.length cL) acc.length (acc.flatMap fileC)) ∧ Hid (All2 (FileR wr (fun i => (D i ∧ i < w.heap.size) ∨ Bk i)) acc ((S.l.take k).map (FS.crash1 S.l ks))) ∧
  Hid (∀ i, Bk i → W2.heap.size ≤ i ∧ i < wr.heap.size ∧ ∀ a, AL = some a → a.block ≠ i) ∧ Hid (Only (fun i => i = w1.heap.size) W2 wr)) (fun v6 _ _ _ _ => vs.length - (intOf v6).toNat)
 case atStart => exact ⟨0, [], none, 0, fun _ => False, Nat.zero_le _, rfl, HO2, hid (World.ownsRow_nil _ _ _ _), hid (by rw [List.take_zero]; exact .nil), hid (fun _ h => h.elim), hid (Only.refl _ _)⟩
 case round =>
  obtain ⟨k, acc, AL, cL, Bk, hk, rfl, HO, HOw, HAc, HBk, HOn⟩ := hrel
  have hws := HW2s.out
  have hw1 := HW1s.out
  have hon := HOn.out
  have hx := HX2.out.keep hon (by omega)
  have x0 := hx.c 0 rfl
  have x1 := hx.c 1 rfl
  have x2 := hx.c 2 rfl
  have x3 := hx.c 3 rfl
  have x4 := hx.c 4 rfl
  have x5 := hx.c 5 rfl
  have hd0 : ∀ i, (D i ∧ i < w.heap.size) → ¬ i = w1.heap.size := fun i hi => by omega
  have hR := HR2.out.keep hon hd0
  have hA := all2_imp (fun _ _ h => FileR.keep h hon hd0) HA2.out
  have HKr := hid (HK2.out.keep hon hd0)
  have hgs : w.heap.size < wr.heap.size := by have := hon.size; omega
  have hgo : w1.heap.size < wr.heap.size := by have := hon.size; omega
  have HXr := hid hx
  have HRr := hid hR
  have HAr := hid hA
  clear hx hon hd0 hR hA
  by_cases hlt : k < vs.length
  ·obtain ⟨g, o, q, rfl, hg, hq, c0, c1, c2⟩ := file_at HRr.out hlt
   obtain ⟨f, hf, hfr⟩ := all2_get HAr.out hq
   have hkl2 : (k : Int) < (vs.length : Int) := by omega
   have HFr := hid hfr
   have HF := hid hf
   have HQk := hid hq
   clear hq hf hfr hws hw1
   go_wp2_with fail
   go_region
   go_wp2_with fail
   obtain ⟨wo, rfl⟩ : ∃ wo, wo = wr := ⟨wr, rfl⟩
   have hbF : Below wo.heap.size wo (wo.alloc (.cells #[.string q.name, .slice q.A q.n q.c, .slice none 0 0] 130)).drew := ((Below.refl wo.heap.size wo).alloc (Nat.le_refl _) (.cells #[.string q.name, .slice q.A q.n q.c, .slice none 0 0] 130)).drew
   have hxF : BxA (wo.alloc (.cells #[.string q.name, .slice q.A q.n q.c, .slice none 0 0] 130)).drew wo.heap.size 130 [.string q.name, .slice q.A q.n q.c, .slice none 0 0] := BxA.new wo _ [.string q.name, .slice q.A q.n q.c, .slice none 0 0]
   have HXs := hid (HXr.out.below hbF)
   have HRs := hid (HRr.out.below hbF)
   have HAs := hid (all2_imp (fun _ _ h => FileR.below h hbF) HAr.out)
   have HKs := hid (HKr.out.below hbF)
   have HFs := hid (HFr.out.below hbF)
   have HBF := hid hbF
   have HXF := hid hxF
   obtain ⟨ws, hws⟩ : ∃ ws, (wo.alloc (.cells #[.string q.name, .slice q.A q.n q.c, .slice none 0 0] 130)).drew = ws := ⟨_, rfl⟩
   rw [hws] at HXs HRs HAs HKs HFs HBF HXF ⊢
   have HWs5 : Hid (ws.heap.size = wo.heap.size + 1) := hid (by rw [← hws]; show (wo.alloc (.cells #[.string q.name, .slice q.A q.n q.c, .slice none 0 0] 130)).heap.size = _; simp)
   obtain ⟨ps, hps, hpa⟩ := HFs.out.row
   have HPs := hid hps
   have HPa := hid hpa
   have HPl := hid (all2_len hpa)
   have hrn := HFs.out.rn
   have hqb : q.n = f.b.length := HFs.out.n
   have hfm : f ∈ S.l := List.mem_of_getElem? HF.out
   have hBeh := hid (HS.out.ok.beh f hfm)
   have hSiz := hid (HS.out.ok.siz f hfm)
   have hrl := HS.out.rows f hfm
   rw [hrn] at c2
   rw [hqb] at HXF
   have HC2 := hid c2
   clear hws hbF hxF hps hpa hrn hqb hfm x0 x1 x2 x3 x4 x5 c0 c1 c2
   go_loopw [8, 9] (fun v8 v9 wq => ∃ (j : Nat) (UA : Option Addr) (uc : Nat), j ≤ f.row.length ∧ v8 = .int .i64 (j : Int) ∧ Hid (BxA wq wo.heap.size 130 [.string q.name, .slice UA (crJ (fun p => FS.kept ks (FS.rank S.l p.no)) f j).length uc, .slice none 0 0]) ∧
    Hid (ByR wq (fun i => (D i ∧ i < w.heap.size) ∨ ws.heap.size ≤ i) UA (crJ (fun p => FS.kept ks (FS.rank S.l p.no)) f j)) ∧ Hid (UA = none → uc = 0) ∧ Hid (Only (fun i => i = wo.heap.size) ws wq)) (fun v8 _ _ => f.row.length - (intOf v8).toNat)
   case atStart => exact ⟨0, q.A, q.c, Nat.zero_le _, rfl, HXF, hid (HFs.out.rd.mono (fun _ h => .inl h)), hid HFs.out.nil, hid (Only.refl _ _)⟩
   case round =>
    obtain ⟨j, UA, uc, hj, rfl, HXj, HUj, HUn, HOj⟩ := hrel
    have hoj := HOj.out
    have hs5 := HWs5.out
    have hx := HXs.out.keep hoj (by omega)
    have x0 := hx.c 0 rfl
    have x1 := hx.c 1 rfl
    have x2 := hx.c 2 rfl
    have x3 := hx.c 3 rfl
    have x4 := hx.c 4 rfl
    have x5 := hx.c 5 rfl
    have hd1 : ∀ i, (D i ∧ i < w.heap.size) → ¬ i = wo.heap.size := fun i hi => by omega
    have HRq := hid (HRs.out.keep hoj hd1)
    have HAq := hid (all2_imp (fun _ _ h => FileR.keep h hoj hd1) HAs.out)
    have HKq := hid (HKs.out.keep hoj hd1)
    have HPq := hid (HPs.out.keep hoj hd1)
    have HPaq := hid (all2_imp (fun _ _ h => PartR.keep h hoj hd1) HPa.out)
    have HXq := hid hx
    have hgq : wo.heap.size < wo.heap.size + 1 := Nat.lt_succ_self _
    obtain ⟨g', o', q', e', hg', hq', d0, d1, d2⟩ := file_at HRq.out hlt
    obtain rfl : q' = q := Option.some.inj (hq'.symm.trans HQk.out)
    injection e' with e'
    injection e' with e1 e2
    subst e1; subst e2
    have hrn := HFs.out.rn
    rw [hrn] at d2
    have hgw : w.heap.size < wr.heap.size := HXq.out.lt
    have hgo2 : wo.heap.size < wr.heap.size := HXj.out.lt
    clear hx hd1 hq' d0 d1 hrn hoj
    by_cases hjl : j < f.row.length
    ·obtain ⟨g2, o2, pv, hR2, hg2, hpv, p0, p1, p2⟩ := part_at HPq.out (k := j) (by rw [HPl.out]; exact hjl)
     obtain ⟨p, hp, hpr⟩ := all2_get HPaq.out hpv
     have hjli : (j : Int) < (f.row.length : Int) := by omega
     rw [hR2] at d2
     have HJs := hid (crJ_s (q := fun p => FS.kept ks (FS.rank S.l p.no)) hp)
     have HJl := hid (crJ_len (q := fun p => FS.kept ks (FS.rank S.l p.no)) hBeh.out hp)
     have HPr := hid hpr
     have HAt : Hid (p.at_ + p.b.length ≤ 65536) := hid (by
      have h1 := behind_at f.row _ j p hBeh.out hp
      have h2 := hSiz.out
      rw [FileF.all_is hBeh.out, List.length_append] at h2
      have h3 := flat_take_le f.row (j + 1)
      have h4 : (((f.row.take (j + 1)).map PartF.b).flatten).length = (((f.row.take j).map PartF.b).flatten).length + p.b.length := by rw [List.take_add_one, hp]; simp
      omega)
     have hbP : Below wr.heap.size wr (wr.alloc (.cells #[.int .i64 (pv.no : Int), .int .i64 (pv.at_ : Int), .slice pv.A pv.n pv.c] 151)) := (Below.refl _ wr).alloc (Nat.le_refl _) (.cells #[.int .i64 (pv.no : Int), .int .i64 (pv.at_ : Int), .slice pv.A pv.n pv.c] 151)
     have HXj1 := hid (HXj.out.below hbP)
     have HUj1 := hid (HUj.out.below hbP)
     have HOj1 := hid (HOj.out.alloc (.cells #[.int .i64 (pv.no : Int), .int .i64 (pv.at_ : Int), .slice pv.A pv.n pv.c] 151))
     have HBP := hid hbP
     have HXP : Hid (BxA (wr.alloc (.cells #[.int .i64 (pv.no : Int), .int .i64 (pv.at_ : Int), .slice pv.A pv.n pv.c] 151)) wr.heap.size 151 [.int .i64 (pv.no : Int), .int .i64 (pv.at_ : Int), .slice pv.A pv.n pv.c]) := hid (BxA.new wr _ [.int .i64 (pv.no : Int), .int .i64 (pv.at_ : Int), .slice pv.A pv.n pv.c])
     clear hpv hp hpr hR2 hbP
     by_cases hk0 : ks.length = 0
     ·have m1 : decide ((0 : Int) < (ks.length : Int)) = false := decide_eq_false (by omega)
      have m2 : decide (0 < ks.length) = false := decide_eq_false (by omega)
      have m3 : ¬ 0 < ks.length := by omega
      have HJ2 : Hid (crJ (fun p => FS.kept ks (FS.rank S.l p.no)) f (j + 1) = (crJ (fun p => FS.kept ks (FS.rank S.l p.no)) f j)) := hid (by rw [HJs.out]; unfold FS.kept; rw [decide_eq_false (p := 0 < ks.length) (by omega), Bool.false_and, if_neg (by simp)])
      clear hk0
      go_wp2_with fail
      go_roundw
      case rel => exact ⟨j + 1, UA, uc, by omega, by go_num, by rw [HJ2.out]; exact HXj1, by rw [HJ2.out]; exact HUj1, HUn, HOj1⟩
      case measure => simp [intOf]; omega
     ·have m1 : decide ((0 : Int) < (ks.length : Int)) = true := decide_eq_true (by omega)
      have m2 : decide (0 < ks.length) = true := decide_eq_true (by omega)
      have m3 : 0 < ks.length := by omega
      have hst : StAt (wr.alloc (.cells #[.int .i64 (pv.no : Int), .int .i64 (pv.at_ : Int), .slice pv.A pv.n pv.c] 151)) (fun i => D i ∧ i < w.heap.size) (.agg #[.slice (some ⟨g, o, none⟩) vs.length c, .int .i64 (S.no : Int), .int .i64 (S.ops : Int), .int .i64 S.fuse, .int .i64 S.fault, .bool S.down]) S := ⟨some ⟨g, o, none⟩, c, vs, rfl, HRq.out.below HBP.out, all2_imp (fun _ _ h => FileR.below h HBP.out) HAq.out⟩
      have HRk := hid (rrank10_calls (wr.alloc (.cells #[.int .i64 (pv.no : Int), .int .i64 (pv.at_ : Int), .slice pv.A pv.n pv.c] 151)) _ _ S p.no hst HS.out.ok.few (fun f hf => HS.out.rows f hf))
      have hno := HPr.out.no
      rw [← hno] at HRk
      have HNo := hid hno
      clear hst hno
      go_wp2_with fail
      refine HRk.out.mono ?_
      rintro e w5 ⟨rfl, hb5⟩
      have hrk : FS.rank S.l pv.no = FS.rank S.l p.no := by rw [HNo.out]
      rw [hrk]
      have hrl2 : FS.rank S.l p.no ≤ 800000 := by
       have h1 := rank_le S.l p.no 100000 (fun f hf => HS.out.rows f hf) S.l.length (Nat.le_refl _)
       rw [List.take_length] at h1
       have := HS.out.ok.few
       omega
      have hmlt : FS.rank S.l p.no % ks.length < ks.length := Nat.mod_lt _ m3
      have HJ3 : Hid (crJ (fun p => FS.kept ks (FS.rank S.l p.no)) f (j + 1) = if ks.getD (FS.rank S.l p.no % ks.length) false = true then overL (crJ (fun p => FS.kept ks (FS.rank S.l p.no)) f j) p else (crJ (fun p => FS.kept ks (FS.rank S.l p.no)) f j)) := hid (by
       rw [HJs.out]
       unfold FS.kept
       rw [m2, Bool.true_and])
      have hb5p := HBP.out.trans (hb5.mono HBP.out.size)
      obtain ⟨gk, ok, hKA, hgk, ck⟩ := bool_at (HKq.out.below hb5p) hmlt
      have htm : Int.tmod (FS.rank S.l p.no : Int) (ks.length : Int) = ((FS.rank S.l p.no % ks.length : Nat) : Int) := (Int.ofNat_tmod _ _).symm
      have hem : (FS.rank S.l p.no : Int) % (ks.length : Int) = ((FS.rank S.l p.no % ks.length : Nat) : Int) := rfl
      have hwr : IntKind.i64.wrap ((FS.rank S.l p.no % ks.length : Nat) : Int) = ((FS.rank S.l p.no % ks.length : Nat) : Int) := IntWalk.i64_in _ (by omega)
      have hz0 : ((ks.length : Int) == 0) = false := beq_eq_false_iff_ne.2 (by omega)
      have HXP5 := hid (HXP.out.below hb5)
      have HXj5 := hid (HXj1.out.below hb5)
      have HUj5 := hid (HUj1.out.below hb5)
      have HPr5 := hid (HPr.out.keep (R' := fun _ => False) (Only.of_below hb5p) (fun _ _ h => h))
      have HOj5 : Hid (Only (fun i => i = wo.heap.size) ws w5) := hid (HOj1.out.trans (Only.of_below (R := fun i => i = wo.heap.size) hb5) (fun _ h => .inl h))
      have hs55 : ws.heap.size ≤ w5.heap.size := HOj5.out.size
      have hmli : ((FS.rank S.l p.no % ks.length : Nat) : Int) < (ks.length : Int) := by omega
      subst hKA
      clear hrk hrl2 hb5 hb5p HRk x0 x1 x2 x3 x4 x5 p0 p1 p2 d2 hgw hgo2
      generalize FS.rank S.l p.no % ks.length = m at *
      cases hkv : ks.getD m false with
      | false =>
       rw [hkv, if_neg (by simp)] at HJ3
       rw [hkv] at ck
       clear hkv
       go_wp2_with fail
       go_roundw
       case rel => exact ⟨j + 1, UA, uc, by omega, by go_num, by rw [HJ3.out]; exact HXj5, by rw [HJ3.out]; exact HUj5, HUn, HOj5⟩
       case measure => simp [intOf]; omega
      | true =>
       rw [hkv, if_pos rfl] at HJ3
       rw [hkv] at ck
       clear hkv
       have HOv := hid (rover10_calls w5 UA uc _ _ pv p (ByR.byt HUj5.out) HUn.out HPr5.out HJl.out (by have := HAt.out; omega))
       have hxj := HXj5.out
       have a1 := hxj.c 1 rfl
       have hxp := HXP5.out
       have u0 := hxp.c 0 rfl
       have u1 := hxp.c 1 rfl
       have u2 := hxp.c 2 rfl
       clear hxj hxp
       go_wp2_with fail
       refine HOv.out.mono ?_
       rintro e w6 ⟨u, rfl, hown, hb6⟩
       obtain ⟨UB, ub, rfl⟩ := own_form hown
       have hxj := HXj5.out.below hb6
       have a1 := hxj.c 1 rfl
       have b1 := hxj.free 1
       have hgl := hxj.lt
       have hs5 := HWs5.out
       have hub : UB = none → ub = 0 := fun e => by
        subst e
        rcases hown.2 with ⟨hv, _⟩ | ⟨_, _, _, hv, _⟩
        ·injection hv
        ·injection hv with h1; cases h1
       have hoS : Only (fun i => i = wo.heap.size) w6 (w6.setCell ⟨wo.heap.size, 1, none⟩ (.slice UB (overL (crJ (fun p => FS.kept ks (FS.rank S.l p.no)) f j) p).length ub)) := (Only.refl (fun i => i = wo.heap.size) w6).set (p := ⟨wo.heap.size, 1, none⟩) (.inl rfl) _
       have HX6 := hid (hxj.set 1 (.slice UB (overL (crJ (fun p => FS.kept ks (FS.rank S.l p.no)) f j) p).length ub))
       have hur : ByR w6 (fun i => (D i ∧ i < w.heap.size) ∨ ws.heap.size ≤ i) UB (overL (crJ (fun p => FS.kept ks (FS.rank S.l p.no)) f j) p) := byR_of_own hown (fun gg hg => .inr (Nat.le_trans hs55 (hown.lt gg hg).1))
       have HU6 := hid (hur.keep hoS (fun i hi => by
        have hi' : (D i ∧ i < w.heap.size) ∨ ws.heap.size ≤ i := hi
        omega))
       have HN6 := hid hub
       have HO6 := hid ((HOj5.out.trans (Only.of_below (R := fun i => i = wo.heap.size) hb6) (fun _ h => .inl h)).trans hoS (fun _ h => .inl h))
       clear hown hb6 hxj hub hur hoS HOv hs5
       go_wp2_with fail
       go_roundw
       case rel => exact ⟨j + 1, UB, ub, by omega, by go_num, by rw [HJ3.out]; exact HX6, by rw [HJ3.out]; exact HU6, HN6, HO6⟩
       case measure => simp [intOf]; omega
    ·obtain rfl : j = f.row.length := by omega
     have hall : crJ (fun p => FS.kept ks (FS.rank S.l p.no)) f f.row.length = ((f.row.filter fun p => FS.kept ks (FS.rank S.l p.no)).foldl overL f.b) := by unfold crJ; rw [List.take_length]
     rw [hall] at HXj HUj
     have HCr : Hid (FS.crash1 S.l ks f = ⟨f.name, ((f.row.filter fun p => FS.kept ks (FS.rank S.l p.no)).foldl overL f.b), []⟩) := hid rfl
     clear hall
     generalize ((f.row.filter fun p => FS.kept ks (FS.rank S.l p.no)).foldl overL f.b) = by_ at *
     have hoj := HOj.out
     have hs5 := HWs5.out
     have hws2 := HW2s.out
     have hw1 := HW1s.out
     have hon := HOn.out.size
     have hor := (HO.out.below HBF.out).keep hoj (by omega)
     have k0 := hor.c 0 rfl
     have k0f := hor.free 0
     have hAb : ∀ a, AL = some a → W2.heap.size ≤ a.block ∧ a.block < wo.heap.size := fun a e => by
      subst e
      exact HOw.out.lt a.block rfl
     have hown := own_only3 (own_below HOw.out HBF.out) hoj (fun gg hg e => by
      cases AL with
      | none => cases hg
      | some a =>
       injection hg with hg
       have := hAb a rfl
       omega)
     have hc0 := HXj.out.c 0 rfl
     have hc1 := HXj.out.c 1 rfl
     have hc2 := HXj.out.c 2 rfl
     have HOR := hid hor
     have HAb := hid hAb
     have HOwn := hid hown
     have HAlen : Hid (acc.length ≤ 8) := hid (by
      have h1 := all2_len HAc.out
      rw [List.length_map, List.length_take] at h1
      omega)
     have HSiz : Hid (wo.heap.size + 1 ≤ wr.heap.size) := hid (by have := hoj.size; omega)
     obtain ⟨i9, hi9, hy9, hy8, hy7⟩ := info_parts infoFile
     have hjj := HSiz.out
     clear hor hAb hown x1 x2 x3 x4 x5 hoj hs5 hws2 hw1 hon
     have hfv : RowT fileC (wr.alloc (.cells #[.string q'.name, .slice UA by_.length uc, .slice none 0 0] 130)) (fun _ => True) (some ⟨wr.heap.size, 0, none⟩) [⟨q'.name, UA, by_.length, uc, none, 0, 0⟩] := fun _ => ⟨wr.heap.size, 0, rfl, trivial, by simp, fun jj u hu => by
      have hq := BxA.new wr 130 (fileC ⟨q'.name, UA, by_.length, uc, none, 0, 0⟩)
      rw [Nat.zero_add]
      exact hq.c jj (by simpa using hu)⟩
     obtain ⟨v', w7, hrun, hown7, hgrow, hat⟩ := run_append_F (wr.alloc (.cells #[.string q'.name, .slice UA by_.length uc, .slice none 0 0] 130)) W2.heap.size i9 hi9 hy9 hy8 hy7 (.slice AL acc.length cL) acc.length acc rfl (own_below HOwn.out ((Below.refl _ wr).alloc (Nat.le_refl _) (.cells #[.string q'.name, .slice UA by_.length uc, .slice none 0 0] 130))) (some ⟨wr.heap.size, 0, none⟩) 1 1 [⟨q'.name, UA, by_.length, uc, none, 0, 0⟩] rfl (fun e => by cases e) hfv (by have := HAlen.out; omega) (by have := HOn.out.size; simp; omega)
     have Hrun := hid hrun
     clear hrun hfv
     obtain ⟨AN, cN, rfl⟩ := own_form hown7
     have hs5 := HWs5.out
     have hws2 := HW2s.out
     have hw1 := HW1s.out
     have hon := HOn.out.size
     have hsz := HSiz.out
     have hlt' := fun i (hi : (Value.slice AL acc.length cL).ownBlock = some i) => HOw.out.lt i hi
     have hbA : Below wr.heap.size wr (wr.alloc (.cells #[.string q'.name, .slice UA by_.length uc, .slice none 0 0] 130)) := (Below.refl _ wr).alloc (Nat.le_refl _) (.cells #[.string q'.name, .slice UA by_.length uc, .slice none 0 0] 130)
     have hoA : Only (fun i => (Value.slice AL acc.length cL).ownBlock = some i) (wr.alloc (.cells #[.string q'.name, .slice UA by_.length uc, .slice none 0 0] 130)) w7 := Only.of_grown hgrow (fun kk e => e)
     have hor7 : BxA w7 w1.heap.size 51 [.slice AL acc.length cL, .int .i64 (S.no : Int), .int .i64 (S.ops : Int), .int .i64 (-1), .int .i64 (-1), .bool false] := (HOR.out.below hbA).keep hoA (fun hi => by have := hlt' _ hi; omega)
     have o4 : Only (fun i => i = wo.heap.size ∨ (Value.slice AL acc.length cL).ownBlock = some i ∨ i = w1.heap.size) wo w7 := (((Only.of_below (R := fun i => i = wo.heap.size ∨ (Value.slice AL acc.length cL).ownBlock = some i ∨ i = w1.heap.size) HBF.out).trans HOj.out (fun i hi => .inl (.inl hi))).alloc (.cells #[.string q'.name, .slice UA by_.length uc, .slice none 0 0] 130)).trans hoA (fun i hi => .inl (.inr (.inl hi)))
     have o5 := o4.set (p := ⟨w1.heap.size, 0, none⟩) (.inl (.inr (.inr rfl))) (.slice AN (acc.length + 1) cN)
     have o6 : Only (fun i => (Value.slice AL acc.length cL).ownBlock = some i ∨ i = w1.heap.size) wr w7 := ((Only.refl (fun i => (Value.slice AL acc.length cL).ownBlock = some i ∨ i = w1.heap.size) wr).alloc (.cells #[.string q'.name, .slice UA by_.length uc, .slice none 0 0] 130)).trans hoA (fun i hi => .inl (.inl hi))
     have o7 := o6.set (p := ⟨w1.heap.size, 0, none⟩) (.inl (.inr rfl)) (.slice AN (acc.length + 1) cN)
     have HO8 := hid (hor7.set 0 (.slice AN (acc.length + 1) cN))
     have hown8 := own_setCell hown7 (a := ⟨w1.heap.size, 0, none⟩) (by show w1.heap.size < W2.heap.size; omega) (.slice AN (acc.length + 1) cN)
     have hbk := HBk.out
     have hall8 : All2 (FileR (w7.setCell ⟨w1.heap.size, 0, none⟩ (.slice AN (acc.length + 1) cN)) (fun i => (D i ∧ i < w.heap.size) ∨ (Bk i ∨ (ws.heap.size ≤ i ∧ i < wr.heap.size)))) (acc ++ [⟨q'.name, UA, by_.length, uc, none, 0, 0⟩]) ((S.l.take (k + 1)).map (FS.crash1 S.l ks)) := by
      rw [List.take_add_one, HF.out, List.map_append]
      refine all2_append (all2_imp (fun _ _ h => (FileR.keep h o5 (fun i hi e => ?_)).mono (fun i hi => hi.imp id .inl)) HAc.out) (.cons ?_ .nil)
      ·rcases hi with hi | hi
       ·rcases e with e | e | e
        ·omega
        ·have := hlt' i e; omega
        ·omega
       ·have h1 := hbk i hi
        rcases e with e | e | e
        ·omega
        ·cases AL with
         | none => cases e
         | some a =>
          injection e with e
          exact h1.2.2 a rfl e
        ·omega
      ·rw [HCr.out]
       refine ⟨HFs.out.name, rfl, ?_, HUn.out, rfl, fun _ => rfl, [], fun h => absurd h (Nat.lt_irrefl 0), .nil⟩
       refine (RowT.keep (RowT.cap HUj.out) o7 (fun i hi e => ?_)).mono (fun i hi => ?_)
       ·obtain ⟨hi1, hi2⟩ := hi
        rcases e with e | e
        ·have h1 := hlt' i e
         rcases hi1 with h | h <;> omega
        ·rcases hi1 with h | h <;> omega
       ·exact hi.1.imp id (fun h => .inr ⟨h, hi.2⟩)
     have hbk8 : ∀ i, (Bk i ∨ (ws.heap.size ≤ i ∧ i < wr.heap.size)) → W2.heap.size ≤ i ∧ i < (w7.setCell ⟨w1.heap.size, 0, none⟩ (.slice AN (acc.length + 1) cN)).heap.size ∧ ∀ a, AN = some a → a.block ≠ i := fun i hi => by
      have h7 := o7.size
      refine ⟨?_, ?_, fun a ea e => ?_⟩
      ·rcases hi with hi | hi
       ·exact (hbk i hi).1
       ·omega
      ·rcases hi with hi | hi
       ·have := (hbk i hi).2.1; omega
       ·omega
      ·subst ea
       rcases hat with h | h
       ·have h1 := hlt' a.block h.symm
        rcases hi with hi | hi
        ·cases AL with
         | none => cases h
         | some a0 =>
          injection h with h
          exact (hbk i hi).2.2 a0 rfl (by rw [← e]; exact h.symm)
        ·omega
       ·injection h with h
        rw [World.size_alloc] at h
        rcases hi with hi | hi
        ·have := (hbk i hi).2.1; omega
        ·omega
     have HBk8 := hid hbk8
     have HAc8 := hid hall8
     have HOn8 : Hid (Only (fun i => i = w1.heap.size) W2 (w7.setCell ⟨w1.heap.size, 0, none⟩ (.slice AN (acc.length + 1) cN))) := hid (HOn.out.trans o5 (fun i hi => by
      rcases hi with hi | hi | hi
      ·right; omega
      ·right; exact (hlt' i hi).1
      ·exact .inl hi))
     have HOw8 : Hid ((w7.setCell ⟨w1.heap.size, 0, none⟩ (.slice AN (acc.length + 1) cN)).ownsRow W2.heap.size 130 3 (.slice AN (acc ++ [(⟨q'.name, UA, by_.length, uc, none, 0, 0⟩ : FileV)]).length cN) (acc ++ [(⟨q'.name, UA, by_.length, uc, none, 0, 0⟩ : FileV)]).length ((acc ++ [(⟨q'.name, UA, by_.length, uc, none, 0, 0⟩ : FileV)]).flatMap fileC)) := hid (by
      rw [List.length_append]
      exact hown8)
     have k70 := hor7.c 0 rfl
     have k7f := hor7.free 0
     have hgl7 := hor7.lt
     clear hs5 hws2 hw1 hon hsz hlt' hbA hoA hor7 o4 o5 o6 o7 hown8 hown7 hgrow hbk hall8 hbk8 hat
     go_wp2_with (at_builtin; refine wpList_append_g (o := ⟨some 81, _, _, _, _, _⟩) (by kernel_rfl) (.tmp 78) (.tmp 80) 49 rfl _ _ rfl rfl Hrun.out ?_)
     go_wp2_with fail
     go_roundw
     case rel => exact ⟨k + 1, acc ++ [(⟨q'.name, UA, by_.length, uc, none, 0, 0⟩ : FileV)], AN, cN, fun i => Bk i ∨ (ws.heap.size ≤ i ∧ i < wr.heap.size), by omega, by go_num, by rw [List.length_append]; exact HO8, HOw8, HAc8, HBk8, HOn8⟩
     case measure => simp [intOf]; omega
  ·obtain rfl : k = vs.length := by omega
   have hAc := HAc.out
   rw [HVl.out, List.take_length] at hAc
   have hzr := HZ2.out.keep HOn.out (by omega)
   have hor := HO.out
   have hoz := six_only wr (w.heap.size + 1) (.slice AL acc.length cL) (.int .i64 (S.no : Int)) (.int .i64 (S.ops : Int)) (.int .i64 (-1)) (.int .i64 (-1)) (.bool false)
   have hzz := six_box hzr (.slice AL acc.length cL) (.int .i64 (S.no : Int)) (.int .i64 (S.ops : Int)) (.int .i64 (-1)) (.int .i64 (-1)) (.bool false)
   have hdd : ∀ i, ((D i ∧ i < w.heap.size) ∨ Bk i) → ¬ i = w.heap.size + 1 := fun i hi => by
    rcases hi with hi | hi
    ·omega
    ·have := (HBk.out i hi).1; omega
   have hrow := (rowT_of_own (C := fileC) (R := fun i => Bk i ∨ W2.heap.size ≤ i) HOw.out (fun g hg => .inr (HOw.out.lt g hg).1)).keep hoz (fun i hi e => by
    rcases hi with hi | hi
    ·have := (HBk.out i hi).1; omega
    ·omega)
   have hall := all2_imp (fun _ _ h => FileR.keep h hoz hdd) hAc
   have hst : StAt (six wr (w.heap.size + 1) (.slice AL acc.length cL) (.int .i64 (S.no : Int)) (.int .i64 (S.ops : Int)) (.int .i64 (-1)) (.int .i64 (-1)) (.bool false)) (DW D w) (.agg #[.slice AL acc.length cL, .int .i64 (S.no : Int), .int .i64 (S.ops : Int), .int .i64 (-1), .int .i64 (-1), .bool false]) (S.crash ks) :=
    ⟨AL, cL, acc, rfl, hrow.mono (fun i hi => .inr (by
     rcases hi with hi | hi
     ·have := (HBk.out i hi).1; omega
     ·omega)), all2_imp (fun _ _ h => h.mono (fun i hi => by
     rcases hi with hi | hi
     ·exact .inl hi.1
     ·right; have := (HBk.out i hi).1; omega)) hall⟩
   have hB9 : Below w.heap.size w (six wr (w.heap.size + 1) (.slice AL acc.length cL) (.int .i64 (S.no : Int)) (.int .i64 (S.ops : Int)) (.int .i64 (-1)) (.int .i64 (-1)) (.bool false)) := (HB2.out.trans (HOn.out.below HB2.out.size (fun i e => by omega))).trans (hoz.below (Nat.le_trans HB2.out.size HOn.out.size) (fun i e => by omega))
   have HSt := hid hst
   have HB9 := hid hB9
   have HZz := hid hzz
   have hgz : w.heap.size + 1 < wr.heap.size := hzr.lt
   have hgo5 := hor.lt
   have q0 := hzr.c 0 rfl
   have q1 := hzr.c 1 rfl
   have q2 := hzr.c 2 rfl
   have q3 := hzr.c 3 rfl
   have q4 := hzr.c 4 rfl
   have q5 := hzr.c 5 rfl
   have g0 := hzr.free 0
   have g1 := hzr.free 1
   have g2 := hzr.free 2
   have g3 := hzr.free 3
   have g4 := hzr.free 4
   have g5 := hzr.free 5
   have n0 := hor.c 0 rfl
   have n1 := hor.c 1 rfl
   have n2 := hor.c 2 rfl
   have n3 := hor.c 3 rfl
   have n4 := hor.c 4 rfl
   have n5 := hor.c 5 rfl
   clear hAc hzr hor hoz hzz hdd hrow hall hst hB9 hws hw1
   go_wp2_with fail
   refine bodyPost_ret (results_st rfl _ _ (w.heap.size + 1) _ _ _ _ _ _ 51 rfl HZz.out Tryz.underlying51 (sizeState10 _)) rfl ?_
   exact ⟨_, rfl, HSt.out, HB9.out⟩
end
end Go.Proofs.YteafcaambnfdoaaGreatDoor
