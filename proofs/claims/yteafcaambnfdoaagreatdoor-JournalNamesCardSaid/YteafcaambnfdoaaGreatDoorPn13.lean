/-
  Layer 7 and what it stands on, part 13 (FileRd0 FileCrM FileRd1).
-/
import Derived.Test.YteafcaambnfdoaaGreatDoorPn12
import Derived.Lib.SliceRun
namespace Go.Proofs.YteafcaambnfdoaaGreatDoor
section
open Go Go.RowKit
set_option maxRecDepth 100000
theorem clone_b10 (w : World) (A : Option Addr) (c : Nat) (l : List UInt8) (hl : Byt w A l) (hA : A = none → c = 0) (hb : l.length ≤ 1000000000) :
    Calls Tryz.prog 81 #[.slice A l.length c] w fun e w' => ∃ A' c', e = .returned (.slice A' l.length c') ∧ w'.ownsRow w.heap.size 5 1 (.slice A' l.length c') l.length (Lib.byteCells l) ∧ Below w.heap.size w w' := by
  cases A with
  | none =>
    have hc := hA rfl
    subst hc
    have h0 : l = [] := by
      by_cases hn : 0 < l.length
      · obtain ⟨_, _, e, _⟩ := hl.at_ hn; cases e
      · exact List.eq_nil_of_length_eq_zero (by omega)
    subst h0
    have hq := Lib.run_eql_slice_nil (P := Tryz.prog) w 30 5 none 0 0 0 0 Tryz.underlying30
    clear hl hA hb
    show Calls _ _ #[.slice none 0 0] _ _
    go_enter Tryz.func81, Tryz.ntmps81
    go_wp2_with fail
    go_ret
    exact ⟨none, 0, rfl, World.ownsRow_nil _ _ _ _, Below.refl _ _⟩
  | some a =>
    have hq := Lib.run_eql_slice_nil (P := Tryz.prog) w 30 5 (some a) l.length c 0 0 Tryz.underlying30
    have hb0 : Below w.heap.size w (w.alloc (.cells #[] 5)) := (Below.refl _ w).alloc (Nat.le_refl _) _
    obtain ⟨i, hi, hz, hs, hy⟩ := info8_10
    obtain ⟨v', w', h1, h2, h3, h4⟩ := run_append_V (P := Tryz.prog) (V := bV) (fun _ => rfl) (w.alloc (.cells #[] 5)) w.heap.size 30 30 5 i _ 1 Tryz.underlying30 hi hz hs hy rfl (by decide) _ 0 [] rfl (own_empty w w.heap.size (Nat.le_refl _)) (some a) l.length c l rfl hA (rdV_byt (hl.below hb0)) (by simpa using Nat.le_trans hb (by decide)) (by rw [World.size_alloc]; omega)
    rw [List.nil_append, Nat.zero_add] at h2
    obtain ⟨A', c', rfl⟩ := own_form h2
    have HR : Hid (w'.ownsRow w.heap.size 5 1 (.slice A' l.length c') l.length (Lib.byteCells l) ∧ Below w.heap.size w w') := Lib.hid ⟨h2, by
      have hsz : (w.alloc (.cells #[] 5)).heap.size = w.heap.size + 1 := World.size_alloc w _
      refine ⟨h3.os.trans hb0.os, h3.tape.trans hb0.tape, h3.output.trans hb0.output, Nat.le_trans hb0.size h3.size, fun k hk => (h3.block k (by omega) (fun e => ?_)).trans (hb0.block k hk)⟩
      have e2 : k = w.heap.size := by
        have : (Value.slice (some ⟨w.heap.size, 0, none⟩) 0 0).ownBlock = some w.heap.size := rfl
        rw [this] at e
        injection e
      omega⟩
    have Hrun := Lib.hid h1
    clear hl hA hb hb0 hi hz hs hy h1 h2 h3 h4
    generalize l.length = n at *
    go_enter Tryz.func81, Tryz.ntmps81
    go_wp2_with (at_builtin; refine wpList_append_g (by rfl) (.tmp 5) (.tmp 6) 30 rfl _ _ rfl rfl Hrun.out ?_)
    go_wp2_with fail
    go_ret
    exact ⟨A', c', rfl, HR.out⟩
theorem fnew_at (w : World) : Calls Tryz.prog 13 #[] w fun e w' => ∃ b, e = .returned (.pointer (some ⟨b, 0, none⟩)) ∧ (∃ lab, FAt w' lab b FS.new ∧ ∀ k r, lab k = some r → w.heap.size ≤ k) ∧ Below w.heap.size w w' := by
  have hmm := @run_makeMap Tryz.prog
  go_enter Tryz.func13, Tryz.ntmps13
  go_wp2_with fail
  go_ret
  have hsz : (w.alloc (.map #[] 0)).heap.size = w.heap.size + 1 := World.size_alloc w _
  have hx := BxA.new (w.alloc (.map #[] 0)) 88 (fbx w.heap.size none 0 0 0 false (-1) (-1))
  have hb : Below w.heap.size w ((w.alloc (.map #[] 0)).alloc (.cells (fbx w.heap.size none 0 0 0 false (-1) (-1)).toArray 88)) := ((Below.refl _ w).alloc (Nat.le_refl _) _).alloc (by rw [hsz]; omega) _
  have hm := (MapAt.new (V := bodV) w).below ((Below.refl _ (w.alloc (.map #[] 0))).alloc (Nat.le_refl _) (.cells (fbx w.heap.size none 0 0 0 false (-1) (-1)).toArray 88))
  rw [hsz] at hx
  refine ⟨w.heap.size + 1, rfl, ⟨fun k => if k = w.heap.size then some 1 else if k = w.heap.size + 1 then some 0 else none, ?_, fun k r hk => ?_⟩, hb⟩
  · refine FAt.of (S := FS.new) (m := w.heap.size) (A := none) (c := 0) (ws := []) (qs := []) (am := -1) (fl := -1) (ops := 0) (dn := false) ⟨hx, by simp, ⟨fun k r hk => ?_, by simp, ⟨[], hm, .refl _⟩, World.ownsRow_nil _ _ _ _, fun k hk => (by cases hk), fun q hq => (by cases hq), List.nodup_nil, List.nodup_nil⟩⟩ Cs.new ⟨by decide, by decide, by decide⟩ ⟨by decide, by decide, by decide⟩ rfl rfl
    have : ((w.alloc (.map #[] 0)).alloc (.cells (fbx w.heap.size none 0 0 0 false (-1) (-1)).toArray 88)).heap.size = w.heap.size + 2 := by rw [World.size_alloc, hsz]
    show k < ((w.alloc (.map #[] 0)).alloc _).heap.size
    rw [World.size_alloc, hsz]
    split at hk
    · omega
    · split at hk
      · omega
      · cases hk
  · dsimp only at hk
    split at hk
    · omega
    · split at hk
      · omega
      · cases hk
section
variable (w : World) (lab : Lab) (b : Nat) (S : FS) (h : FAt w lab b S) (hS : S.Fit)
include h
theorem FAt.down_cell : w.cell? ⟨b, 3, none⟩ = some (.bool S.down) ∧ w.cell? ⟨b, 2, none⟩ = some (.int .i64 (S.ops : Int)) := by
  obtain ⟨m, A, c, ws, qs, am, fl, h1, _⟩ := h
  exact ⟨h1.box.c 3 rfl, h1.box.c 2 rfl⟩
theorem fdown_at : Calls Tryz.prog 21 #[fp b] w fun e w' => e = .returned (.bool S.down) ∧ Below w.heap.size w w' := by
  obtain ⟨c0, _⟩ := FAt.down_cell w lab b S h
  clear h
  go_enter Tryz.func21, Tryz.ntmps21
  go_wp2_with fail
  go_ret
  exact ⟨rfl, Below.refl _ _⟩
include hS
theorem fread_at (n : ByteArray) : Calls Tryz.prog 38 #[fp b, .string n] w fun e w' => ∃ u, e = .returned (.tuple #[u, .int .i64 (S.read n).2]) ∧ w'.ownsRow w.heap.size 5 1 u (S.read n).1.length (Lib.byteCells (S.read n).1) ∧ Below w.heap.size w w' := by
  obtain ⟨c0, _⟩ := FAt.down_cell w lab b S h
  have HL := Lib.hid (h.lack hS.ok.ris n)
  by_cases hd : S.down = true
  · have hres : S.read n = ([], 100) := by unfold FS.read; rw [if_pos hd]
    rw [hres]
    rw [hd] at c0
    clear h hS hres hd HL
    go_enter Tryz.func38, Tryz.ntmps38
    go_wp2_with fail
    go_ret2
    exact ⟨_, rfl, World.ownsRow_nil _ _ _ _, Below.refl _ _⟩
  · have hd0 : S.down = false := by simpa using hd
    rw [hd0] at c0
    cases hf : findF S.l n with
    | none =>
      have hres : S.read n = ([], 101) := by unfold FS.read; rw [if_neg hd, hf]
      rw [hf] at HL
      rw [hres]
      clear h hS hres hd hd0 hf
      go_enter Tryz.func38, Tryz.ntmps38
      go_wp2_with fail
      refine HL.out.mono ?_
      rintro e w1 ⟨rfl, rfl⟩
      go_wp2_with fail
      go_ret2
      exact ⟨_, rfl, World.ownsRow_nil _ _ _ _, Below.refl _ _⟩
    | some f =>
      have hres : S.read n = (f.all, 0) := by unfold FS.read; rw [if_neg hd, hf]
      rw [hf] at HL
      rw [hres]
      obtain ⟨m, A, c, ws, q, qs, am, fl, h1, _, rfl, hx, _⟩ := h.some_ hS.ok.ris hf
      have hsz := hS.ok.siz f ((findF_some hS.ok.ris).1 hf).1
      obtain ⟨ps, hm, hg⟩ := h1.fm.get List.mem_cons_self
      have hlk := look_has hm hg
      have c1 := h1.box.c 0 rfl
      have hq := h1.fm.bod q List.mem_cons_self
      have y0 := hq.box.c 0 rfl
      have ho := hq.own
      unfold QF.v at y0 ho
      obtain ⟨hby, _, _, _⟩ := byt_of_own ho
      have hnone : q.A = none → q.c = 0 := fun e => by
        rcases ho.2 with ⟨hv, _⟩ | ⟨g, cap, cur, hv, _⟩
        · injection hv
        · rw [e] at hv; cases hv
      have HC := Lib.hid (clone_b10 w q.A q.c q.x hby hnone (by rw [hx]; omega))
      rw [hx] at HC y0
      clear h hS hres hd hd0 hf h1 hx hm hg hq ho hby hnone hsz
      generalize hfl : f.all.length = n at *
      go_enter Tryz.func38, Tryz.ntmps38
      go_wp2_with fail
      refine HL.out.mono ?_
      rintro e w1 ⟨rfl, rfl⟩
      go_wp2_with fail
      refine HC.out.mono ?_
      rintro e w1 ⟨A', c', rfl, hown, hb⟩
      have HR := Lib.hid (And.intro hown hb)
      clear hown hb HC
      go_wp2_with fail
      go_ret2
      exact ⟨_, rfl, HR.out⟩
end
end
section
open Go Go.RowKit
set_option maxRecDepth 100000
/-- A file behind the first k writes of a crash. -/
def stQ (ks : List Bool) (ws : List WrF) (k : Nat) (q : QF) : QF := { q with x := (stepsC ks 0 (ws.take k) q.cf).x, s := (stepsC ks 0 (ws.take k) q.cf).s }
theorem stQ_zero (ks : List Bool) (ws : List WrF) (q : QF) : stQ ks ws 0 q = q := rfl
theorem stepC_take {ks : List Bool} {ws : List WrF} {k : Nat} {v : WrF} (h : ws[k]? = some v) (c : CF) : stepsC ks 0 (ws.take (k + 1)) c = stepC ks k v (stepsC ks 0 (ws.take k) c) := by
  have hk := (List.getElem?_eq_some_iff.1 h).1
  rw [List.take_add_one, h]
  show stepsC ks 0 (ws.take k ++ [v]) c = _
  rw [steps_snoc, List.length_take, Nat.min_eq_left (by omega), Nat.zero_add]
theorem stQ_cf (ks : List Bool) (ws : List WrF) (k : Nat) (q : QF) : (stQ ks ws k q).cf = stepsC ks 0 (ws.take k) q.cf := by
  have h := stepsC_n ks (ws.take k) 0 q.cf
  unfold stQ
  show (⟨q.n, _, _⟩ : CF) = _
  generalize stepsC ks 0 (ws.take k) q.cf = c at *
  cases c
  simp only at h
  subst h
  rfl
section
variable {ks : List Bool} {ws : List WrF} {k : Nat} {v : WrF} {q : QF} (h : ws[k]? = some v)
include h
theorem stQ_other (hn : q.n ≠ v.n) : stQ ks ws (k + 1) q = stQ ks ws k q := by
  unfold stQ
  rw [stepC_take h]
  unfold stepC
  rw [if_neg (by rw [stepsC_n]; exact hn)]
theorem stQ_kept (hn : q.n = v.n) (hk : FS.kept ks k = true) : stQ ks ws (k + 1) q = if v.i < v.j then { stQ ks ws k q with s := v.j } else stQ ks ws k q := by
  unfold stQ
  rw [stepC_take h]
  unfold stepC
  rw [if_pos (by rw [stepsC_n]; exact hn), if_pos hk]
  split <;> rfl
theorem stQ_lost (hn : q.n = v.n) (hk : FS.kept ks k = false) : stQ ks ws (k + 1) q = { stQ ks ws k q with x := zeroL (stQ ks ws k q).x v.i v.j } := by
  unfold stQ
  rw [stepC_take h]
  unfold stepC
  rw [if_pos (by rw [stepsC_n]; exact hn), if_neg (by rw [hk]; simp)]
end
theorem stQ_len {ks : List Bool} {ws : List WrF} {q : QF} (hs : q.s ≤ q.x.length) (hw : ∀ v ∈ ws, q.n = v.n → v.i ≤ v.j ∧ v.j ≤ q.x.length) : ∀ k, (stQ ks ws k q).x.length = q.x.length ∧ (stQ ks ws k q).s ≤ q.x.length := by
  intro k
  induction k with
  | zero => exact ⟨rfl, hs⟩
  | succ k ih =>
    cases hv : ws[k]? with
    | none =>
      have e : ws.take (k + 1) = ws.take k := by rw [List.take_add_one, hv]; simp
      have e2 : stQ ks ws (k + 1) q = stQ ks ws k q := by unfold stQ; rw [e]
      rw [e2]
      exact ih
    | some v =>
      by_cases hn : q.n = v.n
      · obtain ⟨h1, h2⟩ := hw v (List.mem_of_getElem? hv) hn
        cases hk : FS.kept ks k with
        | true =>
          rw [stQ_kept hv hn hk]
          split
          · exact ⟨ih.1, h2⟩
          · exact ih
        | false =>
          rw [stQ_lost hv hn hk]
          refine ⟨?_, ih.2⟩
          show (zeroL (stQ ks ws k q).x v.i v.j).length = _
          unfold zeroL
          have := ih.1
          simp
          omega
      · rw [stQ_other hv hn]
        exact ih
theorem run_sub10 (A : Option Addr) (c n i j : Nat) (hij : i ≤ j) (hjc : j ≤ c) :
    ∃ A', (∀ W : World, (Instr.slice 30 (.slice A n c) (some (.int .i64 (i : Int))) (some (.int .i64 (j : Int))) none).run Tryz.prog W = .ok (.slice A' (j - i) (c - i)) W) ∧ ∀ g, A = some ⟨g, 0, none⟩ → i < j → A' = some ⟨g, i, none⟩ := by
  have he : Tryz.prog.elem 30 = 5 := by kernel_rfl
  have hu : Tryz.prog.underlying 30 = some (.slice (Tryz.prog.elem 30)) := by rw [he]; exact Tryz.underlying30
  refine ⟨dropA A c i, fun W => ?_, fun g hA hlt => ?_⟩
  · rw [run_slice_lh W 30 A n c hu .i64 .i64 (i : Int) (j : Int) (by omega) (by omega) (by omega), he, Tryz.sizeOf5]
    simp [sliced, dropA, Result.andThen]
  · unfold dropA
    rw [if_neg (by omega), hA]
    show some ((⟨g, 0, none⟩ : Addr).add i) = _
    rw [Addr.add_lit, Nat.zero_add]
theorem run_clear_no (A : Option Addr) (c : Nat) (ty : TypeId) (W : World) : (Builtin.clear_ #[30] ty #[.slice A 0 c]).run Tryz.prog W = .ok (.tuple #[]) W := by
  cases A <;> simp [Builtin.clear_, run_underlying Tryz.underlying30]
section
variable {w w2 : World} {lab : Lab} {b m : Nat} {A : Option Addr} {c : Nat} {ws : List WrF} {qs : List QF} {ops : Int} {dn : Bool} {am fl : Int}
/-- One file of many. -/
theorem FH.one {q : QF} {l1 l2 : List QF} {f : QF → QF} (h : FH w lab b m A c ws ((l1 ++ q :: l2).map f) ops dn am fl) : FH w lab b m A c ws (f q :: (l1 ++ l2).map f) ops dn am fl := by
  refine h.perm ?_
  have := (List.perm_middle (a := q) (l₁ := l1) (l₂ := l2)).map f
  exact this
theorem FH.many {q q' : QF} {l1 l2 : List QF} {f f' : QF → QF} (h : FH w lab b m A c ws (q' :: (l1 ++ l2).map f) ops dn am fl) (hq : f' q = q') (ho : ∀ p ∈ l1 ++ l2, f' p = f p) : FH w lab b m A c ws ((l1 ++ q :: l2).map f') ops dn am fl := by
  refine h.perm ?_
  have := ((List.perm_middle (a := q) (l₁ := l1) (l₂ := l2)).map f').symm
  rw [List.map_cons, hq, List.map_congr_left ho] at this
  exact this
theorem byteCells_app (a b : List UInt8) : Lib.byteCells (a ++ b) = Lib.byteCells a ++ Lib.byteCells b := by simp [Lib.byteCells]
/-- Some of a file's bytes are cleared. -/
theorem FH.zero {q : QF} (h : FH w lab b m A c ws (q :: qs) ops dn am fl) {i j : Nat} (hij : i < j) (hj : j ≤ q.x.length) :
    ∃ g, q.A = some ⟨g, 0, none⟩ ∧ j ≤ q.c ∧ (∀ ty, (Builtin.clear_ #[30] ty #[.slice (some ⟨g, i, none⟩) (j - i) (q.c - i)]).run Tryz.prog w = .ok (.tuple #[]) (w.setCells g i (List.replicate (j - i) (.int .u8 0)))) ∧
      FH (w.setCells g i (List.replicate (j - i) (.int .u8 0))) lab b m A c ws ({ q with x := zeroL q.x i j } :: qs) ops dn am fl ∧ LabTo w lab (w.setCells g i (List.replicate (j - i) (.int .u8 0))) lab := by
  have hq := h.fm.bod q List.mem_cons_self
  have hown := hq.own
  have hzl : (zeroL q.x i j).length = q.x.length := by unfold zeroL; simp; omega
  rcases hown.2 with ⟨_, h0⟩ | ⟨g, cap, cur, hv, hb, hh, hnc, hcm, hcs, htk⟩
  · omega
  · unfold QF.v at hv
    injection hv with e1 e2 e3
    have hblk : lab g = some (4 + q.g) := hq.blk g (by unfold QF.v; rw [e1]; rfl)
    have hbx : BxA w g 5 cur.toList := by unfold BxA; simpa using hh
    have hcl : cur.toList.length = cap := by simpa using hcs
    obtain ⟨hb5, ho5⟩ := BxA.setCells (List.replicate (j - i) (.int .u8 0)) i hbx (by rw [List.length_replicate, hcl]; omega)
    rw [List.length_replicate] at hb5
    refine ⟨g, e1, by omega, fun ty => ?_, ?_, LabTo.of_only ho5 fun k (e : k = g) => .inl ⟨4 + q.g, by rw [e]; exact hblk⟩⟩
    · exact Lib.run_clear_slice w 30 5 ty (.int .u8 0) Tryz.underlying30 (fun w => Tryz.zeroValue5 w) rfl rfl g i (j - i) _ (by omega) (fun t ht => by
        rw [hbx.c (i + t) (List.getElem?_eq_getElem (by rw [hcl]; omega))]; rfl) (fun t _ => hbx.free _)
    · have hgb : b ≠ g := fun e => by rw [← e, h.lb] at hblk; injection hblk with hblk; omega
      have hgq : q.g ≠ g := fun e => by rw [← e, hq.at_] at hblk; injection hblk with hblk; omega
      refine ⟨h.box.keep ho5 hgb, h.lb, h.fm.body ho5 (fun k (e : k = g) => .inr (.inl (by rw [e]; exact hblk))) (fun _ _ h => h) (fun k r hk => Nat.lt_of_lt_of_le (h.fm.lt k r hk) ho5.size) (q' := { q with x := zeroL q.x i j }) ⟨?_, ?_, hq.at_, fun k hk => hq.blk k ?_⟩ rfl rfl⟩
      · have := hq.box.keep ho5 hgq
        unfold QF.v at this ⊢
        simp only [hzl]
        exact this
      · unfold QF.v
        simp only [hzl, e1, e3]
        refine ⟨by rw [Nat.mul_one]; simp [Lib.byteCells, hzl], .inr ⟨g, cap, _, rfl, Nat.zero_le _, hb5, hnc, hcm, ?_, ?_⟩⟩
        · simp only [List.size_toArray, List.length_append, List.length_take, List.length_replicate, List.length_drop, hcl]
          omega
        · have e5 : i + (j - i) = j := by omega
          rw [Nat.mul_one] at htk ⊢
          unfold zeroL
          rw [byteCells_app, byteCells_app]
          have hx : Lib.byteCells q.x = cur.toList.take q.x.length := htk.symm
          have ht : Lib.byteCells (q.x.take i) = cur.toList.take i := by rw [byteCells_take, hx, List.take_take, Nat.min_eq_left (by omega)]
          have hd : Lib.byteCells (q.x.drop j) = (cur.toList.drop j).take (q.x.length - j) := by
            have : Lib.byteCells (q.x.drop j) = (Lib.byteCells q.x).drop j := by unfold Lib.byteCells; rw [List.map_drop]
            rw [this, hx, List.drop_take]
          have hz : Lib.byteCells (List.replicate (j - i) (0 : UInt8)) = List.replicate (j - i) (.int .u8 0) := by unfold Lib.byteCells; rw [List.map_replicate]; rfl
          rw [ht, hd, hz, e5]
          show (cur.toList.take i ++ List.replicate (j - i) (Value.int .u8 0) ++ cur.toList.drop j).take q.x.length = _
          have hl1 : (cur.toList.take i ++ List.replicate (j - i) (Value.int .u8 0)).length = j := by simp [hcs]; omega
          rw [List.take_append, List.take_of_length_le (by omega), hl1]
      · unfold QF.v at hk ⊢
        simp only [hzl] at hk
        exact hk
/-- Nothing is armed, nothing waits: the box behind a crash. -/
theorem FH.anew (h : FH w lab b m A c ws qs ops dn am fl) :
    FH ((((w.setCell ⟨b, 1, none⟩ (.slice none 0 0)).setCell ⟨b, 3, none⟩ (.bool false)).setCell ⟨b, 4, none⟩ (.int .i64 (-1))).setCell ⟨b, 5, none⟩ (.int .i64 (-1))) lab b m none 0 [] qs ops false (-1) (-1) ∧
      LabTo w lab ((((w.setCell ⟨b, 1, none⟩ (.slice none 0 0)).setCell ⟨b, 3, none⟩ (.bool false)).setCell ⟨b, 4, none⟩ (.int .i64 (-1))).setCell ⟨b, 5, none⟩ (.int .i64 (-1))) lab := by
  have ho : Only (fun k => k = b) w ((((w.setCell ⟨b, 1, none⟩ (.slice none 0 0)).setCell ⟨b, 3, none⟩ (.bool false)).setCell ⟨b, 4, none⟩ (.int .i64 (-1))).setCell ⟨b, 5, none⟩ (.int .i64 (-1))) :=
    ((((Only.refl (fun k => k = b) w).set (p := ⟨b, 1, none⟩) (.inl rfl) _).set (p := ⟨b, 3, none⟩) (.inl rfl) _).set (p := ⟨b, 4, none⟩) (.inl rfl) _).set (p := ⟨b, 5, none⟩) (.inl rfl) _
  have h1 : FM w lab m none 0 [] qs := h.fm.rowTo (R := fun _ => False) (Only.refl _ w) (fun _ h => h.elim) (fun _ _ h => h) h.fm.lt (World.ownsRow_nil _ _ _ _) (fun k hk => by cases hk)
  exact ⟨⟨(((h.box.set 1 (.slice none 0 0)).set 3 (.bool false)).set 4 (.int .i64 (-1))).set 5 (.int .i64 (-1)), h.lb, h1.keep ho fun k r (e : k = b) hk => by rw [e, h.lb] at hk; injection hk with hk; exact hk.symm⟩, h.to_ ho⟩
end
/-- What is left of a file, when no more writes come. -/
def endQ (q : QF) : QF := { q with x := q.x.take q.s }
/-- So far in the second loop: the files that are still to come are as they were. -/
def fT (todo : List (ByteArray × Nat)) (q : QF) : QF := if q.g ∈ todo.map Prod.snd then q else endQ q
theorem fT_in {todo : List (ByteArray × Nat)} {q : QF} (h : q.g ∈ todo.map Prod.snd) : fT todo q = q := if_pos h
theorem fT_out {todo : List (ByteArray × Nat)} {q : QF} (h : q.g ∉ todo.map Prod.snd) : fT todo q = endQ q := if_neg h
theorem fT_nil (q : QF) : fT [] q = endQ q := fT_out (by simp)
theorem fT_g (todo : List (ByteArray × Nat)) (q : QF) : (fT todo q).g = q.g := by
  unfold fT
  split <;> rfl
end
section
open Go Go.RowKit
set_option maxRecDepth 100000
section
variable (w : World) (lab : Lab) (b : Nat) (S : FS) (h : FAt w lab b S) (hS : S.Fit)
include h
theorem fops_at : Calls Tryz.prog 17 #[fp b] w fun e w' => e = .returned (.int .i64 (S.ops : Int)) ∧ Below w.heap.size w w' := by
  obtain ⟨_, c0⟩ := FAt.down_cell w lab b S h
  clear h
  go_enter Tryz.func17, Tryz.ntmps17
  go_wp2_with fail
  go_ret
  exact ⟨rfl, Below.refl _ _⟩
include hS
omit hS in
omit hS in
end
end
end Go.Proofs.YteafcaambnfdoaaGreatDoor
