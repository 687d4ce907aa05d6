/-
  The walk of FrameScans (layer 11).
-/
import Derived.Test.YtjfikdldabmciaaDoorFrameC
import Derived.Test.YtjfikdldabmciaaDoorRound
import Derived.Test.YtjfikdldabmciaaDoorLast
namespace Go.Proofs.YtjfikdldabmciaaDoor
open Go Go.RowKit Go.Shelf
attribute [local go_sem] Oper.semAt_some
set_option maxRecDepth 100000

theorem round_last {P : Program} {l n : Nat} {ops : Array Oper} {Q : Exit → Act → World → Prop} {S : World → Prop} {id : Nat} {a : Act} {w : World} (z : Nat) (hm : P.follows .mixedOrders = true) (hd : ops.all (fun o => !lays o.op) = true) (hlo : ¬ LetsOut Q) (hS : S w.drew)
    (h : S w.drew → lastAny P .any ops Q S z ops.size (Array.replicate ops.size false) a w.drew) : (Code.region id ops true).wpIn (Fence.wide.inRound l) n P Q a w :=
  round_region hm hd hlo (lastAny_any _ _ _ _ (h hS))

theorem results_bool11 {P : Program} {fn : Func} {p : Tmp} {ty : TypeId} (h : fn.results = #[.cell p ty]) (tmps : Array Value) (w : World) (g : Nat) (v : Value) (t : TypeId)
    (hp : tmps.getD p undef = .pointer (some ⟨g, 0, none⟩)) (hb : Boxed w g t v) (hu : P.underlying ty = some .bool) : (results fn tmps).run P w = .ok v w := by
  have hp' : tmps[p]?.getD undef = .pointer (some ⟨g, 0, none⟩) := by simpa using hp
  have hc := hb.cell
  simp [results, h, hp', asAddr, loadVar, isAgg, Sem.run_bind, run_underlying hu, hc, go_sem]
theorem ownFrom_only {β : Type} {B : Nat} {R : Nat → Prop} {w0 : World} (h : ∀ r, B ≤ r → R r) : OwnFrom B (fun (_ : β) W => Only R w0 W) := fun _ _ _ _ ho hg hr => ho.grown hg (fun i hi => .inl (h i (hr i hi).1))
theorem Boxed.only {R : Nat → Prop} {w w' : World} {b : Nat} {t : TypeId} {v : Value} (h : Boxed w b t v) (ho : Only R w w') (hn : ¬ R b) : Boxed w' b t v := (ho.block b h.lt hn).trans h
theorem rdBs_only {R : Nat → Prop} {w w' : World} {A : Option Addr} {ls : List (List UInt8)} (h : RdBs w A ls) (B : Nat) (hB : w.heap.size ≤ B) (ho : Only R w w') (hn : ∀ k, R k → B ≤ k) : RdBs w' A ls := h.below (ho.below (Nat.le_refl _) (fun i hi => Nat.le_trans hB (hn i hi)))
set_option maxHeartbeats 1000000 in
theorem frscans_big (A : Option Addr) (c : Nat) (b : List UInt8) (most : Int) (w : World) (hbig : 3000 < b.length) (ht : LaysR w) :
    Calls Tryd.prog 5 #[.slice A b.length c, .int .i64 most] w fun e w' => e = .returned (.bool true) ∧ Below w.heap.size w w' := by
  have d0 : decide (3000 < (b.length : Int)) = true := decide_eq_true (by omega)
  have b1 := Boxed.new (w.alloc (.cells #[.int .i64 most] 3)) 4 (.bool false)
  rw [World.size_alloc] at b1
  have k1 : Below w.heap.size w ((w.alloc (.cells #[.int .i64 most] 3)).alloc (.cells #[.bool false] 4)) := ((Below.refl _ w).alloc (Nat.le_refl _) _).alloc (by simp) _
  have hcon := Lib.hid (falive11_calls _ (ht.on k1))
  clear ht hbig
  go_enter Tryd.func5, Tryd.ntmps5
  go_wp2_with fail
  refine hcon.out.mono ?_
  rintro e w2 ⟨rfl, h⟩
  have b2 : Boxed w2 (w.heap.size + 1) 4 (.bool false) := (h.block _ b1.lt).trans b1
  have hc2 := b2.cell
  have hf2 := b2.frozen
  go_wp2
  have b3 := b2.set (.bool true)
  refine bodyPost_ret (results_bool11 rfl _ _ (w.heap.size + 1) (.bool true) 4 rfl b3 Tryd.underlying4) rfl ?_
  exact ⟨rfl, (k1.trans (h.mono k1.size)).setCell (p := ⟨w.heap.size + 1, 0, none⟩) (Nat.le_succ _) _⟩
theorem bx_below {w w' : World} {b : Nat} {t : TypeId} {v : Value} (h : Boxed w b t v) (hb : Below w.heap.size w w') : Boxed w' b t v := (hb.block b h.lt).trans h
def RkF (w2 w3 : World) (k : Nat) : Prop := (k = w2.heap.size + 1 ∨ k = w2.heap.size + 1 + 1) ∨ w3.heap.size ≤ k
/-- What the loop keeps: how many were told, where the next one begins. -/
def ScI (b : List UInt8) (most : Int) (w2 w3 : World) (pre : List Fx) (W : World) : Prop :=
  Boxed W (w2.heap.size + 1) 3 (.int .i64 (pre.length : Int)) ∧ Boxed W (w2.heap.size + 1 + 1) 3 (.int .i64 ((packsF (lsF pre)).length : Int)) ∧ Only (RkF w2 w3) w3 W ∧ (pre.length ≤ (scanF b).1.length ∧ (1 ≤ most → (pre.length : Int) < most))
theorem scI_own (b : List UInt8) (most : Int) (w2 w3 : World) : OwnFrom w3.heap.size (ScI b most w2 w3) :=
  OwnFrom.and (Own.from (boxed_own (w2.heap.size + 1) 3 (fun pre : List Fx => .int .i64 (pre.length : Int))) _) (OwnFrom.and (Own.from (boxed_own (w2.heap.size + 1 + 1) 3 (fun pre : List Fx => .int .i64 ((packsF (lsF pre)).length : Int))) _) (OwnFrom.and (ownFrom_only (fun _ hr => .inr hr)) (fun _ _ _ _ h _ _ => h)))
/-- A break: so many as were asked for. -/
def ScX (b : List UInt8) (most : Int) (w2 w3 : World) (c : Code) (pre : List Fx) (W : World) : Prop :=
  Boxed W (w2.heap.size + 1) 3 (.int .i64 (pre.length : Int)) ∧ Only (RkF w2 w3) w3 W ∧ (c = .exit 0 ∧ pre.length ≤ (scanF b).1.length ∧ (pre.length : Int) = most ∧ 0 < pre.length)
theorem scX_own (b : List UInt8) (most : Int) (w2 w3 : World) (c : Code) : OwnFrom w3.heap.size (ScX b most w2 w3 c) :=
  OwnFrom.and (Own.from (boxed_own (w2.heap.size + 1) 3 (fun pre : List Fx => .int .i64 (pre.length : Int))) _) (OwnFrom.and (ownFrom_only (fun _ hr => .inr hr)) (fun _ _ _ _ h _ _ => h))
set_option maxHeartbeats 8000000 in
theorem frscans_list (A : Option Addr) (c : Nat) (b : List UInt8) (most : Int) (w : World) (hb : Byt w A b) (hA : A = none → c = 0) (hc : b.length ≤ c) (hm0 : -9223372036854775808 ≤ most) (hm1 : most ≤ 9223372036854775807) (hl : b.length ≤ 3000) (ht : LaysR w) :
    Calls Tryd.prog 5 #[.slice A b.length c, .int .i64 most] w fun e w' => e = .returned (.bool true) ∧ Below w.heap.size w w' := by
  have d0 : decide (3000 < (b.length : Int)) = false := decide_eq_false (by omega)
  have b0 := (Boxed.new w 3 (.int .i64 most)).alloc (.cells #[.bool false] 4)
  have b1 := Boxed.new (w.alloc (.cells #[.int .i64 most] 3)) 4 (.bool false)
  rw [World.size_alloc] at b1
  obtain ⟨w0, hw0⟩ : ∃ w0, (w.alloc (.cells #[.int .i64 most] 3)).alloc (.cells #[.bool false] 4) = w0 := ⟨_, rfl⟩
  have k0 : Below w.heap.size w w0 := by rw [← hw0]; exact ((Below.refl _ w).alloc (Nat.le_refl _) _).alloc (by simp) _
  have hs0 : w0.heap.size = w.heap.size + 2 := by rw [← hw0]; simp
  rw [hw0] at b0 b1
  have H1 := Lib.hid ((fscan11_calls A c b w0 (hb.below k0) hA hc (by omega) (ht.on k0)).mono (fun e w' h => Lib.hid h))
  have HN : Hid ((scanF b).1.length ≤ 3000 ∧ (scanF b).2 = (packsF (scanF b).1).length) := Lib.hid (by
    obtain ⟨h1, h2, _⟩ := scan_is b
    have h3 := congrArg List.length h1
    rw [List.length_append] at h3
    have h4 := packsF_ge (scanF b).1
    exact ⟨by omega, h2⟩)
  have HB := Lib.hid hb
  have HA := Lib.hid hA
  have HC := Lib.hid hc
  have HL := Lib.hid hl
  have HT := Lib.hid ht
  have HM := Lib.hid (And.intro hm0 hm1)
  have B01 := Lib.hid (And.intro b0 b1)
  have K0 := Lib.hid k0
  clear hb hA hc hl ht b0 b1 k0 hm0 hm1
  refine (callsIn_wide (n := 4)).1 ?_
  refine callsIn_of_wp_marks Tryd.func5 rfl trivial ?_ rfl
  simp only [Tryd.ntmps5, List.size_toArray, List.length_cons, List.length_nil, Nat.reduceAdd, Nat.reduceSub, Array.replicate_succ, Array.replicate_zero, List.push_toArray, List.append_toArray, List.nil_append, List.cons_append]
  gi_wp2_with (refine ⟨trivial, ?_⟩; gi_at_call 15; refine (callsIn_wide.2 H1.out).mono ?_)
  intro e w1 hp1
  obtain ⟨A1, c1, rfl, hr1, _, hb1⟩ := hp1.out
  obtain ⟨wa, hwa⟩ : ∃ wa, w1.alloc (.cells #[.slice A1 (scanF b).1.length c1] 31) = wa := ⟨_, rfl⟩
  have hba : Below w1.heap.size w1 wa := by rw [← hwa]; exact (Below.refl _ w1).alloc (Nat.le_refl _) _
  have xl : Boxed wa w1.heap.size 31 (.slice A1 (scanF b).1.length c1) := by rw [← hwa]; exact Boxed.new w1 _ _
  have hsa : wa.heap.size = w1.heap.size + 1 := by rw [← hwa]; simp
  have Ka := Lib.hid (K0.out.trans ((hb1.mono (by omega)).trans (hba.mono (by have := hb1.size; omega))))
  have Ba := Lib.hid (And.intro (bx_below B01.out.1 (hb1.trans (hba.mono hb1.size))) (bx_below B01.out.2 (hb1.trans (hba.mono hb1.size))))
  have Ra := Lib.hid (hr1.below hba)
  have Xl := Lib.hid xl
  have z1 := hb1.size
  have H2 := Lib.hid ((rscan11_calls A c b wa (HB.out.below Ka.out) HC.out (by have := HL.out; omega)).mono (fun e w' h => Lib.hid h))
  clear hp1 hr1 hb1 hba xl H1 hw0 B01 K0
  gi_wp2_with (refine ⟨trivial, ?_⟩; gi_at_call 16; refine (callsIn_wide.2 H2.out).mono ?_)
  clear hwa
  intro e w2 hp2
  obtain ⟨A2, c2, rfl, hr2, _, hb2⟩ := hp2.out
  obtain ⟨wb, hwb⟩ : ∃ wb, ((w2.alloc (.cells #[.slice A2 (scanF b).1.length c2] 31)).alloc (.cells #[.int .i64 0] 3)).alloc (.cells #[.int .i64 0] 3) = wb := ⟨_, rfl⟩
  have hbb : Below w2.heap.size w2 wb := by rw [← hwb]; exact (((Below.refl _ w2).alloc (Nat.le_refl _) _).alloc (by simp) _).alloc (by simp; omega) _
  have xm : Boxed wb w2.heap.size 31 (.slice A2 (scanF b).1.length c2) := by rw [← hwb]; exact ((Boxed.new w2 _ _).alloc _).alloc _
  have xn : Boxed wb (w2.heap.size + 1) 3 (.int .i64 0) := by
    rw [← hwb]
    have := (Boxed.new (w2.alloc (.cells #[.slice A2 (scanF b).1.length c2] 31)) 3 (.int .i64 0)).alloc (.cells #[.int .i64 0] 3)
    rwa [World.size_alloc] at this
  have xf : Boxed wb (w2.heap.size + 1 + 1) 3 (.int .i64 0) := by
    rw [← hwb]
    have := Boxed.new ((w2.alloc (.cells #[.slice A2 (scanF b).1.length c2] 31)).alloc (.cells #[.int .i64 0] 3)) 3 (.int .i64 0)
    rwa [World.size_alloc, World.size_alloc] at this
  have hsb : wb.heap.size = w2.heap.size + 3 := by rw [← hwb]; simp
  have z2 := hb2.size
  have Kb := Lib.hid (Ka.out.trans ((hb2.mono Ka.out.size).trans (hbb.mono (Nat.le_trans Ka.out.size z2))))
  have hab := hb2.trans (hbb.mono z2)
  have Bb := Lib.hid (And.intro (bx_below Ba.out.1 hab) (bx_below Ba.out.2 hab))
  have Xb := Lib.hid (And.intro (bx_below Xl.out hab) (And.intro xm (And.intro xn xf)))
  have Rb := Lib.hid (And.intro (Ra.out.below hab) (hr2.below hbb))
  have h3 := (each11_calls A c b wb (HB.out.below Kb.out) HA.out (by have := HL.out; omega)).mono (fun e w' h => Lib.hid h)
  rw [hsb] at h3
  have hb2b := hbb
  have R2 := Lib.hid (And.intro (Ra.out.below hb2) hr2)
  have H3 := Lib.hid (fun W (hW : W = wb) => by rw [← hW] at h3; exact h3)
  have HWb := Lib.hid hwb
  clear h3 hwb
  have xl2 := bx_below Xl.out hb2
  have hcl1 := xl2.cell
  have hcl2 := (xl2.alloc (.cells #[.slice A2 (scanF b).1.length c2] 31)).cell
  have hlt12 : w1.heap.size < w2.heap.size := by omega
  clear hp2 hr2 hb2 hbb xm xn xf hab H2 Ba Xl Ra Ka xl2
  gi_wp2_with (refine ⟨trivial, ?_⟩; gi_at_call 17; refine (callsIn_wide.2 (H3.out _ HWb.out)).mono ?_)
  intro e w3 hp3
  obtain ⟨rfl, A3, c3, hx3, hown3, hb3'⟩ := hp3.out
  have hb3 : Below wb.heap.size wb w3 := by
    have h := hb3'
    rw [HWb.out] at h
    rw [hsb]
    exact h
  clear hp3 H3 HWb hcl1 hcl2 hb3'
  have hown3l := hown3.lt
  have hy3 := byt_of_own hown3
  have hz3 := hb3.size
  have hx3l := hx3.lt
  have hB3 : Below w.heap.size w w3 := Kb.out.trans (hb3.mono Kb.out.size)
  have B3 := Lib.hid (And.intro (bx_below Bb.out.1 hb3) (bx_below Bb.out.2 hb3))
  have X3 := Lib.hid (And.intro (bx_below Xb.out.1 hb3) (bx_below Xb.out.2.1 hb3))
  have N3 := Lib.hid (And.intro (bx_below Xb.out.2.2.1 hb3) (bx_below Xb.out.2.2.2 hb3))
  have K23 := Lib.hid (hb2b.trans (hb3.mono (by omega)))
  have KB3 := Lib.hid hB3
  have hT0 := World.block_lt_of_cell? _ _ (HT.out 0 (by omega))
  simp only at hT0
  have hw02 : w.heap.size + 2 ≤ w1.heap.size := by omega
  have htells := each11_tells 3 (by omega) (w2.heap.size + 3) A3 c3 b w3 (RkF w2 w3) hx3 hy3.1 (own_none hown3) hy3.2.2.1 (by have := HL.out; omega) (HT.out.on hB3)
    (fun h => by rcases h with (h | h) | h <;> omega)
    (fun a e h => by
      have := hown3l a.block (by rw [e]; rfl)
      rcases h with (h | h) | h <;> omega)
    (fun X Y ho hT i hi => ho.cell (hT i hi) (fun h => by rcases h with (h | h) | h <;> simp only at h <;> omega))
  have hz12 : w3.heap.size = w3.heap.size := rfl
  clear hown3 hx3 hy3 hown3l hb2b hb3 Bb Xb Kb hB3 hz12
  gi_wp2
  refine wpIn_told rfl (by omega) (gf := 25) (lb := #[.pointer (some ⟨w2.heap.size + 3, 0, none⟩)]) rfl trivial (enters_of Tryd.func25 (by kernel_rfl) rfl)
    (Kp := Only (RkF w2 w3)) htells (Below.refl _ _) (fun _ => rfl) (fun h k => h.trans k (fun i hi => .inl hi)) (fun W l o o' hle _ _ _ => Only.of_grown (grownBy_putObj' W l o') (fun k e => by cases e; exact .inr hle))
    (fun pre x => fxAt_own b pre x _) (ScI b most w2 w3) (ScX b most w2 w3) (scI_own b most w2 w3) (fun c => scX_own b most w2 w3 c)
    ⟨N3.out.1, N3.out.2, Only.refl _ _, Nat.zero_le _, fun h => by simp; omega⟩
    (fun x => { tmps := #[Value.slice A b.length c, Value.int IntKind.i64 most, undef, Value.pointer (some ⟨w.heap.size, 0, none⟩), Value.pointer (some ⟨w.heap.size + 1, 0, none⟩), Value.pointer (some ⟨w1.heap.size, 0, none⟩), Value.int IntKind.i64 ((scanF b).snd : Int), Value.pointer (some ⟨w2.heap.size, 0, none⟩), Value.int IntKind.i64 ((scanF b).snd : Int), Value.pointer (some ⟨w2.heap.size + 1, 0, none⟩), Value.pointer (some ⟨w2.heap.size + 1 + 1, 0, none⟩), .int .i64 (x.at_ : Int), .slice x.A x.l.length x.c, undef, Value.slice A b.length c, Value.int IntKind.i64 (b.length : Int), Value.bool false, undef, Value.tuple #[Value.slice A1 (scanF b).fst.length c1, Value.int IntKind.i64 ((scanF b).snd : Int)], Value.slice A b.length c, Value.tuple #[Value.slice A1 (scanF b).fst.length c1, Value.int IntKind.i64 ((scanF b).snd : Int)], Value.slice A1 (scanF b).fst.length c1, Value.int IntKind.i64 ((scanF b).snd : Int), Value.tuple #[Value.slice A2 (scanF b).fst.length c2, Value.int IntKind.i64 ((scanF b).snd : Int)], Value.slice A b.length c, Value.tuple #[Value.slice A2 (scanF b).fst.length c2, Value.int IntKind.i64 ((scanF b).snd : Int)], Value.slice A2 (scanF b).fst.length c2, Value.int IntKind.i64 ((scanF b).snd : Int), Value.int IntKind.i64 ((scanF b).snd : Int), Value.int IntKind.i64 ((scanF b).snd : Int), Value.bool false, Value.bool false, Value.slice A1 (scanF b).fst.length c1, Value.int IntKind.i64 ((scanF b).fst.length : Int), Value.slice A2 (scanF b).fst.length c2, Value.int IntKind.i64 ((scanF b).fst.length : Int), Value.bool false, Value.bool false, Value.slice A b.length c, Value.func (.func 25) #[] #[Value.pointer (some ⟨w2.heap.size + 3, 0, none⟩)], .int .i64 (x.at_ : Int), .slice x.A x.l.length x.c, undef, undef, undef, undef, undef, undef, undef, undef, undef, undef, undef, undef, undef, undef, undef, undef, undef, undef, undef, undef, undef, undef, undef, undef, undef, undef, undef, undef, undef, undef, undef, undef, undef, undef, undef, undef, undef, undef, undef, undef, undef, undef, undef, undef, undef, undef, undef, undef, undef, undef, undef, undef, undef], defers := [] }) ?assign ?body ?done ?stop
  case assign =>
    intro l x W K hK
    unfold fxV
    gi_wp2
    exact hK
  case body =>
    clear htells
    rintro l' pre x W ⟨hn, hf, ho, hpl, hmm⟩ ⟨hrow, hat, hget, hfit⟩
    have hb3W : Below w2.heap.size w2 W := K23.out.trans (ho.below (K23.out.size) (fun i hi => by rcases hi with (h | h) | h <;> omega))
    have hlt : pre.length < (scanF b).1.length := (List.getElem?_eq_some_iff.1 hget).1
    have hgd : (scanF b).1.getD pre.length [] = x.l := by rw [List.getD_eq_getElem?_getD, hget]; rfl
    obtain ⟨g2, o2, Am, cm, rfl, hcm, hbm, _⟩ := (R2.out.2.below hb3W).at11 hlt
    obtain ⟨g1, o1, Al, cl, rfl, hcl, hbl, _⟩ := (R2.out.1.below hb3W).at11 hlt
    rw [hgd] at hcm hbm hcl hbl
    rw [← hat] at hf
    have xl := Boxed.only X3.out.1 ho (fun h => by rcases h with (h | h) | h <;> omega)
    have xm := Boxed.only X3.out.2 ho (fun h => by rcases h with (h | h) | h <;> omega)
    have x0 := Boxed.only B3.out.1 ho (fun h => by rcases h with (h | h) | h <;> omega)
    have HSk : Hid (∀ y, Below W.heap.size W y → ((fun y => y.cell? ⟨w2.heap.size + 1, 0, none⟩ = some (.int .i64 (pre.length : Int)) ∧ y.cell? ⟨w2.heap.size, 0, none⟩ = some (.slice (some ⟨g2, o2, none⟩) (scanF b).1.length c2) ∧ y.cell? ⟨w2.heap.size + 1 + 1, 0, none⟩ = some (.int .i64 (x.at_ : Int)) ∧ y.cell? ⟨w1.heap.size, 0, none⟩ = some (.slice (some ⟨g1, o1, none⟩) (scanF b).1.length c1) ∧ y.cell? ⟨g2, o2 + pre.length, none⟩ = some (.slice Am x.l.length cm) ∧ y.cell? ⟨g1, o1 + pre.length, none⟩ = some (.slice Al x.l.length cl) ∧ Hid (Below W.heap.size W y))) y) := Lib.hid (fun y hb => ⟨(bx_below hn hb).cell, (bx_below xm hb).cell, (bx_below hf hb).cell, (bx_below xl hb).cell, (hb.cell (World.block_lt_of_cell? _ _ hcm)).trans hcm, (hb.cell (World.block_lt_of_cell? _ _ hcl)).trans hcl, Lib.hid hb⟩)
    have HEq : Hid (∀ (A B : Option Addr) (c d : Nat) (y : World), Byt y A x.l → Byt y B x.l → Calls Tryd.prog 12 #[.slice A x.l.length c, .slice B x.l.length d] y fun e y' => e = .returned (.bool true) ∧ Below y.heap.size y y') := Lib.hid (fun A B c d y h1 h2 => by
      have := beq_calls A B c d x.l x.l y h1 h2
      rwa [decide_eq_true rfl] at this)
    have HBx := Lib.hid (byt_of_own hrow).1
    have HBm := Lib.hid hbm
    have HBl := Lib.hid hbl
    have HB0 := Lib.hid ((Below.refl W.heap.size W).drew)
    have Hn := Lib.hid hn
    have Hf := Lib.hid hf
    have Ho := Lib.hid ho
    have Hx0 := Lib.hid x0
    have HG := Lib.hid (And.intro hat (And.intro hget hmm))
    have hkn : decide (((scanF b).1.length : Int) ≤ (pre.length : Int)) = false := decide_eq_false (by omega)
    have hkn2 : decide ((scanF b).1.length ≤ pre.length) = false := decide_eq_false (by omega)
    have hki : (pre.length : Int) < ((scanF b).1.length : Int) := by omega
    have hNl : (scanF b).1.length ≤ 3000 := HN.out.1
    have hfi : x.at_ + 6 + x.l.length ≤ 3000 := by have := HL.out; omega
    clear hrow hbm hbl hcm hcl hn hf ho xl xm x0 hat hget hmm hgd hb3W hpl hfit
    gi_wp2
    refine round_held (S := (fun y => y.cell? ⟨w2.heap.size + 1, 0, none⟩ = some (.int .i64 (pre.length : Int)) ∧ y.cell? ⟨w2.heap.size, 0, none⟩ = some (.slice (some ⟨g2, o2, none⟩) (scanF b).1.length c2) ∧ y.cell? ⟨w2.heap.size + 1 + 1, 0, none⟩ = some (.int .i64 (x.at_ : Int)) ∧ y.cell? ⟨w1.heap.size, 0, none⟩ = some (.slice (some ⟨g1, o1, none⟩) (scanF b).1.length c1) ∧ y.cell? ⟨g2, o2 + pre.length, none⟩ = some (.slice Am x.l.length cm) ∧ y.cell? ⟨g1, o1 + pre.length, none⟩ = some (.slice Al x.l.length cl) ∧ Hid (Below W.heap.size W y))) (by kernel_rfl) (by kernel_rfl) (fun ⟨_, _, h⟩ => h) (HSk.out _ HB0.out) (fun hHeld => ?_)
    refine wpAnyH_take (i := 0) (oi := ⟨some 42, _, _, _, _, _⟩) (v := ?_) rfl (by kernel_rfl) (by kernel_rfl) (by kernel_rfl) (fun _ _ _ h => h) (Or.inl ⟨by kernel_rfl, ?hy0⟩) (by assumption) ?_
    case hy0 => (intro w' hSw; (try dsimp only at hSw); go_simp; try with_reducible rfl)
    simp only [Act.put, List.setIfInBounds_toArray, List.set_cons_zero, List.set_cons_succ]
    refine wpAnyH_take (i := 1) (oi := ⟨some 43, _, _, _, _, _⟩) (v := ?_) rfl (by kernel_rfl) (by kernel_rfl) (by kernel_rfl) (fun _ _ _ h => h) (Or.inl ⟨by kernel_rfl, ?hy1⟩) (by assumption) ?_
    case hy1 => (intro w' hSw; (try dsimp only at hSw); go_simp; try with_reducible rfl)
    simp only [Act.put, List.setIfInBounds_toArray, List.set_cons_zero, List.set_cons_succ]
    refine wpAnyH_take (i := 2) (oi := ⟨some 44, _, _, _, _, _⟩) (v := ?_) rfl (by kernel_rfl) (by kernel_rfl) (by kernel_rfl) (fun _ _ _ h => h) (Or.inl ⟨by kernel_rfl, ?hy2⟩) (by assumption) ?_
    case hy2 => (intro w' hSw; (try dsimp only at hSw); go_simp; try with_reducible rfl)
    simp only [Act.put, List.setIfInBounds_toArray, List.set_cons_zero, List.set_cons_succ]
    refine wpAnyH_take (i := 3) (oi := ⟨some 45, _, _, _, _, _⟩) (v := ?_) rfl (by kernel_rfl) (by kernel_rfl) (by kernel_rfl) (fun _ _ _ h => h) (Or.inl ⟨by kernel_rfl, ?hy3⟩) (by assumption) ?_
    case hy3 => (intro w' hSw; (try dsimp only at hSw); go_simp; try with_reducible rfl)
    simp only [Act.put, List.setIfInBounds_toArray, List.set_cons_zero, List.set_cons_succ]
    refine wpAnyH_take (i := 4) (oi := ⟨some 46, _, _, _, _, _⟩) (v := ?_) rfl (by kernel_rfl) (by kernel_rfl) (by kernel_rfl) (fun _ _ _ h => h) (Or.inl ⟨by kernel_rfl, ?hy4⟩) (by assumption) ?_
    case hy4 => (intro w' hSw; (try dsimp only at hSw); go_simp; try with_reducible rfl)
    simp only [Act.put, List.setIfInBounds_toArray, List.set_cons_zero, List.set_cons_succ]
    refine wpAnyH_take (i := 5) (oi := ⟨some 47, _, _, _, _, _⟩) (v := ?_) rfl (by kernel_rfl) (by kernel_rfl) (by kernel_rfl) (fun _ _ _ h => h) (Or.inl ⟨by kernel_rfl, ?hy5⟩) (by assumption) ?_
    case hy5 => (intro w' hSw; (try dsimp only at hSw); go_simp; try with_reducible rfl)
    simp only [Act.put, List.setIfInBounds_toArray, List.set_cons_zero, List.set_cons_succ]
    refine wpAnyH_take (i := 6) (oi := ⟨some 48, _, _, _, _, _⟩) (v := ?_) rfl (by kernel_rfl) (by kernel_rfl) (by kernel_rfl) (fun _ _ _ h => h) (Or.inl ⟨by kernel_rfl, ?hy6⟩) (by assumption) ?_
    case hy6 => (intro w' hSw; (try dsimp only at hSw); go_simp; try with_reducible rfl)
    simp only [Act.put, List.setIfInBounds_toArray, List.set_cons_zero, List.set_cons_succ]
    refine wpAnyH_take (i := 7) (oi := ⟨some 49, _, _, _, _, _⟩) (v := ?_) rfl (by kernel_rfl) (by kernel_rfl) (by kernel_rfl) (fun _ _ _ h => h) (Or.inl ⟨by kernel_rfl, ?hy7⟩) (by assumption) ?_
    case hy7 => (intro w' hSw; (try dsimp only at hSw); go_simp; try with_reducible rfl)
    simp only [Act.put, List.setIfInBounds_toArray, List.set_cons_zero, List.set_cons_succ]
    refine wpAnyH_take (i := 8) (oi := ⟨some 50, _, _, _, _, _⟩) (v := ?_) rfl (by kernel_rfl) (by kernel_rfl) (by kernel_rfl) (fun _ _ _ h => h) (Or.inl ⟨by kernel_rfl, ?hy8⟩) (by assumption) ?_
    case hy8 => (intro w' hSw; (try dsimp only at hSw); go_simp; try with_reducible rfl)
    simp only [Act.put, List.setIfInBounds_toArray, List.set_cons_zero, List.set_cons_succ]
    refine wpAnyH_take (i := 9) (oi := ⟨some 51, _, _, _, _, _⟩) (v := ?_) rfl (by kernel_rfl) (by kernel_rfl) (by kernel_rfl) (fun _ _ _ h => h) (Or.inl ⟨by kernel_rfl, ?hy9⟩) (by assumption) ?_
    case hy9 => (intro w' hSw; (try dsimp only at hSw); go_simp; try with_reducible rfl)
    simp only [Act.put, List.setIfInBounds_toArray, List.set_cons_zero, List.set_cons_succ]
    refine wpAnyH_take (i := 10) (oi := ⟨some 52, _, _, _, _, _⟩) (v := ?_) rfl (by kernel_rfl) (by kernel_rfl) (by kernel_rfl) (fun _ _ _ h => h) (Or.inl ⟨by kernel_rfl, ?hy10⟩) (by assumption) ?_
    case hy10 => (intro w' hSw; (try dsimp only at hSw); go_simp; try with_reducible rfl)
    simp only [Act.put, List.setIfInBounds_toArray, List.set_cons_zero, List.set_cons_succ]
    refine wpAnyH_take (i := 11) (oi := ⟨some 53, _, _, _, _, _⟩) (v := ?_) rfl (by kernel_rfl) (by kernel_rfl) (by kernel_rfl) (fun _ _ _ h => h) (Or.inl ⟨by kernel_rfl, ?hy11⟩) (by assumption) ?_
    case hy11 => (intro w' hSw; (try dsimp only at hSw); go_simp; try with_reducible rfl)
    simp only [Act.put, List.setIfInBounds_toArray, List.set_cons_zero, List.set_cons_succ]
    refine wpAnyH_take (i := 12) (oi := ⟨some 54, _, _, _, _, _⟩) (v := ?_) rfl (by kernel_rfl) (by kernel_rfl) (by kernel_rfl) (fun _ _ _ h => h) (Or.inl ⟨by kernel_rfl, ?hy12⟩) (by assumption) ?_
    case hy12 => (intro w' hSw; (try dsimp only at hSw); go_simp; try with_reducible rfl)
    simp only [Act.put, List.setIfInBounds_toArray, List.set_cons_zero, List.set_cons_succ]
    refine wpAnyH_take (i := 13) (oi := ⟨some 55, _, _, _, _, _⟩) (v := ?_) rfl (by kernel_rfl) (by kernel_rfl) (by kernel_rfl) (fun _ _ _ h => h) (Or.inl ⟨by kernel_rfl, ?hy13⟩) (by assumption) ?_
    case hy13 => (intro w' hSw; (try dsimp only at hSw); go_simp; try with_reducible rfl)
    simp only [Act.put, List.setIfInBounds_toArray, List.set_cons_zero, List.set_cons_succ]
    refine wpAnyH_take (i := 14) (oi := ⟨some 56, _, _, _, _, _⟩) (v := ?_) rfl (by kernel_rfl) (by kernel_rfl) (by kernel_rfl) (fun _ _ _ h => h) (Or.inl ⟨by kernel_rfl, ?hy14⟩) (by assumption) ?_
    case hy14 => (intro w' hSw; (try dsimp only at hSw); go_simp; try with_reducible rfl)
    simp only [Act.put, List.setIfInBounds_toArray, List.set_cons_zero, List.set_cons_succ]
    refine wpAnyH_ready (rs := [15]) (by kernel_rfl) (by simp) ?_
    refine AllReadyH.cons (o := ⟨some 57, _, _, _, _, _⟩) rfl (fun K hK => ?_) AllReadyH.nil
    (rw [if_pos (by kernel_rfl)])
    go_simp
    refine (HEq.out x.A Am x.c cm _ (HBx.out.below HB0.out) (HBm.out.below HB0.out)).mono ?_; rintro e y1 ⟨rfl, hb⟩; have HB1 := Lib.hid (HB0.out.trans (hb.mono HB0.out.size)); clear hb
    refine hK.out _ _ (HSk.out _ HB1.out) (fun hHeld => ?_)
    clear hK K
    refine wpAnyH_take (i := 16) (oi := ⟨some 58, _, _, _, _, _⟩) (v := ?_) rfl (by kernel_rfl) (by kernel_rfl) (by kernel_rfl) (fun _ _ _ h => h) (Or.inl ⟨by kernel_rfl, ?hy16⟩) (by assumption) ?_
    case hy16 => (intro w' hSw; (try dsimp only at hSw); go_simp; try with_reducible rfl)
    simp only [Act.put, List.setIfInBounds_toArray, List.set_cons_zero, List.set_cons_succ]
    refine wpAnyH_take (i := 17) (oi := ⟨some 59, _, _, _, _, _⟩) (v := ?_) rfl (by kernel_rfl) (by kernel_rfl) (by kernel_rfl) (fun _ _ _ h => h) (Or.inl ⟨by kernel_rfl, ?hy17⟩) (by assumption) ?_
    case hy17 => (intro w' hSw; (try dsimp only at hSw); go_simp; try with_reducible rfl)
    simp only [Act.put, List.setIfInBounds_toArray, List.set_cons_zero, List.set_cons_succ]
    refine wpAnyH_take (i := 18) (oi := ⟨some 60, _, _, _, _, _⟩) (v := ?_) rfl (by kernel_rfl) (by kernel_rfl) (by kernel_rfl) (fun _ _ _ h => h) (Or.inl ⟨by kernel_rfl, ?hy18⟩) (by assumption) ?_
    case hy18 => (intro w' hSw; (try dsimp only at hSw); go_simp; try with_reducible rfl)
    simp only [Act.put, List.setIfInBounds_toArray, List.set_cons_zero, List.set_cons_succ]
    refine wpAnyH_take (i := 19) (oi := ⟨some 61, _, _, _, _, _⟩) (v := ?_) rfl (by kernel_rfl) (by kernel_rfl) (by kernel_rfl) (fun _ _ _ h => h) (Or.inl ⟨by kernel_rfl, ?hy19⟩) (by assumption) ?_
    case hy19 => (intro w' hSw; (try dsimp only at hSw); go_simp; try with_reducible rfl)
    simp only [Act.put, List.setIfInBounds_toArray, List.set_cons_zero, List.set_cons_succ]
    refine wpAnyH_take (i := 20) (oi := ⟨some 62, _, _, _, _, _⟩) (v := ?_) rfl (by kernel_rfl) (by kernel_rfl) (by kernel_rfl) (fun _ _ _ h => h) (Or.inl ⟨by kernel_rfl, ?hy20⟩) (by assumption) ?_
    case hy20 => (intro w' hSw; (try dsimp only at hSw); go_simp; try with_reducible rfl)
    simp only [Act.put, List.setIfInBounds_toArray, List.set_cons_zero, List.set_cons_succ]
    refine wpAnyH_take (i := 21) (oi := ⟨some 63, _, _, _, _, _⟩) (v := ?_) rfl (by kernel_rfl) (by kernel_rfl) (by kernel_rfl) (fun _ _ _ h => h) (Or.inl ⟨by kernel_rfl, ?hy21⟩) (by assumption) ?_
    case hy21 => (intro w' hSw; (try dsimp only at hSw); go_simp; try with_reducible rfl)
    simp only [Act.put, List.setIfInBounds_toArray, List.set_cons_zero, List.set_cons_succ]
    refine wpAnyH_take (i := 22) (oi := ⟨some 64, _, _, _, _, _⟩) (v := ?_) rfl (by kernel_rfl) (by kernel_rfl) (by kernel_rfl) (fun _ _ _ h => h) (Or.inl ⟨by kernel_rfl, ?hy22⟩) (by assumption) ?_
    case hy22 => (intro w' hSw; (try dsimp only at hSw); go_simp; try with_reducible rfl)
    simp only [Act.put, List.setIfInBounds_toArray, List.set_cons_zero, List.set_cons_succ]
    refine wpAnyH_take (i := 23) (oi := ⟨some 65, _, _, _, _, _⟩) (v := ?_) rfl (by kernel_rfl) (by kernel_rfl) (by kernel_rfl) (fun _ _ _ h => h) (Or.inl ⟨by kernel_rfl, ?hy23⟩) (by assumption) ?_
    case hy23 => (intro w' hSw; (try dsimp only at hSw); go_simp; try with_reducible rfl)
    simp only [Act.put, List.setIfInBounds_toArray, List.set_cons_zero, List.set_cons_succ]
    refine wpAnyH_take (i := 24) (oi := ⟨some 66, _, _, _, _, _⟩) (v := ?_) rfl (by kernel_rfl) (by kernel_rfl) (by kernel_rfl) (fun _ _ _ h => h) (Or.inl ⟨by kernel_rfl, ?hy24⟩) (by assumption) ?_
    case hy24 => (intro w' hSw; (try dsimp only at hSw); go_simp; try with_reducible rfl)
    simp only [Act.put, List.setIfInBounds_toArray, List.set_cons_zero, List.set_cons_succ]
    refine wpAnyH_take (i := 25) (oi := ⟨some 67, _, _, _, _, _⟩) (v := ?_) rfl (by kernel_rfl) (by kernel_rfl) (by kernel_rfl) (fun _ _ _ h => h) (Or.inl ⟨by kernel_rfl, ?hy25⟩) (by assumption) ?_
    case hy25 => (intro w' hSw; (try dsimp only at hSw); go_simp; try with_reducible rfl)
    simp only [Act.put, List.setIfInBounds_toArray, List.set_cons_zero, List.set_cons_succ]
    refine wpAnyH_take (i := 26) (oi := ⟨some 68, _, _, _, _, _⟩) (v := ?_) rfl (by kernel_rfl) (by kernel_rfl) (by kernel_rfl) (fun _ _ _ h => h) (Or.inl ⟨by kernel_rfl, ?hy26⟩) (by assumption) ?_
    case hy26 => (intro w' hSw; (try dsimp only at hSw); go_simp; try with_reducible rfl)
    simp only [Act.put, List.setIfInBounds_toArray, List.set_cons_zero, List.set_cons_succ]
    refine wpAnyH_ready (rs := [27]) (by kernel_rfl) (by simp) ?_
    refine AllReadyH.cons (o := ⟨some 69, _, _, _, _, _⟩) rfl (fun K hK => ?_) AllReadyH.nil
    (rw [if_pos (by kernel_rfl)])
    go_simp
    refine (HEq.out Al Am cl cm _ (HBl.out.below HB1.out) (HBm.out.below HB1.out)).mono ?_; rintro e y2 ⟨rfl, hb⟩; have HB2 := Lib.hid (HB1.out.trans (hb.mono HB1.out.size)); clear hb
    refine hK.out _ _ (HSk.out _ HB2.out) (fun hHeld => ?_)
    clear hK K
    refine wpAnyH_take (i := 28) (oi := ⟨some 70, _, _, _, _, _⟩) (v := ?_) rfl (by kernel_rfl) (by kernel_rfl) (by kernel_rfl) (fun _ _ _ h => h) (Or.inl ⟨by kernel_rfl, ?hy28⟩) (by assumption) ?_
    case hy28 => (intro w' hSw; (try dsimp only at hSw); go_simp; try with_reducible rfl)
    simp only [Act.put, List.setIfInBounds_toArray, List.set_cons_zero, List.set_cons_succ]
    refine wpAnyH_take (i := 29) (oi := ⟨some 71, _, _, _, _, _⟩) (v := ?_) rfl (by kernel_rfl) (by kernel_rfl) (by kernel_rfl) (fun _ _ _ h => h) (Or.inl ⟨by kernel_rfl, ?hy29⟩) (by assumption) ?_
    case hy29 => (intro w' hSw; (try dsimp only at hSw); go_simp; try with_reducible rfl)
    simp only [Act.put, List.setIfInBounds_toArray, List.set_cons_zero, List.set_cons_succ]
    refine wpAnyH_done (by kernel_rfl) ?_ _
    clear HEq HBx HBm HBl HSk HB0 HB1
    have xn := bx_below Hn.out HB2.out
    have xf := bx_below Hf.out HB2.out
    have x0 := bx_below Hx0.out HB2.out
    have cn := xn.cell
    have fn := xn.frozen
    have cf := xf.cell
    have ff := xf.frozen
    have hwn : IntKind.i64.wrap ((pre.length : Int) + 1) = (pre.length : Int) + 1 := IntWalk.i64_in _ (by omega)
    have hw6 : IntKind.i64.wrap ((x.at_ : Int) + 6) = (x.at_ : Int) + 6 := IntWalk.i64_in _ (by omega)
    have hw7 : IntKind.i64.wrap ((x.at_ : Int) + 6 + (x.l.length : Int)) = (x.at_ : Int) + 6 + (x.l.length : Int) := IntWalk.i64_in _ (by omega)
    gi_wp2
    have xfd : Boxed y2.drew (w2.heap.size + 1 + 1) 3 (.int .i64 (x.at_ : Int)) := xf
    have xnd : Boxed y2.drew (w2.heap.size + 1) 3 (.int .i64 (pre.length : Int)) := xn
    have xf7 := xfd.other (B' := w2.heap.size + 1) (by omega) (.int .i64 ((pre.length : Int) + 1))
    have cf7 := xf7.cell
    have ff7 := xf7.frozen
    refine round_last (S := (fun y => y.cell? ⟨w2.heap.size + 1 + 1, 0, none⟩ = some (.int .i64 (x.at_ : Int)))) 8 (by kernel_rfl) (by kernel_rfl) (fun ⟨_, _, h⟩ => h) cf (fun hHeld => ?_)
    refine lastAny_take (i := 4) (oi := ⟨some 76, _, _, _, _, _⟩) (v := ?_) rfl (by kernel_rfl) (by kernel_rfl) (by kernel_rfl) (by kernel_rfl) (fun _ _ _ h => h) (Or.inl ⟨by kernel_rfl, ?hy4⟩) (by assumption) ?_
    case hy4 => (intro w' hSw; (try dsimp only at hSw); go_simp; try with_reducible rfl)
    simp only [Act.put, List.setIfInBounds_toArray, List.set_cons_zero, List.set_cons_succ]
    refine lastAny_take (i := 5) (oi := ⟨some 77, _, _, _, _, _⟩) (v := ?_) rfl (by kernel_rfl) (by kernel_rfl) (by kernel_rfl) (by kernel_rfl) (fun _ _ _ h => h) (Or.inl ⟨by kernel_rfl, ?hy5⟩) (by assumption) ?_
    case hy5 => (intro w' hSw; (try dsimp only at hSw); go_simp; try with_reducible rfl)
    simp only [Act.put, List.setIfInBounds_toArray, List.set_cons_zero, List.set_cons_succ]
    refine lastAny_take (i := 2) (oi := ⟨some 74, _, _, _, _, _⟩) (v := ?_) rfl (by kernel_rfl) (by kernel_rfl) (by kernel_rfl) (by kernel_rfl) (fun _ _ _ h => h) (Or.inl ⟨by kernel_rfl, ?hy2⟩) (by assumption) ?_
    case hy2 => (intro w' hSw; (try dsimp only at hSw); go_simp; try with_reducible rfl)
    simp only [Act.put, List.setIfInBounds_toArray, List.set_cons_zero, List.set_cons_succ]
    refine lastAny_take (i := 3) (oi := ⟨some 75, _, _, _, _, _⟩) (v := ?_) rfl (by kernel_rfl) (by kernel_rfl) (by kernel_rfl) (by kernel_rfl) (fun _ _ _ h => h) (Or.inl ⟨by kernel_rfl, ?hy3⟩) (by assumption) ?_
    case hy3 => (intro w' hSw; (try dsimp only at hSw); go_simp; try with_reducible rfl)
    simp only [Act.put, List.setIfInBounds_toArray, List.set_cons_zero, List.set_cons_succ]
    refine lastAny_take (i := 6) (oi := ⟨some 78, _, _, _, _, _⟩) (v := ?_) rfl (by kernel_rfl) (by kernel_rfl) (by kernel_rfl) (by kernel_rfl) (fun _ _ _ h => h) (Or.inl ⟨by kernel_rfl, ?hy6⟩) (by assumption) ?_
    case hy6 => (intro w' hSw; (try dsimp only at hSw); go_simp; try with_reducible rfl)
    simp only [Act.put, List.setIfInBounds_toArray, List.set_cons_zero, List.set_cons_succ]
    refine lastAny_ready (rs := [0]) (by kernel_rfl) (by simp) ?_
    refine AllReadyL.cons (o := ⟨some 72, _, _, _, _, _⟩) rfl (fun K hK => ?_) AllReadyL.nil
    (rw [if_pos (by kernel_rfl)])
    go_simp
    
    refine hK.out _ _ cf (fun hHeld => ?_)
    clear hK K
    refine lastAny_ready (rs := [1]) (by kernel_rfl) (by simp) ?_
    refine AllReadyL.cons (o := ⟨some 73, _, _, _, _, _⟩) rfl (fun K hK => ?_) AllReadyL.nil
    (rw [if_pos (by kernel_rfl)])
    go_simp
    
    refine hK.out _ _ cf (fun hHeld => ?_)
    clear hK K
    refine lastAny_ready (rs := [7]) (by kernel_rfl) (by simp) ?_
    refine AllReadyL.cons (o := ⟨none, _, _, _, _, _⟩) rfl (fun K hK => ?_) AllReadyL.nil
    (rw [if_pos (by kernel_rfl)])
    go_simp
    
    refine hK.out _ _ cf7 (fun hHeld => ?_)
    clear hK K
    refine lastAny_end (by kernel_rfl) rfl (by kernel_rfl) (by kernel_rfl) (fun K hK => ?_)
    go_simp
    refine hK.out _ _ ?_
    clear hK K
    obtain ⟨y3, hy3⟩ : ∃ y3, ((y2.setCell ⟨w2.heap.size + 1, 0, none⟩ (.int .i64 ((pre.length : Int) + 1))).setCell ⟨w2.heap.size + 1 + 1, 0, none⟩ (.int .i64 ((x.at_ : Int) + 6 + (x.l.length : Int)))).drew = y3 := ⟨_, rfl⟩
    have xn3 : Boxed y3 (w2.heap.size + 1) 3 (.int .i64 ((pre.length : Int) + 1)) := by rw [← hy3]; exact (xn.set _).other (by omega) _
    have xf3 : Boxed y3 (w2.heap.size + 1 + 1) 3 (.int .i64 ((x.at_ : Int) + 6 + (x.l.length : Int))) := by rw [← hy3]; exact (xf.other (B' := w2.heap.size + 1) (by omega) (.int .i64 ((pre.length : Int) + 1))).set _
    have x03 : Boxed y3 w.heap.size 3 (.int .i64 most) := by rw [← hy3]; exact (x0.other (B' := w2.heap.size + 1) (by omega) (.int .i64 ((pre.length : Int) + 1))).other (B' := w2.heap.size + 1 + 1) (by omega) _
    have HoW : Hid (Only (RkF w2 w3) W y3) := Lib.hid (by rw [← hy3]; exact (((Only.of_below HB2.out).set (p := ⟨w2.heap.size + 1, 0, none⟩) (.inl (.inl (.inl rfl))) _).set (p := ⟨w2.heap.size + 1 + 1, 0, none⟩) (.inl (.inl (.inr rfl))) _).drew)
    have HKf : Hid (KeepsFrom w3.heap.size W y3) := Lib.hid (by
      rw [← hy3]
      have k1 : KeepsFrom w3.heap.size W y2 := ⟨HB2.out.size, fun k o _ hk _ => (HB2.out.block k (Array.getElem?_eq_some_iff.1 hk).1).trans hk⟩
      exact ((k1.trans ((KeepsOthers.setCell _ _ _).from _)).trans ((KeepsOthers.setCell _ _ _).from _)).trans ((KeepsOthers.drew _).from _))
    have cn3 := xn3.cell
    have c03 := x03.cell
    rw [hy3]
    have HX3 := Lib.hid (And.intro xn3 xf3)
    clear hy3 xn xf x0 cn fn cf ff xfd xnd xf7 cf7 ff7 xn3 xf3 x03 HB2 hwn hw6 hw7 hkn hkn2
    have hpn : (((pre ++ [x]).length : Nat) : Int) = (pre.length : Int) + 1 := by simp
    have HPn := Lib.hid hpn
    have HPl : Hid (pre.length + 1 ≤ (scanF b).1.length) := Lib.hid (by omega)
    clear hpn
    by_cases hmost : (pre.length : Int) + 1 = most
    · have t1 : ((pre.length : Int) + 1 == most) = true := beq_iff_eq.2 hmost
      have HMo := Lib.hid hmost
      clear hmost
      gi_wp2
      refine ⟨HKf.out, by rw [HPn.out]; exact HX3.out.1, Ho.out.trans HoW.out (fun i hi => .inl hi), rfl, by have := HPl.out; simp; omega, by rw [HPn.out]; exact HMo.out, by simp⟩
    · have t1 : ((pre.length : Int) + 1 == most) = false := beq_eq_false_iff_ne.2 hmost
      have HMo := Lib.hid hmost
      clear hmost
      gi_wp2
      refine ⟨HKf.out, HoW.out, by rw [HPn.out]; exact HX3.out.1, ?_, Ho.out.trans HoW.out (fun i hi => .inl hi), by have := HPl.out; simp; omega, fun h => ?_⟩
      · have e : ((packsF (lsF (pre ++ [x]))).length : Int) = (x.at_ : Int) + 6 + (x.l.length : Int) := by rw [lsF_snoc, packsF_snoc, List.length_append, packF_length, HG.out.1]; omega
        rw [e]
        exact HX3.out.2
      · have := HG.out.2.2 h
        have := HMo.out
        rw [HPn.out]
        omega
  case done =>
    rintro D ys W hD ⟨hys1, _⟩ ⟨hn, _, ho, _, hmm⟩ hK
    have hyl : ys.length = (scanF b).1.length := by rw [← hys1, lsF_length]
    rw [hyl] at hn hmm
    clear hys1 hyl
    have xm := Boxed.only X3.out.2 ho (fun h => by rcases h with (h | h) | h <;> omega)
    have x0 := Boxed.only B3.out.1 ho (fun h => by rcases h with (h | h) | h <;> omega)
    have x1 := Boxed.only B3.out.2 ho (fun h => by rcases h with (h | h) | h <;> omega)
    have hBW : Below w.heap.size w W := KB3.out.trans (ho.below (by omega) (fun i hi => by rcases hi with (h | h) | h <;> omega))
    have Hal := Lib.hid (falive11_calls W (HT.out.on hBW))
    have HBW := Lib.hid hBW
    have Hx1 := Lib.hid x1
    have Hn := Lib.hid hn
    have HK := Lib.hid hK
    have hNl : (scanF b).1.length ≤ 3000 := HN.out.1
    have cm := xm.cell
    have c0 := x0.cell
    have hM0 := HM.out.1
    have hM1 := HM.out.2
    have hz9 := hBW.size
    clear htells hBW x1 hn hK xm x0 ho
    have hcc : (((scanF b).1.length : Int) == ((scanF b).1.length : Int)) = true := by simp
    by_cases h1 : 1 ≤ most
    · have hmin : min ((scanF b).1.length : Int) most = ((scanF b).1.length : Int) := by have := hmm h1; omega
      have hq : decide (1 ≤ most) = true := decide_eq_true h1
      clear hmm h1
      gi_wp2_with (refine ⟨trivial, ?_⟩; gi_at_call 9; refine (callsIn_wide.2 Hal.out).mono ?_)
      rintro e w4 ⟨rfl, hb4⟩
      have hK4 : w4.heap[D]? = some (.deferred (some [])) := (hb4.block D (Array.getElem?_eq_some_iff.1 HK.out).1).trans HK.out
      have cn4 := (bx_below Hn.out hb4).cell
      have br4 := bx_below Hx1.out hb4
      have cr4 := br4.cell
      have fr4 := br4.frozen
      have Hb4 := Lib.hid (HBW.out.trans (hb4.mono HBW.out.size))
      have Hbr4 := Lib.hid br4
      clear hb4 br4 Hal
      gi_wp2
      refine ⟨by simp, .inl ⟨_, _, rfl, run_takeDeferred (w := w4.setCell ⟨w.heap.size + 1, 0, none⟩ (.bool true)) ((Below.heap_setCell w4 ⟨w.heap.size + 1, 0, none⟩ _ D (by simp; omega)).trans hK4), ?_⟩⟩
      refine ⟨_, results_bool11 rfl _ _ (w.heap.size + 1) (.bool true) 4 rfl ((World.putObj_heap_other (by omega)).trans (Hbr4.out.set (.bool true))) Tryd.underlying4, rfl, ?_⟩
      exact (Hb4.out.setCell (p := ⟨w.heap.size + 1, 0, none⟩) (Nat.le_succ _) _).trans (belowK_b (w := w) (Nat.le_refl _) _ D _ _ (by omega) ((Below.heap_setCell w4 ⟨w.heap.size + 1, 0, none⟩ _ D (by simp; omega)).trans hK4) rfl rfl)
    · have h1' : most < 1 := by omega
      clear hmm h1
      gi_wp2_with (refine ⟨trivial, ?_⟩; gi_at_call 9; refine (callsIn_wide.2 Hal.out).mono ?_)
      rintro e w4 ⟨rfl, hb4⟩
      have hK4 : w4.heap[D]? = some (.deferred (some [])) := (hb4.block D (Array.getElem?_eq_some_iff.1 HK.out).1).trans HK.out
      have cn4 := (bx_below Hn.out hb4).cell
      have br4 := bx_below Hx1.out hb4
      have cr4 := br4.cell
      have fr4 := br4.frozen
      have Hb4 := Lib.hid (HBW.out.trans (hb4.mono HBW.out.size))
      have Hbr4 := Lib.hid br4
      clear hb4 br4 Hal
      gi_wp2
      refine ⟨by simp, .inl ⟨_, _, rfl, run_takeDeferred (w := w4.setCell ⟨w.heap.size + 1, 0, none⟩ (.bool true)) ((Below.heap_setCell w4 ⟨w.heap.size + 1, 0, none⟩ _ D (by simp; omega)).trans hK4), ?_⟩⟩
      refine ⟨_, results_bool11 rfl _ _ (w.heap.size + 1) (.bool true) 4 rfl ((World.putObj_heap_other (by omega)).trans (Hbr4.out.set (.bool true))) Tryd.underlying4, rfl, ?_⟩
      exact (Hb4.out.setCell (p := ⟨w.heap.size + 1, 0, none⟩) (Nat.le_succ _) _).trans (belowK_b (w := w) (Nat.le_refl _) _ D _ _ (by omega) ((Below.heap_setCell w4 ⟨w.heap.size + 1, 0, none⟩ _ D (by simp; omega)).trans hK4) rfl rfl)
  case stop =>
    rintro D c' pre W hD ⟨hn, ho, rfl, hpl, hme, hpo⟩ hK
    have xm := Boxed.only X3.out.2 ho (fun h => by rcases h with (h | h) | h <;> omega)
    have x0 := Boxed.only B3.out.1 ho (fun h => by rcases h with (h | h) | h <;> omega)
    have x1 := Boxed.only B3.out.2 ho (fun h => by rcases h with (h | h) | h <;> omega)
    have hBW : Below w.heap.size w W := KB3.out.trans (ho.below (by omega) (fun i hi => by rcases hi with (h | h) | h <;> omega))
    have Hal := Lib.hid (falive11_calls W (HT.out.on hBW))
    have HBW := Lib.hid hBW
    have Hx1 := Lib.hid x1
    have Hn := Lib.hid hn
    have HK := Lib.hid hK
    have hNl : (scanF b).1.length ≤ 3000 := HN.out.1
    have cm := xm.cell
    have c0 := x0.cell
    have hM0 := HM.out.1
    have hM1 := HM.out.2
    have hz9 := hBW.size
    clear htells hBW x1 hn hK xm x0 ho
    have hcc : ((pre.length : Int) == most) = true := by rw [beq_iff_eq]; exact hme
    have hmin : min ((scanF b).1.length : Int) most = most := by omega
    have hq : decide (1 ≤ most) = true := decide_eq_true (by omega)
    clear hme hpl hpo
    gi_wp2_with (refine ⟨trivial, ?_⟩; gi_at_call 9; refine (callsIn_wide.2 Hal.out).mono ?_)
    rintro e w4 ⟨rfl, hb4⟩
    have hK4 : w4.heap[D]? = some (.deferred (some [])) := (hb4.block D (Array.getElem?_eq_some_iff.1 HK.out).1).trans HK.out
    have cn4 := (bx_below Hn.out hb4).cell
    have br4 := bx_below Hx1.out hb4
    have cr4 := br4.cell
    have fr4 := br4.frozen
    have Hb4 := Lib.hid (HBW.out.trans (hb4.mono HBW.out.size))
    have Hbr4 := Lib.hid br4
    clear hb4 br4 Hal
    gi_wp2
    refine ⟨by simp, .inl ⟨_, _, rfl, run_takeDeferred (w := w4.setCell ⟨w.heap.size + 1, 0, none⟩ (.bool true)) ((Below.heap_setCell w4 ⟨w.heap.size + 1, 0, none⟩ _ D (by simp; omega)).trans hK4), ?_⟩⟩
    refine ⟨_, results_bool11 rfl _ _ (w.heap.size + 1) (.bool true) 4 rfl ((World.putObj_heap_other (by omega)).trans (Hbr4.out.set (.bool true))) Tryd.underlying4, rfl, ?_⟩
    exact (Hb4.out.setCell (p := ⟨w.heap.size + 1, 0, none⟩) (Nat.le_succ _) _).trans (belowK_b (w := w) (Nat.le_refl _) _ D _ _ (by omega) ((Below.heap_setCell w4 ⟨w.heap.size + 1, 0, none⟩ _ D (by simp; omega)).trans hK4) rfl rfl)
theorem frscans_law (A : Option Addr) (c : Nat) (b : List UInt8) (most : Int) (w : World) (hb : Byt w A b) (hA : A = none → c = 0) (hc : b.length ≤ c) (hm0 : -9223372036854775808 ≤ most) (hm1 : most ≤ 9223372036854775807) (ht : LaysR w) :
    Calls Tryd.prog 5 #[.slice A b.length c, .int .i64 most] w fun e w' => e = .returned (.bool true) ∧ Below w.heap.size w w' := by
  by_cases h : 3000 < b.length
  · exact frscans_big A c b most w h ht
  · exact frscans_list A c b most w hb hA hc hm0 hm1 (by omega) ht
end Go.Proofs.YtjfikdldabmciaaDoor
