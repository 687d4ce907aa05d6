/-
  Package frame: Scan (layer 11).
-/
import Derived.Test.YtjfikdldabmciaaDoorFrEach
import Derived.RegionTactic
import Derived.BigRegion
import Derived.Maps.AppendAt
namespace Go.Proofs.YtjfikdldabmciaaDoor
open Go Go.RowKit Go.Shelf
attribute [local go_sem] Oper.semAt_some
set_option maxRecDepth 100000

theorem box_app11 {W w1 : World} {base B : Nat} {t e : TypeId} {size : Nat} {v v' : Value} {k m : Nat} {xs ys : List Value} {tmp : Obj}
    (hv : Boxed W B t v) (hrow : W.ownsRow base e size v k xs) (hB : B < base) (hown' : w1.ownsRow base e size v' m ys) (hgrow : (W.alloc tmp).grownBy w1 v.ownBlock) :
    Boxed w1 B t v ∧ Boxed (w1.setCell ⟨B, 0, none⟩ v') B t v' ∧ (w1.setCell ⟨B, 0, none⟩ v').ownsRow base e size v' m ys ∧ KeepsOthers W (w1.setCell ⟨B, 0, none⟩ v') ∧ Only (fun k => k = B ∨ base ≤ k) W (w1.setCell ⟨B, 0, none⟩ v') := by
  have hlo : ∀ j, v.ownBlock = some j → base ≤ j := fun j hj => (hrow.lt j hj).1
  have hv1 : Boxed w1 B t v := (hv.alloc tmp).kept hgrow (fun e' => by have := hlo B e'.symm; omega)
  refine ⟨hv1, hv1.set v', own_setCell hown' hB v', ?_, ?_⟩
  · refine ((KeepsOthers.alloc W tmp).trans (KeepsOthers.of_grownBy hgrow fun j o ej hj => ?_)).trans (KeepsOthers.setCell _ _ _)
    rcases (hrow.alloc tmp).2 with ⟨rfl, _⟩ | ⟨g, cap, cur, rfl, _, hgb, _⟩
    · simp [Value.ownBlock] at ej
    · obtain rfl : g = j := by simpa [Value.ownBlock] using ej
      rw [hgb] at hj; cases hj; rfl
  · exact (((Only.refl _ W).alloc tmp).grown hgrow (fun i hi => .inl (.inr (hlo i hi)))).set (p := ⟨B, 0, none⟩) (.inl (.inl rfl)) v'
theorem own_ne {W : World} {b b' e e' z z' : Nat} {v v' : Value} {n n' : Nat} {xs xs' : List Value} (h : W.ownsRow b e z v n xs) (h' : W.ownsRow b' e' z' v' n' xs') (hne : e ≠ e') : v.ownBlock = none ∨ v.ownBlock ≠ v'.ownBlock := by
  rcases h.2 with ⟨rfl, _⟩ | ⟨g, cap, cur, rfl, _, hg, _⟩
  · exact .inl rfl
  · refine .inr fun he => ?_
    rcases h'.2 with ⟨rfl, _⟩ | ⟨g', cap', cur', rfl, _, hg', _⟩
    · cases he
    · obtain rfl : g = g' := by simpa [Value.ownBlock] using he
      rw [hg] at hg'
      injection hg' with h1
      injection h1 with _ h2
      exact hne h2
theorem own_ne_box {W : World} {b e s B t : Nat} {v u : Value} {n : Nat} {xs : List Value} (h : W.ownsRow b e s v n xs) (h' : Boxed W B t u) (hne : e ≠ t) : v.ownBlock ≠ some B := fun he => by
  rcases h.2 with ⟨rfl, _⟩ | ⟨g, cap, cur, rfl, _, hg, _⟩
  · cases he
  · obtain rfl : g = B := by simpa [Value.ownBlock] using he
    rw [show W.heap[g]? = _ from h'] at hg
    injection hg with h1
    injection h1 with _ h2
    exact hne h2.symm
theorem own_set11 {W : World} {b e s B t : Nat} {v u u' : Value} {n : Nat} {xs : List Value} (h : W.ownsRow b e s v n xs) (h' : Boxed W B t u) (hne : e ≠ t) : (W.setCell ⟨B, 0, none⟩ u').ownsRow b e s v n xs := h.kept (grownBy_setCell' W B u') (.inr (own_ne_box h h' hne))
theorem results_two {P : Program} {fn : Func} {p0 p1 : Tmp} {t0 t1 : TypeId} {e : TypeId} (h : fn.results = #[.cell p0 t0, .cell p1 t1]) (tmps : Array Value) (w : World) (g0 g1 : Nat) (v0 v1 : Value)
    (hp0 : tmps.getD p0 undef = .pointer (some ⟨g0, 0, none⟩)) (hp1 : tmps.getD p1 undef = .pointer (some ⟨g1, 0, none⟩)) (hb0 : Boxed w g0 t0 v0) (hb1 : Boxed w g1 t1 v1) (hu0 : P.underlying t0 = some (.slice e)) (hu1 : P.underlying t1 = some (.int .i64)) :
    (results fn tmps).run P w = .ok (.tuple #[v0, v1]) w := by
  have hp0' : tmps[p0]?.getD undef = .pointer (some ⟨g0, 0, none⟩) := by simpa using hp0
  have hp1' : tmps[p1]?.getD undef = .pointer (some ⟨g1, 0, none⟩) := by simpa using hp1
  have c0 := hb0.cell
  have c1 := hb1.cell
  simp [results, h, hp0', hp1', asAddr, loadVar, isAgg, Sem.run_bind, run_underlying hu0, run_underlying hu1, c0, c1, go_sem]
def fxC (x : Fx) : Value := .slice x.A x.l.length x.c
/-- What lies in memory of the payloads that were told. -/
def PayIn (pre : List Fx) (W : World) : Prop := ∀ x ∈ pre, W.ownsRow 0 5 1 (.slice x.A x.l.length x.c) x.l.length (Lib.byteCells x.l)
theorem payIn_own (B : Nat) : OwnFrom B PayIn := fun _ X Y row hs hg hr x hx => ownFrom_row B 0 5 1 (fun x : Fx => .slice x.A x.l.length x.c) (fun x => x.l.length) (fun x => Lib.byteCells x.l) x X Y row (hs x hx) hg hr
theorem rdBs_pay {w : World} {base : Nat} {A : Option Addr} {n c : Nat} {xs : List Fx} (h : w.ownsRow base 22 1 (.slice A n c) xs.length (xs.map fxC)) (hp : PayIn xs w) : RdBs w A (lsF xs) := by
  have e1 : (xs.map (fun x => (⟨x.A, x.l, x.c⟩ : Sb))).map sbV = xs.map fxC := by rw [List.map_map]; rfl
  have e2 : (xs.map (fun x => (⟨x.A, x.l, x.c⟩ : Sb))).map Sb.l = lsF xs := by rw [List.map_map]; rfl
  rw [← e2]
  refine rdBs_own (base := base) (n := n) (c := c) ?_ fun s hs => ?_
  · rw [e1, List.length_map]; exact h
  · obtain ⟨x, hx, rfl⟩ := List.mem_map.1 hs
    exact ⟨(byt_of_own (hp x hx)).1, own_none (hp x hx)⟩
theorem ownFrom_size11 {β : Type} (B k : Nat) : OwnFrom B (fun (_ : β) W => k ≤ W.heap.size) := fun _ _ _ _ h hg _ => Nat.le_trans h hg.size
def ScanI (w : World) (n1 : Nat) (pre : List Fx) (W : World) : Prop :=
  (∃ v, Boxed W w.heap.size 31 v ∧ W.ownsRow n1 22 1 v pre.length (pre.map fxC) ∧ True) ∧ Boxed W (w.heap.size + 1) 3 (.int .i64 ((packsF (lsF pre)).length : Int)) ∧ PayIn pre W ∧ (Below w.heap.size w W ∧ n1 ≤ W.heap.size)
theorem scanI_own (w : World) (n1 : Nat) (h : w.heap.size ≤ n1) : OwnFrom n1 (ScanI w n1) :=
  OwnFrom.and (Own.from (holdsRow_own n1 w.heap.size 31 22 1 (fun pre : List Fx => pre.length) (fun pre => pre.map fxC) (fun _ _ => True)) _) (OwnFrom.and (Own.from (boxed_own (w.heap.size + 1) 3 (fun pre : List Fx => .int .i64 ((packsF (lsF pre)).length : Int))) _) (OwnFrom.and (payIn_own n1) (OwnFrom.and (ownFrom_below (Nat.le_refl _) h) (ownFrom_size11 _ _))))
set_option maxHeartbeats 4000000 in
theorem fscan11_calls (A : Option Addr) (c : Nat) (b : List UInt8) (w : World) (hb : Byt w A b) (hA : A = none → c = 0) (_hc : b.length ≤ c) (hl : b.length ≤ 100000) (ht : LaysR w) :
    Calls Tryd.prog 15 #[.slice A b.length c] w fun e w' => ∃ A' c', e = .returned (.tuple #[.slice A' (scanF b).1.length c', .int .i64 ((scanF b).2 : Int)]) ∧ RdBs w' A' (scanF b).1 ∧ (A' = none → c' = 0) ∧ Below w.heap.size w w' := by
  obtain ⟨i0, hi0, hz0, hz1, hz2⟩ := infoSb'
  obtain ⟨w0, hw0⟩ : ∃ w0, (w.alloc (.cells #[.slice none 0 0] 31)).alloc (.cells #[.int .i64 0] 3) = w0 := ⟨_, rfl⟩
  have x0 := (Boxed.new w 31 (.slice none 0 0)).alloc (.cells #[.int .i64 0] 3)
  have x1 := Boxed.new (w.alloc (.cells #[.slice none 0 0] 31)) 3 (.int .i64 0)
  rw [World.size_alloc] at x1
  have hb0 : Below w.heap.size w w0 := by rw [← hw0]; exact ((Below.refl _ w).alloc (Nat.le_refl _) _).alloc (by simp) _
  have hs0 : w0.heap.size = w.heap.size + 2 := by rw [← hw0]; simp
  rw [hw0] at x0 x1
  have HE := Lib.hid (each11_calls A c b w0 (hb.below hb0) hA hl)
  have HX := Lib.hid (And.intro x0 x1)
  have HB0 := Lib.hid hb0
  have HT := Lib.hid ht
  have HTl := Lib.hid (World.block_lt_of_cell? _ _ (ht 0 (by omega)))
  clear x0 x1 hb0 hb hA ht
  refine (callsIn_wide (n := 4)).1 ?_
  refine callsIn_of_wp_marks Tryd.func15 rfl trivial ?_ rfl
  simp only [Tryd.ntmps15, List.size_toArray, List.length_cons, List.length_nil, Nat.reduceAdd, Nat.reduceSub, Array.replicate_succ, Array.replicate_zero, List.push_toArray, List.append_toArray, List.nil_append, List.cons_append]
  have HEy := Lib.hid (HE.out.mono (fun e w' h => Lib.hid h))
  gi_wp2_with (refine ⟨trivial, ?_⟩; gi_at_call 17; refine (callsIn_wide.2 HEy.out).mono ?_)
  intro e w1 hp1
  obtain ⟨rfl, A1, c1, hx1, hown1, hb1⟩ := hp1.out
  clear hp1 HE HEy hw0
  have hy1 := byt_of_own hown1
  have hz1' := hb1.size
  have x0 : Boxed w1 w.heap.size 31 (.slice none 0 0) := (hb1.block _ (by omega)).trans HX.out.1
  have x1 : Boxed w1 (w.heap.size + 1) 3 (.int .i64 0) := (hb1.block _ (by omega)).trans HX.out.2
  have hB1 : Below w.heap.size w w1 := HB0.out.trans (hb1.mono (by omega))
  have hlo := hown1.lt
  have hx1l := hx1.lt
  obtain ⟨Rk, hRk⟩ : ∃ Rk : Nat → Prop, Rk = fun k => (k = w.heap.size ∨ k = w.heap.size + 1) ∨ w1.heap.size ≤ k := ⟨_, rfl⟩
  have hR0 : ∀ k, k < w.heap.size → ¬ Rk k := fun k hk h => by rw [hRk] at h; rcases h with (h | h) | h <;> omega
  have hR2 : ∀ k, w.heap.size + 2 ≤ k → k < w1.heap.size → ¬ Rk k := fun k hk hk2 h => by rw [hRk] at h; rcases h with (h | h) | h <;> omega
  have htells := each11_tells 3 (by omega) (w.heap.size + 2) A1 c1 b w1 Rk hx1 hy1.1 (own_none hown1) hy1.2.2.1 hl (HT.out.on hB1) (hR2 _ (Nat.le_refl _) hx1l)
    (fun a e => by
      have := hlo a.block (by rw [e]; rfl)
      exact hR2 _ (by omega) this.2)
    (fun X Y ho hT i hi => ho.cell (hT i hi) (hR0 _ HTl.out))
  gi_wp2
  refine wpIn_told rfl (by omega) (gf := 25) (lb := #[.pointer (some ⟨w.heap.size + 2, 0, none⟩)]) rfl trivial (enters_of Tryd.func25 (by kernel_rfl) rfl)
    (Kp := Only Rk) htells (Below.refl _ _) (fun _ => rfl) (fun h k => h.trans k (fun i hi => .inl hi)) (fun W l o o' hle _ _ _ => Only.of_grown (grownBy_putObj' W l o') (fun k e => by cases e; rw [hRk]; exact .inr hle))
    (fun pre x => fxAt_own b pre x _) (ScanI w w1.heap.size) (fun _ _ _ => False) (scanI_own w _ hB1.size) (fun _ _ _ _ _ hs _ _ => hs)
    ⟨⟨_, x0, World.ownsRow_nil _ _ _ _, trivial⟩, x1, fun x hx => (by cases hx), hB1, Nat.le_refl _⟩
    (fun x => { tmps := #[.slice A b.length c, undef, .pointer (some ⟨w.heap.size, 0, none⟩), .pointer (some ⟨w.heap.size + 1, 0, none⟩), .int .i64 (x.at_ : Int), .slice x.A x.l.length x.c, .slice A b.length c, .func (.func 25) #[] #[.pointer (some ⟨w.heap.size + 2, 0, none⟩)], .int .i64 (x.at_ : Int), .slice x.A x.l.length x.c, undef, undef, undef, undef, undef, undef, undef, undef, undef, undef, undef], defers := [] }) ?assign ?body ?done ?stop
  case assign =>
    intro l x W K hK
    unfold fxV
    gi_wp2
    exact hK
  case body =>
    rintro l' pre x W ⟨⟨v, hv, hrow, _⟩, hg, hpay, hB, hsz⟩ ⟨hrx, hax, hsx, hfx⟩
    have hcv := hv.cell
    have hfit : x.at_ + 6 + x.l.length ≤ 100000 := by omega
    have hpl : pre.length < (scanF b).1.length := (List.getElem?_eq_some_iff.1 hsx).1
    have hq : ((packsF (lsF (pre ++ [x]))).length : Int) = (x.at_ : Int) + 6 + (x.l.length : Int) := by rw [lsF_snoc, packsF_snoc, List.length_append, packF_length, hax]; omega
    have hpl2 : pre.length ≤ 100000 := by have := packsF_ge (lsF pre); rw [lsF_length] at this; omega
    have hwr1 : IntKind.i64.wrap ((x.at_ : Int) + 6) = (x.at_ : Int) + 6 := IntWalk.i64_in _ (by omega)
    have hwr2 : IntKind.i64.wrap ((x.at_ : Int) + 6 + (x.l.length : Int)) = (x.at_ : Int) + 6 + (x.l.length : Int) := IntWalk.i64_in _ (by omega)
    have HQ := Lib.hid hq
    have HPy := Lib.hid (show PayIn (pre ++ [x]) W from fun y hy => by
      rcases List.mem_append.1 hy with h | h
      · exact hpay y h
      · obtain rfl := List.mem_singleton.1 h
        exact hrx)
    have HBl := Lib.hid hB
    clear hq hpay hrx hax hsx hpl hfx hx1 hown1 hb1 hB1 htells hlo hy1 x0 x1 hB
    gi_wp2_with (gi_at_builtin; refine wpListIn_append_own _ rfl _ _ 31 rfl w1.heap.size 22 i0 (.slice none 0 0) 1 24 Tryd.underlying31 hi0 hz0 hz1 hz2 rfl (by decide) _ _ _ rfl (hrow.alloc _) ⟨W.heap.size, 0, none⟩ 1 1 [.slice x.A x.l.length x.c] rfl rfl (cell_one_new _ _ _) (by simp [Value.oneCell']) (by unfold maxLen; omega) (by omega) (by simp; omega) ?_; intro v' w2 hown' hgrow _; obtain ⟨g', cap', rfl⟩ := ownsRow_succ hown'; obtain ⟨hv1, hv2, hr2, hk2, ho2⟩ := box_app11 hv hrow (by omega) hown' hgrow; have hc1 := hv1.cell; have hf1 := hv1.frozen; have hgk : Boxed w2 (w.heap.size + 1) 3 _ := (hg.alloc (.cells #[.slice x.A x.l.length x.c] 22)).kept hgrow (fun e' => by have := (hrow.lt _ e'.symm).1; omega); have hgc := hgk.cell; have hgf := hgk.frozen)
    have hpn : (pre ++ [x]).length = pre.length + 1 := by simp
    have hg2 : Boxed (w2.setCell ⟨w.heap.size, 0, none⟩ (.slice (some ⟨g', 0, none⟩) (pre.length + 1) cap')) (w.heap.size + 1) 3 (.int .i64 ((packsF (lsF pre)).length : Int)) := hgk.other (by omega) _
    have ho3 : Only Rk W ((w2.setCell ⟨w.heap.size, 0, none⟩ (.slice (some ⟨g', 0, none⟩) (pre.length + 1) cap')).setCell ⟨w.heap.size + 1, 0, none⟩ (.int .i64 ((x.at_ : Int) + 6 + (x.l.length : Int)))) :=
      (ho2.mono (R' := Rk) (fun i hi => .inl (by rw [hRk]; rcases hi with h | h; exact .inl (.inl h); exact .inr h))).set (p := ⟨w.heap.size + 1, 0, none⟩) (.inl (by rw [hRk]; exact .inl (.inr rfl))) _
    have hRlo : ∀ i, Rk i → w.heap.size ≤ i := fun i hi => Nat.le_of_not_lt (fun h => hR0 i h hi)
    refine ⟨(hk2.trans (KeepsOthers.setCell _ _ _)).from _, ho3, ⟨_, hv2.other (by omega) _, ?_, trivial⟩, ?_, ?_, HBl.out.trans (ho3.below HBl.out.size hRlo), Nat.le_trans hsz ho3.size⟩
    · have h := own_setCell (a := ⟨w.heap.size + 1, 0, none⟩) hr2 (show w.heap.size + 1 < w1.heap.size by omega) (.int .i64 ((x.at_ : Int) + 6 + (x.l.length : Int)))
      rw [List.map_append, hpn]
      exact h
    · rw [HQ.out]; exact hg2.set _
    · intro y hy
      have h := HPy.out y hy
      have h2 := (h.alloc (.cells #[.slice x.A x.l.length x.c] 22)).kept hgrow (own_ne h hrow (by decide))
      exact own_set11 (own_set11 h2 hv1 (by decide)) hg2 (by decide)
  case done =>
    rintro D ys W hD ⟨hys1, hys2⟩ ⟨⟨v, hv, hrow, _⟩, hg, hpay, hB, hsz⟩ hK
    obtain ⟨A2, c2, rfl⟩ := own_form hrow
    have hcv := hv.cell
    have hfv := hv.frozen
    have hgc := hg.cell
    have hgf := hg.frozen
    have hg2 := hg.other (B' := w.heap.size) (by omega) (.slice A2 ys.length c2)
    have hgc2 := hg2.cell
    have hgf2 := hg2.frozen
    clear htells hx1 hown1 hb1 hlo hy1 x0 x1
    gi_wp2
    refine wpIn_wide.2 ?_
    go_region
    gi_wp2
    have hl1 : ys.length = (scanF b).1.length := by rw [← hys1, lsF_length]
    have hv2 := (hv.set (.slice A2 ys.length c2)).other (B' := w.heap.size + 1) (by omega) (.int .i64 ((packsF (lsF ys)).length : Int))
    have hg3 := hg2.set (.int .i64 ((packsF (lsF ys)).length : Int))
    have hr2 := own_setCell (a := ⟨w.heap.size + 1, 0, none⟩) (own_setCell (a := ⟨w.heap.size, 0, none⟩) hrow (show w.heap.size < w1.heap.size by omega) (.slice A2 ys.length c2)) (show w.heap.size + 1 < w1.heap.size by omega) (.int .i64 ((packsF (lsF ys)).length : Int))
    have hpy : PayIn ys ((W.setCell ⟨w.heap.size, 0, none⟩ (.slice A2 ys.length c2)).setCell ⟨w.heap.size + 1, 0, none⟩ (.int .i64 ((packsF (lsF ys)).length : Int))) := fun y hy => own_set11 (own_set11 (hpay y hy) hv (by decide)) hg2 (by decide)
    have hb3 : Below w.heap.size w ((W.setCell ⟨w.heap.size, 0, none⟩ (.slice A2 ys.length c2)).setCell ⟨w.heap.size + 1, 0, none⟩ (.int .i64 ((packsF (lsF ys)).length : Int))) := (hB.setCell (p := ⟨w.heap.size, 0, none⟩) (Nat.le_refl _) _).setCell (p := ⟨w.heap.size + 1, 0, none⟩) (Nat.le_succ _) _
    have hk3 : ((W.setCell ⟨w.heap.size, 0, none⟩ (.slice A2 ys.length c2)).setCell ⟨w.heap.size + 1, 0, none⟩ (.int .i64 ((packsF (lsF ys)).length : Int))).heap[D]? = some (.deferred (some [])) := (Below.heap_setCell _ ⟨w.heap.size + 1, 0, none⟩ _ D (by simp; omega)).trans ((Below.heap_setCell _ ⟨w.heap.size, 0, none⟩ _ D (by simp; omega)).trans hK)
    rw [hys1] at hv2 hg3 hr2 hpy hb3 hk3
    generalize (W.setCell ⟨w.heap.size, 0, none⟩ (.slice A2 ys.length c2)).setCell ⟨w.heap.size + 1, 0, none⟩ (.int .i64 ((packsF (scanF b).1).length : Int)) = W3 at *
    have hkd : W3.drew.heap[D]? = some (.deferred (some [])) := hk3
    have hb4 : Below w.heap.size w W3.drew := hb3.drew
    refine ⟨by simp, .inl ⟨_, _, rfl, run_takeDeferred hkd, ?_⟩⟩
    refine ⟨_, results_two rfl _ _ w.heap.size (w.heap.size + 1) (.slice A2 ys.length c2) (.int .i64 ((packsF (scanF b).1).length : Int)) rfl rfl ((World.putObj_heap_other (by omega)).trans hv2) ((World.putObj_heap_other (by omega)).trans hg3) Tryd.underlying31 Tryd.underlying3, A2, c2, ?_, ?_, own_none hrow, hb4.trans (belowK_b (w := w) (Nat.le_refl _) W3.drew D _ _ (by omega) hkd rfl rfl)⟩
    · rw [hl1, ← hys2, hys1]
    · rw [← hys1]
      have hr4 : W3.drew.ownsRow w1.heap.size 22 1 (.slice A2 ys.length c2) ys.length (ys.map fxC) := hr2
      have hp4 : PayIn ys W3.drew := hpy
      exact rdBs_pay (ownsRow_putObj hr4 (.deferred none) hkd rfl) (fun y hy => ownsRow_putObj (hp4 y hy) (.deferred none) hkd rfl)
  case stop =>
    rintro D c' pre W _ h _
    exact h.elim
end Go.Proofs.YtjfikdldabmciaaDoor
