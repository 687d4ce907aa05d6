/-
  'stands': a ring, held against the document's state.
-/
import Derived.Test.YtdpijbaolaignaaAllS
import Derived.Test.YtdpijbaolaignaaRRef
import Derived.Deep.RegionHeld3
namespace Go.Proofs.Ytdpijbaolaignaa
open Go Go.RowKit Go.Shelf
attribute [local go_sem] Oper.semAt_some
set_option maxRecDepth 100000

theorem results_bool {P : Program} {fn : Func} {p : Tmp} {ty : TypeId} (h : fn.results = #[.cell p ty]) (tmps : Array Value) (w : World) (g : Nat) (v : Value) (t : TypeId)
    (hp : tmps.getD p undef = .pointer (some ⟨g, 0, none⟩)) (hb : Boxed w g t v) (hu : P.underlying ty = some .bool) : (results fn tmps).run P w = .ok v w := by
  have hp' : tmps[p]?.getD undef = .pointer (some ⟨g, 0, none⟩) := by simpa using hp
  have hc := hb.cell
  simp [results, h, hp', asAddr, loadVar, isAgg, Sem.run_bind, run_underlying hu, hc, go_sem]
theorem bx3_own {β : Type} (g : Nat) (t : TypeId) (x y z : Value) : Own (fun (_ : β) W => Bx3 W g t x y z) := fun _ A _ row hs hg hr =>
  (hg.block g hs.lt (fun e => by obtain ⟨o, ho, hc⟩ := hr g e.symm; rw [show A.heap[g]? = _ from hs] at ho; cases ho; cases hc)).trans hs

set_option maxHeartbeats 8000000 in
theorem stands_calls (w : World) (R : Nat → Prop) (b : Nat) (s : RS ByteArray) (h : RingS w R b s) (A : Option Addr) (c : Nat) (hd : DocAt w A c s) :
    Calls Try.prog 15 #[.pointer (some ⟨b, 0, none⟩), docV A c s] w fun e w' => e = .returned (.bool true) ∧ Below w.heap.size w w' := by
  have hln := h.ok.len
  have hle := h.ok.le
  have H := Lib.hid h
  have HD := Lib.hid hd
  clear h hd
  unfold docV
  refine (callsIn_wide (n := 4)).1 ?_
  refine callsIn_of_wp_marks Try.func15 rfl trivial ?_ rfl
  simp only [Try.ntmps15, List.size_toArray, List.length_cons, List.length_nil, Nat.reduceAdd, Nat.reduceSub, Array.replicate_succ, Array.replicate_zero, List.push_toArray, List.append_toArray, List.nil_append, List.cons_append]
  gi_wp2_with (refine ⟨trivial, ?_⟩; gi_at_call 19; refine (all_inS _ _ _).mono ?_; rintro e w' ⟨rfl, rfl⟩)
  obtain ⟨W0, hW0⟩ : ∃ W0, (((w.alloc (.cells #[.int .i64 (s.lim : Int), .slice A s.l.length c, .int .i64 (s.i : Int)] 29)).alloc (.cells #[.bool false] 4)).alloc (.cells #[.int .i64 0] 3)).alloc (.cells #[.pointer (some ⟨b, 0, none⟩)] 25) = W0 := ⟨_, rfl⟩
  have x0 := (((Bx3.new w 29 (.int .i64 (s.lim : Int)) (.slice A s.l.length c) (.int .i64 (s.i : Int))).alloc (.cells #[.bool false] 4)).alloc (.cells #[.int .i64 0] 3)).alloc (.cells #[.pointer (some ⟨b, 0, none⟩)] 25)
  have x1 := ((Boxed.new (w.alloc (.cells #[.int .i64 (s.lim : Int), .slice A s.l.length c, .int .i64 (s.i : Int)] 29)) 4 (.bool false)).alloc (.cells #[.int .i64 0] 3)).alloc (.cells #[.pointer (some ⟨b, 0, none⟩)] 25)
  have x2 := (Boxed.new ((w.alloc (.cells #[.int .i64 (s.lim : Int), .slice A s.l.length c, .int .i64 (s.i : Int)] 29)).alloc (.cells #[.bool false] 4)) 3 (.int .i64 0)).alloc (.cells #[.pointer (some ⟨b, 0, none⟩)] 25)
  have x3 := Boxed.new (((w.alloc (.cells #[.int .i64 (s.lim : Int), .slice A s.l.length c, .int .i64 (s.i : Int)] 29)).alloc (.cells #[.bool false] 4)).alloc (.cells #[.int .i64 0] 3)) 25 (.pointer (some ⟨b, 0, none⟩))
  simp only [World.size_alloc] at x1 x2 x3
  have hszW : W0.heap.size = w.heap.size + 4 := by rw [← hW0]; simp
  have hbW : Below w.heap.size w W0 := by
    rw [← hW0]
    exact ((((Below.refl _ w).alloc (Nat.le_refl _) _).alloc (by simp) _).alloc (by simp; omega) _).alloc (by simp; omega) _
  rw [hW0] at x0 x1 x2 x3 ⊢
  clear hW0
  refine wpIn_rangeFunc_ownG rfl (by omega) (gf := 36) (lb := #[.pointer (some ⟨w.heap.size + 1 + 1 + 1, 0, none⟩)]) rfl trivial (enters_of Try.func36 (by kernel_rfl) rfl)
    (all_stopsS 3 (by omega) (w.heap.size + 1 + 1 + 1) w.heap.size _ R b s (H.out.below hbW) (fun k hk => H.out.lt k hk) x3) belowK_t (belowK_b (by omega)) (Below.refl _ _) (fun _ => rfl)
    (fun pre W => Boxed W (w.heap.size + 1 + 1) 3 (.int .i64 (pre.length : Int)) ∧ (Boxed W (w.heap.size + 1) 4 (.bool false) ∧ (Bx3 W w.heap.size 29 (.int .i64 (s.lim : Int)) (.slice A s.l.length c) (.int .i64 (s.i : Int)) ∧ ((Below w.heap.size w W ∧ w.heap.size + 4 ≤ W.heap.size) ∧ vals pre <+: told s.l))))
    (fun c pre _ => c = .ret ∧ ¬ vals pre <+: told s.l)
    (OwnFrom.and (Own.from (boxed_own (w.heap.size + 1 + 1) 3 (fun pre : List (OfL s.l) => .int .i64 (pre.length : Int))) _) (OwnFrom.and (Own.from (boxed_own (w.heap.size + 1) 4 (fun _ : List (OfL s.l) => .bool false)) _) (OwnFrom.and (Own.from (bx3_own _ _ _ _ _) _) (OwnFrom.and (OwnFrom.and (ownFrom_below (Nat.le_refl _) (by omega)) (ownFrom_sz _ _)) (ownFrom_pure _ _)))))
    (fun c => fun _ _ _ _ hs _ _ => hs)
    ⟨x2, x1, x0, ⟨hbW, by omega⟩, List.nil_prefix⟩
    (fun x => { tmps := #[.pointer (some ⟨b, 0, none⟩), .agg #[.int .i64 (s.lim : Int), .slice A s.l.length c, .int .i64 (s.i : Int)], undef, .pointer (some ⟨w.heap.size, 0, none⟩), .pointer (some ⟨w.heap.size + 1, 0, none⟩), .pointer (some ⟨w.heap.size + 1 + 1, 0, none⟩), .int .i64 (x.1.1 : Int), .string x.1.2, undef, undef, undef, undef, .pointer (some ⟨b, 0, none⟩), .func (.func 36) #[] #[.pointer (some ⟨w.heap.size + 1 + 1 + 1, 0, none⟩)], .int .i64 (x.1.1 : Int), .string x.1.2, undef, undef, undef, undef, undef, undef, undef, undef, undef, undef, undef, undef, undef, undef, undef, undef, undef, undef, undef, undef, undef, undef, undef, undef, undef, undef, undef, undef, undef, undef, undef, undef, undef, undef, undef, undef, undef, undef, undef, undef, undef, undef, undef, undef, undef, undef, undef, undef, undef, undef, undef, undef], defers := [] }) ?assign ?body ?done ?stop
  case assign =>
    intro l' x W K hK
    gi_wp2
    exact hK
  case body =>
    rintro l' pre x W ⟨hn, hbo, hdo, ⟨hB, hsz⟩, hp⟩ hlt
    have cn := hn.cell
    have fn := hn.frozen
    have cb := hbo.cell
    have fb := hbo.frozen
    have cd := hdo.c1
    by_cases hx : x.1.1 = pre.length
    · have hnext := told_next hp x hx
      obtain ⟨g, o, rfl, hg, hc⟩ := (HD.out.below hB).rd.at_ (by omega)
      have hxs := x.2
      rw [hx] at hxs
      have ck := hc _ _ hxs
      have hk : (pre.length : Int) < (s.l.length : Int) := by omega
      have hne : ((x.1.1 : Int) != (pre.length : Int)) = false := by rw [hx]; simp
      have hge : decide (s.l.length ≤ pre.length) = false := decide_eq_false (by omega)
      have hge' : decide ((s.l.length : Int) ≤ (pre.length : Int)) = false := decide_eq_false (by omega)
      have hw : IntKind.i64.wrap ((pre.length : Int) + 1) = (pre.length : Int) + 1 := IntWalk.i64_in _ (by omega)
      have Hn := Lib.hid hn
      have Hbo := Lib.hid hbo
      have Hdo := Lib.hid hdo
      have HB := Lib.hid hB
      have Hnext := Lib.hid hnext
      clear hx hc hxs hn hbo hdo hB hp hnext
      gi_wp2
      refine ⟨(KeepsOthers.setCell _ _ _).from _, (Below.refl w.heap.size W).setCell (p := ⟨w.heap.size + 1 + 1, 0, none⟩) (by show w.heap.size ≤ w.heap.size + 1 + 1; omega) _, ?_, Hbo.out.other (by omega) _, Hdo.out.other (by omega) _, ⟨HB.out.setCell (p := ⟨w.heap.size + 1 + 1, 0, none⟩) (by show w.heap.size ≤ w.heap.size + 1 + 1; omega) _, Nat.le_trans hsz (KeepsOthers.setCell _ _ _).size⟩, Hnext.out⟩
      have := Hn.out.set (.int .i64 ((pre.length : Int) + 1))
      simpa using this
    · have hno : ¬ vals (pre ++ [x]) <+: told s.l := fun h => hx (told_pre x h)
      have hne : ((x.1.1 : Int) != (pre.length : Int)) = true := by simp; omega
      have Hno := Lib.hid hno
      clear hno hx
      gi_wp2
      exact ⟨(KeepsOthers.setCell _ _ _).from _, rfl, Hno.out⟩
  case done =>
    rintro D ys W hD hys ⟨hn, hbo, hdo, ⟨hB, hsz⟩, hp⟩ hK
    have hyl : ys.length = s.l.length := by rw [← vals_length, hys, told_length]
    rw [hyl] at hn
    have hzW := hB.size
    have ht := top_callsS W R b s (H.out.below hB)
    have hrt : ∀ w3, Below w.heap.size w w3 → _ := fun w3 hb => rtop_calls A c s w3 (HD.out.below hb) H.out.ok
    unfold docV at hrt
    generalize s.l.getD s.i ⟨#[]⟩ = y at ht hrt
    generalize decide (0 < s.l.length) = q at ht hrt
    have Ht := Lib.hid ht
    have Hrt0 := Lib.hid hrt
    have HB := Lib.hid hB
    have Hn := Lib.hid hn
    have Hbo := Lib.hid hbo
    have Hdo := Lib.hid hdo
    have HK := Lib.hid hK
    clear hn hbo hdo hB hp hK hys hyl ht hrt
    gi_wp2_with (refine ⟨trivial, ?_⟩; gi_at_call 16; refine (callsIn_wide.2 Ht.out).mono ?_)
    rintro e w3 ⟨rfl, hb3⟩
    have HB3 : Hid (Below w.heap.size w w3) := Lib.hid (HB.out.trans (hb3.mono hzW))
    have Hn3 : Hid (Boxed w3 (w.heap.size + 1 + 1) 3 (.int .i64 (s.l.length : Int))) := Lib.hid ((hb3.block _ Hn.out.lt).trans Hn.out)
    have Hbo3 : Hid (Boxed w3 (w.heap.size + 1) 4 (.bool false)) := Lib.hid ((hb3.block _ Hbo.out.lt).trans Hbo.out)
    have hdo3 : Bx3 w3 w.heap.size 29 _ _ _ := Hdo.out.below hb3
    have Hdo3 := Lib.hid hdo3
    have HK3 : Hid (w3.heap[D]? = some (.deferred (some []))) := Lib.hid ((hb3.block D (Array.getElem?_eq_some_iff.1 HK.out).1).trans HK.out)
    have hz3 := HB3.out.size
    have Hrt := Lib.hid (Hrt0.out w3 HB3.out)
    have a0 := hdo3.c0
    have a1 := hdo3.c1
    have a2 := hdo3.c2
    clear hb3 Ht HB Hn Hbo Hdo HK hdo3
    gi_wp2_with (refine ⟨trivial, ?_⟩; gi_at_call 35; refine (callsIn_wide.2 Hrt.out).mono ?_)
    rintro e w5 ⟨rfl, hb5⟩
    have HB5 : Hid (Below w.heap.size w w5) := Lib.hid (HB3.out.trans (hb5.mono hz3))
    have bn5 : Boxed w5 (w.heap.size + 1 + 1) 3 (.int .i64 (s.l.length : Int)) := (hb5.block _ Hn3.out.lt).trans Hn3.out
    have bb5 : Boxed w5 (w.heap.size + 1) 4 (.bool false) := (hb5.block _ Hbo3.out.lt).trans Hbo3.out
    have bd5 : Bx3 w5 w.heap.size 29 _ _ _ := Hdo3.out.below hb5
    have HK5 : Hid (w5.heap[D]? = some (.deferred (some []))) := Lib.hid ((hb5.block D (Array.getElem?_eq_some_iff.1 HK3.out).1).trans HK3.out)
    have Hlen : Hid (Calls Try.prog 17 #[.pointer (some ⟨b, 0, none⟩)] w5.drew fun e w' => e = .returned (.int .i64 (s.l.length : Int)) ∧ w5.drew = w') := Lib.hid (len_callsS _ R b s (H.out.below HB5.out).drew)
    have m5 := bn5.cell
    have d5 := bd5.c1
    have Hbb5 := Lib.hid bb5
    have cb5 := bb5.cell
    have fb5 := bb5.frozen
    have m6 : (w5.setCell ⟨w.heap.size + 1, 0, none⟩ (.bool true)).cell? ⟨w.heap.size + 1 + 1, 0, none⟩ = some (.int .i64 (s.l.length : Int)) := by rw [World.cell?_setCell_far _ _ _ _ (by simp)]; exact m5
    have d6 : (w5.setCell ⟨w.heap.size + 1, 0, none⟩ (.bool true)).cell? ⟨w.heap.size, 1, none⟩ = some (.slice A s.l.length c) := by rw [World.cell?_setCell_far _ _ _ _ (by simp)]; exact d5
    clear hb5 bn5 bb5 bd5 HB3 Hn3 Hbo3 Hdo3 HK3 Hrt a0 a1 a2
    generalize s.l.length = n at *
    gi_wp2_with fail
    refine wpIn_wide.2 ?_
    refine wp_region_noPanic ?_
    refine wp_region_held_drew (S := fun w' => w'.cell? ⟨w.heap.size + 1 + 1, 0, none⟩ = some (.int .i64 (n : Int)) ∧ w'.cell? ⟨w.heap.size, 1, none⟩ = some (.slice A n c)) (by kernel_rfl) ⟨m5, d5⟩ (fun hHeld => ?_)
    refine wpAnyH_take (i := 0) (oi := ⟨some 47, _, _, _, _, _⟩) (v := ?_) rfl (by kernel_rfl) (by kernel_rfl) (by kernel_rfl) (fun _ _ _ h => h) (Or.inl ⟨by kernel_rfl, ?hy0⟩) (by assumption) ?_
    case hy0 => (intro w' hSw; (try dsimp only at hSw); go_simp; try with_reducible rfl)
    simp only [Act.put, List.setIfInBounds_toArray, List.set_cons_zero, List.set_cons_succ]
    refine wpAnyH_take (i := 1) (oi := ⟨some 48, _, _, _, _, _⟩) (v := ?_) rfl (by kernel_rfl) (by kernel_rfl) (by kernel_rfl) (fun _ _ _ h => h) (Or.inl ⟨by kernel_rfl, ?hy1⟩) (by assumption) ?_
    case hy1 => (intro w' hSw; (try dsimp only at hSw); go_simp; try with_reducible rfl)
    simp only [Act.put, List.setIfInBounds_toArray, List.set_cons_zero, List.set_cons_succ]
    refine wpAnyH_take (i := 2) (oi := ⟨some 49, _, _, _, _, _⟩) (v := ?_) rfl (by kernel_rfl) (by kernel_rfl) (by kernel_rfl) (fun _ _ _ h => h) (Or.inl ⟨by kernel_rfl, ?hy2⟩) (by assumption) ?_
    case hy2 => (intro w' hSw; (try dsimp only at hSw); go_simp; try with_reducible rfl)
    simp only [Act.put, List.setIfInBounds_toArray, List.set_cons_zero, List.set_cons_succ]
    refine wpAnyH_take (i := 3) (oi := ⟨some 50, _, _, _, _, _⟩) (v := ?_) rfl (by kernel_rfl) (by kernel_rfl) (by kernel_rfl) (fun _ _ _ h => h) (Or.inl ⟨by kernel_rfl, ?hy3⟩) (by assumption) ?_
    case hy3 => (intro w' hSw; (try dsimp only at hSw); go_simp; try with_reducible rfl)
    simp only [Act.put, List.setIfInBounds_toArray, List.set_cons_zero, List.set_cons_succ]
    refine wpAnyH_take (i := 4) (oi := ⟨some 51, _, _, _, _, _⟩) (v := ?_) rfl (by kernel_rfl) (by kernel_rfl) (by kernel_rfl) (fun _ _ _ h => h) (Or.inl ⟨by kernel_rfl, ?hy4⟩) (by assumption) ?_
    case hy4 => (intro w' hSw; (try dsimp only at hSw); go_simp; try with_reducible rfl)
    simp only [Act.put, List.setIfInBounds_toArray, List.set_cons_zero, List.set_cons_succ]
    refine wpAnyH_take (i := 5) (oi := ⟨some 52, _, _, _, _, _⟩) (v := ?_) rfl (by kernel_rfl) (by kernel_rfl) (by kernel_rfl) (fun _ _ _ h => h) (Or.inl ⟨by kernel_rfl, ?hy5⟩) (by assumption) ?_
    case hy5 => (intro w' hSw; (try dsimp only at hSw); go_simp; try with_reducible rfl)
    simp only [Act.put, List.setIfInBounds_toArray, List.set_cons_zero, List.set_cons_succ]
    refine wpAnyH_take (i := 6) (oi := ⟨some 53, _, _, _, _, _⟩) (v := ?_) rfl (by kernel_rfl) (by kernel_rfl) (by kernel_rfl) (fun _ _ _ h => h) (Or.inl ⟨by kernel_rfl, ?hy6⟩) (by assumption) ?_
    case hy6 => (intro w' hSw; (try dsimp only at hSw); go_simp; try with_reducible rfl)
    simp only [Act.put, List.setIfInBounds_toArray, List.set_cons_zero, List.set_cons_succ]
    refine wpAnyH_take (i := 8) (oi := ⟨some 55, _, _, _, _, _⟩) (v := ?_) rfl (by kernel_rfl) (by kernel_rfl) (by kernel_rfl) (fun _ _ _ h => h) (Or.inl ⟨by kernel_rfl, ?hy8⟩) (by assumption) ?_
    case hy8 => (intro w' hSw; (try dsimp only at hSw); go_simp; try with_reducible rfl)
    simp only [Act.put, List.setIfInBounds_toArray, List.set_cons_zero, List.set_cons_succ]
    refine wpAnyH_ready (rs := [7]) (by kernel_rfl) (by simp) ?_
    refine AllReadyH.cons (o := ⟨some 54, _, _, _, _, _⟩) rfl (fun K hK => ?_) AllReadyH.nil
    (rw [if_pos (by kernel_rfl)])
    go_simp
    refine Hlen.out.mono ?_
    rintro e w6 ⟨rfl, rfl⟩
    refine hK.out _ _ ⟨m5, d5⟩ (fun hHeld => ?_)
    clear hK K
    refine wpAnyH_take (i := 9) (oi := ⟨some 56, _, _, _, _, _⟩) (v := ?_) rfl (by kernel_rfl) (by kernel_rfl) (by kernel_rfl) (fun _ _ _ h => h) (Or.inl ⟨by kernel_rfl, ?hy9⟩) (by assumption) ?_
    case hy9 => (intro w' hSw; (try dsimp only at hSw); go_simp; try with_reducible rfl)
    simp only [Act.put, List.setIfInBounds_toArray, List.set_cons_zero, List.set_cons_succ]
    refine wpAnyH_take (i := 10) (oi := ⟨some 57, _, _, _, _, _⟩) (v := ?_) rfl (by kernel_rfl) (by kernel_rfl) (by kernel_rfl) (fun _ _ _ h => h) (Or.inl ⟨by kernel_rfl, ?hy10⟩) (by assumption) ?_
    case hy10 => (intro w' hSw; (try dsimp only at hSw); go_simp; try with_reducible rfl)
    simp only [Act.put, List.setIfInBounds_toArray, List.set_cons_zero, List.set_cons_succ]
    refine wpAnyH_take (i := 11) (oi := ⟨some 58, _, _, _, _, _⟩) (v := ?_) rfl (by kernel_rfl) (by kernel_rfl) (by kernel_rfl) (fun _ _ _ h => h) (Or.inl ⟨by kernel_rfl, ?hy11⟩) (by assumption) ?_
    case hy11 => (intro w' hSw; (try dsimp only at hSw); go_simp; try with_reducible rfl)
    simp only [Act.put, List.setIfInBounds_toArray, List.set_cons_zero, List.set_cons_succ]
    refine wpAnyH_take (i := 12) (oi := ⟨some 59, _, _, _, _, _⟩) (v := ?_) rfl (by kernel_rfl) (by kernel_rfl) (by kernel_rfl) (fun _ _ _ h => h) (Or.inl ⟨by kernel_rfl, ?hy12⟩) (by assumption) ?_
    case hy12 => (intro w' hSw; (try dsimp only at hSw); go_simp; try with_reducible rfl)
    simp only [Act.put, List.setIfInBounds_toArray, List.set_cons_zero, List.set_cons_succ]
    refine wpAnyH_take (i := 13) (oi := ⟨some 60, _, _, _, _, _⟩) (v := ?_) rfl (by kernel_rfl) (by kernel_rfl) (by kernel_rfl) (fun _ _ _ h => h) (Or.inl ⟨by kernel_rfl, ?hy13⟩) (by assumption) ?_
    case hy13 => (intro w' hSw; (try dsimp only at hSw); go_simp; try with_reducible rfl)
    simp only [Act.put, List.setIfInBounds_toArray, List.set_cons_zero, List.set_cons_succ]
    refine wpAnyH_take (i := 14) (oi := ⟨some 61, _, _, _, _, _⟩) (v := ?_) rfl (by kernel_rfl) (by kernel_rfl) (by kernel_rfl) (fun _ _ _ h => h) (Or.inl ⟨by kernel_rfl, ?hy14⟩) (by assumption) ?_
    case hy14 => (intro w' hSw; (try dsimp only at hSw); go_simp; try with_reducible rfl)
    simp only [Act.put, List.setIfInBounds_toArray, List.set_cons_zero, List.set_cons_succ]
    refine wpAnyH_take (i := 15) (oi := ⟨some 62, _, _, _, _, _⟩) (v := ?_) rfl (by kernel_rfl) (by kernel_rfl) (by kernel_rfl) (fun _ _ _ h => h) (Or.inl ⟨by kernel_rfl, ?hy15⟩) (by assumption) ?_
    case hy15 => (intro w' hSw; (try dsimp only at hSw); go_simp; try with_reducible rfl)
    simp only [Act.put, List.setIfInBounds_toArray, List.set_cons_zero, List.set_cons_succ]
    refine wpAnyH_take (i := 16) (oi := ⟨some 63, _, _, _, _, _⟩) (v := ?_) rfl (by kernel_rfl) (by kernel_rfl) (by kernel_rfl) (fun _ _ _ h => h) (Or.inl ⟨by kernel_rfl, ?hy16⟩) (by assumption) ?_
    case hy16 => (intro w' hSw; (try dsimp only at hSw); go_simp; try with_reducible rfl)
    simp only [Act.put, List.setIfInBounds_toArray, List.set_cons_zero, List.set_cons_succ]
    refine wpAnyH_take (i := 17) (oi := ⟨some 64, _, _, _, _, _⟩) (v := ?_) rfl (by kernel_rfl) (by kernel_rfl) (by kernel_rfl) (fun _ _ _ h => h) (Or.inl ⟨by kernel_rfl, ?hy17⟩) (by assumption) ?_
    case hy17 => (intro w' hSw; (try dsimp only at hSw); go_simp; try with_reducible rfl)
    simp only [Act.put, List.setIfInBounds_toArray, List.set_cons_zero, List.set_cons_succ]
    refine wpAnyH_take (i := 18) (oi := ⟨some 65, _, _, _, _, _⟩) (v := ?_) rfl (by kernel_rfl) (by kernel_rfl) (by kernel_rfl) (fun _ _ _ h => h) (Or.inl ⟨by kernel_rfl, ?hy18⟩) (by assumption) ?_
    case hy18 => (intro w' hSw; (try dsimp only at hSw); go_simp; try with_reducible rfl)
    simp only [Act.put, List.setIfInBounds_toArray, List.set_cons_zero, List.set_cons_succ]
    refine wpAnyH_take (i := 19) (oi := ⟨some 66, _, _, _, _, _⟩) (v := ?_) rfl (by kernel_rfl) (by kernel_rfl) (by kernel_rfl) (fun _ _ _ h => h) (Or.inl ⟨by kernel_rfl, ?hy19⟩) (by assumption) ?_
    case hy19 => (intro w' hSw; (try dsimp only at hSw); go_simp; try with_reducible rfl)
    simp only [Act.put, List.setIfInBounds_toArray, List.set_cons_zero, List.set_cons_succ]
    refine wpAnyH_take (i := 20) (oi := ⟨some 67, _, _, _, _, _⟩) (v := ?_) rfl (by kernel_rfl) (by kernel_rfl) (by kernel_rfl) (fun _ _ _ h => h) (Or.inl ⟨by kernel_rfl, ?hy20⟩) (by assumption) ?_
    case hy20 => (intro w' hSw; (try dsimp only at hSw); go_simp; try with_reducible rfl)
    simp only [Act.put, List.setIfInBounds_toArray, List.set_cons_zero, List.set_cons_succ]
    refine wpAnyH_ready (rs := [21]) (by kernel_rfl) (by simp) ?_
    refine AllReadyH.cons (o := ⟨none, _, _, _, _, _⟩) rfl (fun K hK => ?_) AllReadyH.nil
    (rw [if_pos (by kernel_rfl)])
    go_simp
    refine hK.out _ _ ⟨m6, d6⟩ (fun hHeld => ?_)
    clear hK K
    refine wpAnyH_done (by kernel_rfl) (NoPanic.normal ?_) _
    gi_wp2
    refine ⟨by simp, .inl ⟨_, _, rfl, run_takeDeferred (w := (w5.setCell ⟨w.heap.size + 1, 0, none⟩ (.bool true)).drew) ((Below.heap_setCell w5 ⟨w.heap.size + 1, 0, none⟩ _ D (by simp; omega)).trans HK5.out), ?_⟩⟩
    refine ⟨_, results_bool rfl _ _ (w.heap.size + 1) (.bool true) 4 rfl ((World.putObj_heap_other (by omega)).trans (Hbb5.out.set (.bool true))) Try.underlying4, rfl, ?_⟩
    exact ((HB5.out.setCell (p := ⟨w.heap.size + 1, 0, none⟩) (Nat.le_succ _) _).drew).trans (belowK_b (w := w) (Nat.le_refl _) _ D _ _ (by omega) ((Below.heap_setCell w5 ⟨w.heap.size + 1, 0, none⟩ _ D (by simp; omega)).trans HK5.out) rfl rfl)
  case stop =>
    rintro D c pre W hD hSp ⟨rfl, hno⟩ hK
    exact absurd hSp hno
end Go.Proofs.Ytdpijbaolaignaa
