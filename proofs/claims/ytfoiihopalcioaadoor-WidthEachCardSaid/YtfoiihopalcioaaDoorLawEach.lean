/-
  The walk of WidthEach.
-/
import Derived.Test.YtfoiihopalcioaaDoorWRd
namespace Go.Proofs.YtfoiihopalcioaaDoor
open Go Go.RowKit Go.Shelf
attribute [local go_sem] Oper.semAt_some

theorem results_box {P : Program} {fn : Func} {p : Tmp} {ty : TypeId} (h : fn.results = #[.cell p ty]) (tmps : Array Value) (w : World) (g : Nat) (v : Value) (t : TypeId)
    (hp : tmps.getD p undef = .pointer (some ⟨g, 0, none⟩)) (hb : Boxed w g t v) (hu : P.underlying ty = some .bool) : (results fn tmps).run P w = .ok v w := by
  have hp' : tmps[p]?.getD undef = .pointer (some ⟨g, 0, none⟩) := by simpa using hp
  have hc := hb.cell
  simp [results, h, hp', asAddr, loadVar, isAgg, Sem.run_bind, run_underlying hu, hc, go_sem]

set_option maxHeartbeats 1000000 in
theorem leach_big (l : List UInt8) (m : Int) (w : World) (hm : l.length ≤ 9223372036854775807) (hbig : 1000 < l.length) (hsp : Spans w) :
    Calls Tryd.prog 6 #[.string (bs l), .int .i64 m] w fun e w' => e = .returned (.bool true) ∧ Below w.heap.size w w' := by
  have hsz := bs_size l
  have b1 := Boxed.new (w.alloc (.cells #[.int .i64 m] 3)) 4 (.bool false)
  rw [World.size_alloc] at b1
  have k1 : Below w.heap.size w ((w.alloc (.cells #[.int .i64 m] 3)).alloc (.cells #[.bool false] 4)) := ((Below.refl _ w).alloc (Nat.le_refl _) _).alloc (by simp) _
  have hcon := Lib.hid (walive_calls _ (spans_below hsp k1))
  clear hsp
  go_enter Tryd.func6, Tryd.ntmps6
  go_wp2_with fail
  refine hcon.out.mono ?_
  rintro e w2 ⟨rfl, h⟩
  have b2 : Boxed w2 (w.heap.size + 1) 4 (.bool false) := (h.block _ b1.lt).trans b1
  have hc2 := b2.cell
  have hf2 := b2.frozen
  go_wp2
  have b3 := b2.set (.bool true)
  refine bodyPost_ret (results_box rfl _ _ (w.heap.size + 1) (.bool true) 4 rfl b3 Tryd.underlying4) rfl ?_
  exact ⟨rfl, (k1.trans (h.mono k1.size)).setCell (p := ⟨w.heap.size + 1, 0, none⟩) (Nat.le_succ _) _⟩

theorem withAt_get : ∀ (a : Nat) (cs : List (List UInt8)) (k : Nat), k < cs.length → (withAt a cs)[k]? = some (a + (cs.take k).flatten.length, cs.getD k [])
  | _, [], k, h => by simp at h
  | a, c :: cs, 0, _ => by simp [withAt]
  | a, c :: cs, k + 1, h => by
    have := withAt_get (a + c.length) cs k (by simpa using h)
    simp only [withAt, List.getElem?_cons_succ, this, List.take_succ_cons, List.flatten_cons, List.length_append, List.getD_cons_succ, Nat.add_assoc]
theorem each_at (l : List UInt8) (k : Nat) (hk : k < (cutL l).length) : (eachB (bs l))[k]? = some ((boundsL l).getD k 0, bs ((cutL l).getD k [])) := by
  unfold eachB pcs eachL boundsL
  rw [show (bs l).data.toList = l from rfl, List.getElem?_map, withAt_get 0 _ k hk, bnd_getD 0 _ k (by omega)]; rfl
theorem eachB_len (l : List UInt8) : (eachB (bs l)).length = (cutL l).length := by
  unfold eachB pcs eachL
  rw [List.length_map, withAt_length]
theorem prefix_snoc {α : Type} {E P : List α} {y : α} (h : P <+: E) : P ++ [y] <+: E ↔ E[P.length]? = some y := by
  obtain ⟨r, rfl⟩ := h
  rw [List.prefix_append_right_inj]
  cases r with
  | nil => simp
  | cons z r => simp [eq_comm]

/-- What the loop keeps: the two rows' boxes, and what lay ahead. -/
def EK (w2 : World) (L Bv : Value) (W : World) : Prop := (Boxed W w2.heap.size 27 L ∧ Boxed W (w2.heap.size + 1) 29 Bv) ∧ (Below w2.heap.size w2 W ∧ w2.heap.size + 4 ≤ W.heap.size)
theorem ek_own {β : Type} (w2 : World) (L Bv : Value) (B : Nat) (hB : w2.heap.size ≤ B) : OwnFrom B (fun (_ : β) W => EK w2 L Bv W) :=
  OwnFrom.and (OwnFrom.and (Own.from (boxed_own w2.heap.size 27 (fun _ : β => L)) _) (Own.from (boxed_own (w2.heap.size + 1) 29 (fun _ : β => Bv)) _)) (OwnFrom.and (ownFrom_below (Nat.le_refl _) hB) (ownFrom_size _ _))
theorem EK.set {w2 W : World} {L Bv : Value} (h : EK w2 L Bv W) (v : Value) : EK w2 L Bv (W.setCell ⟨w2.heap.size + 1 + 1, 0, none⟩ v) := by
  obtain ⟨⟨h1, h2⟩, h3, h4⟩ := h
  exact ⟨⟨h1.other (by omega) v, h2.other (by omega) v⟩, h3.setCell (p := ⟨w2.heap.size + 1 + 1, 0, none⟩) (show w2.heap.size ≤ w2.heap.size + 1 + 1 by omega) _, Nat.le_trans h4 (KeepsOthers.setCell _ _ _).size⟩
def EIx (w2 : World) (L Bv : Value) (m : Int) (s : ByteArray) (c : Code) (pre : List (Of s)) (W : World) : Prop :=
  (c = .ret ∧ ¬ vals pre <+: eachB s) ∨ (c = .exit 0 ∧ Boxed W (w2.heap.size + 1 + 1) 3 (.int .i64 (pre.length : Int)) ∧ EK w2 L Bv W ∧ vals pre <+: eachB s ∧ (pre.length : Int) = m ∧ 0 < pre.length)
theorem eix_own (w2 : World) (L Bv : Value) (m : Int) (s : ByteArray) (c : Code) (B : Nat) (hB : w2.heap.size ≤ B) : OwnFrom B (EIx w2 L Bv m s c) := by
  intro pre A C row hs hg hr
  rcases hs with h | ⟨h1, h2, h3, h4⟩
  · exact .inl h
  · exact .inr ⟨h1, Own.from (boxed_own (w2.heap.size + 1 + 1) 3 (fun pre : List (Of s) => .int .i64 (pre.length : Int))) B pre A C row h2 hg hr, ek_own w2 L Bv B hB pre A C row h3 hg hr, h4⟩

set_option maxRecDepth 100000 in
set_option maxHeartbeats 8000000 in
theorem leach_list (l : List UInt8) (m : Int) (w : World) (hm0 : -9223372036854775808 ≤ m) (hm1 : m ≤ 9223372036854775807) (hl : l.length ≤ 1000) (hsp : Spans w) :
    Calls Tryd.prog 6 #[.string (bs l), .int .i64 m] w fun e w' => e = .returned (.bool true) ∧ Below w.heap.size w w' := by
  have hsz := bs_size l
  have H1 := Lib.hid (fun W => rcut_rd l (by omega) W)
  have H2 := Lib.hid (fun W => rbounds_rd l (by omega) W)
  have hcl := cutL_length l
  have HB1 : Hid ((boundsL l).length = (cutL l).length + 1) := Lib.hid (bnd_length 0 _)
  have HEl := Lib.hid (eachB_len l)
  have HE := Lib.hid (each_at l)
  have HBle : Hid (∀ k, (boundsL l).getD k 0 ≤ 1000) := Lib.hid fun k => by
    have := bnd_le (cutL l) k
    rw [cutL_flatten] at this
    unfold boundsL
    omega
  generalize boundsL l = B at *
  generalize cutL l = cs at *
  have hdec : decide ((1000 : Int) < (l.length : Int)) = false := decide_eq_false (by omega)
  have hnil : ∀ (cap : Array Value) (W : World), (binOp .eql 35 (.func (.func 33) #[] cap) .nilFunc).run Tryd.prog W = .ok (.bool false) W := fun cap W => func_nil cap W
  have b0 := (Boxed.new w 3 (.int .i64 m)).alloc (.cells #[.bool false] 4)
  have b1 := Boxed.new (w.alloc (.cells #[.int .i64 m] 3)) 4 (.bool false)
  rw [World.size_alloc] at b1
  have k0 : Below w.heap.size w ((w.alloc (.cells #[.int .i64 m] 3)).alloc (.cells #[.bool false] 4)) := ((Below.refl _ w).alloc (Nat.le_refl _) _).alloc (by simp) _
  refine (callsIn_wide (n := 4)).1 ?_
  refine callsIn_of_wp_marks Tryd.func6 rfl trivial ?_ rfl
  simp only [Tryd.ntmps6, List.size_toArray, List.length_cons, List.length_nil, Nat.reduceAdd, Nat.reduceSub, Array.replicate_succ, Array.replicate_zero, List.push_toArray, List.append_toArray, List.nil_append, List.cons_append]
  gi_wp2_with (refine ⟨trivial, ?_⟩; gi_at_call 19; refine (callsIn_wide.2 (H1.out _)).mono ?_)
  rintro e w1 ⟨A1, c1, rfl, hR1, hb1⟩
  gi_wp2_with (refine ⟨trivial, ?_⟩; gi_at_call 17; refine (callsIn_wide.2 (H2.out _)).mono ?_)
  rintro e w2 ⟨A2, c2, rfl, hR2, hb2⟩
  have hRS := Lib.hid (hR1.below hb2)
  have hRI := Lib.hid hR2
  have b0' : Boxed w2 w.heap.size 3 (.int .i64 m) := (hb2.block _ (Nat.lt_of_lt_of_le b0.lt hb1.size)).trans ((hb1.block _ b0.lt).trans b0)
  have b1' : Boxed w2 (w.heap.size + 1) 4 (.bool false) := (hb2.block _ (Nat.lt_of_lt_of_le b1.lt hb1.size)).trans ((hb1.block _ b1.lt).trans b1)
  have k1 := k0.trans (hb1.mono k0.size)
  have kw2 : Below w.heap.size w w2 := k1.trans (hb2.mono k1.size)
  have hz2 : w.heap.size + 2 ≤ w2.heap.size := by
    have h1 := hb1.size
    have h2 := hb2.size
    simp at h1
    omega
  have hs2 := spans_below hsp kw2
  clear H1 H2 hR1 hR2 hb1 hb2 b0 b1 k0 k1 hsp
  gi_wp2_with (refine ⟨trivial, ?_⟩; gi_at_call 26; refine (each_in _ _ _).mono ?_; rintro e w' ⟨rfl, rfl⟩)
  clear hnil hdec
  have x0 := (((Boxed.new w2 27 (.slice A1 cs.length c1)).alloc (.cells #[.slice A2 B.length c2] 29)).alloc (.cells #[.int .i64 0] 3)).alloc (.cells #[.string (bs l)] 9)
  have x1 := (Boxed.new (w2.alloc (.cells #[.slice A1 cs.length c1] 27)) 29 (.slice A2 B.length c2)).alloc (.cells #[.int .i64 0] 3) |>.alloc (.cells #[.string (bs l)] 9)
  have x2 := (Boxed.new ((w2.alloc (.cells #[.slice A1 cs.length c1] 27)).alloc (.cells #[.slice A2 B.length c2] 29)) 3 (.int .i64 0)).alloc (.cells #[.string (bs l)] 9)
  have x3 := Boxed.new (((w2.alloc (.cells #[.slice A1 cs.length c1] 27)).alloc (.cells #[.slice A2 B.length c2] 29)).alloc (.cells #[.int .i64 0] 3)) 9 (.string (bs l))
  simp only [World.size_alloc] at x1 x2 x3
  obtain ⟨W0, hW0⟩ : ∃ W0, (((w2.alloc (.cells #[.slice A1 cs.length c1] 27)).alloc (.cells #[.slice A2 B.length c2] 29)).alloc (.cells #[.int .i64 0] 3)).alloc (.cells #[.string (bs l)] 9) = W0 := ⟨_, rfl⟩
  have hszW : W0.heap.size = w2.heap.size + 4 := by rw [← hW0]; simp
  have hbW : Below w2.heap.size w2 W0 := by
    rw [← hW0]
    exact ((((Below.refl _ w2).alloc (Nat.le_refl _) _).alloc (by simp) _).alloc (by simp; omega) _).alloc (by simp; omega) _
  rw [hW0] at x0 x1 x2 x3 ⊢
  clear hW0
  have hg0 : 0 < w2.heap.size := by
    obtain ⟨_, _, h⟩ := hs2
    exact (Array.getElem?_eq_some_iff.1 h).1
  refine wpIn_rangeFunc_ownG rfl (by omega) (gf := 33) (lb := #[.pointer (some ⟨w2.heap.size + 1 + 1 + 1, 0, none⟩)]) rfl trivial (enters_of Tryd.func33 (by kernel_rfl) rfl)
    (each_stops 3 (by omega) (w2.heap.size + 1 + 1 + 1) w2.heap.size (bs l) (by omega) _ (by omega) x3 (spans_below hs2 hbW) hg0) kp_t (kp_b (by omega) (by omega)) (Below.refl _ _) (fun _ => rfl)
    (fun pre W => Boxed W (w2.heap.size + 1 + 1) 3 (.int .i64 (pre.length : Int)) ∧ (EK w2 (.slice A1 cs.length c1) (.slice A2 B.length c2) W ∧ (vals pre <+: eachB (bs l) ∧ (1 ≤ m → (pre.length : Int) < m))))
    (EIx w2 (.slice A1 cs.length c1) (.slice A2 B.length c2) m (bs l))
    (OwnFrom.and (Own.from (boxed_own (w2.heap.size + 1 + 1) 3 (fun pre : List (Of (bs l)) => .int .i64 (pre.length : Int))) _) (OwnFrom.and (ek_own w2 _ _ _ (by omega)) (ownFrom_pure _ _)))
    (fun c => eix_own w2 _ _ m (bs l) c _ (by omega))
    ⟨x2, ⟨⟨x0, x1⟩, hbW, by omega⟩, List.nil_prefix, fun h => by simp; omega⟩
    (fun x => { tmps := #[.string (bs l), .int .i64 m, undef, .pointer (some ⟨w.heap.size, 0, none⟩), .pointer (some ⟨w.heap.size + 1, 0, none⟩), .pointer (some ⟨w2.heap.size, 0, none⟩), .pointer (some ⟨w2.heap.size + 1, 0, none⟩), .pointer (some ⟨w2.heap.size + 1 + 1, 0, none⟩), .func (.func 33) #[] #[.pointer (some ⟨w2.heap.size + 1 + 1 + 1, 0, none⟩)], .int .i64 (x.1.1 : Int), .string x.1.2, undef, .string (bs l), .int .i64 (l.length : Int), .bool false, undef, .string (bs l), .slice A1 cs.length c1, .string (bs l), .slice A2 B.length c2, .string (bs l), .func (.func 33) #[] #[.pointer (some ⟨w2.heap.size + 1 + 1 + 1, 0, none⟩)], .func (.func 33) #[] #[.pointer (some ⟨w2.heap.size + 1 + 1 + 1, 0, none⟩)], .bool false, .func (.func 33) #[] #[.pointer (some ⟨w2.heap.size + 1 + 1 + 1, 0, none⟩)], .int .i64 (x.1.1 : Int), .string x.1.2, undef, undef, undef, undef, undef, undef, undef, undef, undef, undef, undef, undef, undef, undef, undef, undef, undef, undef, undef, undef, undef, undef, undef, undef, undef, undef, undef, undef, undef, undef, undef, undef, undef, undef, undef, undef, undef, undef], defers := [] }) ?assign ?body ?done ?stop
  case assign =>
    intro l' x W K hK
    gi_wp2
    exact hK
  case body =>
    rintro l' pre x W ⟨hn, hek, hp, hmm⟩ hlt
    have hek' := hek
    obtain ⟨⟨hL, hBv⟩, hB, hsz4⟩ := hek'
    have cn := hn.cell
    have fn := hn.frozen
    have cL := hL.cell
    have cB := hBv.cell
    have bm : Boxed W w.heap.size 3 (.int .i64 m) := (hB.block _ b0'.lt).trans b0'
    have br : Boxed W (w.heap.size + 1) 4 (.bool false) := (hB.block _ b1'.lt).trans b1'
    have cm := bm.cell
    have cr := br.cell
    have fr := br.frozen
    rw [HEl.out] at hlt
    have hB1 := HB1.out
    obtain ⟨g, o, rfl, hg, hc⟩ := rdS_at hRS.out (by omega)
    obtain ⟨g2, o2, rfl, hg2, hc2⟩ := hRI.out (by omega)
    have ck : W.cell? ⟨g, o + pre.length, none⟩ = some (.string (bs (cs.getD pre.length []))) := by rw [hB.cell (p := ⟨g, o + pre.length, none⟩) hg]; exact hc _ hlt
    have ck2 : W.cell? ⟨g2, o2 + pre.length, none⟩ = some (.int .i64 (B.getD pre.length 0 : Int)) := by rw [hB.cell (p := ⟨g2, o2 + pre.length, none⟩) hg2]; exact hc2 _ (by omega)
    have hat := HE.out pre.length hlt
    have Hpx : Hid (vals (pre ++ [x]) <+: eachB (bs l) ↔ (x.1.1 = B.getD pre.length 0 ∧ x.1.2 = bs (cs.getD pre.length []))) := Lib.hid (by
      rw [vals_snoc, prefix_snoc hp, vals_length, hat, Option.some.injEq]
      constructor
      · intro h; rw [← h]; exact ⟨rfl, rfl⟩
      · rintro ⟨h1, h2⟩; exact Prod.ext h1.symm h2.symm)
    have hkB : (pre.length : Int) < (B.length : Int) := by omega
    have hkL : (pre.length : Int) < (cs.length : Int) := by omega
    have Hn := Lib.hid hn
    have Hek := Lib.hid hek
    have Hmm := Lib.hid hmm
    have Hbr := Lib.hid br
    have HB := Lib.hid hB
    clear hn hek hp hL hBv hc hc2 hat bm br hmm hB hB1
    generalize cs.getD pre.length [] = cK at *
    generalize B.getD pre.length 0 = bK at *
    obtain ⟨⟨xa, xs⟩, hxm⟩ := x
    simp only at Hpx ⊢
    have hkn : decide (cs.length ≤ pre.length) = false := decide_eq_false (by omega)
    have hkeep : ∀ v : Value, KeepsFrom W0.heap.size W (W.setCell ⟨w2.heap.size + 1 + 1, 0, none⟩ v) := fun v => (KeepsOthers.setCell _ _ _).from _
    have Hkeep := Lib.hid hkeep
    clear hkeep
    gi_wp2
    · have hb : ((bK : Int) != (xa : Int)) = true := by assumption
      refine ⟨(KeepsOthers.setCell _ _ _).from _, .inl ⟨rfl, fun h => ?_⟩⟩
      have e := (Hpx.out.1 h).1
      rw [e] at hb
      simp at hb
    · have hc : cK = xs.toList := by assumption
      have hb : ((bK : Int) != (xa : Int)) = false := by assumption
      have he : ((pre.length : Int) + 1 == m) = true := by assumption
      have hxa : xa = bK := by simp at hb; omega
      have hxs : xs = bs cK := by rw [hc, str_toList]
      refine ⟨Hkeep.out _, .inr ⟨rfl, ?_, Hek.out.set _, Hpx.out.2 ⟨hxa, hxs⟩, ?_, by simp⟩⟩
      · have := Hn.out.set (.int .i64 ((pre.length : Int) + 1))
        simpa using this
      · rw [beq_iff_eq] at he
        simpa using he
    · have hc : cK = xs.toList := by assumption
      have hb : ((bK : Int) != (xa : Int)) = false := by assumption
      have he : ((pre.length : Int) + 1 == m) = false := by assumption
      have hxa : xa = bK := by simp at hb; omega
      have hxs : xs = bs cK := by rw [hc, str_toList]
      rw [beq_eq_false_iff_ne] at he
      refine ⟨Hkeep.out _, ⟨(Below.refl w2.heap.size W).setCell (p := ⟨w2.heap.size + 1 + 1, 0, none⟩) (show w2.heap.size ≤ w2.heap.size + 1 + 1 by omega) _, KeepsWalks.setCell _ _ _, Below.heap_setCell W ⟨w2.heap.size + 1 + 1, 0, none⟩ _ (w2.heap.size + 1 + 1 + 1) (by simp)⟩, ?_, Hek.out.set _, Hpx.out.2 ⟨hxa, hxs⟩, fun h => ?_⟩
      · have := Hn.out.set (.int .i64 ((pre.length : Int) + 1))
        simpa using this
      · have := Hmm.out h
        simp
        omega
    · have hc : ¬ cK = xs.toList := by assumption
      refine ⟨(KeepsOthers.setCell _ _ _).from _, .inl ⟨rfl, fun h => hc ?_⟩⟩
      rw [(Hpx.out.1 h).2, str_toList]
  case done =>
    rintro D ys W hD hys ⟨hn, hek, hp, hmm⟩ hK
    have hyl : ys.length = cs.length := by rw [← vals_length, hys, HEl.out]
    rw [hyl] at hn hmm
    obtain ⟨⟨hL, hBv⟩, hB, hsz4⟩ := hek
    have cn := hn.cell
    have cL := hL.cell
    have bm : Boxed W w.heap.size 3 (.int .i64 m) := (hB.block _ b0'.lt).trans b0'
    have br : Boxed W (w.heap.size + 1) 4 (.bool false) := (hB.block _ b1'.lt).trans b1'
    have cm := bm.cell
    have Hal := Lib.hid (walive_calls W (spans_below hs2 hB))
    have hzW := hB.size
    have HB := Lib.hid hB
    have Hn := Lib.hid hn
    have Hbr := Lib.hid br
    have HK := Lib.hid hK
    clear hn hL hBv bm br hB hK
    have hcc : ((cs.length : Int) == (cs.length : Int)) = true := by simp
    by_cases h1 : 1 ≤ m
    · have hmin : min (cs.length : Int) m = (cs.length : Int) := by have := hmm h1; omega
      clear hmm
      gi_wp2_with (refine ⟨trivial, ?_⟩; gi_at_call 10; refine (callsIn_wide.2 Hal.out).mono ?_)
      rintro e w3 ⟨rfl, hb3⟩
      have hK3 : w3.heap[D]? = some (.deferred (some [])) := (hb3.block D (Array.getElem?_eq_some_iff.1 HK.out).1).trans HK.out
      have cn3 := Boxed.cell ((hb3.block _ Hn.out.lt).trans Hn.out)
      have br3 : Boxed w3 (w.heap.size + 1) 4 (.bool false) := (hb3.block _ Hbr.out.lt).trans Hbr.out
      have cr3 := br3.cell
      have fr3 := br3.frozen
      have hB3 : Below w.heap.size w w3 := kw2.trans ((HB.out.trans (hb3.mono hzW)).mono kw2.size)
      have Hb3 := Lib.hid hB3
      have Hbr3 := Lib.hid br3
      clear hb3 br3 hB3
      gi_wp2
      refine ⟨by simp, .inl ⟨_, _, rfl, run_takeDeferred (w := w3.setCell ⟨w.heap.size + 1, 0, none⟩ (.bool true)) ((Below.heap_setCell w3 ⟨w.heap.size + 1, 0, none⟩ _ D (by simp; omega)).trans hK3), ?_⟩⟩
      refine ⟨_, results_box rfl _ _ (w.heap.size + 1) (.bool true) 4 rfl ((World.putObj_heap_other (by omega)).trans (Hbr3.out.set (.bool true))) Tryd.underlying4, rfl, ?_⟩
      exact (Hb3.out.setCell (p := ⟨w.heap.size + 1, 0, none⟩) (Nat.le_succ _) _).trans (belowK_b (w := w) (Nat.le_refl _) _ D _ _ (by omega) ((Below.heap_setCell w3 ⟨w.heap.size + 1, 0, none⟩ _ D (by simp; omega)).trans hK3) rfl rfl)
    · have h1' : m < 1 := by omega
      clear hmm h1
      gi_wp2_with (refine ⟨trivial, ?_⟩; gi_at_call 10; refine (callsIn_wide.2 Hal.out).mono ?_)
      rintro e w3 ⟨rfl, hb3⟩
      have hK3 : w3.heap[D]? = some (.deferred (some [])) := (hb3.block D (Array.getElem?_eq_some_iff.1 HK.out).1).trans HK.out
      have cn3 := Boxed.cell ((hb3.block _ Hn.out.lt).trans Hn.out)
      have br3 : Boxed w3 (w.heap.size + 1) 4 (.bool false) := (hb3.block _ Hbr.out.lt).trans Hbr.out
      have cr3 := br3.cell
      have fr3 := br3.frozen
      have hB3 : Below w.heap.size w w3 := kw2.trans ((HB.out.trans (hb3.mono hzW)).mono kw2.size)
      have Hb3 := Lib.hid hB3
      have Hbr3 := Lib.hid br3
      clear hb3 br3 hB3
      gi_wp2
      refine ⟨by simp, .inl ⟨_, _, rfl, run_takeDeferred (w := w3.setCell ⟨w.heap.size + 1, 0, none⟩ (.bool true)) ((Below.heap_setCell w3 ⟨w.heap.size + 1, 0, none⟩ _ D (by simp; omega)).trans hK3), ?_⟩⟩
      refine ⟨_, results_box rfl _ _ (w.heap.size + 1) (.bool true) 4 rfl ((World.putObj_heap_other (by omega)).trans (Hbr3.out.set (.bool true))) Tryd.underlying4, rfl, ?_⟩
      exact (Hb3.out.setCell (p := ⟨w.heap.size + 1, 0, none⟩) (Nat.le_succ _) _).trans (belowK_b (w := w) (Nat.le_refl _) _ D _ _ (by omega) ((Below.heap_setCell w3 ⟨w.heap.size + 1, 0, none⟩ _ D (by simp; omega)).trans hK3) rfl rfl)
  case stop =>
    rintro D c pre W hD hSp hIx hK
    rcases hIx with ⟨rfl, hno⟩ | ⟨rfl, hn, hek, hp, hme, hpo⟩
    · exact absurd hSp hno
    have hpl : pre.length ≤ cs.length := by
      have := hSp.length_le
      rw [vals_length, HEl.out] at this
      exact this
    have h1 : 1 ≤ m := by omega
    obtain ⟨⟨hL, hBv⟩, hB, hsz4⟩ := hek
    have cn := hn.cell
    have cL := hL.cell
    have bm : Boxed W w.heap.size 3 (.int .i64 m) := (hB.block _ b0'.lt).trans b0'
    have br : Boxed W (w.heap.size + 1) 4 (.bool false) := (hB.block _ b1'.lt).trans b1'
    have cm := bm.cell
    have Hal := Lib.hid (walive_calls W (spans_below hs2 hB))
    have hzW := hB.size
    have HB := Lib.hid hB
    have Hn := Lib.hid hn
    have Hbr := Lib.hid br
    have HK := Lib.hid hK
    clear hn hL hBv bm br hB hK
    have hcc : ((pre.length : Int) == m) = true := by rw [beq_iff_eq]; exact hme
    have hmin : min (cs.length : Int) m = m := by omega
    clear hme
    gi_wp2_with (refine ⟨trivial, ?_⟩; gi_at_call 10; refine (callsIn_wide.2 Hal.out).mono ?_)
    rintro e w3 ⟨rfl, hb3⟩
    have hK3 : w3.heap[D]? = some (.deferred (some [])) := (hb3.block D (Array.getElem?_eq_some_iff.1 HK.out).1).trans HK.out
    have cn3 := Boxed.cell ((hb3.block _ Hn.out.lt).trans Hn.out)
    have br3 : Boxed w3 (w.heap.size + 1) 4 (.bool false) := (hb3.block _ Hbr.out.lt).trans Hbr.out
    have cr3 := br3.cell
    have fr3 := br3.frozen
    have hB3 : Below w.heap.size w w3 := kw2.trans ((HB.out.trans (hb3.mono hzW)).mono kw2.size)
    have Hb3 := Lib.hid hB3
    have Hbr3 := Lib.hid br3
    clear hb3 br3 hB3
    gi_wp2
    refine ⟨by simp, .inl ⟨_, _, rfl, run_takeDeferred (w := w3.setCell ⟨w.heap.size + 1, 0, none⟩ (.bool true)) ((Below.heap_setCell w3 ⟨w.heap.size + 1, 0, none⟩ _ D (by simp; omega)).trans hK3), ?_⟩⟩
    refine ⟨_, results_box rfl _ _ (w.heap.size + 1) (.bool true) 4 rfl ((World.putObj_heap_other (by omega)).trans (Hbr3.out.set (.bool true))) Tryd.underlying4, rfl, ?_⟩
    exact (Hb3.out.setCell (p := ⟨w.heap.size + 1, 0, none⟩) (Nat.le_succ _) _).trans (belowK_b (w := w) (Nat.le_refl _) _ D _ _ (by omega) ((Below.heap_setCell w3 ⟨w.heap.size + 1, 0, none⟩ _ D (by simp; omega)).trans hK3) rfl rfl)
theorem leach_calls (s : ByteArray) (m : Int) (w : World) (hm : s.size ≤ 9223372036854775807) (hm0 : -9223372036854775808 ≤ m) (hm1 : m ≤ 9223372036854775807) (hsp : Spans w) :
    Calls Tryd.prog 6 #[.string s, .int .i64 m] w fun e w' => e = .returned (.bool true) ∧ Below w.heap.size w w' := by
  by_cases h : 1000 < s.size
  · exact leach_big s.data.toList m w (by rw [← Lib.size_eq]; exact hm) (by rw [← Lib.size_eq]; exact h) hsp
  · exact leach_list s.data.toList m w hm0 hm1 (by rw [← Lib.size_eq]; omega) hsp
end Go.Proofs.YtfoiihopalcioaaDoor
