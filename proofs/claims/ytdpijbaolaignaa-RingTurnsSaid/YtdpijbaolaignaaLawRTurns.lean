/-
  The walk of RingTurns.
-/
import Derived.Test.YtdpijbaolaignaaRPair
import Derived.Lib.MinMax
import Derived.Test.YtdpijbaolaignaaRTally
namespace Go.Proofs.Ytdpijbaolaignaa
open Go Go.RowKit Go.Shelf
attribute [local go_sem] Oper.semAt_some
set_option maxRecDepth 100000

abbrev InR (w W : World) (b : Nat) (s : RS ByteArray) : Prop := RingIn Value.string 9 62 w W b s
theorem mapS : Maps.Keyed Try.prog 9 := Maps.string_keyed Try.underlying9
theorem entry_nought {D : DataW Unit} (h : CountsB D (fun _ => 0)) {x : ByteArray} {c : Int} {kl : Lit} {y : DataW Unit × List MemPlace} (hkey : keyOf Try.prog 9 (.string x) = some kl) (hv : plainElem (H := Unit) Try.prog 3 (.int .i64 c) = some y) (hat : ∀ zd, D.atKey kl zd = y.1) : c = 0 := by
  obtain ⟨s, e, rfl, _⟩ := WideMaps.string_of_keyOf Try.underlying9 hkey
  obtain ⟨a, e1, rfl, _⟩ := plainElem_int_inv Try.underlying3 hv
  injection e1 with _ e1
  rw [e1]
  exact h.at_ (hat _)

set_option maxHeartbeats 8000000 in
theorem rturns_calls (n : Int) (A : Option Addr) (c : Nat) (os : List OpD) (w : World) (hO : RdO w A os) (hl : os.length ≤ 9223372036854775807) :
    Calls Try.prog 4 #[.int .i64 n, .slice A os.length c] w fun e w' => e = .returned (.bool true) ∧ Below w.heap.size w w' := by
  have Hfew := Lib.hid (few5_calls A c os w hO hl)
  by_cases hf : os.length ≤ 200 ∧ totO os ≤ 4000
  · have hdt : decide (os.length ≤ 200 ∧ totO os ≤ 4000) = true := decide_eq_true hf
    rw [hdt] at Hfew
    have HO := Lib.hid hO
    have Hf := Lib.hid hf
    clear hdt hf hO
    refine (callsIn_wide (n := 4)).1 ?_
    refine callsIn_of_wp_marks Try.func4 rfl trivial ?_ rfl
    simp only [Try.ntmps4, List.size_toArray, List.length_cons, List.length_nil, Nat.reduceAdd, Nat.reduceSub, Array.replicate_succ, Array.replicate_zero, List.push_toArray, List.append_toArray, List.nil_append, List.cons_append]
    refine wpIn_wide.2 ?_
    go_wp2_with fail
    refine Hfew.out.mono ?_
    rintro e w1 ⟨rfl, hb1⟩
    have HB1 := Lib.hid hb1
    have Hn := Lib.hid (new_callsS n w1)
    clear hb1 Hfew
    go_wp2_with fail
    refine Hn.out.mono ?_
    rintro e w2 ⟨rfl, hw2⟩
    have h2 : InR w w2 w1.heap.size (RS.new n) := by
      subst hw2
      exact ⟨_, newRingS n w1, fun k e => by rw [e]; exact HB1.out.size, HB1.out.alloc HB1.out.size _⟩
    have H2 : Hid (InR w w2 w1.heap.size (runR (RS.new n) (os.take 0))) := Lib.hid h2
    clear h2 hw2 Hn
    go_wp2_with fail
    go_loopw [5, 29] (fun v5 v29 wr => ∃ (k b : Nat), k ≤ os.length ∧ v29 = .int .i64 (k : Int) ∧ v5 = .pointer (some ⟨b, 0, none⟩) ∧ Hid (InR w wr b (runR (RS.new n) (os.take k)))) (fun _ v29 _ => os.length - (intOf v29).toNat)
    case atStart => exact ⟨0, w1.heap.size, Nat.zero_le _, rfl, rfl, H2⟩
    case round =>
      obtain ⟨k, b, hk, rfl, rfl, hpr⟩ := hrel
      clear H2
      by_cases hlt : k < os.length
      · obtain ⟨R, r, hge, hB⟩ := hpr.out
        obtain ⟨g, og, rfl, hg, e0, e1, _⟩ := (HO.out.below hB).at_ hlt
        have Hst := Lib.hid (runR_take (RS.new n) os k hlt)
        have hsm : ∀ x ∈ (runR (RS.new n) (os.take k) : RS ByteArray).l, ¬ 9223372036854775807 < x.size + (os.getD k OpD.none_).t.size := fun x hx => by
          have h1 := small_run n os k (by omega) x hx
          have h2 := totO_take os k hlt
          have h3 := totO_mono os (k + 1) os.length (by omega)
          rw [List.take_length] at h3
          have h4 := Hf.out.2
          omega
        have M4 := Bx.new wr 32 (.int .i64 (os.getD k OpD.none_).k) (.string (os.getD k OpD.none_).t)
        have m0 := M4.c0
        have m1 := M4.c1
        have Hdoes := Lib.hid (does_calls _ R b _ (r.alloc (.cells #[.int .i64 (os.getD k OpD.none_).k, .string (os.getD k OpD.none_).t] 32)) (os.getD k OpD.none_) hsm)
        have Hge := Lib.hid hge
        have HB := Lib.hid hB
        clear hpr hsm M4 r hge hB
        generalize os.getD k OpD.none_ = o at *
        generalize (runR (RS.new n) (os.take k) : RS ByteArray) = st at *
        have hkl : (k : Int) < (os.length : Int) := by omega
        go_wp2_with fail
        refine Hdoes.out.mono ?_
        rintro e w5 ⟨b', rfl, hto⟩
        have Hnx : Hid (InR w w5 b' (runR (RS.new n) (os.take (k + 1)))) := Lib.hid (by
          rw [Hst.out]
          exact hto.inn Hge.out (HB.out.alloc HB.out.size _))
        clear hto Hdoes m0 m1
        go_wp2_with fail
        go_roundw
        case rel => exact ⟨k + 1, b', by omega, by go_num, rfl, Hnx⟩
        case measure => simp [intOf]; omega
      · obtain rfl : k = os.length := by omega
        have hsm := small_run n os os.length (Nat.le_refl _)
        have h4 := Hf.out.2
        rw [List.take_length] at hsm hpr
        obtain ⟨st, hst⟩ : ∃ st : RS ByteArray, runR (RS.new n) os = st := ⟨_, rfl⟩
        rw [hst] at hsm hpr
        have Hsz : Hid (∀ x ∈ st.l, x.size ≤ maxLen) := Lib.hid (fun x hx => by have := hsm x hx; unfold maxLen; omega)
        have hok : st.Ok := by obtain ⟨_, h, _⟩ := hpr.out; exact h.ok
        have hle := hok.le
        have hln := hok.len
        have htop : ∀ W, InR w W b st → Calls Try.prog 16 #[.pointer (some ⟨b, 0, none⟩)] W fun e W' => e = .returned (.tuple #[Value.string (st.l.getD st.i ⟨#[]⟩), .bool (decide (0 < st.l.length))]) ∧ Below W.heap.size W W' := fun W h => by
          obtain ⟨R, r, _⟩ := h
          exact top_callsS W R b st r
        have Htop := Lib.hid htop
        have Hok := Lib.hid hok
        clear hst hsm h4 htop hok
        generalize st.l.getD st.i ⟨#[]⟩ = y at *
        generalize decide (0 < st.l.length) = q at *
        go_wp2_with fail
        refine (Htop.out wr hpr.out).mono ?_
        rintro e w4 ⟨rfl, hb4⟩
        have H4 := hpr.out.below hb4
        have T0 := TurnAt.start H4
        have hmm := @run_makeMap Try.prog
        obtain ⟨W1, hW1⟩ : ∃ W1, (w4.alloc (.map #[] 0)).alloc (.cells #[.map (some w4.heap.size)] 39) = W1 := ⟨_, rfl⟩
        rw [hW1] at T0
        obtain ⟨R1, r1, _⟩ := T0.ring
        have Hlen := Lib.hid (len_callsS W1 R1 b st r1)
        have HT0 := Lib.hid T0
        clear hb4 H4 T0 r1 hpr
        go_wp2_with fail
        generalize w4.heap.size = mb at *
        refine Hlen.out.mono ?_
        rintro e w' ⟨rfl, rfl⟩
        clear Hlen hW1 hmm
        go_wp2_with fail
        go_loopw [47] (fun v47 wr => ∃ j : Nat, j ≤ st.l.length ∧ v47 = .int .i64 (j : Int) ∧ Hid (TurnAt w wr mb b (st.turns j) j (fun z => cntB z (st.met ⟨#[]⟩ j)))) (fun v47 _ => st.l.length - (intOf v47).toNat)
        case atStart => exact ⟨0, Nat.zero_le _, rfl, HT0⟩
        case round =>
          obtain ⟨j, hj, rfl, ht⟩ := hrel
          clear HT0
          by_cases hjt : j < st.l.length
          · have htc := ht.out.turn_calls
            have hti : (st.turns j).turn.i = (st.i + (j + 1)) % st.l.length := RS.turns_i Hok.out (by omega) (j + 1)
            rw [hti, RS.turns_l] at htc
            have hmod : (st.i + (j + 1)) % st.l.length < st.l.length := Nat.mod_lt _ (by omega)
            have hx : st.l[(st.i + (j + 1)) % st.l.length]? = some (st.l.getD ((st.i + (j + 1)) % st.l.length) ⟨#[]⟩) := by rw [List.getD_eq_getElem?_getD, List.getElem?_eq_getElem hmod]; rfl
            have hxs := Hsz.out _ (List.mem_of_getElem? hx)
            have Hms := Lib.hid (RS.met_succ st ⟨#[]⟩ j)
            clear hx hti hmod ht
            generalize st.l.getD ((st.i + (j + 1)) % st.l.length) ⟨#[]⟩ = x at *
            have hkey : keyOf Try.prog 9 (.string x) = some (keyB x) := WideMaps.keyOf_string_mk Try.underlying9 hxs
            have Htc := Lib.hid htc
            have hml : (st.met ⟨#[]⟩ j).length = j := by simp [RS.met]
            have hcb := cntB_le x (st.met ⟨#[]⟩ j)
            rw [hml] at hcb
            have Hcb := Lib.hid hcb
            have hj64 : j < maxLen := by unfold maxLen; omega
            have hjl : (j : Int) < (st.l.length : Int) := by omega
            clear htc hml hcb
            generalize decide (0 < st.l.length) = q2 at *
            go_wp2_with fail
            refine Htc.out.mono ?_
            rintro e w5 ⟨rfl, ht5⟩
            have cb := ht5.box.cell
            obtain ⟨R, D, h1, h2, h3, h4, h5, h6, h7⟩ := ht5
            have K1 := Lib.hid h1
            have K2 := Lib.hid h2
            have K3 := Lib.hid h3
            have K4 := Lib.hid h4
            have K5 := Lib.hid h5
            have K6 := Lib.hid h6
            have K7 := Lib.hid h7
            clear h1 h2 h3 h4 h5 h6 h7 Htc
            go_wp2_with (first | (at_lookup; refine wpList_lookup_own_int _ rfl _ _ 39 rfl 9 3 .i64 mapS Try.underlying39 Try.underlying3 (Try.zeroValue3 _) _ (j) _ rfl K6.out _ _ rfl hkey ?_; intro c hat hwc) | (at_mapUpdate; refine wpList_mapUpdate_own _ rfl _ _ _ 39 rfl 9 3 mapS Try.underlying39 _ _ (j) _ rfl K6.out hj64 _ _ _ rfl rfl hkey _ [] (plainElem_int Try.underlying3 (wrap64_wf _)) ?_; intro w6 hown6 hg6) | go_in)
            have hc : c = cntB x (st.met ⟨#[]⟩ j) := K7.out.at_ hat
            have Hnew : Hid (TurnAt w w6 mb b (st.turns (j + 1)) (j + 1) (fun z => cntB z (st.met ⟨#[]⟩ (j + 1)))) := Lib.hid (by
              refine turn_put (s := (st.turns j).turn) K1.out K2.out K3.out K4.out K5.out K7.out (x := x) (c := wrap64 (c + 1)) ?_ ?_ hown6 hg6
              · have := Hcb.out
                rw [show wrap64 (c + 1) = c + 1 from IntWalk.wrap64_in _ (by omega), Hms.out, cntB_append, hc]
                show _ + ((if x = x then (1 : Int) else 0) + 0) = _
                rw [if_pos rfl]; omega
              · intro z hz
                show cntB z (st.met ⟨#[]⟩ (j + 1)) = cntB z (st.met ⟨#[]⟩ j)
                rw [Hms.out, cntB_append]
                show _ + ((if x = z then (1 : Int) else 0) + 0) = _
                rw [if_neg (fun e => hz e.symm)]; omega)
            go_roundw
            case rel => exact ⟨j + 1, by omega, by go_num, Hnew⟩
            case measure => simp [intOf]; omega
          · obtain rfl : j = st.l.length := by omega
            have ht2 := ht.out
            rw [RS.turns_all Hok.out, show (fun z => cntB z (st.met ⟨#[]⟩ st.l.length)) = fun z => cntB z st.l from funext fun z => cntB_perm z (RS.met_all_perm st _)] at ht2
            have Hal := Lib.hid (callsIn_wide.1 (all_inS 0 b wr))
            have HT2 := Lib.hid ht2
            clear ht ht2
            go_wp2_with fail
            refine Hal.out.mono ?_
            rintro e w' ⟨rfl, rfl⟩
            clear Hal
            go_wp2_with fail
            refine (wpIn_wide (n := 4)).1 ?_
            have hTW := HT2.out.below ((Below.refl _ wr).alloc (Nat.le_refl _) (.cells #[.pointer (some ⟨b, 0, none⟩)] 25))
            have x3 := Boxed.new wr 25 (.pointer (some ⟨b, 0, none⟩))
            have hszW : (wr.alloc (.cells #[.pointer (some ⟨b, 0, none⟩)] 25)).heap.size = wr.heap.size + 1 := World.size_alloc _ _
            have hmw := HT2.out.box.lt
            generalize wr.alloc (.cells #[.pointer (some ⟨b, 0, none⟩)] 25) = W0 at *
            obtain ⟨R, D0, h1, h2, _, hmb, _⟩ := id hTW
            refine wpIn_rangeFunc_ownG rfl (by omega) (gf := 36) (lb := #[.pointer (some ⟨wr.heap.size, 0, none⟩)]) rfl trivial (enters_of Try.func36 (by kernel_rfl) rfl)
              (all_stopsS 3 (by omega) wr.heap.size mb _ R b st h1 (fun k hk => (h2 k hk).2) x3) belowK_t (belowK_b (by omega)) (Below.refl _ _) (fun _ => rfl)
              (fun pre W => TurnAt w W mb b st (st.l.length + pre.length) (fun z => cntB z st.l - cntB z ((vals pre).map (·.2))))
              (fun c pre W => False)
              (fun s A B row hs hg hr => hs.own hg (fun k e => by have := (hr k e).1; omega))
              (fun c => ownFrom_pure _ _)
              (by show TurnAt w W0 mb b st (st.l.length + 0) (fun z => cntB z st.l - 0); simpa using hTW)
              (fun x => { tmps := #[.int .i64 n, .slice A os.length c, undef, undef, u4, .pointer (some ⟨b, 0, none⟩), undef, u7, .string y, .bool q, .pointer (some ⟨mb + 1, 0, none⟩), u11, u12, undef, .string x.1.2, undef, undef, undef, undef, .slice A os.length c, .bool true, .bool false, undef, .int .i64 n, .pointer (some ⟨w1.heap.size, 0, none⟩), .pointer (some ⟨w1.heap.size, 0, none⟩), .bool false, .slice A os.length c, .int .i64 (os.length : Int), .int .i64 (os.length : Int), .bool false, u31, u32, u33, u34, u35, u36, u37, u38, .tuple #[.string y, .bool q], .pointer (some ⟨b, 0, none⟩), .tuple #[.string y, .bool q], .string y, .bool q, .map (some mb), .pointer (some ⟨b, 0, none⟩), .int .i64 (st.l.length : Int), .int .i64 (st.l.length : Int), .bool false, u49, u50, u51, u52, u53, u54, u55, u56, u57, u58, .pointer (some ⟨b, 0, none⟩), .func (.func 36) #[] #[.pointer (some ⟨wr.heap.size, 0, none⟩)], .int .i64 (x.1.1 : Int), .string x.1.2, undef, undef, undef, undef, undef, undef, undef, undef, undef, undef, undef, undef, undef, undef, undef, undef, undef, undef, undef, undef, undef, undef, undef, undef, undef, undef, undef, undef], defers := [] }) ?assign ?body ?done ?stop
            case assign =>
              intro l' x W K hK
              gi_wp2
              exact hK
            case body =>
              rintro l' pre x W ht hlt
              have hxs := Hsz.out _ (List.mem_of_getElem? x.2)
              have hkey : keyOf Try.prog 9 (.string x.1.2) = some (keyB x.1.2) := WideMaps.keyOf_string_mk Try.underlying9 hxs
              have cb := ht.box.cell
              have hc1 := cntB_le x.1.2 st.l
              have hc2 := cntB_le x.1.2 ((vals pre).map (·.2))
              rw [List.length_map, vals_length] at hc2
              have hbd : st.l.length + pre.length < maxLen := by unfold maxLen; omega
              obtain ⟨R', D, g1, g2, g3, g4, g5, g6, g7⟩ := ht
              gi_wp2_with (first | (gi_at_lookup; refine wpListIn_lookup_own_int _ rfl _ _ 39 rfl 9 3 .i64 mapS Try.underlying39 Try.underlying3 (Try.zeroValue3 _) _ (st.l.length + pre.length) _ rfl g6 _ _ rfl hkey ?_; intro c hat hwc) | (gi_at_mapUpdate; refine wpListIn_mapUpdate_own _ rfl _ _ _ 39 rfl 9 3 mapS Try.underlying39 _ _ (st.l.length + pre.length) _ rfl g6 hbd _ _ _ rfl rfl hkey _ [] (plainElem_int Try.underlying3 (wrap64_wf _)) ?_; intro w6 hown6 hg6))
              have hc : c = cntB x.1.2 st.l - cntB x.1.2 ((vals pre).map (·.2)) := g7.at_ hat
              have hms : vals (pre ++ [x]) = vals pre ++ [x.1] := vals_snoc _ _
              refine ⟨KeepsFrom.of_grownBy hg6 (fun j e => by cases e; omega), (Below.refl mb W).grown hg6 (by have := g6.lt; omega) (fun k e => by cases e; exact Nat.le_refl _), ?_⟩
              show TurnAt w w6 mb b st (st.l.length + (pre ++ [x]).length) (fun z => cntB z st.l - cntB z ((vals (pre ++ [x])).map (·.2)))
              rw [List.length_append]
              refine turn_put (s := st) g1 g2 g3 g4 g5 g7 (x := x.1.2) (c := wrap64 (c - 1)) ?_ ?_ hown6 hg6
              · show cntB x.1.2 st.l - cntB x.1.2 ((vals (pre ++ [x])).map (·.2)) = wrap64 (c - 1)
                rw [show wrap64 (c - 1) = c - 1 from IntWalk.wrap64_in _ (by omega), hms, List.map_append, cntB_append, hc]
                show _ - (_ + ((if x.1.2 = x.1.2 then (1 : Int) else 0) + 0)) = _
                rw [if_pos rfl]; omega
              · intro z hz
                show cntB z st.l - cntB z ((vals (pre ++ [x])).map (·.2)) = cntB z st.l - cntB z ((vals pre).map (·.2))
                rw [hms, List.map_append, cntB_append]
                show _ - (_ + ((if x.1.2 = z then (1 : Int) else 0) + 0)) = _
                rw [if_neg (fun e => hz e.symm)]; omega
            case done =>
              rintro D ys W hD hys ht hK
              have hf0 : (fun z => cntB z st.l - cntB z ((vals ys).map (·.2))) = fun _ => 0 := funext fun z => by rw [hys, told_snd]; omega
              rw [hf0] at ht
              have cb := ht.box.cell
              have hring := ht.ring
              obtain ⟨_, D1, _, _, _, _, _, h6, h7⟩ := ht
              have HR := Lib.hid hring
              have HC := Lib.hid h7
              have HK := Lib.hid hK
              clear hring h7 hK hf0 hys hTW h1 h2 x3
              generalize st.l.length + ys.length = nn at *
              go_wp2_with (first
                | (at_range; refine wpList_range_own _ rfl _ 39 rfl 9 3 mapS Try.underlying39 _ mb nn _ rfl h6 ?_; intro w0 hrg0 hg0 hs0)
                | go_in)
              go_frame
              go_loopw [16] (fun _ wv => ∃ (left : Lit → Bool) (cnt : Nat), wv.ranges Try.prog 9 (plainElem (H := Unit) Try.prog 3) mb W.heap.size nn D1 left cnt ∧ Hid (InR w wv b st ∧ wv.heap[D]? = some (.deferred (some [])))) (fun _ wv => wv.rangeLeft mb W.heap.size)
              case atStart => exact ⟨_, _, hrg0, Lib.hid ⟨HR.out.below ((Below.refl _ W).grown hg0 (Nat.le_refl _) (fun k e => by cases e)), (hg0.block D (Array.getElem?_eq_some_iff.1 HK.out).1 (by simp)).trans HK.out⟩⟩
              case round =>
                obtain ⟨left, cnt, hrg, hin⟩ := hrel
                have hDW : D < W.heap.size := (Array.getElem?_eq_some_iff.1 HK.out).1
                clear hrg0 hg0 hs0 cb h6
                go_wp2_with (first
                  | (at_next; refine wpList_next_ranges _ rfl _ rfl 9 mapS (plainElem (H := Unit) Try.prog 3) Value.string (Value.int .i64) (fun key kl h => by obtain ⟨s, e, _⟩ := WideMaps.string_of_keyOf Try.underlying9 h; exact ⟨s, e⟩) (fun v y h => by obtain ⟨a, e, _⟩ := plainElem_int_inv Try.underlying3 h; exact ⟨a, e⟩) mb W.heap.size nn D1 _ _ rfl hrg ?_ ?_)
                  | go_in)
                · intro _ _
                  have Hin := Lib.hid hin.out
                  clear hin hrg
                  go_wp2_with fail
                  refine (Htop.out _ Hin.out.1).mono ?_
                  rintro e w7 ⟨rfl, hb7⟩
                  have H7 := Lib.hid (Hin.out.1.below hb7)
                  have HK7 : Hid (w7.heap[D]? = some (.deferred (some []))) := Lib.hid ((hb7.block D (Array.getElem?_eq_some_iff.1 Hin.out.2).1).trans Hin.out.2)
                  have Hal := Lib.hid (ralive_calls w7)
                  clear hb7 Hin
                  go_wp2_with fail
                  refine Hal.out.mono ?_
                  rintro e w8 ⟨rfl, hb8⟩
                  have HB8 : Hid (Below w.heap.size w w8) := Lib.hid (H7.out.below hb8).bel
                  have HK8 : Hid (w8.heap[D]? = some (.deferred (some []))) := Lib.hid ((hb8.block D (Array.getElem?_eq_some_iff.1 HK7.out).1).trans HK7.out)
                  clear hb8 Hal H7 HK7
                  go_wp2
                  refine ⟨by simp, .inl ⟨_, _, rfl, run_takeDeferred HK8.out, ?_⟩⟩
                  exact ⟨_, results_tmp rfl _ _ _, rfl, HB8.out.trans (belowK_b (w := w) (Nat.le_refl _) w8 D _ _ (by omega) HK8.out rfl rfl)⟩
                · intro s e kl y1 y2 w9 cnt9 hkey hlx hv hat hrg9 hlt9 hg9 hs9 hen
                  obtain rfl : e = 0 := entry_nought (y := (y1, y2)) HC.out hkey hv hat
                  have Hnx : Hid (InR w w9 b st ∧ w9.heap[D]? = some (.deferred (some []))) := Lib.hid ⟨by
                      obtain ⟨R, r1, r2, r3⟩ := hin.out.1
                      refine ⟨R, ring_own r1 hg9 (fun r e => ?_), r2, r3.grown hg9 r3.size (fun k e => by cases e; have := HR.out.bel.size; omega)⟩
                      cases e
                      obtain ⟨_, _, _, _, _, _, _, _, _, hit, _⟩ := hrg
                      exact ⟨_, hit, rfl⟩,
                    (hg9.block D (Array.getElem?_eq_some_iff.1 hin.out.2).1 (by intro e; injection e with e; omega)).trans hin.out.2⟩
                  have hml : w9.rangeLeft mb W.heap.size < cnt := by rw [hrg9.left_eq]; exact hlt9
                  rw [← hrg.left_eq] at hml
                  have Hml := Lib.hid hml
                  clear hin hrg hml hkey hv hat
                  go_wp2_with fail
                  go_roundw
                  case rel => exact ⟨_, cnt9, hrg9, Hnx⟩
                  case measure => exact Hml.out
            case stop =>
              rintro D c pre W hD hSp h hK
              exact h.elim
  · have hdf : decide (os.length ≤ 200 ∧ totO os ≤ 4000) = false := decide_eq_false hf
    rw [hdf] at Hfew
    clear hdf hf hO
    go_enter Try.func4, Try.ntmps4
    go_wp2_with fail
    refine Hfew.out.mono ?_
    rintro e w1 ⟨rfl, hb1⟩
    have HB1 := Lib.hid hb1
    have Hal := Lib.hid (ralive_calls w1)
    clear hb1 Hfew
    go_wp2_with fail
    refine Hal.out.mono ?_
    rintro e w9 ⟨rfl, hb9⟩
    have HB9 := Lib.hid ((HB1.out.trans (hb9.mono HB1.out.size)))
    clear hb9 Hal
    go_wp2
    go_ret
    exact ⟨rfl, HB9.out⟩
end Go.Proofs.Ytdpijbaolaignaa
