/-
  The walk of KeysTexts.
-/
import Derived.Test.YtbkejjpkijjfaaaDoorKAlive
import Derived.Test.YtbkejjpkijjfaaaDoorKRunes
import Derived.Test.YtbkejjpkijjfaaaDoorKEvents
namespace Go.Proofs.YtbkejjpkijjfaaaDoor
open Go Go.RowKit
set_option maxRecDepth 100000

/-- What the statement asks of a key. -/
def KeyOk (k : KV) : Prop := k.1 ≤ 27 ∧ (k.1 = 1 → (runes k.2).length = 1) ∧ (k.1 ≠ 1 → k.1 ≠ 26 → k.2 = [])
theorem kind_ok (n : Nat) (h : n ≤ 27) (h1 : n ≠ 1) : KeyOk (n, []) := ⟨h, fun e => absurd e h1, fun _ _ => rfl⟩
theorem arrow_kind (x : Nat) : arrowL x ≤ 27 ∧ arrowL x ≠ 1 := by
  unfold arrowL
  repeat' split
  all_goals exact ⟨by decide, by decide⟩
theorem meta_kind (x : Nat) : metaL x ≤ 27 ∧ metaL x ≠ 1 := by
  unfold metaL
  repeat' split
  all_goals exact ⟨by decide, by decide⟩
theorem seq_kind (s : List UInt8) (x : Nat) : seqL s x ≤ 27 ∧ seqL s x ≠ 1 := by
  have := arrow_kind x
  unfold seqL
  repeat' split
  all_goals first | exact this | exact ⟨by decide, by decide⟩
theorem esc_kind (b : List UInt8) : (escL b).1 ≤ 27 ∧ (escL b).1 ≠ 1 := by
  unfold escL csiL ss3L
  repeat' split
  all_goals first | exact seq_kind _ _ | exact arrow_kind _ | exact meta_kind _ | exact ⟨by decide, by decide⟩ | exact ⟨show (0 : Nat) ≤ 27 by decide, show (0 : Nat) ≠ 1 by decide⟩
theorem ctl_kind (x : Nat) (h : x < 32) : ctlsL.getD x 0 ≤ 27 ∧ ctlsL.getD x 0 ≠ 1 := by
  have key : ∀ y : Fin 32, ctlsL.getD y.1 0 ≤ 27 ∧ ctlsL.getD y.1 0 ≠ 1 := by decide
  exact key ⟨x, h⟩
theorem signK_ok (r : Nat) (h : Valid r) : KeyOk (signK r) := by
  unfold signK
  split
  · exact kind_ok 0 (by decide) (by decide)
  · refine ⟨show (1 : Nat) ≤ 27 by decide, fun _ => ?_, fun h1 => absurd rfl h1⟩
    have := runes_enc [r] (fun x hx => by simp at hx; subst hx; exact h)
    simp only [encL, List.flatMap_cons, List.flatMap_nil, List.append_nil] at this
    rw [this]; rfl
theorem one_ok (b : List UInt8) : KeyOk (oneL b).1 := by
  unfold oneL
  split
  · exact kind_ok _ (esc_kind b).1 (esc_kind b).2
  · split
    · rename_i h
      exact kind_ok _ (ctl_kind _ h).1 (ctl_kind _ h).2
    · split
      · exact kind_ok 3 (by decide) (by decide)
      · split
        · exact signK_ok _ (decodeL_valid b)
        · exact kind_ok 0 (by decide) (by decide)
theorem keysF_ok : ∀ (f : Nat) (b : List UInt8), ∀ k ∈ (keysF f b).1, KeyOk k
  | 0, _, k, h => by simp [keysF] at h
  | f + 1, b, k, h => by
    by_cases hw : b = [] ∨ (oneL b).2 = 0
    · simp [keysF, if_pos hw] at h
    · simp only [keysF, if_neg hw, List.mem_cons] at h
      rcases h with rfl | h
      · exact one_ok b
      · exact keysF_ok f _ k h
theorem put_keys (d : Dec) (x : UInt8) : ∀ k ∈ (putD d x).1, KeyOk k := by
  intro k hk
  unfold putD at hk
  split at hk
  · unfold putP at hk
    repeat' split at hk
    all_goals simp at hk
    subst hk
    exact ⟨show (26 : Nat) ≤ 27 by decide, fun h => absurd h (show (26 : Nat) ≠ 1 by decide), fun _ h => absurd rfl h⟩
  · exact keysF_ok _ _ k hk
theorem feed_keys : ∀ (l : List UInt8) (d : Dec), ∀ k ∈ (feedD d l).1, KeyOk k
  | [], _, k, h => by simp [feedD] at h
  | x :: l, d, k, h => by
    simp only [feedD, List.mem_append] at h
    rcases h with h | h
    · exact put_keys d x k h
    · exact feed_keys l _ k h
theorem tick_keys (d : Dec) : ∀ k ∈ (tickD d).1, KeyOk k := by
  intro k hk
  unfold tickD at hk
  split at hk
  · simp at hk
  · split at hk
    · simp at hk
    · simp only at hk
      split at hk
      · obtain ⟨r, hr, rfl⟩ := List.mem_map.1 hk
        exact signK_ok r (runes_valid _ r hr)
      · split at hk
        · simp at hk; subst hk; exact kind_ok 27 (by decide) (by decide)
        · simp at hk; subst hk; exact kind_ok 0 (by decide) (by decide)
theorem tick_count (d : Dec) (h : d.Ok) : (tickD d).1.length ≤ 20 := by
  have h1 := h.1
  have h2 := runes_length d.w
  unfold tickD
  repeat' split
  all_goals simp
  omega
theorem RdK.below {w w' : World} {A : Option Addr} {ks : List KV} (h : RdK w A ks) (hb : Below w.heap.size w w') : RdK w' A ks := fun hn => by
  obtain ⟨b, e, h1, hc⟩ := h hn
  refine ⟨b, e, Nat.lt_of_lt_of_le h1 hb.size, fun i hi => ?_⟩
  rw [hb.cell (p := ⟨b, i * 2, none⟩) h1, hb.cell (p := ⟨b, i * 2 + 1, none⟩) h1]
  exact hc i hi
theorem At4.next {w W : World} (hb : Below w.heap.size w W) (hL : Lays w) : At4 w W.heap.size Dec.zero (W.alloc (.cells #[.string ⟨#[]⟩, .string ⟨#[]⟩, .int .i64 0, .bool false] 26)) :=
  ⟨heap_alloc_new W _, Dec.ok_zero, hb.alloc hb.size _, hb.size, hL⟩
theorem At4.row {w W W' : World} {g : Nat} {d : Dec} {row : Option Nat} (h : At4 w g d W) (hg : W.grownBy W' row) (hr : ∀ k, row = some k → w.heap.size ≤ k ∧ k ≠ g) : At4 w g d W' :=
  ⟨h.1.keep (hg.block g h.lt (fun e => (hr g e.symm).2 rfl)), h.2.1, h.2.2.1.grown hg h.2.2.1.size (fun k hk => (hr k hk).1), h.2.2.2⟩

set_option maxHeartbeats 1000000 in
theorem ktexts_calls (A : Option Addr) (c : Nat) (es : List Ev) (w : World) (hR : RdE w A es) (hL : Lays w) (hn : es.length ≤ 9223372036854775807) :
    Calls Tryd.prog 7 #[.slice A es.length c] w fun e w' => e = .returned (.bool true) ∧ Below w.heap.size w w' := by
  have HF := Lib.hid (few4_calls A c es w hR hn)
  by_cases hfew : es.length ≤ 100 ∧ totE es ≤ 2000
  · have HF' : Hid (Calls Tryd.prog 11 #[.slice A es.length c] w fun e w' => e = .returned (.bool true) ∧ Below w.heap.size w w') := Lib.hid (by have := HF.out; rwa [decide_eq_true hfew] at this)
    have hall : Hid (∀ i, i < es.length → (es.getD i Ev.none_).b.length ≤ 2000) := Lib.hid fun i hi => by
      have h1 := totE_take es i hi
      have h2 : totE es = totE (es.take (i + 1)) + totE (es.drop (i + 1)) := by
        unfold totE; rw [← List.sum_append, ← List.map_append, List.take_append_drop]
      omega
    obtain ⟨i1, hi1, hy0, hy1, hy2⟩ := info_parts infoK
    have HR := Lib.hid hR
    have HL := Lib.hid hL
    clear hR hL HF hfew
    go_enter Tryd.func7, Tryd.ntmps7
    go_wp2_with fail
    refine HF'.out.mono ?_
    rintro e w0 ⟨rfl, hb0⟩
    have hA0 := At4.next hb0 HL.out
    have HA0 := Lib.hid hA0
    have hw0 := hb0.size
    clear hA0 HF' hb0
    go_wp2_with fail
    go_loopw [15] (fun v15 wr => ∃ (k : Nat) (d : Dec), k ≤ es.length ∧ v15 = .int .i64 (k : Int) ∧ At4 w w0.heap.size d wr) (fun v15 _ => es.length - (intOf v15).toNat)
    case atStart => exact ⟨0, Dec.zero, by omega, rfl, HA0.out⟩
    case round =>
      obtain ⟨k, d, hk, rfl, hA⟩ := hrel
      by_cases hlt : k < es.length
      · obtain ⟨ge, oe, rfl, hge, c0, c1, hby, _⟩ := (HR.out.below hA.bel).at_ hlt
        have hbl := hall.out k hlt
        have hbw : Byt w (es.getD k Ev.none_).a (es.getD k Ev.none_).b := by
          obtain ⟨_, _, _, _, _, _, h3, _⟩ := HR.out.at_ hlt
          exact h3
        generalize es.getD k Ev.none_ = ev at *
        obtain ⟨et, ea, ec, eb⟩ := ev
        simp only at c0 c1 hby hbl hbw
        have hbx := Bx.new wr 31 (.bool et) (.slice ea eb.length ec)
        have hA1 := hA.alloc (.cells #[.bool et, .slice ea eb.length ec] 31)
        have F1 := Lib.hid (hA1.feedArg ec hbw (by omega))
        have hgw := hA.lt
        have hkeys1 := Lib.hid (feed_keys eb d)
        have hcnt1 := feed_count eb d hA.2.1
        have Hbx := Lib.hid hbx
        clear hby hbw hbx hA1 hA
        generalize feedD d eb = r at *
        generalize eb.length = n at *
        go_wp2_with fail
        refine F1.out.mono ?_
        intro e w2 hS
        obtain ⟨A2, c2, rfl, o2, a2, g2⟩ := hS.at2
        have hb2 : Bx w2 wr.heap.size 31 (.bool et) (.slice ea n ec) := (g2.block wr.heap.size Hbx.out.lt (fun e => by injection e with e; omega)).trans Hbx.out
        have y0 := hb2.c0
        have y1 := hb2.c1
        have hz2 := g2.size
        rw [World.size_alloc] at o2 hz2
        have O2 := Lib.hid o2
        have Aw2 := Lib.hid a2
        clear hS o2 a2 g2 F1 Hbx hb2
        cases et with
        | false =>
          obtain ⟨rk2, _, _, _⟩ := rdK_of_own O2.out
          have Rk := Lib.hid rk2
          have HD4 := Lib.hid Aw2.out
          have hkeys := hkeys1
          clear rk2 O2 Aw2 hkeys1
          generalize hK : r.1 = K at *
          generalize hDd : r.2 = dd at *
          clear hK hDd
          go_wp2_with fail
          go_loopw [29] (fun v29 wr => ∃ j : Nat, j ≤ K.length ∧ v29 = .int .i64 (j : Int) ∧ Below w2.heap.size w2 wr) (fun v29 _ => K.length - (intOf v29).toNat)
          case atStart => exact ⟨0, by omega, rfl, Below.refl _ _⟩
          case round =>
            obtain ⟨j, hj, rfl, hbel⟩ := hrel
            by_cases hjk : j < K.length
            · obtain ⟨p1, e1, hp1, q1⟩ := (Rk.out.below hbel).at_ (by omega)
              subst e1
              obtain ⟨q10, q11⟩ := q1 j hjk
              have hok : KeyOk (K.getD j (0, [])) := by
                have e : K.getD j (0, []) = K[j] := by simp [List.getD, hjk]
                rw [e]; exact hkeys.out _ (List.getElem_mem hjk)
              have hsq := hbel.size
              have HBel := Lib.hid hbel
              clear q1 hbel
              generalize K.getD j (0, []) = ky at *
              obtain ⟨kn, kt⟩ := ky
              obtain ⟨k27, kr, ke⟩ := hok
              simp only at q10 q11 k27 kr ke
              have d0 : decide ((kn : Int) < 0) = false := decide_eq_false (by omega)
              have d27 : decide (27 < (kn : Int)) = false := decide_eq_false (by omega)
              have d27' : decide ((kn : Int) > 27) = false := decide_eq_false (by omega)
              have hbx := Bx.new wr 44 (.int .i64 (kn : Int)) (.string (bs kt))
              have b0 := hbx.c0
              have b1 := hbx.c1
              have Hbx := Lib.hid hbx
              clear hbx
              by_cases h1 : kn = 1
              · have i1' : ((kn : Int) == 1) = true := by rw [h1]; rfl
                have i2' : ((kn : Int) != 1) = false := by rw [h1]; rfl
                have hlen := kr h1
                obtain ⟨cr, w9, hrun, _, hbq⟩ := conv_runes kt (by omega) (wr.alloc (.cells #[.int .i64 (kn : Int), .string (bs kt)] 44))
                rw [hlen, World.size_alloc] at hrun
                have hb9 := Hbx.out.below hbq
                have z0 := hb9.c0
                have z1 := hb9.c1
                have HB2 := Lib.hid ((HBel.out.alloc hsq _).trans (hbq.mono (by rw [World.size_alloc]; omega)))
                clear h1 hlen kr ke hbq HBel hb9 Hbx
                go_wp2
                go_roundw
                case rel => exact ⟨j + 1, by omega, by go_num, HB2.out⟩
                case measure => simp [intOf]; omega
              · have i1' : ((kn : Int) == 1) = false := beq_eq_false_iff_ne.2 (by omega)
                have i2' : ((kn : Int) != 1) = true := bne_iff_ne.2 (by omega)
                by_cases h26 : kn = 26
                · have i3' : ((kn : Int) != 26) = false := by rw [h26]; rfl
                  clear h1 h26 kr ke
                  go_wp2
                  go_roundw
                  case rel => exact ⟨j + 1, by omega, by go_num, HBel.out.alloc hsq _⟩
                  case measure => simp [intOf]; omega
                · have i3' : ((kn : Int) != 26) = true := bne_iff_ne.2 (by omega)
                  obtain rfl := ke h1 h26
                  clear h1 h26 kr ke
                  go_wp2
                  go_roundw
                  case rel => exact ⟨j + 1, by omega, by go_num, HBel.out.alloc hsq _⟩
                  case measure => simp [intOf]; omega
            · obtain rfl : j = K.length := by omega
              have HZ := Lib.hid (HD4.out.below hbel)
              clear HD4 Rk hbel
              go_wp2
              go_roundw
              case rel => exact ⟨k + 1, dd, by omega, by go_num, HZ.out⟩
              case measure => simp [intOf]; omega
        | true =>
          have hkeys2 := Lib.hid (tick_keys r.2)
          have hcnt2 := tick_count r.2 Aw2.out.2.1
          have F3 := Lib.hid Aw2.out.tick
          generalize tickD r.2 = x at *
          go_wp2_with fail
          refine F3.out.mono ?_
          intro e w3 hS
          obtain ⟨A3, c3, rfl, o3, a3, g3⟩ := hS.at2
          have hown1 : w3.ownsRow (wr.heap.size + 1) 44 2 (.slice A2 r.1.length c2) r.1.length (cellsK r.1) := own_kept (w := w2) O2.out g3 (fun gg hgg e => by injection e with e; have := (O2.out.lt gg hgg).1; omega)
          have hz3 := g3.size
          obtain ⟨v4, w4, hrun, hown4, hg4⟩ := run_append_K (P := Tryd.prog) w3 (wr.heap.size + 1) w2.heap.size 36 36 i1 Tryd.underlying36 hi1 hy0 hy1 hy2 (.slice A2 r.1.length c2) (.slice A3 x.1.length c3) r.1 x.1 hown1 o3 (by omega) (by omega)
          have hrow : ∀ i, (Value.slice A2 r.1.length c2).ownBlock = some i → wr.heap.size + 1 ≤ i := fun i hi => (hown1.lt i hi).1
          have HD4 := Lib.hid (a3.row hg4 (fun k hk => by have := hrow k hk; omega))
          obtain ⟨A4, c4, rfl⟩ := own_form hown4
          obtain ⟨rk4, _, _, _⟩ := rdK_of_own hown4
          have Rk := Lib.hid rk4
          have hkeys : Hid (∀ ky ∈ r.1 ++ x.1, KeyOk ky) := Lib.hid fun ky h => (List.mem_append.1 h).elim (hkeys1.out ky) (hkeys2.out ky)
          have hKl : (r.1 ++ x.1).length ≤ 100000 := by rw [List.length_append]; omega
          have Hrun := Lib.hid hrun
          clear hS o3 a3 g3 hown1 hrun hown4 hg4 hrow rk4 F3 Aw2 O2 hkeys1 hkeys2
          generalize hK : r.1 ++ x.1 = K at *
          clear hK
          go_wp2_with (at_builtin; refine wpList_append_g (by rfl) _ _ 36 rfl _ _ rfl rfl Hrun.out ?_)
          go_wp2_with fail
          go_loopw [29] (fun v29 wr => ∃ j : Nat, j ≤ K.length ∧ v29 = .int .i64 (j : Int) ∧ Below w4.heap.size w4 wr) (fun v29 _ => K.length - (intOf v29).toNat)
          case atStart => exact ⟨0, by omega, rfl, Below.refl _ _⟩
          case round =>
            obtain ⟨j, hj, rfl, hbel⟩ := hrel
            by_cases hjk : j < K.length
            · obtain ⟨p1, e1, hp1, q1⟩ := (Rk.out.below hbel).at_ (by omega)
              subst e1
              obtain ⟨q10, q11⟩ := q1 j hjk
              have hok : KeyOk (K.getD j (0, [])) := by
                have e : K.getD j (0, []) = K[j] := by simp [List.getD, hjk]
                rw [e]; exact hkeys.out _ (List.getElem_mem hjk)
              have hsq := hbel.size
              have HBel := Lib.hid hbel
              clear q1 hbel
              generalize K.getD j (0, []) = ky at *
              obtain ⟨kn, kt⟩ := ky
              obtain ⟨k27, kr, ke⟩ := hok
              simp only at q10 q11 k27 kr ke
              have d0 : decide ((kn : Int) < 0) = false := decide_eq_false (by omega)
              have d27 : decide (27 < (kn : Int)) = false := decide_eq_false (by omega)
              have d27' : decide ((kn : Int) > 27) = false := decide_eq_false (by omega)
              have hbx := Bx.new wr 44 (.int .i64 (kn : Int)) (.string (bs kt))
              have b0 := hbx.c0
              have b1 := hbx.c1
              have Hbx := Lib.hid hbx
              clear hbx
              by_cases h1 : kn = 1
              · have i1' : ((kn : Int) == 1) = true := by rw [h1]; rfl
                have i2' : ((kn : Int) != 1) = false := by rw [h1]; rfl
                have hlen := kr h1
                obtain ⟨cr, w9, hrun, _, hbq⟩ := conv_runes kt (by omega) (wr.alloc (.cells #[.int .i64 (kn : Int), .string (bs kt)] 44))
                rw [hlen, World.size_alloc] at hrun
                have hb9 := Hbx.out.below hbq
                have z0 := hb9.c0
                have z1 := hb9.c1
                have HB2 := Lib.hid ((HBel.out.alloc hsq _).trans (hbq.mono (by rw [World.size_alloc]; omega)))
                clear h1 hlen kr ke hbq HBel hb9 Hbx
                go_wp2
                go_roundw
                case rel => exact ⟨j + 1, by omega, by go_num, HB2.out⟩
                case measure => simp [intOf]; omega
              · have i1' : ((kn : Int) == 1) = false := beq_eq_false_iff_ne.2 (by omega)
                have i2' : ((kn : Int) != 1) = true := bne_iff_ne.2 (by omega)
                by_cases h26 : kn = 26
                · have i3' : ((kn : Int) != 26) = false := by rw [h26]; rfl
                  clear h1 h26 kr ke
                  go_wp2
                  go_roundw
                  case rel => exact ⟨j + 1, by omega, by go_num, HBel.out.alloc hsq _⟩
                  case measure => simp [intOf]; omega
                · have i3' : ((kn : Int) != 26) = true := bne_iff_ne.2 (by omega)
                  obtain rfl := ke h1 h26
                  clear h1 h26 kr ke
                  go_wp2
                  go_roundw
                  case rel => exact ⟨j + 1, by omega, by go_num, HBel.out.alloc hsq _⟩
                  case measure => simp [intOf]; omega
            · obtain rfl : j = K.length := by omega
              have HZ := Lib.hid (HD4.out.below hbel)
              clear HD4 Rk hbel
              go_wp2
              go_roundw
              case rel => exact ⟨k + 1, x.2, by omega, by go_num, HZ.out⟩
              case measure => simp [intOf]; omega
      · have HA := Lib.hid (kalive_calls wr hA.lays)
        have HB := Lib.hid hA.bel
        clear hA
        go_wp2_with fail
        refine HA.out.mono ?_
        rintro e w6 ⟨rfl, h6⟩
        go_wp2
        go_ret
        exact ⟨rfl, HB.out.trans (h6.mono HB.out.size)⟩
  · have HF' : Hid (Calls Tryd.prog 11 #[.slice A es.length c] w fun e w' => e = .returned (.bool false) ∧ Below w.heap.size w w') := Lib.hid (by have := HF.out; rwa [decide_eq_false hfew] at this)
    have HL := Lib.hid hL
    clear hR hL HF hfew
    go_enter Tryd.func7, Tryd.ntmps7
    go_wp2_with fail
    refine HF'.out.mono ?_
    rintro e w0 ⟨rfl, hb0⟩
    go_wp2_with fail
    refine (kalive_calls w0 (HL.out.below hb0)).mono ?_
    rintro e w1 ⟨rfl, hb1⟩
    go_wp2
    go_ret
    exact ⟨rfl, hb0.trans (hb1.mono hb0.size)⟩
end Go.Proofs.YtbkejjpkijjfaaaDoor
