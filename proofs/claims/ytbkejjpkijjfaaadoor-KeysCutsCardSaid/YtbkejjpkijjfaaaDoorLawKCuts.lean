/-
  The walk of KeysCuts.
-/
import Derived.Test.YtbkejjpkijjfaaaDoorKAlive
import Derived.Deep.QuietTactic
import Derived.BigQuiet
namespace Go.Proofs.YtbkejjpkijjfaaaDoor
open Go Go.RowKit
set_option maxRecDepth 100000

/-- A slice of ints that reads as zs. -/
def RdI (w : World) (A : Option Addr) (zs : List Int) : Prop := 0 < zs.length → ∃ g o, A = some ⟨g, o, none⟩ ∧ g < w.heap.size ∧ ∀ i, i < zs.length → w.cell? ⟨g, o + i, none⟩ = some (.int .i64 (zs.getD i 0))
theorem RdI.below {w w' : World} {A : Option Addr} {zs : List Int} (h : RdI w A zs) (hb : Below w.heap.size w w') : RdI w' A zs := fun hn => by
  obtain ⟨g, o, e, hg, hc⟩ := h hn
  exact ⟨g, o, e, Nat.lt_of_lt_of_le hg hb.size, fun i hi => by rw [hb.cell (p := ⟨g, o + i, none⟩) hg]; exact hc i hi⟩
theorem At4.next {w W : World} (hb : Below w.heap.size w W) (hL : Lays w) : At4 w W.heap.size Dec.zero (W.alloc (.cells #[.string ⟨#[]⟩, .string ⟨#[]⟩, .int .i64 0, .bool false] 26)) :=
  ⟨heap_alloc_new W _, Dec.ok_zero, hb.alloc hb.size _, hb.size, hL⟩
theorem RdK.kept {w w' : World} {A : Option Addr} {ks : List KV} {g : Nat} (h : RdK w A ks) (hg : w.grownBy w' (some g)) (hne : ∀ ad, A = some ad → ad.block ≠ g) : RdK w' A ks := fun hn => by
  obtain ⟨b, e, hb, hc⟩ := h hn
  refine ⟨b, e, Nat.lt_of_lt_of_le hb hg.size, fun i hi => ?_⟩
  have key : w'.heap[b]? = w.heap[b]? := hg.block b hb (fun e2 => hne _ e (by injection e2))
  rw [World.cell?_of_block (a := ⟨b, i * 2, none⟩) key, World.cell?_of_block (a := ⟨b, i * 2 + 1, none⟩) key]
  exact hc i hi

theorem At4.row {w W W' : World} {g : Nat} {d : Dec} {row : Option Nat} (h : At4 w g d W) (hg : W.grownBy W' row) (hr : ∀ k, row = some k → w.heap.size ≤ k ∧ k ≠ g) : At4 w g d W' :=
  ⟨h.1.keep (hg.block g h.lt (fun e => (hr g e.symm).2 rfl)), h.2.1, h.2.2.1.grown hg h.2.2.1.size (fun k hk => (hr k hk).1), h.2.2.2⟩
theorem grown_row {a b c : World} {r row : Option Nat} (h : a.grownBy b r) (k : b.grownBy c row) (hr : ∀ i, row = some i → a.heap.size ≤ i) : a.grownBy c r :=
  ⟨k.os.trans h.os, k.tape.trans h.tape, k.output.trans h.output, Nat.le_trans h.size k.size, fun i hi hn => (k.block i (Nat.lt_of_lt_of_le hi h.size) (fun e => by have := hr i e.symm; omega)).trans (h.block i hi hn)⟩
/-- What stands at a round's head: f bytes have come in parts. -/
def CutsAt (w w1 : World) (b : List UInt8) (zs : List Int) (v8 v9 v26 : Value) (wr : World) (j f : Nat) (r : List KV × Dec) : Prop :=
  j ≤ zs.length ∧ f ≤ b.length ∧ v26 = .int .i64 (j : Int) ∧ v9 = .int .i64 (f : Int) ∧ feedD Dec.zero (b.take f) = r ∧ wr.ownsRow w1.heap.size 44 2 v8 r.1.length (cellsK r.1) ∧
    At4 w (w.heap.size + 1) r.2 wr ∧ w1.grownBy wr (some (w.heap.size + 1))
theorem cuts_step {b : List UInt8} {f k : Nat} {r : List KV × Dec} (hf : feedD Dec.zero (b.take f) = r) (hfk : f ≤ k) : feedD Dec.zero (b.take k) = (r.1 ++ (feedD r.2 ((b.drop f).take (k - f))).1, (feedD r.2 ((b.drop f).take (k - f))).2) := by
  have e : b.take k = b.take f ++ (b.drop f).take (k - f) := by
    rw [← List.take_add, Nat.add_sub_cancel' hfk]
  rw [e, feedD_append, hf]

theorem cuts_end {b : List UInt8} {f : Nat} {r : List KV × Dec} (hf : feedD Dec.zero (b.take f) = r) (hl : f ≤ b.length) : feedD Dec.zero b = (r.1 ++ (feedD r.2 (b.drop f)).1, (feedD r.2 (b.drop f)).2) := by
  have h := cuts_step hf hl
  rw [List.take_length] at h
  rwa [List.take_of_length_le (l := b.drop f) (by simp)] at h

set_option maxHeartbeats 8000000 in
theorem kcuts_calls (A A2 : Option Addr) (c c2 : Nat) (b : List UInt8) (zs : List Int) (w : World) (hb : Byt w A b) (hR : RdI w A2 zs) (hlc : b.length ≤ c) (hm : c ≤ maxLen) (hL : Lays w) (hn : b.length ≤ 9223372036854775807) (hz : zs.length ≤ 9223372036854775807) :
    Calls Tryd.prog 4 #[.slice A b.length c, .slice A2 zs.length c2] w fun e w' => e = .returned (.bool true) ∧ Below w.heap.size w w' := by
  by_cases hbig : 1500 < b.length
  · have hcon := Lib.hid (kalive_calls w hL)
    clear hb hL hR hlc hm
    generalize b.length = n at *
    generalize zs.length = m at *
    go_enter Tryd.func4, Tryd.ntmps4
    go_wp2_with fail
    refine hcon.out.mono ?_
    rintro e w' ⟨rfl, h⟩
    go_wp2
    go_ret
    exact ⟨rfl, h⟩
  by_cases hbig2 : 50 < zs.length
  · have hcon := Lib.hid (kalive_calls w hL)
    clear hb hL hR hlc hm
    generalize b.length = n at *
    generalize zs.length = m at *
    go_enter Tryd.func4, Tryd.ntmps4
    go_wp2_with fail
    refine hcon.out.mono ?_
    rintro e w' ⟨rfl, h⟩
    go_wp2
    go_ret
    exact ⟨rfl, h⟩
  obtain ⟨i1, hi1, hy0, hy1, hy2⟩ := info_parts infoK
  have a0 := At4.new w hL
  have n0 := At4.next a0.bel hL
  rw [World.size_alloc] at n0
  have a00 := a0.alloc (.cells #[.string ⟨#[]⟩, .string ⟨#[]⟩, .int .i64 0, .bool false] 26)
  have F1 := Lib.hid (a00.feedArg c hb (by omega))
  have N0 := Lib.hid n0
  have hcnt := feed_count b _ Dec.ok_zero
  have Hb := Lib.hid hb
  have HR := Lib.hid hR
  have hmm : c ≤ 9223372036854775807 := by unfold maxLen at hm; omega
  obtain ⟨R, hRR⟩ : ∃ R, R = feedD Dec.zero b := ⟨_, rfl⟩
  rw [← hRR] at F1 hcnt
  have HRR := Lib.hid hRR
  clear hb a0 n0 a00 hR hm hRR hL
  go_enter Tryd.func4, Tryd.ntmps4
  go_wp2_with fail
  refine F1.out.mono ?_
  intro e w1 hS
  obtain ⟨A1, c1, rfl, o1, a1, g1⟩ := hS.at2
  obtain ⟨r1, _, _, _⟩ := rdK_of_own o1
  have hA1 : ∀ ad, A1 = some ad → ad.block ≠ w.heap.size + 1 := fun ad e => by
    have := (o1.lt ad.block (by rw [e]; rfl)).1
    simp at this
    omega
  have HA1 := Lib.hid hA1
  have HR1 := Lib.hid r1
  have Aw1 := Lib.hid a1
  have Nw1 := Lib.hid (N0.out.other g1 (by omega) (Nat.le_refl _))
  have hw1 : w.heap.size + 1 < w1.heap.size := Nw1.out.lt
  clear hS o1 a1 g1 F1 N0 hA1 r1
  go_wp2_with fail
  go_loopw [8, 9, 26] (fun v8 v9 v26 wr => ∃ j f r, CutsAt w w1 b zs v8 v9 v26 wr j f r) (fun _ _ v26 _ => zs.length - (intOf v26).toNat)
  case atStart => exact ⟨0, 0, ([], Dec.zero), by omega, by omega, rfl, rfl, rfl, World.ownsRow_nil _ _ _ _, Nw1.out, World.grownBy.refl _ _⟩
  case round =>
    obtain ⟨j, f, r, hj, hf, rfl, rfl, hfr, hown, hN, hg⟩ := hrel
    have hcr : r.1.length ≤ 20 * f := by
      have := feed_count (b.take f) _ Dec.ok_zero
      rw [hfr, List.length_take] at this
      omega
    have Hown := Lib.hid hown
    have HN := Lib.hid hN
    have HG := Lib.hid hg
    have Hfr := Lib.hid hfr
    have hgs := hg.size
    clear hown hN hg hfr Nw1
    by_cases hlt : j < zs.length
    · obtain ⟨gz, oz, rfl, hgz, hcz⟩ := HR.out (by omega)
      have cz : wr.cell? ⟨gz, oz + j, none⟩ = some (.int .i64 (zs.getD j 0)) := by rw [HN.out.bel.cell (p := ⟨gz, oz + j, none⟩) hgz]; exact hcz j hlt
      clear hcz
      generalize zs.getD j 0 = z at *
      by_cases hc : (f : Int) < z ∧ z ≤ (b.length : Int)
      · obtain ⟨k, rfl⟩ : ∃ k : Nat, z = (k : Int) := ⟨z.toNat, by omega⟩
        have hfk : f < k := by omega
        have hkl : k ≤ b.length := by omega
        have d1 : decide (f < k) = true := decide_eq_true hfk
        have d1' : decide ((f : Int) < (k : Int)) = true := decide_eq_true (by omega)
        have d2 : decide (k ≤ b.length) = true := decide_eq_true hkl
        have d2' : decide ((k : Int) ≤ (b.length : Int)) = true := decide_eq_true (by omega)
        obtain ⟨gb, ob, rfl, hgb, _⟩ := Hb.out.at_ (by omega)
        have hda : dropA (some ⟨gb, ob, none⟩) c f = some ⟨gb, ob + f, none⟩ := by unfold dropA; rw [if_neg (by omega)]; simp [Addr.add]
        have hsl := run_mid (some ⟨gb, ob, none⟩) b.length c f k (by omega) (by omega)
        have hby := (((Hb.out.below HN.out.bel).drop c f hlc).take (k - f))
        rw [hda] at hsl hby
        have hlen : ((b.drop f).take (k - f)).length = k - f := by rw [List.length_take, List.length_drop]; omega
        have f2 := HN.out.feed _ (c - f) _ hby (fun _ ad e => by injection e with e; rw [← e]; simp only; omega) (by omega)
        rw [hlen] at f2
        have Hst := Lib.hid (cuts_step Hfr.out (k := k) (by omega))
        have hxc := feed_count ((b.drop f).take (k - f)) r.2 HN.out.2.1
        rw [hlen] at hxc
        generalize feedD r.2 ((b.drop f).take (k - f)) = x at *
        have F2 := Lib.hid f2
        clear hc hda hby hlen f2 Hfr
        go_wp2_with fail
        refine F2.out.mono ?_
        intro e w2 hS
        obtain ⟨A2x, c2x, rfl, o2, a2, g2⟩ := hS.at2
        have hown1 : w2.ownsRow w1.heap.size 44 2 u8 r.1.length (cellsK r.1) := own_kept (w := wr) Hown.out g2 (fun gg hgg e => by injection e with e; have := (Hown.out.lt gg hgg).1; omega)
        have hz2 := g2.size
        obtain ⟨v3, w3, hrun, hown3, hg3⟩ := run_append_K (P := Tryd.prog) w2 w1.heap.size wr.heap.size 36 36 i1 Tryd.underlying36 hi1 hy0 hy1 hy2 u8 (.slice A2x x.1.length c2x) r.1 x.1 hown1 o2 (by omega) (by omega)
        have hrow : ∀ i, u8.ownBlock = some i → w1.heap.size ≤ i := fun i hi => (hown1.lt i hi).1
        have HN3 := Lib.hid (a2.row hg3 (fun k hk => by have := hrow k hk; omega))
        have HG3 := Lib.hid (grown_row (grown_trans HG.out g2) hg3 hrow)
        have Hrun := Lib.hid hrun
        have Hown3 := Lib.hid hown3
        clear hS o2 a2 g2 hown1 hrun hown3 hg3 F2 hrow Hown HN HG
        go_wp2_with (at_builtin; refine wpList_append_g (by rfl) _ _ 36 rfl _ _ rfl rfl Hrun.out ?_)
        go_roundw
        case rel => exact ⟨j + 1, k, (r.1 ++ x.1, x.2), by omega, by omega, by go_num, rfl, Hst.out, Hown3.out, HN3.out, HG3.out⟩
        case measure => simp [intOf]; omega
      · by_cases hfz : (f : Int) < z
        · have d2 : decide (z ≤ (b.length : Int)) = false := decide_eq_false (fun h => hc ⟨hfz, h⟩)
          have d1 : decide ((f : Int) < z) = true := decide_eq_true hfz
          clear hc hfz
          go_wp2
          go_roundw
          case rel => exact ⟨j + 1, f, r, by omega, by omega, by go_num, rfl, Hfr.out, Hown.out, HN.out, HG.out⟩
          case measure => simp [intOf]; omega
        · have d1 : decide ((f : Int) < z) = false := decide_eq_false hfz
          clear hc hfz
          go_wp2
          go_roundw
          case rel => exact ⟨j + 1, f, r, by omega, by omega, by go_num, rfl, Hfr.out, Hown.out, HN.out, HG.out⟩
          case measure => simp [intOf]; omega
    · obtain rfl : j = zs.length := by omega
      have hsl := run_cut A c b f hf
      have hby := (Hb.out.below HN.out.bel).drop c f hlc
      have hoff := (Hb.out.drop c f hlc).off
      have f2 := HN.out.feed _ (c - f) _ hby (fun hp ad e => by have := hoff hp ad e; omega) (by rw [List.length_drop]; omega)
      have he := cuts_end Hfr.out hf
      rw [← HRR.out] at he
      have hxc := feed_count (b.drop f) r.2 HN.out.2.1
      rw [List.length_drop] at hxc f2
      simp only [List.length_drop] at hsl
      generalize feedD r.2 (b.drop f) = x at *
      have F2 := Lib.hid f2
      have He := Lib.hid he
      clear hby hoff f2 Hfr he HRR
      go_wp2_with fail
      refine F2.out.mono ?_
      intro e w2 hS
      obtain ⟨A2x, c2x, rfl, o2, a2, g2⟩ := hS.at2
      have hown1 : w2.ownsRow w1.heap.size 44 2 u8 r.1.length (cellsK r.1) := own_kept (w := wr) Hown.out g2 (fun gg hgg e => by injection e with e; have := (Hown.out.lt gg hgg).1; omega)
      have hz2 := g2.size
      obtain ⟨v3, w3, hrun, hown3, hg3⟩ := run_append_K (P := Tryd.prog) w2 w1.heap.size wr.heap.size 36 36 i1 Tryd.underlying36 hi1 hy0 hy1 hy2 u8 (.slice A2x x.1.length c2x) r.1 x.1 hown1 o2 (by omega) (by omega)
      have hrow : ∀ i, u8.ownBlock = some i → w1.heap.size ≤ i := fun i hi => (hown1.lt i hi).1
      have HN3 := Lib.hid (a2.row hg3 (fun k hk => by have := hrow k hk; omega))
      have HG3 := Lib.hid (grown_row (grown_trans HG.out g2) hg3 hrow)
      have Hrun := Lib.hid hrun
      have Hown3 := Lib.hid hown3
      clear hS o2 a2 g2 hown1 hrun hown3 hg3 F2 hrow Hown HN HG
      go_wp2_with (at_builtin; refine wpList_append_g (by rfl) _ _ 36 rfl _ _ rfl rfl Hrun.out ?_)
      have Aw3 := Lib.hid (Aw1.out.other HG3.out (by omega) (by omega))
      have rw3 := HR1.out.kept HG3.out HA1.out
      obtain ⟨A3x, c3x, rfl⟩ := own_form Hown3.out
      obtain ⟨rp3, _, _, _⟩ := rdK_of_own Hown3.out
      have hw := waits_calls4 _ _ _ Aw3.out.1
      have hv := waits_calls4 _ _ _ HN3.out.1
      have e1 : R.1 = r.1 ++ x.1 := by rw [He.out]
      have e2 : R.2 = x.2 := by rw [He.out]
      rw [← e1] at rp3 ⊢
      rw [← e2] at hv
      have Rw3 := Lib.hid rw3
      have Rp3 := Lib.hid rp3
      clear rw3 rp3 e1 e2 Hown3 HG3 HN3 He Aw1 HR1 HA1 Hb HR hsl
      generalize R.1 = K at *
      have hKl : K.length ≤ 9223372036854775807 := by omega
      go_wp2_with fail
      refine hw.mono ?_
      rintro e w4 ⟨rfl, rfl⟩
      go_wp2_with fail
      refine hv.mono ?_
      rintro e w5 ⟨rfl, rfl⟩
      clear hw hv
      go_wp2_with fail
      go_loopw [66] (fun v66 wr => ∃ (k q : Nat), k ≤ K.length ∧ v66 = .int .i64 (k : Int) ∧ wr = w3.drewN q) (fun v66 _ => K.length - (intOf v66).toNat)
      case atStart => exact ⟨0, 0, by omega, rfl, rfl⟩
      case round =>
        obtain ⟨k, q, hk, rfl, rfl⟩ := hrel
        by_cases hlk : k < K.length
        · obtain ⟨p1, rfl, hp1, q1⟩ := Rw3.out.at_ (by omega)
          obtain ⟨p2, rfl, hp2, q2⟩ := Rp3.out.at_ (by omega)
          obtain ⟨q10, q11⟩ := q1 k hlk
          obtain ⟨q20, q21⟩ := q2 k hlk
          clear q1 q2 hp1 hp2
          generalize K.getD k (0, []) = ky at *
          go_wp2_with fail
          go_quiet (fail)
          go_wp2
          go_roundw
          case rel => exact ⟨k + 1, q + nq, by omega, by go_num, rfl⟩
          case measure => simp [intOf]; omega
        · obtain rfl : k = K.length := by omega
          have hA := kalive_calls (w3.drewN q) (Aw3.out.drewN q).lays
          have HB := Lib.hid (Aw3.out.drewN q).bel
          clear Aw3 Rw3 Rp3
          go_wp2_with fail
          refine hA.mono ?_
          rintro e w6 ⟨rfl, h6⟩
          go_wp2
          go_ret
          exact ⟨rfl, HB.out.trans (h6.mono HB.out.size)⟩
end Go.Proofs.YtbkejjpkijjfaaaDoor
