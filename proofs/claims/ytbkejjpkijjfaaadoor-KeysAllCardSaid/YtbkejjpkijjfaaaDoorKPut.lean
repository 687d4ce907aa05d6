/-
  A decoder's Put: what the call comes to, in any memory in which the tables lie.
-/
import Derived.Test.YtbkejjpkijjfaaaDoorKFirst
import Derived.Test.YtbkejjpkijjfaaaDoorKPaste
import Derived.Lib.ConvBytes
import Derived.ArgAppend
import Derived.Deep.Upon
namespace Go.Proofs.YtbkejjpkijjfaaaDoor
open Go Go.RowKit
set_option maxRecDepth 100000

/-- A block that holds no table. -/
def Far (g : Nat) : Prop := g ≠ 0 ∧ g ≠ 2 ∧ g ≠ 3
theorem Lays.far {w : World} (h : Lays w) {g : Nat} (hg : w.heap.size ≤ g) : Far g := by
  have h1 := World.block_lt_of_cell? _ _ (h.2 0 (by decide))
  have h2 := World.block_lt_of_cell? _ _ (h.1.1 0 (by decide))
  have h3 := World.block_lt_of_cell? _ _ (h.1.2 0 (by decide)).1
  simp only at h1 h2 h3
  exact ⟨by omega, by omega, by omega⟩
theorem Lays.grown {w w' : World} {g : Nat} (h : Lays w) (hf : Far g) (hg : w.grownBy w' (some g)) : Lays w' := by
  have key : ∀ (b o : Nat) (v : Value), g ≠ b → w.cell? ⟨b, o, none⟩ = some v → w'.cell? ⟨b, o, none⟩ = some v := fun b o v hne hc => by
    rw [World.cell?_of_block (hg.block b (World.block_lt_of_cell? _ _ hc) (fun e => hne (by injection e with e; exact e.symm)))]; exact hc
  exact ⟨⟨fun c hc => key _ _ _ hf.2.1 (h.1.1 c hc), fun i hi => ⟨key _ _ _ hf.2.2 (h.1.2 i hi).1, key _ _ _ hf.2.2 (h.1.2 i hi).2⟩⟩, fun x hx => key _ _ _ hf.1 (h.2 x hx)⟩
theorem infoK : (Tryd.prog.info? 44).map (fun i => (i.zero, i.size, i.bytes)) = some (some (.agg #[.int .i64 0, .string ⟨#[]⟩]), 2, 24) := by kernel_rfl

theorem key_cells (W : World) (k : KV) (b : Nat) (hb : b = W.heap.size) : ∀ (j : Nat) (u : Value), (cellsK [k])[j]? = some u → (W.alloc (.cells #[.int .i64 (k.1 : Int), .string (bs k.2)] 44)).cell? ((⟨b, 0, none⟩ : Addr).add j) = some u := by
  intro j u hj
  subst hb
  match j, hj with
  | 0, hj => simp [cellsK] at hj; subst hj; simp [Addr.add]
  | 1, hj => simp [cellsK] at hj; subst hj; simp [Addr.add]
  | j + 2, hj => simp [cellsK] at hj
theorem cellsK_one (ks : List KV) : ∀ u ∈ cellsK ks, u.oneCell' = true := by
  intro u hu
  obtain ⟨k, _, hu⟩ := List.mem_flatMap.1 hu
  simp only [List.mem_cons, List.not_mem_nil, or_false] at hu
  rcases hu with rfl | rfl <;> rfl

/-- What stands at a round's head of Put: l waits, acc was told. -/
def PutAt4 (w2 : World) (l0 : List UInt8) (v5 v6 : Value) (wr : World) (A : Option Addr) (c : Nat) (l : List UInt8) (acc : List KV) : Prop :=
  v5 = .slice A l.length c ∧ l.length ≤ c ∧ c ≤ maxLen ∧ Byt w2 A l ∧ wr.ownsRow w2.heap.size 44 2 v6 acc.length (cellsK acc) ∧ Below w2.heap.size w2 wr ∧ acc.length + l.length ≤ l0.length ∧ (acc ++ (keysL l).1, (keysL l).2) = keysL l0

set_option maxHeartbeats 4000000 in
theorem put_calls4 (g : Nat) (d : Dec) (x : UInt8) (w : World) (h : DecAt w g d) (hok : d.Ok) (ht : Lays w) (hfar : Far g) :
    Calls Tryd.prog 17 #[.pointer (some ⟨g, 0, none⟩), .int .u8 (x.toNat : Int)] w (Told4 w g (putD d x)) := by
  have c3 := h.c3
  have f3 := h.free 3
  have hs : DecAt (w.setCell ⟨g, 3, none⟩ (.bool false)) g ⟨d.w, d.p, d.e, false⟩ := h.set_ 3 _ (d' := ⟨d.w, d.p, d.e, false⟩) rfl
  have hgs := grown_cell w g 3 (.bool false)
  have HP := Lib.hid (pasting_calls g _ _ hs)
  have hlt := h.lt
  by_cases hw : d.w = pasteB
  · have HPP := Lib.hid (putP_calls g _ x _ hs hok rfl)
    have hr : putD d x = putP ⟨d.w, d.p, d.e, false⟩ x := by unfold putD; rw [if_pos hw]; rfl
    rw [hr]
    have HP' : Hid (Calls Tryd.prog 19 #[.pointer (some ⟨g, 0, none⟩)] (w.setCell ⟨g, 3, none⟩ (.bool false)) fun e w' => e = .returned (.bool true) ∧ w.setCell ⟨g, 3, none⟩ (.bool false) = w') := Lib.hid (by have := HP.out; rwa [decide_eq_true hw] at this)
    have Hgs := Lib.hid hgs
    clear h hs hgs HP hr hw hok
    generalize putP ⟨d.w, d.p, d.e, false⟩ x = r at *
    generalize x.toNat = z at *
    go_enter Tryd.func17, Tryd.ntmps17
    go_wp2_with fail
    refine HP'.out.mono ?_
    rintro e w1 ⟨rfl, rfl⟩
    go_wp2_with fail
    refine HPP.out.mono ?_
    rintro e w2 ⟨v, rfl, hown, hD, hG⟩
    have Hown := Lib.hid hown
    have HD := Lib.hid hD
    have HG := Lib.hid hG
    clear hown hD hG
    go_wp2
    go_ret
    exact ⟨_, rfl, own_less Hown.out (by simp [World.setCell]), HD.out, grown_trans Hgs.out HG.out⟩
  · have hr : putD d x = ((keysL (d.w ++ [x])).1, ⟨(keysL (d.w ++ [x])).2.take 19, d.p, d.e, false⟩) := by unfold putD; rw [if_neg hw]
    rw [hr]
    have HP' : Hid (Calls Tryd.prog 19 #[.pointer (some ⟨g, 0, none⟩)] (w.setCell ⟨g, 3, none⟩ (.bool false)) fun e w' => e = .returned (.bool false) ∧ w.setCell ⟨g, 3, none⟩ (.bool false) = w') := Lib.hid (by have := HP.out; rwa [decide_eq_false hw] at this)
    obtain ⟨i0, hi, hz0, hz1, hz2⟩ := info_parts info8
    have hlw : d.w.length ≤ 19 := hok.1
    have hd0 := hs.c0
    have Hgs := Lib.hid hgs
    have HS := Lib.hid hs
    have hws : (w.setCell ⟨g, 3, none⟩ (.bool false)).heap.size = w.heap.size := by simp [World.setCell]
    have hcv := Lib.run_convert_string_bytes (P := Tryd.prog) (w.setCell ⟨g, 3, none⟩ (.bool false)) 9 27 5 (bs d.w) Tryd.underlying9 Tryd.underlying27 Tryd.underlying5
    have hz := Lib.bytesWorld_size (w.setCell ⟨g, 3, none⟩ (.bool false)) 5 (bs d.w)
    have hby := byt_bytes (w.setCell ⟨g, 3, none⟩ (.bool false)) d.w
    have hn := Lib.bytesWorld_at_new (w.setCell ⟨g, 3, none⟩ (.bool false)) 5 (bs d.w)
    have hbb := below_bytes (w.setCell ⟨g, 3, none⟩ (.bool false)) 5 (bs d.w)
    rw [hws] at hz hby hn hbb
    have hcap := grownCap_ge (w.setCell ⟨g, 3, none⟩ (.bool false)) d.w.length 0 5
    have hcap2 := grownCap_le_maxLen (w.setCell ⟨g, 3, none⟩ (.bool false)) d.w.length 0 5 (by unfold maxLen; omega)
    have hcsz : (Lib.bytesCells (w.setCell ⟨g, 3, none⟩ (.bool false)) 5 (bs d.w)).size = grownCap (w.setCell ⟨g, 3, none⟩ (.bool false)) d.w.length 0 5 := by
      simp [Lib.bytesCells, ByteArray.size]; omega
    have Hws := Lib.hid hws
    have Hz := Lib.hid hz
    have Hby := Lib.hid hby
    have Hn := Lib.hid hn
    have Hbb := Lib.hid hbb
    have Hcap := Lib.hid hcap
    have Hcap2 := Lib.hid hcap2
    have Hcsz := Lib.hid hcsz
    have hl0 : (d.w ++ [x]).length = d.w.length + 1 := by simp
    have Hl0 := Lib.hid hl0
    have Hlays : Hid (Lays (w.setCell ⟨g, 3, none⟩ (.bool false))) := Lib.hid (ht.grown hfar hgs)
    clear h hs hgs HP hr hw hok hz hws hby hn hbb hcap hcap2 hcsz hl0 ht hfar
    go_enter Tryd.func17, Tryd.ntmps17
    go_wp2_with fail
    refine HP'.out.mono ?_
    rintro e w1 ⟨rfl, rfl⟩
    go_wp2_with (at_builtin; refine wpList_append_byte _ rfl _ _ 27 rfl i0 Tryd.underlying27 hi hz0 hz1 hz2 w.heap.size (grownCap (w.setCell ⟨g, 3, none⟩ (.bool false)) d.w.length 0 5) d.w rfl (Hby.out.alloc _) Hcap2.out (Lib.bytesWorld (w.setCell ⟨g, 3, none⟩ (.bool false)) 5 (bs d.w)).heap.size x rfl ?c1 ?c2 (by omega) ?_)
    case c1 => simp
    case c2 =>
      intro hr
      have hn2 : ((Lib.bytesWorld (w.setCell ⟨g, 3, none⟩ (.bool false)) 5 (bs d.w)).alloc (.cells #[.int .u8 (x.toNat : Int)] 5)).heap[w.heap.size]? = some (.cells (Lib.bytesCells (w.setCell ⟨g, 3, none⟩ (.bool false)) 5 (bs d.w)) 5 ((Lib.bytesCells (w.setCell ⟨g, 3, none⟩ (.bool false)) 5 (bs d.w)).size, (Lib.bytesCells (w.setCell ⟨g, 3, none⟩ (.bool false)) 5 (bs d.w)).size + 1)) := by
        rw [Below.heap_alloc _ _ _ (by rw [Hz.out]; omega)]; exact Hn.out
      constructor
      · simp only [World.cell?, hn2]
        simp [Hcsz.out]; omega
      · simp only [World.frozen?, hn2]
        simp [Hcsz.out]; omega
    intro A c w2 hB hlc hcm hgr
    have hb2 : Below w.heap.size (w.setCell ⟨g, 3, none⟩ (.bool false)) w2 := by
      have h1 := Hbb.out.alloc (by rw [Hz.out]; omega) (.cells #[.int .u8 (x.toNat : Int)] 5)
      exact h1.grown hgr (by simp [Hz.out]; omega) (fun k hk => by injection hk with hk; omega)
    have hw2 : w.heap.size < w2.heap.size := by
      have := hgr.size
      simp [Hz.out] at this
      omega
    have hL2 : Lays w2 := Hlays.out.below (by rw [Hws.out]; exact hb2)
    have hD2 : DecAt w2 g ⟨d.w, d.p, d.e, false⟩ := HS.out.below hb2 hlt
    have hg2 : w.grownBy w2 (some g) := grown_trans Hgs.out (grown_below (r := some g) (by rw [Hws.out]; exact hb2))
    have HD2 := Lib.hid hD2
    have HG2 := Lib.hid hg2
    rw [← Hl0.out] at hlc ⊢
    have hl1 : (d.w ++ [x]).length ≤ 20 := by rw [Hl0.out]; omega
    clear c3 f3 hgr hcv hb2 hD2 hg2 HP' HS Hz Hby Hn Hbb Hcap Hcap2 Hcsz Hl0 hd0 Hlays Hws Hgs
    generalize d.w ++ [x] = l0 at *
    clear hi hz0 hz1 hz2
    obtain ⟨i1, hi1, hy0, hy1, hy2⟩ := info_parts infoK
    go_wp2_with fail
    go_loopw [5, 6] (fun v5 v6 wr => ∃ A c l acc, PutAt4 w2 l0 v5 v6 wr A c l acc) (fun v5 _ _ => match v5 with | .slice _ n _ => n | _ => 0)
    case atStart => exact ⟨A, c, l0, [], rfl, hlc, hcm, hB, World.ownsRow_nil _ _ _ _, Below.refl _ _, by simp, by simp⟩
    case round =>
      clear hB hlc hcm
      obtain ⟨A, c, l, acc, rfl, hlc, hcm, hB, hown, hbel, hlen, hkeys⟩ := hrel
      have Hkeys := Lib.hid hkeys
      have Hown := Lib.hid hown
      clear hkeys hown
      by_cases hl : l = []
      · have hk0 : keysL l0 = (acc, l) := by rw [← Hkeys.out, hl]; simp [keysL_nil]
        have Hk0 := Lib.hid hk0
        have hnp : ¬ 0 < l.length := by rw [hl]; simp
        clear hk0 hl
        have hcvf : (convert 27 9 (.slice (dropA A c 0) (min l.length 19) c)).run Tryd.prog wr = .ok (.string (bs (l.take 19))) wr := by
          have hq := (((hB.below hbel).drop c 0 hlc).take (min l.length 19)).convert (P := Tryd.prog) c 27 5 9 Tryd.underlying27 Tryd.underlying5 Tryd.underlying9 (min l.length 19) (by rw [List.drop_zero, List.length_take]; omega)
          rw [List.drop_zero, show l.take (min l.length 19) = l.take 19 by
            rw [Nat.min_comm, ← List.take_take, List.take_length]] at hq
          exact hq
        have hup := run_upto A l.length c (min l.length 19) (by omega)
        rw [show ((min l.length 19 : Nat) : Int) = min (l.length : Int) 19 by omega] at hup
        have hDf : DecAt wr g ⟨d.w, d.p, d.e, false⟩ := HD2.out.below hbel (by omega)
        have q0 := hDf.c0
        have p0 := hDf.free 0
        have HDf := Lib.hid hDf
        have hGf : w.grownBy wr (some g) := grown_trans HG2.out (grown_below hbel)
        have HGf := Lib.hid hGf
        have hOf : wr.ownsRow w.heap.size 44 2 u6 acc.length (cellsK acc) := own_less (base := w2.heap.size) Hown.out (by omega)
        have HOf := Lib.hid hOf
        clear hDf hGf hOf hB
        generalize hlt2 : l.take 19 = lt at *
        have Hlt := Lib.hid hlt2
        clear hlt2
        generalize l.length = m at *
        clear hbel Hown Hkeys
        go_wp2
        go_ret
        rw [Hk0.out]
        simp only [Hlt.out]
        refine ⟨_, rfl, ?_, ?_, grown_trans HGf.out (grown_cell _ _ _ _)⟩
        · exact own_setCell HOf.out (by omega) _
        · exact HDf.out.set_ 0 _ (d' := ⟨_, d.p, d.e, false⟩) rfl
      · have h1 : 1 ≤ l.length := List.length_pos_iff.2 hl
        have hcon := first_calls4 A c l wr (hB.below hbel) h1 (by omega) hlc hcm (hL2.below hbel)
        have Hcon := Lib.hid hcon
        have hone := one_le l hl
        by_cases h0 : (oneL l).2 = 0
        · have hk0 : keysL l0 = (acc, l) := by rw [← Hkeys.out, keysL_stop l h0]; simp
          have Hk0 := Lib.hid hk0
          rw [h0, show ((0 : Nat) : Int) = 0 from rfl] at Hcon
          clear hcon hl h0 hk0 hone
          generalize (oneL l).1 = ky at *
          unfold kv at Hcon
          go_wp2_with fail
          refine Hcon.out.mono ?_
          rintro e w3 ⟨rfl, hb3⟩
          have hbel3 : Below w2.heap.size w2 w3 := hbel.trans (hb3.mono hbel.size)
          have hown3 : w3.ownsRow w2.heap.size 44 2 u6 acc.length (cellsK acc) := own_below (w := wr) Hown.out hb3
          have hw3 := hbel3.size
          have Hown3 := Lib.hid hown3
          clear hown3 hb3 Hown Hcon hbel
          have hcvf : (convert 27 9 (.slice (dropA A c 0) (min l.length 19) c)).run Tryd.prog (w3.alloc (.cells #[.int .i64 (ky.1 : Int), .string (bs ky.2)] 44)) = .ok (.string (bs (l.take 19))) (w3.alloc (.cells #[.int .i64 (ky.1 : Int), .string (bs ky.2)] 44)) := by
            have hq := (((hB.below (hbel3.alloc hw3 (.cells #[.int .i64 (ky.1 : Int), .string (bs ky.2)] 44))).drop c 0 hlc).take (min l.length 19)).convert (P := Tryd.prog) c 27 5 9 Tryd.underlying27 Tryd.underlying5 Tryd.underlying9 (min l.length 19) (by rw [List.drop_zero, List.length_take]; omega)
            rw [List.drop_zero, show l.take (min l.length 19) = l.take 19 by
              rw [Nat.min_comm, ← List.take_take, List.take_length]] at hq
            exact hq
          have hup := run_upto A l.length c (min l.length 19) (by omega)
          rw [show ((min l.length 19 : Nat) : Int) = min (l.length : Int) 19 by omega] at hup
          have hDf : DecAt (w3.alloc (.cells #[.int .i64 (ky.1 : Int), .string (bs ky.2)] 44)) g ⟨d.w, d.p, d.e, false⟩ := HD2.out.below (hbel3.alloc hw3 (.cells #[.int .i64 (ky.1 : Int), .string (bs ky.2)] 44)) (by omega)
          have q0 := hDf.c0
          have p0 := hDf.free 0
          have HDf := Lib.hid hDf
          have hGf : w.grownBy (w3.alloc (.cells #[.int .i64 (ky.1 : Int), .string (bs ky.2)] 44)) (some g) := grown_trans HG2.out (grown_below (hbel3.alloc hw3 (.cells #[.int .i64 (ky.1 : Int), .string (bs ky.2)] 44)))
          have HGf := Lib.hid hGf
          have hOf : (w3.alloc (.cells #[.int .i64 (ky.1 : Int), .string (bs ky.2)] 44)).ownsRow w.heap.size 44 2 u6 acc.length (cellsK acc) := own_less (base := w2.heap.size) (Hown3.out.alloc _) (by omega)
          have HOf := Lib.hid hOf
          clear hDf hGf hOf hB
          generalize hlt2 : l.take 19 = lt at *
          have Hlt := Lib.hid hlt2
          clear hlt2
          generalize l.length = m at *
          clear hbel3 Hown3 Hkeys
          go_wp2
          go_ret
          rw [Hk0.out]
          simp only [Hlt.out]
          refine ⟨_, rfl, ?_, ?_, grown_trans HGf.out (grown_cell _ _ _ _)⟩
          · exact own_setCell HOf.out (by omega) _
          · exact HDf.out.set_ 0 _ (d' := ⟨_, d.p, d.e, false⟩) rfl
        · have Hst := Lib.hid (keysL_step l hl h0)
          have hn0 : (((oneL l).2 : Int) == 0) = false := beq_eq_false_iff_ne.2 (by omega)
          have hpos : 0 < (oneL l).2 := by omega
          clear hcon hl h0
          generalize (oneL l).2 = n at *
          generalize (oneL l).1 = ky at *
          have hsl := run_cut A c l n hone
          go_wp2_with fail
          refine Hcon.out.mono ?_
          rintro e w3 ⟨rfl, hb3⟩
          have hbel3 : Below w2.heap.size w2 w3 := hbel.trans (hb3.mono hbel.size)
          have hown3 : w3.ownsRow w2.heap.size 44 2 u6 acc.length (cellsK acc) := own_below (w := wr) Hown.out hb3
          have hw3 := hbel3.size
          have Hown3 := Lib.hid hown3
          clear hown3 hb3 hbel Hown Hcon
          unfold kv
          go_wp2_with (at_builtin; refine wpList_append_own _ rfl _ _ 36 rfl w2.heap.size 44 i1 _ 2 24 Tryd.underlying36 hi1 hy0 hy1 hy2 rfl (by decide) _ _ _ rfl ((Hown3.out.alloc _).alloc _) ⟨w3.heap.size + 1, 0, none⟩ 1 1 (cellsK [ky]) rfl rfl ?d1 ?d2 ?d3 ?d4 ?d5 ?_)
          case d1 => exact key_cells _ ky _ (by simp)
          case d2 => exact cellsK_one _
          case d3 => unfold maxLen; omega
          case d4 => omega
          case d5 => simp; omega
          intro v' w5 hown5 hgrow _
          have Hown5 := Lib.hid hown5
          have hb5 : Below w2.heap.size w2 w5 := ((hbel3.alloc hw3 _).alloc (by simp; omega) _).grown hgrow (by simp; omega) (fun k hk => (Hown3.out.lt k hk).1)
          clear hown5 hgrow
          go_wp2_with fail
          refine ⟨⟨dropA A c n, c - n, l.drop n, acc ++ [ky], ?_, ?_, ?_, hB.drop c _ hlc, ?_, hb5, ?_, ?_⟩, ?_⟩
          · simp
          · simp; omega
          · unfold maxLen at hcm ⊢; omega
          · rw [cellsK_append]; simpa using Hown5.out
          · simp; omega
          · rw [← Hkeys.out, Hst.out]; simp
          · show l.length - n < l.length
            omega
end Go.Proofs.YtbkejjpkijjfaaaDoor
