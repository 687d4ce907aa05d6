/-
  The document's keys: a byte more.
  The document's keys: a tick.
  The statement's 'same': a row of the decoder's keys, and a row of the document's.
-/
import Derived.Test.YtbkejjpkijjfaaaDoorKRefG
import Derived.Test.YtbkejjpkijjfaaaDoorKPut
import Derived.Deep.QuietTactic
import Derived.BigQuiet
namespace Go.Proofs.YtbkejjpkijjfaaaDoor
open Go Go.RowKit
set_option maxRecDepth 100000

theorem infoRK : (Tryd.prog.info? 52).map (fun i => (i.zero, i.size, i.bytes)) = some (some (.agg #[.int .i64 0, .string ⟨#[]⟩]), 2, 24) := by kernel_rfl
theorem sizeRState (w : World) : (sizeOf 29).run Tryd.prog w = .ok 2 w := Tryd.sizeOf29 w
theorem rkey_cells (W : World) (k : KV) (b : Nat) (hb : b = W.heap.size) : ∀ (j : Nat) (u : Value), (cellsK [k])[j]? = some u → (W.alloc (.cells #[.int .i64 (k.1 : Int), .string (bs k.2)] 52)).cell? ((⟨b, 0, none⟩ : Addr).add j) = some u := by
  intro j u hj
  subst hb
  match j, hj with
  | 0, hj => simp [cellsK] at hj; subst hj; simp [Addr.add]
  | 1, hj => simp [cellsK] at hj; subst hj; simp [Addr.add]
  | j + 2, hj => simp [cellsK] at hj
/-- What stands at a round's head of the document's Put: l waits, acc was told. -/
def PutAtR (w2 : World) (l0 : List UInt8) (v5 v6 : Value) (wr : World) (A : Option Addr) (c : Nat) (l : List UInt8) (acc : List KV) : Prop :=
  v5 = .slice A l.length c ∧ l.length ≤ c ∧ c ≤ maxLen ∧ Byt w2 A l ∧ wr.ownsRow w2.heap.size 52 2 v6 acc.length (cellsK acc) ∧ Below w2.heap.size w2 wr ∧ acc.length + l.length ≤ l0.length ∧ (acc ++ (keysR l).1, (keysR l).2) = keysR l0
theorem dropA_far {A : Option Addr} {H : Nat} (h : ∀ ad, A = some ad → H < ad.block) (c n : Nat) : ∀ ad, dropA A c n = some ad → H < ad.block := by
  intro ad e
  unfold dropA at e
  split at e
  · exact h ad e
  · cases A with
    | none => cases e
    | some a =>
      have e2 : a.add n = ad := Option.some.inj e
      rw [← e2]
      have h2 := h a rfl
      simp only [Addr.add]
      split <;> exact h2
theorem Byt.keep2 {w : World} {A : Option Addr} {l : List UInt8} {H : Nat} {u v : Value} (h : Byt w A l) (hne : ∀ ad, A = some ad → ad.block ≠ H) : Byt ((w.setCell ⟨H, 0, none⟩ u).setCell ⟨H, 1, none⟩ v) A l := fun hn => by
  obtain ⟨b, o, e, hc⟩ := h hn
  refine ⟨b, o, e, fun i hi => ?_⟩
  have hb := hne _ e
  have key : ((w.setCell ⟨H, 0, none⟩ u).setCell ⟨H, 1, none⟩ v).heap[b]? = w.heap[b]? :=
    (Below.heap_setCell _ ⟨H, 1, none⟩ v b (by simpa using hb)).trans (Below.heap_setCell w ⟨H, 0, none⟩ u b (by simpa using hb))
  rw [World.cell?_of_block (a := ⟨b, o + i, none⟩) key]
  exact hc i hi
/-- What Put, and Tick, come to. -/
def ToldR (w : World) (r : List KV × List UInt8) (age : Int) (e : Ending) (w' : World) : Prop :=
  ∃ A c v, e = .returned (.tuple #[.agg #[.slice A r.2.length c, .int .i64 age], v]) ∧ Byt w' A r.2 ∧ (A = none → c = 0) ∧ r.2.length ≤ c ∧ c ≤ maxLen ∧ w'.ownsRow w.heap.size 52 2 v r.1.length (cellsK r.1) ∧ Below w.heap.size w w'
set_option maxHeartbeats 8000000 in
theorem rput_calls (A0 : Option Addr) (c0 : Nat) (B : List UInt8) (age : Int) (x : UInt8) (w : World) (hB0 : Byt w A0 B) (hA0 : A0 = none → c0 = 0) (hs : B.length ≤ 1000000000) :
    Calls Tryd.prog 16 #[.agg #[.slice A0 B.length c0, .int .i64 age], .int .u8 (x.toNat : Int)] w (ToldR w (keysR (B ++ [x])) 0) := by
  obtain ⟨i0, hi, hz0, hz1, hz2⟩ := info_parts info8
  have hWs : ((w.alloc (.cells #[.slice A0 B.length c0, .int .i64 age] 29)).alloc (.cells #[.slice none 0 0, .int .i64 0] 29)).heap.size = w.heap.size + 1 + 1 := by simp
  have k0 : Below w.heap.size w ((w.alloc (.cells #[.slice A0 B.length c0, .int .i64 age] 29)).alloc (.cells #[.slice none 0 0, .int .i64 0] 29)) := ((Below.refl _ w).alloc (Nat.le_refl _) _).alloc (by simp) _
  have bR : Bx ((w.alloc (.cells #[.slice A0 B.length c0, .int .i64 age] 29)).alloc (.cells #[.slice none 0 0, .int .i64 0] 29)) (w.heap.size + 1) 29 (.slice none 0 0) (.int .i64 0) := by
    have h := Bx.new (w.alloc (.cells #[.slice A0 B.length c0, .int .i64 age] 29)) 29 (.slice none 0 0) (.int .i64 0)
    rw [World.size_alloc] at h
    exact h
  have K0 := Lib.hid k0
  have BR := Lib.hid bR
  have HB1 : Hid (Byt (((w.alloc (.cells #[.slice A0 B.length c0, .int .i64 age] 29)).alloc (.cells #[.slice none 0 0, .int .i64 0] 29)).alloc (.cells #[] 5)) A0 B) := Lib.hid ((hB0.below k0).alloc _)
  have hO := own_empty ((w.alloc (.cells #[.slice A0 B.length c0, .int .i64 age] 29)).alloc (.cells #[.slice none 0 0, .int .i64 0] 29)) (w.heap.size + 1 + 1) (by simp)
  rw [hWs] at hO
  have HO := Lib.hid hO
  have HWs := Lib.hid hWs
  clear k0 bR hB0 hO hWs
  have hl0 : (B ++ [x]).length = B.length + 1 := by simp
  have Hl0 := Lib.hid hl0
  clear hl0
  generalize hl : B ++ [x] = l0 at *
  have Hl := Lib.hid hl
  clear hl
  go_enter Tryd.func16, Tryd.ntmps16
  go_wp2_with (at_builtin; refine wpList_append_byt _ rfl _ _ 27 rfl (w.heap.size + 1 + 1) i0 Tryd.underlying27 hi hz0 hz1 hz2 (.slice (some ⟨w.heap.size + 1 + 1, 0, none⟩) 0 0) [] rfl ?own A0 c0 B rfl hA0 ?byt (by simp; omega) ?base ?_)
  case own => exact HO.out
  case byt => exact HB1.out
  case base => simp
  intro v1 w1 hown1 hgr1 _
  have hb1 : Below (w.heap.size + 1 + 1) ((w.alloc (.cells #[.slice A0 B.length c0, .int .i64 age] 29)).alloc (.cells #[.slice none 0 0, .int .i64 0] 29)) w1 := ((Below.refl _ ((w.alloc (.cells #[.slice A0 B.length c0, .int .i64 age] 29)).alloc (.cells #[.slice none 0 0, .int .i64 0] 29))).alloc (by simp) _).grown hgr1 (by simp) (fun k hk => Nat.le_of_eq (Option.some.inj hk))
  have hs1 : w.heap.size + 1 + 1 ≤ w1.heap.size := by have := hb1.size; simp at this; omega
  have Hown1 := Lib.hid hown1
  have Hb1 := Lib.hid hb1
  clear hgr1 hown1 hb1 HO HB1
  go_wp2_with (at_builtin; refine wpList_append_byt _ rfl _ _ 27 rfl (w.heap.size + 1 + 1) i0 Tryd.underlying27 hi hz0 hz1 hz2 v1 B rfl (Hown1.out.alloc _) (some ⟨w1.heap.size, 0, none⟩) 1 [x] rfl (fun h => by cases h) (byt_lit w1 [x]) (by simp; omega) (by simp; omega) ?_)
  intro v2 w2 hown2 hgr2 _
  rw [Hl.out] at hown2
  have hb2 : Below (w.heap.size + 1 + 1) ((w.alloc (.cells #[.slice A0 B.length c0, .int .i64 age] 29)).alloc (.cells #[.slice none 0 0, .int .i64 0] 29)) w2 := (Hb1.out.alloc (by simpa using hs1) _).grown hgr2 (by simp; omega) (fun k hk => (Hown1.out.lt k hk).1)
  rw [← Hl0.out] at hown2
  obtain ⟨A2, c2, rfl⟩ := own_form hown2
  obtain ⟨hB2, _, hlc2, hm2⟩ := byt_of_own hown2
  have bR2 : Bx w2 (w.heap.size + 1) 29 (.slice none 0 0) (.int .i64 0) := BR.out.below (by rw [HWs.out]; exact hb2)
  have k2 : Below w.heap.size w w2 := K0.out.trans (hb2.mono (by omega))
  have hl02 : l0.length ≤ 1000000001 := by rw [Hl0.out]; omega
  have HF : Hid (∀ ad, A2 = some ad → w.heap.size + 1 < ad.block) := Lib.hid (fun ad e => by subst e; have := (hown2.lt ad.block rfl).1; omega)
  have BR2 := Lib.hid bR2
  have K2 := Lib.hid k2
  have hs2 : w.heap.size + 1 + 1 ≤ w2.heap.size := by have := hb2.size; simp at this; omega
  clear hown2 hgr2 hb2 bR2 k2 Hown1 Hb1 BR K0 HWs Hl Hl0 hi hz0 hz1 hz2 hs1
  obtain ⟨i1, hi1, hy0, hy1, hy2⟩ := info_parts infoRK
  go_wp2_with fail
  go_loopw [6, 7] (fun v6 v7 wr => ∃ A c l acc, PutAtR w2 l0 v6 v7 wr A c l acc ∧ ∀ ad, A = some ad → w.heap.size + 1 < ad.block) (fun v6 _ _ => match v6 with | .slice _ n _ => n | _ => 0)
  case atStart => exact ⟨A2, c2, l0, [], ⟨rfl, hlc2, hm2, hB2, World.ownsRow_nil _ _ _ _, Below.refl _ _, by simp, by simp⟩, HF.out⟩
  case round =>
    clear hB2 hlc2 hm2
    obtain ⟨A, c, l, acc, ⟨rfl, hlc, hcm, hB, hown, hbel, hlen, hkeys⟩, hfar⟩ := hrel
    have Hfar := Lib.hid hfar
    clear hfar
    have Hkeys := Lib.hid hkeys
    have Hown := Lib.hid hown
    clear hkeys hown
    by_cases hl : l = []
    · have hk0 : keysR l0 = (acc, []) := by rw [← Hkeys.out, hl]; simp [keysR_nil]
      have Hk0 := Lib.hid hk0
      have hnp : ¬ 0 < l.length := by rw [hl]; simp
      have bf := BR2.out.below hbel
      have c0' := bf.c0
      have c1' := bf.c1
      have f0' := bf.f0
      have f1' := bf.f1
      have Bf := Lib.hid bf
      have Kf := Lib.hid (K2.out.trans (hbel.mono K2.out.size))
      have Of := Lib.hid Hown.out
      clear hk0 hl bf hbel Hown Hkeys hB
      generalize l.length = m at *
      go_wp2
      refine bodyPost_ret (results_bx2 rfl _ _ (w.heap.size + 1) (.slice none 0 0) (.int .i64 0) 29 rfl (by first | exact Bf.out | exact (Bf.out.set0 _).set1 _ | exact Bf.out.set0 _) Tryd.underlying29 (sizeRState _)) rfl ?_
      rw [Hk0.out]
      refine ⟨none, 0, _, rfl, Byt.nil_ _ _, fun _ => rfl, by simp, by unfold maxLen; omega, ?_, ?_⟩
      · exact own_less (base := w2.heap.size) (own_setCell (a := ⟨w.heap.size + 1, 1, none⟩) (own_setCell (a := ⟨w.heap.size + 1, 0, none⟩) Of.out (by simp only; omega) _) (by simp only; omega) _) (by omega)
      · first | exact Kf.out | exact (Kf.out.setCell (p := ⟨w.heap.size + 1, 0, none⟩) (by simp) _).setCell (p := ⟨w.heap.size + 1, 1, none⟩) (by simp) _
    · have h1 : 1 ≤ l.length := List.length_pos_iff.2 hl
      have hll : l.length ≤ 1099511627776 := by omega
      have Hcon := Lib.hid (rone_calls A c l wr (hB.below hbel) h1 hll hlc hcm)
      have hone := oneR_le l hl
      have HA : Hid (A = none → c = 0) := Lib.hid (fun h => by obtain ⟨ag, ao, hA, _, _⟩ := hB.at_ (by omega); rw [hA] at h; cases h)
      by_cases h0 : (oneR l).2 = 0
      · have hk0 : keysR l0 = (acc, l) := by rw [← Hkeys.out, keysR_stop l h0]; simp
        have Hk0 := Lib.hid hk0
        have Hst := Lib.hid h0
        generalize ho : oneR l = r1 at *
        obtain ⟨ky, n⟩ := r1
        simp only at h0
        subst h0
        have HlB := Lib.hid hB
        clear hk0 hl ho hone Hkeys
        go_wp2_with fail
        refine Hcon.out.mono ?_
        rintro e w3 ⟨rfl, hb3⟩
        have hbel3 : Below w2.heap.size w2 w3 := hbel.trans (hb3.mono hbel.size)
        have hbelK : Below w2.heap.size w2 (w3.alloc (.cells #[.int .i64 (ky.1 : Int), .string (bs ky.2)] 52)) := hbel3.alloc hbel3.size _
        have bf := BR2.out.below hbelK
        have c0' := bf.c0
        have c1' := bf.c1
        have f0' := bf.f0
        have f1' := bf.f1
        have Bf := Lib.hid bf
        have Kf := Lib.hid (K2.out.trans (hbelK.mono K2.out.size))
        have Of : Hid ((w3.alloc (.cells #[.int .i64 (ky.1 : Int), .string (bs ky.2)] 52)).ownsRow w2.heap.size 52 2 u7 acc.length (cellsK acc)) := Lib.hid ((own_below (w := wr) Hown.out hb3).alloc _)
        have Bl : Hid (Byt (w3.alloc (.cells #[.int .i64 (ky.1 : Int), .string (bs ky.2)] 52)) A l) := Lib.hid (HlB.out.below hbelK)
        clear hbel hb3 hbel3 hbelK bf Hown Hcon hB HlB
        simp only [oneV]
        generalize hm : l.length = m at *
        have Hm := Lib.hid hm
        clear hm
        go_wp2
        refine bodyPost_ret (results_bx2 rfl _ _ (w.heap.size + 1) (.slice A m c) (.int .i64 0) 29 rfl (by first | exact (Bf.out.set0 _).set1 _ | exact Bf.out.set0 _) Tryd.underlying29 (sizeRState _)) rfl ?_
        rw [Hk0.out]
        refine ⟨A, c, _, by rw [← Hm.out], ?_, HA.out, by rw [Hm.out]; exact hlc, hcm, ?_, ?_⟩
        · refine Byt.keep2 Bl.out fun ad e => ?_
          have := Hfar.out ad e
          omega
        · exact own_less (base := w2.heap.size) (own_setCell (a := ⟨w.heap.size + 1, 1, none⟩) (own_setCell (a := ⟨w.heap.size + 1, 0, none⟩) Of.out (by simp only; omega) _) (by simp only; omega) _) (by omega)
        · first | exact (Kf.out.setCell (p := ⟨w.heap.size + 1, 0, none⟩) (by simp) _).setCell (p := ⟨w.heap.size + 1, 1, none⟩) (by simp) _ | exact Kf.out.setCell (p := ⟨w.heap.size + 1, 0, none⟩) (by simp) _
      · have Hst := Lib.hid (keysR_step l hl h0)
        have hn0 : (((oneR l).2 : Int) == 0) = false := beq_eq_false_iff_ne.2 (by omega)
        have hpos : 0 < (oneR l).2 := by omega
        clear hl h0
        generalize oneR l = r1 at *
        obtain ⟨ky, n⟩ := r1
        simp only at hn0 hpos hone Hst
        have hsl := run_cut A c l n hone
        go_wp2_with fail
        refine Hcon.out.mono ?_
        rintro e w3 ⟨rfl, hb3⟩
        have hbel3 : Below w2.heap.size w2 w3 := hbel.trans (hb3.mono hbel.size)
        have hw3 := hbel3.size
        have Hown3 := Lib.hid (own_below (w := wr) Hown.out hb3)
        clear hb3 hbel Hown Hcon
        simp only [oneV]
        go_wp2_with (at_builtin; refine wpList_append_own _ rfl _ _ 32 rfl w2.heap.size 52 i1 _ 2 24 Tryd.underlying32 hi1 hy0 hy1 hy2 rfl (by decide) _ _ _ rfl ((Hown3.out.alloc _).alloc _) ⟨w3.heap.size + 1, 0, none⟩ 1 1 (cellsK [ky]) rfl rfl ?d1 ?d2 ?d3 ?d4 ?d5 ?_)
        case d1 => exact rkey_cells _ ky _ (by simp)
        case d2 => exact cellsK_one _
        case d3 => unfold maxLen; omega
        case d4 => omega
        case d5 => simp; omega
        intro v' w5 hown5 hgrow _
        have Hown5 := Lib.hid hown5
        have hb5 : Below w2.heap.size w2 w5 := ((hbel3.alloc hw3 _).alloc (by simp; omega) _).grown hgrow (by simp; omega) (fun k hk => (Hown3.out.lt k hk).1)
        clear hown5 hgrow
        go_wp2_with fail
        refine ⟨⟨dropA A c n, c - n, l.drop n, acc ++ [ky], ⟨?_, ?_, ?_, hB.drop c _ hlc, ?_, hb5, ?_, ?_⟩, dropA_far Hfar.out c n⟩, ?_⟩
        · simp
        · simp; omega
        · unfold maxLen at hcm ⊢; omega
        · rw [cellsK_append]; simpa using Hown5.out
        · simp; omega
        · rw [← Hkeys.out, Hst.out]; simp
        · show l.length - n < l.length
          omega

theorem own_rkey (w : World) (base : Nat) (hb : base ≤ w.heap.size) (k : KV) : (w.alloc (.cells #[.int .i64 (k.1 : Int), .string (bs k.2)] 52)).ownsRow base 52 2 (.slice (some ⟨w.heap.size, 0, none⟩) 1 1) 1 (cellsK [k]) :=
  ⟨rfl, .inr ⟨w.heap.size, 1, #[.int .i64 (k.1 : Int), .string (bs k.2)], rfl, hb, heap_alloc_new w _, Nat.le_refl _, by unfold maxLen; omega, rfl, rfl⟩⟩
/-- What stands behind Tick's first test. -/
def TkAt (w : World) (A0 : Option Addr) (n c0 : Nat) (age : Int) (W : World) : Prop :=
  Bx W w.heap.size 29 (.slice A0 n c0) (.int .i64 age) ∧ Bx W (w.heap.size + 1) 29 (.slice none 0 0) (.int .i64 0) ∧ Below w.heap.size w W
theorem tkAt_new (w : World) (A0 : Option Addr) (n c0 : Nat) (age : Int) : TkAt w A0 n c0 age ((w.alloc (.cells #[.slice A0 n c0, .int .i64 age] 29)).alloc (.cells #[.slice none 0 0, .int .i64 0] 29)) := by
  refine ⟨(Bx.new w _ _ _).alloc _, ?_, ((Below.refl _ w).alloc (Nat.le_refl _) _).alloc (by simp) _⟩
  have h := Bx.new (w.alloc (.cells #[.slice A0 n c0, .int .i64 age] 29)) 29 (.slice none 0 0) (.int .i64 0)
  rw [World.size_alloc] at h
  exact h
theorem TkAt.below {w W W' : World} {A0 : Option Addr} {n c0 : Nat} {age : Int} (h : TkAt w A0 n c0 age W) (hb : Below W.heap.size W W') : TkAt w A0 n c0 age W' :=
  ⟨h.1.below hb, h.2.1.below hb, h.2.2.trans (hb.mono h.2.2.size)⟩
/-- Tick's endings. -/
theorem told_tick {w W : World} {A0 : Option Addr} {c0 : Nat} {B : List UInt8} {age : Int} {ks : List KV} {v : Value} (hB0 : Byt w A0 B) (hA0 : A0 = none → c0 = 0) (hlc : B.length ≤ c0) (hm : c0 ≤ maxLen) (hk : Below w.heap.size w W) (hv : W.ownsRow w.heap.size 52 2 v ks.length (cellsK ks)) :
    ToldR w (ks, B) age (.returned (.tuple #[.agg #[.slice A0 B.length c0, .int .i64 age], v])) W :=
  ⟨A0, c0, v, rfl, hB0.below hk, hA0, hlc, hm, hv, hk⟩
theorem told_zero {w W : World} {ks : List KV} {v : Value} (hk : Below w.heap.size w W) (hv : W.ownsRow w.heap.size 52 2 v ks.length (cellsK ks)) :
    ToldR w (ks, []) 0 (.returned (.tuple #[.agg #[.slice none 0 0, .int .i64 0], v])) W :=
  ⟨none, 0, v, rfl, Byt.nil_ _ _, fun _ => rfl, Nat.le_refl _, by unfold maxLen; omega, hv, hk⟩
theorem below_two {B H : Nat} {w W : World} (h : Below B w W) (hH : B ≤ H) (u v : Value) : Below B w ((W.setCell ⟨H, 0, none⟩ u).setCell ⟨H, 1, none⟩ v) :=
  (h.setCell (p := ⟨H, 0, none⟩) hH _).setCell (p := ⟨H, 1, none⟩) hH _
theorem own_two {w : World} {base H n : Nat} {t : TypeId} {c : Nat} {v : Value} {xs : List Value} (h : w.ownsRow base t c v n xs) (hH : H < base) (a b : Value) : ((w.setCell ⟨H, 0, none⟩ a).setCell ⟨H, 1, none⟩ b).ownsRow base t c v n xs :=
  own_setCell (a := ⟨H, 1, none⟩) (own_setCell (a := ⟨H, 0, none⟩) h (by simp only; omega) _) (by simp only; omega) _
/-- What stands at a round's head of Tick's loop. -/
def RkAt (w1 : World) (rs : List Nat) (v4 v6 : Value) (wr : World) (k : Nat) : Prop :=
  k ≤ rs.length ∧ v6 = .int .i64 (k : Int) ∧ wr.ownsRow w1.heap.size 52 2 v4 k (cellsK ((rs.take k).map signK)) ∧ Below w1.heap.size w1 wr

set_option maxHeartbeats 8000000 in
theorem rtick_calls (A0 : Option Addr) (c0 : Nat) (B : List UInt8) (age : Nat) (w : World) (hB0 : Byt w A0 B) (hA0 : A0 = none → c0 = 0) (hlc : B.length ≤ c0) (hm : c0 ≤ maxLen) (hs : B.length ≤ 1000000000) :
    Calls Tryd.prog 13 #[.agg #[.slice A0 B.length c0, .int .i64 (age : Int)]] w (ToldR w ((tickR B age).1, (tickR B age).2.1) ((tickR B age).2.2 : Int)) := by
  have t0 := tkAt_new w A0 B.length c0 (age : Int)
  have HB0 := Lib.hid hB0
  have HA0 := Lib.hid hA0
  by_cases hnil : B = []
  · have ht : tickR B age = ([], B, age) := by unfold tickR; rw [if_pos (.inl hnil)]
    rw [ht]
    have h0 : ((B.length : Int) == 0) = true := by rw [hnil]; rfl
    obtain ⟨b1, b2, k2⟩ := t0
    have c10 := b1.c0
    have c11 := b1.c1
    have f20 := b2.f0
    have c20 := b2.c0
    have c21 := b2.c1
    have f21 := b2.f1
    have B2 := Lib.hid b2
    have K2 := Lib.hid k2
    clear hnil ht b1 b2 k2 hB0 hA0
    have HT := Lib.hid (fun W v hk hv => told_tick (W := W) (age := (age : Int)) (ks := []) (v := v) HB0.out HA0.out hlc hm hk hv)
    clear HB0 HA0
    simp only
    generalize B.length = n at *
    generalize (age : Int) = a at *
    have b3 : Bx ((w.alloc (.cells #[.slice A0 n c0, .int .i64 a] 29)).alloc (.cells #[.slice A0 n c0, .int .i64 a] 29)) (w.heap.size + 1) 29 (.slice A0 n c0) (.int .i64 a) := by
      have h := Bx.new (w.alloc (.cells #[.slice A0 n c0, .int .i64 a] 29)) 29 (.slice A0 n c0) (.int .i64 a)
      rw [World.size_alloc] at h
      exact h
    have B3 := Lib.hid b3
    clear b3
    go_enter Tryd.func13, Tryd.ntmps13
    go_wp2
    refine bodyPost_ret (results_bx2 rfl _ _ (w.heap.size + 1) (.slice A0 n c0) (.int .i64 a) 29 rfl B3.out Tryd.underlying29 (sizeRState _)) rfl ?_
    exact HT.out _ _ (((Below.refl _ w).alloc (Nat.le_refl _) _).alloc (by simp) _) (World.ownsRow_nil _ _ _ _)
  have h0 : ((B.length : Int) == 0) = false := beq_eq_false_iff_ne.2 (by have := List.length_pos_iff.2 hnil; omega)
  have HP := Lib.hid (rpaste_calls A0 c0 B _ (hB0.below t0.2.2) hlc hm)
  have T0 := Lib.hid t0
  clear t0
  by_cases hp : B.take 6 = pasteB
  · have ht : tickR B age = ([], B, age) := by unfold tickR; rw [if_pos (.inr hp)]
    rw [ht]
    rw [decide_eq_true hp] at HP
    clear hnil ht hB0 hA0 hp
    have HT := Lib.hid (fun W v hk hv => told_tick (W := W) (age := (age : Int)) (ks := []) (v := v) HB0.out HA0.out hlc hm hk hv)
    clear HB0 HA0
    simp only
    generalize B.length = n at *
    generalize (age : Int) = a at *
    go_enter Tryd.func13, Tryd.ntmps13
    go_wp2_with fail
    refine HP.out.mono ?_
    rintro e w1 ⟨rfl, hb1⟩
    obtain ⟨b1, b2, k2⟩ := T0.out.below hb1
    have c10 := b1.c0
    have c11 := b1.c1
    have f20 := b2.f0
    have c20 := b2.c0
    have c21 := b2.c1
    have f21 := b2.f1
    have B2 := Lib.hid b2
    have K2 := Lib.hid k2
    clear b1 b2 k2 hb1 HP T0
    go_wp2

    refine bodyPost_ret (results_bx2 rfl _ _ (w.heap.size + 1) (.slice A0 n c0) (.int .i64 a) 29 rfl ((B2.out.set0 _).set1 _) Tryd.underlying29 (sizeRState _)) rfl ?_
    exact HT.out _ _ (below_two K2.out (by omega) _ _) (World.ownsRow_nil _ _ _ _)
  rw [decide_eq_false hp] at HP
  by_cases hag : age = 0
  · have ht : tickR B age = ([], B, 1) := by unfold tickR; rw [if_neg (fun h => h.elim hnil hp), if_pos hag]
    rw [ht]
    subst hag
    clear hnil ht hB0 hA0 hp
    have HT := Lib.hid (fun W v hk hv => told_tick (W := W) (age := 1) (ks := []) (v := v) HB0.out HA0.out hlc hm hk hv)
    clear HB0 HA0
    simp only
    rw [show ((1 : Nat) : Int) = 1 from rfl]
    generalize B.length = n at *
    go_enter Tryd.func13, Tryd.ntmps13
    go_wp2_with fail
    refine HP.out.mono ?_
    rintro e w1 ⟨rfl, hb1⟩
    obtain ⟨b1, b2, k2⟩ := T0.out.below hb1
    have c10 := b1.c0
    have c11 := b1.c1
    have f11 := b1.f1
    have f20 := b2.f0
    have c20 := b2.c0
    have c21 := b2.c1
    have f21 := b2.f1
    have B2 := Lib.hid (b2.other (g' := w.heap.size) (i := 1) (by omega) (.int .i64 1))
    have K2 := Lib.hid (k2.setCell (p := ⟨w.heap.size, 1, none⟩) (Nat.le_refl _) (.int .i64 1))
    clear b1 b2 k2 hb1 HP T0
    go_wp2
    refine bodyPost_ret (results_bx2 rfl _ _ (w.heap.size + 1) (.slice A0 n c0) (.int .i64 1) 29 rfl ((B2.out.set0 _).set1 _) Tryd.underlying29 (sizeRState _)) rfl ?_
    exact HT.out _ _ (below_two K2.out (by omega) _ _) (World.ownsRow_nil _ _ _ _)
  have hage : ((age : Int) == 0) = false := beq_eq_false_iff_ne.2 (by omega)
  have hpos : 0 < B.length := List.length_pos_iff.2 hnil
  obtain ⟨bg, bo, rfl, hbg, hcc⟩ := hB0.at_ hpos
  have cx := hcc 0 hpos
  rw [Nat.add_zero] at cx
  have hxl := (B.getD 0 0).toNat_lt
  have ht : tickR B age = (if B.length = 1 ∧ (B.getD 0 0).toNat = 27 then [(27, [])] else if (B.getD 0 0).toNat = 27 then [(0, [])] else (runes B).map signK, [], 0) := by
    unfold tickR; rw [if_neg (fun h => h.elim hnil hp), if_neg hag]
  rw [ht]
  have CX : ∀ W, Below w.heap.size w W → W.cell? ⟨bg, bo, none⟩ = some (.int .u8 ((B.getD 0 0).toNat : Int)) := fun W hW => by rw [hW.cell (p := ⟨bg, bo, none⟩) hbg]; exact cx
  have HCX := Lib.hid CX
  clear CX hcc cx hA0 HA0 ht hag
  by_cases hx : (B.getD 0 0).toNat = 27
  · have hxe : (((B.getD 0 0).toNat : Int) == 27) = true := by rw [hx]; rfl
    by_cases h1 : B.length = 1
    · rw [if_pos ⟨h1, hx⟩]
      have h1b : ((B.length : Int) == 1) = true := by rw [h1]; rfl
      clear hnil hp hx h1 hB0 HB0
      simp only
      rw [show ((0 : Nat) : Int) = 0 from rfl]
      generalize (B.getD 0 0).toNat = x at *
      generalize B.length = n at *
      generalize (age : Int) = a at *
      go_enter Tryd.func13, Tryd.ntmps13
      go_wp2_with fail
      refine HP.out.mono ?_
      rintro e w1 ⟨rfl, hb1⟩
      obtain ⟨b1, b2, k2⟩ := T0.out.below hb1
      have c10 := b1.c0
      have c11 := b1.c1
      have f20 := b2.f0
      have c20 := b2.c0
      have c21 := b2.c1
      have f21 := b2.f1
      have cx := HCX.out w1 k2
      have hz := b2.lt
      have b5 := (b2.set0 (.slice none 0 0)).set1 (.int .i64 0)
      have k5 := below_two k2 (H := w.heap.size + 1) (by omega) (.slice none 0 0) (.int .i64 0)
      have B2 := Lib.hid (b5.alloc (.cells #[.int .i64 27, .string ⟨#[]⟩] 52))
      have O2 := Lib.hid (own_rkey _ w.heap.size k5.size (27, []))
      have K2 := Lib.hid (k5.alloc k5.size (.cells #[.int .i64 27, .string ⟨#[]⟩] 52))
      clear b5 k5
      clear b1 b2 k2 hb1 HP T0 HCX
      go_wp2
      refine bodyPost_ret (results_bx2 rfl _ _ (w.heap.size + 1) (.slice none 0 0) (.int .i64 0) 29 rfl B2.out Tryd.underlying29 (sizeRState _)) rfl ?_
      exact told_zero (ks := [(27, [])]) K2.out (by simpa [World.setCell] using O2.out)
    · rw [if_neg (fun h => h1 h.1), if_pos hx]
      have h1b : ((B.length : Int) == 1) = false := beq_eq_false_iff_ne.2 (by omega)
      clear hnil hp hx h1 hB0 HB0
      simp only
      rw [show ((0 : Nat) : Int) = 0 from rfl]
      generalize (B.getD 0 0).toNat = x at *
      generalize B.length = n at *
      generalize (age : Int) = a at *
      go_enter Tryd.func13, Tryd.ntmps13
      go_wp2_with fail
      refine HP.out.mono ?_
      rintro e w1 ⟨rfl, hb1⟩
      obtain ⟨b1, b2, k2⟩ := T0.out.below hb1
      have c10 := b1.c0
      have c11 := b1.c1
      have f20 := b2.f0
      have c20 := b2.c0
      have c21 := b2.c1
      have f21 := b2.f1
      have cx := HCX.out w1 k2
      have hz := b2.lt
      have b5 := (b2.set0 (.slice none 0 0)).set1 (.int .i64 0)
      have k5 := below_two k2 (H := w.heap.size + 1) (by omega) (.slice none 0 0) (.int .i64 0)
      have B2 := Lib.hid (b5.alloc (.cells #[.int .i64 0, .string ⟨#[]⟩] 52))
      have O2 := Lib.hid (own_rkey _ w.heap.size k5.size (0, []))
      have K2 := Lib.hid (k5.alloc k5.size (.cells #[.int .i64 0, .string ⟨#[]⟩] 52))
      clear b5 k5
      clear b1 b2 k2 hb1 HP T0 HCX
      go_wp2
      refine bodyPost_ret (results_bx2 rfl _ _ (w.heap.size + 1) (.slice none 0 0) (.int .i64 0) 29 rfl B2.out Tryd.underlying29 (sizeRState _)) rfl ?_
      exact told_zero (ks := [(0, [])]) K2.out (by simpa [World.setCell] using O2.out)
  · have hxe : (((B.getD 0 0).toNat : Int) == 27) = false := beq_eq_false_iff_ne.2 (by omega)
    rw [if_neg (fun h => hx h.2), if_neg hx]
    obtain ⟨i1, hi1, hy0, hy1, hy2⟩ := info_parts infoRK
    have HRc := Lib.hid (fun W (hW : Below w.heap.size w W) => rrunes_calls (some ⟨bg, bo, none⟩) c0 B W (HB0.out.below hW) hlc hm (by omega))
    have hrl := runes_length B
    have hval : Hid (∀ k, k < (runes B).length → Valid ((runes B).getD k 0)) := Lib.hid fun k hk => by
      have e : (runes B).getD k 0 = (runes B)[k] := by simp [List.getD, hk]
      rw [e]; exact runes_valid _ _ (List.getElem_mem hk)
    clear hnil hp hx hB0 HB0
    simp only
    rw [show ((0 : Nat) : Int) = 0 from rfl]
    generalize (B.getD 0 0).toNat = x at *
    generalize runes B = rs at *
    generalize B.length = n at *
    generalize (age : Int) = a at *
    cases h1b : ((n : Int) == (1 : Int))
    all_goals
      go_enter Tryd.func13, Tryd.ntmps13
      go_wp2_with fail
      refine HP.out.mono ?_
      rintro e w1 ⟨rfl, hb1⟩
      have HT1 := Lib.hid (T0.out.below hb1)
      obtain ⟨b1, b2, k2⟩ := T0.out.below hb1
      have c10 := b1.c0
      have c11 := b1.c1
      have cx := HCX.out w1 k2
      have HR := Lib.hid (HRc.out w1 k2)
      clear b1 b2 k2 hb1 HP T0 HCX HRc
      go_wp2_with fail
      refine HR.out.mono ?_
      rintro e w2 ⟨v, rfl, hown, hb2⟩
      obtain ⟨A2, c2, rfl⟩ := own_form hown
      obtain ⟨hR, _, _, hm2⟩ := rd64_of_own hown
      have HRd := Lib.hid hR
      have HT2 := Lib.hid (HT1.out.below hb2)
      clear hown hR hb2 HR hm2 HT1 c10 c11 cx
      go_wp2_with fail
      go_loopw [4, 6] (fun v4 v6 wr => ∃ k, RkAt w2 rs v4 v6 wr k) (fun _ v6 _ => rs.length - (intOf v6).toNat)
      case atStart => exact ⟨0, by omega, rfl, World.ownsRow_nil _ _ _ _, Below.refl _ _⟩
      case round =>
        obtain ⟨k, hk, rfl, hown, hbel⟩ := hrel
        have Hown := Lib.hid hown
        clear hown
        by_cases hlt : k < rs.length
        · obtain ⟨gb, o, rfl, hgb, hc⟩ := (HRd.out.below hbel) (by omega)
          have ck := hc k hlt
          have hvb := hval.out k hlt
          have hsn := Lib.hid (map_take_snoc rs k hlt)
          clear hc
          generalize rs.getD k 0 = r at *
          generalize (rs.take k).map signK = acc at *
          go_wp2_with fail
          refine (rsign_calls r hvb wr).mono ?_
          rintro e w3 ⟨rfl, hb3⟩
          have hbel2 := hbel.trans (hb3.mono hbel.size)
          have hown2 : w3.ownsRow w2.heap.size 52 2 u4 k (cellsK acc) := own_below (w := wr) Hown.out hb3
          have hz2 := hbel2.size
          have Hown2 := Lib.hid hown2
          clear hown2 hb3 hbel Hown
          go_wp2_with (at_builtin; refine wpList_append_own _ rfl _ _ 32 rfl w2.heap.size 52 i1 _ 2 24 Tryd.underlying32 hi1 hy0 hy1 hy2 rfl (by decide) _ _ _ rfl (Hown2.out.alloc _) ⟨w3.heap.size, 0, none⟩ 1 1 (cellsK [signK r]) rfl rfl ?d1 ?d2 ?d3 ?d4 ?d5 ?_)
          case d1 => exact rkey_cells _ (signK r) _ rfl
          case d2 => exact cellsK_one _
          case d3 => unfold maxLen; omega
          case d4 => omega
          case d5 => simp; omega
          intro v' w5 hown5 hgrow _
          have Hown5 := Lib.hid hown5
          have hb5 : Below w2.heap.size w2 w5 := (hbel2.alloc hz2 _).grown hgrow (by simp; omega) (fun k hk => (Hown2.out.lt k hk).1)
          clear hown5 hgrow
          go_wp2
          go_roundw
          case rel => exact ⟨k + 1, by omega, by go_num, by rw [hsn.out, cellsK_append]; exact Hown5.out, hb5⟩
          case measure => simp [intOf]; omega
        · obtain rfl : k = rs.length := by omega
          have ho := Hown.out
          rw [List.take_length] at ho
          obtain ⟨b1, b2, k2⟩ := HT2.out.below hbel
          have f20 := b2.f0
          have c20 := b2.c0
          have c21 := b2.c1
          have f21 := b2.f1
          have hz := HT2.out.2.1.lt
          have B2 := Lib.hid b2
          have K2 := Lib.hid k2
          have Ho := Lib.hid (own_two ho (H := w.heap.size + 1) (by omega) (.slice none 0 0) (.int .i64 0))
          clear ho Hown b1 b2 k2 HT2 hbel
          go_wp2
          refine bodyPost_ret (results_bx2 rfl _ _ (w.heap.size + 1) (.slice none 0 0) (.int .i64 0) 29 rfl ((B2.out.set0 _).set1 _) Tryd.underlying29 (sizeRState _)) rfl ?_
          exact told_zero (ks := rs.map signK) (below_two K2.out (by omega) _ _) (own_less (by rw [List.length_map]; exact Ho.out) (by omega))

theorem rdR_of_own {w : World} {base : Nat} {A : Option Addr} {c n : Nat} {ks : List KV} (h : w.ownsRow base 52 2 (.slice A n c) ks.length (cellsK ks)) : RdK w A ks ∧ n = ks.length := by
  rcases h.2 with ⟨hv, h0⟩ | ⟨g, cap, cur, hv, _, hh, hnc, hcm, _⟩
  · injection hv with h1 h2 h3
    subst h1; subst h2; subst h3
    exact ⟨fun hn => by omega, h0.symm⟩
  · injection hv with h1 h2 h3
    subst h1; subst h2; subst h3
    refine ⟨fun hn => ⟨g, rfl, (Array.getElem?_eq_some_iff.1 hh).1, fun i hi => ?_⟩, rfl⟩
    obtain ⟨k0, k1⟩ := cellsK_get ks i hi
    have a := h.cells (g := g) rfl _ _ k0
    have b := h.cells (g := g) rfl _ _ k1
    rw [Addr.add_lit] at a b
    simp only [Nat.zero_add] at a b
    exact ⟨a, b⟩

set_option maxHeartbeats 4000000 in
theorem same_calls4 (A A' : Option Addr) (c c' : Nat) (ks : List KV) (w : World) (h : RdK w A ks) (h' : RdK w A' ks) (hl : ks.length ≤ 9223372036854775807) :
    Calls Tryd.prog 14 #[.slice A ks.length c, .slice A' ks.length c'] w fun e w' => e = .returned (.bool true) ∧ Below w.heap.size w w' := by
  have H := Lib.hid h
  have H' := Lib.hid h'
  clear h h'
  go_enter Tryd.func14, Tryd.ntmps14
  go_wp2_with fail
  go_loopw [13] (fun v13 wr => ∃ (k q : Nat), k ≤ ks.length ∧ v13 = .int .i64 (k : Int) ∧ wr = w.drewN q) (fun v13 _ => ks.length - (intOf v13).toNat)
  case atStart => exact ⟨0, 0, by omega, rfl, rfl⟩
  case round =>
    obtain ⟨k, q, hk, rfl, rfl⟩ := hrel
    by_cases hlk : k < ks.length
    · obtain ⟨p1, rfl, hp1, q1⟩ := H.out.at_ (by omega)
      obtain ⟨p2, rfl, hp2, q2⟩ := H'.out.at_ (by omega)
      obtain ⟨q10, q11⟩ := q1 k hlk
      obtain ⟨q20, q21⟩ := q2 k hlk
      clear q1 q2 hp1 hp2
      generalize ks.getD k (0, []) = ky at *
      go_wp2_with fail
      go_quiet (fail)
      go_wp2
      go_roundw
      case rel => exact ⟨k + 1, q + nq, by omega, by go_num, rfl⟩
      case measure => simp [intOf]; omega
    · obtain rfl : k = ks.length := by omega
      have HB := Lib.hid (bel_drewN (Below.refl w.heap.size w) q)
      go_wp2
      go_ret
      exact ⟨rfl, HB.out⟩
end Go.Proofs.YtbkejjpkijjfaaaDoor
