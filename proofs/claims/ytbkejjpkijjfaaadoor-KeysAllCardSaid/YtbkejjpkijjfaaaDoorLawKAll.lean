/-
  The walk of KeysAll.
-/
import Derived.Test.YtbkejjpkijjfaaaDoorKRefH
import Derived.Test.YtbkejjpkijjfaaaDoorKEvents
import Derived.Deep.RegionHeld3
namespace Go.Proofs.YtbkejjpkijjfaaaDoor
open Go Go.RowKit
set_option maxRecDepth 100000

theorem At4.next {w W : World} (hb : Below w.heap.size w W) (hL : Lays w) : At4 w W.heap.size Dec.zero (W.alloc (.cells #[.string ⟨#[]⟩, .string ⟨#[]⟩, .int .i64 0, .bool false] 26)) :=
  ⟨heap_alloc_new W _, Dec.ok_zero, hb.alloc hb.size _, hb.size, hL⟩
theorem keysRF_len : ∀ (f : Nat) (b : List UInt8), (keysRF f b).2.length ≤ b.length
  | 0, _ => Nat.le_refl _
  | f + 1, b => by
    simp only [keysRF]
    split
    · exact Nat.le_refl _
    · have := keysRF_len f (b.drop (oneR b).2)
      rw [List.length_drop] at this
      simp only
      omega
theorem tickR_len (B : List UInt8) (age : Nat) : (tickR B age).2.1.length ≤ B.length := by
  unfold tickR
  repeat' split
  all_goals simp
/-- Bytes that lie in no block that is another than it was. -/
theorem Byt.off_kept {w w' : World} {A : Option Addr} {l : List UInt8} {g : Nat} (h : Byt w A l) (hk : ∀ b, b < w.heap.size → b ≠ g → w'.heap[b]? = w.heap[b]?) (hne : 0 < l.length → ∀ ad, A = some ad → ad.block ≠ g) : Byt w' A l := fun hn => by
  obtain ⟨b2, o2, e2, hb, _⟩ := h.at_ hn
  obtain ⟨b, o, e, hc⟩ := h hn
  have hbb : b < w.heap.size := by rw [e2] at e; injection e with e; injection e with e; omega
  refine ⟨b, o, e, fun i hi => ?_⟩
  rw [World.cell?_of_block (a := ⟨b, o + i, none⟩) (hk b hbb (hne hn _ e))]
  exact hc i hi
theorem RdK.off_kept {w w' : World} {A : Option Addr} {ks : List KV} {g : Nat} (h : RdK w A ks) (hz : w.heap.size ≤ w'.heap.size) (hk : ∀ b, b < w.heap.size → b ≠ g → w'.heap[b]? = w.heap[b]?) (hne : ∀ ad, A = some ad → ad.block ≠ g) : RdK w' A ks := fun hn => by
  obtain ⟨b, e, hb, hc⟩ := h hn
  refine ⟨b, e, Nat.lt_of_lt_of_le hb hz, fun i hi => ?_⟩
  have key := hk b hb (hne _ e)
  rw [World.cell?_of_block (a := ⟨b, i * 2, none⟩) key, World.cell?_of_block (a := ⟨b, i * 2 + 1, none⟩) key]
  exact hc i hi
theorem byt_ne_dec {W : World} {g : Nat} {d : Dec} {A : Option Addr} {B : List UInt8} (hd : DecAt W g d) (hb : Byt W A B) : 0 < B.length → ∀ ad, A = some ad → ad.block ≠ g := by
  intro hn ad e hg
  obtain ⟨b, o, e2, hbl, hc⟩ := hb.at_ hn
  rw [e2] at e
  injection e with e
  subst e
  simp only at hg
  subst hg
  have c := hc 0 hn
  have hh : W.heap[b]? = some (.cells #[.string (bs d.w), .string (bs d.p), .int .i64 (d.e : Int), .bool d.t] 26 (0, 0)) := hd
  simp [World.cell?, hh] at c
  match o, c with
  | 0, c => simp at c
  | 1, c => simp at c
  | 2, c => simp at c
  | 3, c => simp at c
  | o + 4, c => simp at c
theorem byt_ne_bx {W : World} {g n k : Nat} {z : Int} {t : TypeId} {A A2 : Option Addr} {B : List UInt8} (hd : Bx W g t (.slice A2 n k) (.int .i64 z)) (hb : Byt W A B) : 0 < B.length → ∀ ad, A = some ad → ad.block ≠ g := by
  intro hn ad e hg
  obtain ⟨b, o, e2, hbl, hc⟩ := hb.at_ hn
  rw [e2] at e
  injection e with e
  subst e
  simp only at hg
  subst hg
  have c := hc 0 hn
  have hh : W.heap[b]? = some (.cells #[.slice A2 n k, .int .i64 z] t (0, 0)) := hd
  simp [World.cell?, hh] at c
  match o, c with
  | 0, c => simp at c
  | 1, c => simp at c
  | o + 2, c => simp at c
/-- A decoder, and the document's state beside it. -/
def StAt (w : World) (g : Nat) (d : Dec) (A : Option Addr) (c : Nat) (B : List UInt8) (age : Int) (W : World) : Prop :=
  At4 w g d W ∧ Bx W (g + 1) 29 (.slice A B.length c) (.int .i64 age) ∧ Byt W A B ∧ (A = none → c = 0) ∧ B.length ≤ c ∧ c ≤ maxLen
section
variable {w W W' : World} {g : Nat} {d d' : Dec} {A : Option Addr} {c : Nat} {B : List UInt8} {age : Int}
theorem StAt.below (h : StAt w g d A c B age W) (hb : Below W.heap.size W W') : StAt w g d A c B age W' := ⟨h.1.below hb, h.2.1.below hb, h.2.2.1.below hb, h.2.2.2⟩
theorem StAt.said (h : StAt w g d A c B age W) (h4 : At4 w g d' W') (hg : W.grownBy W' (some g)) : StAt w g d' A c B age W' :=
  ⟨h4, (hg.block (g + 1) h.2.1.lt (fun e => by injection e with e; omega)).trans h.2.1, h.2.2.1.off_kept (g := g) (fun b hb hne => hg.block b hb (fun e => hne (by injection e))) (byt_ne_dec h.1.1 h.2.2.1), h.2.2.2⟩
theorem StAt.told {w2 : World} {A' : Option Addr} {c' : Nat} {B' : List UInt8} {age' : Int} (h : StAt w g d A c B age W) (hw2 : Below W.heap.size W w2) (hB : Byt w2 A' B') (hA : A' = none → c' = 0) (hl : B'.length ≤ c') (hm : c' ≤ maxLen) :
    StAt w g d A' c' B' age' (((w2.alloc (.cells #[.slice A' B'.length c', .int .i64 age'] 29)).setCell ⟨g + 1, 0, none⟩ (.slice A' B'.length c')).setCell ⟨g + 1, 1, none⟩ (.int .i64 age')) := by
  have h2 := (h.below hw2).below ((Below.refl _ w2).alloc (Nat.le_refl _) (.cells #[.slice A' B'.length c', .int .i64 age'] 29))
  have hg := grown_trans (grown_cell (w2.alloc (.cells #[.slice A' B'.length c', .int .i64 age'] 29)) (g + 1) 0 (.slice A' B'.length c')) (grown_cell _ (g + 1) 1 (.int .i64 age'))
  have hB2 := hB.alloc (.cells #[.slice A' B'.length c', .int .i64 age'] 29)
  exact ⟨h2.1.other hg (by omega) (by have := h2.1.2.2.2.1; omega), (h2.2.1.set0 _).set1 _, hB2.off_kept (g := g + 1) (fun b hb hne => hg.block b hb (fun e => hne (by injection e))) (byt_ne_bx h2.2.1 hB2), hA, hl, hm⟩
/-- The document's keys behind the same stores. -/
theorem row_told {w2 : World} {A' Ak : Option Addr} {c' n nk ck : Nat} {age' : Int} {ks : List KV} (hrow : w2.ownsRow W.heap.size 52 2 (.slice Ak nk ck) ks.length (cellsK ks)) (hg1 : g + 1 < W.heap.size) :
    RdK (((w2.alloc (.cells #[.slice A' n c', .int .i64 age'] 29)).setCell ⟨g + 1, 0, none⟩ (.slice A' n c')).setCell ⟨g + 1, 1, none⟩ (.int .i64 age')) Ak ks ∧ (∀ ad, Ak = some ad → ad.block ≠ g) := by
  have hlt : ∀ ad, Ak = some ad → W.heap.size ≤ ad.block := fun ad e => (hrow.lt ad.block (by rw [e]; rfl)).1
  have r0 := (rdR_of_own hrow).1
  have hb := (Below.refl w2.heap.size w2).alloc (Nat.le_refl _) (.cells #[.slice A' n c', .int .i64 age'] 29)
  have r1 := r0.off_kept (g := g + 1) hb.size (fun b hbl _ => hb.block b hbl) (fun ad e => by have := hlt ad e; omega)
  have hg := grown_trans (grown_cell (w2.alloc (.cells #[.slice A' n c', .int .i64 age'] 29)) (g + 1) 0 (.slice A' n c')) (grown_cell _ (g + 1) 1 (.int .i64 age'))
  exact ⟨r1.off_kept (g := g + 1) hg.size (fun b hbl hne => hg.block b hbl (fun e => hne (by injection e))) (fun ad e => by have := hlt ad e; omega), fun ad e => by have := hlt ad e; omega⟩
theorem row_said {Ak : Option Addr} {ks : List KV} (h : RdK W Ak ks) (hg : W.grownBy W' (some g)) (hne : ∀ ad, Ak = some ad → ad.block ≠ g) : RdK W' Ak ks :=
  h.off_kept hg.size (fun b hbl hne2 => hg.block b hbl (fun e => hne2 (by injection e))) hne
end

set_option maxHeartbeats 16000000 in
theorem kall_calls (A : Option Addr) (c : Nat) (es : List Ev) (w : World) (hR : RdE w A es) (hL : Lays w) (hn : es.length ≤ 9223372036854775807) :
    Calls Tryd.prog 3 #[.slice A es.length c] w fun e w' => e = .returned (.bool true) ∧ Below w.heap.size w w' := by
  have HF := Lib.hid (few4_calls A c es w hR hn)
  by_cases hfew : es.length ≤ 100 ∧ totE es ≤ 2000
  · have HF' : Hid (Calls Tryd.prog 11 #[.slice A es.length c] w fun e w' => e = .returned (.bool true) ∧ Below w.heap.size w w') := Lib.hid (by have := HF.out; rwa [decide_eq_true hfew] at this)
    have hall : Hid (∀ i, i < es.length → totE (es.take i) + (es.getD i Ev.none_).b.length ≤ 2000 ∧ totE (es.take (i + 1)) = totE (es.take i) + (es.getD i Ev.none_).b.length) := Lib.hid fun i hi => by
      have h1 := totE_take es i hi
      have h2 : totE es = totE (es.take (i + 1)) + totE (es.drop (i + 1)) := by
        unfold totE; rw [← List.sum_append, ← List.map_append, List.take_append_drop]
      exact ⟨by omega, h1⟩
    have HR := Lib.hid hR
    have HL := Lib.hid hL
    clear hR hL HF hfew
    go_enter Tryd.func3, Tryd.ntmps3
    go_wp2_with fail
    refine HF'.out.mono ?_
    rintro e w0 ⟨rfl, hb0⟩
    have hS0 : StAt w w0.heap.size Dec.zero none 0 [] ((0 : Nat) : Int) ((w0.alloc (.cells #[.string ⟨#[]⟩, .string ⟨#[]⟩, .int .i64 0, .bool false] 26)).alloc (.cells #[.slice none 0 0, .int .i64 0] 29)) := by
      refine ⟨(At4.next hb0 HL.out).alloc _, ?_, Byt.nil_ _ _, fun _ => rfl, Nat.le_refl _, by unfold maxLen; omega⟩
      have h := Bx.new (w0.alloc (.cells #[.string ⟨#[]⟩, .string ⟨#[]⟩, .int .i64 0, .bool false] 26)) 29 (.slice none 0 0) (.int .i64 0)
      rw [World.size_alloc] at h
      exact h
    have HS0 := Lib.hid hS0
    clear hS0 HF' hb0
    go_wp2_with fail
    go_loopw [19] (fun v19 wr => ∃ (k : Nat) (d : Dec) (A : Option Addr) (c : Nat) (B : List UInt8) (age : Nat), k ≤ es.length ∧ v19 = .int .i64 (k : Int) ∧ StAt w w0.heap.size d A c B (age : Int) wr ∧ Hid (Rel d B age) ∧ Hid (B.length ≤ totE (es.take k))) (fun v19 _ => es.length - (intOf v19).toNat)
    case atStart => exact ⟨0, Dec.zero, none, 0, [], 0, by omega, rfl, HS0.out, Lib.hid Rel.zero, Lib.hid (by simp)⟩
    case round =>
      obtain ⟨k, d, A1, c1, B, age, hk, rfl, hS, hrl, hbl⟩ := hrel
      clear HS0
      by_cases hlt : k < es.length
      · obtain ⟨ge, oe, rfl, hge, c0, c1', hby, _⟩ := (HR.out.below hS.1.bel).at_ hlt
        obtain ⟨hmn, hmt⟩ := hall.out k hlt
        have hbw : Byt w (es.getD k Ev.none_).a (es.getD k Ev.none_).b := by
          obtain ⟨_, _, _, _, _, _, h3, _⟩ := HR.out.at_ hlt
          exact h3
        have Hmt := Lib.hid hmt
        have hbm := hbl.out
        clear hmt hby hbl
        generalize es.getD k Ev.none_ = ev at *
        obtain ⟨et, ea, ec, eb⟩ := ev
        simp only at c0 c1' hmn hbw Hmt
        have hbx := Bx.new wr 31 (.bool et) (.slice ea eb.length ec)
        have hS1 := hS.below ((Below.refl _ wr).alloc (Nat.le_refl _) (.cells #[.bool et, .slice ea eb.length ec] 31))
        have hgw : w0.heap.size + 1 < wr.heap.size := hS.2.1.lt
        have Hbw := Lib.hid hbw
        have Hbx := Lib.hid hbx
        generalize hm : totE (es.take k) = m at *
        have Hm := Lib.hid hm
        clear hm hbx hbw hS
        cases et with
        | false =>
          have HS := Lib.hid hS1
          have hbm2 := hbm
          clear hS1 Hbx hbm
          generalize hnn : eb.length = n at *
          have Hnn := Lib.hid hnn
          clear hnn
          go_wp2_with fail
          go_loopw [38] (fun v38 wr => ∃ (j : Nat) (d : Dec) (A : Option Addr) (c : Nat) (B : List UInt8) (age : Nat), j ≤ n ∧ v38 = .int .i64 (j : Int) ∧ StAt w w0.heap.size d A c B (age : Int) wr ∧ Hid (Rel d B age) ∧ Hid (B.length ≤ m + j)) (fun v38 _ => n - (intOf v38).toNat)
          case atStart => exact ⟨0, _, _, _, _, _, by omega, rfl, HS.out, hrl, Lib.hid (by omega)⟩
          case round =>
            obtain ⟨j, d3, A3, c3, B3, age3, hj, rfl, hS3, hrl3, hbl3⟩ := hrel
            clear HS hrl hbm2
            have hbm3 := hbl3.out
            have q0 := hS3.2.1.c0
            have q1 := hS3.2.1.c1
            have hgw3 : w0.heap.size + 1 < wr.heap.size := hS3.2.1.lt
            by_cases hjn : j < n
            · obtain ⟨gb, ob, rfl, hgb, hcb⟩ := (Hbw.out.below hS3.1.bel).at_ (by rw [Hnn.out]; omega)
              have cb := hcb j (by rw [Hnn.out]; exact hjn)
              clear hcb
              generalize eb.getD j 0 = x at *
              have HP := Lib.hid (rput_calls A3 c3 B3 (age3 : Int) x wr hS3.2.2.1 hS3.2.2.2.1 (by omega))
              have hrt := put_rel hrl3.out x
              have hln : (keysR (B3 ++ [x])).2.length ≤ B3.length + 1 := by
                have h1 := keysRF_len (B3 ++ [x]).length (B3 ++ [x])
                have h2 : (B3 ++ [x]).length = B3.length + 1 := by simp
                show (keysRF (B3 ++ [x]).length (B3 ++ [x])).2.length ≤ _
                omega
              have HD := Lib.hid (fun W (h : At4 w w0.heap.size d3 W) => h.put x)
              have HS3 := Lib.hid hS3
              have hxl := x.toNat_lt
              clear hS3 hrl3 hbl3
              generalize keysR (B3 ++ [x]) = r at *
              obtain ⟨rk, rb⟩ := r
              generalize putD d3 x = y at *
              obtain ⟨yk, d5⟩ := y
              simp only at hrt hln
              obtain ⟨hrk, hrr⟩ := hrt
              subst hrk
              have Hrr := Lib.hid hrr
              clear hrr
              have hbm5 : rb.length ≤ m + (j + 1) := by omega
              clear hln
              generalize B3.length = bn at *
              go_wp2_with fail
              refine HP.out.mono ?_
              rintro e w2 ⟨A4, c4, v4, rfl, hB4, hA4, hl4, hm4, hrow, hb2⟩
              obtain ⟨Ak, ck, rfl⟩ := own_form hrow
              have hS4 := HS3.out.told (age' := 0) hb2 hB4 hA4 hl4 hm4
              have hK4 := row_told (g := w0.heap.size) (A' := A4) (c' := c4) (n := rb.length) (age' := 0) hrow hgw3
              have hbb := ((HS3.out.below hb2).2.1).alloc (.cells #[.slice A4 rb.length c4, .int .i64 0] 29)
              have y0 := hbb.f0
              have y1 := hbb.f1
              have y2 := hbb.c0
              have y3 := hbb.c1
              have HD4 := Lib.hid (HD.out _ hS4.1)
              have HS4 := Lib.hid hS4
              have HK4 := Lib.hid hK4
              clear hS4 hK4 hrow hB4 hA4 hl4 hm4 hb2 hbb HP HS3 HD q0 q1 cb
              go_wp2_with fail
              refine HD4.out.mono ?_
              intro e w6 hS'
              obtain ⟨A6, c6, rfl, o6, a6, g6⟩ := hS'.at2
              have HS6 := Lib.hid (HS4.out.said a6 g6)
              have hK6 := row_said HK4.out.1 g6 HK4.out.2
              obtain ⟨rk6, _, hkc, hcm⟩ := rdK_of_own o6
              have HM := Lib.hid (same_calls4 A6 Ak c6 ck yk w6 rk6 hK6 (by have h1 : yk.length ≤ c6 := hkc; unfold maxLen at hcm; omega))
              clear hS' o6 a6 g6 hK6 rk6 hkc hcm HS4 HK4 HD4 y0 y1 y2 y3
              go_wp2_with fail
              refine HM.out.mono ?_
              rintro e w7 ⟨rfl, hb7⟩
              have HS7 := Lib.hid (HS6.out.below hb7)
              clear hb7 HS6 HM
              go_wp2
              go_roundw
              case rel => exact ⟨j + 1, d5, A4, c4, rb, 0, by omega, by go_num, HS7.out, Hrr, Lib.hid hbm5⟩
              case measure => simp [intOf]; omega
            · obtain rfl : j = n := by omega
              have hw1 := hrl3.out.waits
              have hp1 := hrl3.out.pasting
              have HW := Lib.hid (fun W (h : At4 w w0.heap.size d3 W) => waits_calls4 _ _ _ h.1)
              have HPs := Lib.hid (fun W (h : At4 w w0.heap.size d3 W) => pasting_calls _ _ _ h.1)
              have HPa := Lib.hid (fun W (h : StAt w w0.heap.size d3 A3 c3 B3 (age3 : Int) W) => rpaste_calls A3 c3 B3 W h.2.2.1 h.2.2.2.2.1 h.2.2.2.2.2)
              rw [hw1] at HW
              rw [hp1] at HPs
              have S0 := Lib.hid (hS3.below (Below.refl _ wr).drew)
              have hbt : Hid (B3.length ≤ totE (es.take (k + 1))) := Lib.hid (by rw [Hmt.out]; exact hbm3)
              have q0' : wr.drew.cell? ⟨w0.heap.size + 1, 0, none⟩ = some (.slice A3 B3.length c3) := q0
              clear hw1 hp1 hS3 hbm3 q1 q0 hbl3 hmn Hmt Hnn
              generalize decide (B3.take 6 = pasteB) = p at *
              rcases Nat.eq_zero_or_pos B3.length with hB0 | hB0
              · rw [show decide (0 < B3.length) = false from decide_eq_false (by omega)] at HW
                have g1 : decide ((B3.length : Int) > 0) = false := decide_eq_false (by omega)
                have g2 : decide (0 < (B3.length : Int)) = false := decide_eq_false (by omega)
                have g3 : decide (0 < B3.length) = false := decide_eq_false (by omega)
                clear hB0
                generalize hbn : B3.length = bn at *
                have Hbn := Lib.hid hbn
                clear hbn
                go_wp2_with fail
                go_region_held3 (fun w' => w'.cell? ⟨w0.heap.size + 1, 0, none⟩ = some (.slice A3 bn c3)) (first | exact q0' | exact q7)
                  (first
                  | (go_at_call 18; refine (HW.out _ ?_).mono ?_; (first | exact S0.out.1 | exact S7.out.1); rintro e w6 ⟨rfl, rfl⟩)
                  | (go_at_call 19; refine (HPs.out _ ?_).mono ?_; (first | exact S0.out.1 | exact S7.out.1); rintro e w6 ⟨rfl, rfl⟩)
                  | (go_at_call 20; refine (HPa.out _ S0.out).mono ?_; rintro e w7 ⟨rfl, hb7⟩; have S7 := Lib.hid (S0.out.below hb7); have q7 := S7.out.2.1.c0; rw [Hbn.out] at q7; clear hb7))
                all_goals
                  go_wp2
                  go_roundw
                  case rel => exact ⟨k + 1, d3, A3, c3, B3, age3, by omega, by go_num, S7.out, hrl3, Lib.hid (by rw [Hbn.out]; exact hbt.out)⟩
                  case measure => simp [intOf]; omega
              · rw [show decide (0 < B3.length) = true from decide_eq_true hB0] at HW
                have g1 : decide ((B3.length : Int) > 0) = true := decide_eq_true (by omega)
                have g2 : decide (0 < (B3.length : Int)) = true := decide_eq_true (by omega)
                have g3 : decide (0 < B3.length) = true := decide_eq_true hB0
                clear hB0
                generalize hbn : B3.length = bn at *
                have Hbn := Lib.hid hbn
                clear hbn
                go_wp2_with fail
                go_region_held3 (fun w' => w'.cell? ⟨w0.heap.size + 1, 0, none⟩ = some (.slice A3 bn c3)) (first | exact q0' | exact q7)
                  (first
                  | (go_at_call 18; refine (HW.out _ ?_).mono ?_; (first | exact S0.out.1 | exact S7.out.1); rintro e w6 ⟨rfl, rfl⟩)
                  | (go_at_call 19; refine (HPs.out _ ?_).mono ?_; (first | exact S0.out.1 | exact S7.out.1); rintro e w6 ⟨rfl, rfl⟩)
                  | (go_at_call 20; refine (HPa.out _ S0.out).mono ?_; rintro e w7 ⟨rfl, hb7⟩; have S7 := Lib.hid (S0.out.below hb7); have q7 := S7.out.2.1.c0; rw [Hbn.out] at q7; clear hb7))
                all_goals
                  go_wp2
                  go_roundw
                  case rel => exact ⟨k + 1, d3, A3, c3, B3, age3, by omega, by go_num, S7.out, hrl3, Lib.hid (by rw [Hbn.out]; exact hbt.out)⟩
                  case measure => simp [intOf]; omega
        | true =>
          have z0 := hS1.2.1
          have z1 := hS1.2.2.1
          have hc0 := z0.c0
          have hc1 := z0.c1
          have HT := Lib.hid (rtick_calls A1 c1 B age _ z1 hS1.2.2.2.1 hS1.2.2.2.2.1 hS1.2.2.2.2.2 (by omega))
          have hrt := tick_rel hrl.out
          have hln := tickR_len B age
          have HD := Lib.hid (fun W (h : At4 w w0.heap.size d W) => h.tick)
          have HS := Lib.hid hS1
          clear z0 z1 hS1 hrl
          generalize tickR B age = r at *
          obtain ⟨rk, rb, ra⟩ := r
          generalize tickD d = y at *
          obtain ⟨yk, d2⟩ := y
          simp only at hrt hln HT
          obtain ⟨hrk, hrl⟩ := hrt
          subst hrk
          replace hrl := Lib.hid hrl
          generalize hnn : eb.length = n at *
          have Hnn := Lib.hid hnn
          have hbm2 : rb.length ≤ m := by omega
          clear hnn hbm hln
          generalize B.length = bn at *
          go_wp2_with fail
          refine HT.out.mono ?_
          rintro e w2 ⟨A2, c2, v2, rfl, hB2, hA2, hl2, hm2, hrow, hb2⟩
          obtain ⟨Ak, ck, rfl⟩ := own_form hrow
          have hS2 := HS.out.told (age' := (ra : Int)) hb2 hB2 hA2 hl2 hm2
          have hK2 := row_told (g := w0.heap.size) (A' := A2) (c' := c2) (n := rb.length) (age' := (ra : Int)) hrow (by simp; omega)
          have hbb := ((HS.out.below hb2).2.1).alloc (.cells #[.slice A2 rb.length c2, .int .i64 (ra : Int)] 29)
          have y0 := hbb.f0
          have y1 := hbb.f1
          have y2 := hbb.c0
          have y3 := hbb.c1
          have hE2 := (Hbx.out.below hb2).alloc (.cells #[.slice A2 rb.length c2, .int .i64 (ra : Int)] 29)
          have hE3 := (hE2.other (g' := w0.heap.size + 1) (i := 0) (by omega) (.slice A2 rb.length c2)).other (g' := w0.heap.size + 1) (i := 1) (by omega) (.int .i64 (ra : Int))
          have HE3 := Lib.hid hE3
          have HD2 := Lib.hid (HD.out _ hS2.1)
          have HS2 := Lib.hid hS2
          have HK2 := Lib.hid hK2
          clear hS2 hK2 hrow hB2 hA2 hl2 hm2 hb2 hbb hE2 hE3 HT HS Hbx hc0 hc1 HD
          go_wp2_with fail
          refine HD2.out.mono ?_
          intro e w6 hS'
          obtain ⟨A6, c6, rfl, o6, a6, g6⟩ := hS'.at2
          have hS6 := HS2.out.said a6 g6
          have hK6 := row_said HK2.out.1 g6 HK2.out.2
          obtain ⟨rk6, _, hkc, hcm⟩ := rdK_of_own o6
          have HM := Lib.hid (same_calls4 A6 Ak c6 ck yk w6 rk6 hK6 (by have h1 : yk.length ≤ c6 := hkc; unfold maxLen at hcm; omega))
          have hE6 : Bx w6 wr.heap.size 31 (.bool true) (.slice ea n ec) := (g6.block wr.heap.size HE3.out.lt (fun e => by injection e with e; omega)).trans HE3.out
          have HE6 := Lib.hid hE6
          have HS6 := Lib.hid hS6
          clear hS' o6 a6 g6 hS6 hK6 rk6 hkc hcm hE6 HS2 HK2 HE3 HD2 y0 y1 y2 y3
          go_wp2_with fail
          refine HM.out.mono ?_
          rintro e w7 ⟨rfl, hb7⟩
          have HS := Lib.hid (HS6.out.below hb7)
          have hE7 := HE6.out.below hb7
          have e0 := hE7.c0
          have e1 := hE7.c1
          clear hE7 hb7 HS6 HE6 HM
          clear c0 c1'
          go_wp2_with fail
          go_loopw [38] (fun v38 wr => ∃ (j : Nat) (d : Dec) (A : Option Addr) (c : Nat) (B : List UInt8) (age : Nat), j ≤ n ∧ v38 = .int .i64 (j : Int) ∧ StAt w w0.heap.size d A c B (age : Int) wr ∧ Hid (Rel d B age) ∧ Hid (B.length ≤ m + j)) (fun v38 _ => n - (intOf v38).toNat)
          case atStart => exact ⟨0, _, _, _, _, _, by omega, rfl, HS.out, hrl, Lib.hid (by omega)⟩
          case round =>
            obtain ⟨j, d3, A3, c3, B3, age3, hj, rfl, hS3, hrl3, hbl3⟩ := hrel
            clear HS hrl hbm2
            have hbm3 := hbl3.out
            have q0 := hS3.2.1.c0
            have q1 := hS3.2.1.c1
            have hgw3 : w0.heap.size + 1 < wr.heap.size := hS3.2.1.lt
            by_cases hjn : j < n
            · obtain ⟨gb, ob, rfl, hgb, hcb⟩ := (Hbw.out.below hS3.1.bel).at_ (by rw [Hnn.out]; omega)
              have cb := hcb j (by rw [Hnn.out]; exact hjn)
              clear hcb
              generalize eb.getD j 0 = x at *
              have HP := Lib.hid (rput_calls A3 c3 B3 (age3 : Int) x wr hS3.2.2.1 hS3.2.2.2.1 (by omega))
              have hrt := put_rel hrl3.out x
              have hln : (keysR (B3 ++ [x])).2.length ≤ B3.length + 1 := by
                have h1 := keysRF_len (B3 ++ [x]).length (B3 ++ [x])
                have h2 : (B3 ++ [x]).length = B3.length + 1 := by simp
                show (keysRF (B3 ++ [x]).length (B3 ++ [x])).2.length ≤ _
                omega
              have HD := Lib.hid (fun W (h : At4 w w0.heap.size d3 W) => h.put x)
              have HS3 := Lib.hid hS3
              have hxl := x.toNat_lt
              clear hS3 hrl3 hbl3
              generalize keysR (B3 ++ [x]) = r at *
              obtain ⟨rk, rb⟩ := r
              generalize putD d3 x = y at *
              obtain ⟨yk, d5⟩ := y
              simp only at hrt hln
              obtain ⟨hrk, hrr⟩ := hrt
              subst hrk
              have Hrr := Lib.hid hrr
              clear hrr
              have hbm5 : rb.length ≤ m + (j + 1) := by omega
              clear hln
              generalize B3.length = bn at *
              go_wp2_with fail
              refine HP.out.mono ?_
              rintro e w2 ⟨A4, c4, v4, rfl, hB4, hA4, hl4, hm4, hrow, hb2⟩
              obtain ⟨Ak, ck, rfl⟩ := own_form hrow
              have hS4 := HS3.out.told (age' := 0) hb2 hB4 hA4 hl4 hm4
              have hK4 := row_told (g := w0.heap.size) (A' := A4) (c' := c4) (n := rb.length) (age' := 0) hrow hgw3
              have hbb := ((HS3.out.below hb2).2.1).alloc (.cells #[.slice A4 rb.length c4, .int .i64 0] 29)
              have y0 := hbb.f0
              have y1 := hbb.f1
              have y2 := hbb.c0
              have y3 := hbb.c1
              have HD4 := Lib.hid (HD.out _ hS4.1)
              have HS4 := Lib.hid hS4
              have HK4 := Lib.hid hK4
              clear hS4 hK4 hrow hB4 hA4 hl4 hm4 hb2 hbb HP HS3 HD q0 q1 cb
              go_wp2_with fail
              refine HD4.out.mono ?_
              intro e w6 hS'
              obtain ⟨A6, c6, rfl, o6, a6, g6⟩ := hS'.at2
              have HS6 := Lib.hid (HS4.out.said a6 g6)
              have hK6 := row_said HK4.out.1 g6 HK4.out.2
              obtain ⟨rk6, _, hkc, hcm⟩ := rdK_of_own o6
              have HM := Lib.hid (same_calls4 A6 Ak c6 ck yk w6 rk6 hK6 (by have h1 : yk.length ≤ c6 := hkc; unfold maxLen at hcm; omega))
              clear hS' o6 a6 g6 hK6 rk6 hkc hcm HS4 HK4 HD4 y0 y1 y2 y3
              go_wp2_with fail
              refine HM.out.mono ?_
              rintro e w7 ⟨rfl, hb7⟩
              have HS7 := Lib.hid (HS6.out.below hb7)
              clear hb7 HS6 HM
              go_wp2
              go_roundw
              case rel => exact ⟨j + 1, d5, A4, c4, rb, 0, by omega, by go_num, HS7.out, Hrr, Lib.hid hbm5⟩
              case measure => simp [intOf]; omega
            · obtain rfl : j = n := by omega
              have hw1 := hrl3.out.waits
              have hp1 := hrl3.out.pasting
              have HW := Lib.hid (fun W (h : At4 w w0.heap.size d3 W) => waits_calls4 _ _ _ h.1)
              have HPs := Lib.hid (fun W (h : At4 w w0.heap.size d3 W) => pasting_calls _ _ _ h.1)
              have HPa := Lib.hid (fun W (h : StAt w w0.heap.size d3 A3 c3 B3 (age3 : Int) W) => rpaste_calls A3 c3 B3 W h.2.2.1 h.2.2.2.2.1 h.2.2.2.2.2)
              rw [hw1] at HW
              rw [hp1] at HPs
              have S0 := Lib.hid (hS3.below (Below.refl _ wr).drew)
              have hbt : Hid (B3.length ≤ totE (es.take (k + 1))) := Lib.hid (by rw [Hmt.out]; exact hbm3)
              have q0' : wr.drew.cell? ⟨w0.heap.size + 1, 0, none⟩ = some (.slice A3 B3.length c3) := q0
              clear hw1 hp1 hS3 hbm3 q1 q0 hbl3 hmn Hmt Hnn
              generalize decide (B3.take 6 = pasteB) = p at *
              rcases Nat.eq_zero_or_pos B3.length with hB0 | hB0
              · rw [show decide (0 < B3.length) = false from decide_eq_false (by omega)] at HW
                have g1 : decide ((B3.length : Int) > 0) = false := decide_eq_false (by omega)
                have g2 : decide (0 < (B3.length : Int)) = false := decide_eq_false (by omega)
                have g3 : decide (0 < B3.length) = false := decide_eq_false (by omega)
                clear hB0
                generalize hbn : B3.length = bn at *
                have Hbn := Lib.hid hbn
                clear hbn
                go_wp2_with fail
                go_region_held3 (fun w' => w'.cell? ⟨w0.heap.size + 1, 0, none⟩ = some (.slice A3 bn c3)) (first | exact q0' | exact q7)
                  (first
                  | (go_at_call 18; refine (HW.out _ ?_).mono ?_; (first | exact S0.out.1 | exact S7.out.1); rintro e w6 ⟨rfl, rfl⟩)
                  | (go_at_call 19; refine (HPs.out _ ?_).mono ?_; (first | exact S0.out.1 | exact S7.out.1); rintro e w6 ⟨rfl, rfl⟩)
                  | (go_at_call 20; refine (HPa.out _ S0.out).mono ?_; rintro e w7 ⟨rfl, hb7⟩; have S7 := Lib.hid (S0.out.below hb7); have q7 := S7.out.2.1.c0; rw [Hbn.out] at q7; clear hb7))
                all_goals
                  go_wp2
                  go_roundw
                  case rel => exact ⟨k + 1, d3, A3, c3, B3, age3, by omega, by go_num, S7.out, hrl3, Lib.hid (by rw [Hbn.out]; exact hbt.out)⟩
                  case measure => simp [intOf]; omega
              · rw [show decide (0 < B3.length) = true from decide_eq_true hB0] at HW
                have g1 : decide ((B3.length : Int) > 0) = true := decide_eq_true (by omega)
                have g2 : decide (0 < (B3.length : Int)) = true := decide_eq_true (by omega)
                have g3 : decide (0 < B3.length) = true := decide_eq_true hB0
                clear hB0
                generalize hbn : B3.length = bn at *
                have Hbn := Lib.hid hbn
                clear hbn
                go_wp2_with fail
                go_region_held3 (fun w' => w'.cell? ⟨w0.heap.size + 1, 0, none⟩ = some (.slice A3 bn c3)) (first | exact q0' | exact q7)
                  (first
                  | (go_at_call 18; refine (HW.out _ ?_).mono ?_; (first | exact S0.out.1 | exact S7.out.1); rintro e w6 ⟨rfl, rfl⟩)
                  | (go_at_call 19; refine (HPs.out _ ?_).mono ?_; (first | exact S0.out.1 | exact S7.out.1); rintro e w6 ⟨rfl, rfl⟩)
                  | (go_at_call 20; refine (HPa.out _ S0.out).mono ?_; rintro e w7 ⟨rfl, hb7⟩; have S7 := Lib.hid (S0.out.below hb7); have q7 := S7.out.2.1.c0; rw [Hbn.out] at q7; clear hb7))
                all_goals
                  go_wp2
                  go_roundw
                  case rel => exact ⟨k + 1, d3, A3, c3, B3, age3, by omega, by go_num, S7.out, hrl3, Lib.hid (by rw [Hbn.out]; exact hbt.out)⟩
                  case measure => simp [intOf]; omega
      · have HA := Lib.hid (kalive_calls wr hS.1.lays)
        have HB := Lib.hid hS.1.bel
        clear hS hrl hbl
        go_wp2_with fail
        refine HA.out.mono ?_
        rintro e w6 ⟨rfl, h6⟩
        go_wp2
        go_ret
        exact ⟨rfl, HB.out.trans (h6.mono HB.out.size)⟩
  · have HF' : Hid (Calls Tryd.prog 11 #[.slice A es.length c] w fun e w' => e = .returned (.bool false) ∧ Below w.heap.size w w') := Lib.hid (by have := HF.out; rwa [decide_eq_false hfew] at this)
    have HL := Lib.hid hL
    clear hR hL HF hfew
    go_enter Tryd.func3, Tryd.ntmps3
    go_wp2_with fail
    refine HF'.out.mono ?_
    rintro e w0 ⟨rfl, hb0⟩
    go_wp2_with fail
    refine (kalive_calls w0 (HL.out.below hb0)).mono ?_
    rintro e w1 ⟨rfl, hb1⟩
    go_wp2
    go_ret
    exact ⟨rfl, hb0.trans (hb1.mono hb0.size)⟩
end Go.Proofs.YtbkejjpkijjfaaaDoor
