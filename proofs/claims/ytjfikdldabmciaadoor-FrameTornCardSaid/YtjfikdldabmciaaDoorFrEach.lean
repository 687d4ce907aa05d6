/-
  Package frame: Each, and what it tells (layer 11).
-/
import Derived.Test.YtjfikdldabmciaaDoorFrNext
import Derived.Test.YtjfikdldabmciaaDoorTold
import Derived.Shelf.Abstract
import Derived.Shelf.RegionOpen
import Derived.OwnWalkIn
import Derived.TacticsInMore
import Derived.LoopNIn
import Derived.LoopIn
import Derived.WalkSpells
namespace Go.Proofs.YtjfikdldabmciaaDoor
open Go Go.RowKit Go.Shelf
attribute [local go_sem] Oper.semAt_some
set_option maxRecDepth 100000

set_option maxHeartbeats 2000000 in
theorem each11_calls (A : Option Addr) (c : Nat) (b : List UInt8) (w : World) (hb : Byt w A b) (hA : A = none → c = 0) (hl : b.length ≤ 100000) :
    Calls Tryd.prog 17 #[.slice A b.length c] w fun e w' => e = .returned (.func (.func 25) #[] #[.pointer (some ⟨w.heap.size, 0, none⟩)]) ∧ ∃ A' c', Boxed w' w.heap.size 22 (.slice A' b.length c') ∧ w'.ownsRow (w.heap.size + 1) 5 1 (.slice A' b.length c') b.length (Lib.byteCells b) ∧ Below w.heap.size w w' := by
  obtain ⟨W1, hW1⟩ : ∃ W1, w.alloc (.cells #[.slice A b.length c] 22) = W1 := ⟨_, rfl⟩
  have hx := Boxed.new w 22 (.slice A b.length c)
  have hb1 : Below w.heap.size w W1 := by rw [← hW1]; exact (Below.refl _ w).alloc (Nat.le_refl _) _
  have hs1 : W1.heap.size = w.heap.size + 1 := by rw [← hW1]; simp
  rw [hW1] at hx
  have HC := Lib.hid (clone11_calls A c b W1 (hb.below hb1) hA (by omega))
  have cx := hx.cell
  have HX := Lib.hid hx
  have HB1 := Lib.hid hb1
  clear hx hb1 hb hA
  go_enter Tryd.func17, Tryd.ntmps17
  go_wp2_with fail
  clear hW1
  refine HC.out.mono ?_
  rintro e w2 ⟨A2, c2, rfl, hown2, hb2⟩
  have hx2 : Boxed w2 w.heap.size 22 (.slice A b.length c) := (hb2.block _ HX.out.lt).trans HX.out
  have cx2 := hx2.cell
  have fx2 := hx2.frozen
  have HX3 := Lib.hid (hx2.set (.slice A2 b.length c2))
  rw [hs1] at hown2
  have HO3 := Lib.hid (own_setCell (a := ⟨w.heap.size, 0, none⟩) hown2 (Nat.lt_succ_self _) (.slice A2 b.length c2))
  have HB3 := Lib.hid ((HB1.out.trans (hb2.mono HB1.out.size)).setCell (p := ⟨w.heap.size, 0, none⟩) (Nat.le_refl _) (.slice A2 b.length c2))
  clear hx2 hown2 hb2 HC cx HX
  go_wp2_with fail
  go_ret
  exact ⟨rfl, A2, c2, HX3.out, HO3.out, HB3.out⟩
/-- A frame that is told: where it begins, and its payload, and where that lies. -/
structure Fx where
  at_ : Nat
  A : Option Addr
  l : List UInt8
  c : Nat
def fxV (x : Fx) : Array Value := #[.int .i64 (x.at_ : Int), .slice x.A x.l.length x.c]
def lsF (xs : List Fx) : List (List UInt8) := xs.map Fx.l
theorem lsF_snoc (xs : List Fx) (x : Fx) : lsF (xs ++ [x]) = lsF xs ++ [x.l] := by unfold lsF; simp
theorem lsF_length (xs : List Fx) : (lsF xs).length = xs.length := by unfold lsF; simp
/-- What is known of it where it is told. -/
def FxAt (b : List UInt8) (pre : List Fx) (x : Fx) (W : World) : Prop := W.ownsRow 0 5 1 (.slice x.A x.l.length x.c) x.l.length (Lib.byteCells x.l) ∧ (x.at_ = (packsF (lsF pre)).length ∧ (scanF b).1[pre.length]? = some x.l ∧ x.at_ + 6 + x.l.length ≤ b.length)
theorem fxAt_own (b : List UInt8) (pre : List Fx) (x : Fx) (B : Nat) : OwnFrom B (fun (_ : Unit) W => FxAt b pre x W) :=
  OwnFrom.and (ownFrom_row B 0 5 1 (fun _ : Unit => .slice x.A x.l.length x.c) (fun _ => x.l.length) (fun _ => Lib.byteCells x.l)) (fun _ _ _ _ h _ _ => h)
theorem below_abides {β : Type} {B : Nat} {J : β → World → Prop} (hJ : AbidesFrom B J) {pre : β} {w1 w2 : World} (hj : J pre w1) (hb : Below w1.heap.size w1 w2) : J pre w2 :=
  hJ pre w1 w2 none hj (grown_of_below hb) (fun r e => by cases e)
theorem byt_only {w w' : World} {R : Nat → Prop} {A : Option Addr} {l : List UInt8} (h : Byt w A l) (ho : Only R w w') (hn : ∀ a, A = some a → ¬ R a.block) : Byt w' A l := fun hl => by
  obtain ⟨g, o, rfl, hg, hc⟩ := h.at_ hl
  have hb := ho.block g hg (hn _ rfl)
  exact (Byt.mk_ fun i hi => (World.cell?_of_block (a := ⟨g, o + i, none⟩) hb).trans (hc i hi)) hl
set_option maxHeartbeats 4000000 in
theorem each11_tells (n : Nat) (hn : 1 ≤ n) (Bn : Nat) (A : Option Addr) (c : Nat) (b : List UInt8) (w : World) (Rk : Nat → Prop) (hbx : Boxed w Bn 22 (.slice A b.length c)) (hby : Byt w A b) (hA : A = none → c = 0) (hc : b.length ≤ c) (hl : b.length ≤ 100000) (ht : LaysR w)
    (h1 : ¬ Rk Bn) (h2 : ∀ a, A = some a → ¬ Rk a.block) (h3 : ∀ X Y, Only Rk X Y → LaysR X → LaysR Y) :
    Tells Fence.wide n Tryd.prog 25 #[.pointer (some ⟨Bn, 0, none⟩)] fxV (FxAt b) (Only Rk) (fun ys => lsF ys = (scanF b).1 ∧ (packsF (lsF ys)).length = (scanF b).2) w := fun l J Jx W hW hJ _ hY h0 => by
  have HY := Lib.hid hY
  have HJ := Lib.hid hJ
  have HK := Lib.hid (fun (X Y : World) (h : Only Rk X Y) (hx : Boxed X Bn 22 (.slice A b.length c)) (hb : Byt X A b) (hT : LaysR X) => (⟨(h.block Bn hx.lt h1).trans hx, byt_only hb h h2, h3 X Y h hT⟩ : Boxed Y Bn 22 (.slice A b.length c) ∧ Byt Y A b ∧ LaysR Y))
  have HA := Lib.hid hA
  have HC := Lib.hid hc
  have HL := Lib.hid hl
  have HS0 : Hid (Boxed W Bn 22 (.slice A b.length c) ∧ Byt W A b ∧ LaysR W) := Lib.hid ⟨(hW.block Bn hbx.lt).trans hbx, hby.below hW, ht.on hW⟩
  clear hY hJ hA hc hl hbx hby ht h1 h2 h3 hW
  refine callsIn_of_wp Tryd.func25 rfl trivial ?_ rfl
  simp only [Tryd.ntmps25, List.size_toArray, List.length_cons, List.length_nil, Nat.reduceAdd, Nat.reduceSub, Array.replicate_succ, Array.replicate_zero, List.push_toArray, List.append_toArray, List.nil_append, List.cons_append]
  gi_wp2
  gi_loopw [3] (fun v3 wr => ∃ (k : Nat) (pre : List Fx), v3 = .int .i64 (k : Int) ∧ J pre wr ∧ Hid (ScanTo b k (lsF pre)) ∧ Hid (k = (packsF (lsF pre)).length) ∧ Hid (Boxed wr Bn 22 (.slice A b.length c) ∧ Byt wr A b ∧ LaysR wr)) (fun v3 _ => b.length - (intOf v3).toNat)
  case atStart => exact ⟨0, [], rfl, h0, Lib.hid (ScanTo.zero b), Lib.hid rfl, HS0⟩
  case round =>
    obtain ⟨k, pre, rfl, hj, hst, hkp, hs⟩ := hrel
    have hnl := hst.out.le
    have hcx := hs.out.1.cell
    have hcut := run_cut A c b k hnl
    have hdl : (b.drop k).length = b.length - k := List.length_drop
    have HNx := Lib.hid (fnext11_calls (dropA A c k) (c - k) (b.drop k) wr (hs.out.2.1.drop c k HC.out) (fun h => by
      unfold dropA at h
      split at h
      · omega
      · cases A with
        | none => have := HA.out rfl; omega
        | some a => cases h) (by have := HC.out; omega) (by have := HL.out; omega) hs.out.2.2)
    rw [hdl] at HNx hcut
    have HDl := Lib.hid hdl
    have HNl := Lib.hid hnl
    have hkb : (k : Int) ≤ 100000 := by have := HL.out; omega
    generalize dropA A c k = DA at *
    by_cases hok : okF (b.drop k)
    · have hn1 : nextF (b.drop k) = (loadF (b.drop k), 6 + numF (b.drop k)) := by unfold nextF; rw [if_pos hok]
      have he1 : errF (b.drop k) = 0 := err_ok.2 hok
      rw [hn1, he1] at HNx
      have HSt := Lib.hid (hst.out.step hok)
      have hat := hst.out.at_ hok
      have hlen := loadF_length hok.1
      have hfit : k + 6 + (loadF (b.drop k)).length ≤ b.length := by have h1 := hok.1.2.2; have h2 := hok.1.1; rw [hlen]; rw [hdl] at h1 h2; omega
      have hf := hok.1.2.1
      generalize numF (b.drop k) = nf at *
      generalize loadF (b.drop k) = ld at *
      have hwr : IntKind.i64.wrap ((k : Int) + (6 + (nf : Int))) = (k : Int) + (6 + (nf : Int)) := IntWalk.i64_in _ (by omega)
      rw [lsF_length] at hat
      have HFx := Lib.hid (And.intro hkp.out (And.intro hat hfit))
      have HLn := Lib.hid hlen
      clear hn1 he1 hdl hnl hok hat hfit hlen hst
      have HNy := Lib.hid (HNx.out.mono (fun e w' h => Lib.hid h))
      gi_wp2_with (refine ⟨trivial, ?_⟩; gi_at_call 13; refine (callsIn_wide.2 HNy.out).mono ?_)
      intro e w5 hp5
      obtain ⟨A5, c5, rfl, hown5, hb5⟩ := hp5.out
      clear hp5
      have hj5 := below_abides HJ.out hj hb5
      have hx5 : FxAt b pre ⟨k, A5, ld, c5⟩ w5 := ⟨own_less hown5 (Nat.zero_le _), HFx.out⟩
      obtain ⟨fn, tmps, assign, body, hy, hR⟩ := HY.out pre ⟨k, A5, ld, c5⟩ w5 hj5 hx5
      have HS5 : Hid (Boxed w5 Bn 22 (.slice A b.length c) ∧ Byt w5 A b ∧ LaysR w5) := Lib.hid ⟨(hb5.block Bn hs.out.1.lt).trans hs.out.1, hs.out.2.1.below hb5, hs.out.2.2.on hb5⟩
      unfold fxV at hy
      dsimp only at hy
      have HR := Lib.hid hR
      clear hown5 hb5 HNx HNy hcut hj hx5 hR hs hcx
      gi_wp2
      refine HR.out.mono ?_
      rintro e W3 (⟨rfl, hJ3, hk3⟩ | ⟨rfl, hJx3⟩)
      · have hs3 := HK.out _ _ hk3 HS5.out.1 HS5.out.2.1 HS5.out.2.2
        have HS3 := Lib.hid hs3
        have HPk : Hid (k + (6 + nf) = (packsF (lsF (pre ++ [⟨k, A5, ld, c5⟩]))).length) := Lib.hid (by rw [lsF_snoc, packsF_snoc, List.length_append, packF_length, HLn.out, ← HFx.out.1])
        clear hs3 hk3 hy HR
        gi_wp2
        go_roundw
        case rel => exact ⟨k + (6 + nf), pre ++ [⟨k, A5, ld, c5⟩], by go_num, hJ3, Lib.hid (by rw [lsF_snoc]; exact HSt.out), HPk, HS3⟩
        case measure => have := HFx.out.2.2; simp [intOf]; omega
      · gi_wp2
        refine bodyPost_ret (results_none rfl _ _ _) rfl ?_
        exact ⟨⟨_, rfl⟩, .inr ⟨_, hJx3⟩⟩
    · have hn1 : nextF (b.drop k) = ([], 0) := by unfold nextF; rw [if_neg hok]
      have he1 : ¬ errF (b.drop k) = 0 := fun h => hok (err_ok.1 h)
      rw [hn1] at HNx
      have HFin := Lib.hid (hst.out.fin hok)
      generalize errF (b.drop k) = er at *
      have t1 : (er == 0) = false := by simpa using he1
      have t2 : (er != 0) = true := by simpa using he1
      clear hn1 he1 hok hdl hnl hst
      have HNy := Lib.hid (HNx.out.mono (fun e w' h => Lib.hid h))
      gi_wp2_with (refine ⟨trivial, ?_⟩; gi_at_call 13; refine (callsIn_wide.2 HNy.out).mono ?_)
      intro e w5 hp5
      obtain ⟨A5, c5, rfl, _, hb5⟩ := hp5.out
      clear hp5
      have hj5 := below_abides HJ.out hj hb5
      clear hb5 HNx HNy hcut hj hs hcx
      gi_wp2
      refine ⟨fun _ h => (by cases h), ?_⟩
      gi_wp2
      refine bodyPost_ret (results_none rfl _ _ _) rfl ?_
      exact ⟨⟨_, rfl⟩, .inl ⟨pre, ⟨by rw [HFin.out], by rw [HFin.out, ← hkp.out]⟩, hj5⟩⟩
end Go.Proofs.YtjfikdldabmciaaDoor
