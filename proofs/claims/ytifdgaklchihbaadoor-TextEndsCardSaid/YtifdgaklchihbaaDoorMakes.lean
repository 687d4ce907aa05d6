/-
  text.Make and the document's own: what the calls come to.
-/
import Derived.Test.YtifdgaklchihbaaDoorPlains
import Derived.Test.YtifdgaklchihbaaDoorRPlain
import Derived.Test.YtifdgaklchihbaaDoorBackOn
import Derived.Test.YtifdgaklchihbaaDoorBx
namespace Go.Proofs.YtifdgaklchihbaaDoor
open Go Go.RowKit

theorem bs_mid (l : List UInt8) (m n : Nat) : (bs l).extract m n = bs ((l.drop m).take (n - m)) := by
  rw [Lib.extract_eq]
set_option maxHeartbeats 2000000 in
theorem make_calls (l : List UInt8) (n : Int) (hl : l.length ≤ 137438953472) (w : World) (hsp : Spans w) :
    Calls Tryd.prog 12 #[.string (bs l), .int .i64 n] w fun e w' => e = .returned (.agg #[.string (bs (mS l)), .int .i64 (mA l n : Int)]) ∧ Below w.heap.size w w' := by
  have k0 : Below w.heap.size w (w.alloc (.cells #[.string ⟨#[]⟩, .int .i64 0] 25)) := (Below.refl _ w).alloc (Nat.le_refl _) _
  have hb0 := Bx.new w 25 (.string ⟨#[]⟩) (.int .i64 0)
  have HP := Lib.hid (fun W => plain_calls l hl W)
  have hpl := plain_length l
  have hbl := backL_le (plainL l) 600
  have hms := mS_len l
  have Hsp := Lib.hid hsp
  have HB1 := Lib.hid (fun W h => back_calls (plainL l) 600 (by omega) W h)
  have HB2 := Lib.hid (fun W h => back_calls (mS l) n (by omega) W h)
  have hex : (bs (plainL l)).extract 0 (backL (plainL l) 600) = bs (mS l) := bs_take _ _
  have HmA : Hid (backL (mS l) n = mA l n) := Lib.hid rfl
  have hsz := bs_size (plainL l)
  clear hsp
  generalize backL (mS l) n = a at *
  generalize mA l n = a' at *
  obtain rfl := HmA.out
  generalize backL (plainL l) 600 = b at *
  generalize mS l = m at *
  generalize plainL l = p at *
  go_enter Tryd.func12, Tryd.ntmps12
  go_wp2_with fail
  refine (HP.out _).mono ?_
  rintro e w1 ⟨rfl, hb1⟩
  have k1 := k0.trans (hb1.mono k0.size)
  have g1 := hb0.below hb1
  clear hb1
  go_wp2_with fail
  refine (HB1.out _ (spans_below Hsp.out k1)).mono ?_
  rintro e w2 ⟨rfl, hb2⟩
  have k2 := k1.trans (hb2.mono k1.size)
  have g2 := g1.below hb2
  clear hb2 g1 k1
  go_wp2_with fail
  refine (HB2.out _ (spans_below Hsp.out k2)).mono ?_
  rintro e w3 ⟨rfl, hb3⟩
  have k3 := k2.trans (hb3.mono k2.size)
  have g3 := g2.below hb3
  have c0 := g3.c0
  have c1 := g3.c1
  have f0 := g3.f0
  have f1 := g3.f1
  have G3 := Lib.hid g3
  have K3 := Lib.hid k3
  clear hb3 g2 k2 g3 k3
  go_wp2
  refine bodyPost_ret (results_bx rfl _ _ w.heap.size (.string (bs m)) (.int .i64 (a : Int)) 25 rfl ((G3.out.set0 _).set1 _) Tryd.underlying25 (sizeBuf _)) rfl ?_
  exact ⟨rfl, (K3.out.setCell (p := ⟨w.heap.size, 0, none⟩) (Nat.le_refl _) _).setCell (p := ⟨w.heap.size, 1, none⟩) (Nat.le_refl _) _⟩

theorem mS_short (l : List UInt8) (h : (plainL l).length ≤ 600) : mS l = plainL l := by
  unfold mS
  rw [backL_all _ 600 (by omega), List.take_length]
set_option maxHeartbeats 2000000 in
theorem rmake_calls (l : List UInt8) (n : Int) (hl : l.length ≤ 137438953472) (w : World) :
    Calls Tryd.prog 13 #[.string (bs l), .int .i64 n] w fun e w' => e = .returned (.agg #[.string (bs (mS l)), .int .i64 (mA l n : Int)]) ∧ Below w.heap.size w w' := by
  have k0 : Below w.heap.size w (w.alloc (.cells #[.string ⟨#[]⟩, .int .i64 0] 27)) := (Below.refl _ w).alloc (Nat.le_refl _) _
  have hb0 := Bx.new w 27 (.string ⟨#[]⟩) (.int .i64 0)
  have HP := Lib.hid (fun W => rplain_calls l hl W)
  have hpl := plain_length l
  have hbl := backL_le (plainL l) 600
  have hms := mS_len l
  have HB1 := Lib.hid (fun W => rback_calls (plainL l) 600 (by omega) W)
  have HB2 := Lib.hid (fun W => rback_calls (mS l) n (by omega) W)
  have hex : (bs (plainL l)).extract 0 (backL (plainL l) 600) = bs (mS l) := bs_take _ _
  have HmA : Hid (backL (mS l) n = mA l n) := Lib.hid rfl
  have Hsh := Lib.hid (mS_short l)
  have hsz := bs_size (plainL l)
  generalize backL (mS l) n = a at *
  generalize mA l n = a' at *
  obtain rfl := HmA.out
  generalize backL (plainL l) 600 = b at *
  generalize mS l = m at *
  generalize plainL l = p at *
  by_cases h6 : 600 < p.length
  · have hd : decide ((600 : Int) < (p.length : Int)) = true := decide_eq_true (by omega)
    go_enter Tryd.func13, Tryd.ntmps13
    go_wp2_with fail
    refine (HP.out _).mono ?_
    rintro e w1 ⟨rfl, hb1⟩
    have k1 := k0.trans (hb1.mono k0.size)
    have g1 := hb0.below hb1
    clear hb1
    go_wp2_with fail
    refine (HB1.out _).mono ?_
    rintro e w2 ⟨rfl, hb2⟩
    have k2 := k1.trans (hb2.mono k1.size)
    have g2 := g1.below hb2
    clear hb2 g1 k1
    go_wp2_with fail
    refine (HB2.out _).mono ?_
    rintro e w3 ⟨rfl, hb3⟩
    have k3 := k2.trans (hb3.mono k2.size)
    have g3 := g2.below hb3
    have c0 := g3.c0
    have c1 := g3.c1
    have f0 := g3.f0
    have f1 := g3.f1
    have G3 := Lib.hid g3
    have K3 := Lib.hid k3
    clear hb3 g2 k2 g3 k3
    go_wp2
    refine bodyPost_ret (results_bx rfl _ _ w.heap.size (.string (bs m)) (.int .i64 (a : Int)) 27 rfl ((G3.out.set0 _).set1 _) Tryd.underlying27 (sizeRBuf _)) rfl ?_
    exact ⟨rfl, (K3.out.setCell (p := ⟨w.heap.size, 0, none⟩) (Nat.le_refl _) _).setCell (p := ⟨w.heap.size, 1, none⟩) (Nat.le_refl _) _⟩
  · have hd : decide ((600 : Int) < (p.length : Int)) = false := decide_eq_false (by omega)
    obtain rfl := Hsh.out (by omega)
    clear Hsh hex
    go_enter Tryd.func13, Tryd.ntmps13
    go_wp2_with fail
    refine (HP.out _).mono ?_
    rintro e w1 ⟨rfl, hb1⟩
    have k1 := k0.trans (hb1.mono k0.size)
    have g1 := hb0.below hb1
    clear hb1
    go_wp2_with fail
    refine (HB2.out _).mono ?_
    rintro e w3 ⟨rfl, hb3⟩
    have k3 := k1.trans (hb3.mono k1.size)
    have g3 := g1.below hb3
    have c0 := g3.c0
    have c1 := g3.c1
    have f0 := g3.f0
    have f1 := g3.f1
    have G3 := Lib.hid g3
    have K3 := Lib.hid k3
    clear hb3 g1 k1 g3 k3
    go_wp2
    refine bodyPost_ret (results_bx rfl _ _ w.heap.size (.string (bs _)) (.int .i64 (a : Int)) 27 rfl ((G3.out.set0 _).set1 _) Tryd.underlying27 (sizeRBuf _)) rfl ?_
    exact ⟨rfl, (K3.out.setCell (p := ⟨w.heap.size, 0, none⟩) (Nat.le_refl _) _).setCell (p := ⟨w.heap.size, 1, none⟩) (Nat.le_refl _) _⟩
end Go.Proofs.YtifdgaklchihbaaDoor
