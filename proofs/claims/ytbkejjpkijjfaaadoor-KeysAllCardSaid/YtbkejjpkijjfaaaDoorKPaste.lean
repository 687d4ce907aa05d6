/-
  keys.putPasted: what the call comes to, in any memory; rows of keys.
-/
import Derived.Test.YtbkejjpkijjfaaaDoorKDec
import Derived.Test.YtbkejjpkijjfaaaDoorKSign
import Derived.Test.YtbkejjpkijjfaaaDoorPlains
import Derived.Test.YtbkejjpkijjfaaaDoorRowB
namespace Go.Proofs.YtbkejjpkijjfaaaDoor
open Go Go.RowKit
set_option maxRecDepth 100000

/-- Keys as cells. -/
def cellsK (ks : List KV) : List Value := ks.flatMap fun k => [.int .i64 (k.1 : Int), .string (bs k.2)]
theorem cellsK_length (ks : List KV) : (cellsK ks).length = ks.length * 2 := by
  induction ks with
  | nil => rfl
  | cons k t ih => simp only [cellsK, List.flatMap_cons, List.length_append, List.length_cons, List.length_nil] at ih ⊢; omega
theorem cellsK_append (a b : List KV) : cellsK (a ++ b) = cellsK a ++ cellsK b := by simp [cellsK]
theorem own_key (w : World) (base : Nat) (hb : base ≤ w.heap.size) (k : KV) : (w.alloc (.cells #[.int .i64 (k.1 : Int), .string (bs k.2)] 44)).ownsRow base 44 2 (.slice (some ⟨w.heap.size, 0, none⟩) 1 1) 1 (cellsK [k]) :=
  ⟨rfl, .inr ⟨w.heap.size, 1, #[.int .i64 (k.1 : Int), .string (bs k.2)], rfl, hb, heap_alloc_new w _, Nat.le_refl _, by unfold maxLen; omega, rfl, rfl⟩⟩
theorem ends_index (e : Nat) (he : e < 6) : ∀ W : World, (Instr.index 9 (.string ⟨#[27, 91, 50, 48, 49, 126]⟩) (.int .i64 (e : Int))).run Tryd.prog W = .ok (.int .u8 ((pasteE.getD e 0).toNat : Int)) W := by
  have h : e = 0 ∨ e = 1 ∨ e = 2 ∨ e = 3 ∨ e = 4 ∨ e = 5 := by omega
  rcases h with rfl | rfl | rfl | rfl | rfl | rfl <;> exact fun W => by kernel_rfl
theorem ends_cut (e : Nat) (he : e < 6) : ∀ W : World, (Instr.slice 9 (.string ⟨#[27, 91, 50, 48, 49, 126]⟩) none (some (.int .i64 (e : Int))) none).run Tryd.prog W = .ok (.string (bs (pasteE.take e))) W := by
  have h : e = 0 ∨ e = 1 ∨ e = 2 ∨ e = 3 ∨ e = 4 ∨ e = 5 := by omega
  rcases h with rfl | rfl | rfl | rfl | rfl | rfl <;> exact fun W => by kernel_rfl

/-- What a call that a decoder tells keys comes to. -/
def Told4 (w : World) (g : Nat) (r : List KV × Dec) (e : Ending) (w' : World) : Prop :=
  ∃ v, e = .returned v ∧ w'.ownsRow w.heap.size 44 2 v r.1.length (cellsK r.1) ∧ DecAt w' g r.2 ∧ w.grownBy w' (some g)
theorem told_none {w w' : World} {g : Nat} {d : Dec} (h : DecAt w' g d) (hg : w.grownBy w' (some g)) : Told4 w g ([], d) (.returned (.slice none 0 0)) w' := ⟨_, rfl, World.ownsRow_nil _ _ _ _, h, hg⟩
theorem told_one {w w' : World} {g : Nat} {d : Dec} {k : KV} (h : DecAt w' g d) (hg : w.grownBy w' (some g)) :
    Told4 w g ([k], d) (.returned (.slice (some ⟨w'.heap.size, 0, none⟩) 1 1)) (w'.alloc (.cells #[.int .i64 (k.1 : Int), .string (bs k.2)] 44)) :=
  ⟨_, rfl, own_key w' _ hg.size k, h.keep (Below.heap_alloc w' _ _ h.lt), hg.os, hg.tape, hg.output, Nat.le_trans hg.size (by simp), fun i hi hne => (Below.heap_alloc w' _ i (Nat.lt_of_lt_of_le hi hg.size)).trans (hg.block i hi hne)⟩
theorem grown_cell (w : World) (g i : Nat) (v : Value) : w.grownBy (w.setCell ⟨g, i, none⟩ v) (some g) := ⟨rfl, rfl, rfl, by simp [World.setCell], fun k hk hne => Below.heap_setCell w ⟨g, i, none⟩ v k (by rintro rfl; exact hne rfl)⟩
theorem grown_trans {a b c : World} {r : Option Nat} (h : a.grownBy b r) (k : b.grownBy c r) : a.grownBy c r :=
  ⟨k.os.trans h.os, k.tape.trans h.tape, k.output.trans h.output, Nat.le_trans h.size k.size, fun i hi hne => (k.block i (Nat.lt_of_lt_of_le hi h.size) hne).trans (h.block i hi hne)⟩
theorem grown_below {a b : World} {r : Option Nat} (h : Below a.heap.size a b) : a.grownBy b r := ⟨h.os, h.tape, h.output, h.size, fun i hi _ => h.block i hi⟩

/-- A decoder that is made a zero one. -/
abbrev zeroW (w : World) (g : Nat) : World := (((w.setCell ⟨g, 0, none⟩ (.string ⟨#[]⟩)).setCell ⟨g, 1, none⟩ (.string ⟨#[]⟩)).setCell ⟨g, 2, none⟩ (.int .i64 0)).setCell ⟨g, 3, none⟩ (.bool false)
theorem zeroW_size (w : World) (g : Nat) : (zeroW w g).heap.size = w.heap.size := by simp [World.setCell]
theorem dec_zero {w : World} {g : Nat} {d : Dec} (h : DecAt w g d) : DecAt (zeroW w g) g Dec.zero :=
  (((h.set_ 0 _ (d' := ⟨[], d.p, d.e, d.t⟩) rfl).set_ 1 _ (d' := ⟨[], [], d.e, d.t⟩) rfl).set_ 2 _ (d' := ⟨[], [], 0, d.t⟩) rfl).set_ 3 _ (d' := Dec.zero) rfl
theorem grown_zero (w : World) (g : Nat) : w.grownBy (zeroW w g) (some g) := grown_trans (grown_trans (grown_trans (grown_cell _ _ _ _) (grown_cell _ _ _ _)) (grown_cell _ _ _ _)) (grown_cell _ _ _ _)
theorem grown_alloc {w w' : World} {r : Option Nat} (h : w.grownBy w' r) (o : Obj) : w.grownBy (w'.alloc o) r := ⟨h.os, h.tape, h.output, Nat.le_trans h.size (by simp), fun i hi hne => (Below.heap_alloc w' o i (Nat.lt_of_lt_of_le hi h.size)).trans (h.block i hi hne)⟩
theorem DecAt.alloc {w : World} {g : Nat} {d : Dec} (h : DecAt w g d) (o : Obj) : DecAt (w.alloc o) g d := h.keep (Below.heap_alloc w _ _ h.lt)

set_option maxHeartbeats 4000000 in
theorem putP_calls (g : Nat) (d : Dec) (x : UInt8) (w : World) (h : DecAt w g d) (hok : d.Ok) (ht : d.t = false) :
    Calls Tryd.prog 29 #[.pointer (some ⟨g, 0, none⟩), .int .u8 (x.toNat : Int)] w (Told4 w g (putP d x)) := by
  obtain ⟨hw19, hp, he, _⟩ := hok
  have hix := ends_index d.e he
  have c2 := h.c2
  have f2 := h.free 2
  have hx := x.toNat_lt
  have hy := (pasteE.getD d.e 0).toNat_lt
  have H := Lib.hid h
  have Ht := Lib.hid ht
  clear h ht
  by_cases hxe : x = pasteE.getD d.e 0
  · have hq : ((x.toNat : Int) == ((pasteE.getD d.e 0).toNat : Int)) = true := beq_iff_eq.2 (by rw [← hxe])
    have hq2 : (x.toNat == (pasteE.getD d.e 0).toNat) = true := beq_iff_eq.2 (by rw [← hxe])
    by_cases h6 : d.e + 1 < 6
    · have hr : putP d x = ([], ⟨d.w, d.p, d.e + 1, false⟩) := by unfold putP; rw [if_pos hxe, if_pos h6]
      have hS : DecAt (w.setCell ⟨g, 2, none⟩ (.int .i64 ((d.e + 1 : Nat) : Int))) g ⟨d.w, d.p, d.e + 1, false⟩ := H.out.set_ 2 _ (by rw [Ht.out]; rfl)
      rw [hr]
      have hS2 := Lib.hid hS
      clear hr hS hxe
      generalize (pasteE.getD d.e 0).toNat = y at *
      generalize x.toNat = z at *
      generalize d.e = n at *
      have hk : (n : Int) + 1 < 6 := by omega
      go_enter Tryd.func29, Tryd.ntmps29
      go_wp2
      go_ret
      exact told_none hS2.out (grown_cell _ _ _ _)
    · obtain h5 : d.e = 5 := by omega
      have hr : putP d x = ([(26, plainL d.p)], Dec.zero) := by unfold putP; rw [if_pos hxe, if_neg h6]
      have hS : DecAt (w.setCell ⟨g, 2, none⟩ (.int .i64 6)) g ⟨d.w, d.p, 6, false⟩ := H.out.set_ 2 _ (by rw [Ht.out]; rfl)
      have hG := grown_cell w g 2 (.int .i64 6)
      rw [hr]
      have HP := Lib.hid (fun W => plain_calls d.p (by omega) W)
      have q1 := hS.c1
      have hS2 := Lib.hid hS
      have HG := Lib.hid hG
      have hix5 : ∀ W : World, (Instr.index 9 (.string ⟨#[27, 91, 50, 48, 49, 126]⟩) (.int .i64 5)).run Tryd.prog W = .ok (.int .u8 ((pasteE.getD 5 0).toNat : Int)) W := ends_index 5 (by decide)
      have c25 : w.cell? ⟨g, 2, none⟩ = some (.int .i64 5) := by rw [c2, h5]; rfl
      rw [h5] at hq hq2
      clear hr hS hxe hp hG h6 h5 he hy c2 hix
      generalize (pasteE.getD 5 0).toNat = y at *
      generalize x.toNat = z at *
      generalize hpl : plainL d.p = pl at *
      clear hpl
      generalize d.p = dp at *
      go_enter Tryd.func29, Tryd.ntmps29
      go_wp2_with fail
      refine (HP.out _).mono ?_
      rintro e w1 ⟨rfl, hb1⟩
      have z1 : w.heap.size ≤ w1.heap.size := by have := hb1.size; simpa [World.setCell] using this
      have h1 := hS2.out.below hb1 (by have := hS2.out.lt; simpa [World.setCell] using this)
      have g1 := grown_trans HG.out (grown_below (r := some g) hb1)
      have x1 := Bx.new w1 44 (.int .i64 26) (.string (bs pl))
      have d0 := h1.c0
      have d1 := h1.c1
      have d2 := h1.c2
      have d3 := h1.c3
      have e0 := h1.free 0
      have e1 := h1.free 1
      have e2 := h1.free 2
      have e3 := h1.free 3
      have hne : g ≠ w1.heap.size := by have := h1.lt; omega
      have hg1 := h1.lt
      have H1 := Lib.hid h1
      have G1 := Lib.hid g1
      clear h1 g1 hb1 c25 f2 q1
      go_wp2
      go_ret
      have T := told_one (w := w) (g := g) (k := (26, pl)) ((dec_zero H1.out).alloc (.cells #[.int .i64 26, .string (bs pl)] 44)) (grown_alloc (grown_trans G1.out (grown_zero w1 g)) _)
      rw [World.size_alloc, zeroW_size] at T
      exact T
  · have hq : ((x.toNat : Int) == ((pasteE.getD d.e 0).toNat : Int)) = false := beq_eq_false_iff_ne.2 (fun h => hxe (UInt8.toNat_inj.1 (by omega)))
    have hq2 : (x.toNat == (pasteE.getD d.e 0).toNat) = false := beq_eq_false_iff_ne.2 (fun h => hxe (UInt8.toNat_inj.1 h))
    have hsl := ends_cut d.e he
    have hix0 : ∀ W : World, (Instr.index 9 (.string ⟨#[27, 91, 50, 48, 49, 126]⟩) (.int .i64 0)).run Tryd.prog W = .ok (.int .u8 27) W := fun W => by kernel_rfl
    have htl : (pasteE.take d.e).length ≤ 6 := by have : pasteE.length = 6 := rfl; rw [List.length_take]; omega
    have HK := Lib.hid (keep_calls g d (pasteE.take d.e) w H.out hp (by omega))
    have hkl := keepL_le d.p (pasteE.take d.e) hp
    by_cases h27 : x = 27
    · have hr : putP d x = ([], ⟨d.w, keepL d.p (pasteE.take d.e), 1, false⟩) := by unfold putP; rw [if_neg hxe, if_pos h27]
      rw [hr]
      have hz : ((x.toNat : Int) == 27) = true := by rw [h27]; rfl
      clear hr hxe h27 hx he htl hkl
      generalize (pasteE.getD d.e 0).toNat = y at *
      generalize pasteE.take d.e = te at *
      generalize x.toNat = z at *
      go_enter Tryd.func29, Tryd.ntmps29
      go_wp2_with fail
      refine HK.out.mono ?_
      rintro e w1 ⟨rfl, h1, g1⟩
      have d2 := h1.c2
      have e2 := h1.free 2
      have H1 := Lib.hid h1
      have G1 := Lib.hid g1
      clear h1 g1 c2 f2 HK
      go_wp2
      go_ret
      exact told_none ((H1.out.set_ 2 _ (d' := ⟨d.w, keepL d.p te, 0, d.t⟩) rfl).set_ 2 _ (by rw [Ht.out]; rfl)) (grown_trans (grown_trans G1.out (grown_cell _ _ _ _)) (grown_cell _ _ _ _))
    · have hr : putP d x = ([], ⟨d.w, keepL (keepL d.p (pasteE.take d.e)) [x], 0, false⟩) := by unfold putP; rw [if_neg hxe, if_neg h27]
      rw [hr]
      have hz : ((x.toNat : Int) == 27) = false := beq_eq_false_iff_ne.2 (fun h => h27 (UInt8.toNat_inj.1 (by have : (27 : UInt8).toNat = 27 := rfl; omega)))
      have HX : Hid (∀ W : World, (convert 27 9 (.slice (some ⟨W.heap.size, 0, none⟩) 1 1)).run Tryd.prog (W.alloc (.cells #[.int .u8 (x.toNat : Int)] 5)) = .ok (.string (bs [x])) (W.alloc (.cells #[.int .u8 (x.toNat : Int)] 5))) :=
        Lib.hid fun W => (byt_lit W [x]).convert (P := Tryd.prog) 1 27 5 9 Tryd.underlying27 Tryd.underlying5 Tryd.underlying9 1 rfl
      clear hr hxe h27 hx he htl
      generalize (pasteE.getD d.e 0).toNat = y at *
      generalize pasteE.take d.e = te at *
      generalize hxx : [x] = xl at *
      have hxl : xl.length ≤ 1000 := by rw [← hxx]; simp
      clear hxx
      generalize x.toNat = z at *
      go_enter Tryd.func29, Tryd.ntmps29
      go_wp2_with fail
      refine HK.out.mono ?_
      rintro e w1 ⟨rfl, h1, g1⟩
      have d2 := h1.c2
      have e2 := h1.free 2
      have h2 : DecAt (w1.setCell ⟨g, 2, none⟩ (.int .i64 0)) g ⟨d.w, keepL d.p te, 0, d.t⟩ := h1.set_ 2 _ (d' := ⟨d.w, keepL d.p te, 0, d.t⟩) rfl
      have g2 := grown_alloc (grown_trans g1 (grown_cell w1 g 2 (.int .i64 0))) (.cells #[.int .u8 (z : Int)] 5)
      have hcv := HX.out (w1.setCell ⟨g, 2, none⟩ (.int .i64 0))
      have HK2 := Lib.hid (keep_calls g _ xl _ (h2.alloc (.cells #[.int .u8 (z : Int)] 5)) hkl hxl)
      have hsz : (w1.setCell ⟨g, 2, none⟩ (.int .i64 0)).heap.size = w1.heap.size := by simp [World.setCell]
      rw [hsz] at hcv
      have G2 := Lib.hid g2
      clear h1 g1 h2 g2 c2 f2 HK hsz
      go_wp2_with fail
      refine HK2.out.mono ?_
      rintro e w3 ⟨rfl, h3, g3⟩
      have H3 := Lib.hid h3
      have G3 := Lib.hid g3
      clear h3 g3 HK2 hcv d2 e2
      go_wp2
      go_ret
      exact told_none (by have := H3.out; rwa [Ht.out] at this) (grown_trans G2.out G3.out)
end Go.Proofs.YtbkejjpkijjfaaaDoor
