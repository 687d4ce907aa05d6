/-
  The document's frames: number and Pack (layer 11).
-/
import Derived.Test.YtjfikdldabmciaaDoorFrameMath
import Derived.Test.YtjfikdldabmciaaDoorROf
import Derived.Test.YtjfikdldabmciaaDoorRowB
import Derived.Test.YtjfikdldabmciaaDoorBEq
namespace Go.Proofs.YtjfikdldabmciaaDoor
open Go Go.RowKit
set_option maxRecDepth 100000

theorem info8_11 : ∃ i, Tryd.prog.info? 5 = some i ∧ i.zero = some (.int .u8 0) ∧ i.size = 1 ∧ i.bytes = 1 := by
  obtain ⟨i, h, h2⟩ := Option.map_eq_some_iff.1 info8
  simp only [Prod.mk.injEq] at h2
  exact ⟨i, h, h2.1, h2.2.1, h2.2.2⟩
set_option maxHeartbeats 4000000 in
theorem rnum11_calls (g o c : Nat) (x y : UInt8) (w : World) (c0 : w.cell? ⟨g, o, none⟩ = some (.int .u8 (x.toNat : Int))) (c1 : w.cell? ⟨g, o + 1, none⟩ = some (.int .u8 (y.toNat : Int))) :
    Calls Tryd.prog 24 #[.slice (some ⟨g, o, none⟩) 2 c] w fun e w' => e = .returned (.int .i64 ((x.toNat + 256 * y.toNat : Nat) : Int)) ∧ w' = w := by
  have HC := Lib.hid (And.intro c0 c1)
  have hx := x.toNat_lt
  have hy := y.toNat_lt
  clear c0 c1
  go_enter Tryd.func24, Tryd.ntmps24
  go_wp2_with fail
  go_loopw [3, 4] (fun v3 v4 wr => ((v4 = .int .i64 1 ∧ v3 = .int .i64 0) ∨ (v4 = .int .i64 0 ∧ v3 = .int .i64 (y.toNat : Int)) ∨ (v4 = .int .i64 (-1) ∧ v3 = .int .i64 ((x.toNat + 256 * y.toNat : Nat) : Int))) ∧ wr = w) (fun _ v4 _ => (intOf v4 + 1).toNat)
  case atStart => exact ⟨.inl ⟨rfl, rfl⟩, rfl⟩
  case round =>
    obtain ⟨h, rfl⟩ := hrel
    obtain ⟨c0, c1⟩ := HC.out
    rcases h with ⟨rfl, rfl⟩ | ⟨rfl, rfl⟩ | ⟨rfl, rfl⟩
    · have hw : IntKind.i64.wrap (y.toNat : Int) = (y.toNat : Int) := by rw [IntKind.wrap_i64]; omega
      go_wp2_with fail
      go_roundw
      case rel => exact ⟨.inr (.inl ⟨rfl, by go_num⟩), trivial⟩
      case measure => simp [intOf]
    · have hw : IntKind.i64.wrap (x.toNat : Int) = (x.toNat : Int) := by rw [IntKind.wrap_i64]; omega
      go_wp2_with fail
      go_roundw
      case rel => exact ⟨.inr (.inr ⟨rfl, by go_num⟩), trivial⟩
      case measure => simp [intOf]
    · clear HC
      go_wp2_with fail
      go_ret
      exact ⟨rfl, rfl⟩
theorem byt_head (w : World) (p : List UInt8) (hl : p.length ≤ 1000) : Byt (w.alloc (.cells #[.int .u8 ((p.length : Int) % 256), .int .u8 ((p.length : Int) / 256)] 5)) (some ⟨w.heap.size, 0, none⟩) (headF p) := by
  have h := byt_lit w (headF p)
  have e : (Lib.byteCells (headF p)).toArray = #[.int .u8 ((p.length : Int) % 256), .int .u8 ((p.length : Int) / 256)] := by
    unfold headF Lib.byteCells
    have e1 : ((UInt8.ofNat (p.length % 256)).toNat : Int) = (p.length : Int) % 256 := by rw [UInt8.toNat_ofNat']; omega
    have e2 : ((UInt8.ofNat (p.length / 256)).toNat : Int) = (p.length : Int) / 256 := by rw [UInt8.toNat_ofNat']; omega
    simp only [List.map_cons, List.map_nil]
    rw [e1, e2]
  rwa [e] at h
theorem own_empty2 (w : World) (base k : Nat) (hk : k = w.heap.size) (hb : base ≤ w.heap.size) : (w.alloc (.cells #[] 5)).ownsRow base 5 1 (.slice (some ⟨k, 0, none⟩) 0 0) ([] : List UInt8).length (Lib.byteCells []) := by
  rw [hk]
  exact own_empty w base hb
set_option maxHeartbeats 4000000 in
theorem rpack11_calls (A : Option Addr) (c : Nat) (p : List UInt8) (w : World) (hb : Byt w A p) (hA : A = none → c = 0) (hl : p.length ≤ 1000) :
    Calls Tryd.prog 11 #[.slice A p.length c] w fun e w' => ∃ A' c', e = .returned (.tuple #[.slice A' (packF p).length c', .int .i64 0]) ∧ w'.ownsRow w.heap.size 5 1 (.slice A' (packF p).length c') (packF p).length (Lib.byteCells (packF p)) ∧ Below w.heap.size w w' := by
  obtain ⟨i0, hi0, hz0, hz1, hz2⟩ := info8_11
  have HB := Lib.hid hb
  have HA := Lib.hid hA
  have hl2 : (p.length : Int) ≤ 1000 := by omega
  have hl0 : (0 : Int) ≤ (p.length : Int) := by omega
  have d0 : decide (1000 < (p.length : Int)) = false := decide_eq_false (by omega)
  have ba := (Below.refl _ w).alloc (Nat.le_refl _) (.cells #[.int .u8 ((p.length : Int) % 256), .int .u8 ((p.length : Int) / 256)] 5)
  have hsz : (w.alloc (.cells #[.int .u8 ((p.length : Int) % 256), .int .u8 ((p.length : Int) / 256)] 5)).heap.size = w.heap.size + 1 := World.size_alloc _ _
  have hh := byt_head w p hl
  obtain ⟨W, hW⟩ : ∃ W, w.alloc (.cells #[.int .u8 ((p.length : Int) % 256), .int .u8 ((p.length : Int) / 256)] 5) = W := ⟨_, rfl⟩
  rw [hW] at ba hsz hh
  have HSz := Lib.hid hsz
  have HBa := Lib.hid ba
  have HH := Lib.hid hh
  have HBW := Lib.hid (hb.below ba)
  clear hb hA ba hsz hh
  go_enter Tryd.func11, Tryd.ntmps11
  go_wp2_with (at_builtin; refine wpList_append_byt _ rfl _ _ 22 rfl W.heap.size i0 Tryd.underlying22 hi0 hz0 hz1 hz2 (.slice (some ⟨W.heap.size, 0, none⟩) 0 0) [] rfl ?own (some ⟨w.heap.size, 0, none⟩) 2 (headF p) rfl (fun h => by cases h) ?byt (by simp [headF]) ?base ?_)
  case own => exact own_empty W W.heap.size (Nat.le_refl _)
  case byt => exact HH.out.alloc _
  case base => simp
  intro v1 w1 hown1 hgr1 _
  have hb1 : Below W.heap.size W w1 := ((Below.refl _ W).alloc (Nat.le_refl _) _).grown hgr1 (by simp) (fun k hk => Nat.le_of_eq (Option.some.inj hk))
  have HO1 := Lib.hid hown1
  have HB1 := Lib.hid hb1
  have HP1 := Lib.hid (HBW.out.below hb1)
  clear hown1 hgr1 hb1
  go_wp2_with (at_builtin; refine wpList_append_byt _ rfl _ _ 22 rfl W.heap.size i0 Tryd.underlying22 hi0 hz0 hz1 hz2 v1 (headF p) rfl HO1.out A c p rfl HA.out HP1.out (by simp [headF]; omega) HB1.out.size ?_)
  intro v2 w2 hown2 hgr2 _
  have hb2 : Below W.heap.size W w2 := below_own HB1.out hgr2 HO1.out (Nat.le_refl _) HB1.out.size
  obtain ⟨A2, c2, rfl⟩ := own_form hown2
  have hof := rof_calls A2 c2 (headF p ++ p) w2 (byt_of_own (n := (headF p ++ p).length) (by rw [List.length_append]; exact hown2)).1 (by simp [headF]; omega)
  rw [List.length_append] at hof
  have HOf := Lib.hid hof
  clear hof
  have HB2 := Lib.hid hb2
  clear hown2 hgr2 hb2 HO1 HP1 HB1
  go_wp2_with fail
  refine HOf.out.mono ?_
  rintro e w3 ⟨rfl, hb3⟩
  have HB3 : Hid (Below W.heap.size W w3) := Lib.hid (HB2.out.trans (hb3.mono HB2.out.size))
  have HH3 := Lib.hid (HH.out.below HB3.out)
  clear hb3 HOf HB2
  obtain ⟨s, hs⟩ : ∃ s, s = crcL (headF p ++ p) := ⟨_, rfl⟩
  rw [← hs]
  have HS := Lib.hid hs
  clear hs
  go_wp2_with (at_builtin; refine wpList_append_byt _ rfl _ _ 22 rfl W.heap.size i0 Tryd.underlying22 hi0 hz0 hz1 hz2 (.slice (some ⟨w3.heap.size, 0, none⟩) 0 0) [] rfl ?own (some ⟨w.heap.size, 0, none⟩) 2 (headF p) rfl (fun h => by cases h) ?byt (by simp [headF]) ?base ?_)
  case own => exact own_empty w3 W.heap.size HB3.out.size
  case byt => exact HH3.out.alloc _
  case base => have := HB3.out.size; simp; omega
  intro v4 w4 hown4 hgr4 _
  have hb4 : Below W.heap.size W w4 := (HB3.out.alloc HB3.out.size _).grown hgr4 (by have := HB3.out.size; simp; omega) (fun k hk => by have h1 := Option.some.inj hk; rw [← h1]; exact HB3.out.size)
  have HO4 := Lib.hid hown4
  have HB4 := Lib.hid hb4
  clear hown4 hgr4 hb4 HH3 HB3
  go_wp2_with fail
  go_loopw [5, 6, 7] (fun v5 v6 v7 wr => ∃ k : Nat, k ≤ 4 ∧ v7 = .int .i64 (k : Int) ∧ v5 = .int .u32 ((s.toNat / 256 ^ k : Nat) : Int) ∧ Hid (wr.ownsRow W.heap.size 5 1 v6 (headF p ++ (bl4 s).take k).length (Lib.byteCells (headF p ++ (bl4 s).take k))) ∧ Hid (Below W.heap.size W wr)) (fun _ _ v7 _ => 4 - (intOf v7).toNat)
  case atStart => exact ⟨0, by omega, rfl, by simp, by simpa using HO4, HB4⟩
  case round =>
    obtain ⟨k, hk, rfl, rfl, HOk, HBk⟩ := hrel
    clear HO4 HB4
    by_cases hlt : k < 4
    · have hkl : (k : Int) < 4 := by omega
      have hlt4 : s.toNat / 256 ^ k < 4294967296 := Nat.lt_of_le_of_lt (Nat.div_le_self _ _) s.isLt
      have HTk : Hid (headF p ++ (bl4 s).take (k + 1) = (headF p ++ (bl4 s).take k) ++ [UInt8.ofNat (s.toNat / 256 ^ k % 256)]) := Lib.hid (by
        rw [List.append_assoc]
        rcases (by omega : k = 0 ∨ k = 1 ∨ k = 2 ∨ k = 3) with rfl | rfl | rfl | rfl <;> rfl)
      have hln : (headF p ++ (bl4 s).take k).length ≤ 100 := by rw [List.length_append, headF_length, List.length_take]; omega
      have HDiv : Hid (s.toNat / 256 ^ k / 256 = s.toNat / 256 ^ (k + 1)) := Lib.hid (by rw [Nat.div_div_eq_div_mul, Nat.pow_succ])
      generalize s.toNat / 256 ^ k = q at *
      generalize headF p ++ (bl4 s).take k = acc at *
      have hlit : Hid (Byt (wr.alloc (.cells #[.int .u8 ((q : Int) % 256)] 5)) (some ⟨wr.heap.size, 0, none⟩) [UInt8.ofNat (q % 256)]) := Lib.hid (by
        have h := byt_lit wr [UInt8.ofNat (q % 256)]
        have e : (Lib.byteCells [UInt8.ofNat (q % 256)]).toArray = #[.int .u8 ((q : Int) % 256)] := by
          unfold Lib.byteCells
          have e1 : ((UInt8.ofNat (q % 256)).toNat : Int) = (q : Int) % 256 := by rw [UInt8.toNat_ofNat']; omega
          simp only [List.map_cons, List.map_nil]
          rw [e1]
        rwa [e] at h)
      go_wp2_with (at_builtin; refine wpList_append_byt _ rfl _ _ 22 rfl W.heap.size i0 Tryd.underlying22 hi0 hz0 hz1 hz2 u6 acc rfl (HOk.out.alloc _) (some ⟨wr.heap.size, 0, none⟩) 1 [UInt8.ofNat (q % 256)] rfl (fun h => by cases h) hlit.out (by simp only [List.length_singleton]; omega) (by have := HBk.out.size; simp; omega) ?_)
      intro v5 w5 hown5 hgr5 _
      have hb5 : Below W.heap.size W w5 := below_own (HBk.out.alloc HBk.out.size _) hgr5 (HOk.out.alloc _) (Nat.le_refl _) (by have := HBk.out.size; simp; omega)
      have HO5 : Hid (w5.ownsRow W.heap.size 5 1 v5 (headF p ++ (bl4 s).take (k + 1)).length (Lib.byteCells (headF p ++ (bl4 s).take (k + 1)))) := Lib.hid (by rw [HTk.out, List.length_append]; exact hown5)
      have HB5 := Lib.hid hb5
      clear hown5 hgr5 hb5 hlit hln
      go_wp2_with fail
      go_roundw
      case rel => exact ⟨k + 1, by omega, by go_num, by rw [← HDiv.out]; go_num, HO5, HB5⟩
      case measure => simp [intOf]; omega
    · obtain rfl : k = 4 := by omega
      have HOk' : Hid (wr.ownsRow W.heap.size 5 1 u6 (headF p ++ bl4 s).length (Lib.byteCells (headF p ++ bl4 s))) := HOk
      clear HOk
      have HPk := Lib.hid (HBW.out.below HBk.out)
      have hpk : packF p = (headF p ++ bl4 s) ++ p := by unfold packF; rw [← HS.out, List.append_assoc]
      have hln : (headF p ++ bl4 s).length = 6 := rfl
      generalize headF p ++ bl4 s = acc at *
      have HPF := Lib.hid hpk
      go_wp2_with (at_builtin; refine wpList_append_byt _ rfl _ _ 22 rfl W.heap.size i0 Tryd.underlying22 hi0 hz0 hz1 hz2 u6 acc rfl HOk'.out A c p rfl HA.out HPk.out (by omega) HBk.out.size ?_)
      intro v7 w7 hown7 hgr7 _
      have hb7 : Below W.heap.size W w7 := below_own HBk.out hgr7 HOk'.out (Nat.le_refl _) HBk.out.size
      have hown8 : w7.ownsRow W.heap.size 5 1 v7 (acc ++ p).length (Lib.byteCells (acc ++ p)) := by rw [List.length_append, hln]; exact hown7
      obtain ⟨A7, c7, rfl⟩ := own_form hown8
      have HR := Lib.hid (And.intro (own_less hown8 HBa.out.size) (HBa.out.trans (hb7.mono HBa.out.size)))
      clear hown7 hgr7 hb7 hown8 HOk' HPk hpk hln
      go_wp2_with fail
      go_ret2
      rw [HPF.out]
      exact ⟨_, _, rfl, HR.out.1, HR.out.2⟩
theorem rpack11_long (A : Option Addr) (c : Nat) (p : List UInt8) (w : World) (hl : 1000 < p.length) :
    Calls Tryd.prog 11 #[.slice A p.length c] w fun e w' => e = .returned (.tuple #[.slice none 0 0, .int .i64 112]) ∧ Below w.heap.size w w' := by
  have d0 : decide (1000 < (p.length : Int)) = true := decide_eq_true (by omega)
  go_enter Tryd.func11, Tryd.ntmps11
  go_wp2_with fail
  go_ret2
  exact ⟨rfl, Below.refl _ _⟩
end Go.Proofs.YtjfikdldabmciaaDoor
