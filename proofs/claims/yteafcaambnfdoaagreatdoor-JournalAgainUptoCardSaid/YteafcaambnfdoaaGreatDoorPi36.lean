/-
  Layer 7 and what it stands on, part 36 (FrLib FrCat FrPack FrNext).
-/
import Derived.Test.YteafcaambnfdoaaGreatDoorPi33
import Derived.Test.YteafcaambnfdoaaGreatDoorPi35
import Derived.Lib.SliceRun
import Derived.BigRegion
namespace Go.Proofs.YteafcaambnfdoaaGreatDoor
section
open Go Go.RowKit
open Go.Lib (hid)
set_option maxRecDepth 100000
theorem RdBs.at11 {w : World} {A : Option Addr} {ls : List (List UInt8)} (h : RdBs w A ls) {k : Nat} (hk : k < ls.length) : ∃ g o Ai ci, A = some ⟨g, o, none⟩ ∧ w.cell? ⟨g, o + k, none⟩ = some (.slice Ai (ls.getD k []).length ci) ∧ Byt w Ai (ls.getD k []) ∧ (Ai = none → ci = 0) := by
 obtain ⟨g, o, e, _, hc⟩ := h (by omega)
 obtain ⟨Ai, ci, h1, h2, h3⟩ := hc k ls[k] (List.getElem?_eq_getElem hk)
 have hd : ls.getD k [] = ls[k] := by simp [List.getD, hk]
 rw [hd]
 exact ⟨g, o, Ai, ci, e, h1, h2, h3⟩
theorem nil_of {w : World} {l : List UInt8} (h : Byt w none l) : l = [] := by
 by_cases hn : 0 < l.length
 ·obtain ⟨_, _, e, _⟩ := h.at_ hn
  cases e
 ·exact List.eq_nil_of_length_eq_zero (by omega)
theorem own_head11 {w : World} {base : Nat} {e : TypeId} {A : Option Addr} {n c : Nat} {xs : List Value} (h : w.ownsRow base e 1 (.slice A n c) n xs) : w.ownsRow base e 1 (.slice A 0 c) 0 [] := by
 refine ⟨rfl, ?_⟩
 rcases h.2 with ⟨hv, h0⟩ | ⟨g, cap, cur, hv, hb, hh, hnc, hcm, hcs, htk⟩
 ·injection hv with h1 h2 h3
  subst h1; subst h3
  exact .inl ⟨rfl, rfl⟩
 ·injection hv with h1 h2 h3
  subst h1; subst h3
  exact .inr ⟨g, _, cur, rfl, hb, hh, Nat.zero_le _, hcm, hcs, by simp⟩
set_option maxHeartbeats 4000000 in
theorem clone11_calls (A : Option Addr) (c : Nat) (l : List UInt8) (w : World) (hl : Byt w A l) (hA : A = none → c = 0) (hb : l.length ≤ 1000000) :
  Calls Tryz.prog 110 #[.slice A l.length c] w fun e w' => ∃ A' c', e = .returned (.slice A' l.length c') ∧ w'.ownsRow w.heap.size 5 1 (.slice A' l.length c') l.length (Lib.byteCells l) ∧ Below w.heap.size w w' := by
 obtain ⟨i0, hi0, hz0, hz1, hz2⟩ := info8_11
 have q : ∀ (w : World) (a : Option Addr) (n c n' c' : Nat), (binOp .eql 30 (.slice a n c) (.slice none n' c')).run Tryz.prog w = .ok (.bool a.isNone) w := fun w a n c n' c' => Lib.run_eql_slice_nil w _ _ a n c n' c' Tryz.underlying30
 cases A with
 | none =>
  obtain rfl := hA rfl
  obtain rfl := nil_of hl
  clear hl hA hb
  go_enter Tryz.func110, Tryz.ntmps110
  go_wp2_with fail
  go_ret
  exact ⟨none, 0, rfl, World.ownsRow_nil _ _ _ _, Below.refl _ _⟩
 | some a =>
  have HL := hid hl
  have HN := hid hb
  clear hl hA hb
  go_enter Tryz.func110, Tryz.ntmps110
  go_wp2_with (at_builtin; refine wpList_append_byt _ rfl _ _ 30 rfl w.heap.size i0 Tryz.underlying30 hi0 hz0 hz1 hz2 (.slice (some ⟨w.heap.size, 0, none⟩) 0 0) [] rfl ?own (some a) c l rfl (fun h => by cases h) ?byt (by have := HN.out; simp; omega) ?base ?_)
  case own => exact own_empty w w.heap.size (Nat.le_refl _)
  case byt => exact HL.out.alloc _
  case base => simp
  intro v1 w1 hown1 hgr1 _
  have hb1 : Below w.heap.size w w1 := ((Below.refl _ w).alloc (Nat.le_refl _) _).grown hgr1 (by simp) (fun k hk => Nat.le_of_eq (Option.some.inj hk))
  obtain ⟨A1, c1, rfl⟩ := own_form hown1
  have HO1 := hid hown1
  have HB1 := hid hb1
  clear hown1 hgr1 hb1
  go_wp2_with fail
  go_ret
  exact ⟨A1, c1, rfl, HO1.out, HB1.out⟩
set_option maxHeartbeats 4000000 in
theorem grow11_calls (n : Nat) (w : World) (hb : n ≤ 1000000) :
  Calls Tryz.prog 154 #[.slice none 0 0, .int .i64 (n : Int)] w fun e w' => ∃ A' c', e = .returned (.slice A' 0 c') ∧ w'.ownsRow w.heap.size 5 1 (.slice A' 0 c') 0 [] ∧ Below w.heap.size w w' := by
 obtain ⟨i0, hi0, hz0, hz1, hz2⟩ := info8_11
 obtain ⟨v2, w2, r2, o2, g2⟩ := run_append_make (P := Tryz.prog) w w.heap.size 30 3 30 5 i0 (.int .u8 0) 1 Tryz.underlying30 Tryz.underlying3 hi0 hz0 hz1 hz2 rfl rfl (.slice none 0 0) 0 [] (World.ownsRow_nil _ _ _ _) n (by unfold maxLen; omega) (by omega) (Nat.le_refl _)
 obtain ⟨A2, c2, rfl⟩ := own_form o2
 have HR := hid r2
 have HO : Hid (w2.ownsRow w.heap.size 5 1 (.slice A2 0 c2) 0 []) := hid (own_head11 (n := n) (by have h := o2; rw [Nat.zero_add] at h; exact h))
 have HB : Hid (Below w.heap.size w w2) := hid ((Below.refl _ w).grown g2 (Nat.le_refl _) (fun k hk => by cases hk))
 have hnn : ¬ ((n : Int) < 0) := by omega
 clear r2 o2 g2
 by_cases h0 : 0 < n
 ·have d0 : decide (0 < (n : Int)) = true := decide_eq_true (by omega)
  go_enter Tryz.func154, Tryz.ntmps154
  go_wp2_with (at_builtin; refine Lib.wpList_append_run _ rfl _ _ _ _ rfl _ _ rfl rfl _ _ HR.out ?_)
  go_ret
  exact ⟨A2, c2, by simp, HO.out, HB.out⟩
 ·obtain rfl : n = 0 := by omega
  clear h0
  go_enter Tryz.func154, Tryz.ntmps154
  go_wp2_with fail
  go_ret
  exact ⟨none, 0, rfl, World.ownsRow_nil _ _ _ _, Below.refl _ _⟩
set_option maxHeartbeats 2000000 in
theorem sumof11_calls (A B : Option Addr) (c d : Nat) (x y : List UInt8) (w : World) (hx : Byt w A x) (hy : Byt w B y) (hlx : x.length ≤ 100000) (hly : y.length ≤ 100000) (ht : LaysR w) :
  Calls Tryz.prog 109 #[.slice A x.length c, .slice B y.length d] w fun e w' => e = .returned (.int .u32 ((crcL (x ++ y)).toNat : Int)) ∧ Below w.heap.size w w' := by
 have H1 := hid (sof_callsR A c x w hx hlx ht)
 have H2 := hid (fun W (hb : Below w.heap.size w W) => sadd_callsR (crcL x) B d y W (hy.below hb) hly (ht.on hb))
 rw [show addL (crcL x) y = crcL (x ++ y) from addL_crc x y] at H2
 clear hx hy ht
 go_enter Tryz.func109, Tryz.ntmps109
 go_wp2_with fail
 refine H1.out.mono ?_
 rintro e w1 ⟨rfl, hb1⟩
 have H3 := hid (H2.out w1 hb1)
 have HB1 := hid hb1
 clear hb1 H1 H2
 go_wp2_with fail
 refine H3.out.mono ?_
 rintro e w2 ⟨rfl, hb2⟩
 have HB2 := hid (HB1.out.trans (hb2.mono HB1.out.size))
 clear hb2 H3
 go_wp2_with fail
 go_ret
 exact ⟨rfl, HB2.out⟩
end
section
open Go Go.RowKit
open Go.Lib (hid)
set_option maxRecDepth 100000
theorem flat_take_succ {ls : List (List UInt8)} {k : Nat} (hk : k < ls.length) : (ls.take (k + 1)).flatten = (ls.take k).flatten ++ ls.getD k [] := by
 have hd : ls.getD k [] = ls[k] := by simp [List.getD, hk]
 rw [hd]
 exact flat_succ (List.getElem?_eq_getElem hk)
theorem flat_take_le11 (ls : List (List UInt8)) (k : Nat) : (ls.take k).flatten.length ≤ ls.flatten.length := by
 conv => rhs; rw [← List.take_append_drop k ls, List.flatten_append, List.length_append]
 omega
def flatF (ls : List (List UInt8)) (k : Nat) : List UInt8 := (ls.take k).flatten
set_option maxHeartbeats 4000000 in
theorem concat11_calls (A : Option Addr) (c : Nat) (ls : List (List UInt8)) (w : World) (h : RdBs w A ls) (hn : ls.flatten.length ≤ 1000000) (hl : ls.length ≤ 1000) :
  Calls Tryz.prog 139 #[.slice A ls.length c] w fun e w' => ∃ A' c', e = .returned (.slice A' ls.flatten.length c') ∧ w'.ownsRow w.heap.size 5 1 (.slice A' ls.flatten.length c') ls.flatten.length (Lib.byteCells ls.flatten) ∧ Below w.heap.size w w' := by
 obtain ⟨i0, hi0, hz0, hz1, hz2⟩ := info8_11
 have H := hid h
 have HF : Hid (∀ k, (flatF ls k).length ≤ 1000000) := hid fun k => by unfold flatF; have := flat_take_le11 ls k; omega
 have HS : Hid (∀ k, k < ls.length → flatF ls (k + 1) = flatF ls k ++ ls.getD k []) := hid fun k hk => flat_take_succ hk
 have hall : flatF ls ls.length = ls.flatten := by unfold flatF; rw [List.take_length]
 have h0 : flatF ls 0 = [] := rfl
 rw [← hall]
 have H0 := hid h0
 clear h hn hall h0
 generalize hff : flatF ls = ff at *
 clear hff
 go_enter Tryz.func139, Tryz.ntmps139
 go_wp2_with fail
 go_loopw [3, 5, 11] (fun v3 v5 v11 wr => ∃ k : Nat, k ≤ ls.length ∧ v11 = .int .i64 (k : Int) ∧ v3 = .int .i64 ((ff k).length : Int) ∧ wr = w) (fun _ _ v11 _ => ls.length - (intOf v11).toNat)
 case atStart => exact ⟨0, Nat.zero_le _, rfl, by rw [H0.out]; rfl, rfl⟩
 case round =>
  obtain ⟨k, hk, rfl, rfl, rfl⟩ := hrel
  by_cases hlt : k < ls.length
  ·obtain ⟨g1, o1, Ai, ci, rfl, hcell, hby, hno⟩ := H.out.at11 hlt
   have hkl : (k : Int) < (ls.length : Int) := by omega
   have hs := HS.out k hlt
   have hf1 := HF.out (k + 1)
   rw [hs, List.length_append] at hf1
   have HSk : Hid ((ff (k + 1)).length = (ff k).length + (ls.getD k []).length) := hid (by rw [hs, List.length_append])
   generalize ls.getD k [] = p at *
   generalize (ff k).length = q at *
   have hw1 : IntKind.i64.wrap ((q : Int) + (p.length : Int)) = (q : Int) + (p.length : Int) := IntWalk.i64_in _ (by omega)
   have hng : decide ((q : Int) + (p.length : Int) < 0) = false := decide_eq_false (by omega)
   clear hs hby hno
   go_wp2_with fail
   go_roundw
   case rel => exact ⟨k + 1, by omega, by go_num, by rw [HSk.out]; go_num, trivial⟩
   case measure => simp [intOf]; omega
  ·obtain rfl : k = ls.length := by omega
   obtain ⟨wo, rfl⟩ : ∃ wo, wo = wr := ⟨wr, rfl⟩
   have HG := hid (grow11_calls (ff ls.length).length wo (HF.out _))
   clear hlt
   go_wp2_with fail
   refine HG.out.mono ?_
   rintro e w1 ⟨A1, c1, rfl, hown1, hb1⟩
   have HB1 := hid hb1
   have HO1 : Hid (w1.ownsRow wo.heap.size 5 1 (.slice A1 0 c1) (ff 0).length (Lib.byteCells (ff 0))) := hid (by rw [H0.out]; exact hown1)
   clear hown1 hb1 HG
   go_wp2_with fail
   go_loopw [6, 8, 27] (fun v6 v8 v27 wq => ∃ k : Nat, k ≤ ls.length ∧ v27 = .int .i64 (k : Int) ∧ Hid (wq.ownsRow wo.heap.size 5 1 v6 (ff k).length (Lib.byteCells (ff k))) ∧ Hid (Below wo.heap.size wo wq)) (fun _ _ v27 _ => ls.length - (intOf v27).toNat)
   case atStart => exact ⟨0, Nat.zero_le _, rfl, HO1, HB1⟩
   case round =>
    obtain ⟨k, hk2, rfl, hown, hbl⟩ := hrel
    by_cases hlt : k < ls.length
    ·obtain ⟨g1, o1, Ai, ci, rfl, hcell, hby, hno⟩ := (H.out.below hbl.out).at11 hlt
     have hkl : (k : Int) < (ls.length : Int) := by omega
     have hs := HS.out k hlt
     have hf1 := HF.out (k + 1)
     rw [hs, List.length_append] at hf1
     have HSk : Hid (ff (k + 1) = ff k ++ ls.getD k []) := hid hs
     have HBy := hid hby
     have HNo := hid hno
     have HL1 := hid hf1
     generalize ls.getD k [] = p at *
     generalize hfk : ff k = fk at *
     clear hs hby hno hf1 hfk
     go_wp2_with (at_builtin; refine wpList_append_byt _ rfl _ _ 30 rfl wo.heap.size i0 Tryz.underlying30 hi0 hz0 hz1 hz2 u6 fk rfl hown.out Ai ci p rfl HNo.out HBy.out (by have := HL1.out; omega) hbl.out.size ?_)
     intro v' w' hown' hgr' _
     have HB' : Hid (Below wo.heap.size wo w') := hid (below_own hbl.out hgr' hown.out (Nat.le_refl _) hbl.out.size)
     have HO' : Hid (w'.ownsRow wo.heap.size 5 1 v' (ff (k + 1)).length (Lib.byteCells (ff (k + 1)))) := hid (by rw [HSk.out, List.length_append]; exact hown')
     clear hown' hgr'
     go_wp2_with fail
     go_roundw
     case rel => exact ⟨k + 1, by omega, by go_num, HO', HB'⟩
     case measure => simp [intOf]; omega
    ·obtain rfl : k = ls.length := by omega
     obtain ⟨A2, c2, rfl⟩ := own_form hown.out
     go_wp2_with fail
     go_ret
     exact ⟨A2, c2, rfl, hown.out, hbl.out⟩
end
section
open Go Go.RowKit
open Go.Lib (hid)
set_option maxRecDepth 100000
def partsP (p : List UInt8) : List (List UInt8) := [headF p, bl4 (crcL (headF p ++ p)), p]
theorem partsP_flat (p : List UInt8) : (partsP p).flatten = packF p := by unfold partsP packF; simp
theorem bl4_cells (s : BitVec 32) : (Lib.byteCells (bl4 s)) = [.int .u8 (byV s 0 : Int), .int .u8 (byV s 1 : Int), .int .u8 (byV s 2 : Int), .int .u8 (byV s 3 : Int)] := by
 unfold bl4 Lib.byteCells
 simp only [List.map_cons, List.map_nil, by_nat]
theorem byt_bl4 {w : World} {g : Nat} {s : BitVec 32} (h : BxA w g 195 [.int .u8 (byV s 0 : Int), .int .u8 (byV s 1 : Int), .int .u8 (byV s 2 : Int), .int .u8 (byV s 3 : Int)]) : Byt w (some ⟨g, 0, none⟩) (bl4 s) := by
 rw [← bl4_cells] at h
 refine Byt.mk_ fun i hi => ?_
 have := h.c i (v := .int .u8 (((bl4 s).getD i 0).toNat : Int)) (by simp [Lib.byteCells, hi, List.getD])
 rw [Nat.zero_add]
 exact this
set_option maxHeartbeats 4000000 in
theorem fpack11_calls (A : Option Addr) (c : Nat) (p : List UInt8) (w : World) (hb : Byt w A p) (hA : A = none → c = 0) (hl : p.length ≤ 1000) (ht : LaysR w) :
  Calls Tryz.prog 114 #[.slice A p.length c] w fun e w' => ∃ A' c', e = .returned (.tuple #[.slice A' (packF p).length c', .int .i64 0]) ∧ w'.ownsRow w.heap.size 5 1 (.slice A' (packF p).length c') (packF p).length (Lib.byteCells (packF p)) ∧ Below w.heap.size w w' := by
 have d0 : decide (1000 < (p.length : Int)) = false := decide_eq_false (by omega)
 have hshr : (p.length : Int) / 2 ^ 8 = (p.length : Int) / 256 := rfl
 have hm : (p.length : Int) / 256 % 256 = (p.length : Int) / 256 := by omega
 obtain ⟨W1, hW1⟩ : ∃ W1, w.alloc (.cells #[.int .u8 ((p.length : Int) % 256), .int .u8 ((p.length : Int) / 256)] 5) = W1 := ⟨_, rfl⟩
 have hb1 : Below w.heap.size w W1 := by rw [← hW1]; exact (Below.refl _ w).alloc (Nat.le_refl _) _
 have hh1 : Byt W1 (some ⟨w.heap.size, 0, none⟩) (headF p) := by rw [← hW1]; exact byt_head w p hl
 have hs1 : W1.heap.size = w.heap.size + 1 := by rw [← hW1]; simp
 have HS := hid (sumof11_calls (some ⟨w.heap.size, 0, none⟩) A 2 c (headF p) p W1 hh1 (hb.below hb1) (by rw [headF_length]; omega) (by omega) (ht.on hb1))
 rw [headF_length] at HS
 have HB := hid hb
 have HB1 := hid hb1
 have HH := hid hh1
 have HA := hid hA
 have HL := hid hl
 have HP := hid (partsP_flat p)
 clear hb hb1 hh1 hA hl ht
 go_enter Tryz.func114, Tryz.ntmps114
 go_wp2_with fail
 clear hW1 hshr hm d0
 refine HS.out.mono ?_
 rintro e w2 ⟨rfl, hb2⟩
 have HB2 := hid (HB1.out.trans (hb2.mono (by omega)))
 have HH2 := hid (HH.out.below hb2)
 have hz2 := hb2.size
 have HY := hid (sbytes_calls (crcL (headF p ++ p)) w2)
 clear hb2 HS HB1 HH
 go_wp2_with fail
 refine HY.out.mono ?_
 rintro e w3 ⟨rfl, hb3⟩
 have HB3 := hid (HB2.out.trans (hb3.mono HB2.out.size))
 have HH3 := hid (HH2.out.below hb3)
 have hz3 := hb3.size
 clear hb3 HY HB2 HH2
 go_wp2_with fail
 obtain ⟨W4, hW4⟩ : ∃ W4, w3.alloc (.cells #[.int .u8 (byV (crcL (headF p ++ p)) 0 : Int), .int .u8 (byV (crcL (headF p ++ p)) 1 : Int), .int .u8 (byV (crcL (headF p ++ p)) 2 : Int), .int .u8 (byV (crcL (headF p ++ p)) 3 : Int)] 195) = W4 := ⟨_, rfl⟩
 have hb4 : Below w3.heap.size w3 W4 := by rw [← hW4]; exact (Below.refl _ w3).alloc (Nat.le_refl _) _
 have hy4 : Byt W4 (some ⟨w3.heap.size, 0, none⟩) (bl4 (crcL (headF p ++ p))) := by rw [← hW4]; exact byt_bl4 (BxA.new w3 195 _)
 have hs4 : W4.heap.size = w3.heap.size + 1 := by rw [← hW4]; simp
 have HB4 := hid (HB3.out.trans (hb4.mono HB3.out.size))
 have HH4 := hid (HH3.out.below hb4)
 rw [hW4]
 clear hW4 hb4 HB3 HH3
 generalize hq : bl4 (crcL (headF p ++ p)) = q at *
 have hq4 : q.length = 4 := by rw [← hq]; rfl
 have e5 : #[Value.slice (some ⟨w.heap.size, 0, none⟩) 2 2, .slice (some ⟨w3.heap.size, 0, none⟩) 4 4, .slice A p.length c] = [Value.slice (some ⟨w.heap.size, 0, none⟩) 2 2, .slice (some ⟨w3.heap.size, 0, none⟩) 4 4, .slice A p.length c].toArray := rfl
 obtain ⟨W5, hW5⟩ : ∃ W5, W4.alloc (.cells #[.slice (some ⟨w.heap.size, 0, none⟩) 2 2, .slice (some ⟨w3.heap.size, 0, none⟩) 4 4, .slice A p.length c] 30) = W5 := ⟨_, rfl⟩
 have hb5 : Below W4.heap.size W4 W5 := by rw [← hW5]; exact (Below.refl _ W4).alloc (Nat.le_refl _) _
 have hx5 : BxA W5 (w3.heap.size + 1) 30 [.slice (some ⟨w.heap.size, 0, none⟩) 2 2, .slice (some ⟨w3.heap.size, 0, none⟩) 4 4, .slice A p.length c] := by rw [← hW5, ← hs4, e5]; exact BxA.new W4 30 _
 have HB5 := hid (HB4.out.trans (hb5.mono HB4.out.size))
 have HH5 := hid (HH4.out.below hb5)
 have hy5 := hy4.below hb5
 have hd : RdBs W5 (some ⟨w3.heap.size + 1, 0, none⟩) (partsP p) := fun _ => ⟨_, _, rfl, hx5.lt, fun i l hi => by
  unfold partsP at hi
  rw [hq] at hi
  match i, hi with
  | 0, hi =>
   obtain rfl : headF p = l := by simpa using hi
   exact ⟨_, _, hx5.c 0 rfl, HH5.out, fun h => by cases h⟩
  | 1, hi =>
   obtain rfl : q = l := by simpa using hi
   exact ⟨_, _, by rw [hq4]; exact hx5.c 1 rfl, hy5, fun h => by cases h⟩
  | 2, hi =>
   obtain rfl : p = l := by simpa using hi
   exact ⟨_, _, hx5.c 2 rfl, HB.out.below HB5.out, HA.out⟩
  | i + 3, hi => simp at hi⟩
 have HC := hid (concat11_calls (some ⟨w3.heap.size + 1, 0, none⟩) 3 (partsP p) W5 hd (by rw [HP.out, packF_length]; have := HL.out; omega) (by show 3 ≤ 1000; omega))
 rw [HP.out, show (partsP p).length = 3 from rfl] at HC
 rw [hW5]
 clear hW5 hb5 hx5 hy5 hd e5 hy4 HB4 HH4 hq hq4 HP
 refine HC.out.mono ?_
 rintro e w6 ⟨A6, c6, rfl, hown6, hb6⟩
 have HB6 := hid (HB5.out.trans (hb6.mono HB5.out.size))
 have HO6 := hid (own_less hown6 HB5.out.size)
 clear hown6 hb6 HC
 go_wp2_with fail
 go_ret2
 exact ⟨A6, c6, rfl, HO6.out, HB6.out⟩
end
section
open Go Go.RowKit
open Go.Lib (hid)
set_option maxRecDepth 100000
def sumF (b : List UInt8) : BitVec 32 := BitVec.ofNat 32 (readN (b.drop 2))
theorem sumF_nat (b : List UInt8) : (sumF b).toNat = readN (b.drop 2) := by
 unfold sumF
 rw [BitVec.toNat_ofNat]
 exact Nat.mod_eq_of_lt (readN_lt _)
theorem err_form {b : List UInt8} (h : ¬ formF b) : errF b = 110 ∧ nextF b = ([], 0) := by
 unfold errF nextF
 rw [if_neg h, if_neg (fun h1 : okF b => h h1.1)]
 exact ⟨rfl, rfl⟩
theorem err_sum {b : List UInt8} (h : formF b) (hs : crcL (b.take 2 ++ loadF b) ≠ sumF b) : errF b = 111 ∧ nextF b = ([], 0) := by
 have h1 : ¬ packF (loadF b) = b.take (6 + numF b) := fun e => hs ((ok_sum h).1 e)
 unfold errF nextF
 rw [if_pos h, if_neg h1, if_neg (fun h2 : okF b => h1 h2.2)]
 exact ⟨rfl, rfl⟩
theorem err_none {b : List UInt8} (h : formF b) (hs : crcL (b.take 2 ++ loadF b) = sumF b) : errF b = 0 ∧ nextF b = (loadF b, 6 + numF b) := by
 have h1 : packF (loadF b) = b.take (6 + numF b) := (ok_sum h).2 hs
 unfold errF nextF
 rw [if_pos h, if_pos h1, if_pos (show okF b from ⟨h, h1⟩)]
 exact ⟨rfl, rfl⟩
theorem u32_ne (s t : BitVec 32) : ((s.toNat : Int) != (t.toNat : Int)) = !decide (s = t) := by
 by_cases h : s = t
 ·subst h; simp
 ·rw [decide_eq_false h]
  simp only [Bool.not_false, bne_iff_ne]
  exact fun e => h (BitVec.eq_of_toNat_eq (by omega))
set_option maxHeartbeats 4000000 in
theorem fnext11_calls (A : Option Addr) (c : Nat) (b : List UInt8) (w : World) (hb : Byt w A b) (hA : A = none → c = 0) (hc : b.length ≤ c) (hl : b.length ≤ 100000) (ht : LaysR w) :
  Calls Tryz.prog 87 #[.slice A b.length c] w fun e w' => ∃ A' c', e = .returned (.tuple #[.slice A' (nextF b).1.length c', .int .i64 ((nextF b).2 : Int), .int .i64 (errF b)]) ∧ w'.ownsRow w.heap.size 5 1 (.slice A' (nextF b).1.length c') (nextF b).1.length (Lib.byteCells (nextF b).1) ∧ Below w.heap.size w w' := by
 by_cases h6 : b.length < 6
 ·obtain ⟨he, hn⟩ := err_form (b := b) (fun h => by have := h.1; omega)
  rw [he, hn]
  have d0 : decide ((b.length : Int) < 6) = true := decide_eq_true (by omega)
  clear he hn hb hA hc hl ht
  go_enter Tryz.func87, Tryz.ntmps87
  go_wp2_with fail
  go_ret3
  exact ⟨none, 0, rfl, World.ownsRow_nil _ _ _ _, Below.refl _ _⟩
 ·have d0 : decide ((b.length : Int) < 6) = false := decide_eq_false (by omega)
  obtain ⟨g, o, rfl, hg, hcell⟩ := hb.at_ (by omega)
  have c0 := hcell 0 (by omega)
  have c1 := hcell 1 (by omega)
  rw [Nat.add_zero] at c0
  have hx := (b.getD 0 0).toNat_lt
  have hy := (b.getD 1 0).toNat_lt
  have hnum : numF b = (b.getD 0 0).toNat + 256 * (b.getD 1 0).toNat := rfl
  have HForm : Hid (formF b ↔ numF b ≤ 1000 ∧ numF b ≤ b.length - 6) := hid ⟨fun h => h.2, fun h => ⟨by omega, h⟩⟩
  have hsub : IntKind.i64.wrap ((b.length : Int) - 6) = (b.length : Int) - 6 := IntWalk.i64_in _ (by omega)
  have hn64 : numF b < 65536 := by omega
  have hB0 : (0 : Int) < (b.length : Int) := by omega
  have hB1 : (1 : Int) < (b.length : Int) := by omega
  have hsum : IntKind.i64.wrap (((b.getD 0 0).toNat : Int) + ((b.getD 1 0).toNat : Int) * 256) = (numF b : Int) := by rw [IntWalk.i64_in _ (by omega), hnum]; omega
  have hmul : IntKind.i64.wrap (((b.getD 1 0).toNat : Int) * 256) = ((b.getD 1 0).toNat : Int) * 256 := IntWalk.i64_in _ (by omega)
  have HB := hid hb
  have HC := hid hc
  have HL := hid hl
  have HT := hid ht
  have HNum := hid hnum
  clear hcell hb hc hl ht hA hnum
  generalize hx0 : (b.getD 0 0).toNat = x at *
  generalize hy0 : (b.getD 1 0).toNat = y at *
  clear hx0 hy0
  by_cases h1 : 1000 < numF b
  ·obtain ⟨he, hn⟩ := err_form (b := b) (fun h => by have := h.2.1; omega)
   have d1 : decide (1000 < (numF b : Int)) = true := decide_eq_true (by omega)
   rw [he, hn]
   clear he hn h1 hsub
   go_enter Tryz.func87, Tryz.ntmps87
   go_wp2_with fail
   go_region
   go_wp2_with fail
   go_ret3
   exact ⟨none, 0, rfl, World.ownsRow_nil _ _ _ _, (Below.refl _ _).drew⟩
  ·have d1 : decide (1000 < (numF b : Int)) = false := decide_eq_false (by omega)
   by_cases h2 : b.length - 6 < numF b
   ·obtain ⟨he, hn⟩ := err_form (b := b) (fun h => by have := h.2.2; omega)
    have d2 : decide ((b.length : Int) - 6 < (numF b : Int)) = true := decide_eq_true (by omega)
    rw [he, hn]
    clear he hn h1 h2
    go_enter Tryz.func87, Tryz.ntmps87
    go_wp2_with fail
    go_region
    go_wp2_with fail
    go_ret3
    exact ⟨none, 0, rfl, World.ownsRow_nil _ _ _ _, (Below.refl _ _).drew⟩
   ·have d2 : decide ((b.length : Int) - 6 < (numF b : Int)) = false := decide_eq_false (by omega)
    have hform : formF b := ⟨by omega, by omega, by omega⟩
    have hln := loadF_length hform
    have hb6 : numF b + 6 ≤ b.length := by omega
    have hbd := HB.out.drew
    have hbl : Byt w.drew (dropA (some ⟨g, o, none⟩) c 6) (loadF b) := byt_load hbd HC.out
    have hdn : ∀ k, dropA (some ⟨g, o, none⟩) c k = none → c - k = 0 := fun k h => by unfold dropA at h; split at h <;> cases h
    have hc := HC.out
    have hrun6 := run_load (some ⟨g, o, none⟩) b.length c (numF b) (by omega)
    have hl2 : (b.drop 2).length = b.length - 2 := List.length_drop
    have ht2 : (b.take 2).length = 2 := by rw [List.length_take]; omega
    have hrd := sread_calls (dropA (some ⟨g, o, none⟩) c 2) (c - 2) (b.drop 2) w.drew (hbd.drop c 2 hc) (by rw [hl2]; have := HL.out; omega)
    rw [if_pos (by omega), decide_eq_true (by omega), hl2, ← sumF_nat] at hrd
    have hd2 : dropA (some ⟨g, o, none⟩) c 2 = some ⟨g, o + 2, none⟩ := by unfold dropA; rw [if_neg (by omega)]; simp [Addr.add]
    rw [hd2] at hrd
    have HRd := hid hrd
    have HLd := hid hbl
    have HDn := hid (hdn 6)
    have HLn := hid hln
    have HTk := hid (hbd.take 2)
    have HT2 := hid ht2
    have HTd : Hid (LaysR w.drew) := hid (HT.out.on (Below.refl _ w).drew)
    have HBd : Hid (Below w.heap.size w w.drew) := hid (Below.refl _ w).drew
    have HF := hid hform
    have hz1 : (6 : Int) ≤ 6 + (numF b : Int) := by omega
    have hz2 : 6 + (numF b : Int) ≤ (c : Int) := by omega
    have hw6 : IntKind.i64.wrap (6 + (numF b : Int)) = 6 + (numF b : Int) := IntWalk.i64_in _ (by omega)
    have HCt := hid (show crcL (b.take 2 ++ loadF b) = sumF b ∨ crcL (b.take 2 ++ loadF b) ≠ sumF b from Decidable.em _)
    have HN6 := hid hb6
    have HN1 := hid h1
    clear hrd hbl hdn hln ht2 hl2 hbd hform hc hb6 h1 h2 hd2
    generalize hd6 : dropA (some ⟨g, o, none⟩) c 6 = D6 at *
    clear hd6
    go_enter Tryz.func87, Tryz.ntmps87
    go_wp2_with fail
    go_region
    go_wp2_with fail
    refine HRd.out.mono ?_
    rintro e w1 ⟨rfl, hb1⟩
    have HB1 := hid (HBd.out.trans (hb1.mono HBd.out.size))
    have hsm := sumof11_calls (some ⟨g, o, none⟩) D6 c (c - 6) (b.take 2) (loadF b) w1 (HTk.out.below hb1) (HLd.out.below hb1) (by rw [HT2.out]; omega) (by rw [HLn.out]; omega) (HTd.out.on hb1)
    rw [HT2.out, HLn.out] at hsm
    have HSm := hid hsm
    have HLd1 := hid (HLd.out.below hb1)
    clear hb1 HRd hsm HLd HTk HTd
    go_wp2_with fail
    refine HSm.out.mono ?_
    rintro e w2 ⟨rfl, hb2⟩
    have HB2 := hid (HB1.out.trans (hb2.mono HB1.out.size))
    have hcl := clone11_calls D6 (c - 6) (loadF b) w2 (HLd1.out.below hb2) HDn.out (by rw [HLn.out]; omega)
    rw [HLn.out] at hcl
    have HCl := hid hcl
    have hne := u32_ne (sumF b) (crcL (b.take 2 ++ loadF b))
    clear hb2 HSm HLd1 hcl HB1
    rcases HCt.out with hct | hct
    ·obtain ⟨he, hn⟩ := err_none HF.out hct
     rw [decide_eq_true hct.symm] at hne
     have HNN := hid (And.intro he hn)
     clear he hn hct HCt
     go_wp2_with fail
     refine HCl.out.mono ?_
     rintro e w3 ⟨A3, c3, rfl, hown3, hb3⟩
     have HB3 := hid (HB2.out.trans (hb3.mono HB2.out.size))
     have HO3 := hid (own_less hown3 HB2.out.size)
     clear hown3 hb3 HCl
     go_wp2_with fail
     go_ret3
     rw [HNN.out.1, HNN.out.2]
     refine ⟨A3, c3, ?_, ?_, HB3.out⟩
     ·show _ = Ending.returned (.tuple #[.slice A3 (loadF b).length c3, .int .i64 ((6 + numF b : Nat) : Int), .int .i64 0])
      rw [HLn.out]
      go_num
     ·show w3.ownsRow w.heap.size 5 1 (.slice A3 (loadF b).length c3) (loadF b).length (Lib.byteCells (loadF b))
      rw [HLn.out]
      exact HO3.out
    ·obtain ⟨he, hn⟩ := err_sum HF.out hct
     rw [decide_eq_false (fun e => hct e.symm)] at hne
     have HNN := hid (And.intro he hn)
     clear he hn hct HCt
     go_wp2_with fail
     go_ret3
     rw [HNN.out.1, HNN.out.2]
     exact ⟨none, 0, rfl, World.ownsRow_nil _ _ _ _, HB2.out⟩
end
end Go.Proofs.YteafcaambnfdoaaGreatDoor
