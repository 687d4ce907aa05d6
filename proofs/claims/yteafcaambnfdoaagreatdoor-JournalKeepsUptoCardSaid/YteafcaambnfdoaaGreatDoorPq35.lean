/-
  Layer 7 and what it stands on, part 35 (SumBR).
-/
import Derived.Test.YteafcaambnfdoaaGreatDoorPq9
import Derived.Test.YteafcaambnfdoaaGreatDoorPq12
import Derived.Deep.WholeRow
import Derived.Deep.QuietTactic
import Derived.BigQuiet
namespace Go.Proofs.YteafcaambnfdoaaGreatDoor
section
open Go Go.RowKit
open Go.Lib (hid)
set_option maxRecDepth 100000
set_option maxHeartbeats 4000000 in
theorem sadd_callsR (s : BitVec 32) (A : Option Addr) (c : Nat) (b : List UInt8) (w : World) (hb : Byt w A b) (hl : b.length ≤ 100000) (ht : LaysR w) :
  Calls Tryz.prog 126 #[.int .u32 (s.toNat : Int), .slice A b.length c] w fun e w' => e = .returned (.int .u32 ((addL s b).toNat : Int)) ∧ Below w.heap.size w w' := by
 have HB := hid hb
 have HCell := hid ht
 have hnot := u32_not s
 have HAdd := hid (show addL s b = ~~~ fdL (~~~ s) b from rfl)
 clear hb ht
 generalize ~~~ s = n at *
 go_enter Tryz.func126, Tryz.ntmps126
 go_wp2_with fail
 clear hnot
 go_loopw [5, 7, 12, 20] (fun v5 v7 v12 v20 wr => ∃ i : Nat, i ≤ b.length ∧ v12 = .int .i64 (i : Int) ∧ v5 = .int .u32 ((fdL n (b.take i)).toNat : Int) ∧ wr = w) (fun _ _ v12 _ _ => b.length - (intOf v12).toNat)
 case atStart => exact ⟨0, Nat.zero_le _, rfl, rfl, rfl⟩
 case round =>
  obtain ⟨i, hi, rfl, rfl, rfl⟩ := hrel
  by_cases hlt : i < b.length
  ·have hil : (i : Int) < (b.length : Int) := by omega
   obtain ⟨g, o, rfl, hg, hc⟩ := HB.out.at_ (by omega)
   have c0 := hc i hlt
   have HS := hid (fdL_succ n hlt)
   generalize b.getD i 0 = x at *
   generalize fdL n (b.take i) = q at *
   have hxo : bits .xor .u32 (q.toNat : Int) ((x.toNat : Int) % 4294967296) = ((q ^^^ BitVec.ofNat 32 x.toNat).toNat : Int) := by
    rw [show (x.toNat : Int) % 4294967296 = (x.toNat : Int) by have := x.toNat_lt; omega]
    have h := u32_xor_bv q (BitVec.ofNat 32 x.toNat)
    rwa [show (BitVec.ofNat 32 x.toNat).toNat = x.toNat by rw [BitVec.toNat_ofNat]; have := x.toNat_lt; omega] at h
   have HN := hid (fdB_nib q x)
   generalize q ^^^ BitVec.ofNat 32 x.toNat = y at *
   clear hc
   go_wp2_with fail
   clear hxo c0
   go_loopw [5, 20] (fun v5 v20 wq => ∃ k : Nat, k ≤ 2 ∧ v20 = .int .i64 (k : Int) ∧ v5 = .int .u32 ((stpN (4 * k) y).toNat : Int) ∧ wq = wr) (fun _ v20 _ => 2 - (intOf v20).toNat)
   case atStart => exact ⟨0, Nat.zero_le _, rfl, rfl, rfl⟩
   case round =>
    obtain ⟨k, hk, rfl, rfl, rfl⟩ := hrel
    by_cases hk2 : k < 2
    ·have hkl : (k : Int) < 2 := by omega
     have HQ : Hid (stpN (4 * (k + 1)) y = stpN 4 (stpN (4 * k) y)) := hid (by rw [stpN_two, Nat.mul_succ])
     generalize stpN (4 * k) y = r at *
     have hand := u32_and15 r
     have hll : r.toNat % 16 < 16 := Nat.mod_lt _ (by decide)
     have hlli : ((r.toNat % 16 : Nat) : Int) < 16 := by omega
     have hcell := HCell.out _ hll
     have hshr : (r.toNat : Int) / (16 : Int) = ((r >>> 4).toNat : Int) := u32_shr4 r
     have hx2 := u32_xor_bv (r >>> 4) (stpN 4 (BitVec.ofNat 32 (r.toNat % 16)))
     rw [show r.toNat % 16 = r.toNat % 2 ^ 4 from rfl, stp_tab' 4 (by decide), show r.toNat % 2 ^ 4 = r.toNat % 16 from rfl, ← hshr] at hx2
     clear hshr
     generalize stpN 4 (BitVec.ofNat 32 (r.toNat % 16)) = t at *
     generalize stpN 4 r = z at *
     generalize r.toNat % 16 = e at *
     go_wp2_with fail
     go_roundw
     case rel => exact ⟨k + 1, by omega, by go_num, by rw [HQ.out], trivial⟩
     case measure => simp [intOf]; omega
    ·obtain rfl : k = 2 := by omega
     have hz : stpN (4 * 2) y = fdB q x := by rw [← HN.out, stpN_two]
     rw [hz]
     clear hz HN
     go_wp2_with fail
     go_roundw
     case rel => exact ⟨i + 1, by omega, by go_num, by rw [HS.out], trivial⟩
     case measure => simp [intOf]; omega
  ·obtain rfl : i = b.length := by omega
   rw [List.take_length]
   have hnt := u32_not (fdL n b)
   rw [← HAdd.out] at hnt
   go_wp2_with fail
   go_ret
   exact ⟨rfl, Below.refl _ _⟩
set_option maxHeartbeats 2000000 in
theorem sof_callsR (A : Option Addr) (c : Nat) (b : List UInt8) (w : World) (hb : Byt w A b) (hl : b.length ≤ 100000) (ht : LaysR w) :
  Calls Tryz.prog 125 #[.slice A b.length c] w fun e w' => e = .returned (.int .u32 ((crcL b).toNat : Int)) ∧ Below w.heap.size w w' := by
 have HA := sadd_callsR 0#32 A c b w hb hl ht
 rw [show addL 0#32 b = crcL b from rfl] at HA
 have HAdd := hid HA
 clear HA hb ht
 go_enter Tryz.func125, Tryz.ntmps125
 go_wp2_with fail
 refine HAdd.out.mono ?_
 rintro _ w1 ⟨rfl, hb1⟩
 go_wp2_with fail
 go_ret
 exact ⟨rfl, hb1⟩
def readP (b : List UInt8) : Nat → Nat
 | 0 => 0
 | k + 1 => readP b k + 2 ^ (8 * k) * (b.getD k 0).toNat
theorem readP_lt (b : List UInt8) : ∀ k, readP b k < 2 ^ (8 * k)
 | 0 => by unfold readP; simp
 | k + 1 => by
  unfold readP
  have ih := readP_lt b k
  have hx := (b.getD k 0).toNat_lt
  rw [show 8 * (k + 1) = 8 * k + 8 by omega, Nat.pow_add]
  have : 2 ^ (8 * k) * (b.getD k 0).toNat ≤ 2 ^ (8 * k) * 255 := Nat.mul_le_mul_left _ (by omega)
  omega
theorem readP_all (b : List UInt8) : readP b 4 = readN b := by
 unfold readP readP readP readP readP readN
 simp
theorem readP_s (b : List UInt8) (k : Nat) (hk : k < 4) : bits .or .u32 (readP b k : Int) (((b.getD k 0).toNat : Int) % 4294967296 * 2 ^ min (8 * k) 32 % 4294967296) = (readP b (k + 1) : Int) := by
 rw [Nat.min_eq_left (by omega)]
 have h1 := readP_lt b k
 have h2 := readP_lt b (k + 1)
 have h3 : 2 ^ (8 * (k + 1)) ≤ 2 ^ 32 := Nat.pow_le_pow_right (by decide) (by omega)
 have hx := (b.getD k 0).toNat_lt
 have h4 : readP b (k + 1) = readP b k + 2 ^ (8 * k) * (b.getD k 0).toNat := rfl
 have h5 := u32_or_add (readP b k) (b.getD k 0).toNat (8 * k) h1 (by omega)
 rw [← h4] at h5
 rw [← h5, show ((b.getD k 0).toNat : Int) % 4294967296 = ((b.getD k 0).toNat : Int) by omega]
 congr 1
 have e1 : ((b.getD k 0).toNat : Int) * ((2 ^ (8 * k) : Nat) : Int) = ((2 ^ (8 * k) * (b.getD k 0).toNat : Nat) : Int) := by rw [Int.natCast_mul, Int.mul_comm]
 have e2 : ((2 ^ (8 * k) : Nat) : Int) = (2 : Int) ^ (8 * k) := by simp
 rw [← e2, e1]
 generalize 2 ^ (8 * k) * (b.getD k 0).toNat = z at *
 omega
def byP (s : BitVec 32) (k : Nat) : List Value := (List.range 4).map fun i => Value.int .u8 ((if i < k then byV s i else 0 : Nat) : Int)
theorem byP_len (s : BitVec 32) (k : Nat) : (byP s k).length = 4 := by unfold byP; simp
theorem byP_s (s : BitVec 32) : ∀ k, k < 4 → byP s (k + 1) = (byP s k).set k (.int .u8 (byV s k : Int))
 | 0, _ => rfl
 | 1, _ => rfl
 | 2, _ => rfl
 | 3, _ => rfl
theorem byP_all (s : BitVec 32) : byP s 4 = [.int .u8 (byV s 0 : Int), .int .u8 (byV s 1 : Int), .int .u8 (byV s 2 : Int), .int .u8 (byV s 3 : Int)] := rfl
theorem infoA4 : (Tryz.prog.info? 195).map (fun i => (i.zero, i.size)) = some (some (.agg #[.int .u8 0, .int .u8 0, .int .u8 0, .int .u8 0]), 4) := by kernel_rfl
theorem results_row {P : Program} {fn : Func} {p : Tmp} {ty : TypeId} (h : fn.results = #[.cell p ty]) (tmps : Array Value) (w : World) (g : Nat) (v : Value)
  (hp : tmps.getD p undef = .pointer (some ⟨g, 0, none⟩)) (hl : (loadVar ty ⟨g, 0, none⟩).run P w = .ok v w) : (results fn tmps).run P w = .ok v w := by
 have hp' : tmps[p]?.getD undef = .pointer (some ⟨g, 0, none⟩) := by simpa using hp
 simpa [results, h, hp', asAddr, Sem.run_bind, go_sem] using hl
set_option maxHeartbeats 4000000 in
theorem sbytes_calls (s : BitVec 32) (w : World) :
  Calls Tryz.prog 138 #[.int .u32 (s.toNat : Int)] w fun e w' => e = .returned (.agg #[.int .u8 (byV s 0 : Int), .int .u8 (byV s 1 : Int), .int .u8 (byV s 2 : Int), .int .u8 (byV s 3 : Int)]) ∧ Below w.heap.size w w' := by
 have hzz := (zero_of_info infoA4).1
 have hz0 : #[Value.int .u8 0, .int .u8 0, .int .u8 0, .int .u8 0] = (byP s 0).toArray := rfl
 have h0 := BxA.new w 195 (byP s 0)
 have h1 := BxA.new (w.alloc (.cells (byP s 0).toArray 195)) 195 (byP s 0)
 have h01 := h0.alloc (.cells (byP s 0).toArray 195)
 rw [World.size_alloc] at h1
 have hb := ((Below.refl _ w).alloc (Nat.le_refl _) (.cells (byP s 0).toArray 195)).alloc (by simp) (.cells (byP s 0).toArray 195)
 have HB := hid hb
 have H1 := hid h1
 have H0 := hid h01
 have HAll : Hid ((byP s 4).toArray = #[.int .u8 (byV s 0 : Int), .int .u8 (byV s 1 : Int), .int .u8 (byV s 2 : Int), .int .u8 (byV s 3 : Int)]) := hid rfl
 clear h0 h1 h01 hb
 rw [hz0] at hzz
 rw [← HAll.out]
 clear hz0 HAll
 go_enter Tryz.func138, Tryz.ntmps138
 obtain ⟨w2, hw2⟩ : ∃ w2, (w.alloc (.cells (byP s 0).toArray 195)).alloc (.cells (byP s 0).toArray 195) = w2 := ⟨_, rfl⟩
 rw [hw2] at HB H1 H0
 have hsz : w2.heap.size = w.heap.size + 1 + 1 := by rw [← hw2]; simp
 generalize hT0 : byP s 0 = T0 at *
 go_wp2_with fail
 clear hw2 hzz
 go_loopw [4, 5] (fun v4 v5 wr => ∃ k : Nat, k ≤ 4 ∧ v5 = .int .i64 (k : Int) ∧ Hid (BxA wr (w.heap.size + 1) 195 (byP s k)) ∧ Hid (Only (fun q => q = w.heap.size + 1) w2 wr)) (fun _ v5 _ => 4 - (intOf v5).toNat)
 case atStart => exact ⟨0, by omega, rfl, by rw [hT0]; exact H1, hid (Only.refl _ _)⟩
 case round =>
  obtain ⟨k, hk, rfl, hX, hO⟩ := hrel
  have hsw := hO.out.size
  by_cases hlt : k < 4
  ·have hkl : (k : Int) < 4 := by omega
   have HP := hid (byP_s s k hlt)
   obtain ⟨j, hj⟩ : ∃ j, 8 * k = j := ⟨_, rfl⟩
   have hmul : IntKind.i64.wrap (8 * (k : Int)) = (j : Int) := by rw [IntWalk.i64_in _ (by omega)]; omega
   have hby : (s.toNat : Int) / 2 ^ min j 32 % 256 = (byV s k : Int) := by
    rw [Nat.min_eq_left (by omega), ← hj]
    unfold byV
    rw [show (256 : Nat) = 2 ^ 8 from rfl, ← Nat.pow_mul]
    simp
   obtain ⟨v0, hv0⟩ : ∃ v0, (byP s k)[k]? = some v0 := ⟨_, List.getElem?_eq_getElem (by rw [byP_len]; exact hlt)⟩
   have c1 := hX.out.c k hv0
   have f1 := hX.out.free k
   have HX2 : Hid (BxA (wr.setCell ⟨w.heap.size + 1, k, none⟩ (.int .u8 (byV s k : Int))) (w.heap.size + 1) 195 (byP s (k + 1))) := hid (by
    rw [HP.out]; exact hX.out.set k _)
   have HO2 := hid (hO.out.set (p := ⟨w.heap.size + 1, k, none⟩) (.inl rfl) (.int .u8 (byV s k : Int)))
   have hgl : w.heap.size + 1 < wr.heap.size := by omega
   clear hX hO HP hv0 hj
   generalize byV s k = x at *
   go_wp2_with fail
   go_roundw
   case rel => exact ⟨k + 1, by omega, by go_num, HX2, HO2⟩
   case measure => simp [intOf]; omega
  ·obtain rfl : k = 4 := by omega
   have e0 := hX.out.c 0 (v := .int .u8 (byV s 0 : Int)) rfl
   have e1 := hX.out.c 1 (v := .int .u8 (byV s 1 : Int)) rfl
   have e2 := hX.out.c 2 (v := .int .u8 (byV s 2 : Int)) rfl
   have e3 := hX.out.c 3 (v := .int .u8 (byV s 3 : Int)) rfl
   have r0 := H0.out.keep hO.out (by omega)
   rw [← hT0] at r0
   have r1 := r0.set 0 (.int .u8 (byV s 0 : Int))
   have r2 := r1.set 1 (.int .u8 (byV s 1 : Int))
   have r3 := r2.set 2 (.int .u8 (byV s 2 : Int))
   have r4 := r3.set 3 (.int .u8 (byV s 3 : Int))
   have z0 := r0.c 0 (v := .int .u8 0) rfl
   have z1 := r1.c 1 (v := .int .u8 0) rfl
   have z2 := r2.c 2 (v := .int .u8 0) rfl
   have z3 := r3.c 3 (v := .int .u8 0) rfl
   have f0 := r0.free 0
   have f1 := r1.free 1
   have f2 := r2.free 2
   have f3 := r3.free 3
   have hB3 := ((((HB.out.trans (hO.out.below (B := w.heap.size) HB.out.size (fun k hk => by omega))).setCell (p := ⟨w.heap.size, 0, none⟩) (Nat.le_refl _) (.int .u8 (byV s 0 : Int))).setCell (p := ⟨w.heap.size, 1, none⟩) (Nat.le_refl _) (.int .u8 (byV s 1 : Int))).setCell (p := ⟨w.heap.size, 2, none⟩) (Nat.le_refl _) (.int .u8 (byV s 2 : Int))).setCell (p := ⟨w.heap.size, 3, none⟩) (Nat.le_refl _) (.int .u8 (byV s 3 : Int))
   have HLd := hid (run_loadVar_row (P := Tryz.prog) _ w.heap.size 195 195 (byP s 4).toArray (0, 0) _ r4 Tryz.underlying195 rfl (by rw [(zero_of_info infoA4).2]; rfl))
   have HB3 := hid hB3
   rw [byP_all] at *
   have hg : w.heap.size < wr.heap.size := by omega
   clear hB3 r0 r1 r2 r3 r4 hX HB hO H0 H1
   generalize hy0 : byV s 0 = b0 at *
   have HY0 := hid hy0
   clear hy0
   generalize hy1 : byV s 1 = b1 at *
   have HY1 := hid hy1
   clear hy1
   generalize hy2 : byV s 2 = b2 at *
   have HY2 := hid hy2
   clear hy2
   generalize hy3 : byV s 3 = b3 at *
   have HY3 := hid hy3
   clear hy3
   go_wp2_with fail
   refine bodyPost_ret (results_row rfl _ _ w.heap.size _ rfl HLd.out) rfl ?_
   exact ⟨by rw [byP_all, HY0.out, HY1.out, HY2.out, HY3.out], HB3.out⟩
set_option maxHeartbeats 4000000 in
theorem sread_calls (A : Option Addr) (c : Nat) (b : List UInt8) (w : World) (hb : Byt w A b) (hl : b.length ≤ 100000) :
  Calls Tryz.prog 108 #[.slice A b.length c] w fun e w' => e = .returned (.tuple #[.int .u32 ((if 4 ≤ b.length then readN b else 0 : Nat) : Int), .bool (decide (4 ≤ b.length))]) ∧ Below w.heap.size w w' := by
 have HB := hid hb
 clear hb
 go_enter Tryz.func108, Tryz.ntmps108
 by_cases h4 : 4 ≤ b.length
 ·have h4i : ¬ (b.length : Int) < 4 := by omega
  rw [if_pos h4, decide_eq_true h4]
  obtain ⟨g, o, rfl, hg, hc⟩ := HB.out.at_ (by omega)
  have HC := hid hc
  clear hc
  go_wp2_with fail
  go_loopw [4, 5, 9] (fun v4 v5 v9 wr => ∃ k : Nat, k ≤ 4 ∧ v9 = .int .i64 (k : Int) ∧ v4 = .int .u32 (readP b k : Int) ∧ wr = w) (fun _ _ v9 _ => 4 - (intOf v9).toNat)
  case atStart => exact ⟨0, Nat.zero_le _, rfl, rfl, rfl⟩
  case round =>
   obtain ⟨k, hk, rfl, rfl, rfl⟩ := hrel
   by_cases hlt : k < 4
   ·have hkl : (k : Int) < 4 := by omega
    have c0 := HC.out k (by omega)
    have HP := hid (readP_s b k hlt)
    have hkb : k < b.length := by omega
    have hkbi : (k : Int) < (b.length : Int) := by omega
    obtain ⟨j, hj⟩ : ∃ j, 8 * k = j := ⟨_, rfl⟩
    have hmul : IntKind.i64.wrap (8 * (k : Int)) = (j : Int) := by rw [IntWalk.i64_in _ (by omega)]; omega
    rw [hj] at HP
    clear hj
    generalize (b.getD k 0).toNat = x at *
    generalize hr' : readP b (k + 1) = r' at *
    have HR := hid hr'
    clear hr'
    generalize readP b k = r at *
    have hor := HP.out
    clear HP
    go_wp2_with fail
    go_roundw
    case rel => exact ⟨k + 1, by omega, by go_num, by rw [HR.out], trivial⟩
    case measure => simp [intOf]; omega
   ·obtain rfl : k = 4 := by omega
    rw [readP_all]
    go_wp2_with fail
    go_ret2
    exact ⟨rfl, Below.refl _ _⟩
 ·have h4i : (b.length : Int) < 4 := by omega
  rw [if_neg h4, decide_eq_false h4]
  go_wp2_with fail
  go_ret2
  exact ⟨rfl, Below.refl _ _⟩
end
end Go.Proofs.YteafcaambnfdoaaGreatDoor
