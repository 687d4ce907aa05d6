/-
  Layer 7 and what it stands on, part 23 (FileDel FileDel2 FileOps FileSync FileRemove FileCut FileRenM FileRename FileApp FileRd0 FileCrM FileRd1).
-/
import Derived.Test.YteafcaambnfdoaaGreatDoorPq19
import Derived.LoopTactic
import Derived.Lib.SliceRun
import Derived.Lib.MinMax
import Derived.RegionTactic
import Derived.BigRegion
namespace Go.Proofs.YteafcaambnfdoaaGreatDoor
section
open Go Go.RowKit
open Go.Lib (hid)
set_option maxRecDepth 100000
theorem tl_beq10 (a b : ByteArray) : (a.toList == b.toList) = decide (a = b) := by
 rw [Lib.toList_data, Lib.toList_data]
 by_cases h : a = b
 ·subst h; simp
 ·rw [decide_eq_false h]
  cases hb : (a.data.toList == b.data.toList) with
  | false => rfl
  | true =>
   refine absurd ?_ h
   have := eq_of_beq hb
   cases a; cases b
   congr 1
   exact Array.toList_inj.1 this
theorem leave1_calls (W : World) (B : Nat) (n : ByteArray) (v : WrF) (hc : W.cell? ⟨B, 0, none⟩ = some (.string n)) (hB : B < W.heap.size) :
  Calls Tryz.prog 116 #[.agg #[.string v.n, .int .i64 (v.i : Int), .int .i64 (v.j : Int)], .pointer (some ⟨B, 0, none⟩)] W fun e w' => e = .returned (.bool (decide (v.n = n))) ∧ w' = W.alloc (.cells (wrC v).toArray 109) := by
 have hx := BxA.new W 109 (wrC v)
 have x0 := hx.c 0 rfl
 have hc' : (W.alloc (.cells (wrC v).toArray 109)).cell? ⟨B, 0, none⟩ = some (.string n) := (World.cell?_alloc_lt W _ ⟨B, 0, none⟩ hB).trans hc
 have HT := hid (tl_beq10 v.n n)
 clear hx
 unfold wrC at *
 obtain ⟨d, hd⟩ : ∃ d, decide (v.n = n) = d := ⟨_, rfl⟩
 rw [hd] at HT ⊢
 have t1 := HT.out
 clear hd HT
 go_enter Tryz.func116, Tryz.ntmps116
 go_wp2_with fail
 go_ret
 exact ⟨rfl, rfl⟩
theorem wr_at {w : World} {R : Nat → Prop} {A : Option Addr} {ws : List WrF} (h : RowT wrC w R A ws) {k : Nat} (hk : k < ws.length) : ∃ g o v, A = some ⟨g, o, none⟩ ∧ g < w.heap.size ∧ ws[k]? = some v ∧ w.cell? ⟨g, o + k * 3, none⟩ = some (.string v.n) ∧
  w.cell? ⟨g, o + k * 3 + 1, none⟩ = some (.int .i64 (v.i : Int)) ∧ w.cell? ⟨g, o + k * 3 + 2, none⟩ = some (.int .i64 (v.j : Int)) := by
 obtain ⟨g, o, e, _, hg, hc⟩ := h (by omega)
 have hq : ws[k]? = some ws[k] := List.getElem?_eq_getElem hk
 refine ⟨g, o, ws[k], e, hg, hq, ?_, ?_, ?_⟩
 ·have := hc (k * 3 + 0) _ (flat_get wrC_len hq (j := 0) rfl)
  simpa using this
 ·have := hc (k * 3 + 1) _ (flat_get wrC_len hq (j := 1) rfl)
  rw [Nat.add_assoc]
  exact this
 ·have := hc (k * 3 + 2) _ (flat_get wrC_len hq (j := 2) rfl)
  rw [Nat.add_assoc]
  exact this
def IdxW (ws : List WrF) (n : ByteArray) (r : Int) : Prop := (r = -1 ∧ ∀ v ∈ ws, v.n ≠ n) ∨ ∃ j : Nat, r = (j : Int) ∧ j < ws.length ∧ (∀ v ∈ ws.take j, v.n ≠ n) ∧ ∃ v, ws[j]? = some v ∧ v.n = n
set_option maxHeartbeats 2000000 in
theorem index_calls10 (w : World) (A : Option Addr) (c : Nat) (ws : List WrF) (B : Nat) (n : ByteArray) (hr : RowT wrC w (fun _ => True) A ws) (hc : w.cell? ⟨B, 0, none⟩ = some (.string n)) (hB : B < w.heap.size) (hl : ws.length ≤ 1000000000) :
  Calls Tryz.prog 140 #[.slice A ws.length c, .func (.func 116) #[] #[.pointer (some ⟨B, 0, none⟩)]] w fun e w' => ∃ r, e = .returned (.int .i64 r) ∧ IdxW ws n r ∧ Below w.heap.size w w' := by
 have H := hid hr
 have HC := hid hc
 have HB := hid hB
 clear hr hc hB
 go_enter Tryz.func140, Tryz.ntmps140
 go_wp2_with fail
 go_loopw [8] (fun v8 wr => ∃ k : Nat, k ≤ ws.length ∧ v8 = .int .i64 (k : Int) ∧ Hid (∀ v ∈ ws.take k, v.n ≠ n) ∧ Hid (Below w.heap.size w wr)) (fun v8 _ => ws.length - (intOf v8).toNat)
 case atStart => exact ⟨0, Nat.zero_le _, rfl, hid (fun v hv => by simp at hv), hid (Below.refl _ w)⟩
 case round =>
  obtain ⟨k, hk, rfl, hno, hbel⟩ := hrel
  by_cases hlt : k < ws.length
  ·obtain ⟨g, o, v, rfl, hg, hq, c0, c1, c2⟩ := wr_at (H.out.below hbel.out) hlt
   have hkl : (k : Int) < (ws.length : Int) := by omega
   have HL := hid (leave1_calls wr B n v (hbel.out.cell HB.out |>.trans HC.out) (Nat.lt_of_lt_of_le HB.out hbel.out.size))
   have HQ := hid hq
   clear hq
   by_cases hn : v.n = n
   ·rw [decide_eq_true hn] at HL
    have HI : Hid (IdxW ws n (k : Int)) := hid (.inr ⟨k, rfl, hlt, hno.out, v, HQ.out, hn⟩)
    clear hn hno
    go_wp2_with fail
    refine HL.out.mono ?_
    rintro e w1 ⟨rfl, rfl⟩
    have HB1 := hid (hbel.out.trans (((Below.refl _ wr).alloc (Nat.le_refl _) (.cells (wrC v).toArray 109)).mono hbel.out.size))
    clear HL hbel
    go_wp2_with fail
    go_ret
    exact ⟨_, rfl, HI.out, HB1.out⟩
   ·rw [decide_eq_false hn] at HL
    have HN : Hid (∀ u ∈ ws.take (k + 1), u.n ≠ n) := hid (fun u hu => by
     rw [List.take_add_one, HQ.out] at hu
     rcases List.mem_append.1 hu with hu | hu
     ·exact hno.out u hu
     ·simp at hu; rw [hu]; exact hn)
    clear hn hno
    go_wp2_with fail
    refine HL.out.mono ?_
    rintro e w1 ⟨rfl, rfl⟩
    have HB1 := hid (hbel.out.trans (((Below.refl _ wr).alloc (Nat.le_refl _) (.cells (wrC v).toArray 109)).mono hbel.out.size))
    clear HL hbel
    go_wp2_with fail
    go_roundw
    case rel => exact ⟨k + 1, by omega, by go_num, HN, HB1⟩
    case measure => simp [intOf]; omega
  ·obtain rfl : k = ws.length := by omega
   have HI : Hid (IdxW ws n (-1)) := hid (.inl ⟨rfl, fun v hv => hno.out v (by rw [List.take_length]; exact hv)⟩)
   clear hno
   go_wp2_with fail
   go_ret
   exact ⟨_, rfl, HI.out, hbel.out⟩
end
section
open Go Go.RowKit
open Go.Lib (hid)
set_option maxRecDepth 100000
theorem set3_is (cs : List Value) (k : Nat) (a b c : Value) (h : k * 3 + 3 ≤ cs.length) : ((cs.set (k * 3) a).set (k * 3 + 1) b).set (k * 3 + 2) c = cs.take (k * 3) ++ [a, b, c] ++ cs.drop (k * 3 + 3) := by
 have e : cs = cs.take (k * 3) ++ cs.drop (k * 3) := (List.take_append_drop _ _).symm
 have hp : (cs.take (k * 3)).length = k * 3 := by rw [List.length_take]; omega
 have hd : (cs.drop (k * 3)).length = cs.length - k * 3 := List.length_drop
 have e3 : cs.drop (k * 3 + 3) = (cs.drop (k * 3)).drop 3 := by rw [List.drop_drop]
 rw [e3]
 generalize cs.take (k * 3) = p at *
 match hq : cs.drop (k * 3), hd with
 | x :: y :: z :: r, _ =>
  rw [hq] at e
  rw [e, ← hp]
  simp
 | [x, y], hd => simp at hd; omega
 | [x], hd => simp at hd; omega
 | [], hd => simp at hd; omega
theorem BxA.setCells {g : Nat} {t : TypeId} : ∀ (l : List Value) {w : World} {cs : List Value} (o : Nat), BxA w g t cs → o + l.length ≤ cs.length → BxA (w.setCells g o l) g t (cs.take o ++ l ++ cs.drop (o + l.length)) ∧ Only (fun k => k = g) w (w.setCells g o l)
 | [], w, cs, o, h, _ => ⟨by simpa [World.setCells] using h, Only.refl _ _⟩
 | v :: l, w, cs, o, h, hl => by
  rw [List.length_cons] at hl
  obtain ⟨h1, h2⟩ := BxA.setCells l (o + 1) (h.set o v) (by rw [List.length_set]; omega)
  rw [World.setCells]
  refine ⟨?_, (only_set w ⟨g, o, none⟩ v).trans h2 fun _ e => .inl e⟩
  have e1 : (cs.set o v).take (o + 1) = cs.take o ++ [v] := by
   have ho : o < (cs.set o v).length := by rw [List.length_set]; omega
   rw [List.take_add_one, List.getElem?_eq_getElem ho, List.getElem_set_self, List.take_set_of_le (Nat.le_refl _)]
   rfl
  have e2 : (cs.set o v).drop (o + 1 + l.length) = cs.drop (o + 1 + l.length) := List.drop_set_of_lt (by omega)
  rw [e1, e2] at h1
  rw [List.length_cons, show o + (l.length + 1) = o + 1 + l.length by omega]
  simpa using h1
theorem run_clear3 (w : World) (ty : TypeId) (g o n c : Nat) (cs : List Value) (hb : BxA w g 109 cs) (hn : 0 < n) (hl : o + n * 3 ≤ cs.length) :
  ∃ zs : List Value, zs.length = n * 3 ∧ (Builtin.clear_ #[86] ty #[.slice (some ⟨g, o, none⟩) n c]).run Tryz.prog w = .ok (.tuple #[]) (w.setCells g o zs) := by
 obtain ⟨m, rfl⟩ : ∃ m, n = m + 1 := ⟨n - 1, by omega⟩
 have hz := Tryz.zeroValue109 w
 let z : Array Value := #[.string ⟨#[]⟩, .int .i64 0, .int .i64 0]
 have hlen : (Builtin.zeroCells z (m + 1)).toList.length = (m + 1) * 3 := by simp [Builtin.zeroCells, z]
 refine ⟨(Builtin.zeroCells z (m + 1)).toList, hlen, ?_⟩
 have hst := run_storeCells_cells (P := Tryz.prog) g o (Builtin.zeroCells z (m + 1)).toList 0 w (fun j hj => by
   have hj2 : o + 0 + j < cs.length := by omega
   rw [hb.c (o + 0 + j) (List.getElem?_eq_getElem hj2)]
   rfl) (fun j _ => hb.free _) (fun v hv => by
   simp only [Builtin.zeroCells, Array.toList_map, List.mem_map] at hv
   obtain ⟨i, _, rfl⟩ := hv
   have hi : i % z.size < 3 := Nat.mod_lt _ (by decide)
   have : i % z.size = 0 ∨ i % z.size = 1 ∨ i % z.size = 2 := by omega
   rcases this with e | e | e <;> rw [e] <;> rfl)
 simp only [Nat.add_zero] at hst
 simp [Builtin.clear_, run_underlying Tryz.underlying86, hz, hst, Value.cells, z]
structure DelInv (cs0 cs : List Value) (ws : List WrF) (n : ByteArray) (i j : Nat) : Prop where
 len : cs.length = cs0.length
 is : i = ((ws.take j).filter fun v => decide (v.n ≠ n)).length
 lt : i < j
 low : cs.take (i * 3) = ((ws.take j).filter fun v => decide (v.n ≠ n)).flatMap wrC
 high : cs.drop (j * 3) = cs0.drop (j * 3)
theorem wr_cells10 {cs : List Value} {ws : List WrF} (h : cs.take (ws.length * 3) = ws.flatMap wrC) {k : Nat} {v : WrF} (hk : ws[k]? = some v) : cs[k * 3]? = some (.string v.n) ∧ cs[k * 3 + 1]? = some (.int .i64 (v.i : Int)) ∧ cs[k * 3 + 2]? = some (.int .i64 (v.j : Int)) := by
 have hkl := (List.getElem?_eq_some_iff.1 hk).1
 have key : ∀ t u, t < 3 → (wrC v)[t]? = some u → cs[k * 3 + t]? = some u := fun t u ht hu => by
  have h1 := flat_get wrC_len hk hu
  rw [← h, List.getElem?_take, if_pos (by omega)] at h1
  exact h1
 exact ⟨key 0 _ (by omega) rfl, key 1 _ (by omega) rfl, key 2 _ (by omega) rfl⟩
theorem DelInv.cells {cs0 cs : List Value} {ws : List WrF} {n : ByteArray} {i j : Nat} (h : DelInv cs0 cs ws n i j) (h0 : cs0.take (ws.length * 3) = ws.flatMap wrC) {v : WrF} (hj : ws[j]? = some v) : cs[j * 3]? = some (.string v.n) ∧ cs[j * 3 + 1]? = some (.int .i64 (v.i : Int)) ∧ cs[j * 3 + 2]? = some (.int .i64 (v.j : Int)) := by
 obtain ⟨h1, h2, h3⟩ := wr_cells10 h0 hj
 have key : ∀ t, cs[j * 3 + t]? = cs0[j * 3 + t]? := fun t => by rw [← List.getElem?_drop, h.high, List.getElem?_drop]
 exact ⟨(key 0).trans h1, (key 1).trans h2, (key 2).trans h3⟩
theorem DelInv.keep {cs0 cs : List Value} {ws : List WrF} {n : ByteArray} {i j : Nat} (h : DelInv cs0 cs ws n i j) {v : WrF} (hj : ws[j]? = some v) (hn : v.n ≠ n) (hl : (j + 1) * 3 ≤ cs0.length) :
  DelInv cs0 (((cs.set (i * 3) (.string v.n)).set (i * 3 + 1) (.int .i64 (v.i : Int))).set (i * 3 + 2) (.int .i64 (v.j : Int))) ws n (i + 1) (j + 1) := by
 have hlt := h.lt
 have hlen := h.len
 have he := set3_is cs i (.string v.n) (.int .i64 (v.i : Int)) (.int .i64 (v.j : Int)) (by omega)
 have ht : (ws.take (j + 1)).filter (fun v => decide (v.n ≠ n)) = (ws.take j).filter (fun v => decide (v.n ≠ n)) ++ [v] := by
  rw [List.take_add_one, hj, List.filter_append]
  simp [hn]
 refine ⟨by simp [hlen], by rw [ht, List.length_append, ← h.is]; rfl, by omega, ?_, ?_⟩
 ·rw [he, ht, List.flatMap_append, ← h.low]
  have e3 : (cs.take (i * 3) ++ [(.string v.n), (.int .i64 (v.i : Int)), (.int .i64 (v.j : Int))] : List Value).length = (i + 1) * 3 := by simp; omega
  rw [List.take_left' e3]
  simp [wrC]
 ·have h3 : cs.drop ((j + 1) * 3) = cs0.drop ((j + 1) * 3) := by
   have := congrArg (List.drop 3) h.high
   simpa [List.drop_drop, Nat.add_mul] using this
  rw [← h3, List.drop_set_of_lt (by omega), List.drop_set_of_lt (by omega), List.drop_set_of_lt (by omega)]
theorem DelInv.skip {cs0 cs : List Value} {ws : List WrF} {n : ByteArray} {i j : Nat} (h : DelInv cs0 cs ws n i j) {v : WrF} (hj : ws[j]? = some v) (hn : v.n = n) : DelInv cs0 cs ws n i (j + 1) := by
 have ht : (ws.take (j + 1)).filter (fun v => decide (v.n ≠ n)) = (ws.take j).filter (fun v => decide (v.n ≠ n)) := by
  rw [List.take_add_one, hj, List.filter_append]
  simp [hn]
 refine ⟨h.len, by rw [ht]; exact h.is, by have := h.lt; omega, by rw [ht]; exact h.low, ?_⟩
 have := congrArg (List.drop 3) h.high
 simpa [List.drop_drop, Nat.add_mul] using this
structure DelTo (w w' : World) (g : Nat) (cs0 : List Value) (ws : List WrF) (n : ByteArray) : Prop where
 ex : ∃ cs, BxA w' g 109 cs ∧ cs.length = cs0.length ∧ cs.take ((ws.filter fun v => decide (v.n ≠ n)).length * 3) = (ws.filter fun v => decide (v.n ≠ n)).flatMap wrC
 only : Only (fun k => k = g) w w'
theorem DelInv.start {cs0 : List Value} {ws : List WrF} {n : ByteArray} {k : Nat} {v : WrF} (h0 : cs0.take (ws.length * 3) = ws.flatMap wrC) (hk : ws[k]? = some v) (hv : v.n = n) (hno : ∀ u ∈ ws.take k, u.n ≠ n) : DelInv cs0 cs0 ws n k (k + 1) := by
 have hkl := (List.getElem?_eq_some_iff.1 hk).1
 have ht : (ws.take (k + 1)).filter (fun v => decide (v.n ≠ n)) = ws.take k := by
  rw [List.take_add_one, hk, List.filter_append, List.filter_eq_self.2 (fun u hu => decide_eq_true (hno u hu))]
  simp [hv]
 refine ⟨rfl, by rw [ht, List.length_take]; omega, by omega, ?_, rfl⟩
 rw [ht, flat_take wrC_len, ← h0, List.take_take, Nat.min_eq_left (by omega)]
set_option maxHeartbeats 4000000 in
theorem delete_calls10 (w : World) (g c : Nat) (cs0 : List Value) (ws : List WrF) (B : Nat) (n : ByteArray) (hb : BxA w g 109 cs0) (h0 : cs0.take (ws.length * 3) = ws.flatMap wrC) (hcl : cs0.length = c * 3) (hlc : ws.length ≤ c)
  (hc : w.cell? ⟨B, 0, none⟩ = some (.string n)) (hB : B < w.heap.size) (hBg : B ≠ g) (hl : ws.length ≤ 1000000000) :
  Calls Tryz.prog 115 #[.slice (some ⟨g, 0, none⟩) ws.length c, .func (.func 116) #[] #[.pointer (some ⟨B, 0, none⟩)]] w fun e w' =>
   e = .returned (.slice (some ⟨g, 0, none⟩) (ws.filter fun v => decide (v.n ≠ n)).length c) ∧ DelTo w w' g cs0 ws n := by
 have hr : RowT wrC w (fun _ => True) (some ⟨g, 0, none⟩) ws := fun hn => ⟨g, 0, rfl, trivial, hb.lt, fun j v hj => by
  rw [← h0, List.getElem?_take] at hj
  split at hj
  ·rw [Nat.zero_add]; exact hb.c j hj
  ·cases hj⟩
 have HI := hid (index_calls10 w (some ⟨g, 0, none⟩) c ws B n hr hc hB hl)
 have HBX := hid hb
 have H0 := hid h0
 have HC := hid hc
 have HCL := hid hcl
 have hgw := hb.lt
 clear hb h0 hc hr hcl
 generalize hN : (ws.filter fun v => decide (v.n ≠ n)).length = N
 have HN := hid hN
 clear hN
 go_enter Tryz.func115, Tryz.ntmps115
 go_wp2_with fail
 refine HI.out.mono ?_
 rintro e w1 ⟨r, rfl, hidx, hb1⟩
 have HB1 := hid hb1
 clear hb1 HI
 rcases hidx with ⟨rfl, hno⟩ | ⟨k, rfl, hk, hno, v, hv, hvn⟩
 ·have hf : (ws.filter fun v => decide (v.n ≠ n)) = ws := List.filter_eq_self.2 fun v hv => decide_eq_true (hno v hv)
  have HR : Hid (DelTo w w1 g cs0 ws n) := hid ⟨⟨cs0, HBX.out.below HB1.out, rfl, by rw [hf]; exact H0.out⟩, Only.of_below HB1.out⟩
  have hN := HN.out
  rw [hf] at hN
  subst hN
  clear hno hf HN
  go_wp2_with fail
  go_ret
  exact ⟨rfl, HR.out⟩
 ·have HD0 := hid (DelInv.start H0.out hv hvn hno)
  have hm1 : ((k : Int) == -1) = false := beq_eq_false_iff_ne.2 (by omega)
  clear hv hvn hno
  go_wp2_with fail
  go_loopw [5, 6] (fun v5 v6 wr => ∃ (i j : Nat) (cs : List Value), j ≤ ws.length ∧ v5 = .int .i64 (i : Int) ∧ v6 = .int .i64 (j : Int) ∧ Hid (DelInv cs0 cs ws n i j) ∧ Hid (BxA wr g 109 cs) ∧ Hid (Only (fun k => k = g) w wr)) (fun _ v6 _ => ws.length - (intOf v6).toNat)
  case atStart => exact ⟨k, k + 1, cs0, by omega, rfl, by go_num, HD0, hid (HBX.out.below HB1.out), hid (Only.of_below HB1.out)⟩
  case round =>
   obtain ⟨i, j, cs, hj, rfl, rfl, hinv, hbx, honly⟩ := hrel
   by_cases hlt : j < ws.length
   ·obtain ⟨v, hv⟩ : ∃ v, ws[j]? = some v := ⟨_, List.getElem?_eq_getElem hlt⟩
    obtain ⟨d0, d1, d2⟩ := hinv.out.cells H0.out hv
    have c0 := hbx.out.c _ d0
    have c1 := hbx.out.c _ d1
    have c2 := hbx.out.c _ d2
    have hkl : (j : Int) < (ws.length : Int) := by omega
    have hij := hinv.out.lt
    have hil : (i : Int) < (ws.length : Int) := by omega
    have hgr := Nat.lt_of_lt_of_le hgw honly.out.size
    have hBr := Nat.lt_of_lt_of_le hB honly.out.size
    have hCr : wr.cell? ⟨B, 0, none⟩ = some (.string n) := honly.out.cell HC.out (fun e => hBg e)
    have HLV := hid (leave1_calls (wr.alloc (.cells (wrC v).toArray 109)) B n v ((World.cell?_alloc_lt wr _ ⟨B, 0, none⟩ hBr).trans hCr) (by rw [World.size_alloc]; omega))
    obtain ⟨W2, hW2⟩ : ∃ W2, (wr.alloc (.cells (wrC v).toArray 109)).alloc (.cells (wrC v).toArray 109) = W2 := ⟨_, rfl⟩
    rw [hW2] at HLV
    have hvb : BxA W2 wr.heap.size 109 (wrC v) := by rw [← hW2]; exact (BxA.new wr _ _).alloc _
    have hb2 : BxA W2 g 109 cs := by rw [← hW2]; exact (hbx.out.alloc _).alloc _
    have hO2 : Only (fun k => k = g) w W2 := by rw [← hW2]; exact (honly.out.alloc _).alloc _
    have e0 := hvb.c 0 rfl
    have e1 := hvb.c 1 rfl
    have e2 := hvb.c 2 rfl
    have f0 := hb2.free (i * 3)
    have f1 := hb2.free (i * 3 + 1)
    have f2 := hb2.free (i * 3 + 2)
    have hl3 : i * 3 + 2 < cs.length := by have := hinv.out.len; have := HCL.out; omega
    obtain ⟨x0, g0⟩ : ∃ x0, W2.cell? ⟨g, i * 3, none⟩ = some x0 := ⟨_, hb2.c (i * 3) (List.getElem?_eq_getElem (by omega))⟩
    obtain ⟨x1, g1⟩ : ∃ x1, W2.cell? ⟨g, i * 3 + 1, none⟩ = some x1 := ⟨_, hb2.c (i * 3 + 1) (List.getElem?_eq_getElem (by omega))⟩
    obtain ⟨x2, g2⟩ : ∃ x2, W2.cell? ⟨g, i * 3 + 2, none⟩ = some x2 := ⟨_, hb2.c (i * 3 + 2) (List.getElem?_eq_getElem hl3)⟩
    have HB2 := hid hb2
    have HO2 := hid hO2
    have HI2 := hinv
    clear hl3
    have HV := hid hv
    have hne : g ≠ wr.heap.size := by omega
    clear hW2 hvb hb2 hO2 hbx honly hCr hBr hgr hinv hv d0 d1 d2
    by_cases hvn : v.n = n
    ·rw [decide_eq_true hvn] at HLV
     have HI3 := hid (HI2.out.skip HV.out hvn)
     clear hvn HI2 HV
     go_wp2_with fail
     refine HLV.out.mono ?_
     rintro e w3 ⟨rfl, rfl⟩
     clear HLV
     go_wp2_with fail
     go_roundw
     case rel => exact ⟨i, j + 1, cs, by omega, rfl, by go_num, HI3, HB2, HO2⟩
     case measure => simp [intOf]; omega
    ·rw [decide_eq_false hvn] at HLV
     have HI3 := hid (HI2.out.keep HV.out hvn (by have := HCL.out; omega))
     clear hvn HI2 HV
     go_wp2_with fail
     refine HLV.out.mono ?_
     rintro e w3 ⟨rfl, rfl⟩
     clear HLV
     have HB3 := hid (((HB2.out.set (i * 3) (.string v.n)).set (i * 3 + 1) (.int .i64 (v.i : Int))).set (i * 3 + 2) (.int .i64 (v.j : Int)))
     have HO3 := hid (((HO2.out.set (p := ⟨g, i * 3, none⟩) (.inl rfl) (.string v.n)).set (p := ⟨g, i * 3 + 1, none⟩) (.inl rfl) (.int .i64 (v.i : Int))).set (p := ⟨g, i * 3 + 2, none⟩) (.inl rfl) (.int .i64 (v.j : Int)))
     go_wp2_with fail
     go_roundw
     case rel => exact ⟨i + 1, j + 1, _, by omega, by go_num, by go_num, HI3, HB3, HO3⟩
     case measure => simp [intOf]; omega
   ·obtain rfl : j = ws.length := by omega
    have hi := hinv.out.is
    rw [List.take_length, HN.out] at hi
    have hlt' := hinv.out.lt
    have hlow := hinv.out.low
    rw [List.take_length] at hlow
    obtain ⟨zs, hz, hrun⟩ := run_clear3 wr 0 g (i * 3) (ws.length - i) (c - i) cs hbx.out (by omega) (by have := hinv.out.len; have := HCL.out; omega)
    obtain ⟨hb5, ho5⟩ := BxA.setCells zs (i * 3) hbx.out (by have := hinv.out.len; have := HCL.out; omega)
    have HR : Hid (DelTo w (wr.setCells g (i * 3) zs) g cs0 ws n) := hid ⟨⟨_, hb5, by have := hinv.out.len; have := HCL.out; simp only [List.length_append, List.length_take, List.length_drop, hz]; omega, by
     rw [HN.out, ← hlow, ← hi, List.append_assoc, List.take_left' (by rw [List.length_take]; have := hinv.out.len; have := HCL.out; omega)]⟩, honly.out.trans ho5 fun _ e => .inl e⟩
    subst hi
    have q1 : ¬ c = i := by omega
    have q2 : ¬ (c : Int) = (i : Int) := by omega
    have q3 : i ≤ ws.length := by omega
    have q4 : (i : Int) ≤ (ws.length : Int) := by omega
    have q5 : (ws.length : Int) ≤ (c : Int) := by omega
    clear hlow hb5 ho5 hinv hbx honly hlt'
    go_wp2_with fail
    go_ret
    exact ⟨rfl, HR.out⟩
theorem delete_nil10 (w : World) (B : Nat) (n : ByteArray) (hc : w.cell? ⟨B, 0, none⟩ = some (.string n)) (hB : B < w.heap.size) :
  Calls Tryz.prog 115 #[.slice none 0 0, .func (.func 116) #[] #[.pointer (some ⟨B, 0, none⟩)]] w fun e w' => e = .returned (.slice none 0 0) ∧ Below w.heap.size w w' := by
 have HI := hid (index_calls10 w none 0 [] B n (fun hn => absurd hn (Nat.lt_irrefl 0)) hc hB (by simp))
 clear hc hB
 go_enter Tryz.func115, Tryz.ntmps115
 go_wp2_with fail
 refine HI.out.mono ?_
 rintro e w1 ⟨r, rfl, hidx, hb1⟩
 have HB1 := hid hb1
 have hr : r = -1 := by
  rcases hidx with ⟨h, _⟩ | ⟨k, _, h, _⟩
  ·exact h
  ·exact absurd h (Nat.not_lt_zero _)
 subst hr
 clear hb1 HI hidx
 go_wp2_with fail
 go_ret
 exact ⟨rfl, HB1.out⟩
theorem own_bx {w : World} {g c : Nat} {t : TypeId} {cs xs : List Value} {n : Nat} (hb : BxA w g t cs) (hl : cs.length = c * 3) (hn : n ≤ c) (hcm : c ≤ maxLen) (hx : cs.take (n * 3) = xs) : w.ownsRow 0 t 3 (.slice (some ⟨g, 0, none⟩) n c) n xs :=
 ⟨by rw [← hx, List.length_take]; omega, .inr ⟨g, c, cs.toArray, rfl, Nat.zero_le _, hb, hn, hcm, by simpa using hl, by simpa using hx⟩⟩
theorem bx_own {w : World} {A : Option Addr} {c n : Nat} {t : TypeId} {xs : List Value} (h : w.ownsRow 0 t 3 (.slice A n c) n xs) : (A = none ∧ n = 0 ∧ c = 0 ∧ xs = []) ∨ ∃ g cs, A = some ⟨g, 0, none⟩ ∧ BxA w g t cs ∧ cs.length = c * 3 ∧ n ≤ c ∧ c ≤ maxLen ∧ cs.take (n * 3) = xs := by
 rcases h.2 with ⟨hv, h0⟩ | ⟨g, cap, cur, hv, _, hh, hnc, hcm, hcs, htk⟩
 ·injection hv with e1 e2 e3
  refine .inl ⟨e1, h0, e3, ?_⟩
  have := h.1
  rw [h0, Nat.zero_mul] at this
  exact List.eq_nil_of_length_eq_zero this
 ·injection hv with e1 e2 e3
  subst e1; subst e3
  exact .inr ⟨g, cur.toList, rfl, by unfold BxA; simpa using hh, by simpa using hcs, hnc, hcm, htk⟩
theorem leave_calls10 (w : World) (lab : Lab) (b m : Nat) (A : Option Addr) (c : Nat) (ws : List WrF) (qs : List QF) (ops : Int) (dn : Bool) (am fl : Int) (h : FH w lab b m A c ws qs ops dn am fl) (n : ByteArray) (hl : ws.length ≤ 1000000000) :
  Calls Tryz.prog 96 #[.pointer (some ⟨b, 0, none⟩), .string n] w fun e w' => e = .returned (.tuple #[]) ∧ FH w' lab b m A c (ws.filter fun v => decide (v.n ≠ n)) qs ops dn am fl ∧ LabTo w lab w' lab := by
 have hbw := h.box.lt
 have hB : w.heap.size < (w.alloc (.cells #[.string n] 9)).heap.size := by rw [World.size_alloc]; omega
 have hc : (w.alloc (.cells #[.string n] 9)).cell? ⟨w.heap.size, 0, none⟩ = some (.string n) := (BxA.new w 9 [.string n]).c 0 rfl
 have hb0 : Below w.heap.size w (w.alloc (.cells #[.string n] 9)) := (Below.refl _ w).alloc (Nat.le_refl _) _
 have hmf : ∀ (fn : Fn) (first cap : Array Value) (w : World), (Instr.makeFunc fn first cap).run Tryz.prog w = .ok (.func fn first cap) w := fun _ _ _ _ => rfl
 have H := hid h
 have HB0 := hid hb0
 have h1 := h.box.below hb0
 have c1 := h1.c 1 rfl
 rcases bx_own h.fm.row with ⟨rfl, h0, rfl, hx⟩ | ⟨g, cs, rfl, hbx, hcl, hnc, hcm, htk⟩
 ·have hws : ws = [] := List.eq_nil_of_length_eq_zero h0
  subst hws
  have HD := hid (delete_nil10 _ w.heap.size n hc hB)
  clear h hb0 hc hB h1 hx
  show Calls _ _ _ _ _
  go_enter Tryz.func96, Tryz.ntmps96
  go_wp2_with fail
  refine HD.out.mono ?_
  rintro e w1 ⟨rfl, hb1⟩
  have hb2 := HB0.out.trans (hb1.mono HB0.out.size)
  have hbx := H.out.box.below hb2
  have f1 := hbx.free 1
  have d1 := hbx.c 1 rfl
  have hall : Only (fun k => k = b) w (w1.setCell ⟨b, 1, none⟩ (.slice none 0 0)) := (Only.of_below (R := fun k => k = b) hb2).set (p := ⟨b, 1, none⟩) (.inl rfl) _
  have HR : Hid (FH (w1.setCell ⟨b, 1, none⟩ (.slice none 0 0)) lab b m none 0 [] qs ops dn am fl ∧ LabTo w lab (w1.setCell ⟨b, 1, none⟩ (.slice none 0 0)) lab) := hid ⟨H.out.boxTo hall (hbx.set 1 (.slice none 0 0)), H.out.to_ hall⟩
  clear hb1 hb2 hbx hall HD
  go_wp2_with fail
  go_end0
  exact ⟨rfl, HR.out⟩
 ·have hgl := h.fm.rblk g rfl
  have hgw := hbx.lt
  have hgb : g ≠ b := fun e => by rw [e, h.lb] at hgl; cases hgl
  have HD := hid (delete_calls10 _ g c cs ws w.heap.size n (hbx.below hb0) htk hcl hnc hc hB (by omega) hl)
  have HG := hid hgl
  have HGB := hid hgb
  have HCL := hid hcl
  have HCM := hid (And.intro hnc hcm)
  generalize hws : (ws.filter fun v => decide (v.n ≠ n)) = ws' at *
  have HWL : Hid (ws'.length ≤ ws.length) := hid (by rw [← hws]; exact List.length_filter_le _ _)
  have HDT : Hid (∀ w', DelTo (w.alloc (.cells #[.string n] 9)) w' g cs ws n → ∃ cs', BxA w' g 109 cs' ∧ cs'.length = cs.length ∧ cs'.take (ws'.length * 3) = ws'.flatMap wrC) := hid (fun w' h => by
   have := h.ex
   rw [hws] at this
   exact this)
  clear h hb0 hc hB h1 hbx hcl hnc hcm htk hgl hgb hws
  go_enter Tryz.func96, Tryz.ntmps96
  go_wp2_with fail
  refine HD.out.mono ?_
  rintro e w1 ⟨rfl, hdt⟩
  obtain ⟨cs', k1, k2, k3⟩ := HDT.out w1 hdt
  have ho1 : Only (fun k => k = g) w w1 := (Only.of_below HB0.out).trans hdt.only fun _ e => .inl e
  have hbx := H.out.box.keep ho1 (fun e => HGB.out e.symm)
  have f1 := hbx.free 1
  have d1 := hbx.c 1 rfl
  have hrow : w1.ownsRow 0 109 3 (.slice (some ⟨g, 0, none⟩) ws'.length c) ws'.length (ws'.flatMap wrC) := own_bx k1 (by rw [k2]; exact HCL.out) (Nat.le_trans HWL.out HCM.out.1) HCM.out.2 k3
  have hfm : FM w1 lab m (some ⟨g, 0, none⟩) c ws' qs := H.out.fm.rowTo ho1 (fun k (e : k = g) => .inl (by rw [e]; exact HG.out)) (fun _ _ h => h) (fun k r hk => Nat.lt_of_lt_of_le (H.out.fm.lt k r hk) ho1.size) hrow (fun k hk => by injection hk with hk; rw [← hk]; exact HG.out)
  have hst : Only (fun k => k = b) w1 (w1.setCell ⟨b, 1, none⟩ (.slice (some ⟨g, 0, none⟩) ws'.length c)) := only_set w1 ⟨b, 1, none⟩ _
  have HR : Hid (FH (w1.setCell ⟨b, 1, none⟩ (.slice (some ⟨g, 0, none⟩) ws'.length c)) lab b m (some ⟨g, 0, none⟩) c ws' qs ops dn am fl ∧ LabTo w lab (w1.setCell ⟨b, 1, none⟩ (.slice (some ⟨g, 0, none⟩) ws'.length c)) lab) := hid
   ⟨⟨hbx.set 1 _, H.out.lb, hfm.keep hst fun k r (e : k = b) hk => by rw [e, H.out.lb] at hk; injection hk with hk; exact hk.symm⟩,
    LabTo.of_only (R := fun k => k = g ∨ k = b) ((ho1.mono fun k e => .inl (.inl e)).trans hst fun k e => .inl (.inr e)) fun k hk => .inl (by
    rcases hk with rfl | rfl
    ·exact ⟨2, HG.out⟩
    ·exact ⟨0, H.out.lb⟩)⟩
  clear k1 k2 k3 ho1 hbx hrow hfm hst hdt HD
  go_wp2_with fail
  go_end0
  exact ⟨rfl, HR.out⟩
end
section
open Go Go.RowKit
set_option maxRecDepth 100000
section
variable (w : World) (lab : Lab) (b m : Nat) (A : Option Addr) (c : Nat) (ws : List WrF) (qs : List QF) (ops : Int) (dn : Bool) (am fl : Int)
theorem FH.nn {w : World} {lab : Lab} {b m : Nat} {A : Option Addr} {c : Nat} {ws : List WrF} {qs : List QF} {ops : Int} {dn : Bool} {am fl : Int} {q : QF} (h : FH w lab b m A c ws (q :: qs) ops dn am fl) : b ≠ q.g := fun e => by
 have := (h.fm.bod q List.mem_cons_self).at_
 rw [← e, h.lb] at this
 injection this with this
 omega
theorem FH.sync {w : World} {lab : Lab} {b m : Nat} {A : Option Addr} {c : Nat} {ws : List WrF} {qs : List QF} {ops : Int} {dn : Bool} {am fl : Int} {q : QF} (h : FH w lab b m A c ws (q :: qs) ops dn am fl) (k : Nat) :
  FH (w.setCell ⟨q.g, 1, none⟩ (.int .i64 (k : Int))) lab b m A c ws ({ q with s := k } :: qs) ops dn am fl ∧ LabTo w lab (w.setCell ⟨q.g, 1, none⟩ (.int .i64 (k : Int))) lab := by
 have ho := only_set w ⟨q.g, 1, none⟩ (.int .i64 (k : Int))
 have hq := h.fm.bod q List.mem_cons_self
 have hl := fun i r hi => Nat.lt_of_lt_of_le (h.fm.lt i r hi) ho.size
 refine ⟨⟨h.box.other h.nn _, h.lb, h.fm.body ho (fun i e => .inl e) (fun _ _ h => h) hl (q' := { q with s := k }) ⟨hq.box.set 1 _, own_onlyE hq.own ho fun i hi (e : i = q.g) => ?_, hq.at_, hq.blk⟩ rfl rfl⟩, LabTo.of_only ho fun i (e : i = q.g) => .inl ⟨3, by rw [e]; exact hq.at_⟩⟩
 have := hq.blk i hi
 rw [e, hq.at_] at this
 injection this with this
 omega
theorem settle_calls10 {q : QF} (h : FH w lab b m A c ws (q :: qs) ops dn am fl) (hl : ws.length ≤ 1000000000) :
  Calls Tryz.prog 89 #[.pointer (some ⟨b, 0, none⟩), .string q.n] w fun e w' => e = .returned (.tuple #[]) ∧ FH w' lab b m A c (ws.filter fun v => decide (v.n ≠ q.n)) ({ q with s := q.x.length } :: qs) ops dn am fl ∧ LabTo w lab w' lab := by
 obtain ⟨ps, hm, hg⟩ := h.fm.get List.mem_cons_self
 have hlk := look_has hm hg
 have c0 := h.box.c 0 rfl
 have hq := h.fm.bod q List.mem_cons_self
 have y0 := hq.box.c 0 rfl
 have y1 := hq.box.c 1 rfl
 have z1 := hq.box.free 1
 obtain ⟨h1, h2⟩ := h.sync q.x.length
 have HL := Lib.hid (leave_calls10 _ lab b m A c ws _ ops dn am fl h1 q.n hl)
 have HT := Lib.hid h2
 unfold QF.v at y0
 clear h hm hg hq h1 h2
 go_enter Tryz.func89, Tryz.ntmps89
 go_wp2_with fail
 refine HL.out.mono ?_
 rintro e w1 ⟨rfl, k1, k2⟩
 have HR := Lib.hid (And.intro k1 (HT.out.trans k2))
 clear k1 k2 HL HT
 go_wp2_with fail
 go_end0
 exact ⟨rfl, HR.out⟩
end
theorem own_take1 {w : World} {e : TypeId} {A : Option Addr} {c n : Nat} {xs : List Value} (h : w.ownsRow 0 e 1 (.slice A n c) n xs) {k : Nat} (hk : k ≤ n) : w.ownsRow 0 e 1 (.slice A k c) k (xs.take k) := by
 have hx := h.1
 rcases h.2 with ⟨hv, h0⟩ | ⟨g, cap, cur, hv, hb, hh, hnc, hcm, hcs, htk⟩
 ·injection hv with e1 e2 e3
  subst e1; subst e3
  obtain rfl : k = 0 := by omega
  exact ⟨by simp, .inl ⟨rfl, rfl⟩⟩
 ·injection hv with e1 e2 e3
  subst e1; subst e3
  refine ⟨by rw [List.length_take]; omega, .inr ⟨g, c, cur, rfl, hb, hh, by omega, hcm, hcs, ?_⟩⟩
  rw [← htk, List.take_take]
  congr 1
  omega
theorem byteCells_take (l : List UInt8) (k : Nat) : Lib.byteCells (l.take k) = (Lib.byteCells l).take k := by
 unfold Lib.byteCells
 rw [List.map_take]
theorem FH.cut {w : World} {lab : Lab} {b m : Nat} {A : Option Addr} {c : Nat} {ws : List WrF} {qs : List QF} {ops : Int} {dn : Bool} {am fl : Int} {q : QF} (h : FH w lab b m A c ws (q :: qs) ops dn am fl) {k : Nat} (hk : k ≤ q.x.length) :
  FH (w.setCell ⟨q.g, 0, none⟩ (.slice q.A k q.c)) lab b m A c ws ({ q with x := q.x.take k } :: qs) ops dn am fl ∧ LabTo w lab (w.setCell ⟨q.g, 0, none⟩ (.slice q.A k q.c)) lab := by
 have ho := only_set w ⟨q.g, 0, none⟩ (.slice q.A k q.c)
 have hq := h.fm.bod q List.mem_cons_self
 have hl := fun i r hi => Nat.lt_of_lt_of_le (h.fm.lt i r hi) ho.size
 have hlen : (q.x.take k).length = k := by rw [List.length_take]; omega
 have hv : ({ q with x := q.x.take k } : QF).v = .slice q.A k q.c := by unfold QF.v; simp only [hlen]
 refine ⟨⟨h.box.other h.nn _, h.lb, h.fm.body ho (fun i e => .inl e) (fun _ _ h => h) hl (q' := { q with x := q.x.take k }) ⟨by rw [hv]; exact hq.box.set 0 _, ?_, hq.at_, fun i hi => hq.blk i ?_⟩ rfl rfl⟩, LabTo.of_only ho fun i (e : i = q.g) => .inl ⟨3, by rw [e]; exact hq.at_⟩⟩
 ·refine own_onlyE (R := fun i => i = q.g) ?_ ho fun i hi (e : i = q.g) => ?_
  ·rw [hv]
   simp only [hlen]
   rw [byteCells_take]
   exact own_take1 hq.own hk
  ·rw [hv] at hi
   have h3 : lab i = some (4 + q.g) := hq.blk i (by unfold QF.v; cases hA : q.A with
    | none => rw [hA] at hi; cases hi
    | some a => rw [hA] at hi; exact hi)
   rw [e, hq.at_] at h3
   injection h3 with h3
   omega
 ·rw [hv] at hi
  unfold QF.v
  cases hA : q.A with
  | none => rw [hA] at hi; cases hi
  | some a => rw [hA] at hi; exact hi
theorem FH.dele {w : World} {lab : Lab} {b m : Nat} {A : Option Addr} {c : Nat} {ws : List WrF} {qs : List QF} {ops : Int} {dn : Bool} {am fl : Int} {q : QF} (h : FH w lab b m A c ws (q :: qs) ops dn am fl) (ty : TypeId) :
  ∃ w', (Builtin.delete_ #[85, 9] ty #[.map (some m), .string q.n]).run Tryz.prog w = .ok (.tuple #[]) w' ∧ FH w' lab b m A c ws qs ops dn am fl ∧ LabTo w lab w' lab := by
 obtain ⟨ps, hm, hp⟩ := h.fm.map
 obtain ⟨w', r, hm', ho⟩ := run_delS (P := Tryz.prog) Tryz.underlying85 Tryz.underlying9 ty hm q.n
 have hd := delP_perm (h.fm.fsts hp) hp
 have hbm : b ≠ m := fun e => by have := h.lb; rw [e, h.fm.lm] at this; cases this
 refine ⟨w', r, ⟨h.box.keep ho hbm, h.lb, h.fm.mapTo ho hm' hd (fun p hp => h.fm.bod p (List.mem_cons_of_mem _ hp)) (List.nodup_cons.1 h.fm.dif).2 (List.nodup_cons.1 h.fm.nms).2⟩, LabTo.of_only ho fun k (e : k = m) => .inl ⟨1, by rw [e]; exact h.fm.lm⟩⟩
structure FuseIs (a z : Int) : Prop where
 is : max a (-1) = z
 lo : -9223372036854775808 ≤ a
 hi : a ≤ 9223372036854775807
theorem FuseIs.burn {a z : Int} (h : FuseIs a z) : FuseIs (burnA a) (if 0 ≤ z then z - 1 else z) := by
 obtain ⟨h1, h2, h3⟩ := h
 unfold burnA
 constructor <;> split <;> (try split) <;> omega
theorem FuseIs.zero {a z : Int} (h : FuseIs a z) : decide (a = 0) = decide (z = 0) := decide_eq_decide.2 (by have := h.is; omega)
theorem FS.Fit.pend {S : FS} (hS : S.Fit) : S.pend ≤ 1000000000 := by
 have h8 := hS.ok.few
 have h9 := hS.rows
 unfold FS.pend
 have key : ∀ l : List FileF, l.length ≤ 8 → (∀ f ∈ l, f.row.length ≤ 100000) → (l.map fun f => f.row.length).sum ≤ l.length * 100000 := by
  intro l
  induction l with
  | nil => intro _ _; simp
  | cons f l ih =>
   intro h1 h2
   rw [List.length_cons] at h1
   have := ih (by omega) fun g hg => h2 g (List.mem_cons_of_mem _ hg)
   have := h2 f List.mem_cons_self
   rw [List.map_cons, List.sum_cons, List.length_cons]
   omega
 have := key S.l h8 h9
 omega
section
variable {w : World} {lab : Lab} {b : Nat} {S : FS}
theorem FAt.some_ (h : FAt w lab b S) (hr : RisF S.l) {n : ByteArray} {f : FileF} (hf : findF S.l n = some f) :
  ∃ m A c ws q qs am fl, FH w lab b m A c ws (q :: qs) (S.ops : Int) S.down am fl ∧ Cs S.l S.no (q.cf :: qs.map QF.cf) ws ∧ q.n = n ∧ q.x = f.all ∧ q.s = f.b.length ∧ FuseIs am S.fuse ∧ FuseIs fl S.fault := by
 obtain ⟨m, A, c, ws, qs, am, fl, h1, h2, h3, h4, h5, h6, h7, h8⟩ := h
 obtain ⟨r, hp⟩ := h2.of_some hr hf
 obtain ⟨qs', h9, h10⟩ := perm_of_map QF.cf hp qs rfl
 cases qs' with
 | nil => cases h10
 | cons q qs' =>
  injection h10 with h11 h12
  have := h2.perm (h9.map QF.cf)
  unfold QF.cf at h11
  injection h11 with e1 e2 e3
  exact ⟨m, A, c, ws, q, qs', am, fl, h1.perm h9, this, e1.symm, e2.symm, e3.symm, ⟨h3, h5, h6⟩, ⟨h4, h7, h8⟩⟩
theorem FAt.none_ (h : FAt w lab b S) {n : ByteArray} (hf : findF S.l n = none) :
  ∃ m A c ws qs am fl, FH w lab b m A c ws qs (S.ops : Int) S.down am fl ∧ Cs S.l S.no (qs.map QF.cf) ws ∧ (∀ q ∈ qs, q.n ≠ n) ∧ FuseIs am S.fuse ∧ FuseIs fl S.fault := by
 obtain ⟨m, A, c, ws, qs, am, fl, h1, h2, h3, h4, h5, h6, h7, h8⟩ := h
 exact ⟨m, A, c, ws, qs, am, fl, h1, h2, fun q hq => h2.of_none hf q.cf (List.mem_map_of_mem hq), ⟨h3, h5, h6⟩, ⟨h4, h7, h8⟩⟩
theorem FAt.of {m : Nat} {A : Option Addr} {c : Nat} {ws : List WrF} {qs : List QF} {am fl ops : Int} {dn : Bool} (h : FH w lab b m A c ws qs ops dn am fl) (h2 : Cs S.l S.no (qs.map QF.cf) ws) (h3 : FuseIs am S.fuse) (h4 : FuseIs fl S.fault) (ho : ops = (S.ops : Int)) (hd : dn = S.down) : FAt w lab b S := by
 subst ho; subst hd
 exact ⟨m, A, c, ws, qs, am, fl, h, h2, h3.is, h4.is, h3.lo, h3.hi, h4.lo, h4.hi⟩
theorem FAt.lack (h : FAt w lab b S) (hr : RisF S.l) (n : ByteArray) : Calls Tryz.prog 80 #[.pointer (some ⟨b, 0, none⟩), .string n] w fun e w' => e = .returned (.int .i64 (if (findF S.l n).isSome then 0 else 101)) ∧ w = w' := by
 cases hf : findF S.l n with
 | none =>
  obtain ⟨m, A, c, ws, qs, am, fl, h1, _, h3, _⟩ := h.none_ hf
  exact lack_no w lab b m A c ws qs _ _ am fl h1 h3
 | some f =>
  obtain ⟨m, A, c, ws, q, qs, am, fl, h1, _, rfl, _⟩ := h.some_ hr hf
  exact lack_has w lab b m A c ws _ _ _ am fl h1 List.mem_cons_self
theorem FAt.noop (h : FAt w lab b S) (e0 : Int) (hd : S.down = true ∨ e0 ≠ 0) : Calls Tryz.prog 76 #[.pointer (some ⟨b, 0, none⟩), .int .i64 e0] w fun e w' => e = .returned (.tuple #[.int .i64 (if S.down then 100 else e0), .bool false]) ∧ w = w' := by
 obtain ⟨m, A, c, ws, qs, am, fl, h1, _⟩ := h
 exact begin_none w lab b m A c ws qs _ _ am fl h1 e0 hd
theorem FAt.op (h : FAt w lab b S) (hS : S.Fit) (hd : S.down = false) {n : ByteArray} {f : FileF} (hf : findF S.l n = some f) :
  ∃ m A c ws q qs am fl, Cs S.l S.no (q.cf :: qs.map QF.cf) ws ∧ q.n = n ∧ q.x = f.all ∧ q.s = f.b.length ∧ ws.length ≤ 1000000000 ∧ FuseIs am S.count.fuse ∧ FuseIs fl S.count.fault ∧
   Calls Tryz.prog 76 #[.pointer (some ⟨b, 0, none⟩), .int .i64 0] w fun e w' => e = .returned (.tuple #[.int .i64 (if S.count.down then 100 else 0), .bool true]) ∧ FH w' lab b m A c ws (q :: qs) (S.count.ops : Int) S.count.down am fl ∧ LabTo w lab w' lab := by
 obtain ⟨m, A, c, ws, q, qs, am, fl, h1, h2, h3, h4, h5, h6, h7⟩ := h.some_ hS.ok.ris hf
 have hp := h2.pend hS.ok.ris
 have hop := hS.ops
 have hpd := hS.pend
 have hz := h6.zero
 have hcd : S.count.down = decide (am = 0) := by rw [hz]; unfold FS.count; rw [hd]; rfl
 refine ⟨m, A, c, ws, q, qs, burnA am, fl, h2, h3, h4, h5, by rw [hp]; exact hpd, h6.burn, h7, ?_⟩
 refine (begin_op w lab b m A c ws (q :: qs) (S.ops : Int) S.down am fl h1 hd (by omega) (by omega) h6.lo h6.hi).mono ?_
 rintro e w' ⟨rfl, k1, k2⟩
 rw [hcd]
 refine ⟨by simp, ?_, h1.to_ k2⟩
 have : ((S.count.ops : Nat) : Int) = (S.ops : Int) + 1 := by unfold FS.count; simp
 rw [this]
 exact k1
end
end
section
open Go Go.RowKit
open Go.Lib (hid)
set_option maxRecDepth 100000
section
variable (w : World) (lab : Lab) (b : Nat) (S : FS) (h : FAt w lab b S) (hS : S.Fit)
include h hS
set_option maxHeartbeats 1000000 in
theorem fsync_at (n : ByteArray) : Calls Tryz.prog 56 #[fp b, .string n] w fun e w' => e = .returned (.int .i64 (S.sync n).2) ∧ ∃ lab', FAt w' lab' b (S.sync n).1 ∧ LabTo w lab w' lab' := by
 have HL := hid (h.lack hS.ok.ris n)
 by_cases hd : S.down = true
 ·have hres : S.sync n = (S, 100) := by unfold FS.sync FS.known; rw [if_pos hd]
  have HN := hid (fun e0 => h.noop e0 (.inl hd))
  rw [hd] at HN
  rw [hres]
  have HR := hid h
  clear h hS hres hd
  generalize (if (findF S.l n).isSome then (0 : Int) else 101) = e0 at *
  go_enter Tryz.func56, Tryz.ntmps56
  go_wp2_with fail
  refine HL.out.mono ?_
  rintro e w1 ⟨rfl, rfl⟩
  go_wp2_with fail
  refine (HN.out e0).mono ?_
  rintro e w1 ⟨rfl, rfl⟩
  go_wp2_with fail
  go_ret
  exact ⟨rfl, lab, HR.out, LabTo.refl _ _⟩
 ·have hd0 : S.down = false := by simpa using hd
  cases hf : findF S.l n with
  | none =>
   have hres : S.sync n = (S, 101) := by unfold FS.sync FS.known; rw [if_neg hd, hf]
   have HN := hid (h.noop 101 (.inr (by omega)))
   rw [hd0] at HN
   rw [hf] at HL
   rw [hres]
   have HR := hid h
   clear h hS hres hd hd0 hf
   go_enter Tryz.func56, Tryz.ntmps56
   go_wp2_with fail
   refine HL.out.mono ?_
   rintro e w1 ⟨rfl, rfl⟩
   go_wp2_with fail
   refine HN.out.mono ?_
   rintro e w1 ⟨rfl, rfl⟩
   go_wp2_with fail
   go_ret
   exact ⟨rfl, lab, HR.out, LabTo.refl _ _⟩
  | some f =>
   have hres : S.sync n = if S.count.down then (S.count, 100) else ({ S.count with l := withF S.l { f with b := f.all, row := [] } }, 0) := by unfold FS.sync FS.known; rw [if_neg hd, hf]; rfl
   rw [hres]
   obtain ⟨m, A, c, ws, q, qs, am, fl, h0, hqn, hqx, hqs, hwl, h5, h6, hbeg⟩ := h.op hS hd0 hf
   rw [hf] at HL
   have HBG := hid hbeg
   have HF := hid (And.intro h5 h6)
   have HC := hid h0
   have HRis := hid hS.ok.ris
   have HQ := hid (And.intro hqn hqx)
   have HFD := hid hf
   have HSZ := hid (hS.ok.siz f ((findF_some hS.ok.ris).1 hf).1)
   clear h hS hres hd hd0 hbeg h5 h6 h0 hqs hf hqn hqx
   cases hcd : S.count.down with
   | true =>
    rw [hcd] at HBG
    rw [if_pos rfl]
    have HD := hid hcd
    clear hcd
    go_enter Tryz.func56, Tryz.ntmps56
    go_wp2_with fail
    refine HL.out.mono ?_
    rintro e w1 ⟨rfl, rfl⟩
    go_wp2_with fail
    refine HBG.out.mono ?_
    rintro e w1 ⟨rfl, k1, k2⟩
    have HR : Hid (FAt w1 lab b S.count ∧ LabTo w lab w1 lab) := hid ⟨FAt.of (S := S.count) k1 HC.out HF.out.1 HF.out.2 rfl HD.out.symm, k2⟩
    clear k1 k2 HBG
    go_wp2_with fail
    go_ret
    exact ⟨rfl, lab, HR.out⟩
   | false =>
    rw [hcd] at HBG
    rw [if_neg (by simp)]
    have HD := hid hcd
    clear hcd
    go_enter Tryz.func56, Tryz.ntmps56
    go_wp2_with fail
    refine HL.out.mono ?_
    rintro e w1 ⟨rfl, rfl⟩
    go_wp2_with fail
    refine HBG.out.mono ?_
    rintro e w1 ⟨rfl, k1, k2⟩
    have HST : Hid (Calls Tryz.prog 89 #[.pointer (some ⟨b, 0, none⟩), .string n] w1 _) := hid (by
     have := settle_calls10 w1 lab b m A c ws qs _ _ am fl k1 hwl
     rw [HQ.out.1] at this
     exact this)
    have HK2 := hid k2
    clear k1 k2 HBG
    go_wp2_with fail
    refine HST.out.mono ?_
    rintro e w2 ⟨rfl, k1, k2⟩
    have HR : Hid (FAt w2 lab b { S.count with l := withF S.l { f with b := f.all, row := [] } } ∧ LabTo w lab w2 lab) := hid ⟨FAt.of (S := { S.count with l := withF S.l { f with b := f.all, row := [] } }) k1 (by
      have hcs := HC.out.synced HRis.out (f := f) (by show findF S.l q.n = _; rw [HQ.out.1]; exact HFD.out) f.all
      show Cs _ S.no (_ :: _) _
      unfold QF.cf at *
      simp only at *
      rw [HQ.out.1] at hcs
      rw [HQ.out.2]
      exact hcs) HF.out.1 HF.out.2 rfl HD.out.symm, HK2.out.trans k2⟩
    clear k1 k2 HST HK2
    go_wp2_with fail
    go_ret
    exact ⟨rfl, lab, HR.out⟩
end
end
section
open Go Go.RowKit
open Go.Lib (hid)
set_option maxRecDepth 100000
section
variable (w : World) (lab : Lab) (b : Nat) (S : FS) (h : FAt w lab b S) (hS : S.Fit)
include h hS
set_option maxHeartbeats 1000000 in
theorem fremove_at (n : ByteArray) : Calls Tryz.prog 86 #[fp b, .string n] w fun e w' => e = .returned (.int .i64 (S.remove n).2) ∧ ∃ lab', FAt w' lab' b (S.remove n).1 ∧ LabTo w lab w' lab' := by
 have HL := hid (h.lack hS.ok.ris n)
 by_cases hd : S.down = true
 ·have hres : S.remove n = (S, 100) := by unfold FS.remove FS.known; rw [if_pos hd]
  have HN := hid (fun e0 => h.noop e0 (.inl hd))
  rw [hd] at HN
  rw [hres]
  have HR := hid h
  clear h hS hres hd
  generalize (if (findF S.l n).isSome then (0 : Int) else 101) = e0 at *
  go_enter Tryz.func86, Tryz.ntmps86
  go_wp2_with fail
  refine HL.out.mono ?_
  rintro e w1 ⟨rfl, rfl⟩
  go_wp2_with fail
  refine (HN.out e0).mono ?_
  rintro e w1 ⟨rfl, rfl⟩
  go_wp2_with fail
  go_ret
  exact ⟨rfl, lab, HR.out, LabTo.refl _ _⟩
 ·have hd0 : S.down = false := by simpa using hd
  cases hf : findF S.l n with
  | none =>
   have hres : S.remove n = (S, 101) := by unfold FS.remove FS.known; rw [if_neg hd, hf]
   have HN := hid (h.noop 101 (.inr (by omega)))
   rw [hd0] at HN
   rw [hf] at HL
   rw [hres]
   have HR := hid h
   clear h hS hres hd hd0 hf
   go_enter Tryz.func86, Tryz.ntmps86
   go_wp2_with fail
   refine HL.out.mono ?_
   rintro e w1 ⟨rfl, rfl⟩
   go_wp2_with fail
   refine HN.out.mono ?_
   rintro e w1 ⟨rfl, rfl⟩
   go_wp2_with fail
   go_ret
   exact ⟨rfl, lab, HR.out, LabTo.refl _ _⟩
  | some f =>
   have hres : S.remove n = if S.count.down then (S.count, 100) else ({ S.count with l := withoutF S.l n }, 0) := by unfold FS.remove FS.known; rw [if_neg hd, hf]; rfl
   rw [hres]
   obtain ⟨m, A, c, ws, q, qs, am, fl, h0, hqn, hqx, hqs, hwl, h5, h6, hbeg⟩ := h.op hS hd0 hf
   rw [hf] at HL
   have HBG := hid hbeg
   have HF := hid (And.intro h5 h6)
   have HC := hid h0
   have HRis := hid hS.ok.ris
   have HQ := hid (And.intro hqn hqx)
   have HFD := hid hf
   have HSZ := hid (hS.ok.siz f ((findF_some hS.ok.ris).1 hf).1)
   clear h hS hres hd hd0 hbeg h5 h6 h0 hqs hf hqn hqx
   cases hcd : S.count.down with
   | true =>
    rw [hcd] at HBG
    rw [if_pos rfl]
    have HD := hid hcd
    clear hcd
    go_enter Tryz.func86, Tryz.ntmps86
    go_wp2_with fail
    refine HL.out.mono ?_
    rintro e w1 ⟨rfl, rfl⟩
    go_wp2_with fail
    refine HBG.out.mono ?_
    rintro e w1 ⟨rfl, k1, k2⟩
    have HR : Hid (FAt w1 lab b S.count ∧ LabTo w lab w1 lab) := hid ⟨FAt.of (S := S.count) k1 HC.out HF.out.1 HF.out.2 rfl HD.out.symm, k2⟩
    clear k1 k2 HBG
    go_wp2_with fail
    go_ret
    exact ⟨rfl, lab, HR.out⟩
   | false =>
    rw [hcd] at HBG
    rw [if_neg (by simp)]
    have HD := hid hcd
    clear hcd
    go_enter Tryz.func86, Tryz.ntmps86
    go_wp2_with fail
    refine HL.out.mono ?_
    rintro e w1 ⟨rfl, rfl⟩
    go_wp2_with fail
    refine HBG.out.mono ?_
    rintro e w1 ⟨rfl, k1, k2⟩
    have HST : Hid (Calls Tryz.prog 96 #[.pointer (some ⟨b, 0, none⟩), .string n] w1 _) := hid (leave_calls10 w1 lab b m A c ws (q :: qs) _ _ am fl k1 n hwl)
    have HK2 := hid k2
    clear k1 k2 HBG
    go_wp2_with fail
    refine HST.out.mono ?_
    rintro e w2 ⟨rfl, k1, k2⟩
    obtain ⟨w3, r3, k3, k4⟩ := k1.dele 0
    rw [HQ.out.1] at r3
    have c0 := k1.box.c 0 rfl
    have HR : Hid (FAt w3 lab b { S.count with l := withoutF S.l n } ∧ LabTo w lab w3 lab) := hid ⟨FAt.of (S := { S.count with l := withoutF S.l n }) k3 (by
      have hcs := HC.out.removed HRis.out
      show Cs _ S.no _ _
      unfold QF.cf at *
      simp only at *
      rw [HQ.out.1] at hcs
      exact hcs) HF.out.1 HF.out.2 rfl HD.out.symm, (HK2.out.trans k2).trans k4⟩
    clear k1 k2 k3 k4 HST HK2
    go_wp2_with fail
    go_ret
    exact ⟨rfl, lab, HR.out⟩
end
end
section
open Go Go.RowKit
open Go.Lib (hid)
set_option maxRecDepth 100000
section
variable (w : World) (lab : Lab) (b : Nat) (S : FS) (h : FAt w lab b S) (hS : S.Fit)
include h hS
set_option maxHeartbeats 1000000 in
theorem fcut_at (n : ByteArray) (k : Int) (h1 : -9223372036854775808 ≤ k) (h2 : k ≤ 9223372036854775807) : Calls Tryz.prog 52 #[fp b, .string n, .int .i64 k] w fun e w' => e = .returned (.int .i64 (S.cut n k).2) ∧ ∃ lab', FAt w' lab' b (S.cut n k).1 ∧ LabTo w lab w' lab' := by
 have HL := hid (h.lack hS.ok.ris n)
 by_cases hd : S.down = true
 ·have hres : S.cut n k = (S, 100) := by unfold FS.cut FS.known; rw [if_pos hd]
  have HN := hid (fun e0 => h.noop e0 (.inl hd))
  rw [hd] at HN
  rw [hres]
  have HR := hid h
  clear h hS hres hd
  generalize (if (findF S.l n).isSome then (0 : Int) else 101) = e0 at *
  go_enter Tryz.func52, Tryz.ntmps52
  go_wp2_with fail
  refine HL.out.mono ?_
  rintro e w1 ⟨rfl, rfl⟩
  go_wp2_with fail
  refine (HN.out e0).mono ?_
  rintro e w1 ⟨rfl, rfl⟩
  go_wp2_with fail
  go_ret
  exact ⟨rfl, lab, HR.out, LabTo.refl _ _⟩
 ·have hd0 : S.down = false := by simpa using hd
  cases hf : findF S.l n with
  | none =>
   have hres : S.cut n k = (S, 101) := by unfold FS.cut FS.known; rw [if_neg hd, hf]
   have HN := hid (h.noop 101 (.inr (by omega)))
   rw [hd0] at HN
   rw [hf] at HL
   rw [hres]
   have HR := hid h
   clear h hS hres hd hd0 hf
   go_enter Tryz.func52, Tryz.ntmps52
   go_wp2_with fail
   refine HL.out.mono ?_
   rintro e w1 ⟨rfl, rfl⟩
   go_wp2_with fail
   refine HN.out.mono ?_
   rintro e w1 ⟨rfl, rfl⟩
   go_wp2_with fail
   go_ret
   exact ⟨rfl, lab, HR.out, LabTo.refl _ _⟩
  | some f =>
   have hres : S.cut n k = if S.count.down then (S.count, 100) else ({ S.count with l := withF S.l { f with b := f.all.take k.toNat, row := [] } }, 0) := by unfold FS.cut FS.known; rw [if_neg hd, hf]; rfl
   rw [hres]
   obtain ⟨m, A, c, ws, q, qs, am, fl, h0, hqn, hqx, hqs, hwl, h5, h6, hbeg⟩ := h.op hS hd0 hf
   rw [hf] at HL
   have HBG := hid hbeg
   have HF := hid (And.intro h5 h6)
   have HC := hid h0
   have HRis := hid hS.ok.ris
   have HQ := hid (And.intro hqn hqx)
   have HFD := hid hf
   have HSZ := hid (hS.ok.siz f ((findF_some hS.ok.ris).1 hf).1)
   clear h hS hres hd hd0 hbeg h5 h6 h0 hqs hf hqn hqx
   cases hcd : S.count.down with
   | true =>
    rw [hcd] at HBG
    rw [if_pos rfl]
    have HD := hid hcd
    clear hcd
    go_enter Tryz.func52, Tryz.ntmps52
    go_wp2_with fail
    refine HL.out.mono ?_
    rintro e w1 ⟨rfl, rfl⟩
    go_wp2_with fail
    refine HBG.out.mono ?_
    rintro e w1 ⟨rfl, k1, k2⟩
    have HR : Hid (FAt w1 lab b S.count ∧ LabTo w lab w1 lab) := hid ⟨FAt.of (S := S.count) k1 HC.out HF.out.1 HF.out.2 rfl HD.out.symm, k2⟩
    clear k1 k2 HBG
    go_wp2_with fail
    go_ret
    exact ⟨rfl, lab, HR.out⟩
   | false =>
    rw [hcd] at HBG
    rw [if_neg (by simp)]
    have HD := hid hcd
    clear hcd
    go_enter Tryz.func52, Tryz.ntmps52
    go_wp2_with fail
    refine HL.out.mono ?_
    rintro e w1 ⟨rfl, rfl⟩
    go_wp2_with fail
    refine HBG.out.mono ?_
    rintro e w1 ⟨rfl, k1, k2⟩
    obtain ⟨ps, hm, hg⟩ := k1.fm.get List.mem_cons_self
    have hlk := look_has hm hg
    rw [HQ.out.1] at hlk
    have c0 := k1.box.c 0 rfl
    have hq := k1.fm.bod q List.mem_cons_self
    have y0 := hq.box.c 0 rfl
    have z0 := hq.box.free 0
    have hcap : q.x.length ≤ q.c ∧ q.c ≤ maxLen := by have h1 := hq.own; unfold QF.v at h1; have := byt_of_own h1; exact this.2.2
    obtain ⟨z, hz⟩ : ∃ z, z = min k.toNat q.x.length := ⟨_, rfl⟩
    have hzl : z ≤ q.x.length := by omega
    have hz2 : max (0 : Int) (min k (q.x.length : Int)) = (z : Int) := by omega
    have hz3 : (0 : Int) ≤ (z : Int) := by omega
    have hz4 : (z : Int) ≤ (q.c : Int) := by omega
    obtain ⟨k3, k4⟩ := k1.cut hzl
    have HST : Hid (Calls Tryz.prog 89 #[.pointer (some ⟨b, 0, none⟩), .string n] _ _) := hid (by
     have := settle_calls10 _ lab b m A c ws qs _ _ am fl k3.drew hwl
     rw [HQ.out.1] at this
     exact this)
    have HK2 := hid (k2.trans k4.drew)
    have HTK : Hid (q.x.take z = f.all.take k.toNat) := hid (by rw [hz, ← HQ.out.2, List.take_eq_take_iff]; omega)
    unfold QF.v at y0
    clear k1 k2 k3 k4 HBG hm hg hq hcap hzl hz
    go_wp2_with fail
    go_region
    all_goals
     go_wp2_with fail
     refine HST.out.mono ?_
     rintro e w2 ⟨rfl, k1, k2⟩
     have HR : Hid (FAt w2 lab b { S.count with l := withF S.l { f with b := f.all.take k.toNat, row := [] } } ∧ LabTo w lab w2 lab) := hid ⟨FAt.of (S := { S.count with l := withF S.l { f with b := f.all.take k.toNat, row := [] } }) k1 (by
      have hcs := HC.out.synced HRis.out (f := f) (by show findF S.l q.n = _; rw [HQ.out.1]; exact HFD.out) (f.all.take k.toNat)
      show Cs _ S.no (_ :: _) _
      unfold QF.cf at *
      simp only at *
      rw [HQ.out.1] at hcs
      rw [HTK.out]
      exact hcs) HF.out.1 HF.out.2 rfl HD.out.symm, HK2.out.trans k2⟩
     clear k1 k2 HST HK2
     go_wp2_with fail
     go_ret
     exact ⟨rfl, lab, HR.out⟩
end
end
section
open Go Go.RowKit
set_option maxRecDepth 100000
theorem flat_set3 : ∀ (ls : List WrF) (k : Nat) (x : WrF) (t : ByteArray), ls[k]? = some x → (ls.flatMap wrC).set (k * 3) (.string t) = (ls.set k { x with n := t }).flatMap wrC
 | [], _, _, _, h => by simp at h
 | y :: ls, 0, x, t, h => by
  rw [List.getElem?_cons_zero] at h
  injection h with h
  subst h
  rfl
 | y :: ls, k + 1, x, t, h => by
  rw [List.getElem?_cons_succ] at h
  have ih := flat_set3 ls k x t h
  rw [List.flatMap_cons, List.set_cons_succ, List.flatMap_cons, ← ih]
  have hy : (wrC y).length = 3 := rfl
  rw [List.set_append_right _ _ (by rw [hy]; omega), hy]
  congr 2
  omega
section
variable {w : World} {lab : Lab} {b m : Nat} {A : Option Addr} {c : Nat} {ws : List WrF} {qs : List QF} {ops : Int} {dn : Bool} {am fl : Int}
theorem FH.rename1 (h : FH w lab b m A c ws qs ops dn am fl) {k : Nat} {x : WrF} (hk : ws[k]? = some x) :
  ∃ g, A = some ⟨g, 0, none⟩ ∧ w.cell? ⟨g, k * 3, none⟩ = some (.string x.n) ∧ w.frozen? ⟨g, k * 3, none⟩ = false ∧ lab g = some 2 ∧ ∀ t, FH (w.setCell ⟨g, k * 3, none⟩ (.string t)) lab b m A c (ws.set k { x with n := t }) qs ops dn am fl := by
 have hkl := (List.getElem?_eq_some_iff.1 hk).1
 rcases bx_own h.fm.row with ⟨_, h0, _, _⟩ | ⟨g, cs, rfl, hbx, hcl, hnc, hcm, htk⟩
 ·omega
 ·obtain ⟨d0, _, _⟩ := wr_cells10 htk hk
  have hgl := h.fm.rblk g rfl
  refine ⟨g, rfl, hbx.c _ d0, hbx.free _, hgl, fun t => ?_⟩
  have ho := only_set w ⟨g, k * 3, none⟩ (.string t)
  have hl : (ws.set k { x with n := t }).length = ws.length := List.length_set
  have hgb : b ≠ g := fun e => by rw [← e, h.lb] at hgl; cases hgl
  refine ⟨by rw [hl]; exact h.box.other hgb _, h.lb, h.fm.rowTo ho (fun i (e : i = g) => .inl (by rw [e]; exact hgl)) (fun _ _ h => h) (fun i r hi => Nat.lt_of_lt_of_le (h.fm.lt i r hi) ho.size) ?_ (fun i hi => by injection hi with hi; rw [← hi]; exact hgl)⟩
  rw [hl]
  refine own_bx (hbx.set (k * 3) (.string t)) (by rw [List.length_set]; exact hcl) hnc hcm ?_
  rw [List.take_set, htk, flat_set3 ws k x t hk]
theorem FH.move {q : QF} (h : FH w lab b m A c ws (q :: qs) ops dn am fl) {t : ByteArray} (ht : t ≠ q.n) (ty : TypeId) :
  ∃ w1 w2, (Instr.mapUpdate 85 (.map (some m)) (.string t) (.pointer (some ⟨q.g, 0, none⟩))).run Tryz.prog w = .ok () w1 ∧ w1.cell? ⟨b, 0, none⟩ = some (.map (some m)) ∧
   (Builtin.delete_ #[85, 9] ty #[.map (some m), .string q.n]).run Tryz.prog w1 = .ok (.tuple #[]) w2 ∧ FH w2 lab b m A c ws ({ q with n := t } :: qs.filter fun p => decide (p.n ≠ t)) ops dn am fl ∧ LabTo w lab w2 lab := by
 obtain ⟨ps, hm, hp⟩ := h.fm.map
 obtain ⟨w1, r1, hm1, ho1⟩ := run_putS (P := Tryz.prog) Tryz.underlying85 Tryz.underlying9 hm t q.g
 obtain ⟨w2, r2, hm2, ho2⟩ := run_delS (P := Tryz.prog) Tryz.underlying85 Tryz.underlying9 ty hm1 q.n
 have hbm : b ≠ m := fun e => by have := h.lb; rw [e, h.fm.lm] at this; cases this
 have ho : Only (fun k => k = m) w w2 := ho1.trans ho2 fun _ e => .inl e
 have hfs := h.fm.fsts hp
 have hnq := List.nodup_cons.1 h.fm.nms
 have key : (delP (putP ps t q.g) q.n).Perm ((t, q.g) :: (qs.filter fun p => decide (p.n ≠ t)).map fun q => (q.n, q.g)) := by
  by_cases hex : ∃ r ∈ qs, r.n = t
  ·obtain ⟨r, hr, rfl⟩ := hex
   obtain ⟨a, d, rfl⟩ := List.append_of_mem hr
   have hpr : ps.Perm ((r.n, r.g) :: (q.n, q.g) :: (a ++ d).map fun q => (q.n, q.g)) := by
    refine hp.trans ?_
    rw [List.map_cons, List.map_append, List.map_cons, List.map_append]
    exact (List.Perm.cons _ List.perm_middle).trans (.swap _ _ _)
   have h1 := putP_perm hfs hpr q.g
   have hnd : (((putP ps r.n q.g)).map Prod.fst).Nodup := by
    refine ((h1.map Prod.fst).nodup_iff).2 ?_
    have := ((hpr.map Prod.fst).nodup_iff).1 hfs
    exact this
   have h2 := delP_perm hnd (h1.trans (.swap _ _ _))
   refine h2.trans (List.Perm.cons _ ?_)
   have hne : ∀ p ∈ a ++ d, p.n ≠ r.n := fun p hp' e => by
    have h3 : ((r :: (a ++ d)).map QF.n).Nodup := by
     refine ((List.Perm.map QF.n (List.perm_middle (a := r) (l₁ := a) (l₂ := d))).nodup_iff).1 ?_
     exact hnq.2
    exact (List.nodup_cons.1 h3).1 (by rw [← e]; exact List.mem_map_of_mem hp')
   have hfil : ((a ++ r :: d).filter fun p => decide (p.n ≠ r.n)) = a ++ d := by
    rw [List.filter_append, List.filter_cons_of_neg (by simp), ← List.filter_append]
    exact List.filter_eq_self.2 fun p hp' => decide_eq_true (hne p hp')
   rw [hfil]
  ·have hno : ∀ p ∈ qs, p.n ≠ t := fun p hp' e => hex ⟨p, hp', e⟩
   have hpt : ∀ p ∈ ps, p.1 ≠ t := fun p hp' => by
    have h3 := hp.mem_iff.1 hp'
    rcases List.mem_cons.1 h3 with rfl | h3
    ·exact fun e => ht e.symm
    ·obtain ⟨r, hr, rfl⟩ := List.mem_map.1 h3
     exact hno r hr
   rw [putP_no hpt]
   have h1 : (ps ++ [(t, q.g)]).Perm ((q.n, q.g) :: (t, q.g) :: qs.map fun q => (q.n, q.g)) := by
    refine (List.perm_append_singleton _ _).trans ((hp.cons _).trans ?_)
    rw [List.map_cons]
    exact .swap _ _ _
   have hnd : ((ps ++ [(t, q.g)]).map Prod.fst).Nodup := by
    rw [List.map_append]
    refine ((List.perm_append_singleton t (ps.map Prod.fst)).nodup_iff).2 (List.nodup_cons.2 ⟨fun hm' => ?_, hfs⟩)
    obtain ⟨p, hp', e⟩ := List.mem_map.1 hm'
    exact hpt p hp' e
   have h2 := delP_perm hnd h1
   rw [List.filter_eq_self.2 fun p hp' => decide_eq_true (hno p hp')]
   exact h2
 refine ⟨w1, w2, r1, ho1.cell (h.box.c 0 rfl) (fun e => hbm e), r2, ⟨h.box.keep ho hbm, h.lb, h.fm.mapTo ho hm2 key (fun p hp' => ?_) ?_ ?_⟩, LabTo.of_only ho fun k (e : k = m) => .inl ⟨1, by rw [e]; exact h.fm.lm⟩⟩
 ·rcases List.mem_cons.1 hp' with rfl | hp'
  ·have := h.fm.bod q List.mem_cons_self
   exact ⟨this.box, this.own, this.at_, this.blk⟩
  ·exact h.fm.bod p (List.mem_cons_of_mem _ (List.mem_filter.1 hp').1)
 ·have h3 : ((q :: qs.filter fun p => decide (p.n ≠ t)).map QF.g).Nodup := List.Nodup.sublist ((List.filter_sublist.cons_cons q).map QF.g) h.fm.dif
  exact h3
 ·refine List.nodup_cons.2 ⟨fun hm' => ?_, List.Nodup.sublist (List.filter_sublist.map QF.n) hnq.2⟩
  obtain ⟨p, hp', e⟩ := List.mem_map.1 hm'
  exact of_decide_eq_true (List.mem_filter.1 hp').2 e
end
end
section
open Go Go.RowKit
open Go.Lib (hid)
set_option maxRecDepth 100000
def renE (S : FS) (n t : ByteArray) : Int := if nameF t = false then 101 else if (findF S.l n).isSome then 0 else 101
theorem rename_no {S : FS} {n t : ByteArray} (h : S.down = true ∨ renE S n t ≠ 0) : S.rename n t = (S, if S.down then 100 else renE S n t) := by
 unfold FS.rename FS.known
 cases hd : S.down with
 | true => rw [if_pos rfl]; rfl
 | false =>
  rw [hd] at h
  have h := h.resolve_left (by simp)
  rw [if_neg (by simp), if_neg (by simp)]
  unfold renE at h ⊢
  cases hf : findF S.l n with
  | none =>
   show ((S, 101) : FS × Int) = _
   cases nameF t <;> rfl
  | some f =>
   rw [hf] at h
   cases hn : nameF t with
   | false => rfl
   | true => rw [hn] at h; simp at h
theorem rename_yes {S : FS} {n t : ByteArray} (hd : S.down = false) (h : renE S n t = 0) : ∃ f, findF S.l n = some f ∧ nameF t = true ∧ S.rename n t = if S.count.down then (S.count, 100) else ({ S.count with l := withF (withoutF S.l n) { f with name := t } }, 0) := by
 unfold FS.rename FS.known
 unfold renE at h
 cases hn : nameF t with
 | false => rw [hn] at h; simp at h
 | true =>
  rw [hn] at h
  cases hf : findF S.l n with
  | none => rw [hf] at h; simp at h
  | some f =>
   refine ⟨f, rfl, rfl, ?_⟩
   rw [hd, if_neg (by simp)]
   rfl
def midW (ws : List WrF) (n t : ByteArray) (k : Nat) : List WrF := (ws.take k).map (nameW n t) ++ ws.drop k
theorem mid_get {ws : List WrF} {n t : ByteArray} {k : Nat} {x : WrF} (h : ws[k]? = some x) : (midW ws n t k)[k]? = some x := by
 have hk := (List.getElem?_eq_some_iff.1 h).1
 unfold midW
 rw [List.getElem?_append_right (by rw [List.length_map, List.length_take]; omega), List.length_map, List.length_take, Nat.min_eq_left (by omega), Nat.sub_self, List.getElem?_drop]
 exact h
theorem mid_len (ws : List WrF) (n t : ByteArray) (k : Nat) : (midW ws n t k).length = ws.length := by
 unfold midW
 simp
 omega
theorem mid_succ {ws : List WrF} {n t : ByteArray} {k : Nat} {x : WrF} (h : ws[k]? = some x) : midW ws n t (k + 1) = (midW ws n t k).set k (nameW n t x) := by
 have hk := (List.getElem?_eq_some_iff.1 h).1
 unfold midW
 rw [List.take_add_one, h, List.map_append]
 have hl : ((ws.take k).map (nameW n t)).length = k := by rw [List.length_map, List.length_take]; omega
 rw [List.set_append_right _ _ (by omega), hl, Nat.sub_self]
 have hd : ws.drop k = x :: ws.drop (k + 1) := by
  obtain ⟨h1, h2⟩ := List.getElem?_eq_some_iff.1 h
  rw [List.drop_eq_getElem_cons h1, h2]
 rw [hd, List.append_assoc]
 rfl
theorem mid_skip {ws : List WrF} {n t : ByteArray} {k : Nat} {x : WrF} (h : ws[k]? = some x) (hn : x.n ≠ n) : midW ws n t (k + 1) = midW ws n t k := by
 rw [mid_succ h]
 have : nameW n t x = x := if_neg hn
 rw [this]
 have hg := mid_get (n := n) (t := t) h
 obtain ⟨h1, h2⟩ := List.getElem?_eq_some_iff.1 hg
 rw [← h2, List.set_getElem_self]
section
variable (w : World) (lab : Lab) (b : Nat) (S : FS) (h : FAt w lab b S) (hS : S.Fit)
include h hS
set_option maxHeartbeats 4000000 in
theorem frename_at (n t : ByteArray) : Calls Tryz.prog 66 #[fp b, .string n, .string t] w fun e w' => e = .returned (.int .i64 (S.rename n t).2) ∧ ∃ lab', FAt w' lab' b (S.rename n t).1 ∧ LabTo w lab w' lab' := by
 have HL := hid (h.lack hS.ok.ris n)
 have HNM := hid (isName_calls10 t w)
 by_cases hno : S.down = true ∨ renE S n t ≠ 0
 ·rw [rename_no hno]
  have HN := hid (h.noop (renE S n t) hno)
  have HR := hid h
  unfold renE at *
  clear h hS
  have hz : (if S.down = true then (100 : Int) else (if nameF t = false then 101 else if (findF S.l n).isSome then 0 else 101)) ≠ 0 := by
   split
   ·decide
   ·rename_i hd
    exact hno.resolve_left hd
  clear hno
  generalize hz1 : (if S.down = true then (100 : Int) else (if nameF t = false then 101 else if (findF S.l n).isSome then 0 else 101)) = e1 at *
  have q0 : (e1 == 0) = false := by simpa using hz
  have q1 : (e1 != 0) = true := by simpa using hz
  clear hz hz1
  cases hnm : nameF t with
  | false =>
   rw [hnm] at HNM HN
   rw [if_pos rfl] at HN
   clear hnm
   generalize (if (findF S.l n).isSome then (0 : Int) else 101) = e0 at *
   go_enter Tryz.func66, Tryz.ntmps66
   go_wp2_with fail
   refine HL.out.mono ?_
   rintro e w1 ⟨rfl, rfl⟩
   go_wp2_with fail
   refine HNM.out.mono ?_
   rintro e w1 ⟨rfl, rfl⟩
   go_wp2_with fail
   refine HN.out.mono ?_
   rintro e w1 ⟨rfl, rfl⟩
   go_wp2_with fail
   go_ret
   exact ⟨rfl, lab, HR.out, LabTo.refl _ _⟩
  | true =>
   rw [hnm] at HNM HN
   rw [if_neg (by simp)] at HN
   clear hnm
   generalize (if (findF S.l n).isSome then (0 : Int) else 101) = e0 at *
   go_enter Tryz.func66, Tryz.ntmps66
   go_wp2_with fail
   refine HL.out.mono ?_
   rintro e w1 ⟨rfl, rfl⟩
   go_wp2_with fail
   refine HNM.out.mono ?_
   rintro e w1 ⟨rfl, rfl⟩
   go_wp2_with fail
   refine HN.out.mono ?_
   rintro e w1 ⟨rfl, rfl⟩
   go_wp2_with fail
   go_ret
   exact ⟨rfl, lab, HR.out, LabTo.refl _ _⟩
 ·have hd0 : S.down = false := by cases hd : S.down with
   | true => exact absurd (.inl hd) hno
   | false => rfl
  have ha0 : renE S n t = 0 := Classical.byContradiction fun e => hno (.inr e)
  obtain ⟨f, hf, hnt, hres⟩ := rename_yes hd0 ha0
  rw [hres]
  obtain ⟨m, A, c, ws, q, qs, am, fl, h0, hqn, hqx, hqs, hwl, h5, h6, hbeg⟩ := h.op hS hd0 hf
  rw [hf] at HL
  rw [hnt] at HNM
  have HBG := hid hbeg
  have HF := hid (And.intro h5 h6)
  have HC := hid h0
  have HRis := hid hS.ok.ris
  have HQ := hid hqn
  have HFD := hid hf
  clear h hS hres hd0 hbeg h5 h6 h0 hqs hf hqn hqx hno ha0 hnt
  cases hcd : S.count.down with
  | true =>
   rw [hcd] at HBG
   rw [if_pos rfl]
   have HD := hid hcd
   clear hcd
   go_enter Tryz.func66, Tryz.ntmps66
   go_wp2_with fail
   refine HL.out.mono ?_
   rintro e w1 ⟨rfl, rfl⟩
   go_wp2_with fail
   refine HNM.out.mono ?_
   rintro e w1 ⟨rfl, rfl⟩
   go_wp2_with fail
   refine HBG.out.mono ?_
   rintro e w1 ⟨rfl, k1, k2⟩
   have HR : Hid (FAt w1 lab b S.count ∧ LabTo w lab w1 lab) := hid ⟨FAt.of (S := S.count) k1 HC.out HF.out.1 HF.out.2 rfl HD.out.symm, k2⟩
   clear k1 k2 HBG
   go_wp2_with fail
   go_ret
   exact ⟨rfl, lab, HR.out⟩
  | false =>
   rw [hcd] at HBG
   rw [if_neg (by simp)]
   have HD := hid hcd
   clear hcd
   by_cases hnt : n = t
   ·have q1 : (n.toList == t.toList) = true := by rw [tl_beq10]; exact decide_eq_true hnt
    have HE := hid hnt
    clear hnt
    go_enter Tryz.func66, Tryz.ntmps66
    go_wp2_with fail
    refine HL.out.mono ?_
    rintro e w1 ⟨rfl, rfl⟩
    go_wp2_with fail
    refine HNM.out.mono ?_
    rintro e w1 ⟨rfl, rfl⟩
    go_wp2_with fail
    refine HBG.out.mono ?_
    rintro e w1 ⟨rfl, k1, k2⟩
    have HR : Hid (FAt w1 lab b { S.count with l := withF (withoutF S.l n) { f with name := t } } ∧ LabTo w lab w1 lab) := hid ⟨FAt.of (S := { S.count with l := withF (withoutF S.l n) { f with name := t } }) k1 (by
     have := HC.out.same HRis.out (f := f) (by show findF S.l q.n = _; rw [HQ.out]; exact HFD.out)
     unfold QF.cf at this
     simp only at this
     rw [HQ.out] at this
     rw [← HE.out]
     show Cs _ S.no (_ :: _) _
     unfold QF.cf
     rw [HQ.out]
     exact this) HF.out.1 HF.out.2 rfl HD.out.symm, k2⟩
    clear k1 k2 HBG
    go_wp2_with fail
    go_ret
    exact ⟨rfl, lab, HR.out⟩
   ·have q1 : (n.toList == t.toList) = false := by rw [tl_beq10]; exact decide_eq_false hnt
    have HE := hid hnt
    clear hnt
    go_enter Tryz.func66, Tryz.ntmps66
    go_wp2_with fail
    refine HL.out.mono ?_
    rintro e w1 ⟨rfl, rfl⟩
    go_wp2_with fail
    refine HNM.out.mono ?_
    rintro e w1 ⟨rfl, rfl⟩
    go_wp2_with fail
    refine HBG.out.mono ?_
    rintro e w1 ⟨rfl, k1, k2⟩
    have HST := hid (leave_calls10 w1 lab b m A c ws (q :: qs) _ _ am fl k1 t hwl)
    have HK2 := hid k2
    clear k1 k2 HBG
    go_wp2_with fail
    refine HST.out.mono ?_
    rintro e w2 ⟨rfl, k1, k2⟩
    have hvl : (ws.filter fun v => decide (v.n ≠ t)).length ≤ 1000000000 := Nat.le_trans (List.length_filter_le _ _) hwl
    obtain ⟨vs, hvs⟩ : ∃ vs, (ws.filter fun v => decide (v.n ≠ t)) = vs := ⟨_, rfl⟩
    rw [hvs] at k1 hvl
    have HV := hid hvs
    have c1 := k1.box.c 1 rfl
    have HK1 := hid k1
    have HKL := hid (HK2.out.trans k2)
    clear k1 k2 HST HK2 hvs
    go_wp2_with fail
    clear c1
    go_loopw [39] (fun v39 wr => ∃ k : Nat, k ≤ vs.length ∧ v39 = .int .i64 (k : Int) ∧ Hid (FH wr lab b m A c (midW vs n t k) (q :: qs) (S.count.ops : Int) false am fl) ∧ Hid (LabTo w lab wr lab)) (fun v39 _ => vs.length - (intOf v39).toNat)
    case atStart => exact ⟨0, Nat.zero_le _, rfl, hid (by unfold midW; simpa using HK1.out), HKL⟩
    case round =>
     obtain ⟨k, hk, rfl, hfh, hto⟩ := hrel
     have c1 := hfh.out.box.c 1 rfl
     rw [mid_len] at c1
     by_cases hlt : k < vs.length
     ·obtain ⟨x, hx⟩ : ∃ x, vs[k]? = some x := ⟨_, List.getElem?_eq_getElem hlt⟩
      obtain ⟨g, rfl, d0, d1, hgl, hren⟩ := hfh.out.rename1 (mid_get (n := n) (t := t) hx)
      have hkl : (k : Int) < (vs.length : Int) := by omega
      by_cases hxn : x.n = n
      ·have t1 : (x.n.toList == n.toList) = true := by rw [tl_beq10]; exact decide_eq_true hxn
       have HN1 : Hid (FH (wr.setCell ⟨g, k * 3, none⟩ (.string t)) lab b m (some ⟨g, 0, none⟩) c (midW vs n t (k + 1)) (q :: qs) (S.count.ops : Int) false am fl ∧ LabTo w lab (wr.setCell ⟨g, k * 3, none⟩ (.string t)) lab) := hid ⟨by
        have := hren t
        rw [mid_succ hx]
        unfold nameW
        rw [if_pos hxn]
        exact this, hto.out.trans (LabTo.of_only (only_set wr ⟨g, k * 3, none⟩ (.string t)) fun i (e : i = g) => .inl ⟨2, by rw [e]; exact hgl⟩)⟩
       clear hfh hto hren hxn hx hgl
       go_wp2_with fail
       go_roundw
       case rel => exact ⟨k + 1, by omega, by go_num, hid HN1.out.1, hid HN1.out.2⟩
       case measure => simp [intOf]; omega
      ·have t1 : (x.n.toList == n.toList) = false := by rw [tl_beq10]; exact decide_eq_false hxn
       have HN1 := hid (mid_skip (t := t) hx hxn)
       clear hren hxn hx hgl
       go_wp2_with fail
       go_roundw
       case rel => exact ⟨k + 1, by omega, by go_num, hid (by rw [HN1.out]; exact hfh.out), hto⟩
       case measure => simp [intOf]; omega
     ·obtain rfl : k = vs.length := by omega
      have hmid : midW vs n t vs.length = vs.map (nameW n t) := by unfold midW; simp
      obtain ⟨ps, hm, hg⟩ := hfh.out.drew.fm.get List.mem_cons_self
      have hlk := look_has hm hg
      have c0 := hfh.out.box.c 0 rfl
      obtain ⟨w4, w5, r4, c4, r5, k5, l5⟩ := hfh.out.drew.move (t := t) (by rw [HQ.out]; exact fun e => HE.out e.symm) 0
      rw [HQ.out] at hlk r5
      have HR : Hid (FAt w5 lab b { S.count with l := withF (withoutF S.l n) { f with name := t } } ∧ LabTo w lab w5 lab) := hid ⟨FAt.of (S := { S.count with l := withF (withoutF S.l n) { f with name := t } }) k5 (by
       have := HC.out.renamed HRis.out (f := f) (t := t) (by show findF S.l q.n = _; rw [HQ.out]; exact HFD.out) (fun e => HE.out (by rw [e]; exact HQ.out.symm))
       unfold QF.cf at this
       simp only at this
       rw [HQ.out] at this
       rw [hmid, ← HV.out]
       show Cs _ S.no (_ :: _) _
       unfold QF.cf
       rw [List.filter_map] at this
       exact this) HF.out.1 HF.out.2 rfl HD.out.symm, (hto.out.drew).trans l5⟩
      clear hfh hto hm hg k5 l5 hmid HK1 HKL
      go_wp2_with fail
      go_region
      all_goals
       go_wp2_with fail
       go_ret
       exact ⟨rfl, lab, HR.out⟩
end
end
section
open Go Go.RowKit
set_option maxRecDepth 100000
def bV (u : UInt8) : Value := .int .u8 (u.toNat : Int)
theorem byteCells_map (l : List UInt8) : Lib.byteCells l = l.map bV := rfl
theorem rdV_byt {w : World} {A : Option Addr} {l : List UInt8} (h : Byt w A l) : RdV bV w A l := fun hn => by
 obtain ⟨g, o, e, hg⟩ := h.at_ hn
 subst e
 refine ⟨g, o, rfl, ?_, fun i x hi => byt_cells h i _ (by rw [byteCells_map, List.getElem?_map, hi]; rfl)⟩
 exact World.block_lt_of_cell? _ ⟨g, o, none⟩ (byt_cells h 0 _ (by rw [byteCells_map, List.getElem?_map, List.getElem?_eq_getElem hn]; rfl))
theorem info8_10 : ∃ i, Tryz.prog.info? 5 = some i ∧ i.zero = some (.int .u8 0) ∧ i.size = 1 ∧ i.bytes = 1 := by
 have := info8
 cases hi : Tryz.prog.info? 5 with
 | none => rw [hi] at this; cases this
 | some i =>
  rw [hi] at this
  simp at this
  exact ⟨i, rfl, this⟩
theorem infoW_10 : ∃ i, Tryz.prog.info? 109 = some i ∧ i.zero = some (.agg #[.string ⟨#[]⟩, .int .i64 0, .int .i64 0]) ∧ i.size = 3 ∧ i.bytes = 32 := by
 have : (Tryz.prog.info? 109).map (fun i => (i.zero, i.size, i.bytes)) = some (some (.agg #[.string ⟨#[]⟩, .int .i64 0, .int .i64 0]), 3, 32) := by kernel_rfl
 cases hi : Tryz.prog.info? 109 with
 | none => rw [hi] at this; cases this
 | some i =>
  rw [hi] at this
  simp at this
  exact ⟨i, rfl, this⟩
theorem run_append_b10 (w : World) (v : Value) (xs : List UInt8) (hown : w.ownsRow 0 5 1 v xs.length (Lib.byteCells xs)) (A : Option Addr) (c : Nat) (l : List UInt8) (hA : A = none → c = 0) (hl : Byt w A l) (hb : xs.length + l.length ≤ 1099511627776) :
  ∃ A' c' w', (Builtin.append_ #[30, 30] 30 #[v, .slice A l.length c]).run Tryz.prog w = .ok (.slice A' (xs ++ l).length c') w' ∧ w'.ownsRow 0 5 1 (.slice A' (xs ++ l).length c') (xs ++ l).length (Lib.byteCells (xs ++ l)) ∧ w.grownBy w' v.ownBlock ∧
   ((Value.slice A' (xs ++ l).length c').ownBlock = v.ownBlock ∨ (Value.slice A' (xs ++ l).length c').ownBlock = some w.heap.size) := by
 obtain ⟨i, hi, hz, hs, hy⟩ := info8_10
 obtain ⟨v', w', h1, h2, h3, h4⟩ := run_append_V (P := Tryz.prog) (V := bV) (fun _ => rfl) w 0 30 30 5 i _ 1 Tryz.underlying30 hi hz hs hy rfl (by decide) v xs.length xs rfl hown A l.length c l rfl hA (rdV_byt hl) hb (Nat.zero_le _)
 rw [← List.length_append] at h2
 obtain ⟨A', c', rfl⟩ := own_form h2
 exact ⟨A', c', w', h1, h2, h3, h4⟩
theorem run_append_w10 (w : World) (v : Value) (n : Nat) (ls : List WrF) (hn : n = ls.length) (hown : w.ownsRow 0 109 3 v n (ls.flatMap wrC)) (g : Nat) (x : WrF) (hx : BxA w g 109 (wrC x)) (hb : n ≤ 1000000000) :
  ∃ A' c' w', (Builtin.append_ #[86, 86] 86 #[v, .slice (some ⟨g, 0, none⟩) 1 1]).run Tryz.prog w = .ok (.slice A' (n + 1) c') w' ∧ w'.ownsRow 0 109 3 (.slice A' (n + 1) c') (n + 1) ((ls ++ [x]).flatMap wrC) ∧ w.grownBy w' v.ownBlock ∧
   ((Value.slice A' (n + 1) c').ownBlock = v.ownBlock ∨ (Value.slice A' (n + 1) c').ownBlock = some w.heap.size) := by
 obtain ⟨i, hi, hz, hs, hy⟩ := infoW_10
 obtain ⟨v', w', h1, h2, h3, _, h5⟩ := run_append_own_at (P := Tryz.prog) (w := w) 0 86 86 109 i _ 3 32 Tryz.underlying86 hi hz hs hy rfl (by decide) v n (ls.flatMap wrC) hown ⟨g, 0, none⟩ 1 1 (wrC x) rfl (fun j u hj => by
   rw [Addr.add_lit, Nat.zero_add]
   exact hx.c j hj) (fun u hu => by
   unfold wrC at hu
   simp at hu
   rcases hu with rfl | rfl | rfl <;> rfl) (by unfold maxLen; omega) (by omega) (Nat.zero_le _)
 rw [show ls.flatMap wrC ++ wrC x = (ls ++ [x]).flatMap wrC by simp] at h2
 obtain ⟨A', c', rfl⟩ := own_form h2
 exact ⟨A', c', w', h1, h2, h3, h5⟩
def labW (lab : Lab) (v : Value) (r : Nat) : Lab := fun k => if v.ownBlock = some k then some r else lab k
theorem labW_ext {w : World} {lab : Lab} {v v' : Value} {r : Nat} (hlt : ∀ k r, lab k = some r → k < w.heap.size) (hv : ∀ k, v.ownBlock = some k → lab k = some r) (h : v'.ownBlock = v.ownBlock ∨ v'.ownBlock = some w.heap.size) : ∀ k s, lab k = some s → labW lab v' r k = some s := fun k s hk => by
 unfold labW
 split
 ·rename_i e
  rcases h with h | h
  ·rw [h] at e
   rw [← hk]
   exact (hv k e).symm
  ·rw [h] at e
   injection e with e
   have := hlt k s hk
   omega
 ·exact hk
theorem labW_new {w : World} {lab : Lab} {v v' : Value} {r : Nat} (hv : ∀ k, v.ownBlock = some k → lab k = some r) (h : v'.ownBlock = v.ownBlock ∨ v'.ownBlock = some w.heap.size) : ∀ k s, labW lab v' r k = some s → lab k = some s ∨ w.heap.size ≤ k := fun k s hk => by
 unfold labW at hk
 split at hk
 ·rename_i e
  rcases h with h | h
  ·rw [h] at e
   exact .inl ((hv k e).trans hk)
  ·rw [h] at e
   injection e with e
   exact .inr (by omega)
 ·exact .inl hk
theorem labW_lt {w w' : World} {lab : Lab} {v' : Value} {r : Nat} {base e s n : Nat} {xs : List Value} (hlt : ∀ k r, lab k = some r → k < w.heap.size) (hs : w.heap.size ≤ w'.heap.size) (ho : w'.ownsRow base e s v' n xs) : ∀ k q, labW lab v' r k = some q → k < w'.heap.size := fun k q hk => by
 unfold labW at hk
 split at hk
 ·rename_i h; exact (ho.lt k h).2
 ·exact Nat.lt_of_lt_of_le (hlt k q hk) hs
section
variable {w w2 : World} {lab : Lab} {b m : Nat} {A : Option Addr} {c : Nat} {ws : List WrF} {qs : List QF} {ops : Int} {dn : Bool} {am fl : Int}
theorem FH.grown {q : QF} (h : FH w lab b m A c ws (q :: qs) ops dn am fl) (hg : w.grownBy w2 q.v.ownBlock) {A' : Option Addr} {c' : Nat} {z : List UInt8} (hown : w2.ownsRow 0 5 1 (.slice A' z.length c') z.length (Lib.byteCells z))
  (hb : (Value.slice A' z.length c').ownBlock = q.v.ownBlock ∨ (Value.slice A' z.length c').ownBlock = some w.heap.size) :
  ∃ lab', FH (w2.setCell ⟨q.g, 0, none⟩ (.slice A' z.length c')) lab' b m A c ws ({ q with x := z, A := A', c := c' } :: qs) ops dn am fl ∧ LabTo w lab (w2.setCell ⟨q.g, 0, none⟩ (.slice A' z.length c')) lab' ∧ BxA w2 q.g 111 [q.v, .int .i64 (q.s : Int)] := by
 have hq := h.fm.bod q List.mem_cons_self
 have ho1 : Only (fun k => lab k = some (4 + q.g)) w w2 := Only.of_grown hg fun k e => hq.blk k e
 have hgl : ¬ lab q.g = some (4 + q.g) := fun e => by rw [hq.at_] at e; injection e with e; omega
 have hbx := hq.box.keep ho1 hgl
 have ho2 := only_set w2 ⟨q.g, 0, none⟩ (.slice A' z.length c')
 have hext := labW_ext (v' := .slice A' z.length c') h.fm.lt hq.blk hb
 have hnew := labW_new (v' := .slice A' z.length c') hq.blk hb
 have hlt := labW_lt (r := 4 + q.g) h.fm.lt ho1.size hown
 have hnv : ∀ k, (Value.slice A' z.length c').ownBlock = some k → k ≠ q.g := fun k hk e => by
  rcases hb with h1 | h1
  ·rw [h1] at hk
   have := hq.blk k hk
   rw [e] at this
   exact hgl this
  ·rw [h1] at hk
   injection hk with hk
   have := h.fm.lt q.g 3 hq.at_
   omega
 have hall : Only (fun k => k = q.g ∨ lab k = some (4 + q.g)) w (w2.setCell ⟨q.g, 0, none⟩ (.slice A' z.length c')) := (ho1.mono fun k e => .inl (.inr e)).trans ho2 fun k e => .inl (.inl e)
 refine ⟨labW lab (.slice A' z.length c') (4 + q.g), ⟨?_, hext _ _ h.lb, ?_⟩, ⟨hall.mono fun k hk => .inl ?_, hext, hnew⟩, hbx⟩
 ·exact (h.box.keep ho1 (fun e => by rw [h.lb] at e; injection e with e; omega)).other h.nn _
 ·refine h.fm.body hall (fun k hk => hk.imp id .inl) hext (fun k r hk => by simpa [World.setCell] using hlt k r hk) (q' := { q with x := z, A := A', c := c' }) ⟨hbx.set 0 _, own_onlyE hown ho2 fun k hk e => hnv k hk e, hext _ _ hq.at_, fun k hk => ?_⟩ rfl rfl
  exact if_pos hk
 ·rcases hk with rfl | hk
  ·rw [hq.at_]; simp
  ·rw [hk]; simp
theorem FH.rowApp (h : FH w lab b m A c ws qs ops dn am fl) (x : WrF) (hl : ws.length ≤ 1000000000) :
  ∃ A' c' w4 lab', (Builtin.append_ #[86, 86] 86 #[.slice A ws.length c, .slice (some ⟨w.heap.size, 0, none⟩) 1 1]).run Tryz.prog (w.drew.alloc (.cells (wrC x).toArray 109)) = .ok (.slice A' (ws.length + 1) c') w4 ∧
   w4.cell? ⟨b, 1, none⟩ = some (.slice A ws.length c) ∧ w4.frozen? ⟨b, 1, none⟩ = false ∧ (∀ q ∈ qs, w4.cell? ⟨q.g, 0, none⟩ = some q.v) ∧ w4.cell? ⟨b, 0, none⟩ = some (.map (some m)) ∧
   FH (w4.setCell ⟨b, 1, none⟩ (.slice A' (ws.length + 1) c')) lab' b m A' c' (ws ++ [x]) qs ops dn am fl ∧ LabTo w lab (w4.setCell ⟨b, 1, none⟩ (.slice A' (ws.length + 1) c')) lab' := by
 have hb0 : Below w.heap.size w (w.drew.alloc (.cells (wrC x).toArray 109)) := (Below.refl _ w).drew.alloc (Nat.le_refl _) _
 have h0 := h.below hb0
 obtain ⟨A', c', w4, hrun, hown, hg, hb⟩ := run_append_w10 _ _ ws.length ws rfl h0.fm.row w.heap.size x (BxA.new w.drew _ _) hl
 have ho1 : Only (fun k => lab k = some 2) (w.drew.alloc (.cells (wrC x).toArray 109)) w4 := Only.of_grown hg fun k e => h0.fm.rblk k e
 have hbx := h0.box.keep ho1 (fun e => by rw [h.lb] at e; cases e)
 have hext := labW_ext (v' := .slice A' (ws.length + 1) c') h0.fm.lt h0.fm.rblk hb
 have hnew := labW_new (v' := .slice A' (ws.length + 1) c') h0.fm.rblk hb
 have hlt := labW_lt (r := 2) h0.fm.lt ho1.size hown
 have hwl : (ws ++ [x]).length = ws.length + 1 := by simp
 have hfm : FM w4 (labW lab (.slice A' (ws.length + 1) c') 2) m A' c' (ws ++ [x]) qs := h0.fm.rowTo ho1 (fun k e => .inl e) hext hlt (by rw [hwl]; exact hown) (fun k hk => by rw [hwl] at hk; unfold labW; rw [if_pos hk])
 have ho2 := only_set w4 ⟨b, 1, none⟩ (.slice A' (ws.length + 1) c')
 have hlb' := hext _ _ h.lb
 have hsz : (w.drew.alloc (.cells (wrC x).toArray 109)).heap.size = w.heap.size + 1 := World.size_alloc w.drew _
 have hall : Only (fun k => k = b ∨ lab k = some 2) w (w4.setCell ⟨b, 1, none⟩ (.slice A' (ws.length + 1) c')) :=
  ((Only.of_below (R := fun k => k = b ∨ lab k = some 2) hb0).trans ho1 fun k e => .inl (.inr e)).trans ho2 fun k e => .inl (.inl e)
 refine ⟨A', c', w4, _, hrun, hbx.c 1 rfl, hbx.free 1, fun q hq => ((h0.fm.bod q hq).box.keep ho1 (fun e => by rw [(h0.fm.bod q hq).at_] at e; injection e with e; omega)).c 0 rfl, hbx.c 0 rfl,
  ⟨by have := hbx.set 1 (.slice A' (ws.length + 1) c'); unfold fbx at *; rw [hwl]; exact this, hlb', hfm.keep ho2 fun k r (e : k = b) hk => by rw [e, hlb'] at hk; injection hk with hk; exact hk.symm⟩,
  ⟨hall.mono fun k hk => .inl (by rcases hk with rfl | hk; (rw [h.lb]; simp); (rw [hk]; simp)), hext, fun k r hk => (hnew k r hk).imp id fun e => by omega⟩⟩
theorem FH.fresh (h : FH w lab b m A c ws qs ops dn am fl) {n : ByteArray} (hn : ∀ q ∈ qs, q.n ≠ n) :
  ∃ w3, (Instr.mapUpdate 85 (.map (some m)) (.string n) (.pointer (some ⟨w.heap.size, 0, none⟩))).run Tryz.prog (w.alloc (.cells #[.slice none 0 0, .int .i64 0] 111)) = .ok () w3 ∧
   FH w3 (fun k => if k = w.heap.size then some 3 else lab k) b m A c ws (⟨n, [], 0, w.heap.size, none, 0⟩ :: qs) ops dn am fl ∧ LabTo w lab w3 (fun k => if k = w.heap.size then some 3 else lab k) ∧ Only (fun k => k = m) w w3 := by
 have hb0 : Below w.heap.size w (w.alloc (.cells #[.slice none 0 0, .int .i64 0] 111)) := (Below.refl _ w).alloc (Nat.le_refl _) _
 have h0 := h.below hb0
 have hsz : (w.alloc (.cells #[.slice none 0 0, .int .i64 0] 111)).heap.size = w.heap.size + 1 := World.size_alloc w _
 have hext : ∀ k r, lab k = some r → (if k = w.heap.size then some 3 else lab k) = some r := fun k r hk => by
  rw [if_neg (fun e => by have := h.fm.lt k r hk; omega)]
  exact hk
 have hlt : ∀ k r, (if k = w.heap.size then some 3 else lab k) = some r → k < (w.alloc (.cells #[.slice none 0 0, .int .i64 0] 111)).heap.size := fun k r hk => by
  rw [hsz]
  split at hk
  ·omega
  ·have := h.fm.lt k r hk; omega
 have h1 := h0.fm.relab hext hlt
 obtain ⟨ps, hm, hp⟩ := h0.fm.map
 obtain ⟨w3, hr, hm3, ho⟩ := run_putS (P := Tryz.prog) Tryz.underlying85 Tryz.underlying9 hm n w.heap.size
 rw [putP_no (fun p hp' => by
  obtain ⟨q, hq, rfl⟩ := List.mem_map.1 (hp.mem_iff.1 hp')
  exact hn q hq)] at hm3
 have hbm : b ≠ m := fun e => by have := h.lb; rw [e, h.fm.lm] at this; cases this
 have hnew : BodAt (w.alloc (.cells #[.slice none 0 0, .int .i64 0] 111)) (fun k => if k = w.heap.size then some 3 else lab k) ⟨n, [], 0, w.heap.size, none, 0⟩ :=
  ⟨BxA.new w _ [.slice none 0 0, .int .i64 0], World.ownsRow_nil _ _ _ _, by simp, fun k hk => by cases hk⟩
 have hol : Only (fun k => k = m) w w3 := (Only.of_below hb0).trans ho fun _ e => .inl e
 refine ⟨w3, hr, ⟨h0.box.keep ho hbm, hext _ _ h.lb, h1.mapTo ho hm3 ?_ (fun p hp' => ?_) ?_ ?_⟩, ⟨hol.mono fun k (e : k = m) => .inl (by rw [e, h.fm.lm]; simp), hext, fun k r hk => ?_⟩, hol⟩
 ·rw [List.map_cons]
  exact (List.perm_append_singleton _ _).trans (hp.cons _)
 ·rcases List.mem_cons.1 hp' with rfl | hp'
  ·exact hnew
  ·exact h1.bod p hp'
 ·rw [List.map_cons]
  refine List.nodup_cons.2 ⟨fun hm => ?_, h.fm.dif⟩
  obtain ⟨p, hp', e⟩ := List.mem_map.1 hm
  have := h.fm.lt p.g 3 (h.fm.bod p hp').at_
  have e' : p.g = w.heap.size := e
  omega
 ·rw [List.map_cons]
  refine List.nodup_cons.2 ⟨fun hm => ?_, h.fm.nms⟩
  obtain ⟨p, hp', e⟩ := List.mem_map.1 hm
  exact hn p hp' e
 ·by_cases e : k = w.heap.size
  ·exact .inr (by omega)
  ·rw [if_neg e] at hk
   exact .inl hk
end
theorem byt_only {w w' : World} {A : Option Addr} {l : List UInt8} {R : Nat → Prop} (h : Byt w A l) (ho : Only R w w') (hA : 0 < l.length → ∀ a, A = some a → ¬ R a.block) : Byt w' A l := by
 by_cases hn : 0 < l.length
 ·obtain ⟨g, o, e, hc⟩ := h.at_ hn
  subst e
  refine Byt.mk_ fun i hi => ho.cell ?_ (show ¬ R g from hA hn ⟨g, o, none⟩ rfl)
  have := byt_cells h i (bV l[i]) (by rw [byteCells_map, List.getElem?_map, List.getElem?_eq_getElem hi]; rfl)
  rw [this]
  simp [bV, List.getD, hi]
 ·have : l = [] := List.eq_nil_of_length_eq_zero (by omega)
  subst this
  exact Byt.nil_ _ _
end
section
open Go Go.RowKit
set_option maxRecDepth 100000
theorem clone_b10 (w : World) (A : Option Addr) (c : Nat) (l : List UInt8) (hl : Byt w A l) (hA : A = none → c = 0) (hb : l.length ≤ 1000000000) :
  Calls Tryz.prog 81 #[.slice A l.length c] w fun e w' => ∃ A' c', e = .returned (.slice A' l.length c') ∧ w'.ownsRow w.heap.size 5 1 (.slice A' l.length c') l.length (Lib.byteCells l) ∧ Below w.heap.size w w' := by
 cases A with
 | none =>
  have hc := hA rfl
  subst hc
  have h0 : l = [] := by
   by_cases hn : 0 < l.length
   ·obtain ⟨_, _, e, _⟩ := hl.at_ hn; cases e
   ·exact List.eq_nil_of_length_eq_zero (by omega)
  subst h0
  have hq := Lib.run_eql_slice_nil (P := Tryz.prog) w 30 5 none 0 0 0 0 Tryz.underlying30
  clear hl hA hb
  show Calls _ _ #[.slice none 0 0] _ _
  go_enter Tryz.func81, Tryz.ntmps81
  go_wp2_with fail
  go_ret
  exact ⟨none, 0, rfl, World.ownsRow_nil _ _ _ _, Below.refl _ _⟩
 | some a =>
  have hq := Lib.run_eql_slice_nil (P := Tryz.prog) w 30 5 (some a) l.length c 0 0 Tryz.underlying30
  have hb0 : Below w.heap.size w (w.alloc (.cells #[] 5)) := (Below.refl _ w).alloc (Nat.le_refl _) _
  obtain ⟨i, hi, hz, hs, hy⟩ := info8_10
  obtain ⟨v', w', h1, h2, h3, h4⟩ := run_append_V (P := Tryz.prog) (V := bV) (fun _ => rfl) (w.alloc (.cells #[] 5)) w.heap.size 30 30 5 i _ 1 Tryz.underlying30 hi hz hs hy rfl (by decide) _ 0 [] rfl (own_empty w w.heap.size (Nat.le_refl _)) (some a) l.length c l rfl hA (rdV_byt (hl.below hb0)) (by simpa using Nat.le_trans hb (by decide)) (by rw [World.size_alloc]; omega)
  rw [List.nil_append, Nat.zero_add] at h2
  obtain ⟨A', c', rfl⟩ := own_form h2
  have HR : Hid (w'.ownsRow w.heap.size 5 1 (.slice A' l.length c') l.length (Lib.byteCells l) ∧ Below w.heap.size w w') := Lib.hid ⟨h2, by
   have hsz : (w.alloc (.cells #[] 5)).heap.size = w.heap.size + 1 := World.size_alloc w _
   refine ⟨h3.os.trans hb0.os, h3.tape.trans hb0.tape, h3.output.trans hb0.output, Nat.le_trans hb0.size h3.size, fun k hk => (h3.block k (by omega) (fun e => ?_)).trans (hb0.block k hk)⟩
   have e2 : k = w.heap.size := by
    have : (Value.slice (some ⟨w.heap.size, 0, none⟩) 0 0).ownBlock = some w.heap.size := rfl
    rw [this] at e
    injection e
   omega⟩
  have Hrun := Lib.hid h1
  clear hl hA hb hb0 hi hz hs hy h1 h2 h3 h4
  generalize l.length = n at *
  go_enter Tryz.func81, Tryz.ntmps81
  go_wp2_with (at_builtin; refine wpList_append_g (by rfl) (.tmp 5) (.tmp 6) 30 rfl _ _ rfl rfl Hrun.out ?_)
  go_wp2_with fail
  go_ret
  exact ⟨A', c', rfl, HR.out⟩
theorem fnew_at (w : World) : Calls Tryz.prog 13 #[] w fun e w' => ∃ b, e = .returned (.pointer (some ⟨b, 0, none⟩)) ∧ (∃ lab, FAt w' lab b FS.new ∧ ∀ k r, lab k = some r → w.heap.size ≤ k) ∧ Below w.heap.size w w' := by
 have hmm := @run_makeMap Tryz.prog
 go_enter Tryz.func13, Tryz.ntmps13
 go_wp2_with fail
 go_ret
 have hsz : (w.alloc (.map #[] 0)).heap.size = w.heap.size + 1 := World.size_alloc w _
 have hx := BxA.new (w.alloc (.map #[] 0)) 88 (fbx w.heap.size none 0 0 0 false (-1) (-1))
 have hb : Below w.heap.size w ((w.alloc (.map #[] 0)).alloc (.cells (fbx w.heap.size none 0 0 0 false (-1) (-1)).toArray 88)) := ((Below.refl _ w).alloc (Nat.le_refl _) _).alloc (by rw [hsz]; omega) _
 have hm := (MapAt.new (V := bodV) w).below ((Below.refl _ (w.alloc (.map #[] 0))).alloc (Nat.le_refl _) (.cells (fbx w.heap.size none 0 0 0 false (-1) (-1)).toArray 88))
 rw [hsz] at hx
 refine ⟨w.heap.size + 1, rfl, ⟨fun k => if k = w.heap.size then some 1 else if k = w.heap.size + 1 then some 0 else none, ?_, fun k r hk => ?_⟩, hb⟩
 ·refine FAt.of (S := FS.new) (m := w.heap.size) (A := none) (c := 0) (ws := []) (qs := []) (am := -1) (fl := -1) (ops := 0) (dn := false) ⟨hx, by simp, ⟨fun k r hk => ?_, by simp, ⟨[], hm, .refl _⟩, World.ownsRow_nil _ _ _ _, fun k hk => (by cases hk), fun q hq => (by cases hq), List.nodup_nil, List.nodup_nil⟩⟩ Cs.new ⟨by decide, by decide, by decide⟩ ⟨by decide, by decide, by decide⟩ rfl rfl
  have : ((w.alloc (.map #[] 0)).alloc (.cells (fbx w.heap.size none 0 0 0 false (-1) (-1)).toArray 88)).heap.size = w.heap.size + 2 := by rw [World.size_alloc, hsz]
  show k < ((w.alloc (.map #[] 0)).alloc _).heap.size
  rw [World.size_alloc, hsz]
  split at hk
  ·omega
  ·split at hk
   ·omega
   ·cases hk
 ·dsimp only at hk
  split at hk
  ·omega
  ·split at hk
   ·omega
   ·cases hk
section
variable (w : World) (lab : Lab) (b : Nat) (S : FS) (h : FAt w lab b S) (hS : S.Fit)
include h
theorem FAt.down_cell : w.cell? ⟨b, 3, none⟩ = some (.bool S.down) ∧ w.cell? ⟨b, 2, none⟩ = some (.int .i64 (S.ops : Int)) := by
 obtain ⟨m, A, c, ws, qs, am, fl, h1, _⟩ := h
 exact ⟨h1.box.c 3 rfl, h1.box.c 2 rfl⟩
theorem fdown_at : Calls Tryz.prog 21 #[fp b] w fun e w' => e = .returned (.bool S.down) ∧ Below w.heap.size w w' := by
 obtain ⟨c0, _⟩ := FAt.down_cell w lab b S h
 clear h
 go_enter Tryz.func21, Tryz.ntmps21
 go_wp2_with fail
 go_ret
 exact ⟨rfl, Below.refl _ _⟩
include hS
theorem fread_at (n : ByteArray) : Calls Tryz.prog 38 #[fp b, .string n] w fun e w' => ∃ u, e = .returned (.tuple #[u, .int .i64 (S.read n).2]) ∧ w'.ownsRow w.heap.size 5 1 u (S.read n).1.length (Lib.byteCells (S.read n).1) ∧ Below w.heap.size w w' := by
 obtain ⟨c0, _⟩ := FAt.down_cell w lab b S h
 have HL := Lib.hid (h.lack hS.ok.ris n)
 by_cases hd : S.down = true
 ·have hres : S.read n = ([], 100) := by unfold FS.read; rw [if_pos hd]
  rw [hres]
  rw [hd] at c0
  clear h hS hres hd HL
  go_enter Tryz.func38, Tryz.ntmps38
  go_wp2_with fail
  go_ret2
  exact ⟨_, rfl, World.ownsRow_nil _ _ _ _, Below.refl _ _⟩
 ·have hd0 : S.down = false := by simpa using hd
  rw [hd0] at c0
  cases hf : findF S.l n with
  | none =>
   have hres : S.read n = ([], 101) := by unfold FS.read; rw [if_neg hd, hf]
   rw [hf] at HL
   rw [hres]
   clear h hS hres hd hd0 hf
   go_enter Tryz.func38, Tryz.ntmps38
   go_wp2_with fail
   refine HL.out.mono ?_
   rintro e w1 ⟨rfl, rfl⟩
   go_wp2_with fail
   go_ret2
   exact ⟨_, rfl, World.ownsRow_nil _ _ _ _, Below.refl _ _⟩
  | some f =>
   have hres : S.read n = (f.all, 0) := by unfold FS.read; rw [if_neg hd, hf]
   rw [hf] at HL
   rw [hres]
   obtain ⟨m, A, c, ws, q, qs, am, fl, h1, _, rfl, hx, _⟩ := h.some_ hS.ok.ris hf
   have hsz := hS.ok.siz f ((findF_some hS.ok.ris).1 hf).1
   obtain ⟨ps, hm, hg⟩ := h1.fm.get List.mem_cons_self
   have hlk := look_has hm hg
   have c1 := h1.box.c 0 rfl
   have hq := h1.fm.bod q List.mem_cons_self
   have y0 := hq.box.c 0 rfl
   have ho := hq.own
   unfold QF.v at y0 ho
   obtain ⟨hby, _, _, _⟩ := byt_of_own ho
   have hnone : q.A = none → q.c = 0 := fun e => by
    rcases ho.2 with ⟨hv, _⟩ | ⟨g, cap, cur, hv, _⟩
    ·injection hv
    ·rw [e] at hv; cases hv
   have HC := Lib.hid (clone_b10 w q.A q.c q.x hby hnone (by rw [hx]; omega))
   rw [hx] at HC y0
   clear h hS hres hd hd0 hf h1 hx hm hg hq ho hby hnone hsz
   generalize hfl : f.all.length = n at *
   go_enter Tryz.func38, Tryz.ntmps38
   go_wp2_with fail
   refine HL.out.mono ?_
   rintro e w1 ⟨rfl, rfl⟩
   go_wp2_with fail
   refine HC.out.mono ?_
   rintro e w1 ⟨A', c', rfl, hown, hb⟩
   have HR := Lib.hid (And.intro hown hb)
   clear hown hb HC
   go_wp2_with fail
   go_ret2
   exact ⟨_, rfl, HR.out⟩
end
end
section
open Go Go.RowKit
set_option maxRecDepth 100000
def stQ (ks : List Bool) (ws : List WrF) (k : Nat) (q : QF) : QF := { q with x := (stepsC ks 0 (ws.take k) q.cf).x, s := (stepsC ks 0 (ws.take k) q.cf).s }
theorem stQ_zero (ks : List Bool) (ws : List WrF) (q : QF) : stQ ks ws 0 q = q := rfl
theorem stepC_take {ks : List Bool} {ws : List WrF} {k : Nat} {v : WrF} (h : ws[k]? = some v) (c : CF) : stepsC ks 0 (ws.take (k + 1)) c = stepC ks k v (stepsC ks 0 (ws.take k) c) := by
 have hk := (List.getElem?_eq_some_iff.1 h).1
 rw [List.take_add_one, h]
 show stepsC ks 0 (ws.take k ++ [v]) c = _
 rw [steps_snoc, List.length_take, Nat.min_eq_left (by omega), Nat.zero_add]
theorem stQ_cf (ks : List Bool) (ws : List WrF) (k : Nat) (q : QF) : (stQ ks ws k q).cf = stepsC ks 0 (ws.take k) q.cf := by
 have h := stepsC_n ks (ws.take k) 0 q.cf
 unfold stQ
 show (⟨q.n, _, _⟩ : CF) = _
 generalize stepsC ks 0 (ws.take k) q.cf = c at *
 cases c
 simp only at h
 subst h
 rfl
section
variable {ks : List Bool} {ws : List WrF} {k : Nat} {v : WrF} {q : QF} (h : ws[k]? = some v)
include h
theorem stQ_other (hn : q.n ≠ v.n) : stQ ks ws (k + 1) q = stQ ks ws k q := by
 unfold stQ
 rw [stepC_take h]
 unfold stepC
 rw [if_neg (by rw [stepsC_n]; exact hn)]
theorem stQ_kept (hn : q.n = v.n) (hk : FS.kept ks k = true) : stQ ks ws (k + 1) q = if v.i < v.j then { stQ ks ws k q with s := v.j } else stQ ks ws k q := by
 unfold stQ
 rw [stepC_take h]
 unfold stepC
 rw [if_pos (by rw [stepsC_n]; exact hn), if_pos hk]
 split <;> rfl
theorem stQ_lost (hn : q.n = v.n) (hk : FS.kept ks k = false) : stQ ks ws (k + 1) q = { stQ ks ws k q with x := zeroL (stQ ks ws k q).x v.i v.j } := by
 unfold stQ
 rw [stepC_take h]
 unfold stepC
 rw [if_pos (by rw [stepsC_n]; exact hn), if_neg (by rw [hk]; simp)]
end
theorem stQ_len {ks : List Bool} {ws : List WrF} {q : QF} (hs : q.s ≤ q.x.length) (hw : ∀ v ∈ ws, q.n = v.n → v.i ≤ v.j ∧ v.j ≤ q.x.length) : ∀ k, (stQ ks ws k q).x.length = q.x.length ∧ (stQ ks ws k q).s ≤ q.x.length := by
 intro k
 induction k with
 | zero => exact ⟨rfl, hs⟩
 | succ k ih =>
  cases hv : ws[k]? with
  | none =>
   have e : ws.take (k + 1) = ws.take k := by rw [List.take_add_one, hv]; simp
   have e2 : stQ ks ws (k + 1) q = stQ ks ws k q := by unfold stQ; rw [e]
   rw [e2]
   exact ih
  | some v =>
   by_cases hn : q.n = v.n
   ·obtain ⟨h1, h2⟩ := hw v (List.mem_of_getElem? hv) hn
    cases hk : FS.kept ks k with
    | true =>
     rw [stQ_kept hv hn hk]
     split
     ·exact ⟨ih.1, h2⟩
     ·exact ih
    | false =>
     rw [stQ_lost hv hn hk]
     refine ⟨?_, ih.2⟩
     show (zeroL (stQ ks ws k q).x v.i v.j).length = _
     unfold zeroL
     have := ih.1
     simp
     omega
   ·rw [stQ_other hv hn]
    exact ih
theorem run_sub10 (A : Option Addr) (c n i j : Nat) (hij : i ≤ j) (hjc : j ≤ c) :
  ∃ A', (∀ W : World, (Instr.slice 30 (.slice A n c) (some (.int .i64 (i : Int))) (some (.int .i64 (j : Int))) none).run Tryz.prog W = .ok (.slice A' (j - i) (c - i)) W) ∧ ∀ g, A = some ⟨g, 0, none⟩ → i < j → A' = some ⟨g, i, none⟩ := by
 have he : Tryz.prog.elem 30 = 5 := by kernel_rfl
 have hu : Tryz.prog.underlying 30 = some (.slice (Tryz.prog.elem 30)) := by rw [he]; exact Tryz.underlying30
 refine ⟨dropA A c i, fun W => ?_, fun g hA hlt => ?_⟩
 ·rw [run_slice_lh W 30 A n c hu .i64 .i64 (i : Int) (j : Int) (by omega) (by omega) (by omega), he, Tryz.sizeOf5]
  simp [sliced, dropA, Result.andThen]
 ·unfold dropA
  rw [if_neg (by omega), hA]
  show some ((⟨g, 0, none⟩ : Addr).add i) = _
  rw [Addr.add_lit, Nat.zero_add]
theorem run_clear_no (A : Option Addr) (c : Nat) (ty : TypeId) (W : World) : (Builtin.clear_ #[30] ty #[.slice A 0 c]).run Tryz.prog W = .ok (.tuple #[]) W := by
 cases A <;> simp [Builtin.clear_, run_underlying Tryz.underlying30]
section
variable {w w2 : World} {lab : Lab} {b m : Nat} {A : Option Addr} {c : Nat} {ws : List WrF} {qs : List QF} {ops : Int} {dn : Bool} {am fl : Int}
theorem FH.one {q : QF} {l1 l2 : List QF} {f : QF → QF} (h : FH w lab b m A c ws ((l1 ++ q :: l2).map f) ops dn am fl) : FH w lab b m A c ws (f q :: (l1 ++ l2).map f) ops dn am fl := by
 refine h.perm ?_
 have := (List.perm_middle (a := q) (l₁ := l1) (l₂ := l2)).map f
 exact this
theorem FH.many {q q' : QF} {l1 l2 : List QF} {f f' : QF → QF} (h : FH w lab b m A c ws (q' :: (l1 ++ l2).map f) ops dn am fl) (hq : f' q = q') (ho : ∀ p ∈ l1 ++ l2, f' p = f p) : FH w lab b m A c ws ((l1 ++ q :: l2).map f') ops dn am fl := by
 refine h.perm ?_
 have := ((List.perm_middle (a := q) (l₁ := l1) (l₂ := l2)).map f').symm
 rw [List.map_cons, hq, List.map_congr_left ho] at this
 exact this
theorem byteCells_app (a b : List UInt8) : Lib.byteCells (a ++ b) = Lib.byteCells a ++ Lib.byteCells b := by simp [Lib.byteCells]
theorem FH.zero {q : QF} (h : FH w lab b m A c ws (q :: qs) ops dn am fl) {i j : Nat} (hij : i < j) (hj : j ≤ q.x.length) :
  ∃ g, q.A = some ⟨g, 0, none⟩ ∧ j ≤ q.c ∧ (∀ ty, (Builtin.clear_ #[30] ty #[.slice (some ⟨g, i, none⟩) (j - i) (q.c - i)]).run Tryz.prog w = .ok (.tuple #[]) (w.setCells g i (List.replicate (j - i) (.int .u8 0)))) ∧
   FH (w.setCells g i (List.replicate (j - i) (.int .u8 0))) lab b m A c ws ({ q with x := zeroL q.x i j } :: qs) ops dn am fl ∧ LabTo w lab (w.setCells g i (List.replicate (j - i) (.int .u8 0))) lab := by
 have hq := h.fm.bod q List.mem_cons_self
 have hown := hq.own
 have hzl : (zeroL q.x i j).length = q.x.length := by unfold zeroL; simp; omega
 rcases hown.2 with ⟨_, h0⟩ | ⟨g, cap, cur, hv, hb, hh, hnc, hcm, hcs, htk⟩
 ·omega
 ·unfold QF.v at hv
  injection hv with e1 e2 e3
  have hblk : lab g = some (4 + q.g) := hq.blk g (by unfold QF.v; rw [e1]; rfl)
  have hbx : BxA w g 5 cur.toList := by unfold BxA; simpa using hh
  have hcl : cur.toList.length = cap := by simpa using hcs
  obtain ⟨hb5, ho5⟩ := BxA.setCells (List.replicate (j - i) (.int .u8 0)) i hbx (by rw [List.length_replicate, hcl]; omega)
  rw [List.length_replicate] at hb5
  refine ⟨g, e1, by omega, fun ty => ?_, ?_, LabTo.of_only ho5 fun k (e : k = g) => .inl ⟨4 + q.g, by rw [e]; exact hblk⟩⟩
  ·exact Lib.run_clear_slice w 30 5 ty (.int .u8 0) Tryz.underlying30 (fun w => Tryz.zeroValue5 w) rfl rfl g i (j - i) _ (by omega) (fun t ht => by
    rw [hbx.c (i + t) (List.getElem?_eq_getElem (by rw [hcl]; omega))]; rfl) (fun t _ => hbx.free _)
  ·have hgb : b ≠ g := fun e => by rw [← e, h.lb] at hblk; injection hblk with hblk; omega
   have hgq : q.g ≠ g := fun e => by rw [← e, hq.at_] at hblk; injection hblk with hblk; omega
   refine ⟨h.box.keep ho5 hgb, h.lb, h.fm.body ho5 (fun k (e : k = g) => .inr (.inl (by rw [e]; exact hblk))) (fun _ _ h => h) (fun k r hk => Nat.lt_of_lt_of_le (h.fm.lt k r hk) ho5.size) (q' := { q with x := zeroL q.x i j }) ⟨?_, ?_, hq.at_, fun k hk => hq.blk k ?_⟩ rfl rfl⟩
   ·have := hq.box.keep ho5 hgq
    unfold QF.v at this ⊢
    simp only [hzl]
    exact this
   ·unfold QF.v
    simp only [hzl, e1, e3]
    refine ⟨by rw [Nat.mul_one]; simp [Lib.byteCells, hzl], .inr ⟨g, cap, _, rfl, Nat.zero_le _, hb5, hnc, hcm, ?_, ?_⟩⟩
    ·simp only [List.size_toArray, List.length_append, List.length_take, List.length_replicate, List.length_drop, hcl]
     omega
    ·have e5 : i + (j - i) = j := by omega
     rw [Nat.mul_one] at htk ⊢
     unfold zeroL
     rw [byteCells_app, byteCells_app]
     have hx : Lib.byteCells q.x = cur.toList.take q.x.length := htk.symm
     have ht : Lib.byteCells (q.x.take i) = cur.toList.take i := by rw [byteCells_take, hx, List.take_take, Nat.min_eq_left (by omega)]
     have hd : Lib.byteCells (q.x.drop j) = (cur.toList.drop j).take (q.x.length - j) := by
      have : Lib.byteCells (q.x.drop j) = (Lib.byteCells q.x).drop j := by unfold Lib.byteCells; rw [List.map_drop]
      rw [this, hx, List.drop_take]
     have hz : Lib.byteCells (List.replicate (j - i) (0 : UInt8)) = List.replicate (j - i) (.int .u8 0) := by unfold Lib.byteCells; rw [List.map_replicate]; rfl
     rw [ht, hd, hz, e5]
     show (cur.toList.take i ++ List.replicate (j - i) (Value.int .u8 0) ++ cur.toList.drop j).take q.x.length = _
     have hl1 : (cur.toList.take i ++ List.replicate (j - i) (Value.int .u8 0)).length = j := by simp [hcs]; omega
     rw [List.take_append, List.take_of_length_le (by omega), hl1]
   ·unfold QF.v at hk ⊢
    simp only [hzl] at hk
    exact hk
theorem FH.anew (h : FH w lab b m A c ws qs ops dn am fl) :
  FH ((((w.setCell ⟨b, 1, none⟩ (.slice none 0 0)).setCell ⟨b, 3, none⟩ (.bool false)).setCell ⟨b, 4, none⟩ (.int .i64 (-1))).setCell ⟨b, 5, none⟩ (.int .i64 (-1))) lab b m none 0 [] qs ops false (-1) (-1) ∧
   LabTo w lab ((((w.setCell ⟨b, 1, none⟩ (.slice none 0 0)).setCell ⟨b, 3, none⟩ (.bool false)).setCell ⟨b, 4, none⟩ (.int .i64 (-1))).setCell ⟨b, 5, none⟩ (.int .i64 (-1))) lab := by
 have ho : Only (fun k => k = b) w ((((w.setCell ⟨b, 1, none⟩ (.slice none 0 0)).setCell ⟨b, 3, none⟩ (.bool false)).setCell ⟨b, 4, none⟩ (.int .i64 (-1))).setCell ⟨b, 5, none⟩ (.int .i64 (-1))) :=
  ((((Only.refl (fun k => k = b) w).set (p := ⟨b, 1, none⟩) (.inl rfl) _).set (p := ⟨b, 3, none⟩) (.inl rfl) _).set (p := ⟨b, 4, none⟩) (.inl rfl) _).set (p := ⟨b, 5, none⟩) (.inl rfl) _
 have h1 : FM w lab m none 0 [] qs := h.fm.rowTo (R := fun _ => False) (Only.refl _ w) (fun _ h => h.elim) (fun _ _ h => h) h.fm.lt (World.ownsRow_nil _ _ _ _) (fun k hk => by cases hk)
 exact ⟨⟨(((h.box.set 1 (.slice none 0 0)).set 3 (.bool false)).set 4 (.int .i64 (-1))).set 5 (.int .i64 (-1)), h.lb, h1.keep ho fun k r (e : k = b) hk => by rw [e, h.lb] at hk; injection hk with hk; exact hk.symm⟩, h.to_ ho⟩
end
def endQ (q : QF) : QF := { q with x := q.x.take q.s }
def fT (todo : List (ByteArray × Nat)) (q : QF) : QF := if q.g ∈ todo.map Prod.snd then q else endQ q
theorem fT_in {todo : List (ByteArray × Nat)} {q : QF} (h : q.g ∈ todo.map Prod.snd) : fT todo q = q := if_pos h
theorem fT_out {todo : List (ByteArray × Nat)} {q : QF} (h : q.g ∉ todo.map Prod.snd) : fT todo q = endQ q := if_neg h
theorem fT_nil (q : QF) : fT [] q = endQ q := fT_out (by simp)
theorem fT_g (todo : List (ByteArray × Nat)) (q : QF) : (fT todo q).g = q.g := by
 unfold fT
 split <;> rfl
end
section
open Go Go.RowKit
set_option maxRecDepth 100000
section
variable (w : World) (lab : Lab) (b : Nat) (S : FS) (h : FAt w lab b S) (hS : S.Fit)
include h
include hS
theorem fpending_at : Calls Tryz.prog 20 #[fp b] w fun e w' => e = .returned (.int .i64 (S.pend : Int)) ∧ Below w.heap.size w w' := by
 obtain ⟨m, A, c, ws, qs, am, fl, h1, h2, _⟩ := h
 have c0 := h1.box.c 1 rfl
 have hp := h2.pend hS.ok.ris
 rw [hp] at c0
 clear h1 h2 hp hS
 go_enter Tryz.func20, Tryz.ntmps20
 go_wp2_with fail
 go_ret
 exact ⟨rfl, Below.refl _ _⟩
omit hS in
theorem farm_at (k : Int) (h1 : -9223372036854775808 ≤ k) (h2 : k ≤ 9223372036854775807) : Calls Tryz.prog 18 #[fp b, .int .i64 k] w fun e w' => e = .returned (.tuple #[]) ∧ ∃ lab', FAt w' lab' b (S.arm k) ∧ LabTo w lab w' lab' := by
 obtain ⟨m, A, c, ws, qs, am, fl, k1, k2, k3, k4, k5, k6, k7, k8⟩ := h
 have c0 := k1.box.c 4 rfl
 have f0 := k1.box.free 4
 have ho := only_set w ⟨b, 4, none⟩ (.int .i64 k)
 have HR : Hid (FAt (w.setCell ⟨b, 4, none⟩ (.int .i64 k)) lab b (S.arm k) ∧ LabTo w lab (w.setCell ⟨b, 4, none⟩ (.int .i64 k)) lab) := Lib.hid ⟨FAt.of (S := S.arm k) (k1.boxTo ho (k1.box.set 4 _)) k2 ⟨rfl, h1, h2⟩ ⟨k4, k7, k8⟩ rfl rfl, k1.to_ ho⟩
 clear k1 k2 k3 k4 k5 k6 k7 k8 ho h1 h2
 go_enter Tryz.func18, Tryz.ntmps18
 go_wp2_with fail
 go_end0
 exact ⟨rfl, lab, HR.out⟩
omit hS in
end
end
end Go.Proofs.YteafcaambnfdoaaGreatDoor
