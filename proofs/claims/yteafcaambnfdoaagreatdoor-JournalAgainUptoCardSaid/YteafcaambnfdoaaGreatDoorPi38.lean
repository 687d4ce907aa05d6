/-
  Layer 7 and what it stands on, part 38 (JnPack JnEnts).
-/
import Derived.Test.YteafcaambnfdoaaGreatDoorPi36
import Derived.Test.YteafcaambnfdoaaGreatDoorPi37
namespace Go.Proofs.YteafcaambnfdoaaGreatDoor
section
open Go Go.RowKit
open Go.Lib (hid)
set_option maxRecDepth 100000
theorem wpList_append_g2 {P : Program} {w : World} {ops : Array Oper} {rest : List Oper} {o : Oper} {a : Act} {Q : Exit → Act → World → Prop} (hw : Region.wanted o (yielded ops a.tmps) = true) (s x : Operand) (t tn : TypeId)
  (ho : o.op = .call { callee := .builtin .append, args := #[s, x], argTypes := #[t, tn] }) (v v2 : Value) (hs : a.eval s = v) (hx : a.eval x = v2) {v' : Value} {w' : World}
  (hr : (Builtin.append_ #[t, tn] o.type #[v, v2]).run P w = .ok v' w') (h : wpList P ops Q rest (a.put o.dst v') w') : wpList P ops Q (o :: rest) a w := by
 refine wpList_step fun K hK => ?_
 rw [if_pos hw]
 unfold Oper.wp execOp
 simp only [ho, resolve, invoke, builtin, Sem.run_bind, Sem.run_pure, Result.andThen_ok, List.map_toArray, List.map_cons, List.map_nil, hs, hx, hr]
 exact hK _ _ h
set_option maxHeartbeats 4000000 in
theorem jpack12_not (e : EnJ) (he : ¬ rightJ e) (w : World) :
  Calls Tryz.prog 93 #[.agg (enC e).toArray] w fun x w' => x = .returned (.tuple #[.slice none 0 0, .int .i64 120]) ∧ Below w.heap.size w w' := by
 have HQ : Hid (∀ W, Calls Tryz.prog 30 #[.agg (enC e).toArray] W fun x w' => x = .returned (.bool false) ∧ Below W.heap.size W w') := hid (fun W => by
  have := jright12_calls e W
  rwa [decide_eq_false he] at this)
 clear he
 obtain ⟨t, d, c⟩ := e
 have hb := (Below.refl _ w).alloc (Nat.le_refl _) (.cells (enC ⟨t, d, c⟩).toArray 56)
 have hx := BxA.new w 56 (enC ⟨t, d, c⟩)
 go_enter Tryz.func93, Tryz.ntmps93
 obtain ⟨W, hW⟩ : ∃ W, w.alloc (.cells (enC ⟨t, d, c⟩).toArray 56) = W := ⟨_, rfl⟩
 rw [hW] at hb hx
 have HB := hid hb
 have x0 := hx.c 0 rfl
 have x1 := hx.c 1 rfl
 have x2 := hx.c 2 rfl
 clear hb hx
 simp only at x0 x1 x2
 go_wp2_with fail
 refine (HQ.out _).mono ?_
 rintro x w1 ⟨rfl, hb1⟩
 have HB1 := hid (HB.out.trans (hb1.mono HB.out.size))
 clear hb1
 go_wp2_with fail
 go_ret2
 exact ⟨rfl, HB1.out⟩
set_option maxHeartbeats 8000000 in
theorem jpack12_calls (e : EnJ) (he : rightJ e) (w : World) (ht : LaysR w) :
  Calls Tryz.prog 93 #[.agg (enC e).toArray] w fun x w' => ∃ A k, x = .returned (.tuple #[.slice A (recJ e).length k, .int .i64 0]) ∧ w'.ownsRow w.heap.size 5 1 (.slice A (recJ e).length k) (recJ e).length (Lib.byteCells (recJ e)) ∧ Below w.heap.size w w' := by
 have hpl := payJ_le he
 have HQ : Hid (∀ W, Calls Tryz.prog 30 #[.agg (enC e).toArray] W fun x w' => x = .returned (.bool true) ∧ Below W.heap.size W w') := hid (fun W => by
  have := jright12_calls e W
  rwa [decide_eq_true he] at this)
 obtain ⟨i0, hi0, hz0, hz1, hz2⟩ := info8_11
 obtain ⟨t, d, c⟩ := e
 obtain ⟨r1, r2, r3, r4, r5, _, _⟩ := he
 simp only at r1 r2 r3 r4 r5
 obtain ⟨T, rfl⟩ : ∃ T : Nat, t = (T : Int) := ⟨t.toNat, by omega⟩
 have HPay : Hid (payJ ⟨(T : Int), d, c⟩ = (timeB T ++ [UInt8.ofNat (d.length % 256)]) ++ d ++ c) := hid (by
  unfold payJ
  simp only [Int.toNat_natCast]
  rw [show d.length % 256 = d.length by omega]
  simp)
 obtain ⟨rec_, hrec⟩ : ∃ r, recJ ⟨(T : Int), d, c⟩ = r := ⟨_, rfl⟩
 have HRec : Hid (rec_ = packF (payJ ⟨(T : Int), d, c⟩)) := hid hrec.symm
 rw [hrec]
 clear hrec
 have hpl2 : (payJ ⟨(T : Int), d, c⟩).length = 6 + d.length + c.length := payJ_length _
 have hs1 := bs_size d
 have hs2 := bs_size c
 have hb := (Below.refl _ w).alloc (Nat.le_refl _) (.cells (enC ⟨(T : Int), d, c⟩).toArray 56)
 have hx := BxA.new w 56 (enC ⟨(T : Int), d, c⟩)
 have hsz : (w.alloc (.cells (enC ⟨(T : Int), d, c⟩).toArray 56)).heap.size = w.heap.size + 1 := World.size_alloc _ _
 have HT := hid ht
 clear ht
 go_enter Tryz.func93, Tryz.ntmps93
 obtain ⟨W, hW⟩ : ∃ W, w.alloc (.cells (enC ⟨(T : Int), d, c⟩).toArray 56) = W := ⟨_, rfl⟩
 rw [hW] at hb hx hsz
 have HB := hid hb
 have HX := hid hx
 have HZ := hid hsz
 have x0 := hx.c 0 rfl
 have x1 := hx.c 1 rfl
 have x2 := hx.c 2 rfl
 clear hb hx hsz
 simp only at x0 x1 x2
 go_wp2_with fail
 refine (HQ.out _).mono ?_
 rintro x w1 ⟨rfl, hb1⟩
 have HB1 : Hid (Below W.heap.size W w1) := hid hb1
 have hx1 := HX.out.below hb1
 have x0 := hx1.c 0 rfl
 have x1 := hx1.c 1 rfl
 have x2 := hx1.c 2 rfl
 clear hb1 HQ hx1 hW
 simp only at x0 x1 x2
 go_wp2_with fail
 go_loopw [4, 9] (fun v4 v9 wr => ∃ k : Nat, k ≤ 5 ∧ v9 = .int .i64 (k : Int) ∧ Hid (wr.ownsRow W.heap.size 5 1 v4 ((timeB T).take k).length (Lib.byteCells ((timeB T).take k))) ∧ Hid (Below W.heap.size W wr)) (fun _ v9 _ => 5 - (intOf v9).toNat)
 case atStart => exact ⟨0, by omega, rfl, hid (World.ownsRow_nil _ _ _ _), HB1⟩
 case round =>
  obtain ⟨k, hk, rfl, HOk, HBk⟩ := hrel
  clear x0 x1 x2
  by_cases hlt : k < 5
  ·have hkl : (k : Int) < 5 := by omega
   have hqq : T / 2 ^ (8 * k) ≤ 1099511627775 := Nat.le_trans (Nat.div_le_self _ _) (by omega)
   have HTk : Hid ((timeB T).take (k + 1) = (timeB T).take k ++ [UInt8.ofNat (T / 2 ^ (8 * k) % 256)]) := hid (by
    rcases (by omega : k = 0 ∨ k = 1 ∨ k = 2 ∨ k = 3 ∨ k = 4) with rfl | rfl | rfl | rfl | rfl
    ·rw [Nat.mul_zero, Nat.pow_zero, Nat.div_one]; rfl
    all_goals rfl)
   have hsh : IntKind.i64.wrap (8 * (k : Int)) = 8 * (k : Int) := IntWalk.i64_in _ (by omega)
   have hln : ((timeB T).take k).length ≤ 5 := by rw [List.length_take]; omega
   have hxk := HX.out.below HBk.out
   have x0 := hxk.c 0 rfl
   have x1 := hxk.c 1 rfl
   have x2 := hxk.c 2 rfl
   clear hxk
   simp only at x0 x1 x2
   obtain ⟨q, hq⟩ : ∃ q : Nat, q = T / 2 ^ (8 * k) := ⟨_, rfl⟩
   have hqi : (T : Int) / 2 ^ (8 * k) = (q : Int) := by rw [hq]; simp
   rw [← hq] at hqq HTk
   clear hq
   generalize (timeB T).take k = acc at *
   have HLit := hid (byt_one wr q)
   go_wp2_with (at_builtin; refine wpList_append_byt _ rfl _ _ 30 rfl W.heap.size i0 Tryz.underlying30 hi0 hz0 hz1 hz2 u4 acc rfl (HOk.out.alloc _) (some ⟨wr.heap.size, 0, none⟩) 1 [UInt8.ofNat (q % 256)] rfl (fun h => by cases h) HLit.out (by simp only [List.length_singleton]; omega) (by have := HBk.out.size; simp; omega) ?_)
   intro v5 w5 hown5 hgr5 _
   have hb5 : Below W.heap.size W w5 := below_own (HBk.out.alloc HBk.out.size _) hgr5 (HOk.out.alloc _) (Nat.le_refl _) (by have := HBk.out.size; simp; omega)
   have HO5 : Hid (w5.ownsRow W.heap.size 5 1 v5 ((timeB T).take (k + 1)).length (Lib.byteCells ((timeB T).take (k + 1)))) := hid (by rw [HTk.out, List.length_append]; exact hown5)
   have HB5 := hid hb5
   clear hown5 hgr5 hb5 HLit hln x0 x1 x2
   go_wp2_with fail
   go_roundw
   case rel => exact ⟨k + 1, by omega, by go_num, HO5, HB5⟩
   case measure => simp [intOf]; omega
  ·obtain rfl : k = 5 := by omega
   have HOk' : Hid (wr.ownsRow W.heap.size 5 1 u4 (timeB T).length (Lib.byteCells (timeB T))) := HOk
   clear HOk
   have hxk := HX.out.below HBk.out
   have x0 := hxk.c 0 rfl
   have x1 := hxk.c 1 rfl
   have x2 := hxk.c 2 rfl
   clear hxk
   simp only at x0 x1 x2
   have hl5 : (timeB T).length = 5 := rfl
   have hdm : (d.length : Int) % 256 = (d.length : Int) := by omega
   generalize timeB T = tb at *
   have HLit := hid (byt_one wr d.length)
   rw [hdm] at HLit
   go_wp2_with (at_builtin; refine wpList_append_byt _ rfl _ _ 30 rfl W.heap.size i0 Tryz.underlying30 hi0 hz0 hz1 hz2 u4 tb rfl (HOk'.out.alloc _) (some ⟨wr.heap.size, 0, none⟩) 1 [UInt8.ofNat (d.length % 256)] rfl (fun h => by cases h) HLit.out (by simp only [List.length_singleton]; omega) (by have := HBk.out.size; simp; omega) ?_)
   intro v5 w5 hown5 hgr5 _
   have hb5 : Below W.heap.size W w5 := below_own (HBk.out.alloc HBk.out.size _) hgr5 (HOk'.out.alloc _) (Nat.le_refl _) (by have := HBk.out.size; simp; omega)
   have HO5 : Hid (w5.ownsRow W.heap.size 5 1 v5 (tb ++ [UInt8.ofNat (d.length % 256)]).length (Lib.byteCells (tb ++ [UInt8.ofNat (d.length % 256)]))) := hid (by rw [show (tb ++ [UInt8.ofNat (d.length % 256)]).length = 6 by rw [List.length_append, hl5]; rfl]; exact hown5)
   have HB5 := hid hb5
   have hl6 : (tb ++ [UInt8.ofNat (d.length % 256)]).length = 6 := by rw [List.length_append, hl5]; rfl
   generalize tb ++ [UInt8.ofNat (d.length % 256)] = hd6 at *
   clear hown5 hgr5 hb5 HLit HOk' HBk x0 x1 x2 hdm
   obtain ⟨v6, w6, hr6, hown6, hgr6⟩ := run_append_str w5 W.heap.size 30 v5 hd6 HO5.out d (by omega) HB5.out.size
   have hb6 : Below W.heap.size W w6 := below_own HB5.out hgr6 HO5.out (Nat.le_refl _) HB5.out.size
   obtain ⟨v7, w7, hr7, hown7, hgr7⟩ := run_append_str w6 W.heap.size 30 v6 (hd6 ++ d) hown6 c (by rw [List.length_append]; omega) hb6.size
   have hb7 : Below W.heap.size W w7 := below_own hb6 hgr7 hown6 (Nat.le_refl _) hb6.size
   have hx5 := HX.out.below HB5.out
   have hx6 := HX.out.below hb6
   have x0 := hx5.c 0 rfl
   have x1 := hx5.c 1 rfl
   have x2 := hx5.c 2 rfl
   have y0 := hx6.c 0 rfl
   have y1 := hx6.c 1 rfl
   have y2 := hx6.c 2 rfl
   simp only at x0 x1 x2 y0 y1 y2
   have HR5 := hid hr6
   have HR6 := hid hr7
   rw [← HPay.out] at hown7
   obtain ⟨A7, c7, rfl⟩ := own_form hown7
   have HP := hid (fpack11_calls A7 c7 (payJ ⟨(T : Int), d, c⟩) w7 (byt_of_own hown7).1 (own_none hown7) hpl (HT.out.on (HB.out.trans (hb7.mono HB.out.size))))
   rw [← HRec.out] at HP
   have HB7 := hid (HB.out.trans (hb7.mono HB.out.size))
   clear hr6 hown6 hgr6 hb6 hr7 hown7 hgr7 hb7 HO5 hx5 hx6 HPay HRec hpl hpl2
   generalize payJ ⟨(T : Int), d, c⟩ = pay_ at *
   go_wp2_with (at_builtin; first | refine wpList_append_g2 (by rfl) (.tmp 29) (.tmp 31) 30 9 rfl _ _ rfl rfl HR5.out ?_ | refine wpList_append_g2 (by rfl) (.tmp 33) (.tmp 35) 30 9 rfl _ _ rfl rfl HR6.out ?_)
   refine HP.out.mono ?_
   rintro e w8 ⟨A8, k8, rfl, hown8, hb8⟩
   have HB8 := hid (HB7.out.trans (hb8.mono HB7.out.size))
   have HO8 := hid (own_less hown8 HB7.out.size)
   clear hown8 hb8 HP
   go_wp2_with fail
   go_ret2
   exact ⟨A8, k8, rfl, HO8.out, HB8.out⟩
end
section
open Go Go.RowKit
open Go.Lib (hid)
set_option maxRecDepth 100000
theorem infoEnJ : (Tryz.prog.info? 56).map (fun i => (i.zero, i.size, i.bytes)) = some (some (.agg #[.int .i64 0, .string ⟨#[]⟩, .string ⟨#[]⟩]), 3, 40) := by kernel_rfl
theorem drop_none (A : Option Addr) (c n : Nat) (h : A = none → c = 0) : dropA A c n = none → c - n = 0 := by
 unfold dropA
 intro h1
 split at h1
 ·cases A with
  | none => have := h rfl; omega
  | some a => omega
 ·cases A with
  | none => have := h rfl; omega
  | some a => simp at h1
set_option maxHeartbeats 8000000 in
theorem jents12_calls (A : Option Addr) (c : Nat) (b : List UInt8) (w : World) (hb : Byt w A b) (hA : A = none → c = 0) (hc : b.length ≤ c) (hl : b.length ≤ 100000) (ht : LaysR w) :
  Calls Tryz.prog 51 #[.slice A b.length c] w fun e w' => ∃ A' c', e = .returned (.tuple #[.slice A' (entriesJ b).1.length c', .int .i64 ((entriesJ b).2 : Int)]) ∧ w'.ownsRow w.heap.size 56 3 (.slice A' (entriesJ b).1.length c') (entriesJ b).1.length ((entriesJ b).1.flatMap enC) ∧ Below w.heap.size w w' := by
 obtain ⟨i0, hi0, hz0, hz1, hz2⟩ := info_parts infoEnJ
 have HBy := hid hb
 have HA := hid hA
 have HC := hid hc
 have HL := hid hl
 have HT := hid ht
 clear hb hA hc hl ht
 obtain ⟨res, hres⟩ : ∃ res, res = entriesJ b := ⟨_, rfl⟩
 rw [← hres]
 have HRes := hid hres
 clear hres
 go_enter Tryz.func51, Tryz.ntmps51
 go_wp2_with fail
 go_loopw [2, 3] (fun v2 v3 wr => ∃ (n : Nat) (l : List EnJ), v3 = .int .i64 (n : Int) ∧ Hid (EntTo b n l) ∧ Hid (wr.ownsRow w.heap.size 56 3 v2 l.length (l.flatMap enC)) ∧ Hid (Below w.heap.size w wr)) (fun _ v3 _ => b.length - (intOf v3).toNat)
 case atStart => exact ⟨0, [], rfl, hid (EntTo.zero b), hid (World.ownsRow_nil _ _ _ _), hid (Below.refl _ _)⟩
 case round =>
  obtain ⟨n, l, rfl, HE, HO, HB⟩ := hrel
  have hn := HE.out.le
  have hsix := HE.out.six
  have hbl := HL.out
  have hll : l.length ≤ 100000 := by omega
  have hrun := run_cut A c b n hn
  have hdl : (b.drop n).length = b.length - n := List.length_drop
  have HNx := hid (fnext11_calls (dropA A c n) (c - n) (b.drop n) wr ((HBy.out.below HB.out).drop c n HC.out) (drop_none A c n HA.out) (by have := HC.out; omega) (by omega) (HT.out.on HB.out))
  have HYes : Hid (∀ e, errF (b.drop n) = 0 → unpackJ (nextF (b.drop n)).1 = some e → EntTo b (n + (nextF (b.drop n)).2) (l ++ [e])) := hid (fun e h1 h2 => by
   have ho := err_ok.1 h1
   have hx : nextF (b.drop n) = (loadF (b.drop n), 6 + numF (b.drop n)) := by unfold nextF; rw [if_pos ho]
   rw [hx] at h2 ⊢
   exact HE.out.step ho h2)
  have HNo : Hid ((errF (b.drop n) ≠ 0 ∨ unpackJ (nextF (b.drop n)).1 = none) → entriesJ b = (l, n)) := hid (fun h => by
   refine HE.out.fin ?_
   by_cases ho : okF (b.drop n)
   ·have h1 := err_ok.2 ho
    rcases h with h | h
    ·exact absurd h1 h
    ·have hx : nextF (b.drop n) = (loadF (b.drop n), 6 + numF (b.drop n)) := by unfold nextF; rw [if_pos ho]
     rw [hx] at h
     exact ent_bad ho h
   ·exact entries_none ho)
  have hpl : (nextF (b.drop n)).1.length ≤ 100000 := by
   unfold nextF
   split
   ·rename_i ho
    have h1 := (ok_split ho).2.2
    show (loadF (b.drop n)).length ≤ _
    omega
   ·exact Nat.zero_le _
  have HN2 : Hid (errF (b.drop n) = 0 → 6 ≤ (nextF (b.drop n)).2) := hid (fun h1 => by
   have ho := err_ok.1 h1
   unfold nextF
   rw [if_pos ho]
   exact Nat.le_add_right _ _)
  generalize (nextF (b.drop n)).1 = pl at *
  generalize (nextF (b.drop n)).2 = nn at *
  generalize errF (b.drop n) = er at *
  rw [hdl] at hrun HNx
  generalize dropA A c n = A1 at *
  generalize c - n = c1 at *
  clear hdl
  go_wp2_with fail
  refine HNx.out.mono ?_
  rintro e w1 ⟨A2, c2, rfl, hown2, hb1⟩
  have HB1 := hid (HB.out.trans (hb1.mono HB.out.size))
  have HO1 := hid (own_below HO.out hb1)
  have HUn := hid (junpack12_calls A2 c2 pl w1 (byt_of_own hown2).1 (byt_of_own hown2).2.2.1 hpl)
  clear hown2 hb1 HNx hpl hrun
  go_wp2_with fail
  refine HUn.out.mono ?_
  rintro e w2 ⟨rfl, hb2⟩
  have HB2 := hid (HB1.out.trans (hb2.mono HB1.out.size))
  have HO2 := hid (own_below HO1.out hb2)
  clear hb2 HUn HO1 HO HB1
  by_cases h0 : er = 0
  ·have q1 : (er != 0) = false := by rw [h0]; rfl
   have h6 := HN2.out h0
   have H0 := hid h0
   clear h0
   generalize hu : unpackJ pl = u at *
   cases u with
   | none =>
    have hF := HNo.out (.inr rfl)
    rw [← HRes.out] at hF
    subst hF
    obtain ⟨A6, c6, rfl⟩ := own_form HO2.out
    go_wp2_with fail
    go_ret2
    exact ⟨A6, c6, rfl, HO2.out.alloc _, HB2.out.alloc HB2.out.size _⟩
   | some e =>
    have HY := hid (HYes.out e H0.out rfl)
    have hle := HY.out.le
    have hwr : IntKind.i64.wrap ((n : Int) + (nn : Int)) = (n : Int) + (nn : Int) := IntWalk.i64_in _ (by omega)
    have hszr := HB2.out.size
    clear HYes HNo hu
    simp only [Option.getD_some, Option.isSome_some]
    go_wp2_with (at_builtin; refine wpList_append_own _ rfl _ _ 38 rfl w.heap.size 56 i0 _ 3 40 Tryz.underlying38 hi0 hz0 hz1 hz2 rfl (by decide) _ _ _ rfl ((HO2.out.alloc (.cells (enC e).toArray 56)).alloc _) ⟨w2.heap.size + 1, 0, none⟩ 1 1 (enC e) rfl rfl ?d1 ?d2 ?d3 ?d4 ?d5 ?_)
    case d1 =>
     have h := row_cells (C := enC) (w2.alloc (.cells (enC e).toArray 56)) e 56 _ rfl
     rw [World.size_alloc] at h
     exact h
    case d2 => exact enC_one e
    case d3 => unfold maxLen; omega
    case d4 => omega
    case d5 => simp; omega
    intro v7 w7 hown7 hgr7 _
    have hbA := HB2.out.alloc HB2.out.size (.cells (enC e).toArray 56)
    have hb7 : Below w.heap.size w w7 := (hbA.alloc hbA.size _).grown hgr7 (by simp; omega) (fun k hk => (HO2.out.lt k hk).1)
    have HOwn7 : Hid (w7.ownsRow w.heap.size 56 3 v7 (l ++ [e]).length ((l ++ [e]).flatMap enC)) := hid (by rw [List.length_append, List.flatMap_append]; simpa using hown7)
    have HB7 := hid hb7
    clear hown7 hgr7 hb7 hbA
    go_wp2_with fail
    go_roundw
    case rel => exact ⟨n + nn, l ++ [e], by go_num, HY, HOwn7, HB7⟩
    case measure => simp [intOf]; omega
  ·have q1 : (er != 0) = true := bne_iff_ne.2 h0
   have hF := HNo.out (.inl h0)
   rw [← HRes.out] at hF
   subst hF
   obtain ⟨A6, c6, rfl⟩ := own_form HO2.out
   clear h0 HNo HYes HN2
   go_wp2_with fail
   go_ret2
   exact ⟨A6, c6, rfl, HO2.out.alloc _, HB2.out.alloc HB2.out.size _⟩
end
end Go.Proofs.YteafcaambnfdoaaGreatDoor
