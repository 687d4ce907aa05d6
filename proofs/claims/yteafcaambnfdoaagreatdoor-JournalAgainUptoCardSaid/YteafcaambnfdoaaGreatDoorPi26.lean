/-
  Layer 7 and what it stands on, part 26 (FileCrash).
-/
import Derived.Test.YteafcaambnfdoaaGreatDoorPi20
import Derived.Test.YteafcaambnfdoaaGreatDoorPi23
import Derived.Test.YteafcaambnfdoaaGreatDoorPi25
import Derived.RegionTactic
import Derived.BigRegion
namespace Go.Proofs.YteafcaambnfdoaaGreatDoor
section
open Go Go.RowKit
open Go.Lib (hid)
set_option maxRecDepth 100000
theorem Cs.one {l : List FileF} {no : Nat} {qs : List QF} {ws : List WrF} (h : Cs l no (qs.map QF.cf) ws) (hr : RisF l) (hb : ∀ f ∈ l, Behind f.b.length f.row) : (∀ v ∈ ws, v.i ≤ v.j ∧ ∃ q ∈ qs, q.n = v.n) ∧ (∀ q ∈ qs, ∀ v ∈ ws, q.n = v.n → v.i ≤ v.j ∧ v.j ≤ q.x.length) ∧ ∀ q ∈ qs, q.s ≤ q.x.length := by
 refine ⟨fun v hv => ?_, fun q hq v hv hn => ?_, fun q hq => h.syn hb (List.mem_map_of_mem (f := QF.cf) hq)⟩
 ·obtain ⟨h1, c, hc, h2, _⟩ := h.wr hb hv
  obtain ⟨q, hq, rfl⟩ := List.mem_map.1 hc
  exact ⟨h1, q, hq, h2⟩
 ·obtain ⟨h1, c, hc, h2, h3⟩ := h.wr hb hv
  obtain ⟨p, hp, rfl⟩ := List.mem_map.1 hc
  have hnd := h.nodup hr
  rw [List.map_map] at hnd
  have hpq : p = q := by
   have h2' : p.n = q.n := h2.trans hn.symm
   clear h h1 h2 h3 hc
   induction qs with
   | nil => cases hp
   | cons a qs ih =>
    obtain ⟨k1, k2⟩ := List.nodup_cons.1 hnd
    rcases List.mem_cons.1 hp with rfl | hp'
    ·rcases List.mem_cons.1 hq with rfl | hq'
     ·rfl
     ·exact absurd (List.mem_map.2 ⟨q, hq', h2'.symm⟩) k1
    ·rcases List.mem_cons.1 hq with rfl | hq'
     ·exact absurd (List.mem_map.2 ⟨p, hp', h2'⟩) k1
     ·exact ih hq' hp' k2
  subst hpq
  exact ⟨h1, h3⟩
set_option maxHeartbeats 8000000 in
theorem fcrash_at (w : World) (lab : Lab) (b : Nat) (S : FS) (h : FAt w lab b S) (hS : S.Fit) (KA : Option Addr) (kc : Nat) (ks : List Bool) (hK : RowT boolC w (fun k => lab k = none) KA ks) (hkl : ks.length ≤ 100000) :
  Calls Tryz.prog 24 #[fp b, .slice KA ks.length kc] w fun e w' => e = .returned (.tuple #[]) ∧ ∃ lab', FAt w' lab' b (S.crash ks) ∧ LabTo w lab w' lab' := by
 obtain ⟨m, A, c, ws, qs, am, fl, h1, h2, _⟩ := h
 obtain ⟨hw1, hw2, hw3⟩ := h2.one hS.ok.ris hS.ok.beh
 have c1 := h1.box.c 1 rfl
 have HW1 := hid hw1
 have HW2 := hid hw2
 have HW3 := hid hw3
 have HFH := hid h1
 have HK := hid hK
 have hwl : ws.length ≤ 1000000000 := by rw [h2.pend hS.ok.ris]; exact hS.pend
 have HC := hid (h2.crash hS.ok.ris hS.ok.beh ks)
 clear h1 h2 hw1 hw2 hw3 hK hS
 go_enter Tryz.func24, Tryz.ntmps24
 go_wp2_with fail
 clear c1
 go_loopw [14] (fun v14 wr => ∃ k : Nat, k ≤ ws.length ∧ v14 = .int .i64 (k : Int) ∧ Hid (FH wr lab b m A c ws (qs.map (stQ ks ws k)) (S.ops : Int) S.down am fl) ∧ Hid (LabTo w lab wr lab)) (fun v14 _ => ws.length - (intOf v14).toNat)
 case atStart => exact ⟨0, Nat.zero_le _, rfl, hid (by
  have : qs.map (stQ ks ws 0) = qs := by rw [List.map_congr_left (fun q _ => stQ_zero ks ws q), List.map_id']
  rw [this]; exact HFH.out), hid (LabTo.refl _ _)⟩
 case round =>
  obtain ⟨k, hk, rfl, hfh, hto⟩ := hrel
  by_cases hlt : k < ws.length
  ·obtain ⟨v, hv⟩ : ∃ v, ws[k]? = some v := ⟨_, List.getElem?_eq_getElem hlt⟩
   have hvm := List.mem_of_getElem? hv
   obtain ⟨hij, q, hq, hqn⟩ := HW1.out v hvm
   obtain ⟨_, hjq⟩ := HW2.out q hq v hvm hqn
   have hrow : RowT wrC wr (fun _ => True) A ws := rowT_of_own hfh.out.fm.row (fun _ _ => trivial)
   obtain ⟨g, o, v', rfl, hgl, hv', d0, d1, d2⟩ := wr_at hrow hlt
   rw [hv] at hv'
   injection hv' with hv'
   subst hv'
   have hkl' : (k : Int) < (ws.length : Int) := by omega
   obtain ⟨l1, l2, rfl⟩ := List.append_of_mem hq
   have hvb := BxA.new wr 109 (wrC v)
   have hbel : Below wr.heap.size wr (wr.alloc (.cells (wrC v).toArray 109)) := (Below.refl _ wr).alloc (Nat.le_refl _) _
   obtain ⟨W1, hW1⟩ : ∃ W1, wr.alloc (.cells #[.string v.n, .int .i64 (v.i : Int), .int .i64 (v.j : Int)] 109) = W1 := ⟨_, rfl⟩
   have hW2 : wr.alloc (.cells (wrC v).toArray 109) = W1 := hW1
   rw [hW2] at hvb hbel
   clear hW2
   have hfh1 := hfh.out.one.below hbel
   have x0 := hvb.c 0 rfl
   have x1 := hvb.c 1 rfl
   have x2 := hvb.c 2 rfl
   have c0 := hfh1.box.c 0 rfl
   obtain ⟨ps, hm, hg⟩ := hfh1.fm.get List.mem_cons_self
   have hlk : (Instr.lookup 85 (.map (some m)) (.string v.n) false).run Tryz.prog W1.drew = .ok (.pointer (some ⟨q.g, 0, none⟩)) W1.drew := by
    have h9 := look_has (w := W1.drew) (hm.below (Below.refl _ W1).drew) hg
    have hqn' : (stQ ks ws k q).n = v.n := hqn
    rw [hqn'] at h9
    exact h9
   have HD : Hid (∀ p ∈ l1 ++ l2, p.n ≠ v.n) := hid (fun p hp e => by
    have h3 := HFH.out.fm.nms
    have h4 : ((q :: (l1 ++ l2)).map QF.n).Nodup := ((List.perm_middle (a := q) (l₁ := l1) (l₂ := l2)).map QF.n).nodup_iff.1 h3
    exact (List.nodup_cons.1 h4).1 (by rw [hqn, ← e]; exact List.mem_map_of_mem hp))
   have HF1 := hid hfh1
   have HVB := hid hvb
   have HB1 := hid hbel
   clear hm hg hrow hfh1 hvb hbel hgl
   by_cases hz : ks.length = 0
   ·have q0 : ((ks.length : Int) == 0) = true := beq_iff_eq.2 (by omega)
    have hkept : FS.kept ks k = false := by unfold FS.kept; rw [decide_eq_false (by omega), Bool.false_and]
    clear hz
    have HQ := hid (fun p (hp : p ∈ l1 ++ l2) => stQ_other (ks := ks) (q := p) hv (HD.out p hp))
    have HQ1 := hid (stQ_lost (ks := ks) hv hqn hkept)
    have hlen := (stQ_len (ks := ks) (HW3.out q (by simp)) (fun u hu hn => HW2.out q (by simp) u hu hn) k).1
    have HLEN := hid hlen
    have y0 : W1.cell? ⟨q.g, 0, none⟩ = some (.slice q.A q.x.length q.c) := by
     have y := (HF1.out.fm.bod _ List.mem_cons_self).box.c 0 rfl
     unfold QF.v at y
     rw [← hlen]
     exact y
    have hcap : q.x.length ≤ q.c := by
     have h1 := (HF1.out.fm.bod _ List.mem_cons_self).own
     unfold QF.v at h1
     have h2 := (byt_of_own h1).2.2.1
     rw [hlen] at h2
     exact h2
    obtain ⟨A', hsl, hA'⟩ := run_sub10 q.A q.c q.x.length v.i v.j hij (Nat.le_trans hjq hcap)
    by_cases hlj : v.i < v.j
    ·have hF2 := HF1.out.drew.drew
     obtain ⟨g', hqA, hjc, hcl, kz, lz⟩ := hF2.zero (i := v.i) (j := v.j) hlj (by rw [hlen]; exact hjq)
     have hqA : q.A = some ⟨g', 0, none⟩ := hqA
     have hcl := hcl 0
     have e9 := hA' g' hqA hlj
     subst e9
     have hcc : (stQ ks ws k q).c = q.c := rfl
     have q7 : ¬ q.c = v.i := by omega
     rw [hcc] at hcl
     have HN : Hid (Hid (FH (W1.drew.drew.setCells g' v.i (List.replicate (v.j - v.i) (.int .u8 0))) lab b m _ c ws ((l1 ++ q :: l2).map (stQ ks ws (k + 1))) (S.ops : Int) S.down am fl) ∧ Hid (LabTo w lab (W1.drew.drew.setCells g' v.i (List.replicate (v.j - v.i) (.int .u8 0))) lab)) := hid
      ⟨hid (kz.many HQ1.out HQ.out), hid (((hto.out.below HB1.out).drew.drew).trans lz)⟩
     have x1d : W1.drew.cell? ⟨wr.heap.size, 1, none⟩ = some (.int .i64 (v.i : Int)) := x1
     clear kz lz hfh hto hF2 hlj hA' hlen hcc
     go_wp2_with fail
     try rw [hW1]
     clear hW1
     go_region
     go_wp2_with fail
     go_region
     go_wp2_with fail
     go_roundw
     case rel => exact ⟨k + 1, by omega, by go_num, HN.out.1, HN.out.2⟩
     case measure => simp [intOf]; omega
    ·have e0 : v.j - v.i = 0 := by omega
     rw [e0] at hsl
     have hcl := run_clear_no A' (q.c - v.i) 0 W1.drew.drew
     have hz2 : zeroL (stQ ks ws k q).x v.i v.j = (stQ ks ws k q).x := by
      have e1 : v.i = v.j := by omega
      unfold zeroL
      rw [e0, e1, List.replicate_zero, List.append_nil, List.take_append_drop]
     have HN : Hid (Hid (FH W1.drew.drew lab b m _ c ws ((l1 ++ q :: l2).map (stQ ks ws (k + 1))) (S.ops : Int) S.down am fl) ∧ Hid (LabTo w lab W1.drew.drew lab)) := hid
      ⟨hid (HF1.out.drew.drew.many (by rw [HQ1.out, hz2]) HQ.out), hid ((hto.out.below HB1.out).drew.drew)⟩
     clear hfh hto hlj hA' hlen hz2
     go_wp2_with fail
     try rw [hW1]
     clear hW1
     go_region
     go_wp2_with fail
     go_region
     go_wp2_with fail
     go_roundw
     case rel => exact ⟨k + 1, by omega, by go_num, HN.out.1, HN.out.2⟩
     case measure => simp [intOf]; omega
   ·have q0 : ((ks.length : Int) == 0) = false := beq_eq_false_iff_ne.2 (by omega)
    have q9 : ¬ (ks.length : Int) = 0 := by omega
    have hmlt : k % ks.length < ks.length := Nat.mod_lt _ (by omega)
    have htm : Int.tmod (k : Int) (ks.length : Int) = ((k % ks.length : Nat) : Int) := (Int.ofNat_tmod _ _).symm
    have hem : (k : Int) % (ks.length : Int) = ((k % ks.length : Nat) : Int) := rfl
    have hwr : IntKind.i64.wrap ((k % ks.length : Nat) : Int) = ((k % ks.length : Nat) : Int) := IntWalk.i64_in _ (by omega)
    have hKr : RowT boolC W1.drew (fun k => lab k = none) KA ks := HK.out.keep (hto.out.below HB1.out).drew.only (fun i hi hn => hn hi)
    obtain ⟨gk, ok, hKA, hgk, ck⟩ := bool_at hKr hmlt
    have hmli : ((k % ks.length : Nat) : Int) < (ks.length : Int) := by omega
    have hkd : FS.kept ks k = ks.getD (k % ks.length) false := by unfold FS.kept; rw [decide_eq_true (by omega), Bool.true_and]
    subst hKA
    generalize hm : k % ks.length = mm at *
    have ck1 : W1.cell? ⟨gk, ok + mm, none⟩ = _ := ck
    clear hKr hz hm
    cases hkv : ks.getD mm false with
    | false =>
     rw [hkv] at ck ck1 hkd
     have hkept := hkd
     clear hkv hkd
     have HQ := hid (fun p (hp : p ∈ l1 ++ l2) => stQ_other (ks := ks) (q := p) hv (HD.out p hp))
     have HQ1 := hid (stQ_lost (ks := ks) hv hqn hkept)
     have hlen := (stQ_len (ks := ks) (HW3.out q (by simp)) (fun u hu hn => HW2.out q (by simp) u hu hn) k).1
     have HLEN := hid hlen
     have y0 : W1.cell? ⟨q.g, 0, none⟩ = some (.slice q.A q.x.length q.c) := by
      have y := (HF1.out.fm.bod _ List.mem_cons_self).box.c 0 rfl
      unfold QF.v at y
      rw [← hlen]
      exact y
     have hcap : q.x.length ≤ q.c := by
      have h1 := (HF1.out.fm.bod _ List.mem_cons_self).own
      unfold QF.v at h1
      have h2 := (byt_of_own h1).2.2.1
      rw [hlen] at h2
      exact h2
     obtain ⟨A', hsl, hA'⟩ := run_sub10 q.A q.c q.x.length v.i v.j hij (Nat.le_trans hjq hcap)
     by_cases hlj : v.i < v.j
     ·have hF2 := HF1.out.drew.drew
      obtain ⟨g', hqA, hjc, hcl, kz, lz⟩ := hF2.zero (i := v.i) (j := v.j) hlj (by rw [hlen]; exact hjq)
      have hqA : q.A = some ⟨g', 0, none⟩ := hqA
      have hcl := hcl 0
      have e9 := hA' g' hqA hlj
      subst e9
      have hcc : (stQ ks ws k q).c = q.c := rfl
      have q7 : ¬ q.c = v.i := by omega
      rw [hcc] at hcl
      have HN : Hid (Hid (FH (W1.drew.drew.setCells g' v.i (List.replicate (v.j - v.i) (.int .u8 0))) lab b m _ c ws ((l1 ++ q :: l2).map (stQ ks ws (k + 1))) (S.ops : Int) S.down am fl) ∧ Hid (LabTo w lab (W1.drew.drew.setCells g' v.i (List.replicate (v.j - v.i) (.int .u8 0))) lab)) := hid
       ⟨hid (kz.many HQ1.out HQ.out), hid (((hto.out.below HB1.out).drew.drew).trans lz)⟩
      have x1d : W1.drew.cell? ⟨wr.heap.size, 1, none⟩ = some (.int .i64 (v.i : Int)) := x1
      clear kz lz hfh hto hF2 hlj hA' hlen hcc
      go_wp2_with fail
      try rw [hW1]
      clear hW1
      go_region
      go_wp2_with fail
      go_region
      go_wp2_with fail
      go_roundw
      case rel => exact ⟨k + 1, by omega, by go_num, HN.out.1, HN.out.2⟩
      case measure => simp [intOf]; omega
     ·have e0 : v.j - v.i = 0 := by omega
      rw [e0] at hsl
      have hcl := run_clear_no A' (q.c - v.i) 0 W1.drew.drew
      have hz2 : zeroL (stQ ks ws k q).x v.i v.j = (stQ ks ws k q).x := by
       have e1 : v.i = v.j := by omega
       unfold zeroL
       rw [e0, e1, List.replicate_zero, List.append_nil, List.take_append_drop]
      have HN : Hid (Hid (FH W1.drew.drew lab b m _ c ws ((l1 ++ q :: l2).map (stQ ks ws (k + 1))) (S.ops : Int) S.down am fl) ∧ Hid (LabTo w lab W1.drew.drew lab)) := hid
       ⟨hid (HF1.out.drew.drew.many (by rw [HQ1.out, hz2]) HQ.out), hid ((hto.out.below HB1.out).drew.drew)⟩
      clear hfh hto hlj hA' hlen hz2
      go_wp2_with fail
      try rw [hW1]
      clear hW1
      go_region
      go_wp2_with fail
      go_region
      go_wp2_with fail
      go_roundw
      case rel => exact ⟨k + 1, by omega, by go_num, HN.out.1, HN.out.2⟩
      case measure => simp [intOf]; omega
    | true =>
     rw [hkv] at ck ck1 hkd
     have hkept := hkd
     clear hkv hkd
     have HQ := hid (fun p (hp : p ∈ l1 ++ l2) => stQ_other (ks := ks) (q := p) hv (HD.out p hp))
     have hq1 := stQ_kept (ks := ks) hv hqn hkept
     by_cases hlj : v.i < v.j
     ·rw [if_pos hlj] at hq1
      have q8 : (v.i : Int) < (v.j : Int) := by omega
      obtain ⟨kz, lz⟩ := HF1.out.drew.sync v.j
      have HN : Hid (Hid (FH (W1.drew.setCell ⟨q.g, 1, none⟩ (.int .i64 (v.j : Int))) lab b m _ c ws ((l1 ++ q :: l2).map (stQ ks ws (k + 1))) (S.ops : Int) S.down am fl) ∧ Hid (LabTo w lab (W1.drew.setCell ⟨q.g, 1, none⟩ (.int .i64 (v.j : Int))) lab)) := hid
       ⟨hid (kz.many hq1 HQ.out), hid (((hto.out.below HB1.out).drew).trans lz)⟩
      have z1 : W1.frozen? ⟨q.g, 1, none⟩ = false := (HF1.out.drew.fm.bod _ List.mem_cons_self).box.free 1
      have y1 : W1.cell? ⟨q.g, 1, none⟩ = some (.int .i64 ((stQ ks ws k q).s : Int)) := (HF1.out.drew.fm.bod _ List.mem_cons_self).box.c 1 rfl
      clear kz lz hfh hto hlj hq1
      go_wp2_with fail
      try rw [hW1]
      clear hW1
      go_region
      go_wp2_with fail
      go_roundw
      case rel => exact ⟨k + 1, by omega, by go_num, HN.out.1, HN.out.2⟩
      case measure => simp [intOf]; omega
     ·rw [if_neg hlj] at hq1
      have q8 : ¬ (v.i : Int) < (v.j : Int) := by omega
      have HN : Hid (Hid (FH W1.drew lab b m _ c ws ((l1 ++ q :: l2).map (stQ ks ws (k + 1))) (S.ops : Int) S.down am fl) ∧ Hid (LabTo w lab W1.drew lab)) := hid
       ⟨hid (HF1.out.drew.many hq1 HQ.out), hid ((hto.out.below HB1.out).drew)⟩
      clear hfh hto hlj hq1
      go_wp2_with fail
      try rw [hW1]
      clear hW1
      go_region
      go_wp2_with fail
      go_roundw
      case rel => exact ⟨k + 1, by omega, by go_num, HN.out.1, HN.out.2⟩
      case measure => simp [intOf]; omega
  ·obtain rfl : k = ws.length := by omega
   have c0 := hfh.out.box.c 0 rfl
   obtain ⟨ps, hma, hps⟩ := hfh.out.fm.map
   have hnd := hfh.out.fm.dif
   have hpn : (ps.map Prod.snd).Nodup := by
    have h3 := hps.map Prod.snd
    rw [List.map_map] at h3
    exact (h3.nodup_iff).2 hnd
   have HPS := hid hps
   have HPN := hid hpn
   have hss : ∀ q ∈ qs.map (stQ ks ws ws.length), q.s ≤ q.x.length := fun q hq => by
    obtain ⟨p, hp, rfl⟩ := List.mem_map.1 hq
    have := stQ_len (ks := ks) (HW3.out p hp) (fun u hu hn => HW2.out p hp u hu hn) ws.length
    rw [this.1]
    exact this.2
   have HSS := hid hss
   have HWO := hid hto.out.only.size
   have hmlt := hma.lt
   clear hps hnd hpn hss
   obtain ⟨wo, hwo⟩ : ∃ wo, wo = wr := ⟨wr, rfl⟩
   subst hwo
   go_wp2_with (first
    | (at_range; refine wpList_rangeP _ rfl _ 85 rfl 9 101 Tryz.underlying85 m ps rfl hma ?_; intro w0 hrg0 hb0 hs0)
    | fail)
   go_frame
   go_loopw [8] (fun _ wr => ∃ (todo : List (ByteArray × Nat)), RangeAt bodV wr m wo.heap.size ps todo ∧ Hid (todo.Sublist ps) ∧ Hid (FH wr lab b m A c ws ((qs.map (stQ ks ws ws.length)).map (fT todo)) (S.ops : Int) S.down am fl) ∧ Hid (LabTo w lab wr lab)) (fun _ wr => wr.rangeLeft m wo.heap.size)
   case atStart => exact ⟨ps, hrg0, hid (List.Sublist.refl _), hid (by
    rw [List.map_congr_left (fun q hq => fT_in (todo := ps) (by
     have h4 := HPS.out.mem_iff.2 (List.mem_map_of_mem (f := fun q : QF => (q.n, q.g)) hq)
     exact List.mem_map_of_mem (f := Prod.snd) h4)), List.map_id']
    exact hfh.out.below hb0), hid (hto.out.below hb0)⟩
   case round =>
    obtain ⟨todo, hrg, hsub, hfv, htv⟩ := hrel
    have hrl := hfh.out.fm.lt
    have hlbr : lab wo.heap.size = none := by
     cases hl : lab wo.heap.size with
     | none => rfl
     | some r => have := hfh.out.fm.lt _ r hl; omega
    have hpar := @RangeAt.left _ bodV
    clear hrl c0 hma hrg0 hb0 hs0 hfh hto
    go_wp2_with (first
     | (at_next; refine wpList_nextP _ rfl _ rfl m wo.heap.size ps todo rfl hrg ?_ ?_)
     | fail)
    ·intro htodo
     subst htodo
     have hend : (qs.map (stQ ks ws ws.length)).map (fT []) = (qs.map (stQ ks ws ws.length)).map endQ := List.map_congr_left fun q _ => fT_nil q
     have hfx := hfv.out
     rw [hend] at hfx
     have f1 := hfx.box.free 1
     have f3 := hfx.box.free 3
     have f4 := hfx.box.free 4
     have f5 := hfx.box.free 5
     have d1 := hfx.box.c 1 rfl
     have d3 := hfx.box.c 3 rfl
     have d4 := hfx.box.c 4 rfl
     have d5 := hfx.box.c 5 rfl
     obtain ⟨kz, lz⟩ := hfx.anew
     have HR := hid (And.intro (FAt.of (S := S.crash ks) kz (by
      have hcs := HC.out
      show Cs _ S.no _ _
      have e9 : ((qs.map (stQ ks ws ws.length)).map endQ).map QF.cf = (qs.map QF.cf).map fun c => endC (stepsC ks 0 ws c) := by
       rw [List.map_map, List.map_map, List.map_map]
       refine List.map_congr_left fun q _ => ?_
       show endC (stQ ks ws ws.length q).cf = endC (stepsC ks 0 ws q.cf)
       rw [stQ_cf, List.take_length]
      rw [e9]
      exact hcs) ⟨(by decide : max (-1 : Int) (-1) = -1), by decide, by decide⟩ ⟨(by decide : max (-1 : Int) (-1) = -1), by decide, by decide⟩ rfl rfl) (htv.out.trans lz))
     clear kz lz hfx hfv htv hrg hsub hpar
     go_wp2_with fail
     go_end0
     exact ⟨rfl, lab, HR.out⟩
    ·intro l x y d w9 htd hrg9 ho9 hs9 hen
     subst htd
     have hmem : (x, y) ∈ ps := hsub.out.subset (by simp)
     obtain ⟨q, hq, hqe⟩ := List.mem_map.1 (HPS.out.mem_iff.1 hmem)
     injection hqe with hqx hqy
     subst hqy
     have hqs := HSS.out q hq
     obtain ⟨l1, l2, hl12⟩ := List.append_of_mem hq
     have hfw := hfv.out
     rw [hl12] at hfw
     have hf9 := (hfw.one).perm (List.Perm.refl _)
     have hin : fT (l ++ (x, q.g) :: d) q = q := fT_in (by simp)
     rw [hin] at hf9
     have hlr : ∀ k r, k = wo.heap.size → lab k = some r → r = 0 := fun k r e hk => by rw [e, hlbr] at hk; cases hk
     have hf9' : FH w9 lab b m A c ws (q :: (l1 ++ l2).map (fT (l ++ (x, q.g) :: d))) (S.ops : Int) S.down am fl := ⟨hf9.box.keep ho9 (fun e => by have := hlr b 0 e hf9.lb; have h7 := hf9.lb; rw [show b = wo.heap.size from e, hlbr] at h7; cases h7), hf9.lb, hf9.fm.keep ho9 hlr⟩
     have hbq := hf9'.fm.bod q List.mem_cons_self
     have y0 := hbq.box.c 0 rfl
     have y1 := hbq.box.c 1 rfl
     have z0 := hbq.box.free 0
     have hcap : q.x.length ≤ q.c := by
      have h1 := hbq.own
      unfold QF.v at h1
      exact (byt_of_own h1).2.2.1
     have q8 : (q.s : Int) ≤ (q.c : Int) := by omega
     obtain ⟨kz, lz⟩ := hf9'.drew.cut hqs
     have hnot : q.g ∉ (l ++ d).map Prod.snd := fun hm => by
      have h5 := List.Nodup.sublist (hsub.out.map Prod.snd) HPN.out
      rw [List.map_append, List.map_cons] at h5
      have h6 := (List.perm_middle.nodup_iff).1 h5
      rw [← List.map_append] at h6
      exact (List.nodup_cons.1 h6).1 hm
     have hdf : (((l1 ++ q :: l2)).map QF.g).Nodup := by
      have h7 := hfw.fm.dif
      rw [List.map_map] at h7
      have h8 : QF.g ∘ fT (l ++ (x, q.g) :: d) = QF.g := by funext p; exact fT_g _ p
      rw [h8] at h7
      exact h7
     have hoth : ∀ p ∈ l1 ++ l2, fT (l ++ d) p = fT (l ++ (x, q.g) :: d) p := fun p hp => by
      have hne : p.g ≠ q.g := fun e => by
       have h8 := ((List.perm_middle (a := q) (l₁ := l1) (l₂ := l2)).map QF.g).nodup_iff.1 hdf
       exact (List.nodup_cons.1 h8).1 (by rw [← e]; exact List.mem_map_of_mem hp)
      unfold fT
      have : (p.g ∈ (l ++ d).map Prod.snd) ↔ (p.g ∈ (l ++ (x, q.g) :: d).map Prod.snd) := by simp [hne]
      by_cases h9 : p.g ∈ (l ++ d).map Prod.snd
      ·rw [if_pos h9, if_pos (this.1 h9)]
      ·rw [if_neg h9, if_neg (fun e => h9 (this.2 e))]
     have hrgz : RangeAt bodV (w9.drew.setCell ⟨q.g, 0, none⟩ (.slice q.A q.s q.c)) m wo.heap.size ps (l ++ d) := (hrg9.below (Below.refl _ w9).drew).keep (only_set w9.drew ⟨q.g, 0, none⟩ (.slice q.A q.s q.c)) (fun (e : m = q.g) => by have := hbq.at_; rw [← e, hf9'.fm.lm] at this; cases this) (fun (e : wo.heap.size = q.g) => by have := hbq.at_; rw [← e, hlbr] at this; cases this)
     have HNX : Hid (RangeAt bodV (w9.drew.setCell ⟨q.g, 0, none⟩ (.slice q.A q.s q.c)) m wo.heap.size ps (l ++ d) ∧ Hid ((l ++ d).Sublist ps) ∧ Hid (FH (w9.drew.setCell ⟨q.g, 0, none⟩ (.slice q.A q.s q.c)) lab b m A c ws ((qs.map (stQ ks ws ws.length)).map (fT (l ++ d))) (S.ops : Int) S.down am fl) ∧ Hid (LabTo w lab (w9.drew.setCell ⟨q.g, 0, none⟩ (.slice q.A q.s q.c)) lab)) := hid
      ⟨hrgz, hid (List.Sublist.trans (List.Sublist.append_left (List.sublist_cons_self _ _) l) hsub.out), hid (by
       rw [hl12]
       exact kz.many (fT_out hnot) hoth), hid ((htv.out.more ho9 (fun k (e : k = wo.heap.size) => .inr (by rw [e]; exact HWO.out))).drew.trans lz)⟩
     have Hml : Hid ((w9.drew.setCell ⟨q.g, 0, none⟩ (.slice q.A q.s q.c)).rangeLeft m wo.heap.size < wr.rangeLeft m wo.heap.size) := hid (by
      rw [hrgz.left, hrg.left]
      simp)
     unfold QF.v at y0
     unfold bodV at hen ⊢
     clear kz lz hfw hf9 hf9' hbq hfv htv hrg hrg9 ho9 hs9 hsub hpar hdf hoth hrgz hnot hin hl12 hlr hmem hq
     go_wp2_with fail
     go_region
     go_wp2_with fail
     go_roundw
     case rel => exact ⟨_, HNX.out.1, HNX.out.2.1, HNX.out.2.2.1, HNX.out.2.2.2⟩
     case measure => exact Hml.out
end
end Go.Proofs.YteafcaambnfdoaaGreatDoor
