/-
  Layer 7 and what it stands on, part 24 (FilePut FilePutN FileWrite).
-/
import Derived.Test.YteafcaambnfdoaaGreatDoorPq1
import Derived.Test.YteafcaambnfdoaaGreatDoorPq23
import Derived.Deep.RegionLaw
namespace Go.Proofs.YteafcaambnfdoaaGreatDoor
section
open Go Go.RowKit
set_option maxRecDepth 100000
set_option maxHeartbeats 4000000 in
theorem put_has (w : World) (lab : Lab) (b m : Nat) (A : Option Addr) (c : Nat) (ws : List WrF) (qs : List QF) (ops : Int) (dn : Bool) (am fl : Int) (q : QF) (h : FH w lab b m A c ws (q :: qs) ops dn am fl) (hl : ws.length ≤ 1000000000)
  (B : Option Addr) (bc : Nat) (y : List UInt8) (hy : Byt w B y) (hyc : B = none → bc = 0) (hyl : q.x.length + y.length ≤ 1099511627776) :
  Calls Tryz.prog 79 #[.pointer (some ⟨b, 0, none⟩), .string q.n, .slice B y.length bc] w fun e w' => e = .returned (.tuple #[]) ∧ ∃ A' c' A1 c1 lab', FH w' lab' b m A' c' (ws ++ [⟨q.n, q.x.length, (q.x ++ y).length⟩]) ({ q with x := q.x ++ y, A := A1, c := c1 } :: qs) ops dn am fl ∧ LabTo w lab w' lab' := by
 obtain ⟨ps, hm, hg⟩ := h.fm.get List.mem_cons_self
 have hlk := look_has hm hg
 have c0 := h.box.c 0 rfl
 have hq := h.fm.bod q List.mem_cons_self
 have y0 := hq.box.c 0 rfl
 obtain ⟨A1, c1, w2, hr1, hown, hgr, hbl⟩ := run_append_b10 w q.v q.x hq.own B bc y hyc hy hyl
 obtain ⟨lab1, kf, kl, hbx2⟩ := h.grown hgr hown hbl
 have z0 := hbx2.free 0
 have z1 := hbx2.c 0 rfl
 have Hr1 := Lib.hid hr1
 have LL := Lib.hid kl
 generalize hz : q.x ++ y = z at *
 obtain ⟨W, hW⟩ : ∃ W, w2.setCell ⟨q.g, 0, none⟩ (.slice A1 z.length c1) = W := ⟨_, rfl⟩
 have LL : LabTo w lab W lab1 := by rw [← hW]; exact kl
 have LL := Lib.hid LL
 unfold QF.v at y0 z1 Hr1
 clear h hm hg hq hr1 hown hgr hbl kl hbx2 hy hyc hyl hz
 go_enter Tryz.func79, Tryz.ntmps79
 go_wp2_with (at_builtin; refine wpList_append_g (by rfl) (.tmp 33) (.tmp 34) 30 rfl _ _ rfl rfl Hr1.out ?_)
 ·skip
  have hw' : FH W lab1 b m A c ws ({ q with x := z, A := A1, c := c1 } :: qs) ops dn am fl := by rw [← hW]; exact kf
  have hx' : BxA W q.g 111 [.slice A1 z.length c1, .int .i64 (q.s : Int)] := (hw'.fm.bod _ List.mem_cons_self).box
  obtain ⟨A2, c2, w4, lab2, hrun, d1, e1, dq, d0, kf2, kl2⟩ := hw'.rowApp ⟨q.n, q.x.length, z.length⟩ hl
  have dq' := dq _ List.mem_cons_self
  have hh0 : W.drew.cell? ⟨b, 1, none⟩ = some (.slice A ws.length c) ∧ W.drew.cell? ⟨q.g, 0, none⟩ = some (.slice A1 z.length c1) := ⟨hw'.box.c 1 rfl, hx'.c 0 rfl⟩
  have hb9 : Below W.heap.size W (W.drew.alloc (.cells (wrC ⟨q.n, q.x.length, z.length⟩).toArray 109)) := (Below.refl _ W).drew.alloc (Nat.le_refl _) _
  have hh1 : (W.drew.alloc (.cells (wrC ⟨q.n, q.x.length, z.length⟩).toArray 109)).cell? ⟨b, 1, none⟩ = some (.slice A ws.length c) ∧ (W.drew.alloc (.cells (wrC ⟨q.n, q.x.length, z.length⟩).toArray 109)).cell? ⟨q.g, 0, none⟩ = some (.slice A1 z.length c1) := ⟨(hw'.box.below hb9).c 1 rfl, (hx'.below hb9).c 0 rfl⟩
  have hh2 : w4.cell? ⟨b, 1, none⟩ = some (.slice A ws.length c) ∧ w4.cell? ⟨q.g, 0, none⟩ = some (.slice A1 z.length c1) := ⟨d1, dq'⟩
  have Hrun := Lib.hid hrun
  have HR := Lib.hid (And.intro kf2 (LL.out.trans kl2))
  clear hrun dq dq' kf2 kl2 hw' hx' hb9 kf
  try rw [hW]
  clear hW
  refine wp_region_last (S := fun w' => w'.cell? ⟨b, 1, none⟩ = some (.slice A ws.length c) ∧ w'.cell? ⟨q.g, 0, none⟩ = some (.slice A1 z.length c1)) 17 (by kernel_rfl) hh0 (fun hHeld => ?_)
  refine tkL 0 ?_
  refine tkL 1 ?_
  refine tkL 2 ?_
  refine tkL 3 ?_
  refine tkL 4 ?_
  refine tkL 5 ?_
  refine tkL 6 ?_
  refine tkL 7 ?_
  refine tkL 8 ?_
  refine tkL 9 ?_
  refine tkL 10 ?_
  refine tkL 11 ?_
  refine tkL 12 ?_
  refine rdL 13 fun K hK => ?_
  go_simp
  
  refine hK.out _ _ hh1 (fun hHeld => ?_)
  clear hK K
  refine lastAny_ready (rs := [14]) (by kernel_rfl) (by simp) ?_
  refine AllReadyL.cons (o := ⟨some 52, _, _, _, _, _⟩) rfl (fun K hK => ?_) AllReadyL.nil
  refine step_append_g (by kernel_rfl) (.tmp 42) (.tmp 51) 86 rfl _ _ rfl rfl Hrun.out ?_
  refine hK.out _ _ hh2 (fun hHeld => ?_)
  clear hK K
  refine rdL 15 fun K hK => ?_
  go_simp
  
  refine hK.out _ _ hh2 (fun hHeld => ?_)
  clear hK K
  refine rdL 16 fun K hK => ?_
  go_simp
  
  refine hK.out _ _ hh2 (fun hHeld => ?_)
  clear hK K
  refine enL fun K hK => ?_
  go_simp
  refine hK.out _ _ ?_
  clear hK K
  go_wp2_with fail
  go_end0
  exact ⟨rfl, A2, c2, A1, c1, lab2, HR.out⟩
end
section
open Go Go.RowKit
set_option maxRecDepth 100000
set_option maxHeartbeats 4000000 in
theorem put_new (w : World) (lab : Lab) (b m : Nat) (A : Option Addr) (c : Nat) (ws : List WrF) (qs : List QF) (ops : Int) (dn : Bool) (am fl : Int) (n : ByteArray) (h : FH w lab b m A c ws qs ops dn am fl) (hn : ∀ q ∈ qs, q.n ≠ n) (hl : ws.length ≤ 1000000000)
  (B : Option Addr) (bc : Nat) (y : List UInt8) (hy : Byt w B y) (hyk : 0 < y.length → ∀ a, B = some a → lab a.block = none) (hyc : B = none → bc = 0) (hyl : y.length ≤ 1099511627776) :
  Calls Tryz.prog 79 #[.pointer (some ⟨b, 0, none⟩), .string n, .slice B y.length bc] w fun e w' => e = .returned (.tuple #[]) ∧ ∃ A' c' A1 c1 lab', FH w' lab' b m A' c' (ws ++ [⟨n, 0, y.length⟩]) (⟨n, y, 0, w.heap.size, A1, c1⟩ :: qs) ops dn am fl ∧ LabTo w lab w' lab' := by
 obtain ⟨ps, hm, hg, _⟩ := h.fm.no hn
 have hlk := look_no hm hg
 have c0 := h.box.c 0 rfl
 have c0' := (h.box.alloc (.cells #[.slice none 0 0, .int .i64 0] 111)).c 0 rfl
 obtain ⟨w3, hru, h3, hl3, ho3⟩ := h.fresh hn
 have hy3 : Byt w3 B y := byt_only hy ho3 (fun hn a ha (e : a.block = m) => by have := hyk hn a ha; rw [e, h.fm.lm] at this; cases this)
 have hq := h3.fm.bod _ List.mem_cons_self
 have y0 : w3.cell? ⟨w.heap.size, 0, none⟩ = some (.slice none 0 0) := hq.box.c 0 rfl
 obtain ⟨A1, c1, w2, hr1, hown, hgr, hbl⟩ := run_append_b10 w3 (.slice none 0 0) [] hq.own B bc y hyc hy3 (by simpa using hyl)
 rw [List.nil_append] at hr1 hown hbl
 obtain ⟨lab1, kf, kl, hbx2⟩ := h3.grown hgr hown hbl
 have z0 : w2.frozen? ⟨w.heap.size, 0, none⟩ = false := hbx2.free 0
 have z1 : w2.cell? ⟨w.heap.size, 0, none⟩ = some (.slice none 0 0) := hbx2.c 0 rfl
 obtain ⟨W, hW⟩ : ∃ W, w2.setCell ⟨w.heap.size, 0, none⟩ (.slice A1 y.length c1) = W := ⟨_, rfl⟩
 have kf' : FH W lab1 b m A c ws (⟨n, y, 0, w.heap.size, A1, c1⟩ :: qs) ops dn am fl := by rw [← hW]; exact kf
 have LL : LabTo w lab W lab1 := by rw [← hW]; exact hl3.trans kl
 have hx' : BxA W w.heap.size 111 [.slice A1 y.length c1, .int .i64 0] := (kf'.fm.bod _ List.mem_cons_self).box
 obtain ⟨A2, c2, w4, lab2, hrun, d1, e1, dq, d0, kf2, kl2⟩ := kf'.rowApp ⟨n, 0, y.length⟩ hl
 have dq' : w4.cell? ⟨w.heap.size, 0, none⟩ = some (.slice A1 y.length c1) := dq _ List.mem_cons_self
 have hh0 : W.drew.cell? ⟨b, 1, none⟩ = some (.slice A ws.length c) ∧ W.drew.cell? ⟨w.heap.size, 0, none⟩ = some (.slice A1 y.length c1) := ⟨kf'.box.c 1 rfl, hx'.c 0 rfl⟩
 have hb9 : Below W.heap.size W (W.drew.alloc (.cells (wrC ⟨n, 0, y.length⟩).toArray 109)) := (Below.refl _ W).drew.alloc (Nat.le_refl _) _
 have hh1 : (W.drew.alloc (.cells (wrC ⟨n, 0, y.length⟩).toArray 109)).cell? ⟨b, 1, none⟩ = some (.slice A ws.length c) ∧ (W.drew.alloc (.cells (wrC ⟨n, 0, y.length⟩).toArray 109)).cell? ⟨w.heap.size, 0, none⟩ = some (.slice A1 y.length c1) := ⟨(kf'.box.below hb9).c 1 rfl, (hx'.below hb9).c 0 rfl⟩
 have hh2 : w4.cell? ⟨b, 1, none⟩ = some (.slice A ws.length c) ∧ w4.cell? ⟨w.heap.size, 0, none⟩ = some (.slice A1 y.length c1) := ⟨d1, dq'⟩
 have Hr1 := Lib.hid hr1
 have Hrun := Lib.hid hrun
 have HR := Lib.hid (And.intro kf2 (LL.trans kl2))
 clear h hm hg hq hr1 hown hgr hbl kl hbx2 hy hy3 hyc hyl hyk h3 hl3 ho3 hn kf kf' LL hx' hrun dq dq' kf2 kl2 hb9
 generalize y.length = yl at *
 go_enter Tryz.func79, Tryz.ntmps79
 go_wp2_with (at_builtin; refine wpList_append_g (by rfl) (.tmp 33) (.tmp 34) 30 rfl _ _ rfl rfl Hr1.out ?_)
 try rw [hW]
 clear hW
 refine wp_region_last (S := fun w' => w'.cell? ⟨b, 1, none⟩ = some (.slice A ws.length c) ∧ w'.cell? ⟨w.heap.size, 0, none⟩ = some (.slice A1 yl c1)) 17 (by kernel_rfl) hh0 (fun hHeld => ?_)
 refine tkL 0 ?_
 refine tkL 1 ?_
 refine tkL 2 ?_
 refine tkL 3 ?_
 refine tkL 4 ?_
 refine tkL 5 ?_
 refine tkL 6 ?_
 refine tkL 7 ?_
 refine tkL 8 ?_
 refine tkL 9 ?_
 refine tkL 10 ?_
 refine tkL 11 ?_
 refine tkL 12 ?_
 refine rdL 13 fun K hK => ?_
 go_simp
 
 refine hK.out _ _ hh1 (fun hHeld => ?_)
 clear hK K
 refine lastAny_ready (rs := [14]) (by kernel_rfl) (by simp) ?_
 refine AllReadyL.cons (o := ⟨some 52, _, _, _, _, _⟩) rfl (fun K hK => ?_) AllReadyL.nil
 refine step_append_g (by kernel_rfl) (.tmp 42) (.tmp 51) 86 rfl _ _ rfl rfl Hrun.out ?_
 refine hK.out _ _ hh2 (fun hHeld => ?_)
 clear hK K
 refine rdL 15 fun K hK => ?_
 go_simp
 
 refine hK.out _ _ hh2 (fun hHeld => ?_)
 clear hK K
 refine rdL 16 fun K hK => ?_
 go_simp
 
 refine hK.out _ _ hh2 (fun hHeld => ?_)
 clear hK K
 refine enL fun K hK => ?_
 go_simp
 refine hK.out _ _ ?_
 clear hK K
 go_wp2_with fail
 go_end0
 exact ⟨rfl, A2, c2, A1, c1, lab2, HR.out⟩
end
section
open Go Go.RowKit
open Go.Lib (hid)
set_option maxRecDepth 100000
section
variable {w : World} {lab : Lab} {b m : Nat} {A : Option Addr} {c : Nat} {ws : List WrF} {qs : List QF} {am fl : Int} {S : FS}
theorem FH.op (h : FH w lab b m A c ws qs (S.ops : Int) S.down am fl) (hS : S.Fit) (hd : S.down = false) (h6 : FuseIs am S.fuse) :
  Calls Tryz.prog 76 #[.pointer (some ⟨b, 0, none⟩), .int .i64 0] w fun e w' => e = .returned (.tuple #[.int .i64 (if S.count.down then 100 else 0), .bool true]) ∧ FH w' lab b m A c ws qs (S.count.ops : Int) S.count.down (burnA am) fl ∧ Only (fun k => k = b) w w' := by
 have hop := hS.ops
 have hz := h6.zero
 have hcd : S.count.down = decide (am = 0) := by rw [hz]; unfold FS.count; rw [hd]; rfl
 refine (begin_op w lab b m A c ws qs (S.ops : Int) S.down am fl h hd (by omega) (by omega) h6.lo h6.hi).mono ?_
 rintro e w' ⟨rfl, k1, k2⟩
 rw [hcd]
 refine ⟨by simp, ?_, k2⟩
 have : ((S.count.ops : Nat) : Int) = (S.ops : Int) + 1 := by unfold FS.count; simp
 rw [this]
 exact k1
theorem FH.due {ops : Int} {dn : Bool} (h : FH w lab b m A c ws qs ops dn am fl) {z : Int} (h6 : FuseIs fl z) :
  Calls Tryz.prog 78 #[.pointer (some ⟨b, 5, none⟩)] w fun e w' => e = .returned (.bool (decide (z = 0))) ∧ FH w' lab b m A c ws qs ops dn am (burnA fl) ∧ Only (fun k => k = b) w w' := by
 refine (isDue_calls w b 5 _ _ fl h.box rfl h6.lo h6.hi).mono ?_
 rintro e w' ⟨rfl, k1, k2⟩
 exact ⟨by rw [h6.zero], h.boxTo k2 k1, k2⟩
def amissF (S : FS) (n : ByteArray) (k : Nat) : Int := if nameF n = false ∨ (findF S.l n).isNone ∧ 8 ≤ S.l.length then 101 else if 65536 < (S.found n).all.length + k then 103 else 0
theorem FAt.amiss (h : FAt w lab b S) (hS : S.Fit) (n : ByteArray) (k : Nat) (hk : k ≤ 1000000) : Calls Tryz.prog 77 #[.pointer (some ⟨b, 0, none⟩), .string n, .int .i64 (k : Int)] w fun e w' => e = .returned (.int .i64 (amissF S n k)) ∧ w = w' := by
 cases hf : findF S.l n with
 | none =>
  obtain ⟨m, A, c, ws, qs, am, fl, h1, h2, h3, _⟩ := h.none_ hf
  have hlen := h2.len
  rw [List.length_map] at hlen
  have hfew := hS.ok.few
  have := amiss_no w lab b m A c ws qs _ _ am fl h1 h3 k hk (by omega)
  have he : amissF S n k = if nameF n = false ∨ 8 ≤ qs.length then 101 else if 65536 < k then 103 else 0 := by
   unfold amissF
   have hfo : S.found n = ⟨n, [], []⟩ := by unfold FS.found; rw [hf]; rfl
   rw [hf, hfo, hlen]
   simp [FileF.all]
  rw [he]
  exact this
 | some f =>
  obtain ⟨m, A, c, ws, q, qs, am, fl, h1, _, rfl, hx, _⟩ := h.some_ hS.ok.ris hf
  have hm := (findF_some hS.ok.ris).1 hf
  have hsz := hS.ok.siz f hm.1
  have := amiss_has w lab b m A c ws _ _ _ am fl h1 List.mem_cons_self k hk (by rw [hx]; exact hsz)
  have he : amissF S q.n k = if 65536 < q.x.length + k then 103 else 0 := by
   unfold amissF
   have hfo : S.found q.n = f := by unfold FS.found; rw [hf]; rfl
   have hnm := hS.ok.nam f hm.1
   rw [hm.2] at hnm
   rw [hf, hfo, hnm, hx]
   simp
  rw [he]
  exact this
end
theorem write_no {S : FS} {n : ByteArray} {x : List UInt8} (hd : S.down = false) (h : amissF S n x.length ≠ 0) : S.write n x = (S, amissF S n x.length) := by
 unfold amissF at h ⊢
 unfold FS.write
 rw [hd, if_neg (by simp)]
 split
 ·rfl
 ·rename_i h1
  rw [if_neg h1] at h
  split
  ·rfl
  ·rename_i h2
   rw [if_neg h2] at h
   exact absurd rfl h
theorem write_yes {S : FS} {n : ByteArray} {x : List UInt8} (hd : S.down = false) (h : amissF S n x.length = 0) : S.write n x = if S.fault = 0 then (S.burn.count, if S.burn.count.down then 100 else 102) else (S.burn.count.put (S.found n) x, if S.burn.count.down then 100 else 0) := by
 unfold amissF at h
 unfold FS.write
 rw [hd, if_neg (by simp)]
 split
 ·rename_i h1
  rw [if_pos h1] at h
  exact absurd h (by decide)
 ·rename_i h1
  rw [if_neg h1] at h
  split
  ·rename_i h2
   rw [if_pos h2] at h
   exact absurd h (by decide)
  ·rfl
theorem Cs.split {l : List FileF} {no : Nat} {qs : List QF} {ws : List WrF} (h2 : Cs l no (qs.map QF.cf) ws) (hr : RisF l) {n : ByteArray} {f : FileF} (hf : findF l n = some f) :
  ∃ q qs', qs.Perm (q :: qs') ∧ Cs l no (q.cf :: qs'.map QF.cf) ws ∧ q.n = n ∧ q.x = f.all ∧ q.s = f.b.length := by
 obtain ⟨r, hp⟩ := h2.of_some hr hf
 obtain ⟨qs', h9, h10⟩ := perm_of_map QF.cf hp qs rfl
 cases qs' with
 | nil => cases h10
 | cons q qs' =>
  injection h10 with h11 h12
  have := h2.perm (h9.map QF.cf)
  unfold QF.cf at h11
  injection h11 with e1 e2 e3
  exact ⟨q, qs', h9, this, e1.symm, e2.symm, e3.symm⟩
theorem put_calls10 (w : World) (lab : Lab) (b m : Nat) (A : Option Addr) (c : Nat) (ws : List WrF) (qs : List QF) (am fl : Int) (S : FS) (h : FH w lab b m A c ws qs (S.ops : Int) S.down am fl) (hc : Cs S.l S.no (qs.map QF.cf) ws) (hr : RisF S.l) (h1 : FuseIs am S.fuse) (h2 : FuseIs fl S.fault) (hl : ws.length ≤ 1000000000)
  (n : ByteArray) (B : Option Addr) (bc : Nat) (x : List UInt8) (hy : Byt w B x) (hyk : 0 < x.length → ∀ a, B = some a → lab a.block = none) (hyc : B = none → bc = 0) (hx : (S.found n).all.length + x.length ≤ 100000000) :
  Calls Tryz.prog 79 #[.pointer (some ⟨b, 0, none⟩), .string n, .slice B x.length bc] w fun e w' => e = .returned (.tuple #[]) ∧ ∃ lab', FAt w' lab' b (S.put (S.found n) x) ∧ LabTo w lab w' lab' := by
 cases hf : findF S.l n with
 | none =>
  have hfo : S.found n = ⟨n, [], []⟩ := by unfold FS.found; rw [hf]; rfl
  have hno : ∀ q ∈ qs, q.n ≠ n := fun q hq => hc.of_none hf q.cf (List.mem_map_of_mem hq)
  refine (put_new w lab b m A c ws qs _ _ am fl n h hno hl B bc x hy hyk hyc (by omega)).mono ?_
  rintro e w' ⟨rfl, A', c', A1, c1, lab', k1, k2⟩
  refine ⟨rfl, lab', FAt.of (S := S.put (S.found n) x) k1 ?_ h1 h2 rfl rfl, k2⟩
  rw [hfo]
  exact hc.put_new hf x
 | some f =>
  have hfo : S.found n = f := by unfold FS.found; rw [hf]; rfl
  obtain ⟨q, qs', hp, hc', rfl, hqx, hqs⟩ := hc.split hr hf
  rw [hfo, ← hqx] at hx
  refine (put_has w lab b m A c ws qs' _ _ am fl q (h.perm hp) hl B bc x hy hyc (by omega)).mono ?_
  rintro e w' ⟨rfl, A', c', A1, c1, lab', k1, k2⟩
  refine ⟨rfl, lab', FAt.of (S := S.put (S.found q.n) x) k1 ?_ h1 h2 rfl rfl, k2⟩
  rw [hfo]
  have := hc'.put hr (f := f) hf x
  rw [List.length_append]
  exact this
section
variable (w : World) (lab : Lab) (b : Nat) (S : FS) (h : FAt w lab b S) (hS : S.Fit)
include h hS
set_option maxHeartbeats 2000000 in
theorem fwrite_at (n : ByteArray) (B : Option Addr) (bc : Nat) (x : List UInt8) (hy : Byt w B x) (hyk : 0 < x.length → ∀ a, B = some a → lab a.block = none) (hyc : B = none → bc = 0) (hl : x.length ≤ 1000000) :
  Calls Tryz.prog 37 #[fp b, .string n, .slice B x.length bc] w fun e w' => e = .returned (.int .i64 (S.write n x).2) ∧ ∃ lab', FAt w' lab' b (S.write n x).1 ∧ LabTo w lab w' lab' := by
 have HL := hid (h.amiss hS n x.length hl)
 by_cases hno : S.down = true ∨ amissF S n x.length ≠ 0
 ·have hres : S.write n x = (S, if S.down then 100 else amissF S n x.length) := by
   cases hd : S.down with
   | true => unfold FS.write; rw [hd, if_pos rfl]; rfl
   | false =>
    rw [hd] at hno
    rw [if_neg (by simp)]
    exact write_no hd (hno.resolve_left (by simp))
  have HN := hid (h.noop (amissF S n x.length) hno)
  rw [hres]
  have HR := hid h
  clear h hS hres hno hy hyk hyc hl
  generalize amissF S n x.length = e0 at *
  generalize (if S.down = true then (100 : Int) else e0) = e1 at *
  generalize x.length = xl at *
  go_enter Tryz.func37, Tryz.ntmps37
  go_wp2_with fail
  refine HL.out.mono ?_
  rintro e w1 ⟨rfl, rfl⟩
  go_wp2_with fail
  refine HN.out.mono ?_
  rintro e w1 ⟨rfl, rfl⟩
  go_wp2_with fail
  go_ret
  exact ⟨rfl, lab, HR.out, LabTo.refl _ _⟩
 ·have hd0 : S.down = false := by cases hd : S.down with
   | true => exact absurd (.inl hd) hno
   | false => rfl
  have ha0 : amissF S n x.length = 0 := Classical.byContradiction fun e => hno (.inr e)
  have hres := write_yes hd0 ha0
  rw [ha0] at HL
  obtain ⟨m, A, c, ws, qs, am, fl, h1, h2, h3, h4, h5, h6, h7, h8⟩ := h
  have hfu : FuseIs am S.fuse := ⟨h3, h5, h6⟩
  have hfl : FuseIs fl S.fault := ⟨h4, h7, h8⟩
  have HBG := hid (h1.op hS hd0 hfu)
  have HLB := hid h1.lb
  have HF := hid (And.intro hfu.burn hfl.burn)
  have HFL := hid hfl
  have HC := hid h2
  have HS := hid hS
  have HWL : Hid (ws.length ≤ 1000000000) := hid (by rw [h2.pend hS.ok.ris]; exact hS.pend)
  have HY := hid hy
  have HYK := hid hyk
  have HYC := hid hyc
  have hcd : S.burn.count.down = S.count.down := rfl
  rw [hcd] at hres
  rw [hres]
  clear hno hd0 ha0 hres h1 h2 h3 h4 h5 h6 h7 h8 hfu hfl hS hy hyk hyc hcd
  by_cases hz : S.fault = 0
  ·rw [if_pos hz]
   have HZ : Hid (decide (S.fault = 0) = true) := hid (decide_eq_true hz)
   clear hz
   cases hcd : S.count.down
   all_goals
    rw [hcd] at HBG
    have HD := hid hcd
    clear hcd
    try rw [if_pos rfl]
    try rw [if_neg (by simp)]
    go_enter Tryz.func37, Tryz.ntmps37
    go_wp2_with fail
    refine HL.out.mono ?_
    rintro e w1 ⟨rfl, rfl⟩
    go_wp2_with fail
    refine HBG.out.mono ?_
    rintro e w1 ⟨rfl, k1, k2⟩
    have HDU := k1.due HFL.out
    rw [HZ.out] at HDU
    have HDU := hid HDU
    have HK2 := hid k2
    clear k1 k2 HBG
    go_wp2_with fail
    refine HDU.out.mono ?_
    rintro e w2 ⟨rfl, k1, k2⟩
    have HR : Hid (FAt w2 lab b S.burn.count ∧ LabTo w lab w2 lab) := hid ⟨FAt.of (S := S.burn.count) k1 HC.out HF.out.1 HF.out.2 rfl HD.out.symm, LabTo.of_only (HK2.out.trans k2 fun _ e => .inl e) fun k (e : k = b) => .inl ⟨0, by rw [e]; exact HLB.out⟩⟩
    clear k1 k2 HDU HK2
    go_wp2_with fail
    go_ret
    exact ⟨rfl, lab, HR.out⟩
  ·rw [if_neg hz]
   have HZ : Hid (decide (S.fault = 0) = false) := hid (decide_eq_false hz)
   have HP : Hid (∀ w2, FH w2 lab b m A c ws qs (S.burn.count.ops : Int) S.burn.count.down (burnA am) (burnA fl) → Only (fun k => k = b) w w2 → Calls Tryz.prog 79 #[.pointer (some ⟨b, 0, none⟩), .string n, .slice B x.length bc] w2 fun e w' => e = .returned (.tuple #[]) ∧ ∃ lab', FAt w' lab' b (S.burn.count.put (S.found n) x) ∧ LabTo w2 lab w' lab') := hid (fun w2 k1 k2 =>
    put_calls10 w2 lab b m A c ws qs _ _ S.burn.count k1 HC.out HS.out.ok.ris HF.out.1 HF.out.2 HWL.out n B bc x (byt_only HY.out k2 (fun hn a ha (e : a.block = b) => by have := HYK.out hn a ha; rw [e, HLB.out] at this; cases this)) HYK.out HYC.out (by
     have hfo : S.burn.count.found n = S.found n := rfl
     rw [hfo]
     have h65 : (S.found n).all.length ≤ 65536 := by
      rcases HS.out.ok.found n with ⟨_, hm, _⟩ | ⟨_, e⟩
      ·exact HS.out.ok.siz _ hm
      ·rw [e]; exact Nat.zero_le _
     omega))
   clear hz HY HYK HYC HC HF
   cases hcd : S.count.down
   all_goals
    have hcd2 : S.burn.count.down = S.count.down := rfl
    rw [hcd2, hcd] at HP
    rw [hcd] at HBG
    clear hcd2 hcd
    try rw [if_pos rfl]
    try rw [if_neg (by simp)]
    go_enter Tryz.func37, Tryz.ntmps37
    go_wp2_with fail
    refine HL.out.mono ?_
    rintro e w1 ⟨rfl, rfl⟩
    go_wp2_with fail
    refine HBG.out.mono ?_
    rintro e w1 ⟨rfl, k1, k2⟩
    have HDU := k1.due HFL.out
    rw [HZ.out] at HDU
    have HDU := hid HDU
    have HK2 := hid k2
    clear k1 k2 HBG
    go_wp2_with fail
    refine HDU.out.mono ?_
    rintro e w2 ⟨rfl, k1, k2⟩
    have hall := HK2.out.trans k2 fun _ e => .inl e
    have HPU := hid (HP.out w2 k1 hall)
    have HAL := hid hall
    clear k1 k2 HDU HK2 HP hall
    go_wp2_with fail
    refine HPU.out.mono ?_
    rintro e w3 ⟨rfl, lab', k1, k2⟩
    have HR : Hid (FAt w3 lab' b (S.burn.count.put (S.found n) x) ∧ LabTo w lab w3 lab') := hid ⟨k1, LabTo.trans (LabTo.of_only HAL.out fun k (e : k = b) => .inl ⟨0, by rw [e]; exact HLB.out⟩) k2⟩
    clear k1 k2 HPU HAL
    go_wp2_with fail
    go_ret
    exact ⟨rfl, lab', HR.out⟩
end
end
end Go.Proofs.YteafcaambnfdoaaGreatDoor
