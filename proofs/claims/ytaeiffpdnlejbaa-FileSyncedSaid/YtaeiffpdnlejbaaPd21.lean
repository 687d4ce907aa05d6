/-
  Layer 7 and what it stands on, part 21 (FileCopy).
-/
import Derived.Test.YtaeiffpdnlejbaaPd13
import Derived.Test.YtaeiffpdnlejbaaPd18
import Derived.LoopTactic
namespace Go.Proofs.Ytaeiffpdnlejbaa
section
open Go Go.RowKit
set_option maxRecDepth 100000
/-- Files that lie at the same boxes are the same. -/
theorem same_g : ∀ (l l' : List QF), l.map (fun q => (q.n, q.g)) = l'.map (fun q => (q.n, q.g)) → (∀ p ∈ l, ∀ q ∈ l', p.g = q.g → p = q) → l = l'
  | [], [], _, _ => rfl
  | [], _ :: _, h, _ => by cases h
  | _ :: _, [], h, _ => by cases h
  | p :: l, q :: l', h, hi => by
    rw [List.map_cons, List.map_cons] at h
    injection h with h1 h2
    injection h1 with h3 h4
    rw [hi p List.mem_cons_self q List.mem_cons_self h4, same_g l l' h2 fun a ha b hb => hi a (List.mem_cons_of_mem _ ha) b (List.mem_cons_of_mem _ hb)]
theorem inj_g {qs : List QF} (hd : (qs.map QF.g).Nodup) : ∀ p ∈ qs, ∀ q ∈ qs, p.g = q.g → p = q := by
  induction qs with
  | nil => intro p hp; cases hp
  | cons a qs ih =>
    obtain ⟨k1, k2⟩ := List.nodup_cons.1 hd
    intro p hp q hq e
    rcases List.mem_cons.1 hp with rfl | hp'
    · rcases List.mem_cons.1 hq with rfl | hq'
      · rfl
      · exact absurd (by rw [e]; exact List.mem_map_of_mem hq') k1
    · rcases List.mem_cons.1 hq with rfl | hq'
      · exact absurd (by rw [← e]; exact List.mem_map_of_mem hp') k1
      · exact ih k2 p hp' q hq' e
/-- What is left to come of the files, and what has been copied. -/
structure CopSt (qs done qk : List QF) (ps todo : List (ByteArray × Nat)) : Prop where
  perm : (todo ++ done.map fun q => (q.n, q.g)).Perm ps
  mem : ∀ q ∈ done, q ∈ qs
  cf : qk.map QF.cf = done.map QF.cf
theorem CopSt.fin {qs done qk : List QF} {ps : List (ByteArray × Nat)} (h : CopSt qs done qk ps []) (hp : ps.Perm (qs.map fun q => (q.n, q.g))) (hd : (qs.map QF.g).Nodup) : (qk.map QF.cf).Perm (qs.map QF.cf) := by
  have h1 := h.perm.trans hp
  rw [List.nil_append] at h1
  obtain ⟨l', h2, h3⟩ := perm_of_map (fun q : QF => (q.n, q.g)) h1 done rfl
  have h4 : qs = l' := same_g _ _ h3 fun p hp q hq e => inj_g hd p hp q (h.mem q (h2.mem_iff.2 hq)) e
  rw [h.cf, h4]
  exact h2.map _
set_option maxHeartbeats 8000000 in
theorem fcopy_at (w : World) (lab : Lab) (b : Nat) (S : FS) (h : FAt w lab b S) (hS : S.Fit) :
    Calls Try.prog 21 #[fp b] w fun e w' => ∃ b', e = .returned (fp b') ∧ (∃ lab', FAt w' lab' b' S ∧ ∀ k r, lab' k = some r → w.heap.size ≤ k) ∧ Below w.heap.size w w' := by
  obtain ⟨m, A, c, ws, qs, am, fl, h1, h2, h3, h4, h5, h6, h7, h8⟩ := h
  have hfu : FuseIs am S.fuse := ⟨h3, h5, h6⟩
  have hfl : FuseIs fl S.fault := ⟨h4, h7, h8⟩
  have hwl : ws.length ≤ 1000000000 := by rw [h2.pend hS.ok.ris]; exact hS.pend
  have hxl : ∀ q ∈ qs, q.x.length ≤ 65536 := fun q hq => by
    obtain ⟨f, hf, he⟩ := h2.found hS.ok.ris (List.mem_map_of_mem (f := QF.cf) hq)
    have h9 := hS.ok.siz f ((findF_some hS.ok.ris).1 hf).1
    have h10 : f.all = q.x := congrArg CF.x he
    rw [← h10]
    exact h9
  have hmm := @run_makeMap Try.prog
  have hmf : ∀ (fn : Fn) (first cap : Array Value) (w : World), (Instr.makeFunc fn first cap).run Try.prog w = .ok (.func fn first cap) w := fun _ _ _ _ => rfl
  have c0 := h1.box.c 0 rfl
  have c1 := h1.box.c 1 rfl
  have c2 := h1.box.c 2 rfl
  have c3 := h1.box.c 3 rfl
  have c4 := h1.box.c 4 rfl
  have c5 := h1.box.c 5 rfl
  have hx := BxA.new w 67 (fbx m A ws.length c (S.ops : Int) S.down am fl)
  have hs1 : (w.alloc (.cells (fbx m A ws.length c (S.ops : Int) S.down am fl).toArray 67)).heap.size = w.heap.size + 1 := World.size_alloc _ _
  have hx2 := hx.alloc (.map #[] 0)
  have hm2 := MapAt.new (V := bodV) (w.alloc (.cells (fbx m A ws.length c (S.ops : Int) S.down am fl).toArray 67))
  rw [hs1] at hm2
  have f0 := hx2.free 0
  have g0 := hx2.c 0 rfl
  have hx3 := hx2.set 0 (.map (some (w.heap.size + 1)))
  have hst := only_set ((w.alloc (.cells (fbx m A ws.length c (S.ops : Int) S.down am fl).toArray 67)).alloc (.map #[] 0)) ⟨w.heap.size, 0, none⟩ (.map (some (w.heap.size + 1)))
  have hm3 := hm2.keep hst (fun (e : w.heap.size + 1 = w.heap.size) => by omega)
  have hs2 : ((w.alloc (.cells (fbx m A ws.length c (S.ops : Int) S.down am fl).toArray 67)).alloc (.map #[] 0)).heap.size = w.heap.size + 2 := by rw [World.size_alloc, hs1]
  have hb2 : Below w.heap.size w ((w.alloc (.cells (fbx m A ws.length c (S.ops : Int) S.down am fl).toArray 67)).alloc (.map #[] 0)) := ((Below.refl _ w).alloc (Nat.le_refl _) _).alloc (by rw [hs1]; omega) _
  have hb3 : Below w.heap.size w (((w.alloc (.cells (fbx m A ws.length c (S.ops : Int) S.down am fl).toArray 67)).alloc (.map #[] 0)).setCell ⟨w.heap.size, 0, none⟩ (.map (some (w.heap.size + 1)))) :=
    hb2.trans (hst.below (by rw [hs2]; omega) (fun i (e : i = w.heap.size) => by omega))
  unfold fbx at hx hx2 hm2 f0 g0 hx3 hst hm3 hs2 hb2 hb3
  obtain ⟨W, hW⟩ : ∃ W, ((w.alloc (.cells #[.map (some m), .slice A ws.length c, .int .i64 (S.ops : Int), .bool S.down, .int .i64 am, .int .i64 fl] 67)).alloc (.map #[] 0)).setCell ⟨w.heap.size, 0, none⟩ (.map (some (w.heap.size + 1))) = W := ⟨_, rfl⟩
  have hW' : (((w.alloc (.cells [(.map (some m) : Value), .slice A ws.length c, .int .i64 (S.ops : Int), .bool S.down, .int .i64 am, .int .i64 fl].toArray 67)).alloc (.map #[] 0)).setCell ⟨w.heap.size, 0, none⟩ (.map (some (w.heap.size + 1)))) = W := hW
  rw [hW'] at hx3 hm3 hb3
  have hWs : W.heap.size = w.heap.size + 2 := by
    rw [← hW']
    simp [World.setCell]
  have hxW : BxA W w.heap.size 67 (.map (some (w.heap.size + 1)) :: [.slice A ws.length c, .int .i64 (S.ops : Int), .bool S.down, .int .i64 am, .int .i64 fl]) := hx3
  have hfm : FM W (fun k => if k = w.heap.size + 1 then some 1 else if k = w.heap.size then some 0 else none) (w.heap.size + 1) none 0 [] [] :=
    ⟨fun k r hk => (by
      split at hk
      · omega
      · split at hk
        · omega
        · cases hk), by simp, ⟨[], hm3, .refl _⟩, World.ownsRow_nil _ _ _ _, fun k hk => (by cases hk), fun q hq => (by cases hq), List.nodup_nil, List.nodup_nil⟩
  have H := Lib.hid h1
  have HC := Lib.hid h2
  have HFU := Lib.hid (And.intro hfu hfl)
  have HXL := Lib.hid hxl
  have HXW := Lib.hid hxW
  have HBW := Lib.hid hb3
  have HFM := Lib.hid hfm
  have HWS := Lib.hid hWs
  obtain ⟨ps, hma, hps⟩ := (h1.fm.below hb3).map
  have HPS := Lib.hid hps
  have HND := Lib.hid h1.fm.dif
  have HNM := Lib.hid h1.fm.nms
  have d0 : W.cell? ⟨b, 0, none⟩ = some (.map (some m)) := (h1.box.below hb3).c 0 rfl
  clear h1 h2 h3 h4 h5 h6 h7 h8 hS hfu hfl hxl hx hx2 hx3 hm2 hm3 hst hs1 hs2 hb2 hb3 hxW hfm hps hW' hWs
  go_enter Try.func21, Try.ntmps21
  go_wp2_with (first
    | (at_range; refine wpList_rangeP _ rfl _ 64 rfl 9 74 Try.underlying64 m ps rfl hma ?_; intro w0 hrg0 hb0 hs0)
    | fail)
  clear hW hma d0 c0 c1 c2 c3 c4 c5 f0 g0 hmm
  go_frame
  go_loopw [5, 6] (fun _ _ wr => ∃ (todo : List (ByteArray × Nat)) (done qk : List QF) (labk : Lab), RangeAt bodV wr m W.heap.size ps todo ∧ Hid (CopSt qs done qk ps todo) ∧ Hid (FM wr labk (w.heap.size + 1) none 0 [] qk) ∧ Hid (BxA wr w.heap.size 67 (.map (some (w.heap.size + 1)) :: [.slice A ws.length c, .int .i64 (S.ops : Int), .bool S.down, .int .i64 am, .int .i64 fl])) ∧
    Hid (Below w.heap.size w wr) ∧ Hid (labk w.heap.size = some 0 ∧ labk W.heap.size = none ∧ W.heap.size + 1 ≤ wr.heap.size ∧ ∀ k r, labk k = some r → w.heap.size ≤ k)) (fun _ _ wr => wr.rangeLeft m W.heap.size)
  case atStart =>
    have hws := HWS.out
    exact ⟨ps, [], [], _, hrg0, Lib.hid ⟨by simp, fun q hq => (by cases hq), rfl⟩, Lib.hid (HFM.out.below hb0), Lib.hid (HXW.out.below hb0), Lib.hid (HBW.out.trans (hb0.mono HBW.out.size)), Lib.hid ⟨by simp, by rw [if_neg (by omega), if_neg (by omega)], by omega, fun k r hk => (by
      split at hk
      · omega
      · split at hk
        · omega
        · cases hk)⟩⟩
  case round =>
    obtain ⟨todo, done, qk, labk, hrg, hst, hfm, hbx, hbl, hlb⟩ := hrel
    have hml := H.out.fm.lt m 1 H.out.fm.lm
    have hws := HWS.out
    have HML := Lib.hid hml
    clear hrg0 hb0 hs0 hml hws
    go_wp2_with (first
      | (at_next; refine wpList_nextP _ rfl _ rfl m W.heap.size ps todo rfl hrg ?_ ?_)
      | fail)
    · intro htodo
      subst htodo
      have hcl := Lib.hid (clone_w10 wr A c ws (H.out.fm.below hbl.out).row hwl)
      have c1 := (H.out.box.below hbl.out).c 1 rfl
      have HP := Lib.hid (HC.out.perm (hst.out.fin HPS.out HND.out).symm)
      clear hrg hst
      go_wp2_with fail
      refine hcl.out.mono ?_
      rintro e w5 ⟨A', c', rfl, hown, hb5⟩
      have hx5 := hbx.out.below hb5
      have f1 := hx5.free 1
      have d1 := hx5.c 1 rfl
      have ho5 := only_set w5 ⟨w.heap.size, 1, none⟩ (.slice A' ws.length c')
      have hB : w.heap.size < wr.heap.size := hbx.out.lt
      have hnb : ∀ k, (Value.slice A' ws.length c').ownBlock = some k → wr.heap.size ≤ k := fun k hk => (hown.lt k hk).1
      have hext : ∀ k r, labk k = some r → labW labk (.slice A' ws.length c') 2 k = some r := fun k r hk => by
        unfold labW
        rw [if_neg (fun e => by have := hnb k e; have := hfm.out.lt k r hk; omega)]
        exact hk
      have hlt : ∀ k r, labW labk (.slice A' ws.length c') 2 k = some r → k < w5.heap.size := labW_lt hfm.out.lt hb5.size hown
      have hfm5 : FM w5 (labW labk (.slice A' ws.length c') 2) (w.heap.size + 1) A' c' ws qk := (hfm.out.below hb5).rowTo (R := fun _ => False) (Only.refl _ w5) (fun _ h => h.elim) hext hlt (own_less hown (Nat.zero_le _)) (fun k hk => by unfold labW; rw [if_pos hk])
      have hlb' := hext _ _ hlb.out.1
      have HR : Hid ((∃ lab', FAt (w5.setCell ⟨w.heap.size, 1, none⟩ (.slice A' ws.length c')) lab' w.heap.size S ∧ ∀ k r, lab' k = some r → w.heap.size ≤ k) ∧ Below w.heap.size w (w5.setCell ⟨w.heap.size, 1, none⟩ (.slice A' ws.length c'))) := Lib.hid
        ⟨⟨_, FAt.of (S := S) ⟨hx5.set 1 _, hlb', hfm5.keep ho5 fun k r (e : k = w.heap.size) hk => by rw [e, hlb'] at hk; injection hk with hk; exact hk.symm⟩ HP.out HFU.out.1 HFU.out.2 rfl rfl, fun k r hk => by
          unfold labW at hk
          split at hk
          · rename_i e; have := hnb k e; omega
          · exact hlb.out.2.2.2 k r hk⟩,
        (hbl.out.trans (hb5.mono hbl.out.size)).trans (ho5.below (by have := hb5.size; omega) (fun i (e : i = w.heap.size) => by omega))⟩
      clear hown hb5 hx5 ho5 hnb hext hlt hfm5 hlb' hcl hbx hfm hbl hlb hB
      go_wp2_with fail
      go_ret
      exact ⟨_, rfl, HR.out⟩
    · intro l x y d w9 htd hrg9 ho9 hs9 hen
      subst htd
      have hmem : (x, y) ∈ ps := hst.out.perm.mem_iff.1 (by simp)
      obtain ⟨q, hq, hqe⟩ := List.mem_map.1 (HPS.out.mem_iff.1 hmem)
      injection hqe with hqx hqy
      subst hqx; subst hqy
      have hb9 : Below w.heap.size w w9 := hbl.out.trans (ho9.below (Nat.le_trans hbl.out.size (Nat.le_refl _)) (fun i (e : i = W.heap.size) => by have := HWS.out; omega))
      have hbq := (H.out.fm.below hb9).bod q hq
      have y0 := hbq.box.c 0 rfl
      have y1 := hbq.box.c 1 rfl
      have ho := hbq.own
      unfold QF.v at y0 ho
      obtain ⟨hby, _, _, _⟩ := byt_of_own ho
      have hnone : q.A = none → q.c = 0 := fun e => by
        rcases ho.2 with ⟨hv, _⟩ | ⟨g, cap, cur, hv, _⟩
        · injection hv
        · rw [e] at hv; cases hv
      have hlr : ∀ k r, k = W.heap.size → labk k = some r → r = 0 := fun k r e hk => by rw [e, hlb.out.2.1] at hk; cases hk
      have hfm9 := hfm.out.keep ho9 hlr
      have hbx9 := hbx.out.keep ho9 (fun (e : w.heap.size = W.heap.size) => by have := HWS.out; omega)
      have hnd : ((l ++ (q.n, q.g) :: d ++ done.map fun q => (q.n, q.g)).map Prod.fst).Nodup := ((hst.out.perm.map Prod.fst).nodup_iff).2 (by
        have h3 := HPS.out.map Prod.fst
        rw [List.map_map] at h3
        exact (h3.nodup_iff).2 HNM.out)
      have hnn : ∀ p ∈ qk, p.n ≠ q.n := fun p hp e => by
        have h4 : p.cf ∈ done.map QF.cf := by rw [← hst.out.cf]; exact List.mem_map_of_mem hp
        obtain ⟨r, hr, hre⟩ := List.mem_map.1 h4
        have h5 : r.n = q.n := by have := congrArg CF.n hre; exact this.trans e
        have h6 := (List.Perm.map Prod.fst ((List.perm_middle (a := (q.n, q.g)) (l₁ := l) (l₂ := d ++ done.map fun q => (q.n, q.g))))).nodup_iff.1 (by rw [List.append_assoc] at hnd; exact hnd)
        refine (List.nodup_cons.1 h6).1 ?_
        show q.n ∈ _
        rw [← h5]
        exact List.mem_map.2 ⟨(r.n, r.g), List.mem_append_right _ (List.mem_append_right _ (List.mem_map_of_mem (f := fun q : QF => (q.n, q.g)) hr)), rfl⟩
      have HCP := Lib.hid (copy1_calls w9 labk w.heap.size (w.heap.size + 1) qk _ q.n q.A q.c q.x q.s hfm9 hbx9 hby hnone (by have := HXL.out q hq; omega) hnn)
      have HRG := Lib.hid hrg9
      have HST : Hid (∀ A' c' g', CopSt qs (q :: done) (⟨q.n, q.x, q.s, g', A', c'⟩ :: qk) ps (l ++ d)) := Lib.hid (fun A' c' g' => ⟨by
          refine List.Perm.trans ?_ hst.out.perm
          rw [List.map_cons, List.append_assoc, List.append_assoc, List.cons_append]
          refine List.Perm.append_left l ?_
          exact List.perm_middle, fun p hp => by
          rcases List.mem_cons.1 hp with rfl | hp
          · exact hq
          · exact hst.out.mem p hp, by rw [List.map_cons, List.map_cons, hst.out.cf]; rfl⟩)
      have Hml : Hid ((l ++ d).length < wr.rangeLeft m W.heap.size) := Lib.hid (by rw [hrg.left]; simp)
      have HB9 := Lib.hid hb9
      have HX9 := Lib.hid hbx9
      have HSZ9 : Hid (W.heap.size + 1 ≤ w9.heap.size) := Lib.hid (by rw [hs9]; exact hlb.out.2.2.1)
      unfold bodV at hen ⊢
      clear hbq ho hby hnone hlr hfm9 hbx9 hnd hnn hrg hrg9 ho9 hs9 hst hfm hbx hbl hb9 hmem
      go_wp2_with fail
      refine HCP.out.mono ?_
      rintro e w10 ⟨rfl, A', c', lab', k1, k2, k3, k4⟩
      have hws := HWS.out
      have hml := HML.out
      have hrgz := HRG.out.keep k2 (fun (e : m = w.heap.size + 1) => by omega) (fun (e : W.heap.size = w.heap.size + 1) => by omega)
      have HNX : Hid (RangeAt bodV w10 m W.heap.size ps (l ++ d) ∧ Hid (CopSt qs (q :: done) (⟨q.n, q.x, q.s, w9.heap.size, A', c'⟩ :: qk) ps (l ++ d)) ∧ Hid (FM w10 lab' (w.heap.size + 1) none 0 [] (⟨q.n, q.x, q.s, w9.heap.size, A', c'⟩ :: qk)) ∧ Hid (BxA w10 w.heap.size 67 (.map (some (w.heap.size + 1)) :: [.slice A ws.length c, .int .i64 (S.ops : Int), .bool S.down, .int .i64 am, .int .i64 fl])) ∧
        Hid (Below w.heap.size w w10) ∧ Hid (lab' w.heap.size = some 0 ∧ lab' W.heap.size = none ∧ W.heap.size + 1 ≤ w10.heap.size ∧ ∀ k r, lab' k = some r → w.heap.size ≤ k)) := Lib.hid
        ⟨hrgz, Lib.hid (HST.out A' c' _), Lib.hid k1, Lib.hid (HX9.out.keep k2 (fun (e : w.heap.size = w.heap.size + 1) => by omega)), Lib.hid (HB9.out.trans (k2.below HB9.out.size (fun i (e : i = w.heap.size + 1) => by omega))), Lib.hid ⟨k4 _ _ hlb.out.1, by
          cases hl : lab' W.heap.size with
          | none => rfl
          | some r =>
            rcases k3 _ r hl with e | e
            · rw [hlb.out.2.1] at e; cases e
            · have := HSZ9.out; omega, Nat.le_trans HSZ9.out k2.size, fun k r hk => by
          rcases k3 k r hk with e | e
          · exact hlb.out.2.2.2 k r e
          · have := HB9.out.size; omega⟩⟩
      have Hml2 : Hid (w10.rangeLeft m W.heap.size < wr.rangeLeft m W.heap.size) := Lib.hid (by rw [hrgz.left]; exact Hml.out)
      clear k1 k2 k3 k4 hrgz HCP HRG HST Hml hws hml HB9 HX9 HSZ9 hlb
      go_wp2_with fail
      go_roundw
      case rel => exact ⟨_, _, _, _, HNX.out.1, HNX.out.2.1, HNX.out.2.2.1, HNX.out.2.2.2.1, HNX.out.2.2.2.2.1, HNX.out.2.2.2.2.2⟩
      case measure => exact Hml2.out
end
end Go.Proofs.Ytaeiffpdnlejbaa
