/-
  The document's keys: where the end of a paste begins.
  The document's keys: what a sequence makes.
  The document's keys: what a paste makes, and bytes from 1b on.
-/
import Derived.Test.YtbkejjpkijjfaaaDoorKRefL
import Derived.Deep.RegionHeld3
namespace Go.Proofs.YtbkejjpkijjfaaaDoor
open Go Go.RowKit
set_option maxRecDepth 100000

def endV (r : Option Nat) : Value := match r with | none => .int .i64 (-1) | some a => .int .i64 (a : Int)
set_option maxHeartbeats 4000000 in
theorem rend_calls (g o c : Nat) (b : List UInt8) (w : World) (hb : Byt w (some ⟨g, o, none⟩) b) (hlc : b.length ≤ c) (hm : c ≤ maxLen) (h6 : 6 ≤ b.length) (hsz : b.length ≤ 1099511627776) :
    Calls Tryd.prog 64 #[.slice (some ⟨g, o, none⟩) b.length c, .int .i64 6] w fun e w' => e = .returned (endV (endL b 6)) ∧ Below w.heap.size w w' := by
  unfold maxLen at hm
  have Hb := Lib.hid hb
  have HE : Hid (endL b 6 = endF (b.length + 1) b 6) := Lib.hid rfl
  clear hb
  generalize hr : endL b 6 = r at *
  clear hr
  go_enter Tryd.func64, Tryd.ntmps64
  go_wp2_with fail
  go_loopw [5] (fun v5 wr => ∃ k f : Nat, v5 = .int .i64 (k : Int) ∧ k ≤ b.length ∧ r = endF f b k ∧ b.length + 1 ≤ k + f ∧ Below w.heap.size w wr) (fun v5 _ => b.length - (intOf v5).toNat)
  case atStart => exact ⟨6, b.length + 1, rfl, h6, HE.out, by omega, Below.refl _ _⟩
  case round =>
    obtain ⟨k, f, rfl, hkl, hrf, hf, hbel⟩ := hrel
    obtain ⟨m, hmk⟩ : ∃ m, m = k + 6 := ⟨_, rfl⟩
    have hsum : (k : Int) + 6 = (m : Int) := by omega
    have hwr : IntKind.i64.wrap ((k : Int) + 6) = (m : Int) := by rw [hsum]; exact IntWalk.i64_in _ (by omega)
    by_cases hlt : m ≤ b.length
    · obtain ⟨f, rfl⟩ : ∃ f', f = f' + 1 := ⟨f - 1, by omega⟩
      have hda : dropA (some ⟨g, o, none⟩) c k = some ⟨g, o + k, none⟩ := by unfold dropA; rw [if_neg (by omega)]; simp [Addr.add]
      have hmid := run_mid (some ⟨g, o, none⟩) b.length c k m (by omega) (by omega)
      rw [show m - k = 6 by omega, hda] at hmid
      have hcv : ∀ W : World, Below w.heap.size w W → (convert 27 9 (.slice (some ⟨g, o + k, none⟩) 6 (c - k))).run Tryd.prog W = .ok (.string (bs ((b.drop k).take 6))) W := fun W hW => by
        have h := (((Hb.out.below hW).drop c k hlc).take 6).convert (P := Tryd.prog) (c - k) 27 5 9 Tryd.underlying27 Tryd.underlying5 Tryd.underlying9 6 (by rw [List.length_take, List.length_drop]; omega)
        rw [hda] at h
        exact h
      have kl := (hbel.alloc hbel.size (.cells #[.int .u8 27, .int .u8 91, .int .u8 50, .int .u8 48, .int .u8 49, .int .u8 126] 5)).drew
      have hcv1 := hcv wr.drew hbel.drew
      have hcv2 := hcv _ kl
      have hlit : (convert 27 9 (.slice (some ⟨wr.heap.size, 0, none⟩) 6 6)).run Tryd.prog (wr.alloc (.cells #[.int .u8 27, .int .u8 91, .int .u8 50, .int .u8 48, .int .u8 49, .int .u8 126] 5)).drew = .ok (.string ⟨#[27, 91, 50, 48, 49, 126]⟩) (wr.alloc (.cells #[.int .u8 27, .int .u8 91, .int .u8 50, .int .u8 48, .int .u8 49, .int .u8 126] 5)).drew :=
        (byt_lit wr [27, 91, 50, 48, 49, 126]).drew.convert (P := Tryd.prog) 6 27 5 9 Tryd.underlying27 Tryd.underlying5 Tryd.underlying9 6 rfl
      have KL := Lib.hid kl
      have hrs : r = if (b.drop k).take 6 = pasteE then some k else endF f b (k + 1) := by rw [hrf]; simp only [endF]; rw [if_pos (by omega)]
      have hd1 : (0 : Int) ≤ (k : Int) := by omega
      have hd2 : (k : Int) ≤ (m : Int) := by omega
      have hd3 : (m : Int) ≤ (c : Int) := by omega
      by_cases he : (b.drop k).take 6 = pasteE
      · have heq : ((b.drop k).take 6 == [27, 91, 50, 48, 49, 126]) = true := beq_iff_eq.2 he
        rw [if_pos he] at hrs
        have Hr := Lib.hid hrs
        clear hcv hda kl he hrs hrf hmk hbel
        generalize (b.drop k).take 6 = v at *
        go_wp2_with fail
        go_region
        all_goals
          go_wp2_with fail
          go_ret
          exact ⟨by rw [Hr.out]; rfl, KL.out⟩
      · have heq : ((b.drop k).take 6 == [27, 91, 50, 48, 49, 126]) = false := beq_eq_false_iff_ne.2 he
        rw [if_neg he] at hrs
        have Hr := Lib.hid hrs
        have Hmk := Lib.hid hmk
        clear hcv hda kl he hrs hrf hmk hbel
        generalize (b.drop k).take 6 = v at *
        go_wp2_with fail
        go_region
        all_goals
          go_wp2_with fail
          go_roundw
          case rel => exact ⟨k + 1, f, by go_num, by have := Hmk.out; omega, Hr.out, by omega, KL.out⟩
          case measure => have := Hmk.out; simp [intOf]; omega
    · have hr0 : r = none := by
        rw [hrf]
        cases f with
        | zero => rfl
        | succ f => simp only [endF]; rw [if_neg (by omega)]
      have Hr := Lib.hid hr0
      have K0 := Lib.hid hbel
      clear hr0 hrf hmk hbel
      go_wp2
      go_ret
      exact ⟨by rw [Hr.out]; rfl, K0.out⟩

/-- A key, and how many bytes it is, as values. -/
def oneV (r : KV × Nat) : Value := .tuple #[.agg #[.int .i64 (r.1.1 : Int), .string (bs r.1.2)], .int .i64 (r.2 : Int)]
set_option maxHeartbeats 8000000 in
theorem rcsi_np (A : Option Addr) (c : Nat) (b : List UInt8) (w : World) (hb : Byt w A b) (h2 : 2 ≤ b.length) (hs : b.length ≤ 1099511627776) (hlc : b.length ≤ c) (hm : c ≤ maxLen) (hnp : b.take 6 ≠ pasteB) :
    Calls Tryd.prog 50 #[.slice A b.length c] w fun e w' => e = .returned (oneV (((csiL b).1, []), (csiL b).2)) ∧ Below w.heap.size w w' := by
  have hb0 := Bx.new w 52 (.int .i64 0) (.string ⟨#[]⟩)
  have k0 : Below w.heap.size w (w.alloc (.cells #[.int .i64 0, .string ⟨#[]⟩] 52)) := (Below.refl _ w).alloc (Nat.le_refl _) _
  have HP := Lib.hid (rpaste_calls A c b _ (hb.below k0) hlc hm)
  rw [decide_eq_false hnp] at HP
  have Hcsi : Hid (csiL b = if csiN b = b.length then (0, 0) else if lastB (b.getD (csiN b) 0).toNat = false then (0, csiN b) else (seqL ((b.take (csiN b)).drop 2) (b.getD (csiN b) 0).toNat, csiN b + 1)) := Lib.hid (by
    unfold csiL
    by_cases e : csiN b = b.length
    · rw [if_pos (.inl e), if_pos e]
    · rw [if_neg (fun h => h.elim e (fun h => hnp (by
        have hl := congrArg List.length h
        rw [List.length_take, show pasteB.length = 6 from rfl] at hl
        have : b.take 6 = b.take (csiN b + 1) := by
          rcases Nat.lt_or_ge (csiN b + 1) b.length with h1 | h1
          · rw [show csiN b + 1 = 6 by omega]
          · rw [List.take_of_length_le (by omega), List.take_of_length_le h1]
        rw [this, h]))), if_neg e])
  unfold maxLen at hm
  have hn2 := csiN_ge b
  have hnl := csiN_le b h2
  have Hmid := Lib.hid (csi_mid b)
  have Hend := Lib.hid (csi_end b)
  generalize csiL b = r at *
  generalize csiN b = n at *
  obtain ⟨g, o, rfl, _, _⟩ := hb.at_ (by omega)
  have Hb := Lib.hid hb
  have B0 := Lib.hid hb0
  have K0 := Lib.hid k0
  clear hb hb0 k0 hnp
  go_enter Tryd.func50, Tryd.ntmps50
  go_wp2_with fail
  refine HP.out.mono ?_
  rintro e w1 ⟨rfl, hb1⟩
  have k1 := K0.out.trans (hb1.mono K0.out.size)
  have b1 := B0.out.below hb1
  obtain ⟨g', o', e', hg, hc⟩ := (Hb.out.below k1).at_ (by omega)
  obtain ⟨rfl, rfl⟩ : g = g' ∧ o = o' := by injection e' with e'; injection e' with h1 h2; exact ⟨h1, h2⟩
  have c0 := b1.c0
  have c1 := b1.c1
  have f0 := b1.f0
  have f1 := b1.f1
  have Hc := Lib.hid hc
  have K1 := Lib.hid k1
  have B1 := Lib.hid b1
  clear hc k1 b1 hb1 HP e'
  go_wp2_with fail
  go_loop [6] (fun v6 => ∃ k : Nat, 2 ≤ k ∧ k ≤ n ∧ v6 = .int .i64 (k : Int)) (fun v6 => b.length - (intOf v6).toNat)
  case atStart => exact ⟨2, by omega, by omega, rfl⟩
  case round =>
    obtain ⟨k, hk2, hkn, rfl⟩ := hrel
    by_cases hlt : k < b.length
    · have ck := Hc.out k hlt
      by_cases hk : k < n
      · have hx := Hmid.out k hk2 hk
        generalize (b.getD k 0) = xb at *
        have hx' : 32 ≤ xb.toNat ∧ xb.toNat ≤ 63 := of_decide_eq_true hx
        generalize xb.toNat = x at *
        have d1 : decide ((32 : Int) ≤ (x : Int)) = true := decide_eq_true (by omega)
        have d2 : decide ((x : Int) ≤ 63) = true := decide_eq_true (by omega)
        clear hx
        go_wp2
        go_round
        case rel => exact ⟨k + 1, by omega, by omega, by go_num⟩
        case measure => simp [intOf]; omega
      · obtain rfl : k = n := by omega
        have hx := Hend.out hlt
        have hkl : ((k : Int) == (b.length : Int)) = false := beq_eq_false_iff_ne.2 (by omega)
        have hkl2 : (k == b.length) = false := beq_eq_false_iff_ne.2 (by omega)
        have hcs := Hcsi.out
        rw [if_neg (by omega)] at hcs
        have hxl := (b.getD k 0).toNat_lt
        have hnm : ¬ (32 ≤ (b.getD k 0).toNat ∧ (b.getD k 0).toNat ≤ 63) := of_decide_eq_false hx
        clear hx
        cases hlb : lastB (b.getD k 0).toNat with
        | false =>
          rw [if_pos hlb] at hcs
          have Hr := Lib.hid hcs
          have hnl2 : ¬ (64 ≤ (b.getD k 0).toNat ∧ (b.getD k 0).toNat ≤ 126) := of_decide_eq_false hlb
          clear hlb hcs Hcsi
          generalize (b.getD k 0).toNat = x at *
          by_cases z1 : x < 32
          · have d1 : decide ((32 : Int) ≤ (x : Int)) = false := decide_eq_false (by omega)
            have d3 : decide ((x : Int) < 64) = true := decide_eq_true (by omega)
            go_wp2
            refine bodyPost_ret (results_bx2 rfl _ _ w.heap.size (.int .i64 0) (.string ⟨#[]⟩) 52 rfl (by first | exact B1.out | exact (B1.out.set0 _).set1 _) Tryd.underlying52 (sizeRKey _)) rfl ?_
            exact ⟨by rw [Hr.out]; rfl, by first | exact K1.out | exact (K1.out.setCell (p := ⟨w.heap.size, 0, none⟩) (Nat.le_refl _) _).setCell (p := ⟨w.heap.size, 1, none⟩) (Nat.le_refl _) _⟩
          · have d1 : decide ((32 : Int) ≤ (x : Int)) = true := decide_eq_true (by omega)
            have d2 : decide ((x : Int) ≤ 63) = false := decide_eq_false (by omega)
            have d3 : decide ((x : Int) < 64) = false := decide_eq_false (by omega)
            have d4 : decide ((126 : Int) < (x : Int)) = true := decide_eq_true (by omega)
            go_wp2
            refine bodyPost_ret (results_bx2 rfl _ _ w.heap.size (.int .i64 0) (.string ⟨#[]⟩) 52 rfl (by first | exact B1.out | exact (B1.out.set0 _).set1 _) Tryd.underlying52 (sizeRKey _)) rfl ?_
            exact ⟨by rw [Hr.out]; rfl, by first | exact K1.out | exact (K1.out.setCell (p := ⟨w.heap.size, 0, none⟩) (Nat.le_refl _) _).setCell (p := ⟨w.heap.size, 1, none⟩) (Nat.le_refl _) _⟩
        | true =>
          rw [if_neg (by rw [hlb]; simp)] at hcs
          have hla : 64 ≤ (b.getD k 0).toNat ∧ (b.getD k 0).toNat ≤ 126 := of_decide_eq_true hlb
          by_cases hk22 : k = 2
          · subst hk22
            have hz : (b.take 2).drop 2 = [] := by rw [List.drop_eq_nil_iff]; rw [List.length_take]; omega
            rw [hz, show seqL [] (b.getD 2 0).toNat = arrowL (b.getD 2 0).toNat from rfl] at hcs
            have Hr := Lib.hid hcs
            have HA := Lib.hid (rarrow_calls (b.getD 2 0).toNat w1)
            clear hcs Hcsi hlb hz hnm
            generalize arrowL (b.getD 2 0).toNat = ar at *
            generalize (b.getD 2 0).toNat = x at *
            have d1 : decide ((32 : Int) ≤ (x : Int)) = true := decide_eq_true (by omega)
            have d2 : decide ((x : Int) ≤ 63) = false := decide_eq_false (by omega)
            have d3 : decide ((x : Int) < 64) = false := decide_eq_false (by omega)
            have d4 : decide ((126 : Int) < (x : Int)) = false := decide_eq_false (by omega)
            go_wp2_with fail
            refine HA.out.mono ?_
            rintro e w2 ⟨rfl, rfl⟩
            go_wp2
            refine bodyPost_ret (results_bx2 rfl _ _ w.heap.size (.int .i64 (ar : Int)) (.string ⟨#[]⟩) 52 rfl (by first | exact B1.out | exact (B1.out.set0 _).set1 _ | exact B1.out.set0 _) Tryd.underlying52 (sizeRKey _)) rfl ?_
            exact ⟨by rw [Hr.out]; rfl, by first | exact K1.out | exact (K1.out.setCell (p := ⟨w.heap.size, 0, none⟩) (Nat.le_refl _) _).setCell (p := ⟨w.heap.size, 1, none⟩) (Nat.le_refl _) _⟩
          · have hne : (b.take k).drop 2 ≠ [] := by
              intro h
              have := congrArg List.length h
              rw [List.length_drop, List.length_take] at this
              simp at this
              omega
            have Hr := Lib.hid hcs
            have hkk : ((k : Int) == 2) = false := beq_eq_false_iff_ne.2 (by omega)
            have hda : dropA (some ⟨g, o, none⟩) c 2 = some ⟨g, o + 2, none⟩ := by unfold dropA; rw [if_neg (by omega)]; rfl
            have hcv2 := (((Hb.out.below K1.out).drew.drop c 2 hlc).take (k - 2)).convert (P := Tryd.prog) (c - 2) 27 5 9 Tryd.underlying27 Tryd.underlying5 Tryd.underlying9 (k - 2) (by rw [List.length_take, List.length_drop]; omega)
            rw [← List.drop_take, hda] at hcv2
            have HB := Lib.hid (rbetween_calls ((b.take k).drop 2) hne (b.getD k 0).toNat w1.drew)
            obtain ⟨m, hmk⟩ : ∃ m, m = k + 1 := ⟨_, rfl⟩
            have hsum : (k : Int) + 1 = (m : Int) := by omega
            have hwr : IntKind.i64.wrap ((k : Int) + 1) = (m : Int) := by rw [hsum]; exact IntWalk.i64_in _ (by omega)
            have Hmk := Lib.hid hmk
            clear hcs Hcsi hlb hne hnm hda hmk
            generalize seqL ((b.take k).drop 2) (b.getD k 0).toNat = sq at *
            generalize (b.take k).drop 2 = s at *
            generalize (b.getD k 0).toNat = x at *
            have d1 : decide ((32 : Int) ≤ (x : Int)) = true := decide_eq_true (by omega)
            have d2 : decide ((x : Int) ≤ 63) = false := decide_eq_false (by omega)
            have d3 : decide ((x : Int) < 64) = false := decide_eq_false (by omega)
            have d4 : decide ((126 : Int) < (x : Int)) = false := decide_eq_false (by omega)
            go_wp2_with fail
            go_region_with (go_at_call 65; refine HB.out.mono ?_; rintro e w' ⟨rfl, rfl⟩)
            all_goals
              go_wp2_with fail
              refine bodyPost_ret (results_bx2 rfl _ _ w.heap.size (.int .i64 (sq : Int)) (.string ⟨#[]⟩) 52 rfl (by first | exact B1.out | exact (B1.out.drew.set0 _).set1 _ | exact B1.out.set0 _) Tryd.underlying52 (sizeRKey _)) rfl ?_
              exact ⟨by rw [Hr.out, Hmk.out]; rfl, by first | exact K1.out | exact (K1.out.drew.setCell (p := ⟨w.heap.size, 0, none⟩) (Nat.le_refl _) _).setCell (p := ⟨w.heap.size, 1, none⟩) (Nat.le_refl _) _⟩
    · have hkl : ((k : Int) == (b.length : Int)) = true := beq_iff_eq.2 (by omega)
      have hkl2 : (k == b.length) = true := beq_iff_eq.2 (by omega)
      have Hr : Hid (r = (0, 0)) := Lib.hid (by rw [Hcsi.out, if_pos (by omega)])
      clear Hcsi
      go_wp2
      refine bodyPost_ret (results_bx2 rfl _ _ w.heap.size (.int .i64 0) (.string ⟨#[]⟩) 52 rfl (by first | exact B1.out | exact (B1.out.set0 _).set1 _) Tryd.underlying52 (sizeRKey _)) rfl ?_
      exact ⟨by rw [Hr.out]; rfl, by first | exact K1.out | exact (K1.out.setCell (p := ⟨w.heap.size, 0, none⟩) (Nat.le_refl _) _).setCell (p := ⟨w.heap.size, 1, none⟩) (Nat.le_refl _) _⟩

set_option maxHeartbeats 8000000 in
theorem rcsi_paste (A : Option Addr) (c : Nat) (b : List UInt8) (w : World) (hb : Byt w A b) (hs : b.length ≤ 1099511627776) (hlc : b.length ≤ c) (hm : c ≤ maxLen) (hp : b.take 6 = pasteB) :
    Calls Tryd.prog 50 #[.slice A b.length c] w fun e w' => e = .returned (oneV (oneR b)) ∧ Below w.heap.size w w' := by
  have h6 : 6 ≤ b.length := by
    have := congrArg List.length hp
    rw [List.length_take, show pasteB.length = 6 from rfl] at this
    omega
  have hb0 := Bx.new w 52 (.int .i64 0) (.string ⟨#[]⟩)
  have k0 : Below w.heap.size w (w.alloc (.cells #[.int .i64 0, .string ⟨#[]⟩] 52)) := (Below.refl _ w).alloc (Nat.le_refl _) _
  have HP := Lib.hid (rpaste_calls A c b _ (hb.below k0) hlc hm)
  rw [decide_eq_true hp] at HP
  have Hone : Hid (oneR b = match endL b 6 with | none => ((0, []), 0) | some a => ((26, plainL (((b.take a).drop 6).take 1200)), a + 6)) := Lib.hid (by unfold oneR; rw [if_pos hp]; cases endL b 6 <;> rfl)
  obtain ⟨g, o, rfl, _, _⟩ := hb.at_ (by omega)
  have Hb := Lib.hid hb
  have B0 := Lib.hid hb0
  have K0 := Lib.hid k0
  have HE := Lib.hid (fun (W : World) (hW : Below w.heap.size w W) => rend_calls g o c b W (hb.below hW) hlc hm h6 hs)
  have Hle := Lib.hid (fun a (h : endL b 6 = some a) => endF_le _ _ _ _ h)
  unfold maxLen at hm
  generalize oneR b = r at *
  clear hb hb0 k0 hp
  cases hE : endL b 6 with
  | none =>
    rw [hE] at HE Hone
    have Hr : Hid (r = ((0, []), 0)) := Lib.hid Hone.out
    clear hE Hle Hone
    generalize b.length = n at *
    go_enter Tryd.func50, Tryd.ntmps50
    go_wp2_with fail
    refine HP.out.mono ?_
    rintro e w1 ⟨rfl, hb1⟩
    have k1 := K0.out.trans (hb1.mono K0.out.size)
    have b1 := B0.out.below hb1
    go_wp2_with fail
    refine (HE.out w1 k1).mono ?_
    rintro e w2 ⟨rfl, hb2⟩
    have k2 := k1.trans (hb2.mono k1.size)
    have b2 := b1.below hb2
    have c0 := b2.c0
    have c1 := b2.c1
    have f0 := b2.f0
    have f1 := b2.f1
    have K2 := Lib.hid k2
    have B2 := Lib.hid b2
    clear hb1 hb2 k1 b1 k2 b2 HE HP
    simp only [endV]
    go_wp2
    refine bodyPost_ret (results_bx2 rfl _ _ w.heap.size (.int .i64 0) (.string ⟨#[]⟩) 52 rfl (by first | exact B2.out | exact (B2.out.set0 _).set1 _) Tryd.underlying52 (sizeRKey _)) rfl ?_
    exact ⟨by rw [Hr.out]; rfl, by first | exact K2.out | exact (K2.out.setCell (p := ⟨w.heap.size, 0, none⟩) (Nat.le_refl _) _).setCell (p := ⟨w.heap.size, 1, none⟩) (Nat.le_refl _) _⟩
  | some a =>
    rw [hE] at HE Hone
    obtain ⟨ha6, hal⟩ := Hle.out a hE
    have Hr : Hid (r = ((26, plainL (((b.take a).drop 6).take 1200)), a + 6)) := Lib.hid Hone.out
    have hda : dropA (some ⟨g, o, none⟩) c 6 = some ⟨g, o + 6, none⟩ := by unfold dropA; rw [if_neg (by omega)]; rfl
    have hin : ((b.take a).drop 6).length = a - 6 := by rw [List.length_drop, List.length_take]; omega
    obtain ⟨i, hi⟩ : ∃ i, i = a - 6 := ⟨_, rfl⟩
    rw [← hi] at hin
    have hBin : ∀ W : World, Below w.heap.size w W → Byt W (some ⟨g, o + 6, none⟩) ((b.take a).drop 6) := fun W hW => by
      have h := (((Hb.out.below hW).drop c 6 hlc).take (a - 6))
      rw [hda, ← List.drop_take] at h
      exact h
    have hmid := run_mid (some ⟨g, o, none⟩) b.length c 6 a (by omega) (by omega)
    rw [hda, ← hi] at hmid
    have hmid6 : ∀ W : World, (Instr.slice 27 (.slice (some ⟨g, o, none⟩) b.length c) (some (.int .i64 6)) (some (.int .i64 (a : Int))) none).run Tryd.prog W = .ok (.slice (some ⟨g, o + 6, none⟩) i (c - 6)) W := hmid
    obtain ⟨m, hmk⟩ : ∃ m, m = a + 6 := ⟨_, rfl⟩
    have hsum : (a : Int) + 6 = (m : Int) := by omega
    have hlt0 : decide ((a : Int) < 0) = false := decide_eq_false (by omega)
    have hup := run_upto (some ⟨g, o + 6, none⟩) i (c - 6) 1200
    have hda0 : dropA (some ⟨g, o + 6, none⟩) (c - 6) 0 = some ⟨g, o + 6, none⟩ := by unfold dropA; split <;> rfl
    rw [hda0] at hup
    have hic : i ≤ c - 6 := by omega
    have hpl : (((b.take a).drop 6).take 1200).length ≤ 1200 := List.length_take_le _ _
    have HPl := Lib.hid (fun W => rplain_calls (((b.take a).drop 6).take 1200) (by omega) W)
    have Hcv : Hid (∀ W : World, Below w.heap.size w W → (convert 27 9 (.slice (some ⟨g, o + 6, none⟩) (if 1200 < i then 1200 else i) (c - 6))).run Tryd.prog W = .ok (.string (bs (((b.take a).drop 6).take 1200))) W) := Lib.hid fun W hW => by
      exact ((hBin W hW).take 1200).convert (P := Tryd.prog) (c - 6) 27 5 9 Tryd.underlying27 Tryd.underlying5 Tryd.underlying9 (if 1200 < i then 1200 else i) (by rw [List.length_take, hin]; split <;> omega)
    have Hmk := Lib.hid hmk
    clear hE Hle Hone hmid hBin hda hda0 hin
    generalize plainL (((b.take a).drop 6).take 1200) = pl at *
    generalize ((b.take a).drop 6).take 1200 = inn at *
    clear hpl
    by_cases hbig : 1200 < i
    · have hup2 : ∀ W : World, (Instr.slice 27 (.slice (some ⟨g, o + 6, none⟩) i (c - 6)) none (some (.int .i64 1200)) none).run Tryd.prog W = .ok (.slice (some ⟨g, o + 6, none⟩) 1200 (c - 6)) W := hup (by omega)
      rw [if_pos hbig] at Hcv
      have hd : decide ((1200 : Int) < (i : Int)) = true := decide_eq_true (by omega)
      clear hup hi hmk
      generalize b.length = n at *
      go_enter Tryd.func50, Tryd.ntmps50
      go_wp2_with fail
      refine HP.out.mono ?_
      rintro e w1 ⟨rfl, hb1⟩
      have k1 := K0.out.trans (hb1.mono K0.out.size)
      have b1 := B0.out.below hb1
      go_wp2_with fail
      refine (HE.out w1 k1).mono ?_
      rintro e w2 ⟨rfl, hb2⟩
      have k2 := k1.trans (hb2.mono k1.size)
      have b2 := b1.below hb2
      have hcv := Hcv.out w2 k2
      clear hb1 hb2 k1 b1 HE HP
      simp only [endV]
      go_wp2_with fail
      refine (HPl.out _).mono ?_
      rintro e w3 ⟨rfl, hb3⟩
      have k3 := k2.trans (hb3.mono k2.size)
      have b3 := b2.below hb3
      have c0 := b3.c0
      have c1 := b3.c1
      have f0 := b3.f0
      have f1 := b3.f1
      have K3 := Lib.hid k3
      have B3 := Lib.hid b3
      clear hb3 k2 b2 k3 b3 hcv
      go_wp2
      refine bodyPost_ret (results_bx2 rfl _ _ w.heap.size (.int .i64 26) (.string (bs pl)) 52 rfl ((B3.out.set0 _).set1 _) Tryd.underlying52 (sizeRKey _)) rfl ?_
      exact ⟨by rw [Hr.out, ← Hmk.out]; rfl, (K3.out.setCell (p := ⟨w.heap.size, 0, none⟩) (Nat.le_refl _) _).setCell (p := ⟨w.heap.size, 1, none⟩) (Nat.le_refl _) _⟩
    · rw [if_neg hbig] at Hcv
      have hd : decide ((1200 : Int) < (i : Int)) = false := decide_eq_false (by omega)
      clear hup hi hmk
      generalize b.length = n at *
      go_enter Tryd.func50, Tryd.ntmps50
      go_wp2_with fail
      refine HP.out.mono ?_
      rintro e w1 ⟨rfl, hb1⟩
      have k1 := K0.out.trans (hb1.mono K0.out.size)
      have b1 := B0.out.below hb1
      go_wp2_with fail
      refine (HE.out w1 k1).mono ?_
      rintro e w2 ⟨rfl, hb2⟩
      have k2 := k1.trans (hb2.mono k1.size)
      have b2 := b1.below hb2
      have hcv := Hcv.out w2 k2
      clear hb1 hb2 k1 b1 HE HP
      simp only [endV]
      go_wp2_with fail
      refine (HPl.out _).mono ?_
      rintro e w3 ⟨rfl, hb3⟩
      have k3 := k2.trans (hb3.mono k2.size)
      have b3 := b2.below hb3
      have c0 := b3.c0
      have c1 := b3.c1
      have f0 := b3.f0
      have f1 := b3.f1
      have K3 := Lib.hid k3
      have B3 := Lib.hid b3
      clear hb3 k2 b2 k3 b3 hcv
      go_wp2
      refine bodyPost_ret (results_bx2 rfl _ _ w.heap.size (.int .i64 26) (.string (bs pl)) 52 rfl ((B3.out.set0 _).set1 _) Tryd.underlying52 (sizeRKey _)) rfl ?_
      exact ⟨by rw [Hr.out, ← Hmk.out]; rfl, (K3.out.setCell (p := ⟨w.heap.size, 0, none⟩) (Nat.le_refl _) _).setCell (p := ⟨w.heap.size, 1, none⟩) (Nat.le_refl _) _⟩
end Go.Proofs.YtbkejjpkijjfaaaDoor
