/-
  The walk of FrameTorn (layer 11).
-/
import Derived.Test.YtjfikdldabmciaaDoorFrameC
import Derived.Test.YtjfikdldabmciaaDoorRowI
import Derived.Test.YtjfikdldabmciaaDoorRowW
import Derived.Laws.BitsAllLaws
import Derived.RegionTactic
import Derived.BigRegion
namespace Go.Proofs.YtjfikdldabmciaaDoor
open Go Go.RowKit
set_option maxRecDepth 100000

abbrev vB11 : UInt8 → Value := fun u => Value.int .u8 (u.toNat : Int)
theorem byt_of_rd {w : World} {A : Option Addr} {ls : List UInt8} (h : RdV vB11 w A ls) : Byt w A ls := by
  by_cases h0 : ls = []
  · rw [h0]; exact Byt.nil_ _ _
  · obtain ⟨g, o, rfl, hg, hc⟩ := h (List.length_pos_iff.2 h0)
    exact Byt.mk_ fun i hi => by
      have := hc i (ls.getD i 0) (by rw [List.getD_eq_getElem?_getD, List.getElem?_eq_getElem hi]; rfl)
      exact this
/-- Where the frames begin. -/
def atsF (l : List (List UInt8)) (k : Nat) : List Nat := (List.range k).map fun i => (packsF (l.take i)).length
theorem atsF_succ (l : List (List UInt8)) (k : Nat) : atsF l (k + 1) = atsF l k ++ [(packsF (l.take k)).length] := by unfold atsF; rw [List.range_succ, List.map_append]; rfl
theorem atsF_length (l : List (List UInt8)) (k : Nat) : (atsF l k).length = k := by unfold atsF; simp
theorem atsF_get (l : List (List UInt8)) {k i : Nat} (h : i < k) : (atsF l k).getD i 0 = (packsF (l.take i)).length := by unfold atsF; simp [List.getD, h]
theorem torn_in (l : List (List UInt8)) {k : Nat} (hk : k < l.length) : (packsF (l.take k)).length + (6 + (l.getD k []).length) ≤ (packsF l).length := by
  have h1 := packsF_take hk
  have h2 : packsF l = packsF (l.take (k + 1)) ++ packsF (l.drop (k + 1)) := by
    conv => lhs; rw [← List.take_append_drop (k + 1) l]
    unfold packsF
    rw [List.map_append, List.flatten_append]
  have h3 := congrArg List.length h2
  rw [List.length_append, h1, List.length_append, packF_length] at h3
  omega
set_option maxHeartbeats 8000000 in
theorem frtorn_law (A : Option Addr) (c : Nat) (l : List (List UInt8)) (kk bit : Int) (w : World) (hl : RdBs w A l) (hm : l.length ≤ 9223372036854775807) (_hp : ∀ p ∈ l, p.length ≤ 9223372036854775807)
    (hc0 : -9223372036854775808 ≤ kk) (hc1 : kk ≤ 9223372036854775807) (hn0 : -9223372036854775808 ≤ bit) (hn1 : bit ≤ 9223372036854775807) (ht : LaysR w) :
    Calls Tryd.prog 7 #[.slice A l.length c, .int .i64 kk, .int .i64 bit] w fun e w' => e = .returned (.bool true) ∧ Below w.heap.size w w' := by
  obtain ⟨i0, hi0, hz0, hz1, hz2⟩ := info8_11
  obtain ⟨j0, hj0, hy0, hy1, hy2⟩ := info_parts info64
  have HL := Lib.hid hl
  have HT := Lib.hid ht
  have HAl : Hid (∀ W, Below w.heap.size w W → Calls Tryd.prog 9 #[] W fun e w' => e = .returned (.bool true) ∧ Below w.heap.size w w') := Lib.hid fun W hb => (falive11_calls W (HT.out.on hb)).mono (by rintro e w' ⟨h1, h2⟩; exact ⟨h1, hb.trans (h2.mono hb.size)⟩)
  have HArg := Lib.hid (And.intro hc0 (And.intro hc1 (And.intro hn0 hn1)))
  clear hl ht hc0 hc1 hn0 hn1
  go_enter Tryd.func7, Tryd.ntmps7
  go_wp2_with fail
  go_loopw [7, 8, 17] (fun v7 v8 v17 wr => ∃ k : Nat, k ≤ l.length ∧ v17 = .int .i64 (k : Int) ∧ Hid (wr.ownsRow w.heap.size 5 1 v7 (packsF (l.take k)).length (Lib.byteCells (packsF (l.take k)))) ∧ Hid (wr.ownsRow w.heap.size 3 1 v8 k (cells64 (atsF l k))) ∧ Hid ((∀ p ∈ l.take k, p.length ≤ 1000) ∧ (packsF (l.take k)).length ≤ 4006) ∧ Hid (Below w.heap.size w wr)) (fun _ _ v17 _ => l.length - (intOf v17).toNat)
  case atStart => exact ⟨0, Nat.zero_le _, rfl, Lib.hid (World.ownsRow_nil _ _ _ _), Lib.hid (World.ownsRow_nil _ _ _ _), Lib.hid ⟨fun p hp => (by cases hp), by simp [packsF]⟩, Lib.hid (Below.refl _ _)⟩
  case round =>
    obtain ⟨k, hk, rfl, hown, hats, hsm, hbel⟩ := hrel
    obtain ⟨A7, c7, rfl⟩ := own_form hown.out
    obtain ⟨A8, c8, rfl⟩ := own_form hats.out
    by_cases hlt : k < l.length
    · obtain ⟨g1, o1, Ai, ci, rfl, hcell, hby, hno⟩ := (HL.out.below hbel.out).at11 hlt
      have hkl : (k : Int) < (l.length : Int) := by omega
      have HTk := Lib.hid (packsF_take hlt)
      have HAs := Lib.hid (atsF_succ l k)
      have HSm : Hid ((l.getD k []).length ≤ 1000 → ∀ p ∈ l.take (k + 1), p.length ≤ 1000) := Lib.hid (fun h p hp => by
        have hd : l.getD k [] = l[k] := by simp [List.getD, hlt]
        rw [List.take_succ_eq_append_getElem hlt] at hp
        rcases List.mem_append.1 hp with h1 | h1
        · exact hsm.out.1 p h1
        · obtain rfl := List.mem_singleton.1 h1
          rwa [hd] at h)
      by_cases hp1 : 1000 < (l.getD k []).length
      · have HP := Lib.hid (fpack11_long Ai ci (l.getD k []) wr hp1)
        generalize l.getD k [] = p at *
        clear hby hno hown hats hsm HSm HTk HAs hp1
        go_wp2_with fail
        refine HP.out.mono ?_
        rintro e w1 ⟨rfl, hb1⟩
        have HB1 := Lib.hid (hbel.out.trans (hb1.mono hbel.out.size))
        clear hb1 HP
        go_wp2_with fail
        refine (HAl.out w1 HB1.out).mono ?_
        rintro e w2 ⟨rfl, hb2⟩
        go_wp2_with fail
        go_ret
        exact ⟨rfl, hb2⟩
      · have HP := Lib.hid ((fpack11_calls Ai ci (l.getD k []) wr hby hno (by omega) (HT.out.on hbel.out)).mono (fun e w' h => Lib.hid h))
        have hpl := packF_length (l.getD k [])
        have HS1 := Lib.hid (HSm.out (by omega))
        generalize l.getD k [] = p at *
        have hq : (packsF (l.take k)).length ≤ 4006 := hsm.out.2
        have HK6 : Hid (k ≤ 4006) := Lib.hid (by have := packsF_ge (l.take k); rw [List.length_take] at this; omega)
        generalize hpk : packF p = pk at *
        clear hby hno hsm HSm hpk
        generalize packsF (l.take k) = ac at *
        generalize atsF l k = ats at *
        go_wp2_with fail
        refine HP.out.mono ?_
        intro e w1 hp2
        obtain ⟨A1, c1, rfl, hown1, hb1⟩ := hp2.out
        have HB1 := Lib.hid (hbel.out.trans (hb1.mono hbel.out.size))
        have HO1 := Lib.hid (byt_of_own hown1).1
        have HN1 := Lib.hid (own_none hown1)
        have HOa := Lib.hid (own_below hown.out hb1)
        have HOt := Lib.hid (own_below hats.out hb1)
        have HZ := Lib.hid (fun g (h : (Value.slice A1 pk.length c1).ownBlock = some g) => (hown1.lt g h).1)
        have HOo := Lib.hid hown1
        have HZt := Lib.hid (fun g (h : (Value.slice A8 k c8).ownBlock = some g) => (hats.out.lt g h).2)
        clear hp2 hown1 hb1 HP hown hats
        by_cases hbig : 3000 < ac.length
        · have d3 : decide (3000 < (ac.length : Int)) = true := decide_eq_true (by omega)
          clear hpl hp1
          go_wp2_with fail
          refine (HAl.out w1 HB1.out).mono ?_
          rintro e w2 ⟨rfl, hb2⟩
          go_wp2_with fail
          go_ret
          exact ⟨rfl, hb2⟩
        · have d3 : decide (3000 < (ac.length : Int)) = false := decide_eq_false (by omega)
          have HSum := Lib.hid (show ac.length + pk.length ≤ 4006 by omega)
          clear hpl hp1 hbig hq
          go_wp2_with (at_builtin; refine wpList_append_own _ rfl _ _ 38 rfl w.heap.size 3 j0 (.int .i64 0) 1 8 Tryd.underlying38 hj0 hy0 hy1 hy2 rfl (by decide) _ k _ rfl (HOt.out.alloc _) ⟨w1.heap.size, 0, none⟩ 1 1 [.int .i64 (ac.length : Int)] rfl rfl (cell_one_new _ _ _) (by simp [Value.oneCell']) (by have := HK6.out; unfold maxLen; omega) (by have := HK6.out; omega) (by have := HB1.out.size; simp; omega) ?_)
          intro v2 w2 hown2 hgr2 _
          replace hgr2 : (w1.alloc (.cells #[.int .i64 (ac.length : Int)] 3)).grownBy w2 (Value.slice A8 k c8).ownBlock := hgr2
          have HOt2 : Hid (w2.ownsRow w.heap.size 3 1 v2 (k + 1) (cells64 (atsF l (k + 1)))) := Lib.hid (by rw [HAs.out, cells64_snoc]; exact hown2)
          have hOa1 := HOa.out.alloc (.cells #[.int .i64 (ac.length : Int)] 3)
          have HOa2 : Hid (w2.ownsRow w.heap.size 5 1 (.slice A7 ac.length c7) ac.length (Lib.byteCells ac)) := Lib.hid (hOa1.kept hgr2 (own_ne hOa1 (HOt.out.alloc _) (by decide)))
          have hO1 := HOo.out.alloc (.cells #[.int .i64 (ac.length : Int)] 3)
          have HOp2 := Lib.hid (own_kept hO1 hgr2 (fun g h1 h2 => by
            have h3 := HZ.out g h1
            have h4 := HZt.out g h2
            omega))
          have HB2 : Hid (Below w.heap.size w w2) := Lib.hid ((HB1.out.alloc HB1.out.size _).grown hgr2 (by have := HB1.out.size; simp; omega) (fun g hg => (HOt.out.lt g hg).1))
          obtain ⟨A2, c2, rfl⟩ := own_form hown2
          clear hown2 hgr2 hOa1 hO1 HOa HOt HB1 HO1 HOo
          have hsum : ac.length + pk.length ≤ 140737488355328 := by have := HSum.out; omega
          go_wp2_with (at_builtin; refine wpList_append_byt _ rfl _ _ 22 rfl w.heap.size i0 Tryd.underlying22 hi0 hz0 hz1 hz2 _ ac rfl HOa2.out A1 c1 pk rfl HN1.out (byt_of_own HOp2.out).1 hsum HB2.out.size ?_)
          intro v3 w3 hown3 hgr3 _
          have HB3 : Hid (Below w.heap.size w w3) := Lib.hid (below_own HB2.out hgr3 HOa2.out (Nat.le_refl _) HB2.out.size)
          have HOa3 : Hid (w3.ownsRow w.heap.size 5 1 v3 (packsF (l.take (k + 1))).length (Lib.byteCells (packsF (l.take (k + 1))))) := Lib.hid (by rw [HTk.out, List.length_append]; exact hown3)
          have HOt3 : Hid (w3.ownsRow w.heap.size 3 1 (.slice A2 (k + 1) c2) (k + 1) (cells64 (atsF l (k + 1)))) := Lib.hid (HOt2.out.kept hgr3 (own_ne HOt2.out HOa2.out (by decide)))
          clear hown3 hgr3 HOa2 HOt2 HB2 hsum HOp2
          go_wp2_with fail
          go_roundw
          case rel => exact ⟨k + 1, by omega, by go_num, HOa3, HOt3, Lib.hid ⟨HS1.out, by rw [HTk.out, List.length_append]; exact HSum.out⟩, HB3⟩
          case measure => simp [intOf]; omega
    · obtain rfl : k = l.length := by omega
      rw [List.take_length] at hown hsm
      obtain ⟨ha0, ha1, ha2, ha3⟩ := HArg.out
      clear hlt hk
      by_cases h1 : kk < 0
      · clear HArg ha0 ha1 ha2 ha3 hown hats hsm
        have d1 : decide (kk < 0) = true := decide_eq_true h1
        go_wp2_with fail
        refine (HAl.out wr hbel.out).mono ?_
        rintro e w2 ⟨rfl, hb2⟩
        go_wp2_with fail
        go_ret
        exact ⟨rfl, hb2⟩
      have d1 : decide (kk < 0) = false := decide_eq_false h1
      by_cases h2 : (l.length : Int) ≤ kk
      · clear HArg ha0 ha1 ha2 ha3 hown hats hsm
        have d2 : decide ((l.length : Int) ≤ kk) = true := decide_eq_true h2
        go_wp2_with fail
        refine (HAl.out wr hbel.out).mono ?_
        rintro e w2 ⟨rfl, hb2⟩
        go_wp2_with fail
        go_ret
        exact ⟨rfl, hb2⟩
      have d2 : decide ((l.length : Int) ≤ kk) = false := decide_eq_false h2
      by_cases h3 : bit < 16
      · clear HArg ha0 ha1 ha2 ha3 hown hats hsm
        have d3 : decide (bit < 16) = true := decide_eq_true h3
        go_wp2_with fail
        refine (HAl.out wr hbel.out).mono ?_
        rintro e w2 ⟨rfl, hb2⟩
        go_wp2_with fail
        go_ret
        exact ⟨rfl, hb2⟩
      have d3 : decide (bit < 16) = false := decide_eq_false h3
      obtain ⟨k, rfl⟩ : ∃ k : Nat, kk = (k : Int) := ⟨kk.toNat, by omega⟩
      obtain ⟨a, rfl⟩ : ∃ a : Nat, bit = (a : Int) := ⟨bit.toNat, by omega⟩
      have hkl : k < l.length := by omega
      have hkli : (k : Int) < (l.length : Int) := by omega
      obtain ⟨gl, ol, Ak, ck, rfl, hlc, _, _⟩ := (HL.out.below hbel.out).at11 hkl
      have hdk : l.getD k [] = l[k] := by simp [List.getD, hkl]
      have hpk : (l.getD k []).length ≤ 1000 := hsm.out.1 _ (by rw [hdk]; exact List.getElem_mem hkl)
      have HTorn := Lib.hid (fun h16 ha => scan_torn l hsm.out.1 k hkl a h16 ha)
      have htin := torn_in l hkl
      have hw6 : IntKind.i64.wrap (6 + ((l.getD k []).length : Int)) = 6 + ((l.getD k []).length : Int) := IntWalk.i64_in _ (by omega)
      have hw8 : IntKind.i64.wrap (8 * (6 + ((l.getD k []).length : Int))) = 8 * (6 + ((l.getD k []).length : Int)) := IntWalk.i64_in _ (by omega)
      by_cases h4 : 8 * (6 + ((l.getD k []).length : Int)) ≤ (a : Int)
      · have d4 : decide (8 * (6 + ((l.getD k []).length : Int)) ≤ (a : Int)) = true := decide_eq_true h4
        generalize (l.getD k []).length = pn at *
        clear HArg ha0 ha1 ha2 ha3 hown hats hsm htin h4 hpk hdk
        go_wp2_with fail
        refine (HAl.out wr hbel.out).mono ?_
        rintro e w2 ⟨rfl, hb2⟩
        go_wp2_with fail
        go_ret
        exact ⟨rfl, hb2⟩
      have d4 : decide (8 * (6 + ((l.getD k []).length : Int)) ≤ (a : Int)) = false := decide_eq_false h4
      have HScan := Lib.hid (HTorn.out (by omega) (by omega))
      have hTk : (l.take k).length = k := by rw [List.length_take]; omega
      have hq4 : (packsF l).length ≤ 4006 := hsm.out.2
      generalize (l.getD k []).length = pn at *
      have hgk := atsF_get l hkl
      have hatr := (rd64_of_own (rs := atsF l l.length) (by rw [atsF_length]; exact hats.out)).1
      obtain ⟨g8, o8, rfl, hg8, hc8⟩ := hatr (by rw [atsF_length]; omega)
      have hck := hc8 k (by rw [atsF_length]; exact hkl)
      rw [hgk] at hck
      have hdv : (a : Int) / 8 = ((a / 8 : Nat) : Int) := by omega
      have hmd : (a : Int) % 8 = ((a % 8 : Nat) : Int) := by omega
      have hm8 : a % 8 < 8 := by omega
      generalize hqe : (packsF (l.take k)).length = q at *
      have hin : q + a / 8 < (packsF l).length := by omega
      have hsum : IntKind.i64.wrap ((q : Int) + ((a / 8 : Nat) : Int)) = ((q + a / 8 : Nat) : Int) := by rw [IntWalk.i64_in _ (by omega)]; omega
      have hT8 : (8 * q + a) / 8 = q + a / 8 := by omega
      have hM8 : (8 * q + a) % 8 = a % 8 := by omega
      unfold turn1 at HScan
      rw [hT8, hM8] at HScan
      have hW := rowW_of_own (V := vB11) (R := fun g => (Value.slice A7 (packsF l).length c7).ownBlock = some g) hown.out (fun g hg => hg)
      have hby := byt_of_own hown.out
      obtain ⟨g7, o7, rfl, hR7, hg7, hc7⟩ := hW (by omega)
      have hcx := hc7 (q + a / 8) ((packsF l).getD (q + a / 8) 0) (by rw [List.getD_eq_getElem?_getD, List.getElem?_eq_getElem hin]; rfl)
      obtain ⟨c1', f1⟩ := hcx
      have c1 : wr.cell? ⟨g7, o7 + (q + a / 8), none⟩ = some (.int .u8 (((packsF l).getD (q + a / 8) 0).toNat : Int)) := c1'
      clear c1'
      have hX2 := hW.set (q + a / 8) hin ((packsF l).getD (q + a / 8) 0 ^^^ UInt8.ofNat (2 ^ (a % 8)))
      have hne78 : g8 ≠ g7 := fun e => by
        rcases own_ne hats.out hown.out (by decide) with h | h
        · cases h
        · exact h (by rw [e]; rfl)
      have hcl7 := hby.2.2.1
      have HBs := hbel.out.setCell (p := ⟨g7, o7 + (q + a / 8), none⟩) (show w.heap.size ≤ g7 from (hown.out.lt g7 rfl).1) (.int .u8 (((packsF l).getD (q + a / 8) 0 ^^^ UInt8.ofNat (2 ^ (a % 8))).toNat : Int))
      have hlen2 : ((packsF l).set (q + a / 8) ((packsF l).getD (q + a / 8) 0 ^^^ UInt8.ofNat (2 ^ (a % 8)))).length = (packsF l).length := by simp
      have hck2 : (wr.setCell ⟨g7, o7 + (q + a / 8), none⟩ (.int .u8 (((packsF l).getD (q + a / 8) 0 ^^^ UInt8.ofNat (2 ^ (a % 8))).toNat : Int))).cell? ⟨g8, o8 + k, none⟩ = some (.int .i64 (q : Int)) := (World.cell?_of_block (a := ⟨g8, o8 + k, none⟩) (Below.heap_setCell wr ⟨g7, o7 + (q + a / 8), none⟩ _ g8 hne78)).trans hck
      have hby2 := byt_of_rd hX2.rd
      have HBy2 := Lib.hid hby2
      have HCk2 := Lib.hid hck2
      have HLen := Lib.hid hlen2
      have HBs2 := Lib.hid HBs
      have HTk := Lib.hid hTk
      have HIn := Lib.hid hin
      have HQ4 := Lib.hid hq4
      have HC7 := Lib.hid hcl7
      clear hby2 hck2 hlen2 HBs hX2 hW hby hc7 hc8 hats hown hsm htin hdk hpk HTorn HArg ha0 ha1 ha2 ha3 hqe hgk hTk hT8 hM8 hcl7 hR7 hg7 hg8 hq4
      generalize (packsF l).set (q + a / 8) ((packsF l).getD (q + a / 8) 0 ^^^ UInt8.ofNat (2 ^ (a % 8))) = d at *
      generalize (packsF l).getD (q + a / 8) 0 = x at *
      have hinI : ((q + a / 8 : Nat) : Int) < ((packsF l).length : Int) := by omega
      have d5 : decide (((packsF l).length : Int) ≤ ((q + a / 8 : Nat) : Int)) = false := decide_eq_false (by omega)
      have hwb : IntKind.i64.wrap ((a / 8 : Nat) : Int) = ((a / 8 : Nat) : Int) := IntWalk.i64_in _ (by have := HQ4.out; have := HIn.out; omega)
      have d5n : decide ((packsF l).length ≤ q + a / 8) = false := decide_eq_false (by omega)
      generalize q + a / 8 = e8 at *
      generalize a / 8 = b8 at *
      generalize a % 8 = f at *
      have hfl : 2 ^ f < 256 := by
        have : 2 ^ f ≤ 2 ^ 7 := Nat.pow_le_pow_right (by decide) (by omega)
        omega
      have hxo : bits .xor .u8 (x.toNat : Int) (2 ^ f % 256) = ((x ^^^ UInt8.ofNat (2 ^ f)).toNat : Int) := by
        have e2 : ((2 : Int) ^ f % 256) = ((2 ^ f : Nat) : Int) := by
          have : ((2 ^ f : Nat) : Int) = (2 : Int) ^ f := by simp
          rw [← this]
          generalize 2 ^ f = P at *
          omega
        rw [e2, u8_xor_nat _ _ x.toNat_lt hfl, UInt8.toNat_xor, UInt8.toNat_ofNat', Nat.mod_eq_of_lt hfl]
      generalize x ^^^ UInt8.ofNat (2 ^ f) = y at *
      clear hfl hin
      go_wp2_with fail
      go_region
      have HB5 : Hid (Below w.heap.size w (wr.setCell ⟨g7, o7 + e8, none⟩ (.int .u8 (y.toNat : Int))).drew) := Lib.hid HBs2.out.drew
      have HBy5 : Hid (Byt (wr.setCell ⟨g7, o7 + e8, none⟩ (.int .u8 (y.toNat : Int))).drew (some ⟨g7, o7, none⟩) d) := Lib.hid HBy2.out.drew
      have HCk5 : Hid ((wr.setCell ⟨g7, o7 + e8, none⟩ (.int .u8 (y.toNat : Int))).drew.cell? ⟨g8, o8 + k, none⟩ = some (.int .i64 (q : Int))) := Lib.hid HCk2.out
      clear HBs2 HBy2 HCk2 c1 f1 hxo hck hlc
      generalize (wr.setCell ⟨g7, o7 + e8, none⟩ (.int .u8 (y.toNat : Int))).drew = w5 at *
      have hsc := fscan11_calls (some ⟨g7, o7, none⟩) c7 d w5 HBy5.out (fun h => by cases h) (by rw [HLen.out]; exact HC7.out) (by rw [HLen.out]; have := HQ4.out; omega) (HT.out.on HB5.out)
      rw [HScan.out, HLen.out, HTk.out] at hsc
      have HSn := Lib.hid (hsc.mono (fun e w' h => Lib.hid h))
      clear hsc HBy5
      go_wp2_with fail
      refine HSn.out.mono ?_
      intro e w6 hp6
      obtain ⟨A6, c6, rfl, _, _, hb6⟩ := hp6.out
      have HB6 := Lib.hid (HB5.out.trans (hb6.mono HB5.out.size))
      have HCk6 := Lib.hid ((hb6.cell (World.block_lt_of_cell? _ _ HCk5.out)).trans HCk5.out)
      have Hal := Lib.hid (falive11_calls w6 (HT.out.on HB6.out))
      clear hp6 hb6 HSn HCk5 HB5
      go_wp2_with fail
      refine Hal.out.mono ?_
      rintro e w7 ⟨rfl, hb7⟩
      have HB7 := Lib.hid (HB6.out.trans (hb7.mono HB6.out.size))
      have hck7 := (hb7.cell (World.block_lt_of_cell? _ _ HCk6.out)).trans HCk6.out
      clear hb7 Hal HCk6 HB6
      go_wp2_with fail
      go_ret
      exact ⟨rfl, HB7.out⟩
end Go.Proofs.YtjfikdldabmciaaDoor
