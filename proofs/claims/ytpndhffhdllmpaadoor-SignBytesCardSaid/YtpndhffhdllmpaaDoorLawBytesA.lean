/-
  The walk of SignBytes.
-/
import Derived.Test.YtpndhffhdllmpaaDoorRowB
import Derived.Test.YtpndhffhdllmpaaDoorRowR
import Derived.Test.YtpndhffhdllmpaaDoorRefClean
import Derived.Test.YtpndhffhdllmpaaDoorSame
import Derived.Test.YtpndhffhdllmpaaDoorAlive
import Derived.Test.YtpndhffhdllmpaaDoorOwn
import Derived.Test.YtpndhffhdllmpaaDoorLawJoins
import Derived.Laws.Cover4
namespace Go.Proofs.YtpndhffhdllmpaaDoor
open Go Go.RowKit

theorem arr_ext {a b : ByteArray} (h : a.data.toList = b.data.toList) : a = b := by
  cases a; cases b; simp at h; subst h; rfl
theorem encode_enc (r : Int) : Utf8.encode r = ⟨(Lib.encodeRune r).toArray⟩ := by
  apply arr_ext
  have hv := validRune_eq r
  unfold Utf8.encode Lib.encodeRune
  by_cases h : (0 ≤ r ∧ r < 55296) ∨ (57343 < r ∧ r ≤ 1114111)
  · rw [hv, validRune, decide_eq_true h]
    simp only [if_true]
    by_cases h1 : r ≤ 127
    · rw [Lib.encodeRuneZ_one (by omega) h1, if_pos (by omega)]
      simp
    · rw [if_neg (by omega)]
      by_cases h2 : r ≤ 2047
      · rw [Lib.encodeRuneZ_two (by omega) h2, if_pos (by omega)]
        simp only [List.map_cons, List.map_nil, List.cons.injEq, and_true]
        refine ⟨?_, ?_⟩ <;> (apply congrArg UInt8.ofNat; omega)
      · rw [if_neg (by omega)]
        by_cases h3 : r ≤ 65535
        · rw [Lib.encodeRuneZ_three (by omega), if_pos (by omega)]
          simp only [List.map_cons, List.map_nil, List.cons.injEq, and_true]
          refine ⟨?_, ?_, ?_⟩ <;> (apply congrArg UInt8.ofNat; omega)
        · rw [Lib.encodeRuneZ_four (by omega) (by omega), if_neg (by omega)]
          simp only [List.map_cons, List.map_nil, List.cons.injEq, and_true]
          refine ⟨?_, ?_, ?_, ?_⟩ <;> (apply congrArg UInt8.ofNat; omega)
  · rw [hv, validRune, decide_eq_false h, Lib.encodeRuneZ_bad (by omega)]
    simp only [Bool.false_eq_true, if_false]
    decide +kernel

theorem run_rune1 (w : World) (x : Int) : (convert 29 9 (.slice (some ⟨w.heap.size, 0, none⟩) 1 1)).run Tryd.prog (w.alloc (.cells #[.int .i32 x] 21)) = .ok (.string ⟨(Lib.encodeRune x).toArray⟩) (w.alloc (.cells #[.int .i32 x] 21)) := by
  have := run_convert_runes (P := Tryd.prog) (w.alloc (.cells #[.int .i32 x] 21)) 29 9 21 ⟨w.heap.size, 0, none⟩ 1 1 [x] (by simp) Tryd.underlying29 Tryd.underlying21 Tryd.underlying9 (fun j hj => by
    obtain rfl : j = 0 := by simpa using hj
    simp [Addr.add])
  rw [this]
  have e : runesBytes ([x].take 1) = ⟨(Lib.encodeRune x).toArray⟩ := by
    rw [← encode_enc]
    apply arr_ext
    simp [runesBytes]
  rw [e]

theorem whole_enc (r : Nat) (h : Valid r) : wholeL (Lib.encodeRune (r : Int)) = true := by
  unfold Valid at h
  have hl := enc_length (r : Int)
  have hg := enc_getD (r : Int)
  unfold wholeL
  apply decide_eq_true
  rw [hl]
  have hz := Lib.encodeRuneZ_length (r : Int)
  refine ⟨by omega, .inl ?_⟩
  by_cases h1 : r ≤ 127
  · rw [Lib.encodeRuneZ_one (r := (r : Int)) (by omega) (by omega)] at hg ⊢
    have q0 := hg 0 (by simp)
    simp only [List.getD_cons_zero] at q0
    generalize ((Lib.encodeRune (r : Int)).getD 0 0).toNat = b0 at *
    simp only [List.length_cons, List.length_nil]
    unfold Lib.firstT
    rw [if_pos (by omega)]
    decide
  · by_cases h2 : r ≤ 2047
    · rw [Lib.encodeRuneZ_two (r := (r : Int)) (by omega) (by omega)] at hg ⊢
      have q0 := hg 0 (by simp)
      simp only [List.getD_cons_zero] at q0
      generalize ((Lib.encodeRune (r : Int)).getD 0 0).toNat = b0 at *
      simp only [List.length_cons, List.length_nil]
      unfold Lib.firstT
      rw [if_neg (by omega), if_neg (by omega), if_pos (by omega)]
      decide
    · by_cases h3 : r ≤ 65535
      · rw [Lib.encodeRuneZ_three (r := (r : Int)) (by omega)] at hg ⊢
        have q0 := hg 0 (by simp)
        simp only [List.getD_cons_zero] at q0
        generalize ((Lib.encodeRune (r : Int)).getD 0 0).toNat = b0 at *
        simp only [List.length_cons, List.length_nil]
        unfold Lib.firstT
        repeat' split
        all_goals omega
      · rw [Lib.encodeRuneZ_four (r := (r : Int)) (by omega) (by omega)] at hg ⊢
        have q0 := hg 0 (by simp)
        simp only [List.getD_cons_zero] at q0
        generalize ((Lib.encodeRune (r : Int)).getD 0 0).toNat = b0 at *
        simp only [List.length_cons, List.length_nil]
        unfold Lib.firstT
        repeat' split
        all_goals omega
theorem clean_wrong : cleanL [239, 191, 189] = [239, 191, 189] := by decide +kernel
theorem enc_bad (r : Int) (h : r < 0 ∨ (55296 ≤ r ∧ r ≤ 57343) ∨ 1114111 < r) : Lib.encodeRune r = [239, 191, 189] := by
  unfold Lib.encodeRune; rw [Lib.encodeRuneZ_bad h]; rfl

/-- The clamp of what is no sign is none. -/
theorem clamp_bad (r : Int) (h : r < 0 ∨ 1114111 < r ∨ (55296 ≤ r ∧ r ≤ 57343)) : Lib.encodeRune (min (max r (-1)) 1114112) = [239, 191, 189] := enc_bad _ (by omega)

set_option maxHeartbeats 1000000 in
theorem lbytes_bad (r : Int) (A : Option Addr) (c : Nat) (l : List UInt8) (w : World) (h0 : -9223372036854775808 ≤ r) (h1 : r ≤ 9223372036854775807) (hbad : r < 0 ∨ 1114111 < r ∨ (55296 ≤ r ∧ r ≤ 57343)) (hl : l.length ≤ 100) (ht : Tabs w) :
    Calls Tryd.prog 5 #[.int .i64 r, .slice A l.length c] w fun e w' => e = .returned (.bool true) ∧ Below w.heap.size w w' := by
  have hbl : bytesL r = [] := by simp only [bytesL]; rw [if_pos hbad]
  have hcon := bytes_calls r w h0 h1
  rw [hbl] at hcon
  have Hcon := Lib.hid hcon
  have Hcl := Lib.hid (clamp_bad r hbad)
  have hq0 : -1 ≤ min (max r (-1)) 1114112 := by omega
  have hq1 : min (max r (-1)) 1114112 ≤ 1114112 := by omega
  clear hcon hbl hbad
  go_enter Tryd.func5, Tryd.ntmps5
  go_wp2_with fail
  refine Hcon.out.mono ?_
  rintro e w1 ⟨A1, d1, rfl, _, _, _, _, k1⟩
  clear Hcon
  go_wp2_with fail
  refine (alive_calls _ (tabs_below ht k1)).mono ?_
  rintro e w2 ⟨rfl, hb2⟩
  have k2 : Below w.heap.size w w2 := k1.trans (hb2.mono k1.size)
  clear hb2 k1
  have hr1 := run_rune1 w2 (min (max r (-1)) 1114112)
  rw [Hcl.out] at hr1
  have hs2 := Lib.run_convert_string_bytes (P := Tryd.prog) (w2.alloc (.cells #[.int .i32 (min (max r (-1)) 1114112)] 21)) 9 22 5 ⟨#[239, 191, 189]⟩ Tryd.underlying9 Tryd.underlying22 Tryd.underlying5
  have k2' : Below w.heap.size w (w2.alloc (.cells #[.int .i32 (min (max r (-1)) 1114112)] 21)) := k2.alloc k2.size _
  have hbb : Byt (Lib.bytesWorld (w2.alloc (.cells #[.int .i32 (min (max r (-1)) 1114112)] 21)) 5 ⟨#[239, 191, 189]⟩) (some ⟨w2.heap.size + 1, 0, none⟩) [239, 191, 189] := by
    have := byt_bytes (w2.alloc (.cells #[.int .i32 (min (max r (-1)) 1114112)] 21)) [239, 191, 189]
    simpa using this
  have hbw := below_bytes (w2.alloc (.cells #[.int .i32 (min (max r (-1)) 1114112)] 21)) 5 ⟨#[239, 191, 189]⟩
  have k2s : Below w.heap.size w (Lib.bytesWorld (w2.alloc (.cells #[.int .i32 (min (max r (-1)) 1114112)] 21)) 5 ⟨#[239, 191, 189]⟩) := k2'.trans (hbw.mono k2'.size)
  clear k2 k2' hbw
  go_wp2_with fail
  refine (clean_calls _ _ [239, 191, 189] _ hbb (by simp)).mono ?_
  rw [clean_wrong]
  rintro e w3 ⟨rfl, hb3⟩
  have k3 : Below w.heap.size w w3 := k2s.trans (hb3.mono k2s.size)
  clear hb3 k2s hbb hs2 hr1
  go_wp2
  go_ret
  exact ⟨rfl, k3⟩

end Go.Proofs.YtpndhffhdllmpaaDoor
