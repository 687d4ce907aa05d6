/-
  The document's Scan (layer 11).
-/
import Derived.Test.YtjfikdldabmciaaDoorRFrN
import Derived.Test.YtjfikdldabmciaaDoorRdB
import Derived.Test.YtjfikdldabmciaaDoorRowT
namespace Go.Proofs.YtjfikdldabmciaaDoor
open Go Go.RowKit
set_option maxRecDepth 100000

/-- A slice of bytes, as a value: where it lies, and what it reads as. -/
structure Sb where
  A : Option Addr
  l : List UInt8
  c : Nat
def sbV (s : Sb) : Value := .slice s.A s.l.length s.c
def sbC (s : Sb) : List Value := [sbV s]
theorem infoSb : (Tryd.prog.info? 22).map (fun i => (i.zero, i.size, i.bytes)) = some (some (.slice none 0 0), 1, 24) := by kernel_rfl
theorem infoSb' : ∃ i, Tryd.prog.info? 22 = some i ∧ i.zero = some (.slice none 0 0) ∧ i.size = 1 ∧ i.bytes = 24 := by
  obtain ⟨i, h, h2⟩ := Option.map_eq_some_iff.1 infoSb
  simp only [Prod.mk.injEq] at h2
  exact ⟨i, h, h2.1, h2.2.1, h2.2.2⟩
theorem flat_sb (ss : List Sb) : ss.flatMap sbC = ss.map sbV := by
  induction ss with
  | nil => rfl
  | cons s t ih => rw [List.flatMap_cons, ih]; rfl
/-- A row of slices that a call owns, each of which reads as it should. -/
theorem rdBs_own {w : World} {base : Nat} {A : Option Addr} {n c : Nat} {ss : List Sb} (h : w.ownsRow base 22 1 (.slice A n c) ss.length (ss.map sbV)) (hB : ∀ s ∈ ss, Byt w s.A s.l ∧ (s.A = none → s.c = 0)) : RdBs w A (ss.map Sb.l) := fun hn => by
  rw [List.length_map] at hn
  obtain ⟨g, o, e, _, hg, hc⟩ := rowT_of_own (C := sbC) (R := fun _ => True) (by rw [flat_sb]; exact h) (fun _ _ => trivial) hn
  refine ⟨g, o, e, hg, fun i l hi => ?_⟩
  rw [List.getElem?_map] at hi
  obtain ⟨s, hs, rfl⟩ := Option.map_eq_some_iff.1 hi
  have hv := hc i (sbV s) (by rw [flat_sb, List.getElem?_map, hs]; rfl)
  have hm := List.mem_of_getElem? hs
  exact ⟨s.A, s.c, hv, (hB s hm).1, (hB s hm).2⟩
theorem own_none {w : World} {base : Nat} {e : TypeId} {size : Nat} {A : Option Addr} {n c : Nat} {k : Nat} {xs : List Value} (h : w.ownsRow base e size (.slice A n c) k xs) : A = none → c = 0 := fun hA => by
  rcases h.2 with ⟨hv, _⟩ | ⟨g, cap, cur, hv, _⟩
  · injection hv
  · injection hv with h1; rw [hA] at h1; cases h1
theorem sb_cell (w : World) (v : Value) : ∀ (j : Nat) (u : Value), [v][j]? = some u → (w.alloc (.cells #[v] 22)).cell? (Addr.add ⟨w.heap.size, 0, none⟩ j) = some u := fun j u hj => by
  match j, hj with
  | 0, hj => obtain rfl : v = u := by simpa using hj
             rw [Addr.add_lit, Nat.zero_add]; unfold World.cell?; rw [World.alloc_heap_new]; rfl
  | j + 1, hj => simp at hj
set_option maxHeartbeats 8000000 in
theorem rscan11_calls (A : Option Addr) (c : Nat) (b : List UInt8) (w : World) (hb : Byt w A b) (hc : b.length ≤ c) (hl : b.length ≤ 100000) :
    Calls Tryd.prog 16 #[.slice A b.length c] w fun e w' => ∃ A' c', e = .returned (.tuple #[.slice A' (scanF b).1.length c', .int .i64 ((scanF b).2 : Int)]) ∧ RdBs w' A' (scanF b).1 ∧ (A' = none → c' = 0) ∧ Below w.heap.size w w' := by
  obtain ⟨i0, hi0, hz0, hz1, hz2⟩ := infoSb'
  have HB := Lib.hid hb
  have HC := Lib.hid hc
  clear hb hc
  go_enter Tryd.func16, Tryd.ntmps16
  go_wp2_with fail
  go_loopw [4, 5] (fun v4 v5 wr => ∃ (n : Nat) (ss : List Sb), v5 = .int .i64 (n : Int) ∧ Hid (ScanTo b n (ss.map Sb.l)) ∧ Hid (wr.ownsRow w.heap.size 22 1 v4 ss.length (ss.map sbV)) ∧ Hid (∀ s ∈ ss, Byt w s.A s.l ∧ (s.A = none → s.c = 0)) ∧ Hid (6 * ss.length ≤ n) ∧ Hid (Below w.heap.size w wr)) (fun _ v5 _ => b.length - (intOf v5).toNat)
  case atStart => exact ⟨0, [], rfl, Lib.hid (ScanTo.zero b), Lib.hid (World.ownsRow_nil _ _ _ _), Lib.hid (fun s hs => by cases hs), Lib.hid (by simp), Lib.hid (Below.refl _ _)⟩
  case round =>
    obtain ⟨n, ss, rfl, hst, hown, hrd, hsm, hbel⟩ := hrel
    have hnl := hst.out.le
    have hcut := run_cut A c b n hnl
    have hdl : (b.drop n).length = b.length - n := List.length_drop
    have HNx := Lib.hid (rnext11_calls (dropA A c n) (c - n) (b.drop n) wr ((HB.out.below hbel.out).drop c n HC.out) (by have := HC.out; omega) (by omega))
    rw [hdl] at HNx hcut
    have HNl := Lib.hid hnl
    have HDl := Lib.hid hdl
    have hn64 : (n : Int) ≤ 100000 := by omega
    by_cases hok : okF (b.drop n)
    · have hn1 : nextF (b.drop n) = (loadF (b.drop n), 6 + numF (b.drop n)) := by unfold nextF; rw [if_pos hok]
      have he1 : errF (b.drop n) = 0 := err_ok.2 hok
      rw [hn1, he1] at HNx
      have HSt := Lib.hid (hst.out.step hok)
      have hf := hok.1.2.1
      have HF := Lib.hid (And.intro hok.1.2.2 hok.1.1)
      generalize numF (b.drop n) = nf at *
      generalize hld : loadF (b.drop n) = ld at *
      clear hn1 he1 hdl hnl hok
      go_wp2_with fail
      refine HNx.out.mono ?_
      rintro e w5 ⟨A5, c5, rfl, hby, hno, hb5⟩
      have HS5 : Hid (∀ s ∈ ss ++ [(⟨A5, ld, c5⟩ : Sb)], Byt w s.A s.l ∧ (s.A = none → s.c = 0)) := Lib.hid (fun s hs => by
        rcases List.mem_append.1 hs with h | h
        · exact hrd.out s h
        · obtain rfl := List.mem_singleton.1 h
          exact ⟨hby w (HB.out.drop c n HC.out), hno⟩)
      have HB5 : Hid (Below w.heap.size w w5) := Lib.hid (hbel.out.trans (hb5.mono hbel.out.size))
      have HOwn5 := Lib.hid (show w5.ownsRow w.heap.size 22 1 u4 ss.length (ss.map sbV) from own_below hown.out hb5)
      clear hby hno hb5 HNx hcut
      have hsl : ss.length ≤ 100000 := by have := hsm.out; have := HNl.out; omega
      have hwr : IntKind.i64.wrap ((n : Int) + (6 + (nf : Int))) = (n : Int) + (6 + (nf : Int)) := IntWalk.i64_in _ (by omega)
      go_wp2_with (at_builtin; refine wpList_append_own _ rfl _ _ 31 rfl w.heap.size 22 i0 _ 1 24 Tryd.underlying31 hi0 hz0 hz1 hz2 rfl (by decide) _ _ _ rfl (HOwn5.out.alloc _) ⟨w5.heap.size, 0, none⟩ 1 1 [.slice A5 ld.length c5] rfl rfl ?d1 ?d2 ?d3 ?d4 ?d5 ?_)
      case d1 => exact sb_cell w5 _
      case d2 => intro u hu; obtain rfl := List.mem_singleton.1 hu; rfl
      case d3 => unfold maxLen; omega
      case d4 => omega
      case d5 => have := HB5.out.size; simp; omega
      intro v7 w7 hown7 hgr7 _
      have hb7 : Below w.heap.size w w7 := (HB5.out.alloc HB5.out.size _).grown hgr7 (by have := HB5.out.size; simp; omega) (fun k hk => (HOwn5.out.lt k hk).1)
      have HOwn7 : Hid (w7.ownsRow w.heap.size 22 1 v7 (ss ++ [(⟨A5, ld, c5⟩ : Sb)]).length ((ss ++ [(⟨A5, ld, c5⟩ : Sb)]).map sbV)) := Lib.hid (by rw [List.map_append, List.length_append]; exact hown7)
      have HB7 := Lib.hid hb7
      clear hown7 hgr7 hb7
      go_wp2_with fail
      go_roundw
      case rel => exact ⟨n + (6 + nf), ss ++ [⟨A5, ld, c5⟩], by go_num, Lib.hid (by rw [List.map_append]; exact HSt.out), HOwn7, HS5, Lib.hid (by rw [List.length_append, List.length_singleton]; have := hsm.out; omega), HB7⟩
      case measure => have := HF.out; have := HDl.out; simp [intOf]; omega
    · have hn1 : nextF (b.drop n) = ([], 0) := by unfold nextF; rw [if_neg hok]
      have he1 : ¬ errF (b.drop n) = 0 := fun h => hok (err_ok.1 h)
      rw [hn1] at HNx
      have HFin := Lib.hid (hst.out.fin hok)
      generalize errF (b.drop n) = er at *
      have t1 : (er == 0) = false := by simpa using he1
      have t2 : (er != 0) = true := by simpa using he1
      clear hn1 he1 hok hdl hnl
      go_wp2_with fail
      refine HNx.out.mono ?_
      rintro e w5 ⟨A5, c5, rfl, _, _, hb5⟩
      have HB5 : Hid (Below w.heap.size w w5) := Lib.hid (hbel.out.trans (hb5.mono hbel.out.size))
      have hown5 := own_below hown.out hb5
      obtain ⟨A6, c6, rfl⟩ := own_form hown5
      have HR : Hid (RdBs w5 A6 (ss.map Sb.l) ∧ (A6 = none → c6 = 0)) := Lib.hid ⟨rdBs_own hown5 (fun s hs => ⟨(hrd.out s hs).1.below HB5.out, (hrd.out s hs).2⟩), own_none hown5⟩
      clear hb5 hown5 HNx hcut
      go_wp2_with fail
      go_ret2
      rw [HFin.out]
      exact ⟨A6, c6, by simp, HR.out.1, HR.out.2, HB5.out⟩
end Go.Proofs.YtjfikdldabmciaaDoor
