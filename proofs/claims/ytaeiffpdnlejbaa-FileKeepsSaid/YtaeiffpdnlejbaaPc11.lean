/-
  Layer 7 and what it stands on, part 11 (FRank FileHoles FileSurv FileDown).
-/
import Derived.Test.YtaeiffpdnlejbaaPc10
namespace Go.Proofs.Ytaeiffpdnlejbaa
section
open Go Go.RowKit
set_option maxRecDepth 100000
theorem rank_take (l : List FileF) (no k : Nat) {f : FileF} (hf : l[k]? = some f) : FS.rank (l.take (k + 1)) no = FS.rank (l.take k) no + (f.row.filter fun p => decide (p.no < no)).length := by
  unfold FS.rank
  rw [List.take_add_one, hf, List.map_append, List.sum_append]
  simp
theorem filt_take (r : List PartF) (no j : Nat) {p : PartF} (hp : r[j]? = some p) : ((r.take (j + 1)).filter fun p => decide (p.no < no)).length = ((r.take j).filter fun p => decide (p.no < no)).length + (if p.no < no then 1 else 0) := by
  rw [List.take_add_one, hp, Option.toList_some, List.filter_append, List.length_append]
  by_cases h : p.no < no
  · simp [h]
  · simp [h]
theorem rank_le (l : List FileF) (no n : Nat) (h : ∀ f ∈ l, f.row.length ≤ n) : ∀ k, k ≤ l.length → FS.rank (l.take k) no ≤ k * n
  | 0, _ => by simp [FS.rank]
  | k + 1, hk => by
    rw [rank_take l no k (List.getElem?_eq_getElem (by omega)), Nat.succ_mul]
    have h1 := rank_le l no n h k (by omega)
    have h2 := h _ (List.getElem_mem (show k < l.length by omega))
    have h3 : ((l[k]'(by omega)).row.filter fun p => decide (p.no < no)).length ≤ (l[k]'(by omega)).row.length := List.length_filter_le _ _
    omega
set_option maxHeartbeats 4000000 in
theorem rrank10_calls (w : World) (D : Nat → Prop) (v : Value) (S : FS) (no : Nat) (h : StAt w D v S) (hl : S.l.length ≤ 8) (hr : ∀ f ∈ S.l, f.row.length ≤ 100000) :
    Calls Try.prog 52 #[v, .int .i64 (no : Int)] w fun e w' => e = .returned (.int .i64 (FS.rank S.l no : Int)) ∧ Below w.heap.size w w' := by
  obtain ⟨A, c, vs, rfl, hrd, ha⟩ := h
  have HLen := Lib.hid (all2_len ha)
  have hvl : vs.length ≤ 8 := by have := HLen.out; omega
  have hb := (Below.refl _ w).alloc (Nat.le_refl _) (.cells (stC A vs.length c S).toArray 29)
  have hx := BxA.new w 29 (stC A vs.length c S)
  have x0 := hx.c 0 rfl
  have H := Lib.hid (hrd.below hb)
  have HA := Lib.hid (all2_imp (fun _ _ h => FileR.below h hb) ha)
  have HB := Lib.hid hb
  have HRw := Lib.hid hr
  have HMax := Lib.hid (rank_le S.l no 100000 hr)
  have HEnd : Hid (FS.rank (S.l.take vs.length) no = FS.rank S.l no) := Lib.hid (by rw [HLen.out, List.take_length])
  clear hrd ha hb hx hr hl
  unfold stV
  go_enter Try.func52, Try.ntmps52
  obtain ⟨W, hW⟩ : ∃ W, w.alloc (.cells (stC A vs.length c S).toArray 29) = W := ⟨_, rfl⟩
  rw [hW] at H HB HA x0
  go_wp2_with fail
  clear hW
  go_loopw [5, 6, 7] (fun v5 v6 v7 wr => ∃ k : Nat, k ≤ vs.length ∧ v6 = .int .i64 (k : Int) ∧ v5 = .int .i64 (FS.rank (S.l.take k) no : Int) ∧ wr = W) (fun _ v6 _ _ => vs.length - (intOf v6).toNat)
  case atStart => exact ⟨0, Nat.zero_le _, rfl, rfl, rfl⟩
  case round =>
    obtain ⟨k, hk, rfl, rfl, rfl⟩ := hrel
    have hm := HMax.out k (by have := HLen.out; omega)
    by_cases hlt : k < vs.length
    · obtain ⟨g, o, q, rfl, hg, hq, c0, c1, c2⟩ := file_at H.out hlt
      obtain ⟨f, hf, hfr⟩ := all2_get HA.out hq
      obtain ⟨ps, hps, hpa⟩ := hfr.row
      have hkl : (k : Int) < (vs.length : Int) := by omega
      have hrn := hfr.rn
      have HS := Lib.hid (rank_take S.l no k hf)
      have hrl : f.row.length ≤ 100000 := HRw.out f (List.mem_of_getElem? hf)
      have HPs := Lib.hid hps
      have HPa := Lib.hid hpa
      have HPl := Lib.hid (all2_len hpa)
      rw [hrn] at c2
      clear hq hf hfr c0 c1 hrn hps hpa HMax
      generalize FS.rank (S.l.take k) no = z at *
      go_wp2_with fail
      go_loopw [5, 7] (fun v5 v7 wq => ∃ j : Nat, j ≤ f.row.length ∧ v7 = .int .i64 (j : Int) ∧ v5 = .int .i64 ((z + ((f.row.take j).filter fun p => decide (p.no < no)).length : Nat) : Int) ∧ wq = wr) (fun _ v7 _ => f.row.length - (intOf v7).toNat)
      case atStart => exact ⟨0, Nat.zero_le _, rfl, by simp, rfl⟩
      case round =>
        obtain ⟨j, hj, rfl, rfl, rfl⟩ := hrel
        have hfl : ((f.row.take j).filter fun p => decide (p.no < no)).length ≤ 100000 := by
          have h1 : ((f.row.take j).filter fun p => decide (p.no < no)).length ≤ (f.row.take j).length := List.length_filter_le _ _
          rw [List.length_take] at h1
          omega
        by_cases hjl : j < f.row.length
        · obtain ⟨g2, o2, q2, hR2, hg2, hq2, d0, d1, d2⟩ := part_at HPs.out (k := j) (by rw [HPl.out]; exact hjl)
          obtain ⟨p, hp, hpr⟩ := all2_get HPa.out hq2
          have HT := Lib.hid (filt_take f.row no j hp)
          have hno := hpr.no
          rw [hR2] at c2
          have hjli : (j : Int) < (f.row.length : Int) := by omega
          rw [hno] at d0
          clear hq2 hp hpr d1 d2 hno hR2
          generalize ((f.row.take j).filter fun p => decide (p.no < no)).length = y at *
          by_cases hpn : p.no < no
          · rw [if_pos hpn] at HT
            have hpi : (p.no : Int) < (no : Int) := by omega
            clear hpn
            go_wp2_with fail
            go_roundw
            case rel => exact ⟨j + 1, by omega, by go_num, by rw [HT.out]; go_num, trivial⟩
            case measure => simp [intOf]; omega
          · rw [if_neg hpn] at HT
            have hpi : ¬ (p.no : Int) < (no : Int) := by omega
            clear hpn
            go_wp2_with fail
            go_roundw
            case rel => exact ⟨j + 1, by omega, by go_num, by rw [HT.out]; go_num, trivial⟩
            case measure => simp [intOf]; omega
        · obtain rfl : j = f.row.length := by omega
          rw [List.take_length] at *
          go_wp2_with fail
          go_roundw
          case rel => exact ⟨k + 1, by omega, by go_num, by rw [HS.out], trivial⟩
          case measure => simp [intOf]; omega
    · obtain rfl : k = vs.length := by omega
      rw [HEnd.out]
      go_wp2_with fail
      go_ret
      exact ⟨rfl, HB.out⟩
end
section
open Go
def nA : ByteArray := ⟨#[97]⟩
def nB : ByteArray := ⟨#[98]⟩
/-- The writes of one file, one behind the other. -/
def partsF : Nat → Nat → List (List UInt8) → List PartF
  | _, _, [] => []
  | i, n, b :: l => ⟨i, n, b⟩ :: partsF (i + 1) (n + b.length) l
theorem parts_snoc : ∀ (l : List (List UInt8)) (i n : Nat) (b : List UInt8), partsF i n (l ++ [b]) = partsF i n l ++ [⟨i + l.length, n + l.flatten.length, b⟩]
  | [], i, _, b => by simp [partsF]
  | a :: l, i, n, b => by
    rw [List.cons_append, partsF, parts_snoc l (i + 1) (n + a.length) b, partsF, List.cons_append, List.length_cons, List.flatten_cons, List.length_append]
    have e1 : i + 1 + l.length = i + (l.length + 1) := by omega
    have e2 : n + a.length + l.flatten.length = n + (a.length + l.flatten.length) := by omega
    rw [e1, e2]
theorem parts_behind : ∀ (l : List (List UInt8)) (i n : Nat), Behind n (partsF i n l)
  | [], _, _ => trivial
  | _ :: l, i, _ => ⟨rfl, parts_behind l (i + 1) _⟩
theorem parts_bytes : ∀ (l : List (List UInt8)) (i n : Nat), (partsF i n l).map PartF.b = l
  | [], _, _ => rfl
  | b :: l, i, n => by rw [partsF, List.map_cons, parts_bytes l]
theorem parts_no : ∀ (l : List (List UInt8)) (i n : Nat), ∀ p ∈ partsF i n l, i ≤ p.no ∧ p.no < i + l.length
  | [], _, _, p, hp => by cases hp
  | b :: l, i, n, p, hp => by
    rw [partsF] at hp
    rw [List.length_cons]
    rcases List.mem_cons.1 hp with rfl | hp
    · exact ⟨Nat.le_refl _, by show i < _; omega⟩
    · have := parts_no l (i + 1) _ p hp
      omega
/-- The one file with its writes. -/
def oneF (l : List (List UInt8)) : FileF := ⟨nA, [], partsF 0 0 l⟩
theorem one_all (l : List (List UInt8)) : (oneF l).all = l.flatten := by
  rw [FileF.all_is (f := oneF l) (parts_behind l 0 0)]
  show [] ++ ((partsF 0 0 l).map PartF.b).flatten = _
  rw [parts_bytes, List.nil_append]
/-- The file system with so many writes behind it, and these of them not lost to a fault. -/
def holeS (l : List (List UInt8)) (ops : Nat) (fault : Int) : FS := ⟨if l = [] then [] else [oneF l], l.length, ops, -1, fault, false⟩
theorem hole_found (l : List (List UInt8)) (o : Nat) (z : Int) : (holeS l o z).found nA = oneF l := by
  unfold FS.found holeS
  simp only
  split
  · rename_i e; subst e; rfl
  · unfold findF
    rw [List.find?_cons_of_pos (by simp [oneF])]
    rfl
theorem hole_put (l : List (List UInt8)) (o : Nat) (z : Int) (b : List UInt8) : (holeS l o z).put (oneF l) b = holeS (l ++ [b]) o z := by
  have e : ({ oneF l with row := (oneF l).row ++ [⟨l.length, (oneF l).all.length, b⟩] } : FileF) = oneF (l ++ [b]) := by
    rw [one_all]
    unfold oneF
    simp only
    rw [parts_snoc, Nat.zero_add, Nat.zero_add]
  unfold FS.put
  show ({ (holeS l o z) with l := withF (holeS l o z).l { oneF l with row := (oneF l).row ++ [⟨l.length, (oneF l).all.length, b⟩] }, no := l.length + 1 } : FS) = _
  rw [e]
  unfold holeS
  have e2 : l ++ [b] ≠ [] := by simp
  simp only [if_neg e2, List.length_append, List.length_singleton]
  congr 1
  split
  · rfl
  · unfold withF withoutF
    rw [List.filter_cons_of_neg (by simp [oneF])]
    rfl
theorem hole_write (l : List (List UInt8)) (o : Nat) (z : Int) (b : List UInt8) (h : l.flatten.length + b.length ≤ 65536) :
    (holeS l o z).write nA b = if z = 0 then (holeS l (o + 1) (-1), 102) else (holeS (l ++ [b]) (o + 1) (if 0 ≤ z then z - 1 else z), 0) := by
  have h1 : ¬(nameF nA = false ∨ (findF (holeS l o z).l nA).isNone ∧ 8 ≤ (holeS l o z).l.length) := by
    rintro (h | ⟨_, h⟩)
    · revert h; decide
    · unfold holeS at h
      simp only at h
      split at h <;> simp at h
  have h2 : ¬65536 < ((holeS l o z).found nA).all.length + b.length := by rw [hole_found, one_all]; omega
  have hc : (holeS l o z).burn.count = holeS l (o + 1) (if 0 ≤ z then z - 1 else z) := rfl
  unfold FS.write
  rw [if_neg (show ¬(holeS l o z).down = true by simp [holeS]), if_neg h1, if_neg h2, hole_found, hc]
  show (if z = 0 then _ else _) = _
  split
  · rename_i e; subst e; rfl
  · rw [hole_put]; rfl
/-- What a crash leaves, as the law says it. -/
def wantStep (ks : List Bool) (k : Nat) (all want b : List UInt8) : List UInt8 :=
  if FS.kept ks k = true ∧ b ≠ [] then want ++ List.replicate (all.length - want.length) 0 ++ b else want
def wantL (ks : List Bool) : Nat → List UInt8 → List UInt8 → List (List UInt8) → List UInt8
  | _, _, want, [] => want
  | k, all, want, b :: l => wantL ks (k + 1) (all ++ b) (wantStep ks k all want b) l
theorem want_is (ks : List Bool) : ∀ (l : List (List UInt8)) (i : Nat) (all want : List UInt8), want.length ≤ all.length →
    ((partsF i all.length l).filter fun p => FS.kept ks p.no).foldl overL want = wantL ks i all want l ∧ (wantL ks i all want l).length ≤ (all ++ l.flatten).length
  | [], i, all, want, h => ⟨rfl, by simpa [wantL] using h⟩
  | b :: l, i, all, want, h => by
    have hs : (wantStep ks i all want b).length ≤ (all ++ b).length := by
      unfold wantStep
      split
      · simp only [List.length_append, List.length_replicate]; omega
      · rw [List.length_append]; omega
    have ih := want_is ks l (i + 1) (all ++ b) (wantStep ks i all want b) hs
    rw [List.length_append] at ih
    rw [partsF, wantL, List.flatten_cons, ← List.append_assoc]
    refine ⟨?_, ih.2⟩
    by_cases hk : FS.kept ks i = true
    · rw [List.filter_cons_of_pos (by exact hk), List.foldl_cons, ← ih.1]
      congr 1
      rw [over_far _ _ (by exact h)]
      unfold wantStep
      by_cases hb : b = []
      · rw [if_pos hb, if_neg (fun h => h.2 hb)]
      · rw [if_neg hb, if_pos ⟨hk, hb⟩]
    · rw [List.filter_cons_of_neg (by exact hk), ← ih.1]
      congr 1
      unfold wantStep
      rw [if_neg (fun h => hk h.1)]
theorem filter_lt (l : List (List UInt8)) : ∀ (i n k : Nat), k ≤ l.length → ((partsF i n l).filter fun p => decide (p.no < i + k)).length = k := by
  induction l with
  | nil => intro i n k hk; have : k = 0 := by simpa using hk
           subst this; rfl
  | cons b l ih =>
    intro i n k hk
    rw [partsF]
    cases k with
    | zero =>
      rw [List.filter_eq_nil_iff.2]
      · rfl
      · intro p hp
        have := parts_no (b :: l) i n p (by rw [partsF]; exact hp)
        simp
        omega
    | succ k =>
      rw [List.filter_cons_of_pos (by show decide (i < i + (k + 1)) = true; exact decide_eq_true (by omega)), List.length_cons]
      have := ih (i + 1) (n + b.length) k (by rw [List.length_cons] at hk; omega)
      have e : i + (k + 1) = i + 1 + k := by omega
      rw [e, this]
theorem one_rank (l : List (List UInt8)) (p : PartF) (hp : p ∈ partsF 0 0 l) : FS.rank [oneF l] p.no = p.no := by
  have h1 := parts_no l 0 0 p hp
  have h2 := filter_lt l 0 0 p.no (by omega)
  unfold FS.rank
  simp only [List.map_cons, List.map_nil, List.sum_cons, List.sum_nil, Nat.add_zero]
  rw [Nat.zero_add] at h2
  exact h2
/-- What is read behind a crash. -/
theorem hole_crash (l : List (List UInt8)) (o : Nat) (z : Int) (ks : List Bool) : ((holeS l o z).crash ks).read nA = if l = [] then ([], 101) else (wantL ks 0 [] [] l, 0) := by
  unfold FS.read FS.crash
  rw [if_neg (by simp)]
  by_cases hl : l = []
  · subst hl; rfl
  · rw [if_neg hl]
    have e : (holeS l o z).l = [oneF l] := by unfold holeS; exact if_neg hl
    simp only [e, List.map_cons, List.map_nil]
    unfold findF
    rw [List.find?_cons_of_pos (by simp [FS.crash1, oneF])]
    show (_, (0 : Int)) = _
    congr 1
    show ((partsF 0 0 l).filter fun p => FS.kept ks (FS.rank [oneF l] p.no)).foldl overL [] = _
    rw [List.filter_congr (q := fun p => FS.kept ks p.no) (fun p hp => by show FS.kept ks (FS.rank [oneF l] p.no) = _; rw [one_rank l p hp])]
    exact (want_is ks l 0 [] [] (Nat.le_refl _)).1
theorem hole_read (l : List (List UInt8)) (o : Nat) (z : Int) (hl : l ≠ []) : (holeS l o z).read nA = (l.flatten, 0) := by
  have e : (holeS l o z).l = [oneF l] := by unfold holeS; exact if_neg hl
  unfold FS.read
  rw [if_neg (show ¬(holeS l o z).down = true by simp [holeS]), e]
  unfold findF
  rw [List.find?_cons_of_pos (by simp [oneF])]
  show ((oneF l).all, (0 : Int)) = _
  rw [one_all]
theorem hole_new : FS.new = holeS [] 0 (-1) := rfl
end
section
open Go
/-- These bytes of this file are synced. -/
def Surv (S : FS) (n : ByteArray) (b : List UInt8) : Prop := ∃ f, findF S.l n = some f ∧ b <+: f.b
theorem find_with_ne {l : List FileF} (h : RisF l) {x : FileF} {n : ByteArray} (hn : n ≠ x.name) : findF (withF l x) n = findF l n := by
  cases hf : findF l n with
  | none =>
    rw [findF_none] at hf ⊢
    intro f hm
    rcases mem_with.1 hm with rfl | ⟨h1, _⟩
    · exact fun e => hn e.symm
    · exact hf f h1
  | some g =>
    obtain ⟨h1, h2⟩ := (findF_some h).1 hf
    exact (findF_some (h.with_ x)).2 ⟨mem_with.2 (.inr ⟨h1, by rw [h2]; exact hn⟩), h2⟩
theorem find_with_eq {l : List FileF} (h : RisF l) (x : FileF) : findF (withF l x) x.name = some x := (findF_some (h.with_ x)).2 ⟨mem_with.2 (.inl rfl), rfl⟩
theorem find_without {l : List FileF} (h : RisF l) {n m : ByteArray} (hn : n ≠ m) : findF (withoutF l m) n = findF l n := by
  cases hf : findF l n with
  | none =>
    rw [findF_none] at hf ⊢
    exact fun f hm => hf f (mem_without.1 hm).1
  | some g =>
    obtain ⟨h1, h2⟩ := (findF_some h).1 hf
    exact (findF_some (h.without m)).2 ⟨mem_without.2 ⟨h1, by rw [h2]; exact hn⟩, h2⟩
theorem find_with_at {l : List FileF} (h : RisF l) (x : FileF) {n : ByteArray} (e : x.name = n) : findF (withF l x) n = some x := by
  rw [← e]
  exact find_with_eq h x
/-- A write leaves what is synced. -/
theorem Surv.write {S : FS} (hS : S.Ok) {n : ByteArray} {b : List UInt8} (h : Surv S n b) (m : ByteArray) (x : List UInt8) : Surv (S.write m x).1 n b := by
  unfold FS.write
  split
  · exact h
  · split
    · exact h
    · split
      · exact h
      · split
        · exact h
        · obtain ⟨f, hf, hb⟩ := h
          have hfm : (S.found m).name = m := by
            rcases hS.found m with ⟨_, _, h3⟩ | ⟨_, h3⟩
            · exact h3
            · rw [h3]
          show Surv (S.burn.count.put (S.found m) x) n b
          unfold FS.put
          by_cases e : n = m
          · subst e
            have h3 : S.found n = f := by unfold FS.found; rw [hf]; rfl
            exact ⟨_, find_with_at hS.ris { S.found n with row := (S.found n).row ++ [⟨S.burn.count.no, (S.found n).all.length, x⟩] } hfm, by show b <+: (S.found n).b; rw [h3]; exact hb⟩
          · refine ⟨f, ?_, hb⟩
            show findF (withF S.l _) n = _
            rw [find_with_ne hS.ris (by show n ≠ (S.found m).name; rw [hfm]; exact e)]
            exact hf
/-- An op of a known file: what it leaves, if its own change does. -/
theorem Surv.known {S : FS} {n : ByteArray} {b : List UInt8} (h : Surv S n b) (m : ByteArray) (ok : Bool) (g : FileF → List FileF)
    (hg : (S.known m ok g).2 = 0 → ∀ f, findF S.l m = some f → Surv { S with l := g f } n b) : Surv (S.known m ok g).1 n b := by
  unfold FS.known at hg ⊢
  split
  · exact h
  · rename_i h1
    rw [if_neg h1] at hg
    split
    · exact h
    · rename_i f hf
      rw [hf] at hg
      simp only at hg
      split
      · exact h
      · rename_i h2
        rw [if_neg h2] at hg
        split
        · exact h
        · rename_i h3
          rw [if_neg h3] at hg
          exact hg rfl f rfl
theorem Surv.sync {S : FS} (hS : S.Ok) {n : ByteArray} {b : List UInt8} (h : Surv S n b) (m : ByteArray) : Surv (S.sync m).1 n b := by
  refine h.known _ _ _ fun _ f hf => ?_
  obtain ⟨g, hg, hb⟩ := h
  obtain ⟨h1, h2⟩ := (findF_some hS.ris).1 hf
  by_cases e : n = m
  · subst e
    rw [hf] at hg
    injection hg with hg
    subst hg
    exact ⟨_, find_with_at hS.ris { f with b := f.all, row := [] } h2, hb.trans (show f.b <+: f.all by rw [FileF.all_is (hS.beh f h1)]; exact List.prefix_append _ _)⟩
  · exact ⟨g, (find_with_ne hS.ris (by show n ≠ f.name; rw [h2]; exact e)).trans hg, hb⟩
theorem Surv.rename {S : FS} (hS : S.Ok) {n : ByteArray} {b : List UInt8} (h : Surv S n b) (m t : ByteArray) (hn : (S.rename m t).2 = 0 → n ≠ m ∧ n ≠ t) : Surv (S.rename m t).1 n b := by
  refine h.known _ _ _ fun h0 f hf => ?_
  obtain ⟨e1, e2⟩ := hn h0
  obtain ⟨g, hg, hb⟩ := h
  exact ⟨g, ((find_with_ne (hS.ris.without m) (by show n ≠ t; exact e2)).trans (find_without hS.ris e1)).trans hg, hb⟩
theorem Surv.remove {S : FS} (hS : S.Ok) {n : ByteArray} {b : List UInt8} (h : Surv S n b) (m : ByteArray) (hn : (S.remove m).2 = 0 → n ≠ m) : Surv (S.remove m).1 n b := by
  refine h.known _ _ _ fun h0 f hf => ?_
  obtain ⟨g, hg, hb⟩ := h
  exact ⟨g, (find_without hS.ris (hn h0)).trans hg, hb⟩
theorem Surv.cut {S : FS} (hS : S.Ok) {n : ByteArray} {b : List UInt8} (h : Surv S n b) (m : ByteArray) (k : Int) (hn : (S.cut m k).2 = 0 → n ≠ m) : Surv (S.cut m k).1 n b := by
  refine h.known _ _ _ fun h0 f hf => ?_
  obtain ⟨g, hg, hb⟩ := h
  exact ⟨g, (find_with_ne hS.ris (by show n ≠ f.name; rw [((findF_some hS.ris).1 hf).2]; exact hn h0)).trans hg, hb⟩
/-- What was synced by a Sync that is OK is what is then read. -/
theorem Surv.synced {S : FS} (hS : S.Ok) (m : ByteArray) (h0 : (S.sync m).2 = 0) : ∃ b, (S.sync m).1.read m = (b, 0) ∧ Surv (S.sync m).1 m b := by
  unfold FS.sync FS.known at h0 ⊢
  by_cases hd : S.down = true
  · rw [if_pos hd] at h0; exact absurd (show (100 : Int) = 0 from h0) (by decide)
  · rw [if_neg hd] at h0 ⊢
    cases hf : findF S.l m with
    | none => rw [hf] at h0; exact absurd (show (101 : Int) = 0 from h0) (by decide)
    | some f =>
      rw [hf] at h0
      simp only at h0 ⊢
      rw [if_neg (by decide)] at h0 ⊢
      by_cases hc : S.count.down = true
      · rw [if_pos hc] at h0; exact absurd (show (100 : Int) = 0 from h0) (by decide)
      · rw [if_neg hc] at h0 ⊢
        obtain ⟨h1, h2⟩ := (findF_some hS.ris).1 hf
        have h4 := find_with_at hS.ris { f with b := f.all, row := [] } h2
        refine ⟨f.all, ?_, ⟨_, h4, List.prefix_refl _⟩⟩
        unfold FS.read
        simp only
        rw [if_neg hc, h4]
        rfl
theorem find_map {l : List FileF} (g : FileF → FileF) (hg : ∀ f, (g f).name = f.name) (n : ByteArray) : findF (l.map g) n = (findF l n).map g := by
  unfold findF
  rw [List.find?_map]
  congr 1
  congr 1
  funext f
  show decide ((g f).name = n) = _
  rw [hg]
/-- It is there behind a crash, at the head of what is read. -/
theorem Surv.crash {S : FS} (hS : S.Ok) {n : ByteArray} {b : List UInt8} (h : Surv S n b) (ks : List Bool) : ∃ c, (S.crash ks).read n = (c, 0) ∧ b <+: c := by
  obtain ⟨f, hf, hb⟩ := h
  have hm := ((findF_some hS.ris).1 hf).1
  refine ⟨(FS.crash1 S.l ks f).all, ?_, ?_⟩
  · unfold FS.read FS.crash
    rw [if_neg (by simp)]
    simp only
    rw [find_map (FS.crash1 S.l ks) (fun _ => rfl), hf]
    rfl
  · exact hb.trans (foldl_kept (fun p => FS.kept ks (FS.rank S.l p.no)) f.row f.b.length f.b (hS.beh f hm) (Nat.le_refl _)).1
/-- A crash that keeps all, and one that keeps none. -/
theorem crash_all {S : FS} (f : FileF) (hf : f ∈ S.l) (hS : S.Ok) : ((S.crash [true]).read f.name) = (f.all, 0) := by
  unfold FS.read FS.crash
  rw [if_neg (by simp)]
  simp only
  rw [find_map (FS.crash1 S.l [true]) (fun _ => rfl), (findF_some hS.ris).2 ⟨hf, rfl⟩]
  show (((f.row.filter fun p => FS.kept [true] (FS.rank S.l p.no)).foldl overL f.b), (0 : Int)) = _
  rw [List.filter_eq_self.2]
  · rfl
  · intro p _
    unfold FS.kept
    rw [List.length_singleton, Nat.mod_one]
    rfl
theorem crash_none {S : FS} (f : FileF) (hf : f ∈ S.l) (hS : S.Ok) : ((S.crash []).read f.name) = (f.b, 0) := by
  unfold FS.read FS.crash
  rw [if_neg (by simp)]
  simp only
  rw [find_map (FS.crash1 S.l []) (fun _ => rfl), (findF_some hS.ris).2 ⟨hf, rfl⟩]
  show (((f.row.filter fun p => FS.kept [] (FS.rank S.l p.no)).foldl overL f.b), (0 : Int)) = _
  rw [List.filter_eq_nil_iff.2 (fun p _ => by simp [FS.kept])]
  rfl
theorem crash_pend (S : FS) (ks : List Bool) : (S.crash ks).pend = 0 := by
  unfold FS.pend FS.crash
  simp only
  rw [List.map_map]
  generalize S.l = l
  generalize hl : l = l2
  clear hl
  show (l2.map fun _ => 0).sum = 0
  induction l2 with
  | nil => rfl
  | cons a t ih => rw [List.map_cons, List.sum_cons, ih]
/-- Nothing is armed: ops leave it so. -/
structure FS.Up (S : FS) : Prop where
  down : S.down = false
  fuse : S.fuse = -1
theorem FS.Up.count {S : FS} (h : S.Up) : S.count.Up := ⟨by unfold FS.count; simp only; rw [h.down, h.fuse]; rfl, by unfold FS.count; simp only; rw [h.fuse]; rfl⟩
theorem FS.Up.known {S : FS} (h : S.Up) (n : ByteArray) (ok : Bool) (g : FileF → List FileF) : (S.known n ok g).1.Up := by
  unfold FS.known
  have hc := h.count
  split
  · exact h
  · split
    · exact h
    · split
      · exact h
      · split
        · exact hc
        · exact ⟨hc.down, hc.fuse⟩
theorem FS.Up.write {S : FS} (h : S.Up) (n : ByteArray) (x : List UInt8) : (S.write n x).1.Up := by
  have hc : S.burn.count.Up := FS.Up.count ⟨h.down, h.fuse⟩
  unfold FS.write
  repeat' split
  · exact h
  · exact h
  · exact h
  all_goals first | exact hc | exact ⟨hc.down, hc.fuse⟩
theorem FS.Up.does {S : FS} (h : S.Up) (o : OpF) (h0 : 0 ≤ o.k) (h4 : o.k ≤ 4) : (doF S o).1.Up := by
  unfold doF
  repeat' split
  · omega
  · omega
  · omega
  · omega
  · exact h.write _ _
  · exact h.known _ _ _
  · exact h.known _ _ _
  · exact h.known _ _ _
  · exact h.known _ _ _
theorem FS.Up.read {S : FS} (h : S.Up) (hS : S.Ok) (f : FileF) (hf : f ∈ S.l) : S.read f.name = (f.all, 0) := by
  unfold FS.read
  rw [if_neg (by rw [h.down]; decide), (findF_some hS.ris).2 ⟨hf, rfl⟩]
end
section
open Go
/-- It was armed for the n-th op, when there had been none. -/
structure FS.Armed (n : Int) (S : FS) : Prop where
  down : S.down = (decide (0 ≤ n) && decide (n < S.ops))
  fuse : S.down = false → S.fuse = if 0 ≤ n then n - S.ops else -1
theorem FS.Armed.new (n : Int) : (FS.new.arm n).Armed n := by
  refine ⟨?_, fun _ => ?_⟩
  · show false = (decide (0 ≤ n) && decide (n < ((0 : Nat) : Int)))
    rcases Int.lt_or_le n 0 with h | h
    · rw [decide_eq_false (by omega : ¬0 ≤ n)]; rfl
    · rw [decide_eq_false (by omega : ¬n < ((0 : Nat) : Int)), Bool.and_false]
  · show max n (-1) = if 0 ≤ n then n - ((0 : Nat) : Int) else -1
    split <;> omega
theorem FS.Armed.count {n : Int} {S : FS} (h : S.Armed n) (hd : S.down = false) : S.count.Armed n := by
  have h1 := h.down
  have h2 := h.fuse hd
  rw [hd] at h1
  refine ⟨?_, fun hc => ?_⟩
  · show (S.down || decide (S.fuse = 0)) = (decide (0 ≤ n) && decide (n < ((S.ops + 1 : Nat) : Int)))
    rw [hd, Bool.false_or]
    by_cases hn : 0 ≤ n
    · rw [if_pos hn] at h2
      rw [decide_eq_true hn, Bool.true_and] at h1 ⊢
      have h3 := of_decide_eq_false h1.symm
      rw [decide_eq_decide]
      omega
    · rw [if_neg hn] at h2
      rw [decide_eq_false hn, Bool.false_and, h2]
      rfl
  · have hc2 : (S.down || decide (S.fuse = 0)) = false := hc
    rw [hd, Bool.false_or] at hc2
    have h3 := of_decide_eq_false hc2
    show (if 0 ≤ S.fuse then S.fuse - 1 else S.fuse) = if 0 ≤ n then n - ((S.ops + 1 : Nat) : Int) else -1
    by_cases hn : 0 ≤ n
    · rw [if_pos hn] at h2
      rw [decide_eq_true hn, Bool.true_and] at h1
      have h4 := of_decide_eq_false h1.symm
      rw [if_pos hn, if_pos (by omega)]
      omega
    · rw [if_neg hn] at h2 ⊢
      rw [if_neg (by omega), h2]
/-- What a call of a file that is there leaves, and says. -/
theorem FS.Armed.known {n : Int} {S : FS} (h : S.Armed n) (hd : S.down = false) (m : ByteArray) (ok : Bool) (g : FileF → List FileF) :
    (S.known m ok g).1.Armed n ∧ (S.known m ok g).1.down = decide ((S.known m ok g).2 = 100) := by
  have hc := h.count hd
  unfold FS.known
  rw [if_neg (by rw [hd]; decide)]
  split
  · exact ⟨h, hd⟩
  · split
    · exact ⟨h, hd⟩
    · split
      · rename_i h1
        exact ⟨hc, h1⟩
      · rename_i h1
        exact ⟨⟨hc.down, hc.fuse⟩, by simpa using h1⟩
theorem FS.Armed.write {n : Int} {S : FS} (h : S.Armed n) (hd : S.down = false) (m : ByteArray) (x : List UInt8) :
    (S.write m x).1.Armed n ∧ (S.write m x).1.down = decide ((S.write m x).2 = 100) := by
  have hc : S.burn.count.Armed n := FS.Armed.count (S := S.burn) ⟨h.down, h.fuse⟩ hd
  unfold FS.write
  rw [if_neg (by rw [hd]; decide)]
  split
  · exact ⟨h, hd⟩
  · split
    · exact ⟨h, hd⟩
    · split
      · refine ⟨hc, ?_⟩
        simp only
        cases S.burn.count.down <;> rfl
      · refine ⟨⟨hc.down, hc.fuse⟩, ?_⟩
        show S.burn.count.down = _
        simp only
        cases S.burn.count.down <;> rfl
theorem FS.Armed.does {n : Int} {S : FS} (h : S.Armed n) (o : OpF) (h0 : 0 ≤ o.k) (h4 : o.k ≤ 4) :
    (doF S o).1.Armed n ∧ (S.down = true → doF S o = (S, 100)) ∧ (S.down = false → (doF S o).1.down = decide ((doF S o).2 = 100)) := by
  have hall : ∀ r : FS × Int, (S.down = true → r = (S, 100)) → (S.down = false → r.1.Armed n ∧ r.1.down = decide (r.2 = 100)) → r.1.Armed n ∧ (S.down = true → r = (S, 100)) ∧ (S.down = false → r.1.down = decide (r.2 = 100)) := fun r h1 h2 => by
    refine ⟨?_, h1, fun hd => (h2 hd).2⟩
    cases hd : S.down with
    | true => rw [h1 hd]; exact h
    | false => exact (h2 hd).1
  unfold doF
  repeat' split
  · omega
  · omega
  · omega
  · omega
  · exact hall _ (fun hd => by unfold FS.write; rw [if_pos hd]) fun hd => h.write hd _ _
  · exact hall _ (fun hd => by unfold FS.sync FS.known; rw [if_pos hd]) fun hd => h.known hd _ _ _
  · exact hall _ (fun hd => by unfold FS.rename FS.known; rw [if_pos hd]) fun hd => h.known hd _ _ _
  · exact hall _ (fun hd => by unfold FS.remove FS.known; rw [if_pos hd]) fun hd => h.known hd _ _ _
  · exact hall _ (fun hd => by unfold FS.cut FS.known; rw [if_pos hd]) fun hd => h.known hd _ _ _
/-- The law's alive: the file system's states. -/
def al2 : FS := holeS [[1], [2]] 2 (-1)
theorem al_write1 : FS.new.write nA [1] = (holeS [[1]] 1 (-1), 0) := by
  rw [hole_new, hole_write _ _ _ _ (by decide)]
  rfl
theorem al_write2 : (holeS [[1]] 1 (-1)).write nA [2] = (al2, 0) := by
  rw [hole_write _ _ _ _ (by decide)]
  rfl
theorem al_crash : (al2.crash [false, true]).read nA = ([0, 2], 0) := by
  unfold al2
  rw [hole_crash]
  rfl
theorem al_read : al2.read nA = ([1, 2], 0) := hole_read _ _ _ (by simp)
theorem al_fault : (al2.fault_ 0).write nA [] = (holeS [[1], [2]] 3 (-1), 102) := by
  show (holeS [[1], [2]] 2 0).write nA [] = _
  rw [hole_write _ _ _ _ (by decide)]
  rfl
def alB (b : List UInt8) (row : List PartF) (ops : Nat) : FS := ⟨[⟨nB, b, row⟩], 2, ops, -1, -1, false⟩
theorem al_rename : (holeS [[1], [2]] 3 (-1)).rename nA nB = (alB [] [⟨0, 0, [1]⟩, ⟨1, 1, [2]⟩] 4, 0) := by rfl
theorem al_cut : (alB [] [⟨0, 0, [1]⟩, ⟨1, 1, [2]⟩] 4).cut nB 1 = (alB [1] [] 5, 0) := by rfl
theorem al_remove : (alB [1] [] 5).remove nB = (⟨[], 2, 6, -1, -1, false⟩, 0) := by rfl
theorem al_sync : ((al2.crash [false, true]).arm 0).sync nA = ((FS.mk [⟨nA, [0, 2], []⟩] 2 3 (-1) (-1) true), 100) := by rfl
end
end Go.Proofs.Ytaeiffpdnlejbaa
