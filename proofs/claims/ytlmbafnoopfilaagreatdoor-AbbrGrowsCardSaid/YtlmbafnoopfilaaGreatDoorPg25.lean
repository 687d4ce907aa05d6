/-
  Layer 7 and what it stands on, part 25 (TabName TabSet).
-/
import Derived.Test.YtlmbafnoopfilaaGreatDoorPg14
import Derived.Test.YtlmbafnoopfilaaGreatDoorPg16
import Derived.Test.YtlmbafnoopfilaaGreatDoorShelf
import Derived.Lib.IndexLaws
namespace Go.Proofs.YtlmbafnoopfilaaGreatDoor
section
open Go Go.RowKit
set_option maxRecDepth 100000
theorem blank_in (x : List UInt8) : decide (0 ≤ Lib.indexByte x 32) = !decide ((32 : UInt8) ∉ x) := by
  have hge := Lib.indexByte_ge x 32
  by_cases h : (32 : UInt8) ∈ x
  · have h0 : 0 ≤ Lib.indexByte x 32 := by
      apply Decidable.byContradiction
      intro hn
      have hm : Lib.indexByte x 32 = -1 := by omega
      obtain ⟨k, hk, he⟩ := List.getElem_of_mem h
      exact Lib.indexByte_none hm k (by rw [List.getElem?_eq_getElem hk, he])
    simp [h, h0]
  · have h0 : ¬ 0 ≤ Lib.indexByte x 32 := by
      intro hp
      obtain ⟨o, ho⟩ := Int.eq_ofNat_of_zero_le hp
      exact h (List.mem_of_getElem? (Lib.indexByte_some ho).1)
    simp [h, h0]
set_option maxHeartbeats 1000000 in
theorem isName_calls (x : List UInt8) (hx : x.length ≤ 137438953472) (w : World) :
    Calls Tryz.prog 28 #[.string (bs x)] w fun e w' => e = .returned (.bool (nameB (bs x))) ∧ Below w.heap.size w w' := by
  rw [nameB_bs]
  have HC : Hid (∀ w, Calls Tryz.prog 49 #[.string (bs x), .string ⟨#[32]⟩] w fun e w' => e = .returned (.bool (!decide ((32 : UInt8) ∉ x))) ∧ w = w') := Lib.hid (fun w => by
    rw [← blank_in]
    refine (Tryz.strings_Contains_one (bs x) 32 w).mono ?_
    rintro e w' ⟨rfl, rfl⟩
    exact ⟨rfl, rfl⟩)
  have HP := Lib.hid (fun W => plain_calls x hx W)
  have hsz := bs_size x
  by_cases h1 : 1 ≤ x.length
  · have q0 : ¬ x = [] := fun e => by rw [e] at h1; cases h1
    have q1 : x.isEmpty = false := by cases x with
      | nil => exact absurd rfl q0
      | cons => rfl
    rw [decide_eq_true h1, Bool.true_and]
    by_cases h2 : x.length ≤ 20
    · have q2 : (x.length : Int) ≤ 20 := by omega
      rw [decide_eq_true h2, Bool.true_and]
      cases h4 : decide ((32 : UInt8) ∉ x) with
      | false =>
        rw [h4] at HC
        rw [Bool.and_false]
        clear h4 h1 h2 HP
        go_enter Tryz.func28, Tryz.ntmps28
        go_wp2_with fail
        refine (HC.out _).mono ?_
        rintro e w1 ⟨rfl, rfl⟩
        clear HC
        go_wp2_with fail
        go_ret
        exact ⟨rfl, Below.refl _ _⟩
      | true =>
        rw [h4] at HC
        rw [Bool.and_true]
        have q3 : decide (plainL x = x) = (x == plainL x) := by
          by_cases h : plainL x = x
          · rw [h]; simp
          · rw [decide_eq_false h]; exact (beq_eq_false_iff_ne.2 (fun e => h e.symm)).symm
        rw [q3]
        clear h4 h1 h2 q3
        generalize plainL x = y at *
        go_enter Tryz.func28, Tryz.ntmps28
        go_wp2_with fail
        refine (HC.out _).mono ?_
        rintro e w1 ⟨rfl, rfl⟩
        clear HC
        go_wp2_with fail
        refine (HP.out _).mono ?_
        rintro e w1 ⟨rfl, hb⟩
        have HB := Lib.hid hb
        clear hb HP
        go_wp2_with fail
        go_ret
        exact ⟨rfl, HB.out⟩
    · have q2 : decide ((x.length : Int) ≤ 20) = false := decide_eq_false (by omega)
      rw [decide_eq_false h2, Bool.false_and, Bool.false_and]
      clear h1 h2 HC HP
      go_enter Tryz.func28, Tryz.ntmps28
      go_wp2_with fail
      go_ret
      exact ⟨rfl, Below.refl _ _⟩
  · obtain rfl : x = [] := List.length_eq_zero_iff.1 (by omega)
    rw [decide_eq_false h1, Bool.false_and, Bool.false_and, Bool.false_and]
    clear h1 HC HP
    go_enter Tryz.func28, Tryz.ntmps28
    go_wp2_with fail
    go_ret
    exact ⟨rfl, Below.refl _ _⟩
end
section
open Go Go.RowKit
set_option maxRecDepth 100000
theorem run_lenS {P : Program} {t kt et ty : TypeId} (ht : P.underlying t = some (.map kt et)) {α : Type} {V : α → Value} {w : World} {m : Nat} {ps : List (ByteArray × α)} (h : MapAt V w m ps) :
    (Builtin.len_ #[t] ty #[.map (some m)]).run P w = .ok (.int .i64 (ps.length : Int)) w := by
  obtain ⟨es, c, h1, h2, _⟩ := h
  have h3 := congrArg List.length h2
  rw [List.length_map, List.length_map, Array.length_toList] at h3
  simp [Builtin.len_, run_underlying ht, MapKept.run_getObj_map h1, h3, goInt]
theorem run_lenS_nil {P : Program} {t kt et ty : TypeId} (ht : P.underlying t = some (.map kt et)) (w : World) : (Builtin.len_ #[t] ty #[.map none]).run P w = .ok (.int .i64 0) w := by
  simp [Builtin.len_, run_underlying ht, goInt]
theorem eqlSome (m : Nat) (w : World) : (binOp .eql 27 (.map (some m)) (.map none)).run Tryz.prog w = .ok (.bool false) w := by kernel_rfl
theorem eqlNil (w : World) : (binOp .eql 27 (.map none) (.map none)).run Tryz.prog w = .ok (.bool true) w := by kernel_rfl
theorem nameB_size {n : ByteArray} (h : nameB n = true) : n.size ≤ 20 := by
  unfold nameB at h
  simp only [Bool.and_eq_true, decide_eq_true_eq] at h
  exact h.1.1.2
theorem setR_now {l : List PR} {n t : ByteArray} (h1 : nameB n = true) (h2 : ¬ 100 < (plainL (bl t)).length) (h3 : ¬ (getP l n = none ∧ 16 ≤ l.length)) : setR l n t = (insR (n, bs (plainL (bl t))) (dropR l n), 0) := by
  unfold setR
  rw [if_neg (by rw [h1]; simp), if_neg h2, if_neg (by rw [dropR_len]; exact h3)]
theorem setR_full {l : List PR} {n t : ByteArray} (h1 : nameB n = true) (h2 : ¬ 100 < (plainL (bl t)).length) (h3 : getP l n = none ∧ 16 ≤ l.length) : setR l n t = (l, 81) := by
  unfold setR
  rw [if_neg (by rw [h1]; simp), if_neg h2, if_pos (by rw [dropR_len]; exact h3)]
theorem setR_long {l : List PR} {n t : ByteArray} (h1 : nameB n = true) (h2 : 100 < (plainL (bl t)).length) : setR l n t = (l, 30) := by
  unfold setR
  rw [if_neg (by rw [h1]; simp), if_pos h2]
theorem setR_name {l : List PR} {n t : ByteArray} (h1 : nameB n = false) : setR l n t = (l, 80) := by
  unfold setR
  rw [if_pos h1]
theorem put_len {l : List PR} {n : ByteArray} (hl : l.length ≤ 16) (h3 : ¬ (getP l n = none ∧ 16 ≤ l.length)) (p : ByteArray) : (insR (n, p) (dropR l n)).length ≤ 16 := by
  rw [ins_length]
  have h4 := drop_length_le l n
  by_cases h : getP l n = none
  · have := dropR_len n |>.2 h
    have : ¬ 16 ≤ l.length := fun e => h3 ⟨h, e⟩
    omega
  · have : (dropR l n).length ≠ l.length := fun e => h ((dropR_len n).1 e)
    omega
/-- A pair is put into the map of a table. -/
theorem TabAt.put {w' : World} {O' : Nat → Prop} {b m : Nat} {l ps : List PR} {n p : ByteArray} (hr : Rising l) (hl : l.length ≤ 16) (hs : ∀ p ∈ l, p.1.size ≤ 20 ∧ p.2.size ≤ 100) (hn : n.size ≤ 20) (hp : p.size ≤ 100)
    (h3 : ¬ (getP l n = none ∧ 16 ≤ l.length)) (hlt : ∀ k, O' k → k < w'.heap.size) (hb : O' b) (hx : BxA w' b 29 [.map (some m)]) (hm : O' m) (hne : m ≠ b) (hma : MapAt meanV w' m (putP ps n p)) (hpe : ps.Perm l) :
    TabAt w' O' b (insR (n, p) (dropR l n)) := by
  refine ⟨(hr.drop n).ins (not_mem_drop l n), put_len hl h3 p, fun q hq => ?_, hlt, hb, .inr ⟨m, _, hx, hm, hne, hma, put_perm hpe hr.once n p⟩⟩
  rcases mem_ins.1 hq with rfl | hq
  · exact ⟨hn, hp⟩
  · exact hs q (List.mem_filter.1 hq).1
section
variable (w : World) (O : Nat → Prop) (b : Nat) (l : List PR) (h : TabAt w O b l)
include h
set_option maxHeartbeats 4000000 in
theorem tset_calls (n t : ByteArray) (hn : n.size ≤ 137438953472) (ht : t.size ≤ 137438953472) :
    Calls Tryz.prog 10 #[.pointer (some ⟨b, 0, none⟩), .string n, .string t] w fun e w' => e = .returned (.int .i64 (setR l n t).2) ∧ TabTo w O w' b (setR l n t).1 := by
  have HP : Hid (∀ W, Calls Tryz.prog 25 #[.string t] W fun e w' => e = .returned (.string (bs (plainL (bl t)))) ∧ Below W.heap.size W w') := Lib.hid (fun W => by
    have := plain_calls (bl t) (by unfold bl; simpa using ht) W
    rwa [bs_bl] at this)
  have HN : Hid (∀ W, Calls Tryz.prog 28 #[.string n] W fun e w' => e = .returned (.bool (nameB n)) ∧ Below W.heap.size W w') := Lib.hid (fun W => by
    have := isName_calls (bl n) (by unfold bl; simpa using hn) W
    rwa [bs_bl] at this)
  have H := Lib.hid h
  have hsz := bs_size (plainL (bl t))
  have hno := @setR_name l n t
  have hlong := @setR_long l n t
  have hfull := @setR_full l n t
  have hnow := @setR_now l n t
  have HNO := Lib.hid hno
  have HLO := Lib.hid hlong
  have HFU := Lib.hid hfull
  have HOK := Lib.hid hnow
  clear h hno hlong hfull hnow
  generalize setR l n t = res at *
  generalize plainL (bl t) = p at *
  have hto : ∀ W : World, Below w.heap.size w W → TabTo w O W b l := fun W hB => ⟨O, H.out.below hB, Only.of_below hB, fun k hk => .inl hk⟩
  have HTO := Lib.hid hto
  clear hto
  go_enter Tryz.func10, Tryz.ntmps10
  go_wp2_with fail
  refine (HP.out _).mono ?_
  rintro e w1 ⟨rfl, hb1⟩
  have HB1 := Lib.hid hb1
  clear hb1 HP
  go_wp2_with fail
  refine (tget_calls w1 O b l (H.out.below HB1.out) n).mono ?_
  rintro e w2 ⟨rfl, hb2⟩
  have HB2 := Lib.hid (HB1.out.trans (hb2.mono HB1.out.size))
  clear hb2 HB1
  go_wp2_with fail
  refine (HN.out _).mono ?_
  rintro e w3 ⟨rfl, hb3⟩
  have HB3 := Lib.hid (HB2.out.trans (hb3.mono HB2.out.size))
  clear hb3 HB2 HN
  cases hnm : nameB n with
  | false =>
    have HR := Lib.hid (HNO.out hnm)
    clear hnm HNO HLO HFU HOK
    go_wp2_with fail
    go_ret
    exact ⟨by rw [HR.out]; rfl, by rw [HR.out]; exact HTO.out _ HB3.out⟩
  | true =>
    by_cases h100 : 100 < p.length
    · have q1 : decide ((100 : Int) < (p.length : Int)) = true := decide_eq_true (by omega)
      have HR := Lib.hid (HLO.out hnm h100)
      clear hnm h100 HNO HLO HFU HOK
      go_wp2_with fail
      go_ret
      exact ⟨by rw [HR.out]; rfl, by rw [HR.out]; exact HTO.out _ HB3.out⟩
    · have q1 : ¬ ((100 : Int) < (p.length : Int)) := by omega
      have Hn20 := Lib.hid (nameB_size hnm)
      have Hp100 : Hid ((bs p).size ≤ 100) := Lib.hid (by rw [hsz]; omega)
      have h3 := H.out.below HB3.out
      rcases h3.is with ⟨hl0, hbx⟩ | ⟨m, ps, hbx, hOm, hmb, hma, hpe⟩
      · have hlen := run_lenS_nil (P := Tryz.prog) (ty := 3) Tryz.underlying27 w3
        have hgn : getP l n = none := by rw [hl0]; rfl
        have c0 := hbx.c 0 rfl
        have hnf : ¬ (getP l n = none ∧ 16 ≤ l.length) := fun e => by rw [hl0] at e; exact absurd e.2 (by decide)
        have HR := Lib.hid (HOK.out hnm h100 hnf)
        have hmm := @run_makeMap Tryz.prog
        have hen := eqlNil w3
        have hb4 := hbx.alloc (.map #[] 0)
        have hm4 : MapAt meanV ((w3.alloc (.map #[] 0)).setCell ⟨b, 0, none⟩ (.map (some w3.heap.size))) w3.heap.size [] := (MapAt.new w3).of_block (Below.heap_setCell _ ⟨b, 0, none⟩ _ _ (by have := hbx.lt; show w3.heap.size ≠ b; omega))
        have hb5 := hb4.set 0 (.map (some w3.heap.size))
        have c4 := hb4.c 0 rfl
        have f4 := hb4.free 0
        have c5 := hb5.c 0 rfl
        obtain ⟨w6, r6, hm6, ho6⟩ := run_putS (P := Tryz.prog) Tryz.underlying27 Tryz.underlying9 hm4 n (bs p)
        have hs4 : (w3.alloc (.map #[] 0)).heap.size = w3.heap.size + 1 := World.size_alloc _ _
        have ho3 : Only O w ((w3.alloc (.map #[] 0)).setCell ⟨b, 0, none⟩ (.map (some w3.heap.size))) := ((Only.of_below HB3.out).trans (Only.of_below ((Below.refl _ w3).alloc (Nat.le_refl _) _)) (fun _ e => .inl e)).set (p := ⟨b, 0, none⟩) (.inl h3.at_) _
        have HT : Hid (TabTo w O w6 b (insR (n, bs p) (dropR l n))) := Lib.hid (by
          have hw3 := HB3.out.size
          refine ⟨fun k => O k ∨ k = w3.heap.size, TabAt.put h3.rising h3.len h3.small Hn20.out Hp100.out hnf (fun k hk => ?_) (.inl h3.at_) (hb5.keep ho6 (fun (e : b = w3.heap.size) => by have := hbx.lt; omega)) (.inr rfl) (fun (e : w3.heap.size = b) => by have := hbx.lt; omega) hm6 (by rw [hl0]), ?_, fun k hk => ?_⟩
          · have h7 := ho6.size
            have h8 : w3.heap.size + 1 ≤ w6.heap.size := by
              rw [← hs4]
              refine Nat.le_trans (Nat.le_of_eq ?_) h7
              simp [World.setCell]
            rcases hk with hk | hk
            · have := h3.lt k hk; omega
            · omega
          · exact ho3.trans ho6 (fun k (hk : k = _) => .inr (by omega))
          · rcases hk with hk | hk
            · exact .inl hk
            · exact .inr (by omega))
        rw [hgn]
        simp only [meanV] at r6
        clear hnm h100 HNO HLO HFU HOK h3 hbx hm4 hb4 hb5 hm6 ho6 hs4 ho3 hl0 hgn hnf
        go_wp2_with fail
        go_ret
        exact ⟨by rw [HR.out]; rfl, by rw [HR.out]; exact HT.out⟩
      · have hlen := run_lenS (P := Tryz.prog) (ty := 3) Tryz.underlying27 hma
        have c0 := hbx.c 0 rfl
        have hpl := hpe.length_eq
        have hen := eqlSome m w3
        rw [hpl] at hlen
        by_cases hf : getP l n = none ∧ 16 ≤ l.length
        · have q2 : decide ((16 : Int) ≤ (l.length : Int)) = true := decide_eq_true (by omega)
          have HR := Lib.hid (HFU.out hnm h100 hf)
          rw [hf.1]
          clear hnm h100 HNO HLO HFU HOK h3 hbx hf hpe hpl hma hOm hmb
          go_wp2_with fail
          go_ret
          exact ⟨by rw [HR.out]; rfl, by rw [HR.out]; exact HTO.out _ HB3.out⟩
        · have HR := Lib.hid (HOK.out hnm h100 hf)
          obtain ⟨w6, r6, hm6, ho6⟩ := run_putS (P := Tryz.prog) Tryz.underlying27 Tryz.underlying9 hma n (bs p)
          have HT : Hid (TabTo w O w6 b (insR (n, bs p) (dropR l n))) := Lib.hid (by
            refine ⟨O, TabAt.put h3.rising h3.len h3.small Hn20.out Hp100.out hf (fun k hk => Nat.lt_of_lt_of_le (h3.lt k hk) ho6.size) h3.at_ (hbx.keep ho6 (fun (e : b = m) => hmb e.symm)) hOm hmb hm6 hpe, (Only.of_below HB3.out).trans ho6 (fun k (hk : k = m) => .inl (by rw [hk]; exact hOm)), fun k hk => .inl hk⟩)
          have hfork : (∃ v, getP l n = some v) ∨ (getP l n = none ∧ ¬ ((16 : Int) ≤ (l.length : Int))) := by
            cases hg : getP l n with
            | some v => exact .inl ⟨v, rfl⟩
            | none => exact .inr ⟨rfl, fun e => hf ⟨hg, by omega⟩⟩
          simp only [meanV] at r6
          clear hnm h100 HNO HLO HFU HOK h3 hbx hf hpe hpl hma hOm hmb hm6 ho6
          rcases hfork with ⟨v, hg⟩ | ⟨hg, q2⟩
          · rw [hg]
            clear hg
            go_wp2_with fail
            go_ret
            exact ⟨by rw [HR.out]; rfl, by rw [HR.out]; exact HT.out⟩
          · rw [hg]
            clear hg
            go_wp2_with fail
            go_ret
            exact ⟨by rw [HR.out]; rfl, by rw [HR.out]; exact HT.out⟩
set_option maxHeartbeats 1000000 in
theorem tdrop_calls (n : ByteArray) :
    Calls Tryz.prog 13 #[.pointer (some ⟨b, 0, none⟩), .string n] w fun e w' => e = .returned (.bool (getP l n).isSome) ∧ TabTo w O w' b (dropR l n) := by
  have H := Lib.hid h
  have HG := Lib.hid (tget_calls w O b l h n)
  clear h
  go_enter Tryz.func13, Tryz.ntmps13
  go_wp2_with fail
  refine HG.out.mono ?_
  rintro e w1 ⟨rfl, hb1⟩
  have h3 := H.out.below hb1
  rcases h3.is with ⟨hl0, hbx⟩ | ⟨m, ps, hbx, hOm, hmb, hma, hpe⟩
  · have c0 := hbx.c 0 rfl
    have hdl : (Builtin.delete_ #[27, 9] 0 #[.map none, .string n]).run Tryz.prog w1 = .ok (.tuple #[]) w1 := by
      simp [Builtin.delete_, run_underlying Tryz.underlying27, check_str Tryz.underlying9, Result.andThen]
    have HT : Hid (TabTo w O w1 b (dropR l n)) := Lib.hid ⟨O, by rw [hl0]; rw [hl0] at h3; exact h3, Only.of_below hb1, fun k hk => .inl hk⟩
    clear h3 hbx hl0 hb1 HG
    go_wp2_with fail
    go_ret
    exact ⟨rfl, HT.out⟩
  · have c0 := hbx.c 0 rfl
    obtain ⟨w6, r6, hm6, ho6⟩ := run_delS (P := Tryz.prog) Tryz.underlying27 Tryz.underlying9 0 hma n
    have HT : Hid (TabTo w O w6 b (dropR l n)) := Lib.hid ⟨O, ⟨h3.rising.drop n, Nat.le_trans (drop_length_le l n) h3.len, fun p hp => h3.small p (List.mem_filter.1 hp).1, fun k hk => Nat.lt_of_lt_of_le (h3.lt k hk) ho6.size, h3.at_, .inr ⟨m, _, hbx.keep ho6 (fun (e : b = m) => hmb e.symm), hOm, hmb, hm6, del_perm hpe h3.rising.once n⟩⟩,
      (Only.of_below hb1).trans ho6 (fun k (hk : k = m) => .inl (by rw [hk]; exact hOm)), fun k hk => .inl hk⟩
    clear h3 hbx hb1 HG hma hpe hm6 ho6 hOm hmb
    go_wp2_with fail
    go_ret
    exact ⟨rfl, HT.out⟩
end
end
end Go.Proofs.YtlmbafnoopfilaaGreatDoor
