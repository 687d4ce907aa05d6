/-
  Layer 7 and what it stands on, part 17 (Each).
-/
import Derived.Test.YtlmbafnoopfilaaGreatDoorPg11
import Derived.RangeFuncNested
import Derived.RangeFuncBound
import Derived.RangeFuncCalls
import Derived.RangeFuncLeaves
import Derived.Shelf.Abstract
import Derived.Shelf.RegionOpen
import Derived.WalkKit
import Derived.OwnWalkIn
import Derived.TacticsInMore
import Derived.LoopNIn
import Derived.LoopIn
import Derived.WalkSpells
namespace Go.Proofs.YtlmbafnoopfilaaGreatDoor
section
open Go Go.RowKit Go.Shelf
attribute [local go_sem] Oper.semAt_some
/-- What is told: where a cluster begins, and the cluster. -/
abbrev Pc := Nat × ByteArray
def pcs (xs : List (Nat × List UInt8)) : List Pc := xs.map fun x => (x.1, ⟨x.2.toArray⟩)
def eachB (s : ByteArray) : List Pc := pcs (eachL s.data.toList)
/-- What is still to be told, where a cluster began at b, and pos is reached. -/
def pend (s : ByteArray) (b pos : Nat) : List Pc := pcs (withAt b (cutFrom ((s.data.toList.drop b).take (pos - b)) (s.data.toList.drop pos)))
theorem drop_ne (s : ByteArray) (pos : Nat) (h : pos < s.size) : s.data.toList.drop pos ≠ [] := by
  intro h0
  have h1 := congrArg List.length h0
  rw [List.length_drop, ← Lib.size_eq, List.length_nil] at h1
  omega
theorem pend_first (s : ByteArray) (h : 0 < s.size) : pend s 0 (Utf8.decode s 0).2 = eachB s := by
  have hne := drop_ne s 0 h
  have hd := Lib.decodeL_drop s 0
  simp only [List.drop_zero] at hne hd
  unfold pend eachB eachL
  rw [cutL_from _ hne, hd]
  simp
theorem pend_zero (s : ByteArray) (b pos : Nat) (hb : b ≤ pos) (h : pos < s.size) (hz : ofL ((Utf8.decode s pos).1 : Int) = 0) : pend s b pos = pend s b (pos + (Utf8.decode s pos).2) := by
  have hne := drop_ne s pos h
  have hd := Lib.decodeL_drop s pos
  unfold pend
  rw [cutFrom_zero _ _ hne (by rw [hd]; exact hz), hd, List.drop_drop]
  have e : pos + (Utf8.decode s pos).2 - b = (pos - b) + (Utf8.decode s pos).2 := by omega
  have e2 : (s.data.toList.drop b).drop (pos - b) = s.data.toList.drop pos := by rw [List.drop_drop]; congr 1; omega
  rw [e, List.take_add, e2]
theorem pend_new (s : ByteArray) (b pos : Nat) (hb : b ≤ pos) (h : pos < s.size) (hz : ofL ((Utf8.decode s pos).1 : Int) ≠ 0) : pend s b pos = (b, s.extract b pos) :: pend s pos (pos + (Utf8.decode s pos).2) := by
  have hne := drop_ne s pos h
  have hd := Lib.decodeL_drop s pos
  unfold pend
  rw [cutFrom_new _ _ hne (by rw [hd]; exact hz), hd, List.drop_drop]
  have e : b + ((s.data.toList.drop b).take (pos - b)).length = pos := by
    rw [List.length_take, List.length_drop, ← Lib.size_eq]; omega
  simp only [withAt, e, pcs, List.map_cons, Lib.extract_eq, Nat.add_sub_cancel_left]
theorem pend_end (s : ByteArray) (b : Nat) : pend s b s.size = [(b, s.extract b s.size)] := by
  unfold pend
  rw [show s.data.toList.drop s.size = [] from List.drop_eq_nil_of_le (by rw [← Lib.size_eq]; omega), cutFrom_nil]
  simp only [withAt, pcs, List.map_cons, List.map_nil, Lib.extract_eq]
theorem eachB_empty (s : ByteArray) (h : s.size = 0) : eachB s = [] := by
  have : s.data.toList = [] := List.eq_nil_of_length_eq_zero (by rw [← Lib.size_eq]; exact h)
  unfold eachB
  rw [this]; rfl
theorem str_toList (s : ByteArray) : s.toList = s.data.toList := Lib.toList_data s
theorem str_empty (s : ByteArray) (h : s.size = 0) : s.toList.isEmpty = true := by
  rw [str_toList, List.isEmpty_iff]
  exact List.eq_nil_of_length_eq_zero (by rw [← Lib.size_eq]; exact h)
theorem str_some (s : ByteArray) (h : ¬ s.size = 0) : s.toList.isEmpty = false := by
  rw [str_toList]
  cases e : s.data.toList with
  | nil => exact absurd (by rw [Lib.size_eq, e]; rfl) h
  | cons _ _ => rfl
/-- What a round that goes on keeps: what lay below n₀, what is gone through, and the text's own box. -/
def Kp (n₀ Bn : Nat) (W W' : World) : Prop := Below n₀ W W' ∧ KeepsWalks W W' ∧ W'.heap[Bn]? = W.heap[Bn]?
theorem kp_t {n₀ Bn : Nat} {A B C : World} (h : Kp n₀ Bn A B) (k : Kp n₀ Bn B C) : Kp n₀ Bn A C := ⟨h.1.trans k.1, h.2.1.trans k.2.1, k.2.2.trans h.2.2⟩
theorem kp_b {n₀ Bn : Nat} {w : World} (hn : n₀ ≤ w.heap.size) (hB : Bn < w.heap.size) (W : World) (l : Nat) (o o' : Obj) (hl : w.heap.size ≤ l) (h : W.heap[l]? = some o) (h1 : o.isCells = false) (h2 : o.isWalk = false) : Kp n₀ Bn W (W.putObj l o') :=
  ⟨belowK_b hn W l o o' hl h h1 h2, walksK_b (w := w) W l o o' hl h h1 h2, World.putObj_heap_other (by omega)⟩
theorem abide_iter {β : Type} {B : Nat} {J : β → World → Prop} (hJ : AbidesFrom B J) {pre : β} {wr : World} {k : Nat} {s : ByteArray} {pos : Nat} (hj : J pre wr) (hit : wr.heap[k]? = some (.stringIter s pos)) (hk : B ≤ k) (pos' : Nat) : J pre (wr.iterAt k s pos') :=
  hJ pre wr _ (some k) hj ⟨rfl, rfl, rfl, by rw [Lib.iterAt_size]; exact Nat.le_refl _, fun i _ hne => Lib.iterAt_other wr k i s pos' (fun e => hne (by rw [e]))⟩ (fun r e => by cases e; exact ⟨hk, _, hit, rfl⟩)
theorem abide_below {β : Type} {B : Nat} {J : β → World → Prop} (hJ : AbidesFrom B J) {pre : β} {w1 w2 : World} (hj : J pre w1) (hb : Below w1.heap.size w1 w2) : J pre w2 :=
  hJ pre w1 w2 none hj (grown_of_below hb) (fun r e => by cases e)
/-- What stands at a round's head. -/
def EachAt (W : World) (n₀ Bn : Nat) (s : ByteArray) (J : List Pc → World → Prop) (v3 : Value) (wr : World) (pos b : Nat) (pre : List Pc) : Prop :=
  v3 = .int .i64 (b : Int) ∧ wr.heap[W.heap.size]? = some (.stringIter s pos) ∧ Below n₀ W wr ∧ Boxed wr Bn 9 (.string s) ∧ J pre wr ∧ pos ≤ s.size ∧ b ≤ pos ∧ ((pos = 0 ∧ pre = []) ∨ (0 < pos ∧ pre ++ pend s b pos = eachB s))
set_option maxRecDepth 100000 in
set_option maxHeartbeats 4000000 in
theorem each1_in (n : Nat) (hn : 1 ≤ n) (l Bn n₀ : Nat) (s : ByteArray) (hs : s.size ≤ 1099511627776) (J Jx : List Pc → World → Prop) (W : World) (hJ : AbidesFrom W.heap.size J)
    (hY : ∀ pre (x : Pc) W1, J pre W1 → pre.length < (eachB s).length → x ∈ eachB s → YieldAt Fence.wide (n - 1) Tryz.prog l #[.int .i64 (x.1 : Int), .string x.2] W1 fun e W' =>
      (e = .returned (.bool true) ∧ J (pre ++ [x]) W' ∧ Kp n₀ Bn W1 W') ∨ (e = .returned (.bool false) ∧ Jx (pre ++ [x]) W'))
    (hc : Boxed W Bn 9 (.string s)) (hn₀ : n₀ ≤ W.heap.size) (hsp : Spans W) (hg0 : 0 < n₀) (h0 : J [] W) :
    CallsIn Fence.wide n Tryz.prog 63 #[.func (.yield l) #[] #[], .pointer (some ⟨Bn, 0, none⟩)] W fun e W' => (∃ v, e = .returned v) ∧
      ((∃ ys, ys = eachB s ∧ J ys W') ∨ (∃ pre, pre <+: eachB s ∧ Jx pre W')) := by
  have spn : ∀ W', Below n₀ W W' → Spans W' := fun W' hb => by
    obtain ⟨t, fr, h⟩ := hsp
    exact ⟨t, fr, (hb.block _ hg0).trans h⟩
  have Hspn := Lib.hid spn
  have HY := Lib.hid hY
  clear spn hsp hY
  have hBn := hc.lt
  have hcc := hc.cell
  refine callsIn_of_wp Tryz.func63 rfl trivial ?_ rfl
  simp only [Tryz.ntmps63, List.size_toArray, List.length_cons, List.length_nil, Nat.reduceAdd, Nat.reduceSub, Array.replicate_succ, Array.replicate_zero, List.push_toArray, List.append_toArray, List.nil_append, List.cons_append]
  gi_wp2
  gi_loopw [3] (fun v3 wr => ∃ pos b pre, EachAt W n₀ Bn s J v3 wr pos b pre) (fun _ wr => s.size - wr.iterPos W.heap.size)
  case atStart => exact ⟨0, 0, [], rfl, World.iter_heap W s 0, (Below.refl n₀ W).alloc hn₀ _, hc.alloc _, hJ [] W _ none h0 (World.grownBy_alloc W _ none) (fun r e => by cases e), by omega, by omega, .inl ⟨rfl, rfl⟩⟩
  case round =>
    obtain ⟨pos, b, pre, rfl, hit, hbw, hbx, hj, hps, hbp, hst⟩ := hrel
    clear hcc
    have Hst := Lib.hid hst
    clear hst
    have hcw := hbx.cell
    by_cases hp : pos < s.size
    · have hnx : ∀ ty, (Instr.next (.pointer (some ⟨W.heap.size, 0, none⟩)) true ty).run Tryz.prog wr = _ := fun ty => Lib.run_next_any_at wr W.heap.size s pos ty hit hp
      have hwd := Lib.width_pos s pos
      have hdi := decode_in s pos hp
      have hit2 := Lib.iterAt_heap wr W.heap.size s pos (pos + (Utf8.decode s pos).2) hit
      have hbw2 := Lib.below_iterAt hbw (k := W.heap.size) hn₀ s (pos + (Utf8.decode s pos).2)
      have hbx2 : Boxed (wr.iterAt W.heap.size s (pos + (Utf8.decode s pos).2)) Bn 9 (.string s) := (Lib.iterAt_other wr W.heap.size Bn s _ (by omega)).trans hbx
      have hj2 := abide_iter hJ hj hit (Nat.le_refl _) (pos + (Utf8.decode s pos).2)
      have hm0 := iterPos_of hit
      have Hm0 := Lib.hid hm0
      clear hm0
      by_cases hz : pos = 0
      · subst hz
        have hb0 : b = 0 := by omega
        subst hb0
        obtain rfl : pre = [] := by
          rcases Hst.out with h | h
          · exact h.2
          · exact absurd h.1 (by omega)
        simp only [Nat.zero_add] at hit2 hbw2 hbx2 hj2 hdi hnx
        gi_wp2
        refine ⟨trivial, ?_⟩
        gi_wp2
        go_roundw
        case rel => exact ⟨(Utf8.decode s 0).2, 0, [], rfl, hit2, hbw2, hbx2, hj2, hdi, by omega, .inr ⟨by omega, by rw [List.nil_append]; exact pend_first s hp⟩⟩
        case measure => rw [iterPos_of hit2, Hm0.out]; omega
      · have hpe : ((pos : Int) == 0) = false := beq_eq_false_iff_ne.2 (by omega)
        have hst' : pre ++ pend s b pos = eachB s := (Hst.out.resolve_left (fun h => hz h.1)).2
        have hcon := of_calls ((Utf8.decode s pos).1 : Int) _ (Hspn.out _ hbw2)
        by_cases hof : ofL ((Utf8.decode s pos).1 : Int) = 0
        · have Hnew : Hid (pre ++ pend s b (pos + (Utf8.decode s pos).2) = eachB s) := Lib.hid (by rw [← pend_zero s b pos hbp hp hof]; exact hst')
          rw [hof] at hcon
          have Hcon := Lib.hid hcon
          clear hcon hst' hof
          gi_wp2_with (refine ⟨trivial, ?_⟩; gi_at_call 64; refine (callsIn_wide.2 Hcon.out).mono ?_)
          rintro e w1 ⟨rfl, hb1⟩
          have hit3 : w1.heap[W.heap.size]? = some (.stringIter s (pos + (Utf8.decode s pos).2)) := (hb1.block _ (Array.getElem?_eq_some_iff.1 hit2).1).trans hit2
          have hbw3 : Below n₀ W w1 := hbw2.trans (hb1.mono (Nat.le_trans hn₀ (Nat.le_of_lt (Array.getElem?_eq_some_iff.1 hit2).1)))
          have hj3 := abide_below hJ hj2 hb1
          have hbx3 : Boxed w1 Bn 9 (.string s) := (hb1.block _ hbx2.lt).trans hbx2
          clear hb1 hit2 hbw2 hj2
          gi_wp2
          go_roundw
          case rel => exact ⟨_, b, pre, rfl, hit3, hbw3, hbx3, hj3, hdi, by omega, .inr ⟨by omega, Hnew.out⟩⟩
          case measure => rw [iterPos_of hit3, Hm0.out]; omega
        · have hpn := pend_new s b pos hbp hp hof
          have Hnew : Hid ((pre ++ [(b, s.extract b pos)]) ++ pend s pos (pos + (Utf8.decode s pos).2) = eachB s) := Lib.hid (by rw [← hst', hpn]; simp)
          have hlen : pre.length < (eachB s).length := by rw [← hst', hpn]; simp
          have hmem : (b, s.extract b pos) ∈ eachB s := by rw [← hst', hpn]; simp
          have he : (((ofL ((Utf8.decode s pos).1 : Int) : Nat) : Int) == 0) = false := beq_eq_false_iff_ne.2 (by omega)
          have Hcon := Lib.hid hcon
          clear hcon hst' hof hpn
          have Hmem := Lib.hid hmem
          clear hmem
          generalize ofL ((Utf8.decode s pos).1 : Int) = c at *
          gi_wp2_with (refine ⟨trivial, ?_⟩; gi_at_call 64; refine (callsIn_wide.2 Hcon.out).mono ?_)
          rintro e w1 ⟨rfl, hb1⟩
          have hit3 : w1.heap[W.heap.size]? = some (.stringIter s (pos + (Utf8.decode s pos).2)) := (hb1.block _ (Array.getElem?_eq_some_iff.1 hit2).1).trans hit2
          have hbw3 : Below n₀ W w1 := hbw2.trans (hb1.mono (Nat.le_trans hn₀ (Nat.le_of_lt (Array.getElem?_eq_some_iff.1 hit2).1)))
          have hj3 := abide_below hJ hj2 hb1
          have hbx3 : Boxed w1 Bn 9 (.string s) := (hb1.block _ hbx2.lt).trans hbx2
          have hcw3 := hbx3.cell
          obtain ⟨fn, tmps, assign, body, hy, hR⟩ := HY.out pre (b, s.extract b pos) w1 hj3 hlen Hmem.out
          dsimp only at hy
          have HR := Lib.hid hR
          clear hb1 hit2 hbw2 hj2 hR
          gi_wp2
          refine HR.out.mono ?_
          rintro e W3 (⟨rfl, hJ3, hk3⟩ | ⟨rfl, hJx3⟩)
          · have hit4 := hk3.2.1.same _ _ hit3 rfl
            gi_wp2
            go_roundw
            case rel => exact ⟨_, pos, _, by rfl, hit4, hbw3.trans hk3.1, hk3.2.2.trans hbx3, hJ3, hdi, by omega, .inr ⟨by omega, Hnew.out⟩⟩
            case measure => rw [iterPos_of hit4, Hm0.out]; omega
          · gi_wp2
            refine bodyPost_ret (results_none rfl _ _ _) rfl ?_
            exact ⟨⟨_, rfl⟩, .inr ⟨_, ⟨_, Hnew.out⟩, hJx3⟩⟩
    · have hnx : ∀ ty, (Instr.next (.pointer (some ⟨W.heap.size, 0, none⟩)) true ty).run Tryz.prog wr = _ := fun ty => Lib.run_next_end_at wr W.heap.size s pos ty hit hp
      obtain rfl : pos = s.size := by omega
      by_cases hz : s.size = 0
      · have He := Lib.hid (eachB_empty s hz)
        have hse : s.toList.isEmpty = true := str_empty s hz
        have hpre : pre = [] := by
          rcases Hst.out with h | h
          · exact h.2
          · exact absurd h.1 (by omega)
        subst hpre
        gi_wp2
        go_end0
        exact ⟨⟨_, rfl⟩, .inl (by rw [He.out]; exact hj)⟩
      · have hse : s.toList.isEmpty = false := str_some s hz
        have hst' : pre ++ pend s b s.size = eachB s := (Hst.out.resolve_left (fun h => hz h.1)).2
        rw [pend_end] at hst'
        have hlen : pre.length < (eachB s).length := by rw [← hst']; simp
        obtain ⟨fn, tmps, assign, body, hy, hR⟩ := HY.out pre (b, s.extract b s.size) wr hj hlen (by rw [← hst']; simp)
        dsimp only at hy
        have HR := Lib.hid hR
        have Hst' := Lib.hid hst'
        clear hR hst'
        gi_wp2
        refine HR.out.mono ?_
        rintro e W3 (⟨rfl, hJ3, hk3⟩ | ⟨rfl, hJx3⟩)
        · gi_wp2
          go_end0
          exact ⟨⟨_, rfl⟩, .inl ⟨_, Hst'.out, hJ3⟩⟩
        · gi_wp2
          go_end0
          exact ⟨⟨_, rfl⟩, .inr ⟨_, ⟨[], by rw [List.append_nil]; exact Hst'.out⟩, hJx3⟩⟩
set_option maxHeartbeats 1000000 in
theorem each_in (n : Nat) (s : ByteArray) (w : World) :
    CallsIn Fence.wide n Tryz.prog 48 #[.string s] w fun e w' => e = .returned (.func (.func 63) #[] #[.pointer (some ⟨w.heap.size, 0, none⟩)]) ∧ w' = w.alloc (.cells #[.string s] 9) := by
  refine callsIn_of_wp Tryz.func48 rfl trivial ?_ rfl
  simp only [Tryz.ntmps48, List.size_toArray, List.length_cons, List.length_nil, Nat.reduceAdd, Nat.reduceSub, Array.replicate_succ, Array.replicate_zero, List.push_toArray, List.append_toArray, List.nil_append, List.cons_append]
  gi_wp2
  go_ret
  exact ⟨rfl, rfl⟩
/-- A cluster of s, with where it begins. -/
abbrev Of (s : ByteArray) := { x : Pc // x ∈ eachB s }
def vals {s : ByteArray} (xs : List (Of s)) : List Pc := xs.map (·.1)
theorem vals_snoc {s : ByteArray} (xs : List (Of s)) (x : Of s) : vals (xs ++ [x]) = vals xs ++ [x.1] := by simp [vals]
theorem vals_length {s : ByteArray} (xs : List (Of s)) : (vals xs).length = xs.length := by simp [vals]
/-- What Each tells can be ranged over: all clusters, in order; or a beginning of them. -/
theorem each_stops (n : Nat) (hn : 1 ≤ n) (Bn n₀ : Nat) (s : ByteArray) (hs : s.size ≤ 1099511627776) (w : World) (hn₀ : n₀ ≤ w.heap.size) (hc : Boxed w Bn 9 (.string s)) (hsp : Spans w) (hg0 : 0 < n₀) :
    SeqStopsK Fence.wide n Tryz.prog 63 #[.pointer (some ⟨Bn, 0, none⟩)] (fun x : Of s => #[Value.int .i64 (x.1.1 : Int), Value.string x.1.2]) (Kp n₀ Bn) (fun ys => vals ys = eachB s) (fun pre => vals pre <+: eachB s) (eachB s).length w := fun l J Jx W hW hJ _ hY h0 => by
  refine (each1_in n hn l Bn n₀ s hs (fun pre W => ∃ xs : List (Of s), vals xs = pre ∧ J xs W) (fun pre W => ∃ xs : List (Of s), vals xs = pre ∧ Jx xs W) W ?_ ?_ ((hW.block Bn hc.lt).trans hc) (Nat.le_trans hn₀ hW.size) (spans_below hsp hW) hg0 ⟨[], rfl, h0⟩).mono ?_
  · rintro pre A B row ⟨xs, e, hj⟩ hg hr
    exact ⟨xs, e, hJ xs A B row hj hg hr⟩
  · rintro pre x W1 ⟨xs, rfl, hj⟩ hlt hx
    rw [vals_length] at hlt
    obtain ⟨fn, tmps, assign, body, hy, hR⟩ := hY xs ⟨x, hx⟩ W1 hj hlt
    refine ⟨fn, tmps, assign, body, hy, hR.mono ?_⟩
    rintro e W' (⟨rfl, h1, h2⟩ | ⟨rfl, h1⟩)
    · exact .inl ⟨rfl, ⟨_, vals_snoc _ _, h1⟩, h2⟩
    · exact .inr ⟨rfl, _, vals_snoc _ _, h1⟩
  · rintro e W' ⟨hv, ⟨ys, rfl, xs, h1, h2⟩ | ⟨pre, hp, xs, rfl, h2⟩⟩
    · exact ⟨hv, .inl ⟨xs, h1, h2⟩⟩
    · exact ⟨hv, .inr ⟨xs, hp, h2⟩⟩
/-- 'out = append(out, ..)', where out's box lies ahead of the row. -/
theorem box_appended {W w1 : World} {base B : Nat} {t e : TypeId} {size : Nat} {v v' : Value} {k m : Nat} {xs ys : List Value} {tmp : Obj}
    (hv : Boxed W B t v) (hrow : W.ownsRow base e size v k xs) (hB : B < base) (hbase : base ≤ W.heap.size)
    (hown' : w1.ownsRow base e size v' m ys) (hgrow : (W.alloc tmp).grownBy w1 v.ownBlock) :
    Boxed w1 B t v ∧ Boxed (w1.setCell ⟨B, 0, none⟩ v') B t v' ∧ (w1.setCell ⟨B, 0, none⟩ v').ownsRow base e size v' m ys ∧ KeepsOthers W (w1.setCell ⟨B, 0, none⟩ v') ∧ (∀ n₀, n₀ ≤ B → Below n₀ W (w1.setCell ⟨B, 0, none⟩ v')) ∧
      (∀ j, j < base → j ≠ B → (w1.setCell ⟨B, 0, none⟩ v').heap[j]? = W.heap[j]?) := by
  have hlo : ∀ j, v.ownBlock = some j → base ≤ j := fun j hj => (hrow.lt j hj).1
  have hv1 : Boxed w1 B t v := (hv.alloc tmp).kept hgrow (fun e' => by have := hlo B e'.symm; omega)
  refine ⟨hv1, hv1.set v', own_setCell hown' hB v', ?_, fun n₀ hn => ?_, fun j hj hne => ?_⟩
  · refine ((KeepsOthers.alloc W tmp).trans (KeepsOthers.of_grownBy hgrow fun j o ej hj => ?_)).trans (KeepsOthers.setCell _ _ _)
    rcases (hrow.alloc tmp).2 with ⟨rfl, _⟩ | ⟨g, cap, cur, rfl, _, hgb, _⟩
    · simp [Value.ownBlock] at ej
    · obtain rfl : g = j := by simpa [Value.ownBlock] using ej
      rw [hgb] at hj; cases hj; rfl
  · exact (((Below.refl n₀ W).alloc (by omega) tmp).grown hgrow (by simp; omega) fun j ej => by have := hlo j ej; omega).setCell (p := ⟨B, 0, none⟩) hn v'
  · rw [Below.heap_setCell _ _ _ j (by simpa using hne), hgrow.block j (by simp; omega) (fun e' => by have := hlo j e'.symm; omega), Below.heap_alloc _ _ _ (by omega)]
end
end Go.Proofs.YtlmbafnoopfilaaGreatDoor
