/-
  Scripts: slices of events; 'few'; an argument that is one, opened.
-/
import Derived.Test.YtbkejjpkijjfaaaDoorKLaid
import Derived.Test.YtbkejjpkijjfaaaDoorBx
import Derived.Deep.Slices
import Derived.IntWalk
import Derived.SizedLaws
namespace Go.Proofs.YtbkejjpkijjfaaaDoor
open Go Go.RowKit Go.ChangeShapes Go.WideShapes Go.ChangeAt Go.Deep
set_option maxRecDepth 100000

/-- An event: a tick, and bytes that lie somewhere. -/
structure Ev where
  t : Bool
  a : Option Addr
  c : Nat
  b : List UInt8
def Ev.none_ : Ev := ⟨false, none, 0, []⟩
/-- A slice of events that reads as es. -/
def RdE (w : World) (A : Option Addr) (es : List Ev) : Prop := 0 < es.length → ∃ g o, A = some ⟨g, o, none⟩ ∧ g < w.heap.size ∧ ∀ i, i < es.length →
  w.cell? ⟨g, o + i * 2, none⟩ = some (.bool (es.getD i Ev.none_).t) ∧ w.cell? ⟨g, o + i * 2 + 1, none⟩ = some (.slice (es.getD i Ev.none_).a (es.getD i Ev.none_).b.length (es.getD i Ev.none_).c) ∧
    Byt w (es.getD i Ev.none_).a (es.getD i Ev.none_).b ∧ (es.getD i Ev.none_).b.length ≤ reachBytes
theorem RdE.below {w w' : World} {A : Option Addr} {es : List Ev} (h : RdE w A es) (hb : Below w.heap.size w w') : RdE w' A es := fun hn => by
  obtain ⟨g, o, e, hg, hc⟩ := h hn
  refine ⟨g, o, e, Nat.lt_of_lt_of_le hg hb.size, fun i hi => ?_⟩
  obtain ⟨h1, h2, h3, h4⟩ := hc i hi
  rw [hb.cell (p := ⟨g, o + i * 2, none⟩) hg, hb.cell (p := ⟨g, o + i * 2 + 1, none⟩) hg]
  exact ⟨h1, h2, h3.below hb, h4⟩
theorem RdE.at_ {w : World} {A : Option Addr} {es : List Ev} (h : RdE w A es) {i : Nat} (hi : i < es.length) : ∃ g o, A = some ⟨g, o, none⟩ ∧ g < w.heap.size ∧
    w.cell? ⟨g, o + i * 2, none⟩ = some (.bool (es.getD i Ev.none_).t) ∧ w.cell? ⟨g, o + i * 2 + 1, none⟩ = some (.slice (es.getD i Ev.none_).a (es.getD i Ev.none_).b.length (es.getD i Ev.none_).c) ∧
    Byt w (es.getD i Ev.none_).a (es.getD i Ev.none_).b ∧ (es.getD i Ev.none_).b.length ≤ reachBytes := by
  obtain ⟨g, o, e, hg, hc⟩ := h (by omega)
  exact ⟨g, o, e, hg, hc i hi⟩
theorem sizeEvent (w : World) : (sizeOf 31).run Tryd.prog w = .ok 2 w := Tryd.sizeOf31 w
/-- How many bytes events have. -/
def totE (es : List Ev) : Nat := (es.map fun e => e.b.length).sum
theorem totE_take (es : List Ev) (k : Nat) (hk : k < es.length) : totE (es.take (k + 1)) = totE (es.take k) + (es.getD k Ev.none_).b.length := by
  unfold totE
  rw [List.take_succ_eq_append_getElem hk, List.map_append, List.sum_append]
  simp [List.getD, hk]
theorem totE_le (es : List Ev) (h : ∀ i, i < es.length → (es.getD i Ev.none_).b.length ≤ reachBytes) : ∀ k, k ≤ es.length → totE (es.take k) ≤ k * reachBytes
  | 0, _ => by simp [totE]
  | k + 1, hk => by
    rw [totE_take es k (by omega), Nat.succ_mul]
    have := totE_le es h k (by omega)
    have := h k (by omega)
    omega

theorem spot_none' {W : World} {a : Addr} {v : Value} (h : W.cell? a = some v) : a.spot = none := by
  unfold World.cell? at h
  split at h
  · split at h
    · cases h
    · rename_i hs
      cases hh : a.spot with
      | none => rfl
      | some x => rw [hh] at hs; exact absurd rfl hs
  · cases h
theorem cellsEvent : Tryd.prog.cellsOf 31 = 2 := by kernel_rfl
theorem cellsBool : Tryd.prog.cellsOf 4 = 1 := by kernel_rfl
theorem cellsSl : Tryd.prog.cellsOf 27 = 1 := by kernel_rfl
theorem opened_event {H : Type} {enc : TypeId × Value → H} {W : World} {n : Nat} {cs : List Value} {x : DataW H × List MemPlace}
    (h : DataW.trod enc Tryd.prog W 0 (fun _ => true) true n 31 cs = some x) (hw : ∀ k ∈ x.1.weights Tryd.prog 31, k ≤ reachBytes) :
    ∃ e : Ev, cs = [.bool e.t, .slice e.a e.b.length e.c] ∧ Byt W e.a e.b ∧ e.b.length ≤ reachBytes := by
  obtain ⟨xs, m, rfl, hx, hl, hxl, hall⟩ := DataW.trod_struct Tryd.underlying31 h
  rw [cellsEvent] at hl
  have h0 := hall 0 _ rfl
  have h1 := hall 1 _ rfl
  change DataW.trod _ _ _ _ _ _ _ 4 ((cs.drop 0).take (Tryd.prog.cellsOf 4)) = xs[0]? at h0
  change DataW.trod _ _ _ _ _ _ _ 27 ((cs.drop 1).take (Tryd.prog.cellsOf 27)) = xs[1]? at h1
  rw [cellsBool] at h0
  rw [cellsSl] at h1
  obtain ⟨x0, x1, rfl⟩ : ∃ x0 x1, xs = [x0, x1] := by
    match xs, hxl with
    | [x0, x1], _ => exact ⟨x0, x1, rfl⟩
  obtain ⟨a, b, rfl⟩ : ∃ a b, cs = [a, b] := by
    match cs, hl with
    | [a, b], _ => exact ⟨a, b, rfl⟩
  obtain ⟨t, ht, _⟩ := DataW.trod_bool Tryd.underlying4 (by simpa using h0)
  obtain rfl : a = .bool t := by simpa using ht
  have h1' : DataW.trod enc Tryd.prog W 0 (fun _ => true) true m 27 [b] = some x1 := by simpa using h1
  have hw1 : ∀ k ∈ x1.1.weights Tryd.prog 27, k ≤ reachBytes := fun k hk => hw k (by
    rw [hx]
    simp only [DataW.weights, Tryd.underlying31, List.map_cons, List.map_nil, DataW.weightsEach]
    exact List.mem_append_right _ (List.mem_append_left _ hk))
  have hrb : reachBytes = 140737488351232 := rfl
  obtain ⟨A, k, c, rfl, hkr⟩ : ∃ A k c, b = .slice A k c ∧ k ≤ reachBytes := by
    rcases open_ints Tryd.underlying27 Tryd.underlying5 cellsU8 h1' with ⟨hcs, _⟩ | ⟨a, len', cap', zs, hcs, _, hl', _, hz, hx', _⟩
    · exact ⟨_, _, _, by simpa using hcs, by omega⟩
    · refine ⟨_, _, _, by simpa using hcs, ?_⟩
      have hm := hw1 (((zs.take len').length + (zs.drop len').length) * Tryd.prog.bytesOf 5) (by
        rw [hx']
        simp only [DataW.weights, Tryd.underlying27]
        simp [lits])
      rw [show Tryd.prog.bytesOf 5 = 1 by kernel_rfl, hrb, List.length_take, List.length_drop] at hm
      simp only [if_true] at hz
      omega
  obtain ⟨l, hl1, hl2, hl3, hl4, _⟩ := opened_byt (enc := enc) (W := W) (a0 := A) (len := k) (cap := c) (d0 := x1.1) (p := x1.2) ⟨m, by simpa [Value.cells] using h1'⟩
  subst hl1
  exact ⟨⟨t, A, c, l⟩, rfl, hl4, hkr⟩
theorem weightsAll_mem {H : Type} {P : Program} {e : TypeId} : ∀ {ds : List (DataW H)} {d : DataW H}, d ∈ ds → ∀ n ∈ d.weights P e, n ∈ DataW.weightsAll P e ds
  | [], _, h, _, _ => by cases h
  | x :: xs, d, h, n, hn => by
    simp only [DataW.weightsAll]
    rcases List.mem_cons.1 h with rfl | h
    · exact List.mem_append_left _ hn
    · exact List.mem_append_right _ (weightsAll_mem h n hn)
theorem opened_events {H : Type} {enc : TypeId × Value → H} {W : World} {a0 : Option Addr} {len cap : Nat} {d0 : DataW H} {p : List MemPlace}
    (h0 : DataW.Trod enc Tryd.prog W 0 (fun _ => true) true 22 (.slice a0 len cap) d0 p) (hw : ∀ k ∈ d0.weights Tryd.prog 22, k ≤ reachBytes) :
    ∃ es : List Ev, es.length = len ∧ len ≤ cap ∧ cap ≤ maxLen ∧ RdE W a0 es := by
  obtain ⟨fuel, hf⟩ := h0
  rcases Go.Deep.open_slice Tryd.underlying22 hf with ⟨hcs, _⟩ | ⟨a, len', cap', m, n, D, Pl, hcs, _, hl, hm, hmm, hx, hi⟩
  · simp [Value.cells] at hcs
    obtain ⟨rfl, rfl, rfl⟩ := hcs
    exact ⟨[], rfl, by omega, by unfold maxLen; omega, fun hn => by simp at hn⟩
  · simp [Value.cells] at hcs
    obtain ⟨rfl, rfl, rfl⟩ := hcs
    simp only [if_true] at hmm
    have each : ∀ i, i < len → ∃ e : Ev, W.cell? ((a.add (i * 2)).add 0) = some (.bool e.t) ∧ W.cell? ((a.add (i * 2)).add 1) = some (.slice e.a e.b.length e.c) ∧ Byt W e.a e.b ∧ e.b.length ≤ reachBytes := fun i hil => by
      obtain ⟨cs', hc, ht⟩ := hi i (by omega)
      rw [cellsEvent] at hc
      obtain ⟨_, _, hat⟩ := World.cells?_some hc
      obtain ⟨e, rfl, hB, hle⟩ := opened_event ht (fun k hk => hw k (by
        have hd : d0 = .slice ((List.range len).map D) ((List.range (m - len)).map fun j => D (len + j)) := congrArg Prod.fst hx
        rw [hd]
        simp only [DataW.weights, Tryd.underlying22]
        exact List.mem_cons_of_mem _ (List.mem_append_left _ (weightsAll_mem (List.mem_map.2 ⟨i, List.mem_range.2 hil, rfl⟩) k hk))))
      exact ⟨e, by rw [hat 0 (by omega)]; rfl, by rw [hat 1 (by omega)]; rfl, hB, hle⟩
    let f : Nat → Ev := fun i => if h : i < len then Classical.choose (each i h) else Ev.none_
    have hf2 : ∀ i, i < len → W.cell? ((a.add (i * 2)).add 0) = some (.bool (f i).t) ∧ W.cell? ((a.add (i * 2)).add 1) = some (.slice (f i).a (f i).b.length (f i).c) ∧ Byt W (f i).a (f i).b ∧ (f i).b.length ≤ reachBytes := fun i h => by
      have := Classical.choose_spec (each i h)
      simp only [f, dif_pos h]
      exact this
    refine ⟨(List.range len).map f, by simp, hl, hm, fun hn => ?_⟩
    simp only [List.length_map, List.length_range] at hn
    have h00 := (hf2 0 hn).1
    have hs := spot_none' h00
    obtain ⟨b, o, s⟩ := a
    have hs' : s = none := by simpa [Addr.add] using hs
    subst hs'
    refine ⟨b, o, rfl, ?_, fun i hi2 => ?_⟩
    · simpa [Addr.add] using World.block_lt_of_cell? _ _ h00
    · simp only [List.length_map, List.length_range] at hi2
      have e : ((List.range len).map f).getD i Ev.none_ = f i := by simp [List.getD, hi2]
      rw [e]
      obtain ⟨q0, q1, q2, q3⟩ := hf2 i hi2
      rw [Addr.add_lit, Addr.add_lit] at q0 q1
      exact ⟨by simpa using q0, q1, q2, q3⟩

set_option maxHeartbeats 2000000 in
theorem few4_calls (A : Option Addr) (c : Nat) (es : List Ev) (w : World) (hR : RdE w A es) (hl : es.length ≤ 9223372036854775807) :
    Calls Tryd.prog 11 #[.slice A es.length c] w fun e w' => e = .returned (.bool (decide (es.length ≤ 100 ∧ totE es ≤ 2000))) ∧ Below w.heap.size w w' := by
  have HR := Lib.hid hR
  clear hR
  go_enter Tryd.func11, Tryd.ntmps11
  go_wp2_with fail
  go_loopw [3, 8] (fun v3 v8 wr => ∃ (k : Nat) (z : Int), k ≤ es.length ∧ v8 = .int .i64 (k : Int) ∧ v3 = .int .i64 z ∧ Hid (es.length ≤ 100 → z = (totE (es.take k) : Int)) ∧ Below w.heap.size w wr) (fun _ v8 _ => es.length - (intOf v8).toNat)
  case atStart => exact ⟨0, 0, Nat.zero_le _, rfl, rfl, Lib.hid (fun _ => rfl), Below.refl _ _⟩
  case round =>
    obtain ⟨k, z, hk, rfl, rfl, hz, hbel⟩ := hrel
    by_cases hlt : k < es.length
    · obtain ⟨g, o, rfl, hg, c0, c1, _, hb1⟩ := (HR.out.below hbel).at_ hlt
      have hst := Lib.hid (totE_take es k hlt)
      have hub : Hid (es.length ≤ 100 → totE (es.take k) ≤ 100 * reachBytes) := Lib.hid fun h => by
        have hall : ∀ i, i < es.length → (es.getD i Ev.none_).b.length ≤ reachBytes := fun i hi => by
          obtain ⟨_, _, _, _, _, _, _, h4⟩ := HR.out.at_ hi
          exact h4
        have h1 := totE_le es hall k (by omega)
        have h2 : k * reachBytes ≤ 100 * reachBytes := Nat.mul_le_mul_right _ (by omega)
        omega
      have HB := Lib.hid hbel
      have hsz := hbel.size
      have hx := Bx.new wr 31 (.bool (es.getD k Ev.none_).t) (.slice (es.getD k Ev.none_).a (es.getD k Ev.none_).b.length (es.getD k Ev.none_).c)
      have x0 := hx.c0
      have x1 := hx.c1
      clear hbel hx
      generalize es.getD k Ev.none_ = e at *
      have hkk : (k : Int) + 1 ≤ 9223372036854775807 := by omega
      obtain ⟨z2, hzz⟩ : ∃ z2, z2 = IntKind.i64.wrap (z + (e.b.length : Int)) := ⟨_, rfl⟩
      have Hz2 : Hid (es.length ≤ 100 → z2 = (totE (es.take (k + 1)) : Int)) := Lib.hid fun h => by
        have h1 := hz.out h
        have h2 := hub.out h
        have hrb : reachBytes = 140737488351232 := rfl
        rw [hst.out, hzz, h1]
        rw [IntWalk.i64_in _ (by omega)]
        omega
      have hsum : IntKind.i64.wrap (z + (e.b.length : Int)) = z2 := hzz.symm
      clear hst hub hzz hz
      go_wp2
      go_roundw
      case rel => exact ⟨k + 1, z2, by omega, by go_num, by first | rfl | (rw [← hsum]; rfl) | go_num, Hz2, HB.out.alloc hsz _⟩
      case measure => simp [intOf]; omega
    · obtain rfl : k = es.length := by omega
      have HB := Lib.hid hbel
      have hzf := hz.out
      rw [List.take_length] at hzf
      have Hzf := Lib.hid hzf
      clear hbel hz hzf HR
      by_cases h100 : es.length ≤ 100
      · have d1 : decide (es.length ≤ 100) = true := decide_eq_true h100
        have d1' : decide ((es.length : Int) ≤ 100) = true := decide_eq_true (by omega)
        have e2 : decide (z ≤ 2000) = decide (es.length ≤ 100 ∧ totE es ≤ 2000) := by
          rw [decide_eq_decide, Hzf.out h100]; omega
        have E2 := Lib.hid e2
        clear e2 h100 Hzf
        go_wp2
        go_ret
        exact ⟨by rw [← E2.out]; rfl, HB.out⟩
      · have d1 : decide (es.length ≤ 100) = false := decide_eq_false h100
        have d1' : decide ((es.length : Int) ≤ 100) = false := decide_eq_false (by omega)
        have e2 : decide (es.length ≤ 100 ∧ totE es ≤ 2000) = false := decide_eq_false (fun h => h100 h.1)
        have E2 := Lib.hid e2
        clear e2 h100 Hzf
        go_wp2
        go_ret
        exact ⟨by rw [E2.out]; rfl, HB.out⟩
end Go.Proofs.YtbkejjpkijjfaaaDoor
