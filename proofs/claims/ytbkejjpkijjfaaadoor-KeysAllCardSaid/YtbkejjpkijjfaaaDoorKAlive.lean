/-
  Decoders of a statement's own; 'alive' of the statements of layer 4.
-/
import Derived.Test.YtbkejjpkijjfaaaDoorKTick
import Derived.Lib.SlBytesConst
namespace Go.Proofs.YtbkejjpkijjfaaaDoor
open Go Go.RowKit
set_option maxRecDepth 100000

/-- A decoder that a call made: all that lay ahead of the call is as it was. -/
def At4 (w : World) (g : Nat) (d : Dec) (W : World) : Prop := DecAt W g d ∧ d.Ok ∧ Below w.heap.size w W ∧ w.heap.size ≤ g ∧ Lays w
section
variable {w W W' : World} {g : Nat} {d : Dec}
theorem At4.far (h : At4 w g d W) : Far g := h.2.2.2.2.far h.2.2.2.1
theorem At4.lays (h : At4 w g d W) : Lays W := h.2.2.2.2.below h.2.2.1
theorem At4.lt (h : At4 w g d W) : g < W.heap.size := h.1.lt
theorem At4.bel (h : At4 w g d W) : Below w.heap.size w W := h.2.2.1
theorem At4.turn {d' : Dec} (h : At4 w g d W) (h1 : DecAt W' g d') (hok : d'.Ok) (hg : W.grownBy W' (some g)) : At4 w g d' W' :=
  ⟨h1, hok, h.2.2.1.grown hg h.2.2.1.size (fun k hk => by injection hk with hk; rw [← hk]; exact h.2.2.2.1), h.2.2.2⟩
theorem At4.below (h : At4 w g d W) (hb : Below W.heap.size W W') : At4 w g d W' := ⟨h.1.below hb h.lt, h.2.1, h.2.2.1.trans (hb.mono h.2.2.1.size), h.2.2.2⟩
theorem At4.alloc (h : At4 w g d W) (o : Obj) : At4 w g d (W.alloc o) := h.below ((Below.refl _ _).alloc (Nat.le_refl _) o)
theorem At4.other {g' : Nat} (h : At4 w g d W) (hg : W.grownBy W' (some g')) (hne : g ≠ g') (hw : w.heap.size ≤ g') : At4 w g d W' :=
  ⟨h.1.keep (hg.block g h.lt (fun e => hne (by injection e))), h.2.1, h.2.2.1.grown hg h.2.2.1.size (fun k hk => by injection hk with hk; rw [← hk]; exact hw), h.2.2.2⟩
end
/-- What a call of such a decoder comes to. -/
def Said4 (w : World) (g : Nat) (r : List KV × Dec) (W : World) (e : Ending) (W' : World) : Prop :=
  ∃ v, e = .returned v ∧ W'.ownsRow W.heap.size 44 2 v r.1.length (cellsK r.1) ∧ At4 w g r.2 W' ∧ W.grownBy W' (some g)
section
variable {w W : World} {g : Nat} {d : Dec}
theorem At4.new (w : World) (hL : Lays w) : At4 w w.heap.size Dec.zero (w.alloc (.cells #[.string ⟨#[]⟩, .string ⟨#[]⟩, .int .i64 0, .bool false] 26)) :=
  ⟨heap_alloc_new w _, Dec.ok_zero, (Below.refl _ w).alloc (Nat.le_refl _) _, Nat.le_refl _, hL⟩
theorem At4.feed (h : At4 w g d W) (A : Option Addr) (c : Nat) (b : List UInt8) (hb : Byt W A b) (hne : 0 < b.length → ∀ ad, A = some ad → ad.block ≠ g) (hbl : b.length ≤ 1000000000) :
    Calls Tryd.prog 21 #[.pointer (some ⟨g, 0, none⟩), .slice A b.length c] W (Said4 w g (feedD d b) W) :=
  (feed_calls4 g d A c b W h.1 h.2.1 h.lays h.far hb hne hbl).mono fun _ _ ⟨v, he, h1, h2, h3⟩ => ⟨v, he, h1, h.turn h2 (feed_ok b d h.2.1) h3, h3⟩
theorem At4.put (h : At4 w g d W) (x : UInt8) :
    Calls Tryd.prog 17 #[.pointer (some ⟨g, 0, none⟩), .int .u8 (x.toNat : Int)] W (Said4 w g (putD d x) W) :=
  (put_calls4 g d x W h.1 h.2.1 h.lays h.far).mono fun _ _ ⟨v, he, h1, h2, h3⟩ => ⟨v, he, h1, h.turn h2 (put_ok d x h.2.1) h3, h3⟩
theorem At4.tick (h : At4 w g d W) :
    Calls Tryd.prog 15 #[.pointer (some ⟨g, 0, none⟩)] W (Said4 w g (tickD d) W) :=
  (tick_calls4 g d W h.1 h.2.1).mono fun _ _ ⟨v, he, h1, h2, h3⟩ => ⟨v, he, h1, h.turn h2 (tick_ok d h.2.1) h3, h3⟩
end
/-- Keys that are read. -/
def RdK (w : World) (A : Option Addr) (ks : List KV) : Prop := 0 < ks.length → ∃ b, A = some ⟨b, 0, none⟩ ∧ b < w.heap.size ∧ ∀ i, i < ks.length →
  w.cell? ⟨b, i * 2, none⟩ = some (.int .i64 ((ks.getD i (0, [])).1 : Int)) ∧ w.cell? ⟨b, i * 2 + 1, none⟩ = some (.string (bs (ks.getD i (0, [])).2))
theorem cellsK_get : ∀ (ks : List KV) (i : Nat), i < ks.length → (cellsK ks)[i * 2]? = some (.int .i64 ((ks.getD i (0, [])).1 : Int)) ∧ (cellsK ks)[i * 2 + 1]? = some (.string (bs (ks.getD i (0, [])).2))
  | [], i, h => by simp at h
  | k :: t, 0, _ => ⟨rfl, rfl⟩
  | k :: t, i + 1, h => by
    have := cellsK_get t i (by simpa using h)
    have e : cellsK (k :: t) = [.int .i64 (k.1 : Int), .string (bs k.2)] ++ cellsK t := rfl
    rw [e, show (i + 1) * 2 = i * 2 + 2 by omega, show i * 2 + 2 + 1 = (i * 2 + 1) + 2 by omega]
    exact this
theorem rdK_of_own {w : World} {base : Nat} {A : Option Addr} {c n : Nat} {ks : List KV} (h : w.ownsRow base 44 2 (.slice A n c) ks.length (cellsK ks)) : RdK w A ks ∧ n = ks.length ∧ ks.length ≤ c ∧ c ≤ maxLen := by
  rcases h.2 with ⟨hv, h0⟩ | ⟨g, cap, cur, hv, _, hh, hnc, hcm, _⟩
  · injection hv with h1 h2 h3
    subst h1; subst h2; subst h3
    exact ⟨fun hn => by omega, h0.symm, by omega, by unfold maxLen; omega⟩
  · injection hv with h1 h2 h3
    subst h1; subst h2; subst h3
    refine ⟨fun hn => ⟨g, rfl, (Array.getElem?_eq_some_iff.1 hh).1, fun i hi => ?_⟩, rfl, hnc, hcm⟩
    obtain ⟨k0, k1⟩ := cellsK_get ks i hi
    have a := h.cells (g := g) rfl _ _ k0
    have b := h.cells (g := g) rfl _ _ k1
    rw [Addr.add_lit] at a b
    simp only [Nat.zero_add] at a b
    exact ⟨a, b⟩
theorem RdK.at_ {w : World} {A : Option Addr} {ks : List KV} (h : RdK w A ks) (hn : 0 < ks.length) : ∃ b, A = some ⟨b, 0, none⟩ ∧ b < w.heap.size ∧ ∀ i, i < ks.length →
  w.cell? ⟨b, i * 2, none⟩ = some (.int .i64 ((ks.getD i (0, [])).1 : Int)) ∧ w.cell? ⟨b, i * 2 + 1, none⟩ = some (.string (bs (ks.getD i (0, [])).2)) := h hn

theorem Byt.off {w : World} {A : Option Addr} {b : List UInt8} (h : Byt w A b) : 0 < b.length → ∀ ad, A = some ad → ad.block < w.heap.size := fun hn ad e => by
  obtain ⟨g, o, e2, hg, _⟩ := h.at_ hn
  rw [e2] at e
  injection e with e
  rw [← e]; exact hg
/-- Bytes that lay ahead of the statement's own memory. -/
theorem At4.feedArg {w W : World} {g : Nat} {d : Dec} (h : At4 w g d W) {A : Option Addr} (c : Nat) {b : List UInt8} (hb : Byt w A b) (hbl : b.length ≤ 1000000000) :
    Calls Tryd.prog 21 #[.pointer (some ⟨g, 0, none⟩), .slice A b.length c] W (Said4 w g (feedD d b) W) :=
  h.feed A c b (hb.below h.bel) (fun hn ad e => by have := hb.off hn ad e; have := h.2.2.2.1; omega) hbl
theorem byt_litM (w : World) (l : List UInt8) (fr : Nat × Nat) : Byt (w.alloc (.cells (Lib.byteCells l).toArray 5 fr)) (some ⟨w.heap.size, 0, none⟩) l :=
  Byt.mk_ fun i hi => by
    rw [Nat.zero_add]
    simp [World.cell?, World.alloc, Lib.byteCells, hi, List.getD, -World.alloc_eq]
theorem conv_lit (w : World) (l : List UInt8) (g : Nat) (hg : g = w.heap.size) : (convert 27 27 (.slice (some ⟨g, 0, none⟩) l.length l.length)).run Tryd.prog (w.alloc (.cells (Lib.byteCells l).toArray 5)) = .ok (.slice (some ⟨g, 0, none⟩) l.length l.length) (w.alloc (.cells (Lib.byteCells l).toArray 5 (l.length, l.length + 1))) := by
  subst hg
  have h := Lib.run_convert_bytes_const (P := Tryd.prog) w 27 5 (Lib.byteCells l).toArray l.length l.length Tryd.underlying27 Tryd.underlying5
  rwa [show (Lib.byteCells l).toArray.size = l.length by simp [Lib.byteCells]] at h
theorem At4.feedLit {w W : World} {g : Nat} {d : Dec} (h : At4 w g d W) (l : List UInt8) (fr : Nat × Nat) (hl : l.length ≤ 1000000000) (n : Nat) (hn : n = W.heap.size) :
    Calls Tryd.prog 21 #[.pointer (some ⟨g, 0, none⟩), .slice (some ⟨n, 0, none⟩) l.length l.length] (W.alloc (.cells (Lib.byteCells l).toArray 5 fr)) (Said4 w g (feedD d l) (W.alloc (.cells (Lib.byteCells l).toArray 5 fr))) := by
  subst hn
  exact (h.alloc _).feed _ _ l (byt_litM W l fr) (fun _ ad e => by injection e with e; rw [← e]; exact fun e => by have := h.lt; simp only at e; omega) hl
theorem Said4.at_ {w W : World} {g : Nat} {r : List KV × Dec} {e : Ending} {W' : World} (h : Said4 w g r W e W') (hg : g < W.heap.size) : ∃ A c, e = .returned (.slice A r.1.length c) ∧ W'.ownsRow (g + 1) 44 2 (.slice A r.1.length c) r.1.length (cellsK r.1) ∧ At4 w g r.2 W' ∧ W.grownBy W' (some g) := by
  obtain ⟨v, he, ho, ha, hg2⟩ := h
  obtain ⟨A, c, rfl⟩ := own_form ho
  exact ⟨A, c, he, own_less ho (by omega), ha, hg2⟩
theorem Said4.at2 {w W : World} {g : Nat} {r : List KV × Dec} {e : Ending} {W' : World} (h : Said4 w g r W e W') : ∃ A c, e = .returned (.slice A r.1.length c) ∧ W'.ownsRow W.heap.size 44 2 (.slice A r.1.length c) r.1.length (cellsK r.1) ∧ At4 w g r.2 W' ∧ W.grownBy W' (some g) := by
  obtain ⟨v, he, ho, ha, hg2⟩ := h
  obtain ⟨A, c, rfl⟩ := own_form ho
  exact ⟨A, c, he, ho, ha, hg2⟩
theorem At4.drewN {w W : World} {g : Nat} {d : Dec} (h : At4 w g d W) (n : Nat) : At4 w g d (W.drewN n) := ⟨h.1, h.2.1, bel_drewN h.2.2.1 n, h.2.2.2⟩
theorem own_stays {W W' : World} {g : Nat} {v : Value} {n : Nat} {xs : List Value} (h : W.ownsRow (g + 1) 44 2 v n xs) (hg : W.grownBy W' (some g)) : W'.ownsRow (g + 1) 44 2 v n xs :=
  own_kept h hg (fun k hk e => by injection e with e; have := (h.lt k hk).1; omega)

set_option maxHeartbeats 8000000 in
theorem kalive_calls (w : World) (hL : Lays w) :
    Calls Tryd.prog 12 #[] w fun e w' => e = .returned (.bool true) ∧ Below w.heap.size w w' := by
  have f1 : Calls Tryd.prog 21 #[.pointer (some ⟨w.heap.size, 0, none⟩), .slice (some ⟨w.heap.size + 1, 0, none⟩) 6 6] ((w.alloc (.cells #[.string ⟨#[]⟩, .string ⟨#[]⟩, .int .i64 0, .bool false] 26)).alloc (.cells #[.int .u8 97, .int .u8 27, .int .u8 91, .int .u8 68, .int .u8 27, .int .u8 98] 5 (6, 7))) (Said4 w w.heap.size (feedD Dec.zero [97, 27, 91, 68, 27, 98]) ((w.alloc (.cells #[.string ⟨#[]⟩, .string ⟨#[]⟩, .int .i64 0, .bool false] 26)).alloc (.cells #[.int .u8 97, .int .u8 27, .int .u8 91, .int .u8 68, .int .u8 27, .int .u8 98] 5 (6, 7)))) :=
    (At4.new w hL).feedLit [97, 27, 91, 68, 27, 98] (6, 7) (by decide) _ (by simp)
  rw [show feedD Dec.zero [97, 27, 91, 68, 27, 98] = ([(1, [97]), (5, []), (9, [])], Dec.zero) by kernel_rfl] at f1
  have hcv1 : (convert 27 27 (.slice (some ⟨w.heap.size + 1, 0, none⟩) 6 6)).run Tryd.prog ((w.alloc (.cells #[.string ⟨#[]⟩, .string ⟨#[]⟩, .int .i64 0, .bool false] 26)).alloc (.cells #[.int .u8 97, .int .u8 27, .int .u8 91, .int .u8 68, .int .u8 27, .int .u8 98] 5)) = .ok (.slice (some ⟨w.heap.size + 1, 0, none⟩) 6 6) ((w.alloc (.cells #[.string ⟨#[]⟩, .string ⟨#[]⟩, .int .i64 0, .bool false] 26)).alloc (.cells #[.int .u8 97, .int .u8 27, .int .u8 91, .int .u8 68, .int .u8 27, .int .u8 98] 5 (6, 7))) := conv_lit _ [97, 27, 91, 68, 27, 98] _ (by simp)
  have F1 := Lib.hid f1
  clear f1
  go_enter Tryd.func12, Tryd.ntmps12
  go_wp2_with fail
  refine F1.out.mono ?_
  intro e w1 hS
  obtain ⟨A1, c1, rfl, o1, a1, g1⟩ := hS.at_ (by simp; omega)
  have O1 := Lib.hid o1
  have Aw1 := Lib.hid a1
  clear hS o1 a1 g1 F1 hcv1
  have f2 := Aw1.out.put 27
  rw [show putD Dec.zero 27 = ([], ⟨[27], [], 0, false⟩) by kernel_rfl] at f2
  go_wp2_with fail
  refine f2.mono ?_
  intro e w2 hS
  obtain ⟨A2, c2, rfl, o2, a2, g2⟩ := hS.at_ Aw1.out.lt
  have O1b := Lib.hid (own_stays O1.out g2)
  have Aw2 := Lib.hid a2
  clear hS o2 a2 g2 O1 Aw1 f2
  have f3 := waits_calls4 _ _ _ Aw2.out.1
  rw [show decide ((⟨[27], [], 0, false⟩ : Dec).w ≠ []) = true by decide] at f3
  go_wp2_with fail
  refine f3.mono ?_
  rintro e w3 ⟨rfl, rfl⟩
  clear f3
  have f4 := Aw2.out.tick
  rw [show tickD ⟨[27], [], 0, false⟩ = ([], ⟨[27], [], 0, true⟩) by kernel_rfl] at f4
  go_wp2_with fail
  refine f4.mono ?_
  intro e w4 hS
  obtain ⟨A4, c4, rfl, o4, a4, g4⟩ := hS.at_ Aw2.out.lt
  have O1c := Lib.hid (own_stays O1b.out g4)
  have Aw4 := Lib.hid a4
  clear hS o4 a4 g4 O1b Aw2 f4
  have f5 := Aw4.out.tick
  rw [show tickD ⟨[27], [], 0, true⟩ = ([(27, [])], Dec.zero) by kernel_rfl] at f5
  go_wp2_with fail
  refine f5.mono ?_
  intro e w5 hS
  obtain ⟨A5, c5, rfl, o5, a5, g5⟩ := hS.at_ Aw4.out.lt
  have O1d := Lib.hid (own_stays O1c.out g5)
  have O5 := Lib.hid o5
  have Aw5 := Lib.hid a5
  clear hS o5 a5 g5 O1c Aw4 f5
  have f6 : Calls Tryd.prog 21 #[.pointer (some ⟨w.heap.size, 0, none⟩), .slice (some ⟨w5.heap.size, 0, none⟩) 9 9] (w5.alloc (.cells #[.int .u8 27, .int .u8 91, .int .u8 50, .int .u8 48, .int .u8 48, .int .u8 126, .int .u8 120, .int .u8 10, .int .u8 121] 5 (9, 10))) (Said4 w w.heap.size (feedD Dec.zero [27, 91, 50, 48, 48, 126, 120, 10, 121]) (w5.alloc (.cells #[.int .u8 27, .int .u8 91, .int .u8 50, .int .u8 48, .int .u8 48, .int .u8 126, .int .u8 120, .int .u8 10, .int .u8 121] 5 (9, 10)))) :=
    Aw5.out.feedLit [27, 91, 50, 48, 48, 126, 120, 10, 121] (9, 10) (by decide) _ rfl
  rw [show feedD Dec.zero [27, 91, 50, 48, 48, 126, 120, 10, 121] = ([], ⟨pasteB, [120, 10, 121], 0, false⟩) by kernel_rfl] at f6
  have hcv6 : (convert 27 27 (.slice (some ⟨w5.heap.size, 0, none⟩) 9 9)).run Tryd.prog (w5.alloc (.cells #[.int .u8 27, .int .u8 91, .int .u8 50, .int .u8 48, .int .u8 48, .int .u8 126, .int .u8 120, .int .u8 10, .int .u8 121] 5)) = .ok (.slice (some ⟨w5.heap.size, 0, none⟩) 9 9) (w5.alloc (.cells #[.int .u8 27, .int .u8 91, .int .u8 50, .int .u8 48, .int .u8 48, .int .u8 126, .int .u8 120, .int .u8 10, .int .u8 121] 5 (9, 10))) := conv_lit _ [27, 91, 50, 48, 48, 126, 120, 10, 121] _ rfl
  have F6 := Lib.hid f6
  clear f6
  go_wp2_with fail
  refine F6.out.mono ?_
  intro e w6 hS
  obtain ⟨A6, c6, rfl, o6, a6, g6⟩ := hS.at_ (by have := Aw5.out.lt; simp; omega)
  have O1e := Lib.hid (own_stays (O1d.out.alloc _) g6)
  have O5b := Lib.hid (own_stays (O5.out.alloc _) g6)
  have Aw6 := Lib.hid a6
  clear hS o6 a6 g6 O1d O5 Aw5 F6 hcv6
  have f7 := pasting_calls _ _ _ Aw6.out.1
  rw [show decide ((⟨pasteB, [120, 10, 121], 0, false⟩ : Dec).w = pasteB) = true by decide] at f7
  go_wp2_with fail
  refine f7.mono ?_
  rintro e w7 ⟨rfl, rfl⟩
  clear f7
  have f8 : Calls Tryd.prog 21 #[.pointer (some ⟨w.heap.size, 0, none⟩), .slice (some ⟨w6.heap.size, 0, none⟩) 6 6] (w6.alloc (.cells #[.int .u8 27, .int .u8 91, .int .u8 50, .int .u8 48, .int .u8 49, .int .u8 126] 5 (6, 7))) (Said4 w w.heap.size (feedD ⟨pasteB, [120, 10, 121], 0, false⟩ [27, 91, 50, 48, 49, 126]) (w6.alloc (.cells #[.int .u8 27, .int .u8 91, .int .u8 50, .int .u8 48, .int .u8 49, .int .u8 126] 5 (6, 7)))) :=
    Aw6.out.feedLit [27, 91, 50, 48, 49, 126] (6, 7) (by decide) _ rfl
  rw [show feedD ⟨pasteB, [120, 10, 121], 0, false⟩ [27, 91, 50, 48, 49, 126] = ([(26, [120, 32, 121])], Dec.zero) by kernel_rfl] at f8
  have hcv8 : (convert 27 27 (.slice (some ⟨w6.heap.size, 0, none⟩) 6 6)).run Tryd.prog (w6.alloc (.cells #[.int .u8 27, .int .u8 91, .int .u8 50, .int .u8 48, .int .u8 49, .int .u8 126] 5)) = .ok (.slice (some ⟨w6.heap.size, 0, none⟩) 6 6) (w6.alloc (.cells #[.int .u8 27, .int .u8 91, .int .u8 50, .int .u8 48, .int .u8 49, .int .u8 126] 5 (6, 7))) := conv_lit _ [27, 91, 50, 48, 49, 126] _ rfl
  have F8 := Lib.hid f8
  clear f8
  go_wp2_with fail
  refine F8.out.mono ?_
  intro e w8 hS
  obtain ⟨A8, c8, rfl, o8, a8, g8⟩ := hS.at_ (by have := Aw6.out.lt; simp; omega)
  have o1 := own_stays (O1e.out.alloc _) g8
  have o5 := own_stays (O5b.out.alloc _) g8
  obtain ⟨r1, _, _, _⟩ := rdK_of_own o1
  obtain ⟨r5, _, _, _⟩ := rdK_of_own o5
  obtain ⟨r8, _, _, _⟩ := rdK_of_own o8
  obtain ⟨p1, rfl, hp1, q1⟩ := r1.at_ (by decide)
  obtain ⟨p5, rfl, hp5, q5⟩ := r5.at_ (by decide)
  obtain ⟨p8, rfl, hp8, q8⟩ := r8.at_ (by decide)
  have q10 := q1 0 (by decide)
  have q11 := q1 1 (by decide)
  have q12 := q1 2 (by decide)
  have q50 := q5 0 (by decide)
  have q80 := q8 0 (by decide)
  simp only [Nat.zero_mul, Nat.zero_add, Nat.one_mul, Nat.reduceMul, Nat.reduceAdd, List.getD_cons_zero, List.getD_cons_succ] at q10 q11 q12 q50 q80
  obtain ⟨q100, q101⟩ := q10
  obtain ⟨q110, q111⟩ := q11
  obtain ⟨q120, q121⟩ := q12
  obtain ⟨q500, q501⟩ := q50
  obtain ⟨q800, q801⟩ := q80
  have HB := Lib.hid a8.bel
  clear hS o1 o5 o8 a8 g8 O1e O5b Aw6 F8 hcv8 r1 r5 r8 q1 q5 q8
  go_wp2
  go_ret
  exact ⟨rfl, HB.out⟩
end Go.Proofs.YtbkejjpkijjfaaaDoor
