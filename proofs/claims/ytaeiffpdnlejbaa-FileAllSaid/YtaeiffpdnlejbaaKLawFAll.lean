/-
  The walk of FileAll (layer 10).
-/
import Derived.Test.YtaeiffpdnlejbaaPa30
namespace Go.Proofs.Ytaeiffpdnlejbaa
open Go Go.RowKit
set_option maxRecDepth 100000

def longN : ByteArray := ⟨#[110, 111, 32, 115, 117, 99, 104, 32, 102, 105, 108, 101, 44, 32, 97, 115, 32, 105, 116, 115, 32, 110, 97, 109, 101, 32, 105, 115, 32, 116, 111, 111, 32, 108, 111, 110, 103]⟩
theorem long_read {S : FS} (h : S.Ok) : S.read longN = ([], if S.down then 100 else 101) := by
  have hn : findF S.l longN = none := findF_none.2 fun f hf e => by
    have := h.nam f hf
    rw [e] at this
    exact absurd this (by decide)
  unfold FS.read
  rw [hn]
  cases S.down <;> rfl
/-- The file system, and the document's state in its box. -/
structure AllAt (w1 W : World) (sb b : Nat) (S : FS) (m : Nat) (X Y : Nat → Prop) (A : Option Addr) (n c : Nat) : Prop where
  fx : FX w1 W X Y b S
  at_ : S.At m
  box : BxA W sb 29 (stC A n c S)
  st : StAt W (fun k => X k ∧ k ≠ sb) (stV A n c S) S
  xs : X sb
  ys : Y sb
  ge : w1.heap.size ≤ sb
  old : ∀ k, k < w1.heap.size → X k
theorem AllAt.below {w1 W W2 : World} {sb b m n c : Nat} {S : FS} {X Y : Nat → Prop} {A : Option Addr} (h : AllAt w1 W sb b S m X Y A n c) (hb : Below W.heap.size W W2) : AllAt w1 W2 sb b S m (XN X W W2) (XN Y W W2) A n c :=
  ⟨h.fx.below hb, h.at_, h.box.below hb, (h.st.below hb).mono (fun _ hk => ⟨.inl hk.1, hk.2⟩), .inl h.xs, .inl h.ys, h.ge, fun k hk => .inl (h.old k hk)⟩
theorem AllAt.mono {w1 W : World} {sb b m m2 n c : Nat} {S : FS} {X Y : Nat → Prop} {A : Option Addr} (h : AllAt w1 W sb b S m X Y A n c) (hm : m ≤ m2) : AllAt w1 W sb b S m2 X Y A n c := ⟨h.fx, h.at_.mono hm, h.box, h.st, h.xs, h.ys, h.ge, h.old⟩
theorem AllAt.opb {w1 W : World} {sb b m n c : Nat} {S : FS} {X Y : Nat → Prop} {A : Option Addr} (h : AllAt w1 W sb b S m X Y A n c) {x : OpG} (hx : OpIn w1 x) : ByR W (fun k => X k ∧ k ≠ sb) x.BA x.o.b ∧ RowT boolC W (fun k => X k ∧ k ≠ sb) x.KA x.o.ks := by
  have h1 : OpFar W (fun k => ¬ (X k ∧ k ≠ sb)) x := hx.far h.fx.bel (fun k hk => Nat.le_of_not_lt fun hlt => hk ⟨h.old k hlt, fun e => by have := h.ge; omega⟩)
  exact ⟨h1.b.mono (fun k hk => Classical.not_not.1 hk), h1.k.mono (fun k hk => Classical.not_not.1 hk)⟩
set_option maxHeartbeats 8000000 in
theorem fall_calls (A : Option Addr) (c : Nat) (xs : List OpG) (w : World) (hR : RdO10 w A xs) (hl : xs.length ≤ 9223372036854775807) :
    Calls Try.prog 3 #[.slice A xs.length c] w fun e w' => e = .returned (.bool true) ∧ Below w.heap.size w w' := by
  have Hfew := Lib.hid (few10_calls A c xs w hR hl)
  by_cases hf : xs.length ≤ 80 ∧ totG xs ≤ 8000
  · have hdt : decide (xs.length ≤ 80 ∧ totG xs ≤ 8000) = true := decide_eq_true hf
    rw [hdt] at Hfew
    have HO := Lib.hid hR
    have Hf := Lib.hid hf
    clear hdt hf hR
    go_enter Try.func3, Try.ntmps3
    go_wp2_with fail
    refine Hfew.out.mono ?_
    rintro e w1 ⟨rfl, hb1⟩
    have HB1 := Lib.hid hb1
    clear hb1 Hfew
    go_wp2_with fail
    refine (fnew_calls w1).mono ?_
    rintro e w2 ⟨b, rfl, hin⟩
    have hfx := FX.of_in hin
    clear hin
    go_wp2_with fail
    refine (rnew10_calls w2).mono ?_
    rintro e w3 ⟨rfl, hb3⟩
    have ba := (Below.refl _ w3).alloc (Nat.le_refl _) (.cells #[.slice none 0 0, .int .i64 0, .int .i64 0, .int .i64 (-1), .int .i64 (-1), .bool false] 29)
    have hsz : w3.heap.size < (w3.alloc (.cells #[.slice none 0 0, .int .i64 0, .int .i64 0, .int .i64 (-1), .int .i64 (-1), .bool false] 29)).heap.size := by simp
    have HAll : Hid (∃ X Y, AllAt w1 (w3.alloc (.cells #[.slice none 0 0, .int .i64 0, .int .i64 0, .int .i64 (-1), .int .i64 (-1), .bool false] 29)) w3.heap.size b FS.new 0 X Y none 0 0) := Lib.hid ⟨_, _, (hfx.below hb3).below ba, FS.At.new, BxA.new w3 _ _, ⟨none, 0, [], rfl, fun h => absurd h (by simp), .nil⟩, XN.new hsz, XN.new hsz, Nat.le_trans hfx.bel.size hb3.size, fun k hk => .inl (.inl hk)⟩
    clear hfx hb3 ba hsz
    obtain ⟨sb, hsb⟩ : ∃ sb, sb = w3.heap.size := ⟨_, rfl⟩
    rw [← hsb] at HAll
    have Hsb := Lib.hid hsb
    clear hsb
    go_wp2_with fail
    rw [← Hsb.out]
    go_loopw [3, 23] (fun v3 v23 wr => ∃ (k b : Nat) (S : FS) (X Y : Nat → Prop) (A2 : Option Addr) (n2 c2 : Nat), k ≤ xs.length ∧ v3 = fp b ∧ v23 = .int .i64 (k : Int) ∧ Hid (AllAt w1 wr sb b S k X Y A2 n2 c2)) (fun _ v23 _ => xs.length - (intOf v23).toNat)
    case atStart =>
      obtain ⟨X, Y, h⟩ := HAll.out
      exact ⟨0, b, FS.new, X, Y, none, 0, 0, Nat.zero_le _, rfl, rfl, Lib.hid h⟩
    case round =>
      obtain ⟨k, bk, S, X, Y, A2, n2, c2, hk, rfl, rfl, HA⟩ := hrel
      clear HAll
      by_cases hlt : k < xs.length
      · have hbw : Below w.heap.size w wr := HB1.out.trans (HA.out.fx.bel.mono HB1.out.size)
        have hin : OpIn w1 (xs.getD k OpG.none_) := by
          obtain ⟨_, _, _, _, _, h⟩ := (HO.out.below HB1.out).at_ hlt
          exact h
        obtain ⟨g, o, rfl, hg, hcs, _⟩ := (HO.out.below hbw).at_ hlt
        have hsm : (xs.getD k OpG.none_).len ≤ 8000 := Nat.le_trans (totG_at hlt) Hf.out.2
        have hk80 : k ≤ 80 := by have := Hf.out.1; omega
        have hkk : (k : Int) < (xs.length : Int) := by omega
        have hx80 : (xs.length : Int) ≤ 80 := by have := Hf.out.1; omega
        have c0 := hcs 0 _ rfl
        have c1 := hcs 1 _ rfl
        have c2' := hcs 2 _ rfl
        have c3 := hcs 3 _ rfl
        have c4 := hcs 4 _ rfl
        have c5 := hcs 5 _ rfl
        rw [Nat.add_zero] at c0
        have HI := Lib.hid hin
        have HSm := Lib.hid hsm
        have Hk80 := Lib.hid hk80
        clear hcs hin hbw hsm hk80
        generalize xs.getD k OpG.none_ = e at *
        have hA1 := HA.out.below ((Below.refl _ wr).alloc (Nat.le_refl _) (.cells (opgC e).toArray 34))
        have hob := BxA.new wr 34 (opgC e)
        have hobX : XN X wr (wr.alloc (.cells (opgC e).toArray 34)) wr.heap.size := XN.new (by simp)
        have HKn := Lib.hid (known10_calls e (wr.alloc (.cells (opgC e).toArray 34)))
        have HlX : Hid (sb ≠ wr.heap.size) := Lib.hid (fun h => by have := HA.out.box.lt; omega)
        generalize XN X wr (wr.alloc (.cells (opgC e).toArray 34)) = X5 at hA1 hobX
        generalize XN Y wr (wr.alloc (.cells (opgC e).toArray 34)) = Y5 at hA1
        have HA1 := Lib.hid hA1
        have HOb := Lib.hid hob
        have HObX := Lib.hid hobX
        clear hA1 hob hobX HA
        unfold opgC at HOb HKn HA1
        go_wp2_with fail
        refine HKn.out.mono ?_
        rintro e5 w5 ⟨rfl, hb5⟩
        have HA5 := Lib.hid (HA1.out.below hb5)
        have HOb5 := Lib.hid (HOb.out.below hb5)
        have HObX5 : Hid (XN X5 _ w5 wr.heap.size) := Lib.hid (Or.inl HObX.out : XN X5 (wr.alloc (.cells #[.int .i64 e.o.k, .string e.o.n, .string e.o.t, .slice e.BA e.o.b.length e.bc, .int .i64 e.o.i, .slice e.KA e.o.ks.length e.kc] 34)) w5 wr.heap.size)
        generalize XN X5 (wr.alloc (.cells #[.int .i64 e.o.k, .string e.o.n, .string e.o.t, .slice e.BA e.o.b.length e.bc, .int .i64 e.o.i, .slice e.KA e.o.ks.length e.kc] 34)) w5 = X6 at HA5 HObX5
        generalize XN Y5 (wr.alloc (.cells #[.int .i64 e.o.k, .string e.o.n, .string e.o.t, .slice e.BA e.o.b.length e.bc, .int .i64 e.o.i, .slice e.KA e.o.ks.length e.kc] 34)) w5 = Y6 at HA5
        clear hb5 HA1 HOb HObX HKn c0 c1 c2' c3 c4 c5
        by_cases hkn : 0 ≤ e.o.k ∧ e.o.k ≤ 8
        · rw [decide_eq_true hkn]
          have Hkn := Lib.hid hkn
          clear hkn
          have x0 := HA5.out.box.c 0 rfl
          have x1 := HA5.out.box.c 1 rfl
          have x2 := HA5.out.box.c 2 rfl
          have x3 := HA5.out.box.c 3 rfl
          have x4 := HA5.out.box.c 4 rfl
          have x5 := HA5.out.box.c 5 rfl
          have z0 := HOb5.out.c 0 rfl
          have z1 := HOb5.out.c 1 rfl
          have z2 := HOb5.out.c 2 rfl
          have z3 := HOb5.out.c 3 rfl
          have z4 := HOb5.out.c 4 rfl
          have z5 := HOb5.out.c 5 rfl
          have HDo := Lib.hid (rdo10_calls w5 (fun k => X6 k ∧ k ≠ sb) _ S e.o e.BA e.bc e.KA e.kc HA5.out.st (HA5.out.at_.fit (by have := Hk80.out; omega)) Hkn.out.1 Hkn.out.2 (HA5.out.opb HI.out).1 HI.out.bn (by have := HSm.out; unfold OpG.len at this; omega) (HA5.out.opb HI.out).2 (by have := HSm.out; unfold OpG.len at this; omega))
          unfold stV opC at HDo
          go_wp2_with fail
          refine HDo.out.mono ?_
          rintro e6 w6 ⟨v', rfl, hst6, hb6⟩
          obtain ⟨A6, c6, vs6, rfl, hr6, ha6⟩ := hst6
          obtain ⟨Sn, hSn⟩ : ∃ Sn, Sn = (doF S e.o).1 := ⟨_, rfl⟩
          obtain ⟨zn, hzn⟩ : ∃ zn, zn = (doF S e.o).2 := ⟨_, rfl⟩
          rw [← hSn] at ha6 ⊢
          rw [← hzn]
          have HSn := Lib.hid hSn
          have Hzn := Lib.hid hzn
          have ba6 := (Below.refl _ w6).alloc (Nat.le_refl _) (.cells (stC A6 vs6.length c6 Sn).toArray 29)
          have HSt6 : Hid (StAt w6 (fun k => XN X6 w5 w6 k ∧ k ≠ sb) (stV A6 vs6.length c6 Sn) Sn) := Lib.hid ((StAt.cap (⟨A6, c6, vs6, rfl, hr6, ha6⟩ : StAt w6 (DW (fun k => X6 k ∧ k ≠ sb) w5) (stV A6 vs6.length c6 Sn) Sn)).mono (fun k hk => by
            rcases hk with ⟨⟨h1, h2⟩ | h1, h3⟩
            · exact ⟨.inl h1, h2⟩
            · exact ⟨.inr ⟨h1, h3⟩, fun e => by have := HA5.out.box.lt; omega⟩))
          have hsb6 : sb < w6.heap.size := Nat.lt_of_lt_of_le HA5.out.box.lt hb6.size
          have HFx : Hid (FX w1 (w6.alloc (.cells (stC A6 vs6.length c6 Sn).toArray 29)) (XN (XN X6 w5 w6) w6 (w6.alloc (.cells (stC A6 vs6.length c6 Sn).toArray 29))) (XN (XN Y6 w5 w6) w6 (w6.alloc (.cells (stC A6 vs6.length c6 Sn).toArray 29))) bk S) := Lib.hid ((HA5.out.fx.below hb6).below ba6)
          have HSt7 := Lib.hid (HSt6.out.below ba6)
          have HBx7 := Lib.hid ((HA5.out.box.below hb6).below ba6)
          have HOb7 := Lib.hid ((HOb5.out.below hb6).below ba6)
          have nb0 := BxA.new w6 29 (stC A6 vs6.length c6 Sn)
          clear hr6 ha6 hSn hzn HSt6 ba6 HDo x0 x1 x2 x3 x4 x5 z0 z1 z2 z3 z4 z5
          unfold stC at *
          unfold stV
          obtain ⟨W7, hW7⟩ : ∃ W7, w6.alloc (.cells [.slice A6 vs6.length c6, .int .i64 (Sn.no : Int), .int .i64 (Sn.ops : Int), .int .i64 Sn.fuse, .int .i64 Sn.fault, .bool Sn.down].toArray 29) = W7 := ⟨_, rfl⟩
          rw [hW7] at HFx HSt7 HBx7 HOb7 nb0
          have n0 := nb0.c 0 rfl
          have n1 := nb0.c 1 rfl
          have n2' := nb0.c 2 rfl
          have n3 := nb0.c 3 rfl
          have n4 := nb0.c 4 rfl
          have n5 := nb0.c 5 rfl
          have y0 := HBx7.out.c 0 rfl
          have y1 := HBx7.out.c 1 rfl
          have y2 := HBx7.out.c 2 rfl
          have y3 := HBx7.out.c 3 rfl
          have y4 := HBx7.out.c 4 rfl
          have y5 := HBx7.out.c 5 rfl
          have f0 := BxA.free HBx7.out 0
          have f1 := BxA.free HBx7.out 1
          have f2 := BxA.free HBx7.out 2
          have f3 := BxA.free HBx7.out 3
          have f4 := BxA.free HBx7.out 4
          have f5 := BxA.free HBx7.out 5
          have hne : sb ≠ wr.heap.size := HlX.out
          have hne' : wr.heap.size ≠ sb := HlX.out.symm
          have z0 := HOb7.out.c 0 rfl
          have z1 := HOb7.out.c 1 rfl
          have z2 := HOb7.out.c 2 rfl
          have z3 := HOb7.out.c 3 rfl
          have z4 := HOb7.out.c 4 rfl
          have z5 := HOb7.out.c 5 rfl
          clear nb0
          go_wp2_with fail
          have ho8 := six_only W7 sb (.slice A6 vs6.length c6) (.int .i64 (Sn.no : Int)) (.int .i64 (Sn.ops : Int)) (.int .i64 Sn.fuse) (.int .i64 Sn.fault) (.bool Sn.down)
          have hx8 := six_box HBx7.out (.slice A6 vs6.length c6) (.int .i64 (Sn.no : Int)) (.int .i64 (Sn.ops : Int)) (.int .i64 Sn.fuse) (.int .i64 Sn.fault) (.bool Sn.down)
          have hs8 := HSt7.out.keep ho8 (fun i hi e => hi.2 e)
          have hf8 := FX.wrote HFx.out ho8 (fun k h => by rw [h]; exact .inl (.inl HA5.out.ys)) (fun k h => by rw [h]; exact HA5.out.ge)
          have hXs : XN (XN X6 w5 w6) w6 W7 sb := .inl (.inl HA5.out.xs)
          have hYs : XN (XN Y6 w5 w6) w6 W7 sb := .inl (.inl HA5.out.ys)
          have hOl : ∀ k, k < w1.heap.size → XN (XN X6 w5 w6) w6 W7 k := fun k h => .inl (.inl (HA5.out.old k h))
          have hs8' := hs8.mono (D' := fun k => XN (XN X6 w5 w6) w6 W7 k ∧ k ≠ sb) (fun k h => ⟨.inl h.1, h.2⟩)
          generalize XN (XN X6 w5 w6) w6 W7 = X8 at hf8 hXs hOl hs8'
          generalize XN (XN Y6 w5 w6) w6 W7 = Y8 at hf8 hYs
          have HDs := Lib.hid (hf8.stepE (E := fun e2 b2 => e2 = .returned (.tuple #[fp b2, .int .i64 zn])) (S2 := Sn) (f := 16) (args := #[fp bk, .agg (opgC e).toArray]) (fun O D k1 k2 k3 => by
            have hq := fdoes_calls _ O D bk S k k1 HA5.out.at_ (by have := Hk80.out; omega) e (HI.out.below hf8.bel) (by have := HSm.out; unfold OpG.len at this; omega) (HI.out.far hf8.bel k3) Hkn.out.1 Hkn.out.2
            rw [← HSn.out, ← Hzn.out] at hq
            refine hq.mono ?_
            rintro e2 w' ⟨b2, _, h1, h2⟩
            exact ⟨b2, h1, h2⟩))
          have HX8 := Lib.hid hx8
          have HS8 := Lib.hid hs8'
          have HXs := Lib.hid hXs
          have HYs := Lib.hid hYs
          have HOl := Lib.hid hOl
          have HAt : Hid (Sn.At (k + 1)) := Lib.hid (by rw [HSn.out]; exact HA5.out.at_.does e.o HI.out.i2)
          have Hge := Lib.hid HA5.out.ge
          clear ho8 hx8 hs8 hf8 hXs hYs hOl hs8' HSn Hzn HFx HSt7 HBx7 HOb7 HOb5 HA5 n0 n1 n2' n3 n4 n5 y0 y1 y2 y3 y4 y5 f0 f1 f2 f3 f4 f5 z0 z1 z2 z3 z4 z5 hne hne' hW7 hb6 hsb6 HI HSm
          refine HDs.out.mono ?_
          rintro e9 w9 ⟨b9, rfl, hf9, ho9⟩
          have HA9 : Hid (AllAt w1 w9 sb b9 Sn (k + 1) X8 Y8 A6 vs6.length c6) := Lib.hid ⟨hf9, HAt.out, HX8.out.keep ho9 (fun h => h HXs.out), HS8.out.keep ho9 (fun k hk h => h hk.1), HXs.out, HYs.out, Hge.out, HOl.out⟩
          clear hf9 ho9 HDs HX8 HS8 HXs HYs HOl HAt Hge
          have q0 := HA9.out.box.c 0 rfl
          have q1 := HA9.out.box.c 1 rfl
          have q2 := HA9.out.box.c 2 rfl
          have q3 := HA9.out.box.c 3 rfl
          have q4 := HA9.out.box.c 4 rfl
          have q5 := HA9.out.box.c 5 rfl
          have tz : (zn != zn) = false := bne_self_eq_false _
          have HSd : Hid (Calls Try.prog 17 #[fp b9, stV A6 vs6.length c6 Sn] w9 fun e w' => e = .returned (.bool true) ∧ Below w9.heap.size w9 w') := Lib.hid (by
            obtain ⟨O, D, h⟩ := HA9.out.fx.at_
            exact stands10_calls w9 O D b9 Sn h (HA9.out.at_.fit (by have := Hk80.out; omega)) _ _ HA9.out.st)
          unfold stV at HSd
          go_wp2_with fail
          refine HSd.out.mono ?_
          rintro e10 w10 ⟨rfl, hb10⟩
          have HA10 := Lib.hid (HA9.out.below hb10)
          clear hb10 HA9 HSd q0 q1 q2 q3 q4 q5 tz
          go_wp2_with fail
          go_roundw
          case rel => exact ⟨k + 1, b9, Sn, _, _, A6, vs6.length, c6, by omega, rfl, by go_num, HA10⟩
          case measure => simp [intOf]; omega
        · rw [decide_eq_false hkn]
          clear hkn
          go_wp2_with fail
          go_roundw
          case rel => exact ⟨k + 1, bk, S, X6, Y6, A2, n2, c2, by omega, rfl, by go_num, Lib.hid (HA5.out.mono (by omega))⟩
          case measure => simp [intOf]; omega
      · obtain rfl : k = xs.length := by omega
        have HRd : Hid (Calls Try.prog 18 #[fp bk, .string longN] wr fun e w' => ∃ u, e = .returned (.tuple #[u, .int .i64 (if S.down then 100 else 101)]) ∧ Below wr.heap.size wr w') := Lib.hid (by
          obtain ⟨O, D, h⟩ := HA.out.fx.at_
          have hq := fread_calls wr O D bk S h (HA.out.at_.fit (by have := Hf.out.1; omega)) longN
          rw [long_read HA.out.at_.ok] at hq
          refine hq.mono ?_
          rintro e w' ⟨u, h1, _, h2⟩
          exact ⟨u, h1, h2⟩)
        obtain ⟨d, hd⟩ : ∃ d, d = S.down := ⟨_, rfl⟩
        rw [← hd] at HRd
        have HD := Lib.hid hd
        clear hd
        cases d
        all_goals
          simp only [if_true, if_false, Bool.false_eq_true] at HRd
          go_wp2_with fail
          refine HRd.out.mono ?_
          rintro e w5 ⟨u5, rfl, hb5⟩
          have HA5 := Lib.hid (HA.out.below hb5)
          clear hb5 HRd HA
          go_wp2_with fail
          refine (falive_calls w5).mono ?_
          rintro e w6 ⟨rfl, hb6⟩
          have HA6 := Lib.hid (HA5.out.below hb6)
          clear hb6 HA5
          have q5 := HA6.out.box.c 5 rfl
          rw [← HD.out] at q5
          have HBe : Hid (Below w.heap.size w w6) := Lib.hid (HB1.out.trans (HA6.out.fx.bel.mono HB1.out.size))
          clear HA6 HB1 HO Hf
          go_wp2_with fail
          go_ret
          exact ⟨rfl, HBe.out⟩
  · have hdt : decide (xs.length ≤ 80 ∧ totG xs ≤ 8000) = false := decide_eq_false hf
    rw [hdt] at Hfew
    clear hdt hf hR
    go_enter Try.func3, Try.ntmps3
    go_wp2_with fail
    refine Hfew.out.mono ?_
    rintro e w1 ⟨rfl, hb1⟩
    have HB1 := Lib.hid hb1
    clear hb1 Hfew
    go_wp2_with fail
    refine (falive_calls w1).mono ?_
    rintro e w2 ⟨rfl, hb2⟩
    have HB2 := Lib.hid (HB1.out.trans (hb2.mono HB1.out.size))
    clear hb2
    go_wp2_with fail
    go_ret
    exact ⟨rfl, HB2.out⟩
end Go.Proofs.Ytaeiffpdnlejbaa
