/-
  The walk of FileKeeps (layer 10).
-/
import Derived.Test.YtaeiffpdnlejbaaPc29
import Derived.Test.YtaeiffpdnlejbaaKLawFCop
import Derived.Deep.RegionHeld3
namespace Go.Proofs.Ytaeiffpdnlejbaa
open Go Go.RowKit
set_option maxRecDepth 100000

theorem op_in {w1 W : World} {sb : Nat} {X : Nat → Prop} {x : OpG} (hx : OpIn w1 x) (hb : Below w1.heap.size w1 W) (hold : ∀ k, k < w1.heap.size → X k) (hge : w1.heap.size ≤ sb) : ByR W (fun k => X k ∧ k ≠ sb) x.BA x.o.b ∧ RowT boolC W (fun k => X k ∧ k ≠ sb) x.KA x.o.ks := by
  have h1 : OpFar W (fun k => ¬ (X k ∧ k ≠ sb)) x := hx.far hb (fun k hk => Nat.le_of_not_lt fun hlt => hk ⟨hold k hlt, fun e => by omega⟩)
  exact ⟨h1.b.mono (fun k hk => Classical.not_not.1 hk), h1.k.mono (fun k hk => Classical.not_not.1 hk)⟩
set_option maxHeartbeats 8000000 in
theorem fkeeps_law (A : Option Addr) (c : Nat) (xs : List OpG) (w : World) (hR : RdO10 w A xs) (hl : xs.length ≤ 9223372036854775807) :
    Calls Try.prog 5 #[.slice A xs.length c] w fun e w' => e = .returned (.bool true) ∧ Below w.heap.size w w' := by
  have Hfew := Lib.hid (few10_calls A c xs w hR hl)
  by_cases hf : xs.length ≤ 80 ∧ totG xs ≤ 8000
  · have hdt : decide (xs.length ≤ 80 ∧ totG xs ≤ 8000) = true := decide_eq_true hf
    rw [hdt] at Hfew
    have HO := Lib.hid hR
    have Hf := Lib.hid hf
    clear hdt hf hR
    go_enter Try.func5, Try.ntmps5
    go_wp2_with fail
    refine Hfew.out.mono ?_
    rintro e w1 ⟨rfl, hb1⟩
    have HB1 := Lib.hid hb1
    clear hb1 Hfew
    go_wp2_with fail
    refine (fnew_calls w1).mono ?_
    rintro e w2 ⟨b, rfl, hin⟩
    have hfx := FX.of_in hin
    clear hin
    go_wp2_with fail
    refine (rnew10_calls w2).mono ?_
    rintro e w3 ⟨rfl, hb3⟩
    have ba := (Below.refl _ w3).alloc (Nat.le_refl _) (.cells #[.slice none 0 0, .int .i64 0, .int .i64 0, .int .i64 (-1), .int .i64 (-1), .bool false] 29)
    have hsz : w3.heap.size < (w3.alloc (.cells #[.slice none 0 0, .int .i64 0, .int .i64 0, .int .i64 (-1), .int .i64 (-1), .bool false] 29)).heap.size := by simp
    have HAll : Hid (∃ X Y, AllAt w1 (w3.alloc (.cells #[.slice none 0 0, .int .i64 0, .int .i64 0, .int .i64 (-1), .int .i64 (-1), .bool false] 29)) w3.heap.size b FS.new 0 X Y none 0 0) := Lib.hid ⟨_, _, (hfx.below hb3).below ba, FS.At.new, BxA.new w3 _ _, ⟨none, 0, [], rfl, fun h => absurd h (by simp), .nil⟩, XN.new hsz, XN.new hsz, Nat.le_trans hfx.bel.size hb3.size, fun k hk => .inl (.inl hk)⟩
    clear hfx hb3 ba hsz
    obtain ⟨sb, hsb⟩ : ∃ sb, sb = w3.heap.size := ⟨_, rfl⟩
    rw [← hsb] at HAll
    have Hsb := Lib.hid hsb
    clear hsb
    go_wp2_with fail
    rw [← Hsb.out]
    go_loopw [27] (fun v27 wr => ∃ (k : Nat) (S : FS) (X Y : Nat → Prop) (A2 : Option Addr) (n2 c2 : Nat), k ≤ xs.length ∧ v27 = .int .i64 (k : Int) ∧ Hid (AllAt w1 wr sb b S k X Y A2 n2 c2) ∧ Hid S.Up) (fun v27 _ => xs.length - (intOf v27).toNat)
    case atStart =>
      obtain ⟨X, Y, h⟩ := HAll.out
      exact ⟨0, FS.new, X, Y, none, 0, 0, Nat.zero_le _, rfl, Lib.hid h, Lib.hid up_new⟩
    case round =>
      obtain ⟨k, S, X, Y, A2, n2, c2, hk, rfl, HA, HUp⟩ := hrel
      clear HAll
      by_cases hlt : k < xs.length
      · have hbw : Below w.heap.size w wr := HB1.out.trans (HA.out.fx.bel.mono HB1.out.size)
        have hin : OpIn w1 (xs.getD k OpG.none_) := by
          obtain ⟨_, _, _, _, _, h⟩ := (HO.out.below HB1.out).at_ hlt
          exact h
        obtain ⟨g, o, rfl, hg, hcs, _⟩ := (HO.out.below hbw).at_ hlt
        have hsm : (xs.getD k OpG.none_).len ≤ 8000 := Nat.le_trans (totG_at hlt) Hf.out.2
        have hk80 : k ≤ 80 := by have := Hf.out.1; omega
        have hkk : (k : Int) < (xs.length : Int) := by omega
        have hx80 : (xs.length : Int) ≤ 80 := by have := Hf.out.1; omega
        have c0 := hcs 0 _ rfl
        have c1 := hcs 1 _ rfl
        have c2' := hcs 2 _ rfl
        have c3 := hcs 3 _ rfl
        have c4 := hcs 4 _ rfl
        have c5 := hcs 5 _ rfl
        rw [Nat.add_zero] at c0
        have HI := Lib.hid hin
        have HSm := Lib.hid hsm
        have Hk80 := Lib.hid hk80
        clear hcs hin hbw hsm hk80
        generalize xs.getD k OpG.none_ = e at *
        have hA1 := HA.out.below ((Below.refl _ wr).alloc (Nat.le_refl _) (.cells (opgC e).toArray 34))
        have hob := BxA.new wr 34 (opgC e)
        have hobX : XN X wr (wr.alloc (.cells (opgC e).toArray 34)) wr.heap.size := XN.new (by simp)
        have HlX : Hid (sb ≠ wr.heap.size) := Lib.hid (fun h => by have := HA.out.box.lt; omega)
        generalize XN X wr (wr.alloc (.cells (opgC e).toArray 34)) = X5 at hA1 hobX
        generalize XN Y wr (wr.alloc (.cells (opgC e).toArray 34)) = Y5 at hA1
        have HA1 := Lib.hid hA1
        have HOb := Lib.hid hob
        have HObX := Lib.hid hobX
        clear hA1 hob hobX HA
        by_cases hkn : 0 ≤ e.o.k ∧ e.o.k ≤ 4
        · have t1 : decide (0 ≤ e.o.k) = true := decide_eq_true hkn.1
          have t2 : decide (e.o.k ≤ 4) = true := decide_eq_true hkn.2
          have Hkn := Lib.hid hkn
          obtain ⟨Sn, hSn⟩ : ∃ Sn, Sn = (doF S e.o).1 := ⟨_, rfl⟩
          obtain ⟨zn, hzn⟩ : ∃ zn, zn = (doF S e.o).2 := ⟨_, rfl⟩
          have HDs := Lib.hid (HA1.out.fx.stepE (E := fun e2 b2 => e2 = .returned (.tuple #[fp b, .int .i64 zn]) ∧ b2 = b) (S2 := Sn) (f := 16) (args := #[fp b, .agg (opgC e).toArray]) (fun O D k1 k2 k3 => by
            have hq := fdoes_calls _ O D b S k k1 HA1.out.at_ (by have := Hk80.out; omega) e (HI.out.below HA1.out.fx.bel) (by have := HSm.out; unfold OpG.len at this; omega) (HI.out.far HA1.out.fx.bel k3) Hkn.out.1 (by have := Hkn.out.2; omega)
            rw [← hSn, ← hzn] at hq
            refine hq.mono ?_
            rintro e2 w' ⟨b2, hb2, h1, h2⟩
            obtain rfl := hb2 Hkn.out.2
            exact ⟨b2, ⟨h1, rfl⟩, h2⟩))
          have HAt : Hid (Sn.At (k + 1)) := Lib.hid (by rw [hSn]; exact HA1.out.at_.does e.o HI.out.i2)
          have HUp2 : Hid Sn.Up := Lib.hid (by rw [hSn]; exact HUp.out.does e.o Hkn.out.1 Hkn.out.2)
          have HSn := Lib.hid hSn
          have Hzn := Lib.hid hzn
          have z0 := HOb.out.c 0 rfl
          have z1 := HOb.out.c 1 rfl
          have z2 := HOb.out.c 2 rfl
          have z3 := HOb.out.c 3 rfl
          have z4 := HOb.out.c 4 rfl
          have z5 := HOb.out.c 5 rfl
          clear hkn hSn hzn
          unfold opgC at HDs HOb HA1 z0 z1 z2 z3 z4 z5
          go_wp2_with fail
          refine HDs.out.mono ?_
          rintro e5 w5 ⟨b5, ⟨rfl, hb5⟩, hf5, ho5⟩
          rw [hb5] at hf5
          clear hb5
          have HF5 := Lib.hid hf5
          have HX5 : Hid (BxA w5 sb 29 (stC A2 n2 c2 S)) := Lib.hid (HA1.out.box.keep ho5 (fun h => h HA1.out.xs))
          have HS5 : Hid (StAt w5 (fun k => X5 k ∧ k ≠ sb) (stV A2 n2 c2 S) S) := Lib.hid (HA1.out.st.keep ho5 (fun k hk h => h hk.1))
          have HO5 := Lib.hid (HOb.out.keep ho5 (fun h => h HObX.out))
          have HPr : Hid (X5 sb ∧ Y5 sb ∧ w1.heap.size ≤ sb ∧ ∀ k, k < w1.heap.size → X5 k) := Lib.hid ⟨HA1.out.xs, HA1.out.ys, HA1.out.ge, HA1.out.old⟩
          have HFt := Lib.hid (HA1.out.at_.fit (by have := Hk80.out; omega))
          clear hf5 ho5 HDs HA1 HOb z0 z1 z2 z3 z4 z5 t1 t2 c0 c1 c2' c3 c4 c5
          have x0 := HX5.out.c 0 rfl
          have x1 := HX5.out.c 1 rfl
          have x2 := HX5.out.c 2 rfl
          have x3 := HX5.out.c 3 rfl
          have x4 := HX5.out.c 4 rfl
          have x5 := HX5.out.c 5 rfl
          have z0 := HO5.out.c 0 rfl
          have z1 := HO5.out.c 1 rfl
          have z2 := HO5.out.c 2 rfl
          have z3 := HO5.out.c 3 rfl
          have z4 := HO5.out.c 4 rfl
          have z5 := HO5.out.c 5 rfl
          have HOp := Lib.hid (op_in HI.out HF5.out.bel HPr.out.2.2.2 HPr.out.2.2.1)
          have HDo := Lib.hid (rdo10_calls w5 (fun k => X5 k ∧ k ≠ sb) _ S e.o e.BA e.bc e.KA e.kc HS5.out HFt.out Hkn.out.1 (by have := Hkn.out.2; omega) HOp.out.1 HI.out.bn (by have := HSm.out; unfold OpG.len at this; omega) HOp.out.2 (by have := HSm.out; unfold OpG.len at this; omega))
          unfold stV opC at HDo
          go_wp2_with fail
          refine HDo.out.mono ?_
          rintro e6 w6 ⟨v', rfl, hst6, hb6⟩
          obtain ⟨A6, c6, vs6, rfl, hr6, ha6⟩ := hst6
          rw [← HSn.out] at ha6 ⊢
          rw [← Hzn.out]
          have HSt6 : Hid (StAt w6 (fun k => XN X5 w5 w6 k ∧ k ≠ sb) (stV A6 vs6.length c6 Sn) Sn) := Lib.hid ((StAt.cap (⟨A6, c6, vs6, rfl, hr6, ha6⟩ : StAt w6 (DW (fun k => X5 k ∧ k ≠ sb) w5) (stV A6 vs6.length c6 Sn) Sn)).mono (fun k hk => by
            rcases hk with ⟨⟨h1, h2⟩ | h1, h3⟩
            · exact ⟨.inl h1, h2⟩
            · exact ⟨.inr ⟨h1, h3⟩, fun e => by have := HX5.out.lt; omega⟩))
          have HFx : Hid (FX w1 w6 (XN X5 w5 w6) (XN Y5 w5 w6) b Sn) := Lib.hid (HF5.out.below hb6)
          have HBx7 := Lib.hid (HX5.out.below hb6)
          clear hr6 ha6 hb6 HDo x0 x1 x2 x3 x4 x5 z0 z1 z2 z3 z4 z5 HO5 HS5 HF5
          unfold stC at *
          unfold stV
          have f0 := BxA.free HBx7.out 0
          have f1 := BxA.free HBx7.out 1
          have f2 := BxA.free HBx7.out 2
          have f3 := BxA.free HBx7.out 3
          have f4 := BxA.free HBx7.out 4
          have f5 := BxA.free HBx7.out 5
          have y0 := HBx7.out.c 0 rfl
          have y1 := HBx7.out.c 1 rfl
          have y2 := HBx7.out.c 2 rfl
          have y3 := HBx7.out.c 3 rfl
          have y4 := HBx7.out.c 4 rfl
          have y5 := HBx7.out.c 5 rfl
          go_wp2_with fail
          have ho8 := six_only w6 sb (.slice A6 vs6.length c6) (.int .i64 (Sn.no : Int)) (.int .i64 (Sn.ops : Int)) (.int .i64 Sn.fuse) (.int .i64 Sn.fault) (.bool Sn.down)
          have hx8 := six_box HBx7.out (.slice A6 vs6.length c6) (.int .i64 (Sn.no : Int)) (.int .i64 (Sn.ops : Int)) (.int .i64 Sn.fuse) (.int .i64 Sn.fault) (.bool Sn.down)
          have hs8 := HSt6.out.keep ho8 (fun i hi e => hi.2 e)
          have hf8 := FX.wrote HFx.out ho8 (fun k h => by rw [h]; exact .inl HPr.out.2.1) (fun k h => by rw [h]; exact HPr.out.2.2.1)
          have HA8 : Hid (AllAt w1 _ sb b Sn (k + 1) (XN X5 w5 w6) (XN Y5 w5 w6) A6 vs6.length c6) := Lib.hid ⟨hf8, HAt.out, hx8, hs8, .inl HPr.out.1, .inl HPr.out.2.1, HPr.out.2.2.1, fun k h => .inl (HPr.out.2.2.2 k h)⟩
          clear ho8 hx8 hs8 hf8 f0 f1 f2 f3 f4 f5 y0 y1 y2 y3 y4 y5 HSt6 HFx HBx7
          go_roundw
          case rel => exact ⟨k + 1, Sn, _, _, A6, vs6.length, c6, by omega, by go_num, HA8, HUp2⟩
          case measure => simp [intOf]; omega
        · have z0 := HOb.out.c 0 rfl
          have z1 := HOb.out.c 1 rfl
          have z2 := HOb.out.c 2 rfl
          have z3 := HOb.out.c 3 rfl
          have z4 := HOb.out.c 4 rfl
          have z5 := HOb.out.c 5 rfl
          unfold opgC at HOb HA1 z0 z1 z2 z3 z4 z5
          have HA2 := Lib.hid (HA1.out.mono (m2 := k + 1) (by omega))
          by_cases h0 : 0 ≤ e.o.k
          · have t1 : decide (0 ≤ e.o.k) = true := decide_eq_true h0
            have t2 : decide (e.o.k ≤ 4) = false := decide_eq_false (by omega)
            clear hkn h0
            go_wp2_with fail
            go_roundw
            case rel => exact ⟨k + 1, S, X5, Y5, A2, n2, c2, by omega, by go_num, HA2, HUp⟩
            case measure => simp [intOf]; omega
          · have t1 : decide (0 ≤ e.o.k) = false := decide_eq_false h0
            clear hkn h0
            go_wp2_with fail
            go_roundw
            case rel => exact ⟨k + 1, S, X5, Y5, A2, n2, c2, by omega, by go_num, HA2, HUp⟩
            case measure => simp [intOf]; omega
      · obtain rfl : k = xs.length := by omega
        have HS : Hid S.Fit := Lib.hid (HA.out.at_.fit (by have := Hf.out.1; omega))
        have HCr : Hid (∀ ks, (S.crash ks).Fit) := Lib.hid (fun ks => (HA.out.at_.crash ks).fit (by have := Hf.out.1; omega))
        have HC := Lib.hid (cop2_calls HA.out HS.out)
        clear HA HO Hf
        go_wp2_with fail
        refine HC.out.mono ?_
        rintro e w5 ⟨ba, rfl, hc⟩
        have HC2 := Lib.hid hc
        clear hc HC
        go_wp2_with fail
        refine HC2.out.mono ?_
        rintro e w6 ⟨bb, rfl, hc⟩
        have HC3 := Lib.hid (hc.crashA HS.out)
        clear hc HC2
        go_wp2_with fail
        refine HC3.out.mono ?_
        rintro e w7 ⟨rfl, hc⟩
        have HC4 := Lib.hid hc
        clear hc HC3
        go_wp2_with fail
        refine HC4.out.mono ?_
        rintro e w8 ⟨rfl, hc⟩
        have HT := Lib.hid hc
        have q0 := hc.box.c 0 rfl
        have q1 := hc.box.c 1 rfl
        have q2 := hc.box.c 2 rfl
        have q3 := hc.box.c 3 rfl
        have q4 := hc.box.c 4 rfl
        have q5 := hc.box.c 5 rfl
        clear hc HC4
        unfold stC at q0 q1 q2 q3 q4 q5
        obtain ⟨Ds, hst⟩ := HT.out.st
        obtain ⟨vs, hn, hr, ha⟩ := st_of hst
        subst hn
        have HLen := Lib.hid (all2_len ha)
        have HR := Lib.hid hr
        have HAl := Lib.hid ha
        clear hst hr ha
        go_wp2_with fail
        go_loopw [67] (fun v67 wr => ∃ k : Nat, k ≤ vs.length ∧ v67 = .int .i64 (k : Int) ∧ Below w8.heap.size w8 wr) (fun v67 _ => vs.length - (intOf v67).toNat)
        case atStart => exact ⟨0, Nat.zero_le _, rfl, Below.refl _ _⟩
        case round =>
          obtain ⟨k, hk, rfl, hbel⟩ := hrel
          clear q0 q1 q2 q3 q4 q5
          by_cases hlt : k < vs.length
          · obtain ⟨f, hf⟩ : ∃ f, S.l[k]? = some f := ⟨_, List.getElem?_eq_getElem (by rw [← HLen.out]; exact hlt)⟩
            obtain ⟨g, o, q, rfl, hg, _, hfr, c0, c1, c2⟩ := file_of (HR.out.below hbel) (all2_imp (fun _ _ h => FileR.below h hbel) HAl.out) hf
            have hm := List.mem_of_getElem? hf
            have HM := Lib.hid hm
            have hnm := hfr.name
            rw [hnm] at c0
            have hkk : (k : Int) < (vs.length : Int) := by omega
            have hlim : (vs.length : Int) ≤ 1000 := by have := HLen.out; have := HS.out.ok.few; omega
            have HBl := Lib.hid hbel
            have ba1 := (Below.refl _ wr).alloc (Nat.le_refl _) (.cells #[.string f.name, .slice q.A q.n q.c, .slice q.R q.rn q.rc] 50)
            have HFr := Lib.hid (FileR.below hfr ba1)
            have HXX := Lib.hid (BxA.new wr 50 [.string f.name, .slice q.A q.n q.c, .slice q.R q.rn q.rc])
            have HBa : Hid (Below w8.heap.size w8 (wr.alloc (.cells #[.string f.name, .slice q.A q.n q.c, .slice q.R q.rn q.rc] 50))) := Lib.hid (HBl.out.trans (ba1.mono HBl.out.size))
            have HRd1 : Hid (∀ W', Below w8.heap.size w8 W' → Calls Try.prog 18 #[fp b, .string f.name] W' fun e w' => ∃ u, e = .returned (.tuple #[u, .int .i64 0]) ∧ w'.ownsRow W'.heap.size 5 1 u f.all.length (Lib.byteCells f.all) ∧ Below W'.heap.size W' w') := Lib.hid (fun W' h => by
              obtain ⟨O, D, h1⟩ := HT.out.f
              have := fread_calls W' O D b S (objFile.below h1 h) HS.out f.name
              rw [HUp.out.read HS.out.ok f HM.out] at this
              exact this)
            have HRd2 : Hid (∀ W', Below w8.heap.size w8 W' → Calls Try.prog 18 #[fp ba, .string f.name] W' fun e w' => ∃ u, e = .returned (.tuple #[u, .int .i64 0]) ∧ w'.ownsRow W'.heap.size 5 1 u f.all.length (Lib.byteCells f.all) ∧ Below W'.heap.size W' w') := Lib.hid (fun W' h => by
              obtain ⟨O, D, h1⟩ := HT.out.a
              have := fread_calls W' O D ba _ (objFile.below h1 h) (HCr.out _) f.name
              rw [crash_all f HM.out HS.out.ok] at this
              exact this)
            have HRd3 : Hid (∀ W', Below w8.heap.size w8 W' → Calls Try.prog 18 #[fp bb, .string f.name] W' fun e w' => ∃ u, e = .returned (.tuple #[u, .int .i64 0]) ∧ w'.ownsRow W'.heap.size 5 1 u f.b.length (Lib.byteCells f.b) ∧ Below W'.heap.size W' w') := Lib.hid (fun W' h => by
              obtain ⟨O, D, h1⟩ := HT.out.b
              have := fread_calls W' O D bb _ (objFile.below h1 h) (HCr.out _) f.name
              rw [crash_none f HM.out HS.out.ok] at this
              exact this)
            clear hfr hnm hf hbel ba1 hm
            go_wp2_with fail
            refine (HRd1.out _ HBa.out).mono ?_
            rintro e w5 ⟨u5, rfl, hown5, hb5⟩
            obtain ⟨A5, n5, rfl⟩ := own_form hown5
            have HL5 := Lib.hid (byt_of_own hown5).1
            have HB5 : Hid (Below w8.heap.size w8 w5) := Lib.hid (HBa.out.trans (hb5.mono HBa.out.size))
            have HX5 := Lib.hid (HXX.out.below hb5)
            have HF5 := Lib.hid (FileR.below HFr.out hb5)
            have xx := HX5.out.c 0 rfl
            clear hown5 hb5 HBa HXX HRd1 c0 c1 c2 HFr
            go_wp2_with fail
            refine (HRd2.out _ HB5.out).mono ?_
            rintro e w7 ⟨u7, rfl, hown7, hb7⟩
            obtain ⟨A7, n7, rfl⟩ := own_form hown7
            have HL7 := Lib.hid (byt_of_own hown7).1
            have HL57 := Lib.hid (HL5.out.below hb7)
            have HB7 : Hid (Below w8.heap.size w8 w7) := Lib.hid (HB5.out.trans (hb7.mono HB5.out.size))
            have HX7 := Lib.hid (HX5.out.below hb7)
            have HF7 := Lib.hid (FileR.below HF5.out hb7)
            clear xx hown7 hb7 HRd2 HL5 HX5 HF5
            have xx := HX7.out.c 0 rfl
            go_wp2_with fail
            refine (HRd3.out _ HB7.out).mono ?_
            rintro e w9 ⟨u9, rfl, hown9, hb9⟩
            obtain ⟨A9, n9, rfl⟩ := own_form hown9
            have HL9 := Lib.hid (byt_of_own hown9).1
            have HL59 := Lib.hid (HL57.out.below hb9)
            have HL79 := Lib.hid (HL7.out.below hb9)
            have HB9 : Hid (Below w8.heap.size w8 w9) := Lib.hid (HB7.out.trans (hb9.mono HB7.out.size))
            have HX9 := Lib.hid (HX7.out.below hb9)
            have HF9 := Lib.hid (FileR.below HF7.out hb9)
            clear xx hown9 hb9 HRd3 HL57 HL7 HX7 HF7
            have xx1 := HX9.out.c 1 rfl
            have hxl := HX9.out.lt
            have Hxl := Lib.hid hxl
            have HQ1 : Hid (∀ W', Below w9.heap.size w9 W' → Calls Try.prog 22 #[.slice A5 f.all.length n5, .slice A7 f.all.length n7] W' fun e w' => e = .returned (.bool true) ∧ Below W'.heap.size W' w') := Lib.hid (fun W' h => by
              have := beq_calls A5 A7 n5 n7 f.all f.all W' (HL59.out.below h) (HL79.out.below h)
              rw [decide_eq_true rfl] at this
              exact this)
            have HQ2 : Hid (∀ W', Below w9.heap.size w9 W' → Calls Try.prog 22 #[.slice A9 f.b.length n9, .slice q.A q.n q.c] W' fun e w' => e = .returned (.bool true) ∧ Below W'.heap.size W' w') := Lib.hid (fun W' h => by
              have := beq_calls A9 q.A n9 q.c f.b f.b W' (HL9.out.below h) (HF9.out.rd.byt.below h)
              rw [decide_eq_true rfl, ← HF9.out.n] at this
              rw [← HF9.out.n]
              exact this)
            clear hxl
            go_wp2_with fail
            refine (HQ1.out _ (Below.refl _ _)).mono ?_
            rintro e y1 ⟨rfl, hb⟩
            have JJ1 : Hid (Below w9.heap.size w9 y1) := Lib.hid hb
            have k1 := (hb.cell (p := ⟨wr.heap.size, 1, none⟩) Hxl.out).trans xx1
            clear hb xx1
            go_wp2_with fail
            refine (HQ2.out _ JJ1.out).mono ?_
            rintro e y2 ⟨rfl, hb⟩
            have JJ2 : Hid (Below w9.heap.size w9 y2) := Lib.hid (JJ1.out.trans (hb.mono JJ1.out.size))
            clear hb k1
            go_wp2_with fail
            go_roundw
            case rel => exact ⟨k + 1, by omega, by go_num, HB9.out.trans (JJ2.out.mono HB9.out.size)⟩
            case measure => simp [intOf]; omega
          · obtain rfl : k = vs.length := by omega
            have HT2 := Lib.hid (HT.out.below hbel)
            clear hbel HT
            go_wp2_with fail
            refine (falive_calls _).mono ?_
            rintro e w5 ⟨rfl, hb5⟩
            have HT5 := Lib.hid (HT2.out.below hb5)
            clear hb5 HT2
            have HP1 : Hid (Calls Try.prog 23 #[fp ba] w5 fun e w' => e = .returned (.int .i64 0) ∧ Below w5.heap.size w5 w') := Lib.hid (by
              obtain ⟨O, D, h1⟩ := HT5.out.a
              have := fpending_calls w5 O D ba _ h1 (HCr.out _)
              rw [crash_pend] at this
              exact this)
            go_wp2_with fail
            refine HP1.out.mono ?_
            rintro e w6 ⟨rfl, hb6⟩
            have HT6 := Lib.hid (HT5.out.below hb6)
            clear hb6 HT5 HP1
            have HP2 : Hid (Calls Try.prog 23 #[fp bb] w6 fun e w' => e = .returned (.int .i64 0) ∧ Below w6.heap.size w6 w') := Lib.hid (by
              obtain ⟨O, D, h1⟩ := HT6.out.b
              have := fpending_calls w6 O D bb _ h1 (HCr.out _)
              rw [crash_pend] at this
              exact this)
            go_wp2_with fail
            refine HP2.out.mono ?_
            rintro e w7 ⟨rfl, hb7⟩
            have HT7 := Lib.hid (HT6.out.below hb7)
            clear hb7 HT6 HP2
            go_wp2_with fail
            go_ret
            exact ⟨rfl, HB1.out.trans (HT7.out.bel.mono HB1.out.size)⟩
  · have hdt : decide (xs.length ≤ 80 ∧ totG xs ≤ 8000) = false := decide_eq_false hf
    rw [hdt] at Hfew
    clear hdt hf hR
    go_enter Try.func5, Try.ntmps5
    go_wp2_with fail
    refine Hfew.out.mono ?_
    rintro e w1 ⟨rfl, hb1⟩
    have HB1 := Lib.hid hb1
    clear hb1 Hfew
    go_wp2_with fail
    refine (falive_calls w1).mono ?_
    rintro e w2 ⟨rfl, hb2⟩
    have HB2 := Lib.hid (HB1.out.trans (hb2.mono HB1.out.size))
    clear hb2
    go_wp2_with fail
    go_ret
    exact ⟨rfl, HB2.out⟩
end Go.Proofs.Ytaeiffpdnlejbaa
