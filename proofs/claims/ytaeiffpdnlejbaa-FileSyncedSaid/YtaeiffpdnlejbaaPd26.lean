/-
  Layer 7 and what it stands on, part 26 (Syn).
-/
import Derived.Test.YtaeiffpdnlejbaaPd25
import Derived.Test.YtaeiffpdnlejbaaShelf
namespace Go.Proofs.Ytaeiffpdnlejbaa
section
open Go Go.RowKit
theorem rowT_of_old {α : Type} {C : α → List Value} {w W : World} {X R : Nat → Prop} {A : Option Addr} {l : List α} (h : RowT C w R A l) (hb : Below w.heap.size w W) (hX : ∀ k, k < w.heap.size → X k) : RowT C W X A l := fun hn => by
  obtain ⟨g, o, e, _, hg, hc⟩ := h hn
  exact ⟨g, o, e, hX g hg, Nat.lt_of_lt_of_le hg hb.size, fun j v hj => (hb.cell (p := ⟨g, o + j, none⟩) hg).trans (hc j v hj)⟩
structure Sl where
  A : Option Addr
  l : List UInt8
  c : Nat
def slV (s : Sl) : Value := .slice s.A s.l.length s.c
section
variable {α : Type}
theorem del_nm {ps : List (ByteArray × α)} {n : ByteArray} (hn : (ps.map Prod.fst).Nodup) : ((delP ps n).map Prod.fst).Nodup ∧ ∀ p ∈ delP ps n, p ∈ ps ∧ p.1 ≠ n := by
  by_cases h : ∃ p ∈ ps, p.1 = n
  · obtain ⟨⟨n', v⟩, hp, rfl⟩ := h
    obtain ⟨a, d, rfl⟩ := List.append_of_mem hp
    have hpm : (a ++ (n', v) :: d).Perm ((n', v) :: (a ++ d)) := List.perm_middle
    have h1 := delP_perm hn hpm
    obtain ⟨h3, h4⟩ := List.nodup_cons.1 (((hpm.map Prod.fst).nodup_iff).1 hn)
    refine ⟨((h1.map Prod.fst).nodup_iff).2 h4, fun p hp => ?_⟩
    have h5 := h1.mem_iff.1 hp
    refine ⟨hpm.mem_iff.2 (List.mem_cons_of_mem _ h5), fun e => h3 ?_⟩
    show n' ∈ _
    rw [← show p.1 = n' from e]
    exact List.mem_map_of_mem (f := Prod.fst) h5
  · have h' : ∀ p ∈ ps, p.1 ≠ n := fun p hp e => h ⟨p, hp, e⟩
    have e : delP ps n = ps := by unfold delP; rw [(findP_none n ps 0).2 h']
    rw [e]
    exact ⟨hn, fun p hp => ⟨hp, h' p hp⟩⟩
theorem put_nm {ps : List (ByteArray × α)} {n : ByteArray} (hn : (ps.map Prod.fst).Nodup) (u : α) : ((putP ps n u).map Prod.fst).Nodup ∧ ∀ p ∈ putP ps n u, p = (n, u) ∨ p ∈ ps := by
  by_cases h : ∃ p ∈ ps, p.1 = n
  · obtain ⟨⟨n', v⟩, hp, rfl⟩ := h
    obtain ⟨a, d, rfl⟩ := List.append_of_mem hp
    have hpm : (a ++ (n', v) :: d).Perm ((n', v) :: (a ++ d)) := List.perm_middle
    have h1 := putP_perm hn hpm u
    have h2 := ((hpm.map Prod.fst).nodup_iff).1 hn
    refine ⟨((h1.map Prod.fst).nodup_iff).2 h2, fun p hp => ?_⟩
    rcases List.mem_cons.1 (h1.mem_iff.1 hp) with h | h
    · exact .inl h
    · exact .inr (hpm.mem_iff.2 (List.mem_cons_of_mem _ h))
  · have h' : ∀ p ∈ ps, p.1 ≠ n := fun p hp e => h ⟨p, hp, e⟩
    rw [putP_no h' u]
    have hpm : (ps ++ [(n, u)]).Perm ((n, u) :: ps) := List.perm_append_singleton _ _
    refine ⟨((hpm.map Prod.fst).nodup_iff).2 (List.nodup_cons.2 ⟨fun hm => ?_, hn⟩), fun p hp => List.mem_cons.1 (hpm.mem_iff.1 hp)⟩
    obtain ⟨p, hp, hpn⟩ := List.mem_map.1 hm
    exact h' p hp hpn
end
/-- Any of the five ops leaves what is synced, if it does not drop it. -/
theorem Surv.does {S : FS} (hS : S.Ok) {n : ByteArray} {b : List UInt8} (h : Surv S n b) (o : OpF) (h0 : 0 ≤ o.k) (h4 : o.k ≤ 4) (hn : (doF S o).2 = 0 → 2 ≤ o.k → n ≠ o.n ∧ (o.k = 2 → n ≠ o.t)) : Surv (doF S o).1 n b := by
  rcases (by omega : o.k = 0 ∨ o.k = 1 ∨ o.k = 2 ∨ o.k = 3 ∨ o.k = 4) with e | e | e | e | e
  · have h1 : doF S o = S.write o.n o.b := by unfold doF; simp [e]
    rw [h1]
    exact h.write hS _ _
  · have h1 : doF S o = S.sync o.n := by unfold doF; simp [e]
    rw [h1]
    exact h.sync hS _
  · have h1 : doF S o = S.rename o.n o.t := by unfold doF; simp [e]
    rw [h1] at hn ⊢
    exact h.rename hS _ _ (fun hz => ⟨(hn hz (by omega)).1, (hn hz (by omega)).2 e⟩)
  · have h1 : doF S o = S.remove o.n := by unfold doF; simp [e]
    rw [h1] at hn ⊢
    exact h.remove hS _ (fun hz => (hn hz (by omega)).1)
  · have h1 : doF S o = S.cut o.n o.i := by unfold doF; simp [e]
    rw [h1] at hn ⊢
    exact h.cut hS _ _ (fun hz => (hn hz (by omega)).1)
def Svs (S : FS) (ps : List (ByteArray × Sl)) : Prop := ∀ p ∈ ps, Surv S p.1 p.2.l
theorem Svs.does {S : FS} (hS : S.Ok) {ps : List (ByteArray × Sl)} (h : Svs S ps) (o : OpF) (h0 : 0 ≤ o.k) (h4 : o.k ≤ 4) (hn : (doF S o).2 ≠ 0 ∨ o.k ≤ 1) : Svs (doF S o).1 ps := fun p hp =>
  (h p hp).does hS o h0 h4 (fun hz h2 => by rcases hn with h | h <;> first | exact absurd hz h | omega)
theorem Svs.del {S : FS} (hS : S.Ok) {ps : List (ByteArray × Sl)} (h : Svs S ps) (hnd : (ps.map Prod.fst).Nodup) (o : OpF) (h0 : 0 ≤ o.k) (h4 : o.k ≤ 4) (hn : o.k ≠ 2) : Svs (doF S o).1 (delP ps o.n) := fun p hp =>
  (h p ((del_nm hnd).2 p hp).1).does hS o h0 h4 (fun _ _ => ⟨((del_nm hnd).2 p hp).2, fun e => absurd e hn⟩)
theorem Svs.del2 {S : FS} (hS : S.Ok) {ps : List (ByteArray × Sl)} (h : Svs S ps) (hnd : (ps.map Prod.fst).Nodup) (o : OpF) (h0 : 0 ≤ o.k) (h4 : o.k ≤ 4) : Svs (doF S o).1 (delP (delP ps o.n) o.t) := fun p hp => by
  have h1 := (del_nm (del_nm hnd).1).2 p hp
  have h2 := (del_nm hnd).2 p h1.1
  exact (h p h2.1).does hS o h0 h4 (fun _ _ => ⟨h2.2, fun _ => h1.2⟩)
theorem Svs.put {S : FS} {ps : List (ByteArray × Sl)} (h : Svs S ps) (hnd : (ps.map Prod.fst).Nodup) {n : ByteArray} {s : Sl} (hs : Surv S n s.l) : Svs S (putP ps n s) := fun p hp => by
  rcases (put_nm hnd s).2 p hp with h1 | h1
  · rw [h1]; exact hs
  · exact h p h1
/-- The file system, and the map of what was synced. -/
structure Syn (w1 W : World) (X Y : Nat → Prop) (b : Nat) (S : FS) (m : Nat) (ps : List (ByteArray × Sl)) : Prop where
  fx : FX w1 W X Y b S
  map : MapAt slV W m ps
  xm : X m
  ym : Y m
  ge : w1.heap.size ≤ m
  nd : (ps.map Prod.fst).Nodup
  rows : ∀ p ∈ ps, ByR W (fun k => X k ∧ k ≠ m) p.2.A p.2.l
  old : ∀ k, k < w1.heap.size → X k
section
variable {w1 W W2 : World} {X Y : Nat → Prop} {b m : Nat} {S S2 : FS} {ps : List (ByteArray × Sl)}
theorem Syn.below (h : Syn w1 W X Y b S m ps) (hb : Below W.heap.size W W2) : Syn w1 W2 (XN X W W2) (XN Y W W2) b S m ps :=
  ⟨h.fx.below hb, h.map.below hb, .inl h.xm, .inl h.ym, h.ge, h.nd, fun p hp => ((h.rows p hp).below hb).mono (fun _ hk => ⟨.inl hk.1, hk.2⟩), fun k hk => .inl (h.old k hk)⟩
theorem Syn.keep (h : Syn w1 W X Y b S m ps) (hf : FX w1 W2 X Y b S2) (ho : Only (fun k => ¬ X k) W W2) : Syn w1 W2 X Y b S2 m ps :=
  ⟨hf, h.map.keep ho (fun hn => hn h.xm), h.xm, h.ym, h.ge, h.nd, fun p hp => (h.rows p hp).keep ho (fun _ hk hn => hn hk.1), h.old⟩
theorem Syn.put_run (h : Syn w1 W X Y b S m ps) (n : ByteArray) (A : Option Addr) (l : List UInt8) (c : Nat) (hs : ByR W (fun k => X k ∧ k ≠ m) A l) :
    ∃ W2, (Instr.mapUpdate 44 (.map (some m)) (.string n) (.slice A l.length c)).run Try.prog W = .ok () W2 ∧ Syn w1 W2 X Y b S m (putP ps n ⟨A, l, c⟩) ∧ Only (fun k => k = m) W W2 := by
  obtain ⟨s, rfl, rfl, rfl⟩ : ∃ s : Sl, s.A = A ∧ s.l = l ∧ s.c = c := ⟨⟨A, l, c⟩, rfl, rfl, rfl⟩
  obtain ⟨W2, r, hm, ho⟩ := run_putS (P := Try.prog) Try.underlying44 Try.underlying9 h.map n s
  refine ⟨W2, r, ⟨FX.wrote h.fx ho (fun k e => by rw [e]; exact h.ym) (fun k e => by rw [e]; exact h.ge), hm, h.xm, h.ym, h.ge, (put_nm h.nd s).1, fun p hp => ?_, h.old⟩, ho⟩
  rcases (put_nm h.nd s).2 p hp with h1 | h1
  · rw [h1]; exact hs.keep ho (fun k hk e => hk.2 e)
  · exact (h.rows p h1).keep ho (fun k hk e => hk.2 e)
theorem Syn.del_run (h : Syn w1 W X Y b S m ps) (n : ByteArray) (ty : TypeId) :
    ∃ W2, (Builtin.delete_ #[44, 9] ty #[.map (some m), .string n]).run Try.prog W = .ok (.tuple #[]) W2 ∧ Syn w1 W2 X Y b S m (delP ps n) ∧ Only (fun k => k = m) W W2 := by
  obtain ⟨W2, r, hm, ho⟩ := run_delS (P := Try.prog) Try.underlying44 Try.underlying9 ty h.map n
  exact ⟨W2, r, ⟨FX.wrote h.fx ho (fun k e => by rw [e]; exact h.ym) (fun k e => by rw [e]; exact h.ge), hm, h.xm, h.ym, h.ge, (del_nm h.nd).1, fun p hp => (h.rows p ((del_nm h.nd).2 p hp).1).keep ho (fun k hk e => hk.2 e), h.old⟩, ho⟩
theorem Syn.new (hf : FX w1 W X Y b S) (hold : ∀ k, k < w1.heap.size → X k) : Syn w1 (W.alloc (.map #[] 0)) (XN X W (W.alloc (.map #[] 0))) (XN Y W (W.alloc (.map #[] 0))) b S W.heap.size [] :=
  ⟨hf.below ((Below.refl _ W).alloc (Nat.le_refl _) _), MapAt.new W, XN.new (by simp), XN.new (by simp), hf.bel.size, List.nodup_nil, fun p hp => (by cases hp), fun k hk => .inl (hold k hk)⟩
end
/-- bytes.HasPrefix, where it is one. -/
theorem bpre_calls (A B : Option Addr) (c d : Nat) (l m : List UInt8) (w : World) (h1 : Byt w A l) (h2 : Byt w B m) (hc : l.length ≤ c) (h : m <+: l) :
    Calls Try.prog 20 #[.slice A l.length c, .slice B m.length d] w fun e w' => e = .returned (.bool true) ∧ Below w.heap.size w w' := by
  refine (Try.bytes_HasPrefix_all A B l.length c m.length d (nums l) (nums m) w (nums_length l) (nums_length m) hc h1 h2).mono ?_
  rintro e w' ⟨rfl, rfl⟩
  refine ⟨?_, Below.refl _ _⟩
  rw [bytesOf_nums, bytesOf_nums]
  have : Lib.hasPrefix l m = true := List.isPrefixOf_iff_prefix.2 h
  rw [this]
end
end Go.Proofs.Ytaeiffpdnlejbaa
