/-
  Layer 7 and what it stands on, part 6 (JournalMath).
-/
import Derived.Test.YteafcaambnfdoaaGreatDoorPq3
import Derived.Test.YteafcaambnfdoaaGreatDoorPq5
namespace Go.Proofs.YteafcaambnfdoaaGreatDoor
section
open Go
structure EnJ where
 t : Int
 d : List UInt8
 c : List UInt8
 deriving DecidableEq
def EnJ.none_ : EnJ := ⟨0, [], []⟩
def rightJ (e : EnJ) : Prop := 0 ≤ e.t ∧ e.t ≤ 1099511627775 ∧ e.d.length ≤ 60 ∧ 1 ≤ e.c.length ∧ e.c.length ≤ 600 ∧ plainL e.d = e.d ∧ plainL e.c = e.c
instance (e : EnJ) : Decidable (rightJ e) := by unfold rightJ; infer_instance
def timeB (n : Nat) : List UInt8 := [UInt8.ofNat (n % 256), UInt8.ofNat (n / 256 % 256), UInt8.ofNat (n / 65536 % 256), UInt8.ofNat (n / 16777216 % 256), UInt8.ofNat (n / 4294967296 % 256)]
def timeN (p : List UInt8) : Nat := (p.getD 0 0).toNat + 256 * ((p.getD 1 0).toNat + 256 * ((p.getD 2 0).toNat + 256 * ((p.getD 3 0).toNat + 256 * (p.getD 4 0).toNat)))
def payJ (e : EnJ) : List UInt8 := timeB e.t.toNat ++ (UInt8.ofNat e.d.length :: (e.d ++ e.c))
def readJ (p : List UInt8) : EnJ := ⟨(timeN p : Int), (p.drop 6).take (p.getD 5 0).toNat, p.drop (6 + (p.getD 5 0).toNat)⟩
def unpackJ (p : List UInt8) : Option EnJ := if 6 ≤ p.length ∧ 6 + (p.getD 5 0).toNat ≤ p.length ∧ rightJ (readJ p) then some (readJ p) else none
theorem payJ_length (e : EnJ) : (payJ e).length = 6 + e.d.length + e.c.length := by unfold payJ timeB; simp; omega
theorem payJ_le {e : EnJ} (h : rightJ e) : (payJ e).length ≤ 1000 := by rw [payJ_length]; have := h.2.2.1; have := h.2.2.2.2.1; omega
theorem timeN_lt (p : List UInt8) : timeN p ≤ 1099511627775 := by
 unfold timeN
 have h0 := (p.getD 0 0).toNat_lt
 have h1 := (p.getD 1 0).toNat_lt
 have h2 := (p.getD 2 0).toNat_lt
 have h3 := (p.getD 3 0).toNat_lt
 have h4 := (p.getD 4 0).toNat_lt
 omega
theorem timeN_B (n : Nat) (h : n ≤ 1099511627775) (r : List UInt8) : timeN (timeB n ++ r) = n := by
 unfold timeN timeB
 show (UInt8.ofNat (n % 256)).toNat + 256 * ((UInt8.ofNat (n / 256 % 256)).toNat + 256 * ((UInt8.ofNat (n / 65536 % 256)).toNat + 256 * ((UInt8.ofNat (n / 16777216 % 256)).toNat + 256 * (UInt8.ofNat (n / 4294967296 % 256)).toNat))) = n
 simp only [UInt8.toNat_ofNat']
 omega
theorem read_pay {e : EnJ} (h : rightJ e) : readJ (payJ e) = e ∧ ((payJ e).getD 5 0).toNat = e.d.length := by
 obtain ⟨h0, h1, h2, _⟩ := h
 have e5 : ((payJ e).getD 5 0).toNat = e.d.length := by
  show (UInt8.ofNat e.d.length).toNat = e.d.length
  rw [UInt8.toNat_ofNat']
  omega
 refine ⟨?_, e5⟩
 have et : timeN (payJ e) = e.t.toNat := timeN_B _ (by omega) _
 have ed : (payJ e).drop 6 = e.d ++ e.c := rfl
 have ec : (payJ e).drop (6 + e.d.length) = e.c := by rw [← List.drop_drop, ed, List.drop_left]
 unfold readJ
 rw [e5, et, ed, ec, List.take_left]
 obtain ⟨t, d, c⟩ := e
 simp only at *
 congr 1
 omega
theorem unpack_pay {e : EnJ} (h : rightJ e) : unpackJ (payJ e) = some e := by
 obtain ⟨h1, h2⟩ := read_pay h
 have hl := payJ_length e
 unfold unpackJ
 rw [if_pos ⟨by omega, by rw [h2]; omega, by rw [h1]; exact h⟩, h1]
def entsJ : List (List UInt8) → List EnJ × Nat
 | [] => ([], 0)
 | p :: r => match unpackJ p with
  | none => ([], 0)
  | some e => (e :: (entsJ r).1, 6 + p.length + (entsJ r).2)
def entriesJ (b : List UInt8) : List EnJ × Nat := entsJ (scanF b).1
def recJ (e : EnJ) : List UInt8 := packF (payJ e)
def recsJ (l : List EnJ) : List UInt8 := (l.map recJ).flatten
theorem recsJ_packs (l : List EnJ) : recsJ l = packsF (l.map payJ) := by unfold recsJ packsF; rw [List.map_map]; rfl
theorem recsJ_append (l m : List EnJ) : recsJ (l ++ m) = recsJ l ++ recsJ m := by unfold recsJ; simp
theorem recsJ_cons (e : EnJ) (l : List EnJ) : recsJ (e :: l) = recJ e ++ recsJ l := by unfold recsJ; simp
theorem recJ_length (e : EnJ) : (recJ e).length = 12 + e.d.length + e.c.length := by unfold recJ; rw [packF_length, payJ_length]; omega
theorem ents_pay : ∀ (l : List EnJ) (m : List (List UInt8)), (∀ e ∈ l, rightJ e) → entsJ (l.map payJ ++ m) = (l ++ (entsJ m).1, (recsJ l).length + (entsJ m).2)
 | [], m, _ => by simp [recsJ]
 | e :: l, m, h => by
  have he := h e List.mem_cons_self
  have ih := ents_pay l m (fun x hx => h x (List.mem_cons_of_mem _ hx))
  rw [List.map_cons, List.cons_append, entsJ, unpack_pay he]
  simp only
  rw [ih, recsJ_cons, List.length_append, recJ_length, payJ_length]
  simp only [List.cons_append, Prod.mk.injEq, true_and]
  omega
theorem entries_recs (l : List EnJ) (t : List UInt8) (h : ∀ e ∈ l, rightJ e) : entriesJ (recsJ l ++ t) = (l ++ (entriesJ t).1, (recsJ l).length + (entriesJ t).2) := by
 unfold entriesJ
 have h1 := scan_packs (l.map payJ) t (fun p hp => by
  obtain ⟨e, he, rfl⟩ := List.mem_map.1 hp
  exact payJ_le (h e he))
 rw [recsJ_packs, h1]
 exact (ents_pay l (scanF t).1 h).trans (by rw [recsJ_packs])
theorem entries_none {b : List UInt8} (h : ¬ okF b) : entriesJ b = ([], 0) := by unfold entriesJ; rw [scan_no h]; rfl
theorem entries_all (l : List EnJ) (h : ∀ e ∈ l, rightJ e) : entriesJ (recsJ l) = (l, (recsJ l).length) := by
 have h1 := entries_recs l [] h
 have h0 : entriesJ [] = ([], 0) := entries_none (ok_short (b := []) (by decide))
 rw [List.append_nil, h0] at h1
 rw [h1]
 simp
theorem unpack_right {p : List UInt8} {e : EnJ} (h : unpackJ p = some e) : rightJ e ∧ p = payJ e := by
 unfold unpackJ at h
 split at h
 ·rename_i hh
  injection h with h
  subst h
  refine ⟨hh.2.2, ?_⟩
  obtain ⟨h6, h7, _⟩ := hh
  have hx : (p.getD 5 0).toNat < 256 := (p.getD 5 0).toNat_lt
  have hdl : ((p.drop 6).take (p.getD 5 0).toNat).length = (p.getD 5 0).toNat := by rw [List.length_take, List.length_drop]; omega
  unfold payJ readJ
  simp only
  rw [hdl]
  match p, h6 with
  | x0 :: x1 :: x2 :: x3 :: x4 :: x5 :: r, _ =>
   have e1 : (x0 :: x1 :: x2 :: x3 :: x4 :: x5 :: r).getD 5 0 = x5 := rfl
   have e2 : (x0 :: x1 :: x2 :: x3 :: x4 :: x5 :: r).drop 6 = r := rfl
   rw [e1, e2, ← List.drop_drop, e2, List.take_append_drop]
   have hn : timeN (x0 :: x1 :: x2 :: x3 :: x4 :: x5 :: r) = x0.toNat + 256 * (x1.toNat + 256 * (x2.toNat + 256 * (x3.toNat + 256 * x4.toNat))) := rfl
   have h0 := x0.toNat_lt
   have h1 := x1.toNat_lt
   have h2 := x2.toNat_lt
   have h3 := x3.toNat_lt
   have h4 := x4.toNat_lt
   have hB : timeB ((timeN (x0 :: x1 :: x2 :: x3 :: x4 :: x5 :: r) : Nat) : Int).toNat = [x0, x1, x2, x3, x4] := by
    rw [Int.toNat_natCast, hn]
    unfold timeB
    have a0 : (x0.toNat + 256 * (x1.toNat + 256 * (x2.toNat + 256 * (x3.toNat + 256 * x4.toNat)))) % 256 = x0.toNat := by omega
    have a1 : (x0.toNat + 256 * (x1.toNat + 256 * (x2.toNat + 256 * (x3.toNat + 256 * x4.toNat)))) / 256 % 256 = x1.toNat := by omega
    have a2 : (x0.toNat + 256 * (x1.toNat + 256 * (x2.toNat + 256 * (x3.toNat + 256 * x4.toNat)))) / 65536 % 256 = x2.toNat := by omega
    have a3 : (x0.toNat + 256 * (x1.toNat + 256 * (x2.toNat + 256 * (x3.toNat + 256 * x4.toNat)))) / 16777216 % 256 = x3.toNat := by omega
    have a4 : (x0.toNat + 256 * (x1.toNat + 256 * (x2.toNat + 256 * (x3.toNat + 256 * x4.toNat)))) / 4294967296 % 256 = x4.toNat := by omega
    rw [a0, a1, a2, a3, a4]
    simp
   rw [hB]
   simp
 ·cases h
theorem ents_is : ∀ (l : List (List UInt8)), (∀ e ∈ (entsJ l).1, rightJ e) ∧ (entsJ l).2 = (recsJ (entsJ l).1).length ∧ (entsJ l).1.map payJ <+: l
 | [] => ⟨fun e he => (by cases he), rfl, List.prefix_refl _⟩
 | p :: r => by
  obtain ⟨h1, h2, h3⟩ := ents_is r
  rw [entsJ]
  cases hu : unpackJ p with
  | none => exact ⟨fun e he => (by cases he), rfl, List.nil_prefix⟩
  | some e =>
   obtain ⟨k1, k2⟩ := unpack_right hu
   simp only
   refine ⟨fun x hx => ?_, ?_, ?_⟩
   ·rcases List.mem_cons.1 hx with rfl | hx
    ·exact k1
    ·exact h1 x hx
   ·rw [recsJ_cons, List.length_append, recJ_length, k2, payJ_length, h2]
    omega
   ·rw [List.map_cons, ← k2]
    exact List.prefix_cons_inj _ |>.2 h3
theorem entries_is (b : List UInt8) : (∀ e ∈ (entriesJ b).1, rightJ e) ∧ (entriesJ b).2 = (recsJ (entriesJ b).1).length ∧ b.take (entriesJ b).2 = recsJ (entriesJ b).1 ∧ (entriesJ b).2 ≤ b.length := by
 obtain ⟨h1, h2, h3⟩ := ents_is (scanF b).1
 obtain ⟨s1, _, _⟩ := scan_is b
 obtain ⟨r, hr⟩ := h3
 have hb : b = recsJ (entriesJ b).1 ++ (packsF r ++ b.drop (scanF b).2) := by
  conv => lhs; rw [s1, ← hr]
  rw [show packsF ((entsJ (scanF b).1).1.map payJ ++ r) = packsF ((entsJ (scanF b).1).1.map payJ) ++ packsF r by unfold packsF; simp, List.append_assoc, recsJ_packs]
  rfl
 refine ⟨h1, h2, ?_, ?_⟩
 ·have h4 := congrArg (List.take (recsJ (entriesJ b).1).length) hb
  rw [List.take_left] at h4
  rw [show (entriesJ b).2 = (recsJ (entriesJ b).1).length from h2]
  exact h4
 ·rw [show (entriesJ b).2 = (recsJ (entriesJ b).1).length from h2]
  have := congrArg List.length hb
  rw [List.length_append] at this
  omega
theorem entries_cut (b : List UInt8) : entriesJ (b.take (entriesJ b).2) = entriesJ b := by
 obtain ⟨h1, h2, h3, _⟩ := entries_is b
 rw [h3, entries_all _ h1]
 exact Prod.ext rfl h2.symm
theorem ok_zeros (t : List UInt8) : ¬ okF (List.replicate 6 0 ++ t) := fun h => by
 have hn : numF (List.replicate 6 0 ++ t) = 0 := rfl
 have hl : loadF (List.replicate 6 0 ++ t) = [] := by unfold loadF; rw [hn]; rfl
 have h2 := h.2
 rw [hl, hn] at h2
 have h3 := congrArg (fun l => l.getD 2 0) h2
 have e0 : packF [] = [0, 0] ++ (bl4 (crcL [0, 0]) ++ []) := by unfold packF headF; rfl
 have e1 : ∀ q : List UInt8, ([0, 0] ++ (q ++ [])).getD 2 0 = q.getD 0 0 := fun q => by cases q <;> rfl
 rw [e0, e1] at h3
 exact crc_two h3
theorem ok_zeros_n (n : Nat) (h : 6 ≤ n) (t : List UInt8) : ¬ okF (List.replicate n 0 ++ t) := by
 obtain ⟨k, rfl⟩ : ∃ k, n = 6 + k := ⟨n - 6, by omega⟩
 rw [← List.replicate_append_replicate, List.append_assoc]
 exact ok_zeros _
end
end Go.Proofs.YteafcaambnfdoaaGreatDoor
