/-
  Frames, as lists (layer 11).
-/
import Derived.Test.YtjfikdldabmciaaDoorSumBMath
import Derived.Test.YtjfikdldabmciaaDoorToldMath
namespace Go.Proofs.YtjfikdldabmciaaDoor
open Go

def headF (p : List UInt8) : List UInt8 := [UInt8.ofNat (p.length % 256), UInt8.ofNat (p.length / 256)]
def packF (p : List UInt8) : List UInt8 := headF p ++ (bl4 (crcL (headF p ++ p)) ++ p)
/-- So many bytes the first two tell. -/
def numF (b : List UInt8) : Nat := (b.getD 0 0).toNat + 256 * (b.getD 1 0).toNat
/-- What stands behind the six. -/
def loadF (b : List UInt8) : List UInt8 := (b.drop 6).take (numF b)
def formF (b : List UInt8) : Prop := 6 ≤ b.length ∧ numF b ≤ 1000 ∧ numF b ≤ b.length - 6
instance (b : List UInt8) : Decidable (formF b) := by unfold formF; infer_instance
def okF (b : List UInt8) : Prop := formF b ∧ packF (loadF b) = b.take (6 + numF b)
instance (b : List UInt8) : Decidable (okF b) := by unfold okF; infer_instance
def errF (b : List UInt8) : Int := if formF b then if packF (loadF b) = b.take (6 + numF b) then 0 else 111 else 110
def nextF (b : List UInt8) : List UInt8 × Nat := if okF b then (loadF b, 6 + numF b) else ([], 0)
theorem err_ok {b : List UInt8} : errF b = 0 ↔ okF b := by
  unfold errF okF
  split
  · rename_i h
    split
    · rename_i h2; exact ⟨fun _ => ⟨h, h2⟩, fun _ => rfl⟩
    · rename_i h2; exact ⟨fun e => absurd e (by decide), fun e => absurd e.2 h2⟩
  · rename_i h; exact ⟨fun e => absurd e (by decide), fun e => absurd e.1 h⟩
theorem bl4_length (s : BitVec 32) : (bl4 s).length = 4 := rfl
theorem headF_length (p : List UInt8) : (headF p).length = 2 := rfl
theorem packF_length (p : List UInt8) : (packF p).length = 6 + p.length := by
  unfold packF
  rw [List.length_append, List.length_append, headF_length, bl4_length]
  omega
theorem numF_head (p r : List UInt8) (h : p.length ≤ 1000) : numF (headF p ++ r) = p.length := by
  unfold numF headF
  show (UInt8.ofNat (p.length % 256)).toNat + 256 * (UInt8.ofNat (p.length / 256)).toNat = _
  rw [UInt8.toNat_ofNat', UInt8.toNat_ofNat']
  omega
theorem headF_num (b q : List UInt8) (h : 2 ≤ b.length) (hq : q.length = numF b) : headF q = b.take 2 := by
  cases b with
  | nil => simp at h
  | cons x b =>
    cases b with
    | nil => simp at h
    | cons y b =>
      unfold headF
      rw [hq]
      unfold numF
      show [UInt8.ofNat ((x.toNat + 256 * y.toNat) % 256), UInt8.ofNat ((x.toNat + 256 * y.toNat) / 256)] = [x, y]
      have h1 := x.toNat_lt
      have h2 := y.toNat_lt
      have e1 : (x.toNat + 256 * y.toNat) % 256 = x.toNat := by omega
      have e2 : (x.toNat + 256 * y.toNat) / 256 = y.toNat := by omega
      rw [e1, e2]
      simp
theorem loadF_length {b : List UInt8} (h : formF b) : (loadF b).length = numF b := by
  unfold loadF
  rw [List.length_take, List.length_drop]
  exact Nat.min_eq_left h.2.2
theorem bl4_inj {s t : BitVec 32} (h : bl4 s = bl4 t) : s = t := by
  have h1 := read_bl4 s []
  rw [h, read_bl4 t []] at h1
  exact (BitVec.eq_of_toNat_eq h1).symm
/-- The sum's four bytes are those that stand there: said as the program asks it. -/
theorem ok_sum {b : List UInt8} (h : formF b) : packF (loadF b) = b.take (6 + numF b) ↔ crcL (b.take 2 ++ loadF b) = BitVec.ofNat 32 (readN (b.drop 2)) := by
  have h2 : headF (loadF b) = b.take 2 := headF_num b _ (by have := h.1; omega) (loadF_length h)
  have hb : b = b.take 2 ++ ((b.drop 2).take 4 ++ b.drop 6) := by
    have e1 := (List.take_append_drop 2 b).symm
    have e2 := (List.take_append_drop 4 (b.drop 2)).symm
    rw [List.drop_drop] at e2
    rw [← e2]
    exact e1
  have h4 : ((b.drop 2).take 4).length = 4 := by
    rw [List.length_take, List.length_drop]
    have := h.1
    omega
  have hl2 : (b.take 2).length = 2 := by rw [List.length_take]; have := h.1; omega
  have ht' : ∀ n, b.take (6 + n) = b.take 2 ++ ((b.drop 2).take 4 ++ (b.drop 6).take n) := fun n => by
    conv => lhs; rw [hb]
    rw [show 6 + n = (b.take 2).length + (4 + n) by rw [hl2]; omega, List.take_length_add_append, show 4 + n = ((b.drop 2).take 4).length + n by rw [h4], List.take_length_add_append]
  have ht : b.take (6 + numF b) = b.take 2 ++ ((b.drop 2).take 4 ++ loadF b) := ht' _
  have hr : readN (b.drop 2) = readN ((b.drop 2).take 4) := by
    have hl : 4 ≤ (b.drop 2).length := by rw [List.length_drop]; have := h.1; omega
    unfold readN
    simp [List.getD]
  rw [ht]
  unfold packF
  rw [h2, hr]
  generalize (b.drop 2).take 4 = q at *
  generalize crcL (b.take 2 ++ loadF b) = s
  constructor
  · intro e
    have e1 := List.append_cancel_left e
    have e2 : bl4 s = q := List.append_inj_left e1 (by rw [bl4_length, h4])
    rw [← e2]
    have := read_bl4 s []
    rw [List.append_nil] at this
    rw [this]
    simp
  · intro e
    subst e
    congr 2
    match q, h4 with
    | [x0, x1, x2, x3], _ =>
      obtain ⟨y0, y1, y2, y3⟩ := by_read [x0, x1, x2, x3]
      unfold bl4
      rw [y0, y1, y2, y3]
      simp
theorem take_pack (p r : List UInt8) : (packF p ++ r).take (6 + p.length) = packF p := by
  rw [← packF_length p, List.take_left]
theorem num_pack (p r : List UInt8) (h : p.length ≤ 1000) : numF (packF p ++ r) = p.length := by
  unfold packF
  rw [List.append_assoc]
  exact numF_head p _ h
theorem load_pack (p r : List UInt8) (h : p.length ≤ 1000) : loadF (packF p ++ r) = p := by
  unfold loadF
  rw [num_pack p r h]
  have e : packF p ++ r = (headF p ++ bl4 (crcL (headF p ++ p))) ++ (p ++ r) := by unfold packF; simp
  rw [e, show 6 = (headF p ++ bl4 (crcL (headF p ++ p))).length from rfl, List.drop_left, List.take_left]
theorem form_pack (p r : List UInt8) (h : p.length ≤ 1000) : formF (packF p ++ r) := by
  have := packF_length p
  refine ⟨by rw [List.length_append]; omega, by rw [num_pack p r h]; exact h, by rw [num_pack p r h, List.length_append]; omega⟩
theorem ok_pack (p r : List UInt8) (h : p.length ≤ 1000) : okF (packF p ++ r) := ⟨form_pack p r h, by rw [load_pack p r h, num_pack p r h, take_pack]⟩
theorem next_pack (p r : List UInt8) (h : p.length ≤ 1000) : nextF (packF p ++ r) = (p, 6 + p.length) := by
  unfold nextF
  rw [if_pos (ok_pack p r h), load_pack p r h, num_pack p r h]
/-- A frame that is one: what b begins with. -/
theorem ok_split {b : List UInt8} (h : okF b) : b = packF (loadF b) ++ b.drop (6 + numF b) ∧ (loadF b).length = numF b ∧ (loadF b).length ≤ 1000 := by
  refine ⟨?_, loadF_length h.1, by rw [loadF_length h.1]; exact h.1.2.1⟩
  rw [h.2, List.take_append_drop]
/-- All frames that bytes begin with, and where they end. -/
def scanN : Nat → List UInt8 → List (List UInt8) × Nat
  | 0, _ => ([], 0)
  | f + 1, b => if okF b then (loadF b :: (scanN f (b.drop (6 + numF b))).1, 6 + numF b + (scanN f (b.drop (6 + numF b))).2) else ([], 0)
def scanF (b : List UInt8) : List (List UInt8) × Nat := scanN b.length b
theorem scanN_fuel : ∀ (f g : Nat) (b : List UInt8), b.length ≤ f → b.length ≤ g → scanN f b = scanN g b
  | 0, 0, _, _, _ => rfl
  | 0, g + 1, b, h, _ => by
    have hb : ¬ okF b := fun h1 => by have := h1.1.1; omega
    unfold scanN
    rw [if_neg hb]
  | f + 1, 0, b, _, h => by
    have hb : ¬ okF b := fun h1 => by have := h1.1.1; omega
    unfold scanN
    rw [if_neg hb]
  | f + 1, g + 1, b, h1, h2 => by
    by_cases hb : okF b
    · have hl := hb.1.1
      have e := scanN_fuel f g (b.drop (6 + numF b)) (by rw [List.length_drop]; omega) (by rw [List.length_drop]; omega)
      unfold scanN
      rw [if_pos hb, if_pos hb, e]
    · unfold scanN
      rw [if_neg hb, if_neg hb]
theorem scan_no {b : List UInt8} (h : ¬ okF b) : scanF b = ([], 0) := by
  unfold scanF
  cases hb : b.length with
  | zero => rfl
  | succ n => unfold scanN; rw [if_neg h]
theorem scan_ok {b : List UInt8} (h : okF b) : scanF b = (loadF b :: (scanF (b.drop (6 + numF b))).1, 6 + numF b + (scanF (b.drop (6 + numF b))).2) := by
  have hl := h.1.1
  have e : scanF b = scanN (b.length - 1 + 1) b := by unfold scanF; rw [show b.length - 1 + 1 = b.length by omega]
  rw [e]
  unfold scanN
  rw [if_pos h, scanN_fuel (b.length - 1) (b.drop (6 + numF b)).length _ (by rw [List.length_drop]; omega) (Nat.le_refl _)]
  rfl
/-- So far it is scanned: the frames l, which end at n. -/
structure ScanTo (b : List UInt8) (n : Nat) (l : List (List UInt8)) : Prop where
  le : n ≤ b.length
  fst : (scanF b).1 = l ++ (scanF (b.drop n)).1
  snd : (scanF b).2 = n + (scanF (b.drop n)).2
theorem ScanTo.zero (b : List UInt8) : ScanTo b 0 [] := ⟨Nat.zero_le _, rfl, by rw [List.drop_zero, Nat.zero_add]⟩
theorem ScanTo.step {b : List UInt8} {n : Nat} {l : List (List UInt8)} (h : ScanTo b n l) (ho : okF (b.drop n)) : ScanTo b (n + (6 + numF (b.drop n))) (l ++ [loadF (b.drop n)]) := by
  obtain ⟨h1, h2, h3⟩ := h
  have hl := ho.1.2.2
  have hl1 := ho.1.1
  rw [List.length_drop] at hl hl1
  rw [scan_ok ho] at h2 h3
  rw [List.drop_drop] at h2 h3
  exact ⟨by omega, by rw [h2, List.append_assoc]; rfl, by rw [h3]; omega⟩
theorem ScanTo.fin {b : List UInt8} {n : Nat} {l : List (List UInt8)} (h : ScanTo b n l) (ho : ¬ okF (b.drop n)) : scanF b = (l, n) := by
  obtain ⟨h1, h2, h3⟩ := h
  rw [scan_no ho] at h2 h3
  exact Prod.ext (by rw [h2, List.append_nil]) h3
theorem ScanTo.at_ {b : List UInt8} {n : Nat} {l : List (List UInt8)} (h : ScanTo b n l) (ho : okF (b.drop n)) : (scanF b).1[l.length]? = some (loadF (b.drop n)) := by
  rw [(h.step ho).fst, List.append_assoc, List.getElem?_append_right (Nat.le_refl _), Nat.sub_self]
  rfl
theorem ScanTo.few {b : List UInt8} {n : Nat} {l : List (List UInt8)} (h : ScanTo b n l) : l.length ≤ (scanF b).1.length := by
  rw [h.fst, List.length_append]
  omega
/-- Frames, one behind the other. -/
def packsF (l : List (List UInt8)) : List UInt8 := (l.map packF).flatten
theorem packsF_snoc (l : List (List UInt8)) (p : List UInt8) : packsF (l ++ [p]) = packsF l ++ packF p := by unfold packsF; simp
theorem scan_packs : ∀ (l : List (List UInt8)) (t : List UInt8), (∀ p ∈ l, p.length ≤ 1000) → scanF (packsF l ++ t) = (l ++ (scanF t).1, (packsF l).length + (scanF t).2)
  | [], t, _ => by unfold packsF; simp
  | p :: l, t, h => by
    have e : packsF (p :: l) ++ t = packF p ++ (packsF l ++ t) := by unfold packsF; simp
    have hp := h p List.mem_cons_self
    have hd : (packF p ++ (packsF l ++ t)).drop (6 + p.length) = packsF l ++ t := by rw [← packF_length p, List.drop_left]
    rw [e, scan_ok (ok_pack p _ hp), load_pack p _ hp, num_pack p _ hp, hd, scan_packs l t (fun q hq => h q (List.mem_cons_of_mem _ hq))]
    have e2 : (packsF (p :: l)).length = 6 + p.length + (packsF l).length := by unfold packsF; rw [List.map_cons, List.flatten_cons, List.length_append, packF_length]
    rw [e2]
    simp only [List.cons_append]
    congr 1
    omega
/-- What is no frame: nothing; noughts; half a frame. -/
theorem ok_short {b : List UInt8} (h : b.length < 6) : ¬ okF b := fun h1 => by have := h1.1.1; omega
theorem crc_two : (bl4 (crcL [0, 0])).getD 0 0 ≠ 0 := by decide +kernel
theorem ok_noughts (n : Nat) : ¬ okF (List.replicate n 0) := fun h => by
  have h6 := h.1.1
  rw [List.length_replicate] at h6
  obtain ⟨k, rfl⟩ : ∃ k, n = k + 6 := ⟨n - 6, by omega⟩
  have hn : numF (List.replicate (k + 6) 0) = 0 := by unfold numF; simp [List.getD]
  have h2 := h.2
  have hl : loadF (List.replicate (k + 6) 0) = [] := by unfold loadF; rw [hn]; rfl
  rw [hl, hn] at h2
  have h3 := congrArg (fun l => l.getD 2 0) h2
  have e0 : packF [] = [0, 0] ++ (bl4 (crcL [0, 0]) ++ []) := by unfold packF headF; rfl
  have e1 : ∀ q : List UInt8, ([0, 0] ++ (q ++ [])).getD 2 0 = q.getD 0 0 := fun q => by cases q <;> rfl
  rw [e0, e1] at h3
  have e2 : ((List.replicate (k + 6) (0 : UInt8)).take (6 + 0)).getD 2 0 = 0 := by
    rw [List.take_replicate, Nat.min_eq_left (by omega)]
    rfl
  rw [e2] at h3
  exact crc_two h3
theorem ok_half (p : List UInt8) (hp : p.length ≤ 1000) (k : Nat) (hk : k < (packF p).length) : ¬ okF ((packF p).take k) := fun h => by
  have h6 := h.1.1
  have hl : ((packF p).take k).length = k := by rw [List.length_take]; omega
  rw [hl] at h6
  have hn : numF ((packF p).take k) = p.length := by
    have e : numF ((packF p).take k) = numF (packF p ++ []) := by
      unfold numF
      rw [List.append_nil]
      simp only [List.getD, List.getElem?_take]
      rw [if_pos (by omega), if_pos (by omega)]
    rw [e, num_pack p [] hp]
  have h2 := h.1.2.2
  rw [hn, hl, packF_length] at *
  omega
/-- A frame in which a bit is turned, but not in its length. -/
theorem ok_turned (p r : List UInt8) (hp : p.length ≤ 1000) (a : Nat) (h16 : 16 ≤ a) (ha : a < 8 * (6 + p.length)) : ¬ okF (turn1 (packF p) a ++ r) := by
  have hl : (turn1 (packF p) a).length = 6 + p.length := by rw [turn1_length, packF_length]
  have hne : turn1 (packF p) a ≠ packF p := fun e => by
    have h1 := turn1_bits (packF p) a (by rw [packF_length]; exact ha) a
    rw [e] at h1
    have h2 : a < (bitsL (packF p)).length := by rw [bitsL_length, packF_length]; exact ha
    rw [List.getElem?_eq_getElem h2] at h1
    simp at h1
  have hg : ∀ i, i ≠ a / 8 → (turn1 (packF p) a)[i]? = (packF p)[i]? := fun i hi => by unfold turn1; rw [List.getElem?_set_ne (fun e => hi e.symm)]
  have hn : numF (turn1 (packF p) a ++ r) = p.length := by
    rw [← num_pack p r hp]
    unfold numF
    simp only [List.getD]
    have hpl := packF_length p
    rw [List.getElem?_append_left (by omega), List.getElem?_append_left (by omega), List.getElem?_append_left (by omega), List.getElem?_append_left (by omega), hg 0 (by omega), hg 1 (by omega)]
  intro h
  have h2 := h.2
  rw [hn, ← hl, List.take_left] at h2
  have hload : loadF (turn1 (packF p) a ++ r) = (turn1 (packF p) a).drop 6 := by
    unfold loadF
    rw [hn, List.drop_append_of_le_length (by omega), List.take_left' (by rw [List.length_drop]; omega)]
  rw [hload] at h2
  by_cases h48 : a < 48
  · have hd : (turn1 (packF p) a).drop 6 = p := by
      have e : (turn1 (packF p) a).drop 6 = (packF p).drop 6 := by
        apply List.ext_getElem?
        intro i
        rw [List.getElem?_drop, List.getElem?_drop, hg (6 + i) (by omega)]
      rw [e]
      have e2 : packF p = (headF p ++ bl4 (crcL (headF p ++ p))) ++ p := by unfold packF; simp
      rw [e2, show 6 = (headF p ++ bl4 (crcL (headF p ++ p))).length from rfl, List.drop_left]
    rw [hd] at h2
    exact hne h2.symm
  · have hq : ((turn1 (packF p) a).drop 6).length = p.length := by rw [List.length_drop]; omega
    generalize hqe : (turn1 (packF p) a).drop 6 = q at *
    have hh : headF q = headF p := by unfold headF; rw [hq]
    have hs : bl4 (crcL (headF p ++ q)) = bl4 (crcL (headF p ++ p)) := by
      have e1 : (packF q).take 6 = (turn1 (packF p) a).take 6 := by rw [h2]
      have e2 : (turn1 (packF p) a).take 6 = (packF p).take 6 := by
        apply List.ext_getElem?
        intro i
        simp only [List.getElem?_take]
        split
        · exact hg i (by omega)
        · rfl
      have e3 : ∀ x : List UInt8, (packF x).take 6 = headF x ++ bl4 (crcL (headF x ++ x)) := fun x => by
        have e4 : packF x = (headF x ++ bl4 (crcL (headF x ++ x))) ++ x := by unfold packF; simp
        rw [e4, show 6 = (headF x ++ bl4 (crcL (headF x ++ x))).length from rfl, List.take_left]
      rw [e2, e3, e3, hh] at e1
      exact List.append_cancel_left e1
    have hc := bl4_inj hs
    have hpay : headF p ++ q = turn1 (headF p ++ p) (a - 32) := by
      have hi8 : (a - 32) / 8 = a / 8 - 4 := by omega
      have hm8 : (a - 32) % 8 = a % 8 := by omega
      have h2l : (headF p).length = 2 := rfl
      have h6l : (headF p ++ bl4 (crcL (headF p ++ p))).length = 6 := rfl
      have e4 : packF p = (headF p ++ bl4 (crcL (headF p ++ p))) ++ p := by unfold packF; simp
      unfold turn1 at hqe ⊢
      rw [e4] at hqe
      generalize headF p ++ bl4 (crcL (headF p ++ p)) = pre at *
      rw [hi8, hm8, ← hqe, List.set_append_right _ _ (by omega), List.set_append_right _ _ (by omega), ← h6l, List.drop_left, h6l, h2l]
      have g1 : (pre ++ p).getD (a / 8) 0 = p.getD (a / 8 - 6) 0 := by
        simp only [List.getD]
        rw [List.getElem?_append_right (by omega), h6l]
      have g2 : (headF p ++ p).getD (a / 8 - 4) 0 = p.getD (a / 8 - 6) 0 := by
        simp only [List.getD]
        rw [List.getElem?_append_right (by omega), h2l]
        congr 2
      rw [g1, g2]
      congr 2
    rw [hpay] at hc
    have := told_turns (headF p ++ p) (a - 32) 1#32 (by decide) (fun j hj hb => by
      have : j = 0 := by
        have h1 : (1#32).getLsbD j = decide (j = 0) := by
          simp [BitVec.getLsbD_one]
        rw [h1] at hb
        exact of_decide_eq_true hb
      rw [List.length_append, headF_length]
      omega)
    have e0 : ∀ k, turnsL (headF p ++ p) (a - 32) 1#32 (k + 1) = turn1 (headF p ++ p) (a - 32) := fun k => by
      induction k with
      | zero => rw [turnsL_s]; rfl
      | succ k ih =>
        rw [turnsL_s, ih, if_neg]
        have h1 : (1#32).getLsbD (k + 1) = false := by simp [BitVec.getLsbD_one]
        rw [h1]
        decide
    rw [e0 31] at this
    exact this hc
theorem turn1_mid (x y z : List UInt8) (a : Nat) (ha : a < 8 * y.length) : turn1 (x ++ (y ++ z)) (8 * x.length + a) = x ++ (turn1 y a ++ z) := by
  have e1 : (8 * x.length + a) / 8 = x.length + a / 8 := by omega
  have e2 : (8 * x.length + a) % 8 = a % 8 := by omega
  have e3 : (x ++ (y ++ z)).getD (x.length + a / 8) 0 = y.getD (a / 8) 0 := by
    simp only [List.getD]
    rw [List.getElem?_append_right (by omega), List.getElem?_append_left (by omega)]
    congr 2
    omega
  unfold turn1
  rw [e1, e2, e3, List.set_append_right _ _ (by omega), List.set_append_left _ _ (by omega)]
  congr 3
  omega
/-- A row of frames of which one has a bit turned, but not in its length. -/
theorem scan_torn (l : List (List UInt8)) (h : ∀ p ∈ l, p.length ≤ 1000) (k : Nat) (hk : k < l.length) (a : Nat) (h16 : 16 ≤ a) (ha : a < 8 * (6 + (l.getD k []).length)) :
    scanF (turn1 (packsF l) (8 * (packsF (l.take k)).length + a)) = (l.take k, (packsF (l.take k)).length) := by
  have hd : l.getD k [] = l[k] := by simp [List.getD, hk]
  have e : packsF l = packsF (l.take k) ++ (packF (l.getD k []) ++ packsF (l.drop (k + 1))) := by
    have e1 : l = l.take k ++ (l.getD k [] :: l.drop (k + 1)) := by
      rw [hd, ← List.drop_eq_getElem_cons hk, List.take_append_drop]
    conv => lhs; rw [e1]
    unfold packsF
    simp
  rw [e, turn1_mid _ _ _ a (by rw [packF_length]; exact ha), scan_packs _ _ (fun p hp => h p (List.mem_of_mem_take hp)), scan_no (ok_turned _ _ (h _ (by rw [hd]; exact List.getElem_mem hk)) a h16 ha)]
  simp
/-- What was scanned: the frames' payloads, one behind the other. -/
theorem scanN_is : ∀ (f : Nat) (b : List UInt8), b = packsF (scanN f b).1 ++ b.drop (scanN f b).2 ∧ (scanN f b).2 = (packsF (scanN f b).1).length ∧ ∀ p ∈ (scanN f b).1, p.length ≤ 1000
  | 0, b => ⟨by simp [scanN, packsF], by simp [scanN, packsF], fun p hp => (by cases hp)⟩
  | f + 1, b => by
    by_cases h : okF b
    · obtain ⟨h1, h2, h3⟩ := scanN_is f (b.drop (6 + numF b))
      obtain ⟨k1, k2, k3⟩ := ok_split h
      unfold scanN
      rw [if_pos h]
      have e : packsF (loadF b :: (scanN f (b.drop (6 + numF b))).1) = packF (loadF b) ++ packsF (scanN f (b.drop (6 + numF b))).1 := by unfold packsF; rw [List.map_cons, List.flatten_cons]
      simp only
      have hdd : ∀ k, b.drop (6 + numF b + k) = (b.drop (6 + numF b)).drop k := fun k => by rw [List.drop_drop]
      rw [e, hdd, List.append_assoc, ← h1, List.length_append, packF_length, k2, ← h2]
      refine ⟨k1, rfl, fun p hp => ?_⟩
      rcases List.mem_cons.1 hp with rfl | hp
      · exact k3
      · exact h3 p hp
    · unfold scanN
      rw [if_neg h]
      exact ⟨by simp [packsF], by simp [packsF], fun p hp => (by cases hp)⟩
theorem scan_is (b : List UInt8) : b = packsF (scanF b).1 ++ b.drop (scanF b).2 ∧ (scanF b).2 = (packsF (scanF b).1).length ∧ ∀ p ∈ (scanF b).1, p.length ≤ 1000 := scanN_is _ b
theorem packsF_take {l : List (List UInt8)} {k : Nat} (hk : k < l.length) : packsF (l.take (k + 1)) = packsF (l.take k) ++ packF (l.getD k []) := by
  have hd : l.getD k [] = l[k] := by simp [List.getD, hk]
  rw [hd, ← packsF_snoc, List.take_succ_eq_append_getElem hk]
/-- The k-th frame, where it stands. -/
theorem scan_at (b : List UInt8) {k : Nat} (hk : k < (scanF b).1.length) : (b.drop (packsF ((scanF b).1.take k)).length).take (packF ((scanF b).1.getD k [])).length = packF ((scanF b).1.getD k []) ∧ (packsF ((scanF b).1.take k)).length + (packF ((scanF b).1.getD k [])).length ≤ b.length := by
  obtain ⟨h1, _, _⟩ := scan_is b
  generalize (scanF b).1 = l at *
  generalize b.drop (scanF b).2 = r at h1
  have hd : l.getD k [] = l[k] := by simp [List.getD, hk]
  have e : packsF l = packsF (l.take k) ++ (packF (l.getD k []) ++ packsF (l.drop (k + 1))) := by
    have e1 : l = l.take k ++ (l.getD k [] :: l.drop (k + 1)) := by rw [hd, ← List.drop_eq_getElem_cons hk, List.take_append_drop]
    conv => lhs; rw [e1]
    unfold packsF
    simp
  rw [e] at h1
  constructor
  · conv => lhs; rw [h1]
    rw [List.append_assoc, List.append_assoc, List.drop_left, List.take_left]
  · rw [h1]
    simp only [List.length_append]
    omega
theorem packsF_le (l : List (List UInt8)) (h : ∀ p ∈ l, p.length ≤ 1000) : (packsF l).length ≤ 1006 * l.length := by
  induction l with
  | nil => simp [packsF]
  | cons p l ih =>
    have h1 := ih (fun q hq => h q (List.mem_cons_of_mem _ hq))
    have h2 := h p List.mem_cons_self
    have e : (packsF (p :: l)).length = 6 + p.length + (packsF l).length := by unfold packsF; rw [List.map_cons, List.flatten_cons, List.length_append, packF_length]
    rw [e, List.length_cons]
    omega
end Go.Proofs.YtjfikdldabmciaaDoor
