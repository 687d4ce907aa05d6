/-
  'alive' of the statements of layer 6.
-/
import Derived.Test.YtgcafmofpflidaaULogI
namespace Go.Proofs.Ytgcafmofpflidaa
open Go Go.RowKit
set_option maxRecDepth 100000

set_option maxHeartbeats 4000000 in
theorem ualive_calls (w : World) :
    Calls Try.prog 10 #[] w fun e w' => e = .returned (.bool true) ∧ Below w.heap.size w w' := by
  go_enter Try.func10, Try.ntmps10
  go_wp2_with fail
  refine (new_callsUI 0 9 w).mono ?_
  rintro e w1 ⟨b, rfl, h1⟩
  have Hd1 : Hid (Calls Try.prog 23 #[.pointer (some ⟨b, 0, none⟩), .int .i64 1, .int .i64 5] w1 fun e w' => e = .returned (.bool true) ∧ InUI w w' b ⟨9, [0], 1, [], 5⟩) := Lib.hid (h1.step (fun R hR => do_callsUI _ R b _ hR 1 5))
  clear h1
  go_wp2_with fail
  refine Hd1.out.mono ?_
  rintro e w2 ⟨rfl, h2⟩
  have Hd2 : Hid (Calls Try.prog 23 #[.pointer (some ⟨b, 0, none⟩), .int .i64 2, .int .i64 5] w2 fun e w' => e = .returned (.bool true) ∧ InUI w w' b ⟨9, [0], 2, [], 5⟩) := Lib.hid (h2.step (fun R hR => do_callsUI _ R b _ hR 2 5))
  clear h2 Hd1
  go_wp2_with fail
  refine Hd2.out.mono ?_
  rintro e w3 ⟨rfl, h3⟩
  have Hd3 : Hid (Calls Try.prog 23 #[.pointer (some ⟨b, 0, none⟩), .int .i64 2, .int .i64 0] w3 fun e w' => e = .returned (.bool false) ∧ InUI w w' b ⟨9, [0], 2, [], 5⟩) := Lib.hid (h3.step (fun R hR => do_callsUI _ R b _ hR 2 0))
  clear h3 Hd2
  go_wp2_with fail
  refine Hd3.out.mono ?_
  rintro e w4 ⟨rfl, h4⟩
  have Hu4 : Hid (Calls Try.prog 26 #[.pointer (some ⟨b, 0, none⟩)] w4 fun e w' => e = .returned (.tuple #[.int .i64 0, .bool true]) ∧ InUI w w' b ⟨9, [], 0, [2], 0⟩) := Lib.hid (h4.step (fun R hR => undo_callsUI _ R b _ hR))
  clear h4 Hd3
  go_wp2_with fail
  refine Hu4.out.mono ?_
  rintro e w5 ⟨rfl, h5⟩
  have Hu5 : Hid (Calls Try.prog 26 #[.pointer (some ⟨b, 0, none⟩)] w5 fun e w' => e = .returned (.tuple #[.int .i64 0, .bool false]) ∧ InUI w w' b ⟨9, [], 0, [2], 0⟩) := Lib.hid (h5.step (fun R hR => undo_callsUI _ R b _ hR))
  clear h5 Hu4
  go_wp2_with fail
  refine Hu5.out.mono ?_
  rintro e w6 ⟨rfl, h6⟩
  have Hr6 : Hid (Calls Try.prog 28 #[.pointer (some ⟨b, 0, none⟩)] w6 fun e w' => e = .returned (.tuple #[.int .i64 2, .bool true]) ∧ InUI w w' b ⟨9, [0], 2, [], 0⟩) := Lib.hid (h6.step (fun R hR => redo_callsUI _ R b _ hR))
  clear h6 Hu5
  go_wp2_with fail
  refine Hr6.out.mono ?_
  rintro e w7 ⟨rfl, h7⟩
  have Hl7 : Hid (Calls Try.prog 24 #[.pointer (some ⟨b, 0, none⟩)] w7 fun e w' => e = .returned (.tuple #[.int .i64 1, .int .i64 0]) ∧ InUI w w' b ⟨9, [0], 2, [], 0⟩) := Lib.hid (h7.read objI (fun R hR => len_callsUI _ R b _ hR))
  clear h7 Hr6
  go_wp2_with fail
  refine Hl7.out.mono ?_
  rintro e w8 ⟨rfl, h8⟩
  have Hn8 : Hid (Calls Try.prog 25 #[.pointer (some ⟨b, 0, none⟩)] w8 fun e w' => e = .returned (.int .i64 2) ∧ InUI w w' b ⟨9, [0], 2, [], 0⟩) := Lib.hid (h8.read objI (fun R hR => now_callsUI _ R b _ hR))
  clear h8 Hl7
  go_wp2_with fail
  refine Hn8.out.mono ?_
  rintro e w9 ⟨rfl, h9⟩
  have HB := Lib.hid h9.bel
  clear h9 Hn8
  go_wp2
  go_ret
  exact ⟨rfl, HB.out⟩
end Go.Proofs.Ytgcafmofpflidaa
