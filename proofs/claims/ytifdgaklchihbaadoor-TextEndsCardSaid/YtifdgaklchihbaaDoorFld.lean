/-
  A field of a line that a call has told.
-/
import Derived.Test.YtifdgaklchihbaaDoorBx
namespace Go.Proofs.YtifdgaklchihbaaDoor
open Go Go.RowKit

theorem field_rbuf0 (a b : Value) : ∀ W : World, (Instr.field 27 (.agg #[a, b]) 0).run Tryd.prog W = .ok a W := fun W => by kernel_rfl
theorem field_buf1 (a b : Value) : ∀ W : World, (Instr.field 25 (.agg #[a, b]) 1).run Tryd.prog W = .ok b W := fun W => by kernel_rfl
end Go.Proofs.YtifdgaklchihbaaDoor
