/-
  Layer 7 and what it stands on, part 39 (JOps).
-/
import Derived.Test.YteafcaambnfdoaaGreatDoorPg17
import Derived.Test.YteafcaambnfdoaaGreatDoorPg38
namespace Go.Proofs.YteafcaambnfdoaaGreatDoor
section
open Go Go.RowKit Go.ChangeShapes Go.WideShapes Go.ChangeAt Go.ChangeMaps Go.Deep
set_option maxRecDepth 100000
structure OpH where
 k : Int
 e : EnJ
 l : List EnJ
 i : Int
 b : List UInt8
 ks : List Bool
 LA : Option Addr
 lc : Nat
 BA : Option Addr
 bc : Nat
 KA : Option Addr
 kc : Nat
def OpH.zero_ : OpH := ⟨0, EnJ.zero_, [], 0, [], [], none, 0, none, 0, none, 0⟩
abbrev ophC (x : OpH) : List Value := [.int .i64 x.k, .int .i64 x.e.t, .string (bs x.e.d), .string (bs x.e.c), .slice x.LA x.l.length x.lc, .int .i64 x.i, .slice x.BA x.b.length x.bc, .slice x.KA x.ks.length x.kc]
theorem ophC_length (x : OpH) : (ophC x).length = 8 := rfl
structure OphIn (w : World) (x : OpH) : Prop where
 e : EnIn x.e
 l : RowT enC w (fun _ => True) x.LA x.l
 le : ∀ e ∈ x.l, EnIn e
 b : Byt w x.BA x.b
 bn : x.BA = none → x.bc = 0
 k : RowT boolC w (fun _ => True) x.KA x.ks
 i1 : -9223372036854775808 ≤ x.i
 i2 : x.i ≤ 9223372036854775807
 sl : x.l.length ≤ reachBytes
 sb : x.b.length ≤ reachBytes
 sk : x.ks.length ≤ reachBytes
structure RdO12 (w : World) (A : Option Addr) (xs : List OpH) : Prop where
 row : RowT ophC w (fun _ => True) A xs
 all : ∀ x ∈ xs, OphIn w x
structure OphSm (x : OpH) (B : Nat) : Prop where
 ed : x.e.d.length ≤ B
 ec : x.e.c.length ≤ B
 ll : x.l.length ≤ B
 le : ∀ e ∈ x.l, e.d.length ≤ B ∧ e.c.length ≤ B
 b : x.b.length ≤ B
 k : x.ks.length ≤ B
structure CrH where
 f : Int
 ks : List Bool
 KA : Option Addr
 kc : Nat
abbrev crC (x : CrH) : List Value := [.int .i64 x.f, .slice x.KA x.ks.length x.kc]
structure CrIn (w : World) (x : CrH) : Prop where
 k : RowT boolC w (fun _ => True) x.KA x.ks
 f1 : -9223372036854775808 ≤ x.f
 f2 : x.f ≤ 9223372036854775807
 sk : x.ks.length ≤ reachBytes
end
end Go.Proofs.YteafcaambnfdoaaGreatDoor
