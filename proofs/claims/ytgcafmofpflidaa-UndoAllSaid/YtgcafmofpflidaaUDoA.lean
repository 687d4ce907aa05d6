/-
  The document's own Do (layer 6), whole.
-/
import Derived.Test.YtgcafmofpflidaaUDoN
import Derived.Test.YtgcafmofpflidaaUDoB
namespace Go.Proofs.Ytgcafmofpflidaa
open Go Go.RowKit

theorem rdo6_calls (Ab : Option Addr) (cb : Nat) (Af : Option Addr) (cf : Nat) (s : LS ByteArray) (o : OpU) (w : World) (h : DocL w Ab cb Af cf s) (hok : s.Ok) :
    Calls Try.prog 13 #[docL Ab cb Af cf s, opV o] w (DidU w Ab Af (doU s o) (didU s o)) := by
  obtain ⟨k, t, g⟩ := o
  by_cases h0 : k = 0
  · subst h0
    by_cases hs : t = s.now
    · exact udo_same Ab cb Af cf s t g w h hok hs
    · by_cases hg : g ≤ 0
      · exact udo_new0 Ab cb Af cf s t g w h hok hs hg
      · by_cases hg2 : g = s.opn
        · exact udo_group Ab cb Af cf s t g w h hok hs (by omega) hg2
        · exact udo_newp Ab cb Af cf s t g w h hok hs (by omega) hg2
  by_cases h1 : k = 1
  · subst h1; exact udo_move Ab cb Af cf s t g w h hok
  by_cases h2 : k = 2
  · subst h2; exact udo_brk Ab cb Af cf s t g w h hok
  by_cases h3 : k = 3
  · subst h3
    by_cases hb : s.back = []
    · exact udo_noback Ab cb Af cf s t g w h hok hb
    · exact udo_undo Ab cb Af cf s t g w h hok _ _ (List.dropLast_concat_getLast hb).symm
  by_cases h4 : k = 4
  · subst h4
    by_cases hb : s.forth = []
    · exact udo_noforth Ab cb Af cf s t g w h hok hb
    · exact udo_redo Ab cb Af cf s t g w h hok _ _ (List.dropLast_concat_getLast hb).symm
  exact udo_other Ab cb Af cf s k t g w h hok h0 h1 h2 h3 h4
end Go.Proofs.Ytgcafmofpflidaa
