/-
  Contracts over this program: a number's numeral (strconv.Itoa, up to 99), how often (regex.timesText).
-/
import Derived.Shelf.Lay
import Derived.Shelf.Strconv.Itoa3
import Derived.Test.YtfclidcfhadohaaDoorPa
import Derived.Test.YtfclidcfhadohaaDoorRows
import Derived.WalkKit
import Derived.ChangeAt
import Derived.Below
namespace Go.Proofs
open Go.Shelf
shelf_lay Lays.n171 Nm 171 at Tryd as YtfclidcfhadohaaDoor.rp.lays171
end Go.Proofs
namespace Go.Proofs.YtfclidcfhadohaaDoor.rp
open Go.Proofs.YtfclidcfhadohaaDoor.st
open Go.ChangeShapes Go.WideShapes Go.ChangeAt Go.RowKit
set_option linter.unusedVariables false

def ItoaIs (n : Int) (r : L8) : Prop := ∀ w, Calls Tryd.prog 30 #[.int .i64 n] w fun e w' => e = .returned (.string (bs r)) ∧ w' = w
theorem itoa_any (n : Int) (h0 : 0 ≤ n) (h1 : n < 100) : ItoaIs n (dec n) := by
  intro w
  obtain ⟨k, rfl⟩ := Int.eq_ofNat_of_zero_le h0
  have h := Any.strconv_Itoa_small (P := Tryd.prog) lays171 k (by omega) w
  exact h
end Go.Proofs.YtfclidcfhadohaaDoor.rp
