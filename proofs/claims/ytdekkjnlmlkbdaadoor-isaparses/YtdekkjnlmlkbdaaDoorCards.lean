/-
  DERIVED. GIVEN WITH THE SEED: THE CARDS: each row of YtdekkjnlmlkbdaaDoorRows.lean that lists a variable, with what it lists TIED to the program's text (the seventh form; the later family's looks); each row that meets fmt, with fmt's text TOLD by the authors' own Lean function (tested against real Go, not proved from fmt's source: count such statements apart). THE CARD IS WHAT COUNTS. Prove the row's statement (the work); the ties are given (YtdekkjnlmlkbdaaDoorTie.lean); close each card by the builder's one call (the guide's Derived/Test/ToyasCard.lean, 'card_holds'). Laid BY PROGRAM, IN A SANDBOX (cutbox-door.mjs). By AI agents, Wed Nov 11 2026. No macro, syntax, notation, axiom, sorry.
-/
import Derived.Test.YtdekkjnlmlkbdaaDoorRows
import GoSem.ClaimSeven
namespace Go.Proofs.YtdekkjnlmlkbdaaDoor
namespace Rows

/-- THE TIED CARD OF 'fretsawlaw21.IsaRights'. -/
def isaRightsCard : Claim7 := { stood := { row := isaRightsRow, standIns := [], harness := (true, "3bb6856bd214e2b8b0f86136bcaea47c6c6e44bbc67002102c1f205a1cc9256d"), looks := false }, kinds := [], alts := [], laidByText := true, laidKinds := [.data, .data], laidTests := true, laidLooks := .later }
def IsaRightsCardSaid : Prop := Claim7.holds Tryd.pinned (.plain (OpenSpec.ofChange isaRightsSpec)) isaRightsCard

/-- THE TIED CARD OF 'fretsawlaw21.IsaPuts'. -/
def isaPutsCard : Claim7 := { stood := { row := isaPutsRow, standIns := [], harness := (true, "3bb6856bd214e2b8b0f86136bcaea47c6c6e44bbc67002102c1f205a1cc9256d"), looks := false }, kinds := [], alts := [], laidByText := true, laidKinds := [.data, .data, .data, .data, .data], laidTests := true, laidLooks := .later }
def IsaPutsCardSaid : Prop := Claim7.holds Tryd.pinned (.plain (OpenSpec.ofChange isaPutsSpec)) isaPutsCard

/-- THE TIED CARD OF 'fretsawlaw21.IsaGets'. -/
def isaGetsCard : Claim7 := { stood := { row := isaGetsRow, standIns := [], harness := (true, "3bb6856bd214e2b8b0f86136bcaea47c6c6e44bbc67002102c1f205a1cc9256d"), looks := false }, kinds := [], alts := [], laidByText := true, laidKinds := [.data, .data], laidTests := true, laidLooks := .later }
def IsaGetsCardSaid : Prop := Claim7.holds Tryd.pinned (.plain (OpenSpec.ofChange isaGetsSpec)) isaGetsCard

/-- THE TIED CARD OF 'fretsawlaw21.IsaParses'. -/
def isaParsesCard : Claim7 := { stood := { row := isaParsesRow, standIns := [], harness := (true, "3bb6856bd214e2b8b0f86136bcaea47c6c6e44bbc67002102c1f205a1cc9256d"), looks := false }, kinds := [], alts := [], laidByText := true, laidKinds := [.data, .data], laidTests := true, laidLooks := .later }
def IsaParsesCardSaid : Prop := Claim7.holds Tryd.pinned (.plain (OpenSpec.ofChange isaParsesSpec)) isaParsesCard

/-- THE TIED CARD OF 'fretsawlaw21.IsaBack'. -/
def isaBackCard : Claim7 := { stood := { row := isaBackRow, standIns := [], harness := (true, "3bb6856bd214e2b8b0f86136bcaea47c6c6e44bbc67002102c1f205a1cc9256d"), looks := false }, kinds := [], alts := [], laidByText := true, laidKinds := [.data, .data, .data, .data, .data], laidTests := true, laidLooks := .later }
def IsaBackCardSaid : Prop := Claim7.holds Tryd.pinned (.plain (OpenSpec.ofChange isaBackSpec)) isaBackCard

/-- THE TIED CARD OF 'fretsawlaw21.IsaOnce'. -/
def isaOnceCard : Claim7 := { stood := { row := isaOnceRow, standIns := [], harness := (true, "3bb6856bd214e2b8b0f86136bcaea47c6c6e44bbc67002102c1f205a1cc9256d"), looks := false }, kinds := [], alts := [], laidByText := true, laidKinds := [.data, .data, .data, .data, .data], laidTests := true, laidLooks := .later }
def IsaOnceCardSaid : Prop := Claim7.holds Tryd.pinned (.plain (OpenSpec.ofChange isaOnceSpec)) isaOnceCard

/-- THE SECOND FORM's CARD OF 'fretsawlaw21.IsaRights'. -/
def isaRightsUptoCard : Claim7 := { stood := { row := isaRightsUptoRow, standIns := [], harness := (true, "3bb6856bd214e2b8b0f86136bcaea47c6c6e44bbc67002102c1f205a1cc9256d"), looks := false }, kinds := [], alts := [], laidByText := true, laidKinds := [.data, .data], laidTests := true, laidLooks := .later }
def IsaRightsUptoCardSaid : Prop := Claim7.holds Tryd.pinned (.plain (OpenSpec.upto isaRightsSpec)) isaRightsUptoCard

/-- THE SECOND FORM's CARD OF 'fretsawlaw21.IsaPuts'. -/
def isaPutsUptoCard : Claim7 := { stood := { row := isaPutsUptoRow, standIns := [], harness := (true, "3bb6856bd214e2b8b0f86136bcaea47c6c6e44bbc67002102c1f205a1cc9256d"), looks := false }, kinds := [], alts := [], laidByText := true, laidKinds := [.data, .data, .data, .data, .data], laidTests := true, laidLooks := .later }
def IsaPutsUptoCardSaid : Prop := Claim7.holds Tryd.pinned (.plain (OpenSpec.upto isaPutsSpec)) isaPutsUptoCard

/-- THE SECOND FORM's CARD OF 'fretsawlaw21.IsaGets'. -/
def isaGetsUptoCard : Claim7 := { stood := { row := isaGetsUptoRow, standIns := [], harness := (true, "3bb6856bd214e2b8b0f86136bcaea47c6c6e44bbc67002102c1f205a1cc9256d"), looks := false }, kinds := [], alts := [], laidByText := true, laidKinds := [.data, .data], laidTests := true, laidLooks := .later }
def IsaGetsUptoCardSaid : Prop := Claim7.holds Tryd.pinned (.plain (OpenSpec.upto isaGetsSpec)) isaGetsUptoCard

/-- THE SECOND FORM's CARD OF 'fretsawlaw21.IsaParses'. -/
def isaParsesUptoCard : Claim7 := { stood := { row := isaParsesUptoRow, standIns := [], harness := (true, "3bb6856bd214e2b8b0f86136bcaea47c6c6e44bbc67002102c1f205a1cc9256d"), looks := false }, kinds := [], alts := [], laidByText := true, laidKinds := [.data, .data], laidTests := true, laidLooks := .later }
def IsaParsesUptoCardSaid : Prop := Claim7.holds Tryd.pinned (.plain (OpenSpec.upto isaParsesSpec)) isaParsesUptoCard

/-- THE SECOND FORM's CARD OF 'fretsawlaw21.IsaBack'. -/
def isaBackUptoCard : Claim7 := { stood := { row := isaBackUptoRow, standIns := [], harness := (true, "3bb6856bd214e2b8b0f86136bcaea47c6c6e44bbc67002102c1f205a1cc9256d"), looks := false }, kinds := [], alts := [], laidByText := true, laidKinds := [.data, .data, .data, .data, .data], laidTests := true, laidLooks := .later }
def IsaBackUptoCardSaid : Prop := Claim7.holds Tryd.pinned (.plain (OpenSpec.upto isaBackSpec)) isaBackUptoCard

/-- THE SECOND FORM's CARD OF 'fretsawlaw21.IsaOnce'. -/
def isaOnceUptoCard : Claim7 := { stood := { row := isaOnceUptoRow, standIns := [], harness := (true, "3bb6856bd214e2b8b0f86136bcaea47c6c6e44bbc67002102c1f205a1cc9256d"), looks := false }, kinds := [], alts := [], laidByText := true, laidKinds := [.data, .data, .data, .data, .data], laidTests := true, laidLooks := .later }
def IsaOnceUptoCardSaid : Prop := Claim7.holds Tryd.pinned (.plain (OpenSpec.upto isaOnceSpec)) isaOnceUptoCard
end Rows
end Go.Proofs.YtdekkjnlmlkbdaaDoor
