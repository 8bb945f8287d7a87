/-
  DERIVED. GIVEN WITH THE SEED: THE CARDS: each row of YtpfbofcofhcfpaaDoorRows.lean that lists a variable, with what it lists TIED to the program's text (the seventh form; the later family's looks); each row that meets fmt, with fmt's text TOLD by the authors' own Lean function (tested against real Go, not proved from fmt's source: count such statements apart). THE CARD IS WHAT COUNTS. Prove the row's statement (the work); the ties are given (YtpfbofcofhcfpaaDoorTie.lean); close each card by the builder's one call (the guide's Derived/Test/ToyasCard.lean, 'card_holds'). Laid BY PROGRAM, IN A SANDBOX (cutbox-door.mjs). By AI agents, Wed Nov 11 2026. No macro, syntax, notation, axiom, sorry.
-/
import Derived.Test.YtpfbofcofhcfpaaDoorRows
import GoSem.ClaimSeven
namespace Go.Proofs.YtpfbofcofhcfpaaDoor
namespace Rows

/-- THE TIED CARD OF 'semispacelaw16.HandleEncodes'. -/
def handleEncodesCard : Claim7 := { stood := { row := handleEncodesRow, standIns := [], harness := (true, "28db416ce9a69f5dad6e5edd7d750d57adfd2f2f7f6e1ec6b1709c096f1dcc05"), looks := false }, kinds := [], alts := [], laidByText := true, laidKinds := [.data], laidTests := true, laidLooks := .later }
def HandleEncodesCardSaid : Prop := Claim7.holds Tryd.pinned (.plain (OpenSpec.ofChange handleEncodesSpec)) handleEncodesCard

/-- THE TIED CARD OF 'semispacelaw16.HandleDecodes'. -/
def handleDecodesCard : Claim7 := { stood := { row := handleDecodesRow, standIns := [], harness := (true, "28db416ce9a69f5dad6e5edd7d750d57adfd2f2f7f6e1ec6b1709c096f1dcc05"), looks := false }, kinds := [], alts := [], laidByText := true, laidKinds := [.data], laidTests := true, laidLooks := .later }
def HandleDecodesCardSaid : Prop := Claim7.holds Tryd.pinned (.plain (OpenSpec.ofChange handleDecodesSpec)) handleDecodesCard

/-- THE TIED CARD OF 'semispacelaw16.HandleBack'. -/
def handleBackCard : Claim7 := { stood := { row := handleBackRow, standIns := [], harness := (true, "28db416ce9a69f5dad6e5edd7d750d57adfd2f2f7f6e1ec6b1709c096f1dcc05"), looks := false }, kinds := [], alts := [], laidByText := true, laidKinds := [.data], laidTests := true, laidLooks := .later }
def HandleBackCardSaid : Prop := Claim7.holds Tryd.pinned (.plain (OpenSpec.ofChange handleBackSpec)) handleBackCard

/-- THE TIED CARD OF 'semispacelaw16.HandleApart'. -/
def handleApartCard : Claim7 := { stood := { row := handleApartRow, standIns := [], harness := (true, "28db416ce9a69f5dad6e5edd7d750d57adfd2f2f7f6e1ec6b1709c096f1dcc05"), looks := false }, kinds := [], alts := [], laidByText := true, laidKinds := [.data], laidTests := true, laidLooks := .later }
def HandleApartCardSaid : Prop := Claim7.holds Tryd.pinned (.plain (OpenSpec.ofChange handleApartSpec)) handleApartCard

/-- THE SECOND FORM's CARD OF 'semispacelaw16.HandleEncodes'. -/
def handleEncodesUptoCard : Claim7 := { stood := { row := handleEncodesUptoRow, standIns := [], harness := (true, "28db416ce9a69f5dad6e5edd7d750d57adfd2f2f7f6e1ec6b1709c096f1dcc05"), looks := false }, kinds := [], alts := [], laidByText := true, laidKinds := [.data], laidTests := true, laidLooks := .later }
def HandleEncodesUptoCardSaid : Prop := Claim7.holds Tryd.pinned (.plain (OpenSpec.upto handleEncodesSpec)) handleEncodesUptoCard

/-- THE SECOND FORM's CARD OF 'semispacelaw16.HandleDecodes'. -/
def handleDecodesUptoCard : Claim7 := { stood := { row := handleDecodesUptoRow, standIns := [], harness := (true, "28db416ce9a69f5dad6e5edd7d750d57adfd2f2f7f6e1ec6b1709c096f1dcc05"), looks := false }, kinds := [], alts := [], laidByText := true, laidKinds := [.data], laidTests := true, laidLooks := .later }
def HandleDecodesUptoCardSaid : Prop := Claim7.holds Tryd.pinned (.plain (OpenSpec.upto handleDecodesSpec)) handleDecodesUptoCard

/-- THE SECOND FORM's CARD OF 'semispacelaw16.HandleBack'. -/
def handleBackUptoCard : Claim7 := { stood := { row := handleBackUptoRow, standIns := [], harness := (true, "28db416ce9a69f5dad6e5edd7d750d57adfd2f2f7f6e1ec6b1709c096f1dcc05"), looks := false }, kinds := [], alts := [], laidByText := true, laidKinds := [.data], laidTests := true, laidLooks := .later }
def HandleBackUptoCardSaid : Prop := Claim7.holds Tryd.pinned (.plain (OpenSpec.upto handleBackSpec)) handleBackUptoCard

/-- THE SECOND FORM's CARD OF 'semispacelaw16.HandleApart'. -/
def handleApartUptoCard : Claim7 := { stood := { row := handleApartUptoRow, standIns := [], harness := (true, "28db416ce9a69f5dad6e5edd7d750d57adfd2f2f7f6e1ec6b1709c096f1dcc05"), looks := false }, kinds := [], alts := [], laidByText := true, laidKinds := [.data], laidTests := true, laidLooks := .later }
def HandleApartUptoCardSaid : Prop := Claim7.holds Tryd.pinned (.plain (OpenSpec.upto handleApartSpec)) handleApartUptoCard
end Rows
end Go.Proofs.YtpfbofcofhcfpaaDoor
