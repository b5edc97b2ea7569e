/-
  DERIVED. GIVEN WITH THE SEED: THE CARDS: each row of YtnkhebgjhipepaaGreatDoorRows.lean that lists a variable, with what it lists TIED to the program's text (the seventh form; the later family's looks); each row that meets fmt, with fmt's text TOLD by the authors' own Lean function (tested against real Go, not proved from fmt's source: count such statements apart). THE CARD IS WHAT COUNTS. Prove the row's statement (the work); the ties are given (YtnkhebgjhipepaaGreatDoorTie.lean); close each card by the builder's one call (the guide's Derived/Test/ToyasCard.lean, 'card_holds'). Laid BY PROGRAM, IN A SANDBOX (cutbox-door.mjs). By AI agents, Wed Nov 11 2026. No macro, syntax, notation, axiom, sorry.
-/
import Derived.Test.YtnkhebgjhipepaaGreatDoorRows
import GoSem.ClaimSeven
namespace Go.Proofs.YtnkhebgjhipepaaGreatDoor
namespace Rows

/-- THE TIED CARD OF 'modcertlaw04.SyntaxSizes'. -/
def syntaxSizesCard : Claim7 := { stood := { row := syntaxSizesRow, standIns := [], harness := (true, "2071e88e99a4ad04ec7e78b2a51b945c609fe9da4ebcd8b17a1875ab2c745b10"), looks := true }, kinds := [], alts := [], laidByText := true, laidKinds := [.data, .data, .data, .data, .sentinel, .sentinel, .pinned], laidTests := true, laidLooks := .later }
def SyntaxSizesCardSaid : Prop := Claim7.holds Tryz.pinned (.plain (OpenSpec.ofChange syntaxSizesSpec)) syntaxSizesCard

/-- THE TIED CARD OF 'modcertlaw04.SyntaxForms'. -/
def syntaxFormsCard : Claim7 := { stood := { row := syntaxFormsRow, standIns := [], harness := (true, "2071e88e99a4ad04ec7e78b2a51b945c609fe9da4ebcd8b17a1875ab2c745b10"), looks := true }, kinds := [], alts := [], laidByText := true, laidKinds := [.data, .data, .data, .data, .sentinel, .sentinel, .pinned], laidTests := true, laidLooks := .later }
def SyntaxFormsCardSaid : Prop := Claim7.holds Tryz.pinned (.plain (OpenSpec.ofChange syntaxFormsSpec)) syntaxFormsCard

/-- THE TIED CARD OF 'modcertlaw04.SyntaxEquals'. -/
def syntaxEqualsCard : Claim7 := { stood := { row := syntaxEqualsRow, standIns := [], harness := (true, "2071e88e99a4ad04ec7e78b2a51b945c609fe9da4ebcd8b17a1875ab2c745b10"), looks := true }, kinds := [], alts := [], laidByText := true, laidKinds := [.data, .data, .data, .data, .sentinel, .sentinel, .pinned], laidTests := true, laidLooks := .later }
def SyntaxEqualsCardSaid : Prop := Claim7.holds Tryz.pinned (.plain (OpenSpec.ofChange syntaxEqualsSpec)) syntaxEqualsCard

/-- THE TIED CARD OF 'modcertlaw04.SyntaxVariables'. -/
def syntaxVariablesCard : Claim7 := { stood := { row := syntaxVariablesRow, standIns := [], harness := (true, "2071e88e99a4ad04ec7e78b2a51b945c609fe9da4ebcd8b17a1875ab2c745b10"), looks := true }, kinds := [], alts := [], laidByText := true, laidKinds := [.data, .data, .data, .data, .sentinel, .sentinel, .pinned], laidTests := true, laidLooks := .later }
def SyntaxVariablesCardSaid : Prop := Claim7.holds Tryz.pinned (.plain (OpenSpec.ofChange syntaxVariablesSpec)) syntaxVariablesCard

/-- THE TIED CARD OF 'modcertlaw04.SyntaxEquality'. -/
def syntaxEqualityCard : Claim7 := { stood := { row := syntaxEqualityRow, standIns := [], harness := (true, "2071e88e99a4ad04ec7e78b2a51b945c609fe9da4ebcd8b17a1875ab2c745b10"), looks := true }, kinds := [], alts := [], laidByText := true, laidKinds := [.data, .data, .data, .data, .sentinel, .sentinel, .pinned], laidTests := true, laidLooks := .later }
def SyntaxEqualityCardSaid : Prop := Claim7.holds Tryz.pinned (.plain (OpenSpec.ofChange syntaxEqualitySpec)) syntaxEqualityCard

/-- THE TIED CARD OF 'modcertlaw04.SyntaxComposes'. -/
def syntaxComposesCard : Claim7 := { stood := { row := syntaxComposesRow, standIns := [], harness := (true, "2071e88e99a4ad04ec7e78b2a51b945c609fe9da4ebcd8b17a1875ab2c745b10"), looks := true }, kinds := [], alts := [], laidByText := true, laidKinds := [.data, .data, .data, .data, .sentinel, .sentinel, .pinned], laidTests := true, laidLooks := .later }
def SyntaxComposesCardSaid : Prop := Claim7.holds Tryz.pinned (.plain (OpenSpec.ofChange syntaxComposesSpec)) syntaxComposesCard

/-- THE TIED CARD OF 'modcertlaw04.SyntaxFrees'. -/
def syntaxFreesCard : Claim7 := { stood := { row := syntaxFreesRow, standIns := [], harness := (true, "2071e88e99a4ad04ec7e78b2a51b945c609fe9da4ebcd8b17a1875ab2c745b10"), looks := true }, kinds := [], alts := [], laidByText := true, laidKinds := [.data, .data, .data, .data, .sentinel, .sentinel, .pinned], laidTests := true, laidLooks := .later }
def SyntaxFreesCardSaid : Prop := Claim7.holds Tryz.pinned (.plain (OpenSpec.ofChange syntaxFreesSpec)) syntaxFreesCard

/-- THE TIED CARD OF 'modcertlaw04.SyntaxParts'. -/
def syntaxPartsCard : Claim7 := { stood := { row := syntaxPartsRow, standIns := [], harness := (true, "2071e88e99a4ad04ec7e78b2a51b945c609fe9da4ebcd8b17a1875ab2c745b10"), looks := true }, kinds := [], alts := [], laidByText := true, laidKinds := [.data, .data, .data, .data, .sentinel, .sentinel, .pinned], laidTests := true, laidLooks := .later }
def SyntaxPartsCardSaid : Prop := Claim7.holds Tryz.pinned (.plain (OpenSpec.ofChange syntaxPartsSpec)) syntaxPartsCard

/-- THE SECOND FORM's CARD OF 'modcertlaw04.SyntaxSizes'. -/
def syntaxSizesUptoCard : Claim7 := { stood := { row := syntaxSizesUptoRow, standIns := [], harness := (true, "2071e88e99a4ad04ec7e78b2a51b945c609fe9da4ebcd8b17a1875ab2c745b10"), looks := true }, kinds := [], alts := [], laidByText := true, laidKinds := [.data, .data, .data, .data, .sentinel, .sentinel, .pinned], laidTests := true, laidLooks := .later }
def SyntaxSizesUptoCardSaid : Prop := Claim7.holds Tryz.pinned (.plain (OpenSpec.upto syntaxSizesSpec)) syntaxSizesUptoCard

/-- THE SECOND FORM's CARD OF 'modcertlaw04.SyntaxForms'. -/
def syntaxFormsUptoCard : Claim7 := { stood := { row := syntaxFormsUptoRow, standIns := [], harness := (true, "2071e88e99a4ad04ec7e78b2a51b945c609fe9da4ebcd8b17a1875ab2c745b10"), looks := true }, kinds := [], alts := [], laidByText := true, laidKinds := [.data, .data, .data, .data, .sentinel, .sentinel, .pinned], laidTests := true, laidLooks := .later }
def SyntaxFormsUptoCardSaid : Prop := Claim7.holds Tryz.pinned (.plain (OpenSpec.upto syntaxFormsSpec)) syntaxFormsUptoCard

/-- THE SECOND FORM's CARD OF 'modcertlaw04.SyntaxEquals'. -/
def syntaxEqualsUptoCard : Claim7 := { stood := { row := syntaxEqualsUptoRow, standIns := [], harness := (true, "2071e88e99a4ad04ec7e78b2a51b945c609fe9da4ebcd8b17a1875ab2c745b10"), looks := true }, kinds := [], alts := [], laidByText := true, laidKinds := [.data, .data, .data, .data, .sentinel, .sentinel, .pinned], laidTests := true, laidLooks := .later }
def SyntaxEqualsUptoCardSaid : Prop := Claim7.holds Tryz.pinned (.plain (OpenSpec.upto syntaxEqualsSpec)) syntaxEqualsUptoCard

/-- THE SECOND FORM's CARD OF 'modcertlaw04.SyntaxVariables'. -/
def syntaxVariablesUptoCard : Claim7 := { stood := { row := syntaxVariablesUptoRow, standIns := [], harness := (true, "2071e88e99a4ad04ec7e78b2a51b945c609fe9da4ebcd8b17a1875ab2c745b10"), looks := true }, kinds := [], alts := [], laidByText := true, laidKinds := [.data, .data, .data, .data, .sentinel, .sentinel, .pinned], laidTests := true, laidLooks := .later }
def SyntaxVariablesUptoCardSaid : Prop := Claim7.holds Tryz.pinned (.plain (OpenSpec.upto syntaxVariablesSpec)) syntaxVariablesUptoCard

/-- THE SECOND FORM's CARD OF 'modcertlaw04.SyntaxEquality'. -/
def syntaxEqualityUptoCard : Claim7 := { stood := { row := syntaxEqualityUptoRow, standIns := [], harness := (true, "2071e88e99a4ad04ec7e78b2a51b945c609fe9da4ebcd8b17a1875ab2c745b10"), looks := true }, kinds := [], alts := [], laidByText := true, laidKinds := [.data, .data, .data, .data, .sentinel, .sentinel, .pinned], laidTests := true, laidLooks := .later }
def SyntaxEqualityUptoCardSaid : Prop := Claim7.holds Tryz.pinned (.plain (OpenSpec.upto syntaxEqualitySpec)) syntaxEqualityUptoCard

/-- THE SECOND FORM's CARD OF 'modcertlaw04.SyntaxComposes'. -/
def syntaxComposesUptoCard : Claim7 := { stood := { row := syntaxComposesUptoRow, standIns := [], harness := (true, "2071e88e99a4ad04ec7e78b2a51b945c609fe9da4ebcd8b17a1875ab2c745b10"), looks := true }, kinds := [], alts := [], laidByText := true, laidKinds := [.data, .data, .data, .data, .sentinel, .sentinel, .pinned], laidTests := true, laidLooks := .later }
def SyntaxComposesUptoCardSaid : Prop := Claim7.holds Tryz.pinned (.plain (OpenSpec.upto syntaxComposesSpec)) syntaxComposesUptoCard

/-- THE SECOND FORM's CARD OF 'modcertlaw04.SyntaxFrees'. -/
def syntaxFreesUptoCard : Claim7 := { stood := { row := syntaxFreesUptoRow, standIns := [], harness := (true, "2071e88e99a4ad04ec7e78b2a51b945c609fe9da4ebcd8b17a1875ab2c745b10"), looks := true }, kinds := [], alts := [], laidByText := true, laidKinds := [.data, .data, .data, .data, .sentinel, .sentinel, .pinned], laidTests := true, laidLooks := .later }
def SyntaxFreesUptoCardSaid : Prop := Claim7.holds Tryz.pinned (.plain (OpenSpec.upto syntaxFreesSpec)) syntaxFreesUptoCard

/-- THE SECOND FORM's CARD OF 'modcertlaw04.SyntaxParts'. -/
def syntaxPartsUptoCard : Claim7 := { stood := { row := syntaxPartsUptoRow, standIns := [], harness := (true, "2071e88e99a4ad04ec7e78b2a51b945c609fe9da4ebcd8b17a1875ab2c745b10"), looks := true }, kinds := [], alts := [], laidByText := true, laidKinds := [.data, .data, .data, .data, .sentinel, .sentinel, .pinned], laidTests := true, laidLooks := .later }
def SyntaxPartsUptoCardSaid : Prop := Claim7.holds Tryz.pinned (.plain (OpenSpec.upto syntaxPartsSpec)) syntaxPartsUptoCard
end Rows
end Go.Proofs.YtnkhebgjhipepaaGreatDoor
