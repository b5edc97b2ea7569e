/-
  DERIVED. GIVEN WITH THE SEED: THE CARDS: each row of YtjedcijddlilaaaGreatDoorRows.lean that lists a variable, with what it lists TIED to the program's text (the seventh form; the later family's looks); each row that meets fmt, with fmt's text TOLD by the authors' own Lean function (tested against real Go, not proved from fmt's source: count such statements apart). THE CARD IS WHAT COUNTS. Prove the row's statement (the work); the ties are given (YtjedcijddlilaaaGreatDoorTie.lean); close each card by the builder's one call (the guide's Derived/Test/ToyasCard.lean, 'card_holds'). Laid BY PROGRAM, IN A SANDBOX (cutbox-door.mjs). By AI agents, Wed Nov 11 2026. No macro, syntax, notation, axiom, sorry.
-/
import Derived.Test.YtjedcijddlilaaaGreatDoorRows
import GoSem.ClaimSeven
namespace Go.Proofs.YtjedcijddlilaaaGreatDoor
namespace Rows

/-- THE TIED CARD OF 'modcertlaw04.SyntaxForms'. -/
def syntaxFormsCard : Claim7 := { stood := { row := syntaxFormsRow, standIns := [], harness := (true, "5d24df1d4a5dae3e57cfab762cc1468c653819a66f000567ca10b30a08acbdbe"), looks := true }, kinds := [], alts := [], laidByText := true, laidKinds := [.data, .data, .data, .data, .sentinel, .sentinel, .pinned], laidTests := true, laidLooks := .later }
def SyntaxFormsCardSaid : Prop := Claim7.holds Tryz.pinned (.plain (OpenSpec.ofChange syntaxFormsSpec)) syntaxFormsCard

/-- THE TIED CARD OF 'modcertlaw04.SyntaxVariables'. -/
def syntaxVariablesCard : Claim7 := { stood := { row := syntaxVariablesRow, standIns := [], harness := (true, "5d24df1d4a5dae3e57cfab762cc1468c653819a66f000567ca10b30a08acbdbe"), looks := true }, kinds := [], alts := [], laidByText := true, laidKinds := [.data, .data, .data, .data, .sentinel, .sentinel, .pinned], laidTests := true, laidLooks := .later }
def SyntaxVariablesCardSaid : Prop := Claim7.holds Tryz.pinned (.plain (OpenSpec.ofChange syntaxVariablesSpec)) syntaxVariablesCard

/-- THE TIED CARD OF 'modcertlaw04.SyntaxFrees'. -/
def syntaxFreesCard : Claim7 := { stood := { row := syntaxFreesRow, standIns := [], harness := (true, "5d24df1d4a5dae3e57cfab762cc1468c653819a66f000567ca10b30a08acbdbe"), looks := true }, kinds := [], alts := [], laidByText := true, laidKinds := [.data, .data, .data, .data, .sentinel, .sentinel, .pinned], laidTests := true, laidLooks := .later }
def SyntaxFreesCardSaid : Prop := Claim7.holds Tryz.pinned (.plain (OpenSpec.ofChange syntaxFreesSpec)) syntaxFreesCard

/-- THE SECOND FORM's CARD OF 'modcertlaw04.SyntaxForms'. -/
def syntaxFormsUptoCard : Claim7 := { stood := { row := syntaxFormsUptoRow, standIns := [], harness := (true, "5d24df1d4a5dae3e57cfab762cc1468c653819a66f000567ca10b30a08acbdbe"), looks := true }, kinds := [], alts := [], laidByText := true, laidKinds := [.data, .data, .data, .data, .sentinel, .sentinel, .pinned], laidTests := true, laidLooks := .later }
def SyntaxFormsUptoCardSaid : Prop := Claim7.holds Tryz.pinned (.plain (OpenSpec.upto syntaxFormsSpec)) syntaxFormsUptoCard

/-- THE SECOND FORM's CARD OF 'modcertlaw04.SyntaxVariables'. -/
def syntaxVariablesUptoCard : Claim7 := { stood := { row := syntaxVariablesUptoRow, standIns := [], harness := (true, "5d24df1d4a5dae3e57cfab762cc1468c653819a66f000567ca10b30a08acbdbe"), looks := true }, kinds := [], alts := [], laidByText := true, laidKinds := [.data, .data, .data, .data, .sentinel, .sentinel, .pinned], laidTests := true, laidLooks := .later }
def SyntaxVariablesUptoCardSaid : Prop := Claim7.holds Tryz.pinned (.plain (OpenSpec.upto syntaxVariablesSpec)) syntaxVariablesUptoCard

/-- THE SECOND FORM's CARD OF 'modcertlaw04.SyntaxFrees'. -/
def syntaxFreesUptoCard : Claim7 := { stood := { row := syntaxFreesUptoRow, standIns := [], harness := (true, "5d24df1d4a5dae3e57cfab762cc1468c653819a66f000567ca10b30a08acbdbe"), looks := true }, kinds := [], alts := [], laidByText := true, laidKinds := [.data, .data, .data, .data, .sentinel, .sentinel, .pinned], laidTests := true, laidLooks := .later }
def SyntaxFreesUptoCardSaid : Prop := Claim7.holds Tryz.pinned (.plain (OpenSpec.upto syntaxFreesSpec)) syntaxFreesUptoCard
end Rows
end Go.Proofs.YtjedcijddlilaaaGreatDoor
