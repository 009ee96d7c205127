/-
  DERIVED. GIVEN WITH THE SEED: THE CARDS: each row of YtljfiefobnncaaaDoorRows.lean that lists a variable, with what it lists TIED to the program's text (the seventh form; the later family's looks); each row that meets fmt, with fmt's text TOLD by the authors' own Lean function (tested against real Go, not proved from fmt's source: count such statements apart). THE CARD IS WHAT COUNTS. Prove the row's statement (the work); the ties are given (YtljfiefobnncaaaDoorTie.lean); close each card by the builder's one call (the guide's Derived/Test/ToyasCard.lean, 'card_holds'). Laid BY PROGRAM, IN A SANDBOX (cutbox-door.mjs). By AI agents, Wed Nov 11 2026. No macro, syntax, notation, axiom, sorry.
-/
import Derived.Test.YtljfiefobnncaaaDoorRows
import GoSem.ClaimSeven
namespace Go.Proofs.YtljfiefobnncaaaDoor
namespace Rows

/-- THE TIED CARD OF 'outlinelaw.Reads'. -/
def readsCard : Claim7 := { stood := { row := readsRow, standIns := [], harness := (true, "1d5ed9f63be388837b82429b85f32e274365fd14497a792d0822eac3eb73a8f0"), looks := false }, kinds := [], alts := [], laidByText := true, laidKinds := [.data, .data, .data], laidTests := true, laidLooks := .later }
def ReadsCardSaid : Prop := Claim7.holds Tryd.pinned (.plain (OpenSpec.ofChange readsSpec)) readsCard

/-- THE TIED CARD OF 'outlinelaw.Writes'. -/
def writesCard : Claim7 := { stood := { row := writesRow, standIns := [], harness := (true, "1d5ed9f63be388837b82429b85f32e274365fd14497a792d0822eac3eb73a8f0"), looks := false }, kinds := [], alts := [], laidByText := true, laidKinds := [.data, .data, .data], laidTests := true, laidLooks := .later }
def WritesCardSaid : Prop := Claim7.holds Tryd.pinned (.plain (OpenSpec.ofChange writesSpec)) writesCard

/-- THE TIED CARD OF 'outlinekeep.Stored'. -/
def storedCard : Claim7 := { stood := { row := storedRow, standIns := [], harness := (true, "1d5ed9f63be388837b82429b85f32e274365fd14497a792d0822eac3eb73a8f0"), looks := false }, kinds := [], alts := [], laidByText := true, laidKinds := [.data, .data, .data], laidTests := true, laidLooks := .later }
def StoredCardSaid : Prop := Claim7.holds Tryd.pinned (.plain (OpenSpec.ofChange storedSpec)) storedCard

/-- THE TIED CARD OF 'outlinelaw.Paths'. -/
def pathsCard : Claim7 := { stood := { row := pathsRow, standIns := [], harness := (true, "1d5ed9f63be388837b82429b85f32e274365fd14497a792d0822eac3eb73a8f0"), looks := false }, kinds := [], alts := [], laidByText := true, laidKinds := [.data, .data, .data], laidTests := true, laidLooks := .later }
def PathsCardSaid : Prop := Claim7.holds Tryd.pinned (.plain (OpenSpec.ofChange pathsSpec)) pathsCard

/-- THE SECOND FORM's CARD OF 'outlinelaw.Reads'. -/
def readsUptoCard : Claim7 := { stood := { row := readsUptoRow, standIns := [], harness := (true, "1d5ed9f63be388837b82429b85f32e274365fd14497a792d0822eac3eb73a8f0"), looks := false }, kinds := [], alts := [], laidByText := true, laidKinds := [.data, .data, .data], laidTests := true, laidLooks := .later }
def ReadsUptoCardSaid : Prop := Claim7.holds Tryd.pinned (.plain (OpenSpec.upto readsSpec)) readsUptoCard

/-- THE SECOND FORM's CARD OF 'outlinelaw.Writes'. -/
def writesUptoCard : Claim7 := { stood := { row := writesUptoRow, standIns := [], harness := (true, "1d5ed9f63be388837b82429b85f32e274365fd14497a792d0822eac3eb73a8f0"), looks := false }, kinds := [], alts := [], laidByText := true, laidKinds := [.data, .data, .data], laidTests := true, laidLooks := .later }
def WritesUptoCardSaid : Prop := Claim7.holds Tryd.pinned (.plain (OpenSpec.upto writesSpec)) writesUptoCard

/-- THE SECOND FORM's CARD OF 'outlinekeep.Stored'. -/
def storedUptoCard : Claim7 := { stood := { row := storedUptoRow, standIns := [], harness := (true, "1d5ed9f63be388837b82429b85f32e274365fd14497a792d0822eac3eb73a8f0"), looks := false }, kinds := [], alts := [], laidByText := true, laidKinds := [.data, .data, .data], laidTests := true, laidLooks := .later }
def StoredUptoCardSaid : Prop := Claim7.holds Tryd.pinned (.plain (OpenSpec.upto storedSpec)) storedUptoCard

/-- THE SECOND FORM's CARD OF 'outlinelaw.Paths'. -/
def pathsUptoCard : Claim7 := { stood := { row := pathsUptoRow, standIns := [], harness := (true, "1d5ed9f63be388837b82429b85f32e274365fd14497a792d0822eac3eb73a8f0"), looks := false }, kinds := [], alts := [], laidByText := true, laidKinds := [.data, .data, .data], laidTests := true, laidLooks := .later }
def PathsUptoCardSaid : Prop := Claim7.holds Tryd.pinned (.plain (OpenSpec.upto pathsSpec)) pathsUptoCard
end Rows
end Go.Proofs.YtljfiefobnncaaaDoor
