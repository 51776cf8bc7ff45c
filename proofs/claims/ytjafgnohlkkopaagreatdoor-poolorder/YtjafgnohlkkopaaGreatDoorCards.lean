/-
  DERIVED. GIVEN WITH THE SEED: THE CARDS: each row of YtjafgnohlkkopaaGreatDoorRows.lean that lists a variable, with what it lists TIED to the program's text (the seventh form; the later family's looks); each row that meets fmt, with fmt's text TOLD by the authors' own Lean function (tested against real Go, not proved from fmt's source: count such statements apart). THE CARD IS WHAT COUNTS. Prove the row's statement (the work); the ties are given (YtjafgnohlkkopaaGreatDoorTie.lean); close each card by the builder's one call (the guide's Derived/Test/ToyasCard.lean, 'card_holds'). Laid BY PROGRAM, IN A SANDBOX (cutbox-door.mjs). By AI agents, Wed Nov 11 2026. No macro, syntax, notation, axiom, sorry.
-/
import Derived.Test.YtjafgnohlkkopaaGreatDoorRows
import GoSem.ClaimSeven
namespace Go.Proofs.YtjafgnohlkkopaaGreatDoor
namespace Rows

/-- THE TIED CARD OF 'rookerylaw.PoolOrder'. -/
def poolOrderCard : Claim7 := { stood := { row := poolOrderRow, standIns := [], harness := (true, "5497aa000d95c0084668eea3e1d58bd7724d9ac12a2fe32c918a6130188efbb8"), looks := false }, kinds := [], alts := [], laidByText := true, laidKinds := [.data, .data, .data], laidTests := true, laidLooks := .later }
def PoolOrderCardSaid : Prop := Claim7.holds Tryz.pinned (.plain (OpenSpec.ofChange poolOrderSpec)) poolOrderCard

/-- THE TIED CARD OF 'rookerylaw.ViewLike'. -/
def viewLikeCard : Claim7 := { stood := { row := viewLikeRow, standIns := [], harness := (true, "5497aa000d95c0084668eea3e1d58bd7724d9ac12a2fe32c918a6130188efbb8"), looks := false }, kinds := [], alts := [], laidByText := true, laidKinds := [.data, .data, .data], laidTests := true, laidLooks := .later }
def ViewLikeCardSaid : Prop := Claim7.holds Tryz.pinned (.plain (OpenSpec.ofChange viewLikeSpec)) viewLikeCard

/-- THE TIED CARD OF 'rookerylaw.PoolApart'. -/
def poolApartCard : Claim7 := { stood := { row := poolApartRow, standIns := [], harness := (true, "5497aa000d95c0084668eea3e1d58bd7724d9ac12a2fe32c918a6130188efbb8"), looks := false }, kinds := [], alts := [], laidByText := true, laidKinds := [.data, .data, .data], laidTests := true, laidLooks := .later }
def PoolApartCardSaid : Prop := Claim7.holds Tryz.pinned (.plain (OpenSpec.ofChange poolApartSpec)) poolApartCard

/-- THE TIED CARD OF 'rookerylaw.ViewAlone'. -/
def viewAloneCard : Claim7 := { stood := { row := viewAloneRow, standIns := [], harness := (true, "5497aa000d95c0084668eea3e1d58bd7724d9ac12a2fe32c918a6130188efbb8"), looks := false }, kinds := [], alts := [], laidByText := true, laidKinds := [.data, .data, .data], laidTests := true, laidLooks := .later }
def ViewAloneCardSaid : Prop := Claim7.holds Tryz.pinned (.plain (OpenSpec.ofChange viewAloneSpec)) viewAloneCard

/-- THE SECOND FORM's CARD OF 'rookerylaw.PoolOrder'. -/
def poolOrderUptoCard : Claim7 := { stood := { row := poolOrderUptoRow, standIns := [], harness := (true, "5497aa000d95c0084668eea3e1d58bd7724d9ac12a2fe32c918a6130188efbb8"), looks := false }, kinds := [], alts := [], laidByText := true, laidKinds := [.data, .data, .data], laidTests := true, laidLooks := .later }
def PoolOrderUptoCardSaid : Prop := Claim7.holds Tryz.pinned (.plain (OpenSpec.upto poolOrderSpec)) poolOrderUptoCard

/-- THE SECOND FORM's CARD OF 'rookerylaw.ViewLike'. -/
def viewLikeUptoCard : Claim7 := { stood := { row := viewLikeUptoRow, standIns := [], harness := (true, "5497aa000d95c0084668eea3e1d58bd7724d9ac12a2fe32c918a6130188efbb8"), looks := false }, kinds := [], alts := [], laidByText := true, laidKinds := [.data, .data, .data], laidTests := true, laidLooks := .later }
def ViewLikeUptoCardSaid : Prop := Claim7.holds Tryz.pinned (.plain (OpenSpec.upto viewLikeSpec)) viewLikeUptoCard

/-- THE SECOND FORM's CARD OF 'rookerylaw.PoolApart'. -/
def poolApartUptoCard : Claim7 := { stood := { row := poolApartUptoRow, standIns := [], harness := (true, "5497aa000d95c0084668eea3e1d58bd7724d9ac12a2fe32c918a6130188efbb8"), looks := false }, kinds := [], alts := [], laidByText := true, laidKinds := [.data, .data, .data], laidTests := true, laidLooks := .later }
def PoolApartUptoCardSaid : Prop := Claim7.holds Tryz.pinned (.plain (OpenSpec.upto poolApartSpec)) poolApartUptoCard

/-- THE SECOND FORM's CARD OF 'rookerylaw.ViewAlone'. -/
def viewAloneUptoCard : Claim7 := { stood := { row := viewAloneUptoRow, standIns := [], harness := (true, "5497aa000d95c0084668eea3e1d58bd7724d9ac12a2fe32c918a6130188efbb8"), looks := false }, kinds := [], alts := [], laidByText := true, laidKinds := [.data, .data, .data], laidTests := true, laidLooks := .later }
def ViewAloneUptoCardSaid : Prop := Claim7.holds Tryz.pinned (.plain (OpenSpec.upto viewAloneSpec)) viewAloneUptoCard
end Rows
end Go.Proofs.YtjafgnohlkkopaaGreatDoor
