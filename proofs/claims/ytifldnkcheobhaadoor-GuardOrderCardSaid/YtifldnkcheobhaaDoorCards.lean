/-
  DERIVED. GIVEN WITH THE SEED: THE CARDS: each row of YtifldnkcheobhaaDoorRows.lean that lists a variable, with what it lists TIED to the program's text (the seventh form; the later family's looks); each row that meets fmt, with fmt's text TOLD by the authors' own Lean function (tested against real Go, not proved from fmt's source: count such statements apart). THE CARD IS WHAT COUNTS. Prove the row's statement (the work); the ties are given (YtifldnkcheobhaaDoorTie.lean); close each card by the builder's one call (the guide's Derived/Test/ToyasCard.lean, 'card_holds'). Laid BY PROGRAM, IN A SANDBOX (cutbox-door.mjs). By AI agents, Wed Nov 11 2026. No macro, syntax, notation, axiom, sorry.
-/
import Derived.Test.YtifldnkcheobhaaDoorRows
import GoSem.ClaimSeven
namespace Go.Proofs.YtifldnkcheobhaaDoor
namespace Rows

/-- THE TIED CARD OF 'spigotlaw09.CauseClasses'. -/
def causeClassesCard : Claim7 := { stood := { row := causeClassesRow, standIns := [], harness := (true, "45ef415d48785b549fdd104a6443234becb287673a1d01ed1063af40c3ae81b6"), looks := true }, kinds := [], alts := [], laidByText := true, laidKinds := [.data, .data, .data, .handle, .sentinel, .sentinel], laidTests := true, laidLooks := .later }
def CauseClassesCardSaid : Prop := Claim7.holds Tryd.pinned (.plain (OpenSpec.ofChange causeClassesSpec)) causeClassesCard

/-- THE TIED CARD OF 'spigotlaw09.CauseLast'. -/
def causeLastCard : Claim7 := { stood := { row := causeLastRow, standIns := [], harness := (true, "45ef415d48785b549fdd104a6443234becb287673a1d01ed1063af40c3ae81b6"), looks := true }, kinds := [], alts := [], laidByText := true, laidKinds := [.data, .data, .data, .handle, .sentinel, .sentinel], laidTests := true, laidLooks := .later }
def CauseLastCardSaid : Prop := Claim7.holds Tryd.pinned (.plain (OpenSpec.ofChange causeLastSpec)) causeLastCard

/-- THE TIED CARD OF 'spigotlaw09.CauseDeep'. -/
def causeDeepCard : Claim7 := { stood := { row := causeDeepRow, standIns := [], harness := (true, "45ef415d48785b549fdd104a6443234becb287673a1d01ed1063af40c3ae81b6"), looks := true }, kinds := [], alts := [], laidByText := true, laidKinds := [.data, .data, .data, .handle, .sentinel, .sentinel], laidTests := true, laidLooks := .later }
def CauseDeepCardSaid : Prop := Claim7.holds Tryd.pinned (.plain (OpenSpec.ofChange causeDeepSpec)) causeDeepCard

/-- THE TIED CARD OF 'spigotlaw09.CauseFuel'. -/
def causeFuelCard : Claim7 := { stood := { row := causeFuelRow, standIns := [], harness := (true, "45ef415d48785b549fdd104a6443234becb287673a1d01ed1063af40c3ae81b6"), looks := true }, kinds := [], alts := [], laidByText := true, laidKinds := [.data, .data, .data, .handle, .sentinel, .sentinel], laidTests := true, laidLooks := .later }
def CauseFuelCardSaid : Prop := Claim7.holds Tryd.pinned (.plain (OpenSpec.ofChange causeFuelSpec)) causeFuelCard

/-- THE TIED CARD OF 'spigotlaw09.CauseReverse'. -/
def causeReverseCard : Claim7 := { stood := { row := causeReverseRow, standIns := [], harness := (true, "45ef415d48785b549fdd104a6443234becb287673a1d01ed1063af40c3ae81b6"), looks := true }, kinds := [], alts := [], laidByText := true, laidKinds := [.data, .data, .data, .handle, .sentinel, .sentinel], laidTests := true, laidLooks := .later }
def CauseReverseCardSaid : Prop := Claim7.holds Tryd.pinned (.plain (OpenSpec.ofChange causeReverseSpec)) causeReverseCard

/-- THE TIED CARD OF 'spigotlaw10.GuardApart'. -/
def guardApartCard : Claim7 := { stood := { row := guardApartRow, standIns := [], harness := (true, "45ef415d48785b549fdd104a6443234becb287673a1d01ed1063af40c3ae81b6"), looks := true }, kinds := [], alts := [], laidByText := true, laidKinds := [.data, .data, .data, .handle, .sentinel, .sentinel], laidTests := true, laidLooks := .later }
def GuardApartCardSaid : Prop := Claim7.holds Tryd.pinned (.plain (OpenSpec.ofChange guardApartSpec)) guardApartCard

/-- THE TIED CARD OF 'spigotlaw10.GuardNil'. -/
def guardNilCard : Claim7 := { stood := { row := guardNilRow, standIns := [], harness := (true, "45ef415d48785b549fdd104a6443234becb287673a1d01ed1063af40c3ae81b6"), looks := true }, kinds := [], alts := [], laidByText := true, laidKinds := [.data, .data, .data, .handle, .sentinel, .sentinel], laidTests := true, laidLooks := .later }
def GuardNilCardSaid : Prop := Claim7.holds Tryd.pinned (.plain (OpenSpec.ofChange guardNilSpec)) guardNilCard

/-- THE TIED CARD OF 'spigotlaw10.GuardOrder'. -/
def guardOrderCard : Claim7 := { stood := { row := guardOrderRow, standIns := [], harness := (true, "45ef415d48785b549fdd104a6443234becb287673a1d01ed1063af40c3ae81b6"), looks := true }, kinds := [], alts := [], laidByText := true, laidKinds := [.data, .data, .data, .handle, .sentinel, .sentinel], laidTests := true, laidLooks := .later }
def GuardOrderCardSaid : Prop := Claim7.holds Tryd.pinned (.plain (OpenSpec.ofChange guardOrderSpec)) guardOrderCard

/-- THE SECOND FORM's CARD OF 'spigotlaw09.CauseClasses'. -/
def causeClassesUptoCard : Claim7 := { stood := { row := causeClassesUptoRow, standIns := [], harness := (true, "45ef415d48785b549fdd104a6443234becb287673a1d01ed1063af40c3ae81b6"), looks := true }, kinds := [], alts := [], laidByText := true, laidKinds := [.data, .data, .data, .handle, .sentinel, .sentinel], laidTests := true, laidLooks := .later }
def CauseClassesUptoCardSaid : Prop := Claim7.holds Tryd.pinned (.plain (OpenSpec.upto causeClassesSpec)) causeClassesUptoCard

/-- THE SECOND FORM's CARD OF 'spigotlaw09.CauseLast'. -/
def causeLastUptoCard : Claim7 := { stood := { row := causeLastUptoRow, standIns := [], harness := (true, "45ef415d48785b549fdd104a6443234becb287673a1d01ed1063af40c3ae81b6"), looks := true }, kinds := [], alts := [], laidByText := true, laidKinds := [.data, .data, .data, .handle, .sentinel, .sentinel], laidTests := true, laidLooks := .later }
def CauseLastUptoCardSaid : Prop := Claim7.holds Tryd.pinned (.plain (OpenSpec.upto causeLastSpec)) causeLastUptoCard

/-- THE SECOND FORM's CARD OF 'spigotlaw09.CauseDeep'. -/
def causeDeepUptoCard : Claim7 := { stood := { row := causeDeepUptoRow, standIns := [], harness := (true, "45ef415d48785b549fdd104a6443234becb287673a1d01ed1063af40c3ae81b6"), looks := true }, kinds := [], alts := [], laidByText := true, laidKinds := [.data, .data, .data, .handle, .sentinel, .sentinel], laidTests := true, laidLooks := .later }
def CauseDeepUptoCardSaid : Prop := Claim7.holds Tryd.pinned (.plain (OpenSpec.upto causeDeepSpec)) causeDeepUptoCard

/-- THE SECOND FORM's CARD OF 'spigotlaw09.CauseFuel'. -/
def causeFuelUptoCard : Claim7 := { stood := { row := causeFuelUptoRow, standIns := [], harness := (true, "45ef415d48785b549fdd104a6443234becb287673a1d01ed1063af40c3ae81b6"), looks := true }, kinds := [], alts := [], laidByText := true, laidKinds := [.data, .data, .data, .handle, .sentinel, .sentinel], laidTests := true, laidLooks := .later }
def CauseFuelUptoCardSaid : Prop := Claim7.holds Tryd.pinned (.plain (OpenSpec.upto causeFuelSpec)) causeFuelUptoCard

/-- THE SECOND FORM's CARD OF 'spigotlaw09.CauseReverse'. -/
def causeReverseUptoCard : Claim7 := { stood := { row := causeReverseUptoRow, standIns := [], harness := (true, "45ef415d48785b549fdd104a6443234becb287673a1d01ed1063af40c3ae81b6"), looks := true }, kinds := [], alts := [], laidByText := true, laidKinds := [.data, .data, .data, .handle, .sentinel, .sentinel], laidTests := true, laidLooks := .later }
def CauseReverseUptoCardSaid : Prop := Claim7.holds Tryd.pinned (.plain (OpenSpec.upto causeReverseSpec)) causeReverseUptoCard

/-- THE SECOND FORM's CARD OF 'spigotlaw10.GuardApart'. -/
def guardApartUptoCard : Claim7 := { stood := { row := guardApartUptoRow, standIns := [], harness := (true, "45ef415d48785b549fdd104a6443234becb287673a1d01ed1063af40c3ae81b6"), looks := true }, kinds := [], alts := [], laidByText := true, laidKinds := [.data, .data, .data, .handle, .sentinel, .sentinel], laidTests := true, laidLooks := .later }
def GuardApartUptoCardSaid : Prop := Claim7.holds Tryd.pinned (.plain (OpenSpec.upto guardApartSpec)) guardApartUptoCard

/-- THE SECOND FORM's CARD OF 'spigotlaw10.GuardNil'. -/
def guardNilUptoCard : Claim7 := { stood := { row := guardNilUptoRow, standIns := [], harness := (true, "45ef415d48785b549fdd104a6443234becb287673a1d01ed1063af40c3ae81b6"), looks := true }, kinds := [], alts := [], laidByText := true, laidKinds := [.data, .data, .data, .handle, .sentinel, .sentinel], laidTests := true, laidLooks := .later }
def GuardNilUptoCardSaid : Prop := Claim7.holds Tryd.pinned (.plain (OpenSpec.upto guardNilSpec)) guardNilUptoCard

/-- THE SECOND FORM's CARD OF 'spigotlaw10.GuardOrder'. -/
def guardOrderUptoCard : Claim7 := { stood := { row := guardOrderUptoRow, standIns := [], harness := (true, "45ef415d48785b549fdd104a6443234becb287673a1d01ed1063af40c3ae81b6"), looks := true }, kinds := [], alts := [], laidByText := true, laidKinds := [.data, .data, .data, .handle, .sentinel, .sentinel], laidTests := true, laidLooks := .later }
def GuardOrderUptoCardSaid : Prop := Claim7.holds Tryd.pinned (.plain (OpenSpec.upto guardOrderSpec)) guardOrderUptoCard
end Rows
end Go.Proofs.YtifldnkcheobhaaDoor
