/-
  No cell of these rows narrows 'for every input' (looked for: loops, veiled, ifaces, maps, wideKeys, modest, calm, conditions, laid).
  DERIVED. THE GIVEN ROWS OF THIS SEAT. 7 by the template 'for every input the law returns true; each argument reads behind the call as it read before'; 0 by the template 'total and deterministic' (their statements: YtnkecjjfbllgdaaTotals.lean).
  GIVEN WITH THE SEED: the statements are not yours to turn. If you find one false, say at which input.
  Laid BY PROGRAM, IN A SANDBOX (cutbox-rows.mjs): the forced cells as the released guide's own fill.sh prints them over the translation 58e51c93bbe8b7a0… (all of the seat's roots in one cut). By AI agents, Wed Nov 11 2026. No macro, syntax, notation, axiom, sorry.
-/
import Derived.Test.YtnkecjjfbllgdaaChecked
import GoSem.Claim
import GoSem.ClaimJoined
import GoSem.ClaimMapViews
import Derived.JoinedTies
import Derived.KernelRfl
namespace Go.Proofs.Ytnkecjjfbllgdaa
/- THE CELL 'sum', in the pinned program and in every row, IS THE sha256 OF THE DUMP (.gsa) THAT YtnkecjjfbllgdaaProg.lean LOADS. Nothing in Lean hashes anything: it is a label: what it is worth is what the hold of that sum in a sandbox is worth. -/
noncomputable def Try.pinned : Pinned := { name := "ytnkecjjfbllgdaa", sum := "58e51c93bbe8b7a03f3d0e3ca2273183c65bd4b2f173ab5b49937ea33f883c1c", checked := Try.checked }
namespace Rows
def none {H : Type} : Left H := { results := [], args := [] }

/-- 'spigotlaw16.BookChecks': WHATEVER THE INPUT: true; the input reads as it did. -/
def bookChecksSpec : ChangeSpec := { name := "bookChecks", fn := fun _ => fun
  | [d1, d2] => { results := [.lit (.bool true)], args := [d1, d2] }
  | _ => none }
def bookChecksRow : OpenClaim := { program := "ytnkecjjfbllgdaa", sum := "58e51c93bbe8b7a03f3d0e3ca2273183c65bd4b2f173ab5b49937ea33f883c1c", func := "spigot/spigotlaw16.BookChecks", spec := "bookChecks", unfollowed := true, recurses := true, apart := false }
def BookChecksSaid : Prop := bookChecksRow.holds Try.pinned (OpenSpec.ofChange bookChecksSpec)

/-- ITS FALSE NEIGHBOUR: 'it returns false'. Refute it at one input. -/
def bookChecksWrong : ChangeSpec := { name := "bookChecks", fn := fun _ => fun
  | [d1, d2] => { results := [.lit (.bool false)], args := [d1, d2] }
  | _ => none }
def BookChecksWrongFalsely : Prop := bookChecksRow.holds Try.pinned (OpenSpec.ofChange bookChecksWrong)

/-- 'spigotlaw16.BookEvicts': WHATEVER THE INPUT: true; the input reads as it did. -/
def bookEvictsSpec : ChangeSpec := { name := "bookEvicts", fn := fun _ => fun
  | [d] => { results := [.lit (.bool true)], args := [d] }
  | _ => none }
def bookEvictsRow : OpenClaim := { program := "ytnkecjjfbllgdaa", sum := "58e51c93bbe8b7a03f3d0e3ca2273183c65bd4b2f173ab5b49937ea33f883c1c", func := "spigot/spigotlaw16.BookEvicts", spec := "bookEvicts", unfollowed := true, recurses := true, apart := false }
def BookEvictsSaid : Prop := bookEvictsRow.holds Try.pinned (OpenSpec.ofChange bookEvictsSpec)

/-- ITS FALSE NEIGHBOUR: 'it returns false'. Refute it at one input. -/
def bookEvictsWrong : ChangeSpec := { name := "bookEvicts", fn := fun _ => fun
  | [d] => { results := [.lit (.bool false)], args := [d] }
  | _ => none }
def BookEvictsWrongFalsely : Prop := bookEvictsRow.holds Try.pinned (OpenSpec.ofChange bookEvictsWrong)

/-- 'spigotlaw16.BookPermits': WHATEVER THE INPUT: true; the input reads as it did. -/
def bookPermitsSpec : ChangeSpec := { name := "bookPermits", fn := fun _ => fun
  | [d1, d2] => { results := [.lit (.bool true)], args := [d1, d2] }
  | _ => none }
def bookPermitsRow : OpenClaim := { program := "ytnkecjjfbllgdaa", sum := "58e51c93bbe8b7a03f3d0e3ca2273183c65bd4b2f173ab5b49937ea33f883c1c", func := "spigot/spigotlaw16.BookPermits", spec := "bookPermits", unfollowed := true, recurses := true, apart := false }
def BookPermitsSaid : Prop := bookPermitsRow.holds Try.pinned (OpenSpec.ofChange bookPermitsSpec)

/-- ITS FALSE NEIGHBOUR: 'it returns false'. Refute it at one input. -/
def bookPermitsWrong : ChangeSpec := { name := "bookPermits", fn := fun _ => fun
  | [d1, d2] => { results := [.lit (.bool false)], args := [d1, d2] }
  | _ => none }
def BookPermitsWrongFalsely : Prop := bookPermitsRow.holds Try.pinned (OpenSpec.ofChange bookPermitsWrong)

/-- 'spigotlaw16.BookApart': WHATEVER THE INPUT: true; the input reads as it did. -/
def bookApartSpec : ChangeSpec := { name := "bookApart", fn := fun _ => fun
  | [d1, d2] => { results := [.lit (.bool true)], args := [d1, d2] }
  | _ => none }
def bookApartRow : OpenClaim := { program := "ytnkecjjfbllgdaa", sum := "58e51c93bbe8b7a03f3d0e3ca2273183c65bd4b2f173ab5b49937ea33f883c1c", func := "spigot/spigotlaw16.BookApart", spec := "bookApart", unfollowed := true, recurses := true, apart := false }
def BookApartSaid : Prop := bookApartRow.holds Try.pinned (OpenSpec.ofChange bookApartSpec)

/-- ITS FALSE NEIGHBOUR: 'it returns false'. Refute it at one input. -/
def bookApartWrong : ChangeSpec := { name := "bookApart", fn := fun _ => fun
  | [d1, d2] => { results := [.lit (.bool false)], args := [d1, d2] }
  | _ => none }
def BookApartWrongFalsely : Prop := bookApartRow.holds Try.pinned (OpenSpec.ofChange bookApartWrong)

/-- 'spigotlaw16.BookFull': WHATEVER THE INPUT: true; the input reads as it did. -/
def bookFullSpec : ChangeSpec := { name := "bookFull", fn := fun _ => fun
  | [d1, d2] => { results := [.lit (.bool true)], args := [d1, d2] }
  | _ => none }
def bookFullRow : OpenClaim := { program := "ytnkecjjfbllgdaa", sum := "58e51c93bbe8b7a03f3d0e3ca2273183c65bd4b2f173ab5b49937ea33f883c1c", func := "spigot/spigotlaw16.BookFull", spec := "bookFull", unfollowed := true, recurses := true, apart := false }
def BookFullSaid : Prop := bookFullRow.holds Try.pinned (OpenSpec.ofChange bookFullSpec)

/-- ITS FALSE NEIGHBOUR: 'it returns false'. Refute it at one input. -/
def bookFullWrong : ChangeSpec := { name := "bookFull", fn := fun _ => fun
  | [d1, d2] => { results := [.lit (.bool false)], args := [d1, d2] }
  | _ => none }
def BookFullWrongFalsely : Prop := bookFullRow.holds Try.pinned (OpenSpec.ofChange bookFullWrong)

/-- 'spigotlaw16.BookRate': WHATEVER THE INPUT: true; the input reads as it did. -/
def bookRateSpec : ChangeSpec := { name := "bookRate", fn := fun _ => fun
  | [d1, d2, d3, d4] => { results := [.lit (.bool true)], args := [d1, d2, d3, d4] }
  | _ => none }
def bookRateRow : OpenClaim := { program := "ytnkecjjfbllgdaa", sum := "58e51c93bbe8b7a03f3d0e3ca2273183c65bd4b2f173ab5b49937ea33f883c1c", func := "spigot/spigotlaw16.BookRate", spec := "bookRate", unfollowed := true, recurses := true, apart := false }
def BookRateSaid : Prop := bookRateRow.holds Try.pinned (OpenSpec.ofChange bookRateSpec)

/-- ITS FALSE NEIGHBOUR: 'it returns false'. Refute it at one input. -/
def bookRateWrong : ChangeSpec := { name := "bookRate", fn := fun _ => fun
  | [d1, d2, d3, d4] => { results := [.lit (.bool false)], args := [d1, d2, d3, d4] }
  | _ => none }
def BookRateWrongFalsely : Prop := bookRateRow.holds Try.pinned (OpenSpec.ofChange bookRateWrong)

/-- 'spigotlaw16.BookSwaps': WHATEVER THE INPUT: true; the input reads as it did. -/
def bookSwapsSpec : ChangeSpec := { name := "bookSwaps", fn := fun _ => fun
  | [d1, d2, d3] => { results := [.lit (.bool true)], args := [d1, d2, d3] }
  | _ => none }
def bookSwapsRow : OpenClaim := { program := "ytnkecjjfbllgdaa", sum := "58e51c93bbe8b7a03f3d0e3ca2273183c65bd4b2f173ab5b49937ea33f883c1c", func := "spigot/spigotlaw16.BookSwaps", spec := "bookSwaps", unfollowed := true, recurses := true, apart := false }
def BookSwapsSaid : Prop := bookSwapsRow.holds Try.pinned (OpenSpec.ofChange bookSwapsSpec)

/-- ITS FALSE NEIGHBOUR: 'it returns false'. Refute it at one input. -/
def bookSwapsWrong : ChangeSpec := { name := "bookSwaps", fn := fun _ => fun
  | [d1, d2, d3] => { results := [.lit (.bool false)], args := [d1, d2, d3] }
  | _ => none }
def BookSwapsWrongFalsely : Prop := bookSwapsRow.holds Try.pinned (OpenSpec.ofChange bookSwapsWrong)

/- THE SECOND FORM. 'bulk': how many values and letters a reading holds, each counted each time it is reached (what is shared counts as often as it is met; a slice's spare places count too). A statement '..UptoSaid' is the law's where the arguments, and the package variables that the reading takes, are together of bulk at most 1048576: NARROWER than '..Said'. Prove '..Said' where nothing that the law and all that it calls make is longer than what came in: it says more and counts as full. Else prove '..UptoSaid'. A law counts once. -/
mutual
def uptoBulk {H : Type} : DataW H → Nat
  | .lit (.string bytes) => bytes.length + 1
  | .lit _ => 1
  | .nil => 1
  | .ptr d => uptoBulk d + 1
  | .slice elems spare => uptoBulkAll elems + uptoBulkAll spare + 1
  | .agg parts => uptoBulkAll parts + 1
  | .iface _ d => uptoBulk d + 1
  | .map entries => uptoBulkEntries entries + 1
  | .held _ => 1
def uptoBulkAll {H : Type} : List (DataW H) → Nat
  | [] => 0
  | d :: r => uptoBulk d + uptoBulkAll r
def uptoBulkEntries {H : Type} : List (Lit × DataW H) → Nat
  | [] => 0
  | x :: r => uptoBulkEntry x + uptoBulkEntries r
def uptoBulkEntry {H : Type} : Lit × DataW H → Nat
  | (.string bytes, d) => bytes.length + uptoBulk d + 1
  | (_, d) => uptoBulk d + 1
 end
def uptoSmall : (H : Type) → List (DataW H) → Bool := fun _ ds => decide (uptoBulkAll ds ≤ 1048576)
def OpenSpec.upto (s : _root_.Go.ChangeSpec) : _root_.Go.OpenSpec := { _root_.Go.OpenSpec.ofChange s with cond := some uptoSmall }

/-- 'spigotlaw16.BookChecks', WHERE WHAT IT READS IS OF BULK AT MOST 1048576: true; the input reads as it did. -/
def bookChecksUptoRow : OpenClaim := { program := "ytnkecjjfbllgdaa", sum := "58e51c93bbe8b7a03f3d0e3ca2273183c65bd4b2f173ab5b49937ea33f883c1c", func := "spigot/spigotlaw16.BookChecks", spec := "bookChecks", unfollowed := true, recurses := true, apart := false, narrowed := true }
def BookChecksUptoSaid : Prop := bookChecksUptoRow.holds Try.pinned (OpenSpec.upto bookChecksSpec)

/-- 'spigotlaw16.BookEvicts', WHERE WHAT IT READS IS OF BULK AT MOST 1048576: true; the input reads as it did. -/
def bookEvictsUptoRow : OpenClaim := { program := "ytnkecjjfbllgdaa", sum := "58e51c93bbe8b7a03f3d0e3ca2273183c65bd4b2f173ab5b49937ea33f883c1c", func := "spigot/spigotlaw16.BookEvicts", spec := "bookEvicts", unfollowed := true, recurses := true, apart := false, narrowed := true }
def BookEvictsUptoSaid : Prop := bookEvictsUptoRow.holds Try.pinned (OpenSpec.upto bookEvictsSpec)

/-- 'spigotlaw16.BookPermits', WHERE WHAT IT READS IS OF BULK AT MOST 1048576: true; the input reads as it did. -/
def bookPermitsUptoRow : OpenClaim := { program := "ytnkecjjfbllgdaa", sum := "58e51c93bbe8b7a03f3d0e3ca2273183c65bd4b2f173ab5b49937ea33f883c1c", func := "spigot/spigotlaw16.BookPermits", spec := "bookPermits", unfollowed := true, recurses := true, apart := false, narrowed := true }
def BookPermitsUptoSaid : Prop := bookPermitsUptoRow.holds Try.pinned (OpenSpec.upto bookPermitsSpec)

/-- 'spigotlaw16.BookApart', WHERE WHAT IT READS IS OF BULK AT MOST 1048576: true; the input reads as it did. -/
def bookApartUptoRow : OpenClaim := { program := "ytnkecjjfbllgdaa", sum := "58e51c93bbe8b7a03f3d0e3ca2273183c65bd4b2f173ab5b49937ea33f883c1c", func := "spigot/spigotlaw16.BookApart", spec := "bookApart", unfollowed := true, recurses := true, apart := false, narrowed := true }
def BookApartUptoSaid : Prop := bookApartUptoRow.holds Try.pinned (OpenSpec.upto bookApartSpec)

/-- 'spigotlaw16.BookFull', WHERE WHAT IT READS IS OF BULK AT MOST 1048576: true; the input reads as it did. -/
def bookFullUptoRow : OpenClaim := { program := "ytnkecjjfbllgdaa", sum := "58e51c93bbe8b7a03f3d0e3ca2273183c65bd4b2f173ab5b49937ea33f883c1c", func := "spigot/spigotlaw16.BookFull", spec := "bookFull", unfollowed := true, recurses := true, apart := false, narrowed := true }
def BookFullUptoSaid : Prop := bookFullUptoRow.holds Try.pinned (OpenSpec.upto bookFullSpec)

/-- 'spigotlaw16.BookRate', WHERE WHAT IT READS IS OF BULK AT MOST 1048576: true; the input reads as it did. -/
def bookRateUptoRow : OpenClaim := { program := "ytnkecjjfbllgdaa", sum := "58e51c93bbe8b7a03f3d0e3ca2273183c65bd4b2f173ab5b49937ea33f883c1c", func := "spigot/spigotlaw16.BookRate", spec := "bookRate", unfollowed := true, recurses := true, apart := false, narrowed := true }
def BookRateUptoSaid : Prop := bookRateUptoRow.holds Try.pinned (OpenSpec.upto bookRateSpec)

/-- 'spigotlaw16.BookSwaps', WHERE WHAT IT READS IS OF BULK AT MOST 1048576: true; the input reads as it did. -/
def bookSwapsUptoRow : OpenClaim := { program := "ytnkecjjfbllgdaa", sum := "58e51c93bbe8b7a03f3d0e3ca2273183c65bd4b2f173ab5b49937ea33f883c1c", func := "spigot/spigotlaw16.BookSwaps", spec := "bookSwaps", unfollowed := true, recurses := true, apart := false, narrowed := true }
def BookSwapsUptoSaid : Prop := bookSwapsUptoRow.holds Try.pinned (OpenSpec.upto bookSwapsSpec)

end Rows
end Go.Proofs.Ytnkecjjfbllgdaa
