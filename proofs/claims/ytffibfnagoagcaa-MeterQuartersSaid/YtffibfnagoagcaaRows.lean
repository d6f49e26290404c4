/-
  No cell of these rows narrows 'for every input' (looked for: loops, veiled, ifaces, maps, wideKeys, modest, calm, conditions, laid).
  DERIVED. THE GIVEN ROWS OF THIS SEAT. 8 by the template 'for every input the law returns true; each argument reads behind the call as it read before'; 0 by the template 'total and deterministic' (their statements: YtffibfnagoagcaaTotals.lean).
  GIVEN WITH THE SEED: the statements are not yours to turn. If you find one false, say at which input.
  Laid BY PROGRAM, IN A SANDBOX (cutbox-rows.mjs): the forced cells as the released guide's own fill.sh prints them over the translation 2f7abe34c836e3c5… (all of the seat's roots in one cut). By AI agents, Wed Nov 11 2026. No macro, syntax, notation, axiom, sorry.
-/
import Derived.Test.YtffibfnagoagcaaChecked
import GoSem.Claim
import GoSem.ClaimJoined
import GoSem.ClaimMapViews
import Derived.JoinedTies
import Derived.KernelRfl
namespace Go.Proofs.Ytffibfnagoagcaa
/- THE CELL 'sum', in the pinned program and in every row, IS THE sha256 OF THE DUMP (.gsa) THAT YtffibfnagoagcaaProg.lean LOADS. Nothing in Lean hashes anything: it is a label: what it is worth is what the hold of that sum in a sandbox is worth. -/
noncomputable def Try.pinned : Pinned := { name := "ytffibfnagoagcaa", sum := "2f7abe34c836e3c54d097cc1acb1bfddbc1065b128a8894d0484f6b52255c02b", checked := Try.checked }
namespace Rows
def none {H : Type} : Left H := { results := [], args := [] }

/-- 'spigotlaw08.MeterAdds': WHATEVER THE INPUT: true; the input reads as it did. -/
def meterAddsSpec : ChangeSpec := { name := "meterAdds", fn := fun _ => fun
  | [d1, d2] => { results := [.lit (.bool true)], args := [d1, d2] }
  | _ => none }
def meterAddsRow : OpenClaim := { program := "ytffibfnagoagcaa", sum := "2f7abe34c836e3c54d097cc1acb1bfddbc1065b128a8894d0484f6b52255c02b", func := "spigot/spigotlaw08.MeterAdds", spec := "meterAdds", inPlace := ["math.Float64bits", "math.Float64frombits"], unfollowed := true, recurses := true, apart := false }
def MeterAddsSaid : Prop := meterAddsRow.holds Try.pinned (OpenSpec.ofChange meterAddsSpec)

/-- ITS FALSE NEIGHBOUR: 'it returns false'. Refute it at one input. -/
def meterAddsWrong : ChangeSpec := { name := "meterAdds", fn := fun _ => fun
  | [d1, d2] => { results := [.lit (.bool false)], args := [d1, d2] }
  | _ => none }
def MeterAddsWrongFalsely : Prop := meterAddsRow.holds Try.pinned (OpenSpec.ofChange meterAddsWrong)

/-- 'spigotlaw08.MeterOfs': WHATEVER THE INPUT: true; the input reads as it did. -/
def meterOfsSpec : ChangeSpec := { name := "meterOfs", fn := fun _ => fun
  | [d] => { results := [.lit (.bool true)], args := [d] }
  | _ => none }
def meterOfsRow : OpenClaim := { program := "ytffibfnagoagcaa", sum := "2f7abe34c836e3c54d097cc1acb1bfddbc1065b128a8894d0484f6b52255c02b", func := "spigot/spigotlaw08.MeterOfs", spec := "meterOfs", inPlace := ["math.Float64bits", "math.Float64frombits"], unfollowed := true, recurses := true, apart := false }
def MeterOfsSaid : Prop := meterOfsRow.holds Try.pinned (OpenSpec.ofChange meterOfsSpec)

/-- ITS FALSE NEIGHBOUR: 'it returns false'. Refute it at one input. -/
def meterOfsWrong : ChangeSpec := { name := "meterOfs", fn := fun _ => fun
  | [d] => { results := [.lit (.bool false)], args := [d] }
  | _ => none }
def MeterOfsWrongFalsely : Prop := meterOfsRow.holds Try.pinned (OpenSpec.ofChange meterOfsWrong)

/-- 'spigotlaw08.MeterMerges': WHATEVER THE INPUT: true; the input reads as it did. -/
def meterMergesSpec : ChangeSpec := { name := "meterMerges", fn := fun _ => fun
  | [d1, d2] => { results := [.lit (.bool true)], args := [d1, d2] }
  | _ => none }
def meterMergesRow : OpenClaim := { program := "ytffibfnagoagcaa", sum := "2f7abe34c836e3c54d097cc1acb1bfddbc1065b128a8894d0484f6b52255c02b", func := "spigot/spigotlaw08.MeterMerges", spec := "meterMerges", inPlace := ["math.Float64frombits", "math.Float64bits"], unfollowed := true, recurses := true, apart := false }
def MeterMergesSaid : Prop := meterMergesRow.holds Try.pinned (OpenSpec.ofChange meterMergesSpec)

/-- ITS FALSE NEIGHBOUR: 'it returns false'. Refute it at one input. -/
def meterMergesWrong : ChangeSpec := { name := "meterMerges", fn := fun _ => fun
  | [d1, d2] => { results := [.lit (.bool false)], args := [d1, d2] }
  | _ => none }
def MeterMergesWrongFalsely : Prop := meterMergesRow.holds Try.pinned (OpenSpec.ofChange meterMergesWrong)

/-- 'spigotlaw08.MeterSmooths': WHATEVER THE INPUT: true; the input reads as it did. -/
def meterSmoothsSpec : ChangeSpec := { name := "meterSmooths", fn := fun _ => fun
  | [d1, d2, d3] => { results := [.lit (.bool true)], args := [d1, d2, d3] }
  | _ => none }
def meterSmoothsRow : OpenClaim := { program := "ytffibfnagoagcaa", sum := "2f7abe34c836e3c54d097cc1acb1bfddbc1065b128a8894d0484f6b52255c02b", func := "spigot/spigotlaw08.MeterSmooths", spec := "meterSmooths", inPlace := ["math.Float64frombits", "math.Float64bits"], unfollowed := true, recurses := true, apart := false }
def MeterSmoothsSaid : Prop := meterSmoothsRow.holds Try.pinned (OpenSpec.ofChange meterSmoothsSpec)

/-- ITS FALSE NEIGHBOUR: 'it returns false'. Refute it at one input. -/
def meterSmoothsWrong : ChangeSpec := { name := "meterSmooths", fn := fun _ => fun
  | [d1, d2, d3] => { results := [.lit (.bool false)], args := [d1, d2, d3] }
  | _ => none }
def MeterSmoothsWrongFalsely : Prop := meterSmoothsRow.holds Try.pinned (OpenSpec.ofChange meterSmoothsWrong)

/-- 'spigotlaw08.MeterQuantiles': WHATEVER THE INPUT: true; the input reads as it did. -/
def meterQuantilesSpec : ChangeSpec := { name := "meterQuantiles", fn := fun _ => fun
  | [d1, d2] => { results := [.lit (.bool true)], args := [d1, d2] }
  | _ => none }
def meterQuantilesRow : OpenClaim := { program := "ytffibfnagoagcaa", sum := "2f7abe34c836e3c54d097cc1acb1bfddbc1065b128a8894d0484f6b52255c02b", func := "spigot/spigotlaw08.MeterQuantiles", spec := "meterQuantiles", inPlace := ["math.Float64bits", "math.Float64frombits"], unfollowed := true, recurses := true, apart := false }
def MeterQuantilesSaid : Prop := meterQuantilesRow.holds Try.pinned (OpenSpec.ofChange meterQuantilesSpec)

/-- ITS FALSE NEIGHBOUR: 'it returns false'. Refute it at one input. -/
def meterQuantilesWrong : ChangeSpec := { name := "meterQuantiles", fn := fun _ => fun
  | [d1, d2] => { results := [.lit (.bool false)], args := [d1, d2] }
  | _ => none }
def MeterQuantilesWrongFalsely : Prop := meterQuantilesRow.holds Try.pinned (OpenSpec.ofChange meterQuantilesWrong)

/-- 'spigotlaw08.MeterWhole': WHATEVER THE INPUT: true; the input reads as it did. -/
def meterWholeSpec : ChangeSpec := { name := "meterWhole", fn := fun _ => fun
  | [d1, d2, d3] => { results := [.lit (.bool true)], args := [d1, d2, d3] }
  | _ => none }
def meterWholeRow : OpenClaim := { program := "ytffibfnagoagcaa", sum := "2f7abe34c836e3c54d097cc1acb1bfddbc1065b128a8894d0484f6b52255c02b", func := "spigot/spigotlaw08.MeterWhole", spec := "meterWhole", inPlace := ["math.Float64bits", "math.Float64frombits"], unfollowed := true, recurses := true, apart := false }
def MeterWholeSaid : Prop := meterWholeRow.holds Try.pinned (OpenSpec.ofChange meterWholeSpec)

/-- ITS FALSE NEIGHBOUR: 'it returns false'. Refute it at one input. -/
def meterWholeWrong : ChangeSpec := { name := "meterWhole", fn := fun _ => fun
  | [d1, d2, d3] => { results := [.lit (.bool false)], args := [d1, d2, d3] }
  | _ => none }
def MeterWholeWrongFalsely : Prop := meterWholeRow.holds Try.pinned (OpenSpec.ofChange meterWholeWrong)

/-- 'spigotlaw08.MeterQuarters': WHATEVER THE INPUT: true; the input reads as it did. -/
def meterQuartersSpec : ChangeSpec := { name := "meterQuarters", fn := fun _ => fun
  | [d1, d2, d3, d4, d5] => { results := [.lit (.bool true)], args := [d1, d2, d3, d4, d5] }
  | _ => none }
def meterQuartersRow : OpenClaim := { program := "ytffibfnagoagcaa", sum := "2f7abe34c836e3c54d097cc1acb1bfddbc1065b128a8894d0484f6b52255c02b", func := "spigot/spigotlaw08.MeterQuarters", spec := "meterQuarters", inPlace := ["math.Float64bits", "math.Float64frombits"], unfollowed := true, recurses := true, apart := false }
def MeterQuartersSaid : Prop := meterQuartersRow.holds Try.pinned (OpenSpec.ofChange meterQuartersSpec)

/-- ITS FALSE NEIGHBOUR: 'it returns false'. Refute it at one input. -/
def meterQuartersWrong : ChangeSpec := { name := "meterQuarters", fn := fun _ => fun
  | [d1, d2, d3, d4, d5] => { results := [.lit (.bool false)], args := [d1, d2, d3, d4, d5] }
  | _ => none }
def MeterQuartersWrongFalsely : Prop := meterQuartersRow.holds Try.pinned (OpenSpec.ofChange meterQuartersWrong)

/-- 'spigotlaw08.MeterBad': WHATEVER THE INPUT: true; the input reads as it did. -/
def meterBadSpec : ChangeSpec := { name := "meterBad", fn := fun _ => fun
  | [d1, d2] => { results := [.lit (.bool true)], args := [d1, d2] }
  | _ => none }
def meterBadRow : OpenClaim := { program := "ytffibfnagoagcaa", sum := "2f7abe34c836e3c54d097cc1acb1bfddbc1065b128a8894d0484f6b52255c02b", func := "spigot/spigotlaw08.MeterBad", spec := "meterBad", inPlace := ["math.Float64bits", "math.Float64frombits"], unfollowed := true, recurses := true, apart := false }
def MeterBadSaid : Prop := meterBadRow.holds Try.pinned (OpenSpec.ofChange meterBadSpec)

/-- ITS FALSE NEIGHBOUR: 'it returns false'. Refute it at one input. -/
def meterBadWrong : ChangeSpec := { name := "meterBad", fn := fun _ => fun
  | [d1, d2] => { results := [.lit (.bool false)], args := [d1, d2] }
  | _ => none }
def MeterBadWrongFalsely : Prop := meterBadRow.holds Try.pinned (OpenSpec.ofChange meterBadWrong)

/- THE SECOND FORM. 'bulk': how many values and letters a reading holds, each counted each time it is reached (what is shared counts as often as it is met; a slice's spare places count too). A statement '..UptoSaid' is the law's where the arguments, and the package variables that the reading takes, are together of bulk at most 1048576: NARROWER than '..Said'. Prove '..Said' where nothing that the law and all that it calls make is longer than what came in: it says more and counts as full. Else prove '..UptoSaid'. A law counts once. -/
mutual
def uptoBulk {H : Type} : DataW H → Nat
  | .lit (.string bytes) => bytes.length + 1
  | .lit _ => 1
  | .nil => 1
  | .ptr d => uptoBulk d + 1
  | .slice elems spare => uptoBulkAll elems + uptoBulkAll spare + 1
  | .agg parts => uptoBulkAll parts + 1
  | .iface _ d => uptoBulk d + 1
  | .map entries => uptoBulkEntries entries + 1
  | .held _ => 1
def uptoBulkAll {H : Type} : List (DataW H) → Nat
  | [] => 0
  | d :: r => uptoBulk d + uptoBulkAll r
def uptoBulkEntries {H : Type} : List (Lit × DataW H) → Nat
  | [] => 0
  | x :: r => uptoBulkEntry x + uptoBulkEntries r
def uptoBulkEntry {H : Type} : Lit × DataW H → Nat
  | (.string bytes, d) => bytes.length + uptoBulk d + 1
  | (_, d) => uptoBulk d + 1
 end
def uptoSmall : (H : Type) → List (DataW H) → Bool := fun _ ds => decide (uptoBulkAll ds ≤ 1048576)
def OpenSpec.upto (s : _root_.Go.ChangeSpec) : _root_.Go.OpenSpec := { _root_.Go.OpenSpec.ofChange s with cond := some uptoSmall }

/-- 'spigotlaw08.MeterAdds', WHERE WHAT IT READS IS OF BULK AT MOST 1048576: true; the input reads as it did. -/
def meterAddsUptoRow : OpenClaim := { program := "ytffibfnagoagcaa", sum := "2f7abe34c836e3c54d097cc1acb1bfddbc1065b128a8894d0484f6b52255c02b", func := "spigot/spigotlaw08.MeterAdds", spec := "meterAdds", inPlace := ["math.Float64bits", "math.Float64frombits"], unfollowed := true, recurses := true, apart := false, narrowed := true }
def MeterAddsUptoSaid : Prop := meterAddsUptoRow.holds Try.pinned (OpenSpec.upto meterAddsSpec)

/-- 'spigotlaw08.MeterOfs', WHERE WHAT IT READS IS OF BULK AT MOST 1048576: true; the input reads as it did. -/
def meterOfsUptoRow : OpenClaim := { program := "ytffibfnagoagcaa", sum := "2f7abe34c836e3c54d097cc1acb1bfddbc1065b128a8894d0484f6b52255c02b", func := "spigot/spigotlaw08.MeterOfs", spec := "meterOfs", inPlace := ["math.Float64bits", "math.Float64frombits"], unfollowed := true, recurses := true, apart := false, narrowed := true }
def MeterOfsUptoSaid : Prop := meterOfsUptoRow.holds Try.pinned (OpenSpec.upto meterOfsSpec)

/-- 'spigotlaw08.MeterMerges', WHERE WHAT IT READS IS OF BULK AT MOST 1048576: true; the input reads as it did. -/
def meterMergesUptoRow : OpenClaim := { program := "ytffibfnagoagcaa", sum := "2f7abe34c836e3c54d097cc1acb1bfddbc1065b128a8894d0484f6b52255c02b", func := "spigot/spigotlaw08.MeterMerges", spec := "meterMerges", inPlace := ["math.Float64frombits", "math.Float64bits"], unfollowed := true, recurses := true, apart := false, narrowed := true }
def MeterMergesUptoSaid : Prop := meterMergesUptoRow.holds Try.pinned (OpenSpec.upto meterMergesSpec)

/-- 'spigotlaw08.MeterSmooths', WHERE WHAT IT READS IS OF BULK AT MOST 1048576: true; the input reads as it did. -/
def meterSmoothsUptoRow : OpenClaim := { program := "ytffibfnagoagcaa", sum := "2f7abe34c836e3c54d097cc1acb1bfddbc1065b128a8894d0484f6b52255c02b", func := "spigot/spigotlaw08.MeterSmooths", spec := "meterSmooths", inPlace := ["math.Float64frombits", "math.Float64bits"], unfollowed := true, recurses := true, apart := false, narrowed := true }
def MeterSmoothsUptoSaid : Prop := meterSmoothsUptoRow.holds Try.pinned (OpenSpec.upto meterSmoothsSpec)

/-- 'spigotlaw08.MeterQuantiles', WHERE WHAT IT READS IS OF BULK AT MOST 1048576: true; the input reads as it did. -/
def meterQuantilesUptoRow : OpenClaim := { program := "ytffibfnagoagcaa", sum := "2f7abe34c836e3c54d097cc1acb1bfddbc1065b128a8894d0484f6b52255c02b", func := "spigot/spigotlaw08.MeterQuantiles", spec := "meterQuantiles", inPlace := ["math.Float64bits", "math.Float64frombits"], unfollowed := true, recurses := true, apart := false, narrowed := true }
def MeterQuantilesUptoSaid : Prop := meterQuantilesUptoRow.holds Try.pinned (OpenSpec.upto meterQuantilesSpec)

/-- 'spigotlaw08.MeterWhole', WHERE WHAT IT READS IS OF BULK AT MOST 1048576: true; the input reads as it did. -/
def meterWholeUptoRow : OpenClaim := { program := "ytffibfnagoagcaa", sum := "2f7abe34c836e3c54d097cc1acb1bfddbc1065b128a8894d0484f6b52255c02b", func := "spigot/spigotlaw08.MeterWhole", spec := "meterWhole", inPlace := ["math.Float64bits", "math.Float64frombits"], unfollowed := true, recurses := true, apart := false, narrowed := true }
def MeterWholeUptoSaid : Prop := meterWholeUptoRow.holds Try.pinned (OpenSpec.upto meterWholeSpec)

/-- 'spigotlaw08.MeterQuarters', WHERE WHAT IT READS IS OF BULK AT MOST 1048576: true; the input reads as it did. -/
def meterQuartersUptoRow : OpenClaim := { program := "ytffibfnagoagcaa", sum := "2f7abe34c836e3c54d097cc1acb1bfddbc1065b128a8894d0484f6b52255c02b", func := "spigot/spigotlaw08.MeterQuarters", spec := "meterQuarters", inPlace := ["math.Float64bits", "math.Float64frombits"], unfollowed := true, recurses := true, apart := false, narrowed := true }
def MeterQuartersUptoSaid : Prop := meterQuartersUptoRow.holds Try.pinned (OpenSpec.upto meterQuartersSpec)

/-- 'spigotlaw08.MeterBad', WHERE WHAT IT READS IS OF BULK AT MOST 1048576: true; the input reads as it did. -/
def meterBadUptoRow : OpenClaim := { program := "ytffibfnagoagcaa", sum := "2f7abe34c836e3c54d097cc1acb1bfddbc1065b128a8894d0484f6b52255c02b", func := "spigot/spigotlaw08.MeterBad", spec := "meterBad", inPlace := ["math.Float64bits", "math.Float64frombits"], unfollowed := true, recurses := true, apart := false, narrowed := true }
def MeterBadUptoSaid : Prop := meterBadUptoRow.holds Try.pinned (OpenSpec.upto meterBadSpec)

end Rows
end Go.Proofs.Ytffibfnagoagcaa
