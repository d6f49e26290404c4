/-
  No cell of these rows narrows 'for every input' (looked for: loops, veiled, ifaces, maps, wideKeys, modest, calm, conditions, laid).
  DERIVED. THE GIVEN ROWS OF THIS SEAT. 12 by the template 'for every input the law returns true; each argument reads behind the call as it read before'; 0 by the template 'total and deterministic' (their statements: YtjgnldalmenahaaTotals.lean).
  GIVEN WITH THE SEED: the statements are not yours to turn. If you find one false, say at which input.
  Laid BY PROGRAM, IN A SANDBOX (cutbox-rows.mjs): the forced cells as the released guide's own fill.sh prints them over the translation abfd05ff5ebe45f3… (all of the seat's roots in one cut). By AI agents, Wed Nov 11 2026. No macro, syntax, notation, axiom, sorry.
-/
import Derived.Test.YtjgnldalmenahaaChecked
import GoSem.Claim
import GoSem.ClaimJoined
import GoSem.ClaimMapViews
import Derived.JoinedTies
import Derived.KernelRfl
namespace Go.Proofs.Ytjgnldalmenahaa
/- THE CELL 'sum', in the pinned program and in every row, IS THE sha256 OF THE DUMP (.gsa) THAT YtjgnldalmenahaaProg.lean LOADS. Nothing in Lean hashes anything: it is a label: what it is worth is what the hold of that sum in a sandbox is worth. -/
noncomputable def Try.pinned : Pinned := { name := "ytjgnldalmenahaa", sum := "abfd05ff5ebe45f34ea7433857abda0acf5eabb9dd428dccde7d07ab78137b9d", checked := Try.checked }
namespace Rows
def none {H : Type} : Left H := { results := [], args := [] }

/-- 'spigotlaw01.TickSums': WHATEVER THE INPUT: true; the input reads as it did. -/
def tickSumsSpec : ChangeSpec := { name := "tickSums", fn := fun _ => fun
  | [d1, d2] => { results := [.lit (.bool true)], args := [d1, d2] }
  | _ => none }
def tickSumsRow : OpenClaim := { program := "ytjgnldalmenahaa", sum := "abfd05ff5ebe45f34ea7433857abda0acf5eabb9dd428dccde7d07ab78137b9d", func := "spigot/spigotlaw01.TickSums", spec := "tickSums", apart := false }
def TickSumsSaid : Prop := tickSumsRow.holds Try.pinned (OpenSpec.ofChange tickSumsSpec)

/-- ITS FALSE NEIGHBOUR: 'it returns false'. Refute it at one input. -/
def tickSumsWrong : ChangeSpec := { name := "tickSums", fn := fun _ => fun
  | [d1, d2] => { results := [.lit (.bool false)], args := [d1, d2] }
  | _ => none }
def TickSumsWrongFalsely : Prop := tickSumsRow.holds Try.pinned (OpenSpec.ofChange tickSumsWrong)

/-- 'spigotlaw01.TickQuotients': WHATEVER THE INPUT: true; the input reads as it did. -/
def tickQuotientsSpec : ChangeSpec := { name := "tickQuotients", fn := fun _ => fun
  | [d1, d2] => { results := [.lit (.bool true)], args := [d1, d2] }
  | _ => none }
def tickQuotientsRow : OpenClaim := { program := "ytjgnldalmenahaa", sum := "abfd05ff5ebe45f34ea7433857abda0acf5eabb9dd428dccde7d07ab78137b9d", func := "spigot/spigotlaw01.TickQuotients", spec := "tickQuotients", apart := false }
def TickQuotientsSaid : Prop := tickQuotientsRow.holds Try.pinned (OpenSpec.ofChange tickQuotientsSpec)

/-- ITS FALSE NEIGHBOUR: 'it returns false'. Refute it at one input. -/
def tickQuotientsWrong : ChangeSpec := { name := "tickQuotients", fn := fun _ => fun
  | [d1, d2] => { results := [.lit (.bool false)], args := [d1, d2] }
  | _ => none }
def TickQuotientsWrongFalsely : Prop := tickQuotientsRow.holds Try.pinned (OpenSpec.ofChange tickQuotientsWrong)

/-- 'spigotlaw01.TickClamps': WHATEVER THE INPUT: true; the input reads as it did. -/
def tickClampsSpec : ChangeSpec := { name := "tickClamps", fn := fun _ => fun
  | [d] => { results := [.lit (.bool true)], args := [d] }
  | _ => none }
def tickClampsRow : OpenClaim := { program := "ytjgnldalmenahaa", sum := "abfd05ff5ebe45f34ea7433857abda0acf5eabb9dd428dccde7d07ab78137b9d", func := "spigot/spigotlaw01.TickClamps", spec := "tickClamps", apart := false }
def TickClampsSaid : Prop := tickClampsRow.holds Try.pinned (OpenSpec.ofChange tickClampsSpec)

/-- ITS FALSE NEIGHBOUR: 'it returns false'. Refute it at one input. -/
def tickClampsWrong : ChangeSpec := { name := "tickClamps", fn := fun _ => fun
  | [d] => { results := [.lit (.bool false)], args := [d] }
  | _ => none }
def TickClampsWrongFalsely : Prop := tickClampsRow.holds Try.pinned (OpenSpec.ofChange tickClampsWrong)

/-- 'spigotlaw01.TickLaws': WHATEVER THE INPUT: true; the input reads as it did. -/
def tickLawsSpec : ChangeSpec := { name := "tickLaws", fn := fun _ => fun
  | [d1, d2, d3] => { results := [.lit (.bool true)], args := [d1, d2, d3] }
  | _ => none }
def tickLawsRow : OpenClaim := { program := "ytjgnldalmenahaa", sum := "abfd05ff5ebe45f34ea7433857abda0acf5eabb9dd428dccde7d07ab78137b9d", func := "spigot/spigotlaw01.TickLaws", spec := "tickLaws", apart := false }
def TickLawsSaid : Prop := tickLawsRow.holds Try.pinned (OpenSpec.ofChange tickLawsSpec)

/-- ITS FALSE NEIGHBOUR: 'it returns false'. Refute it at one input. -/
def tickLawsWrong : ChangeSpec := { name := "tickLaws", fn := fun _ => fun
  | [d1, d2, d3] => { results := [.lit (.bool false)], args := [d1, d2, d3] }
  | _ => none }
def TickLawsWrongFalsely : Prop := tickLawsRow.holds Try.pinned (OpenSpec.ofChange tickLawsWrong)

/-- 'spigotlaw01.TickDivides': WHATEVER THE INPUT: true; the input reads as it did. -/
def tickDividesSpec : ChangeSpec := { name := "tickDivides", fn := fun _ => fun
  | [d1, d2] => { results := [.lit (.bool true)], args := [d1, d2] }
  | _ => none }
def tickDividesRow : OpenClaim := { program := "ytjgnldalmenahaa", sum := "abfd05ff5ebe45f34ea7433857abda0acf5eabb9dd428dccde7d07ab78137b9d", func := "spigot/spigotlaw01.TickDivides", spec := "tickDivides", apart := false }
def TickDividesSaid : Prop := tickDividesRow.holds Try.pinned (OpenSpec.ofChange tickDividesSpec)

/-- ITS FALSE NEIGHBOUR: 'it returns false'. Refute it at one input. -/
def tickDividesWrong : ChangeSpec := { name := "tickDivides", fn := fun _ => fun
  | [d1, d2] => { results := [.lit (.bool false)], args := [d1, d2] }
  | _ => none }
def TickDividesWrongFalsely : Prop := tickDividesRow.holds Try.pinned (OpenSpec.ofChange tickDividesWrong)

/-- 'spigotlaw01.TickRises': WHATEVER THE INPUT: true; the input reads as it did. -/
def tickRisesSpec : ChangeSpec := { name := "tickRises", fn := fun _ => fun
  | [d1, d2, d3] => { results := [.lit (.bool true)], args := [d1, d2, d3] }
  | _ => none }
def tickRisesRow : OpenClaim := { program := "ytjgnldalmenahaa", sum := "abfd05ff5ebe45f34ea7433857abda0acf5eabb9dd428dccde7d07ab78137b9d", func := "spigot/spigotlaw01.TickRises", spec := "tickRises", apart := false }
def TickRisesSaid : Prop := tickRisesRow.holds Try.pinned (OpenSpec.ofChange tickRisesSpec)

/-- ITS FALSE NEIGHBOUR: 'it returns false'. Refute it at one input. -/
def tickRisesWrong : ChangeSpec := { name := "tickRises", fn := fun _ => fun
  | [d1, d2, d3] => { results := [.lit (.bool false)], args := [d1, d2, d3] }
  | _ => none }
def TickRisesWrongFalsely : Prop := tickRisesRow.holds Try.pinned (OpenSpec.ofChange tickRisesWrong)

/-- 'spigotlaw02.HashSums': WHATEVER THE INPUT: true; the input reads as it did. -/
def hashSumsSpec : ChangeSpec := { name := "hashSums", fn := fun _ => fun
  | [d1, d2] => { results := [.lit (.bool true)], args := [d1, d2] }
  | _ => none }
def hashSumsRow : OpenClaim := { program := "ytjgnldalmenahaa", sum := "abfd05ff5ebe45f34ea7433857abda0acf5eabb9dd428dccde7d07ab78137b9d", func := "spigot/spigotlaw02.HashSums", spec := "hashSums", inPlace := ["internal/bytealg.Compare"], apart := false }
def HashSumsSaid : Prop := hashSumsRow.holds Try.pinned (OpenSpec.ofChange hashSumsSpec)

/-- ITS FALSE NEIGHBOUR: 'it returns false'. Refute it at one input. -/
def hashSumsWrong : ChangeSpec := { name := "hashSums", fn := fun _ => fun
  | [d1, d2] => { results := [.lit (.bool false)], args := [d1, d2] }
  | _ => none }
def HashSumsWrongFalsely : Prop := hashSumsRow.holds Try.pinned (OpenSpec.ofChange hashSumsWrong)

/-- 'spigotlaw02.HashIdents': WHATEVER THE INPUT: true; the input reads as it did. -/
def hashIdentsSpec : ChangeSpec := { name := "hashIdents", fn := fun _ => fun
  | [d1, d2, d3] => { results := [.lit (.bool true)], args := [d1, d2, d3] }
  | _ => none }
def hashIdentsRow : OpenClaim := { program := "ytjgnldalmenahaa", sum := "abfd05ff5ebe45f34ea7433857abda0acf5eabb9dd428dccde7d07ab78137b9d", func := "spigot/spigotlaw02.HashIdents", spec := "hashIdents", inPlace := ["internal/bytealg.Compare"], apart := false }
def HashIdentsSaid : Prop := hashIdentsRow.holds Try.pinned (OpenSpec.ofChange hashIdentsSpec)

/-- ITS FALSE NEIGHBOUR: 'it returns false'. Refute it at one input. -/
def hashIdentsWrong : ChangeSpec := { name := "hashIdents", fn := fun _ => fun
  | [d1, d2, d3] => { results := [.lit (.bool false)], args := [d1, d2, d3] }
  | _ => none }
def HashIdentsWrongFalsely : Prop := hashIdentsRow.holds Try.pinned (OpenSpec.ofChange hashIdentsWrong)

/-- 'spigotlaw02.HashShards': WHATEVER THE INPUT: true; the input reads as it did. -/
def hashShardsSpec : ChangeSpec := { name := "hashShards", fn := fun _ => fun
  | [d1, d2] => { results := [.lit (.bool true)], args := [d1, d2] }
  | _ => none }
def hashShardsRow : OpenClaim := { program := "ytjgnldalmenahaa", sum := "abfd05ff5ebe45f34ea7433857abda0acf5eabb9dd428dccde7d07ab78137b9d", func := "spigot/spigotlaw02.HashShards", spec := "hashShards", inPlace := ["internal/bytealg.Compare"], apart := false }
def HashShardsSaid : Prop := hashShardsRow.holds Try.pinned (OpenSpec.ofChange hashShardsSpec)

/-- ITS FALSE NEIGHBOUR: 'it returns false'. Refute it at one input. -/
def hashShardsWrong : ChangeSpec := { name := "hashShards", fn := fun _ => fun
  | [d1, d2] => { results := [.lit (.bool false)], args := [d1, d2] }
  | _ => none }
def HashShardsWrongFalsely : Prop := hashShardsRow.holds Try.pinned (OpenSpec.ofChange hashShardsWrong)

/-- 'spigotlaw02.HashOrders': WHATEVER THE INPUT: true; the input reads as it did. -/
def hashOrdersSpec : ChangeSpec := { name := "hashOrders", fn := fun _ => fun
  | [d1, d2, d3] => { results := [.lit (.bool true)], args := [d1, d2, d3] }
  | _ => none }
def hashOrdersRow : OpenClaim := { program := "ytjgnldalmenahaa", sum := "abfd05ff5ebe45f34ea7433857abda0acf5eabb9dd428dccde7d07ab78137b9d", func := "spigot/spigotlaw02.HashOrders", spec := "hashOrders", inPlace := ["internal/bytealg.Compare"], apart := false }
def HashOrdersSaid : Prop := hashOrdersRow.holds Try.pinned (OpenSpec.ofChange hashOrdersSpec)

/-- ITS FALSE NEIGHBOUR: 'it returns false'. Refute it at one input. -/
def hashOrdersWrong : ChangeSpec := { name := "hashOrders", fn := fun _ => fun
  | [d1, d2, d3] => { results := [.lit (.bool false)], args := [d1, d2, d3] }
  | _ => none }
def HashOrdersWrongFalsely : Prop := hashOrdersRow.holds Try.pinned (OpenSpec.ofChange hashOrdersWrong)

/-- 'spigotlaw02.HashPieces': WHATEVER THE INPUT: true; the input reads as it did. -/
def hashPiecesSpec : ChangeSpec := { name := "hashPieces", fn := fun _ => fun
  | [d1, d2, d3] => { results := [.lit (.bool true)], args := [d1, d2, d3] }
  | _ => none }
def hashPiecesRow : OpenClaim := { program := "ytjgnldalmenahaa", sum := "abfd05ff5ebe45f34ea7433857abda0acf5eabb9dd428dccde7d07ab78137b9d", func := "spigot/spigotlaw02.HashPieces", spec := "hashPieces", inPlace := ["internal/bytealg.Compare"], apart := false }
def HashPiecesSaid : Prop := hashPiecesRow.holds Try.pinned (OpenSpec.ofChange hashPiecesSpec)

/-- ITS FALSE NEIGHBOUR: 'it returns false'. Refute it at one input. -/
def hashPiecesWrong : ChangeSpec := { name := "hashPieces", fn := fun _ => fun
  | [d1, d2, d3] => { results := [.lit (.bool false)], args := [d1, d2, d3] }
  | _ => none }
def HashPiecesWrongFalsely : Prop := hashPiecesRow.holds Try.pinned (OpenSpec.ofChange hashPiecesWrong)

/-- 'spigotlaw02.HashHalves': WHATEVER THE INPUT: true; the input reads as it did. -/
def hashHalvesSpec : ChangeSpec := { name := "hashHalves", fn := fun _ => fun
  | [d] => { results := [.lit (.bool true)], args := [d] }
  | _ => none }
def hashHalvesRow : OpenClaim := { program := "ytjgnldalmenahaa", sum := "abfd05ff5ebe45f34ea7433857abda0acf5eabb9dd428dccde7d07ab78137b9d", func := "spigot/spigotlaw02.HashHalves", spec := "hashHalves", inPlace := ["internal/bytealg.Compare"], apart := false }
def HashHalvesSaid : Prop := hashHalvesRow.holds Try.pinned (OpenSpec.ofChange hashHalvesSpec)

/-- ITS FALSE NEIGHBOUR: 'it returns false'. Refute it at one input. -/
def hashHalvesWrong : ChangeSpec := { name := "hashHalves", fn := fun _ => fun
  | [d] => { results := [.lit (.bool false)], args := [d] }
  | _ => none }
def HashHalvesWrongFalsely : Prop := hashHalvesRow.holds Try.pinned (OpenSpec.ofChange hashHalvesWrong)

/- THE SECOND FORM. 'bulk': how many values and letters a reading holds, each counted each time it is reached (what is shared counts as often as it is met; a slice's spare places count too). A statement '..UptoSaid' is the law's where the arguments, and the package variables that the reading takes, are together of bulk at most 1048576: NARROWER than '..Said'. Prove '..Said' where nothing that the law and all that it calls make is longer than what came in: it says more and counts as full. Else prove '..UptoSaid'. A law counts once. -/
mutual
def uptoBulk {H : Type} : DataW H → Nat
  | .lit (.string bytes) => bytes.length + 1
  | .lit _ => 1
  | .nil => 1
  | .ptr d => uptoBulk d + 1
  | .slice elems spare => uptoBulkAll elems + uptoBulkAll spare + 1
  | .agg parts => uptoBulkAll parts + 1
  | .iface _ d => uptoBulk d + 1
  | .map entries => uptoBulkEntries entries + 1
  | .held _ => 1
def uptoBulkAll {H : Type} : List (DataW H) → Nat
  | [] => 0
  | d :: r => uptoBulk d + uptoBulkAll r
def uptoBulkEntries {H : Type} : List (Lit × DataW H) → Nat
  | [] => 0
  | x :: r => uptoBulkEntry x + uptoBulkEntries r
def uptoBulkEntry {H : Type} : Lit × DataW H → Nat
  | (.string bytes, d) => bytes.length + uptoBulk d + 1
  | (_, d) => uptoBulk d + 1
 end
def uptoSmall : (H : Type) → List (DataW H) → Bool := fun _ ds => decide (uptoBulkAll ds ≤ 1048576)
def OpenSpec.upto (s : _root_.Go.ChangeSpec) : _root_.Go.OpenSpec := { _root_.Go.OpenSpec.ofChange s with cond := some uptoSmall }

/-- 'spigotlaw01.TickSums', WHERE WHAT IT READS IS OF BULK AT MOST 1048576: true; the input reads as it did. -/
def tickSumsUptoRow : OpenClaim := { program := "ytjgnldalmenahaa", sum := "abfd05ff5ebe45f34ea7433857abda0acf5eabb9dd428dccde7d07ab78137b9d", func := "spigot/spigotlaw01.TickSums", spec := "tickSums", apart := false, narrowed := true }
def TickSumsUptoSaid : Prop := tickSumsUptoRow.holds Try.pinned (OpenSpec.upto tickSumsSpec)

/-- 'spigotlaw01.TickQuotients', WHERE WHAT IT READS IS OF BULK AT MOST 1048576: true; the input reads as it did. -/
def tickQuotientsUptoRow : OpenClaim := { program := "ytjgnldalmenahaa", sum := "abfd05ff5ebe45f34ea7433857abda0acf5eabb9dd428dccde7d07ab78137b9d", func := "spigot/spigotlaw01.TickQuotients", spec := "tickQuotients", apart := false, narrowed := true }
def TickQuotientsUptoSaid : Prop := tickQuotientsUptoRow.holds Try.pinned (OpenSpec.upto tickQuotientsSpec)

/-- 'spigotlaw01.TickClamps', WHERE WHAT IT READS IS OF BULK AT MOST 1048576: true; the input reads as it did. -/
def tickClampsUptoRow : OpenClaim := { program := "ytjgnldalmenahaa", sum := "abfd05ff5ebe45f34ea7433857abda0acf5eabb9dd428dccde7d07ab78137b9d", func := "spigot/spigotlaw01.TickClamps", spec := "tickClamps", apart := false, narrowed := true }
def TickClampsUptoSaid : Prop := tickClampsUptoRow.holds Try.pinned (OpenSpec.upto tickClampsSpec)

/-- 'spigotlaw01.TickLaws', WHERE WHAT IT READS IS OF BULK AT MOST 1048576: true; the input reads as it did. -/
def tickLawsUptoRow : OpenClaim := { program := "ytjgnldalmenahaa", sum := "abfd05ff5ebe45f34ea7433857abda0acf5eabb9dd428dccde7d07ab78137b9d", func := "spigot/spigotlaw01.TickLaws", spec := "tickLaws", apart := false, narrowed := true }
def TickLawsUptoSaid : Prop := tickLawsUptoRow.holds Try.pinned (OpenSpec.upto tickLawsSpec)

/-- 'spigotlaw01.TickDivides', WHERE WHAT IT READS IS OF BULK AT MOST 1048576: true; the input reads as it did. -/
def tickDividesUptoRow : OpenClaim := { program := "ytjgnldalmenahaa", sum := "abfd05ff5ebe45f34ea7433857abda0acf5eabb9dd428dccde7d07ab78137b9d", func := "spigot/spigotlaw01.TickDivides", spec := "tickDivides", apart := false, narrowed := true }
def TickDividesUptoSaid : Prop := tickDividesUptoRow.holds Try.pinned (OpenSpec.upto tickDividesSpec)

/-- 'spigotlaw01.TickRises', WHERE WHAT IT READS IS OF BULK AT MOST 1048576: true; the input reads as it did. -/
def tickRisesUptoRow : OpenClaim := { program := "ytjgnldalmenahaa", sum := "abfd05ff5ebe45f34ea7433857abda0acf5eabb9dd428dccde7d07ab78137b9d", func := "spigot/spigotlaw01.TickRises", spec := "tickRises", apart := false, narrowed := true }
def TickRisesUptoSaid : Prop := tickRisesUptoRow.holds Try.pinned (OpenSpec.upto tickRisesSpec)

/-- 'spigotlaw02.HashSums', WHERE WHAT IT READS IS OF BULK AT MOST 1048576: true; the input reads as it did. -/
def hashSumsUptoRow : OpenClaim := { program := "ytjgnldalmenahaa", sum := "abfd05ff5ebe45f34ea7433857abda0acf5eabb9dd428dccde7d07ab78137b9d", func := "spigot/spigotlaw02.HashSums", spec := "hashSums", inPlace := ["internal/bytealg.Compare"], apart := false, narrowed := true }
def HashSumsUptoSaid : Prop := hashSumsUptoRow.holds Try.pinned (OpenSpec.upto hashSumsSpec)

/-- 'spigotlaw02.HashIdents', WHERE WHAT IT READS IS OF BULK AT MOST 1048576: true; the input reads as it did. -/
def hashIdentsUptoRow : OpenClaim := { program := "ytjgnldalmenahaa", sum := "abfd05ff5ebe45f34ea7433857abda0acf5eabb9dd428dccde7d07ab78137b9d", func := "spigot/spigotlaw02.HashIdents", spec := "hashIdents", inPlace := ["internal/bytealg.Compare"], apart := false, narrowed := true }
def HashIdentsUptoSaid : Prop := hashIdentsUptoRow.holds Try.pinned (OpenSpec.upto hashIdentsSpec)

/-- 'spigotlaw02.HashShards', WHERE WHAT IT READS IS OF BULK AT MOST 1048576: true; the input reads as it did. -/
def hashShardsUptoRow : OpenClaim := { program := "ytjgnldalmenahaa", sum := "abfd05ff5ebe45f34ea7433857abda0acf5eabb9dd428dccde7d07ab78137b9d", func := "spigot/spigotlaw02.HashShards", spec := "hashShards", inPlace := ["internal/bytealg.Compare"], apart := false, narrowed := true }
def HashShardsUptoSaid : Prop := hashShardsUptoRow.holds Try.pinned (OpenSpec.upto hashShardsSpec)

/-- 'spigotlaw02.HashOrders', WHERE WHAT IT READS IS OF BULK AT MOST 1048576: true; the input reads as it did. -/
def hashOrdersUptoRow : OpenClaim := { program := "ytjgnldalmenahaa", sum := "abfd05ff5ebe45f34ea7433857abda0acf5eabb9dd428dccde7d07ab78137b9d", func := "spigot/spigotlaw02.HashOrders", spec := "hashOrders", inPlace := ["internal/bytealg.Compare"], apart := false, narrowed := true }
def HashOrdersUptoSaid : Prop := hashOrdersUptoRow.holds Try.pinned (OpenSpec.upto hashOrdersSpec)

/-- 'spigotlaw02.HashPieces', WHERE WHAT IT READS IS OF BULK AT MOST 1048576: true; the input reads as it did. -/
def hashPiecesUptoRow : OpenClaim := { program := "ytjgnldalmenahaa", sum := "abfd05ff5ebe45f34ea7433857abda0acf5eabb9dd428dccde7d07ab78137b9d", func := "spigot/spigotlaw02.HashPieces", spec := "hashPieces", inPlace := ["internal/bytealg.Compare"], apart := false, narrowed := true }
def HashPiecesUptoSaid : Prop := hashPiecesUptoRow.holds Try.pinned (OpenSpec.upto hashPiecesSpec)

/-- 'spigotlaw02.HashHalves', WHERE WHAT IT READS IS OF BULK AT MOST 1048576: true; the input reads as it did. -/
def hashHalvesUptoRow : OpenClaim := { program := "ytjgnldalmenahaa", sum := "abfd05ff5ebe45f34ea7433857abda0acf5eabb9dd428dccde7d07ab78137b9d", func := "spigot/spigotlaw02.HashHalves", spec := "hashHalves", inPlace := ["internal/bytealg.Compare"], apart := false, narrowed := true }
def HashHalvesUptoSaid : Prop := hashHalvesUptoRow.holds Try.pinned (OpenSpec.upto hashHalvesSpec)

end Rows
end Go.Proofs.Ytjgnldalmenahaa
