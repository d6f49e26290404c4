/-
  No cell of these rows narrows 'for every input' (looked for: loops, veiled, ifaces, maps, wideKeys, modest, calm, conditions, laid).
  DERIVED. THE GIVEN ROWS OF THIS SEAT. 16 by the template 'for every input the law returns true; each argument reads behind the call as it read before'; 0 by the template 'total and deterministic' (their statements: YtndgladfcogiiaaTotals.lean).
  GIVEN WITH THE SEED: the statements are not yours to turn. If you find one false, say at which input.
  Laid BY PROGRAM, IN A SANDBOX (cutbox-rows.mjs): the forced cells as the released guide's own fill.sh prints them over the translation fc3967f42fd283c7… (all of the seat's roots in one cut). By AI agents, Wed Nov 11 2026. No macro, syntax, notation, axiom, sorry.
-/
import Derived.Test.YtndgladfcogiiaaChecked
import GoSem.Claim
import GoSem.ClaimJoined
import GoSem.ClaimMapViews
import Derived.JoinedTies
import Derived.KernelRfl
namespace Go.Proofs.Ytndgladfcogiiaa
/- THE CELL 'sum', in the pinned program and in every row, IS THE sha256 OF THE DUMP (.gsa) THAT YtndgladfcogiiaaProg.lean LOADS. Nothing in Lean hashes anything: it is a label: what it is worth is what the hold of that sum in a sandbox is worth. -/
noncomputable def Try.pinned : Pinned := { name := "ytndgladfcogiiaa", sum := "fc3967f42fd283c78b193b23852960df790f314f150ed9d89664ecf7f5ab556c", checked := Try.checked }
namespace Rows
def none {H : Type} : Left H := { results := [], args := [] }

/-- 'spigotlaw07.TokenEncodes': WHATEVER THE INPUT: true; the input reads as it did. -/
def tokenEncodesSpec : ChangeSpec := { name := "tokenEncodes", fn := fun _ => fun
  | [d] => { results := [.lit (.bool true)], args := [d] }
  | _ => none }
def tokenEncodesRow : OpenClaim := { program := "ytndgladfcogiiaa", sum := "fc3967f42fd283c78b193b23852960df790f314f150ed9d89664ecf7f5ab556c", func := "spigot/spigotlaw07.TokenEncodes", spec := "tokenEncodes", inPlace := ["internal/abi.NoEscape", "internal/bytealg.MakeNoZero"], apart := false }
def TokenEncodesSaid : Prop := tokenEncodesRow.holds Try.pinned (OpenSpec.ofChange tokenEncodesSpec)

/-- ITS FALSE NEIGHBOUR: 'it returns false'. Refute it at one input. -/
def tokenEncodesWrong : ChangeSpec := { name := "tokenEncodes", fn := fun _ => fun
  | [d] => { results := [.lit (.bool false)], args := [d] }
  | _ => none }
def TokenEncodesWrongFalsely : Prop := tokenEncodesRow.holds Try.pinned (OpenSpec.ofChange tokenEncodesWrong)

/-- 'spigotlaw07.TokenDecodes': WHATEVER THE INPUT: true; the input reads as it did. -/
def tokenDecodesSpec : ChangeSpec := { name := "tokenDecodes", fn := fun _ => fun
  | [d] => { results := [.lit (.bool true)], args := [d] }
  | _ => none }
def tokenDecodesRow : OpenClaim := { program := "ytndgladfcogiiaa", sum := "fc3967f42fd283c78b193b23852960df790f314f150ed9d89664ecf7f5ab556c", func := "spigot/spigotlaw07.TokenDecodes", spec := "tokenDecodes", inPlace := ["internal/abi.NoEscape", "internal/bytealg.MakeNoZero"], apart := false }
def TokenDecodesSaid : Prop := tokenDecodesRow.holds Try.pinned (OpenSpec.ofChange tokenDecodesSpec)

/-- ITS FALSE NEIGHBOUR: 'it returns false'. Refute it at one input. -/
def tokenDecodesWrong : ChangeSpec := { name := "tokenDecodes", fn := fun _ => fun
  | [d] => { results := [.lit (.bool false)], args := [d] }
  | _ => none }
def TokenDecodesWrongFalsely : Prop := tokenDecodesRow.holds Try.pinned (OpenSpec.ofChange tokenDecodesWrong)

/-- 'spigotlaw07.TokenTexts': WHATEVER THE INPUT: true; the input reads as it did. -/
def tokenTextsSpec : ChangeSpec := { name := "tokenTexts", fn := fun _ => fun
  | [d1, d2] => { results := [.lit (.bool true)], args := [d1, d2] }
  | _ => none }
def tokenTextsRow : OpenClaim := { program := "ytndgladfcogiiaa", sum := "fc3967f42fd283c78b193b23852960df790f314f150ed9d89664ecf7f5ab556c", func := "spigot/spigotlaw07.TokenTexts", spec := "tokenTexts", inPlace := ["internal/bytealg.IndexByteString", "internal/abi.NoEscape", "internal/bytealg.MakeNoZero"], apart := false }
def TokenTextsSaid : Prop := tokenTextsRow.holds Try.pinned (OpenSpec.ofChange tokenTextsSpec)

/-- ITS FALSE NEIGHBOUR: 'it returns false'. Refute it at one input. -/
def tokenTextsWrong : ChangeSpec := { name := "tokenTexts", fn := fun _ => fun
  | [d1, d2] => { results := [.lit (.bool false)], args := [d1, d2] }
  | _ => none }
def TokenTextsWrongFalsely : Prop := tokenTextsRow.holds Try.pinned (OpenSpec.ofChange tokenTextsWrong)

/-- 'spigotlaw07.TokenOne': WHATEVER THE INPUT: true; the input reads as it did. -/
def tokenOneSpec : ChangeSpec := { name := "tokenOne", fn := fun _ => fun
  | [d1, d2, d3, d4] => { results := [.lit (.bool true)], args := [d1, d2, d3, d4] }
  | _ => none }
def tokenOneRow : OpenClaim := { program := "ytndgladfcogiiaa", sum := "fc3967f42fd283c78b193b23852960df790f314f150ed9d89664ecf7f5ab556c", func := "spigot/spigotlaw07.TokenOne", spec := "tokenOne", inPlace := ["internal/abi.NoEscape", "internal/bytealg.MakeNoZero"], apart := false }
def TokenOneSaid : Prop := tokenOneRow.holds Try.pinned (OpenSpec.ofChange tokenOneSpec)

/-- ITS FALSE NEIGHBOUR: 'it returns false'. Refute it at one input. -/
def tokenOneWrong : ChangeSpec := { name := "tokenOne", fn := fun _ => fun
  | [d1, d2, d3, d4] => { results := [.lit (.bool false)], args := [d1, d2, d3, d4] }
  | _ => none }
def TokenOneWrongFalsely : Prop := tokenOneRow.holds Try.pinned (OpenSpec.ofChange tokenOneWrong)

/-- 'spigotlaw20.FrameFeeds': WHATEVER THE INPUT: true; the input reads as it did. -/
def frameFeedsSpec : ChangeSpec := { name := "frameFeeds", fn := fun _ => fun
  | [d1, d2] => { results := [.lit (.bool true)], args := [d1, d2] }
  | _ => none }
def frameFeedsRow : OpenClaim := { program := "ytndgladfcogiiaa", sum := "fc3967f42fd283c78b193b23852960df790f314f150ed9d89664ecf7f5ab556c", func := "spigot/spigotlaw20.FrameFeeds", spec := "frameFeeds", unfollowed := true, recurses := true, apart := false }
def FrameFeedsSaid : Prop := frameFeedsRow.holds Try.pinned (OpenSpec.ofChange frameFeedsSpec)

/-- ITS FALSE NEIGHBOUR: 'it returns false'. Refute it at one input. -/
def frameFeedsWrong : ChangeSpec := { name := "frameFeeds", fn := fun _ => fun
  | [d1, d2] => { results := [.lit (.bool false)], args := [d1, d2] }
  | _ => none }
def FrameFeedsWrongFalsely : Prop := frameFeedsRow.holds Try.pinned (OpenSpec.ofChange frameFeedsWrong)

/-- 'spigotlaw20.FrameNil': WHATEVER THE INPUT: true; the input reads as it did. -/
def frameNilSpec : ChangeSpec := { name := "frameNil", fn := fun _ => fun
  | [d] => { results := [.lit (.bool true)], args := [d] }
  | _ => none }
def frameNilRow : OpenClaim := { program := "ytndgladfcogiiaa", sum := "fc3967f42fd283c78b193b23852960df790f314f150ed9d89664ecf7f5ab556c", func := "spigot/spigotlaw20.FrameNil", spec := "frameNil", unfollowed := true, recurses := true, apart := false }
def FrameNilSaid : Prop := frameNilRow.holds Try.pinned (OpenSpec.ofChange frameNilSpec)

/-- ITS FALSE NEIGHBOUR: 'it returns false'. Refute it at one input. -/
def frameNilWrong : ChangeSpec := { name := "frameNil", fn := fun _ => fun
  | [d] => { results := [.lit (.bool false)], args := [d] }
  | _ => none }
def FrameNilWrongFalsely : Prop := frameNilRow.holds Try.pinned (OpenSpec.ofChange frameNilWrong)

/-- 'spigotlaw20.FrameCuts': WHATEVER THE INPUT: true; the input reads as it did. -/
def frameCutsSpec : ChangeSpec := { name := "frameCuts", fn := fun _ => fun
  | [d1, d2] => { results := [.lit (.bool true)], args := [d1, d2] }
  | _ => none }
def frameCutsRow : OpenClaim := { program := "ytndgladfcogiiaa", sum := "fc3967f42fd283c78b193b23852960df790f314f150ed9d89664ecf7f5ab556c", func := "spigot/spigotlaw20.FrameCuts", spec := "frameCuts", unfollowed := true, recurses := true, apart := false }
def FrameCutsSaid : Prop := frameCutsRow.holds Try.pinned (OpenSpec.ofChange frameCutsSpec)

/-- ITS FALSE NEIGHBOUR: 'it returns false'. Refute it at one input. -/
def frameCutsWrong : ChangeSpec := { name := "frameCuts", fn := fun _ => fun
  | [d1, d2] => { results := [.lit (.bool false)], args := [d1, d2] }
  | _ => none }
def FrameCutsWrongFalsely : Prop := frameCutsRow.holds Try.pinned (OpenSpec.ofChange frameCutsWrong)

/-- 'spigotlaw20.FrameBack': WHATEVER THE INPUT: true; the input reads as it did. -/
def frameBackSpec : ChangeSpec := { name := "frameBack", fn := fun _ => fun
  | [d1, d2, d3] => { results := [.lit (.bool true)], args := [d1, d2, d3] }
  | _ => none }
def frameBackRow : OpenClaim := { program := "ytndgladfcogiiaa", sum := "fc3967f42fd283c78b193b23852960df790f314f150ed9d89664ecf7f5ab556c", func := "spigot/spigotlaw20.FrameBack", spec := "frameBack", unfollowed := true, recurses := true, apart := false }
def FrameBackSaid : Prop := frameBackRow.holds Try.pinned (OpenSpec.ofChange frameBackSpec)

/-- ITS FALSE NEIGHBOUR: 'it returns false'. Refute it at one input. -/
def frameBackWrong : ChangeSpec := { name := "frameBack", fn := fun _ => fun
  | [d1, d2, d3] => { results := [.lit (.bool false)], args := [d1, d2, d3] }
  | _ => none }
def FrameBackWrongFalsely : Prop := frameBackRow.holds Try.pinned (OpenSpec.ofChange frameBackWrong)

/-- 'spigotlaw21.WireRequests': WHATEVER THE INPUT: true; the input reads as it did. -/
def wireRequestsSpec : ChangeSpec := { name := "wireRequests", fn := fun _ => fun
  | [d] => { results := [.lit (.bool true)], args := [d] }
  | _ => none }
def wireRequestsRow : OpenClaim := { program := "ytndgladfcogiiaa", sum := "fc3967f42fd283c78b193b23852960df790f314f150ed9d89664ecf7f5ab556c", func := "spigot/spigotlaw21.WireRequests", spec := "wireRequests", unfollowed := true, recurses := true, apart := false }
def WireRequestsSaid : Prop := wireRequestsRow.holds Try.pinned (OpenSpec.ofChange wireRequestsSpec)

/-- ITS FALSE NEIGHBOUR: 'it returns false'. Refute it at one input. -/
def wireRequestsWrong : ChangeSpec := { name := "wireRequests", fn := fun _ => fun
  | [d] => { results := [.lit (.bool false)], args := [d] }
  | _ => none }
def WireRequestsWrongFalsely : Prop := wireRequestsRow.holds Try.pinned (OpenSpec.ofChange wireRequestsWrong)

/-- 'spigotlaw21.WireReads': WHATEVER THE INPUT: true; the input reads as it did. -/
def wireReadsSpec : ChangeSpec := { name := "wireReads", fn := fun _ => fun
  | [d] => { results := [.lit (.bool true)], args := [d] }
  | _ => none }
def wireReadsRow : OpenClaim := { program := "ytndgladfcogiiaa", sum := "fc3967f42fd283c78b193b23852960df790f314f150ed9d89664ecf7f5ab556c", func := "spigot/spigotlaw21.WireReads", spec := "wireReads", unfollowed := true, recurses := true, apart := false }
def WireReadsSaid : Prop := wireReadsRow.holds Try.pinned (OpenSpec.ofChange wireReadsSpec)

/-- ITS FALSE NEIGHBOUR: 'it returns false'. Refute it at one input. -/
def wireReadsWrong : ChangeSpec := { name := "wireReads", fn := fun _ => fun
  | [d] => { results := [.lit (.bool false)], args := [d] }
  | _ => none }
def WireReadsWrongFalsely : Prop := wireReadsRow.holds Try.pinned (OpenSpec.ofChange wireReadsWrong)

/-- 'spigotlaw21.WireReplies': WHATEVER THE INPUT: true; the input reads as it did. -/
def wireRepliesSpec : ChangeSpec := { name := "wireReplies", fn := fun _ => fun
  | [d1, d2] => { results := [.lit (.bool true)], args := [d1, d2] }
  | _ => none }
def wireRepliesRow : OpenClaim := { program := "ytndgladfcogiiaa", sum := "fc3967f42fd283c78b193b23852960df790f314f150ed9d89664ecf7f5ab556c", func := "spigot/spigotlaw21.WireReplies", spec := "wireReplies", unfollowed := true, recurses := true, apart := false }
def WireRepliesSaid : Prop := wireRepliesRow.holds Try.pinned (OpenSpec.ofChange wireRepliesSpec)

/-- ITS FALSE NEIGHBOUR: 'it returns false'. Refute it at one input. -/
def wireRepliesWrong : ChangeSpec := { name := "wireReplies", fn := fun _ => fun
  | [d1, d2] => { results := [.lit (.bool false)], args := [d1, d2] }
  | _ => none }
def WireRepliesWrongFalsely : Prop := wireRepliesRow.holds Try.pinned (OpenSpec.ofChange wireRepliesWrong)

/-- 'spigotlaw21.WireOne': WHATEVER THE INPUT: true; the input reads as it did. -/
def wireOneSpec : ChangeSpec := { name := "wireOne", fn := fun _ => fun
  | [d1, d2, d3, d4] => { results := [.lit (.bool true)], args := [d1, d2, d3, d4] }
  | _ => none }
def wireOneRow : OpenClaim := { program := "ytndgladfcogiiaa", sum := "fc3967f42fd283c78b193b23852960df790f314f150ed9d89664ecf7f5ab556c", func := "spigot/spigotlaw21.WireOne", spec := "wireOne", unfollowed := true, recurses := true, apart := false }
def WireOneSaid : Prop := wireOneRow.holds Try.pinned (OpenSpec.ofChange wireOneSpec)

/-- ITS FALSE NEIGHBOUR: 'it returns false'. Refute it at one input. -/
def wireOneWrong : ChangeSpec := { name := "wireOne", fn := fun _ => fun
  | [d1, d2, d3, d4] => { results := [.lit (.bool false)], args := [d1, d2, d3, d4] }
  | _ => none }
def WireOneWrongFalsely : Prop := wireOneRow.holds Try.pinned (OpenSpec.ofChange wireOneWrong)

/-- 'spigotlaw22.ConnNil': WHATEVER THE INPUT: true; the input reads as it did. -/
def connNilSpec : ChangeSpec := { name := "connNil", fn := fun _ => fun
  | [d] => { results := [.lit (.bool true)], args := [d] }
  | _ => none }
def connNilRow : OpenClaim := { program := "ytndgladfcogiiaa", sum := "fc3967f42fd283c78b193b23852960df790f314f150ed9d89664ecf7f5ab556c", func := "spigot/spigotlaw22.ConnNil", spec := "connNil", unfollowed := true, recurses := true, apart := false }
def ConnNilSaid : Prop := connNilRow.holds Try.pinned (OpenSpec.ofChange connNilSpec)

/-- ITS FALSE NEIGHBOUR: 'it returns false'. Refute it at one input. -/
def connNilWrong : ChangeSpec := { name := "connNil", fn := fun _ => fun
  | [d] => { results := [.lit (.bool false)], args := [d] }
  | _ => none }
def ConnNilWrongFalsely : Prop := connNilRow.holds Try.pinned (OpenSpec.ofChange connNilWrong)

/-- 'spigotlaw22.ConnOrder': WHATEVER THE INPUT: true; the input reads as it did. -/
def connOrderSpec : ChangeSpec := { name := "connOrder", fn := fun _ => fun
  | [d1, d2, d3, d4] => { results := [.lit (.bool true)], args := [d1, d2, d3, d4] }
  | _ => none }
def connOrderRow : OpenClaim := { program := "ytndgladfcogiiaa", sum := "fc3967f42fd283c78b193b23852960df790f314f150ed9d89664ecf7f5ab556c", func := "spigot/spigotlaw22.ConnOrder", spec := "connOrder", unfollowed := true, recurses := true, apart := false }
def ConnOrderSaid : Prop := connOrderRow.holds Try.pinned (OpenSpec.ofChange connOrderSpec)

/-- ITS FALSE NEIGHBOUR: 'it returns false'. Refute it at one input. -/
def connOrderWrong : ChangeSpec := { name := "connOrder", fn := fun _ => fun
  | [d1, d2, d3, d4] => { results := [.lit (.bool false)], args := [d1, d2, d3, d4] }
  | _ => none }
def ConnOrderWrongFalsely : Prop := connOrderRow.holds Try.pinned (OpenSpec.ofChange connOrderWrong)

/-- 'spigotlaw22.ConnLedger': WHATEVER THE INPUT: true; the input reads as it did. -/
def connLedgerSpec : ChangeSpec := { name := "connLedger", fn := fun _ => fun
  | [d] => { results := [.lit (.bool true)], args := [d] }
  | _ => none }
def connLedgerRow : OpenClaim := { program := "ytndgladfcogiiaa", sum := "fc3967f42fd283c78b193b23852960df790f314f150ed9d89664ecf7f5ab556c", func := "spigot/spigotlaw22.ConnLedger", spec := "connLedger", unfollowed := true, recurses := true, apart := false }
def ConnLedgerSaid : Prop := connLedgerRow.holds Try.pinned (OpenSpec.ofChange connLedgerSpec)

/-- ITS FALSE NEIGHBOUR: 'it returns false'. Refute it at one input. -/
def connLedgerWrong : ChangeSpec := { name := "connLedger", fn := fun _ => fun
  | [d] => { results := [.lit (.bool false)], args := [d] }
  | _ => none }
def ConnLedgerWrongFalsely : Prop := connLedgerRow.holds Try.pinned (OpenSpec.ofChange connLedgerWrong)

/-- 'spigotlaw22.ConnHang': WHATEVER THE INPUT: true; the input reads as it did. -/
def connHangSpec : ChangeSpec := { name := "connHang", fn := fun _ => fun
  | [d1, d2, d3] => { results := [.lit (.bool true)], args := [d1, d2, d3] }
  | _ => none }
def connHangRow : OpenClaim := { program := "ytndgladfcogiiaa", sum := "fc3967f42fd283c78b193b23852960df790f314f150ed9d89664ecf7f5ab556c", func := "spigot/spigotlaw22.ConnHang", spec := "connHang", unfollowed := true, recurses := true, apart := false }
def ConnHangSaid : Prop := connHangRow.holds Try.pinned (OpenSpec.ofChange connHangSpec)

/-- ITS FALSE NEIGHBOUR: 'it returns false'. Refute it at one input. -/
def connHangWrong : ChangeSpec := { name := "connHang", fn := fun _ => fun
  | [d1, d2, d3] => { results := [.lit (.bool false)], args := [d1, d2, d3] }
  | _ => none }
def ConnHangWrongFalsely : Prop := connHangRow.holds Try.pinned (OpenSpec.ofChange connHangWrong)

/- THE SECOND FORM. 'bulk': how many values and letters a reading holds, each counted each time it is reached (what is shared counts as often as it is met; a slice's spare places count too). A statement '..UptoSaid' is the law's where the arguments, and the package variables that the reading takes, are together of bulk at most 1048576: NARROWER than '..Said'. Prove '..Said' where nothing that the law and all that it calls make is longer than what came in: it says more and counts as full. Else prove '..UptoSaid'. A law counts once. -/
mutual
def uptoBulk {H : Type} : DataW H → Nat
  | .lit (.string bytes) => bytes.length + 1
  | .lit _ => 1
  | .nil => 1
  | .ptr d => uptoBulk d + 1
  | .slice elems spare => uptoBulkAll elems + uptoBulkAll spare + 1
  | .agg parts => uptoBulkAll parts + 1
  | .iface _ d => uptoBulk d + 1
  | .map entries => uptoBulkEntries entries + 1
  | .held _ => 1
def uptoBulkAll {H : Type} : List (DataW H) → Nat
  | [] => 0
  | d :: r => uptoBulk d + uptoBulkAll r
def uptoBulkEntries {H : Type} : List (Lit × DataW H) → Nat
  | [] => 0
  | x :: r => uptoBulkEntry x + uptoBulkEntries r
def uptoBulkEntry {H : Type} : Lit × DataW H → Nat
  | (.string bytes, d) => bytes.length + uptoBulk d + 1
  | (_, d) => uptoBulk d + 1
 end
def uptoSmall : (H : Type) → List (DataW H) → Bool := fun _ ds => decide (uptoBulkAll ds ≤ 1048576)
def OpenSpec.upto (s : _root_.Go.ChangeSpec) : _root_.Go.OpenSpec := { _root_.Go.OpenSpec.ofChange s with cond := some uptoSmall }

/-- 'spigotlaw07.TokenEncodes', WHERE WHAT IT READS IS OF BULK AT MOST 1048576: true; the input reads as it did. -/
def tokenEncodesUptoRow : OpenClaim := { program := "ytndgladfcogiiaa", sum := "fc3967f42fd283c78b193b23852960df790f314f150ed9d89664ecf7f5ab556c", func := "spigot/spigotlaw07.TokenEncodes", spec := "tokenEncodes", inPlace := ["internal/abi.NoEscape", "internal/bytealg.MakeNoZero"], apart := false, narrowed := true }
def TokenEncodesUptoSaid : Prop := tokenEncodesUptoRow.holds Try.pinned (OpenSpec.upto tokenEncodesSpec)

/-- 'spigotlaw07.TokenDecodes', WHERE WHAT IT READS IS OF BULK AT MOST 1048576: true; the input reads as it did. -/
def tokenDecodesUptoRow : OpenClaim := { program := "ytndgladfcogiiaa", sum := "fc3967f42fd283c78b193b23852960df790f314f150ed9d89664ecf7f5ab556c", func := "spigot/spigotlaw07.TokenDecodes", spec := "tokenDecodes", inPlace := ["internal/abi.NoEscape", "internal/bytealg.MakeNoZero"], apart := false, narrowed := true }
def TokenDecodesUptoSaid : Prop := tokenDecodesUptoRow.holds Try.pinned (OpenSpec.upto tokenDecodesSpec)

/-- 'spigotlaw07.TokenTexts', WHERE WHAT IT READS IS OF BULK AT MOST 1048576: true; the input reads as it did. -/
def tokenTextsUptoRow : OpenClaim := { program := "ytndgladfcogiiaa", sum := "fc3967f42fd283c78b193b23852960df790f314f150ed9d89664ecf7f5ab556c", func := "spigot/spigotlaw07.TokenTexts", spec := "tokenTexts", inPlace := ["internal/bytealg.IndexByteString", "internal/abi.NoEscape", "internal/bytealg.MakeNoZero"], apart := false, narrowed := true }
def TokenTextsUptoSaid : Prop := tokenTextsUptoRow.holds Try.pinned (OpenSpec.upto tokenTextsSpec)

/-- 'spigotlaw07.TokenOne', WHERE WHAT IT READS IS OF BULK AT MOST 1048576: true; the input reads as it did. -/
def tokenOneUptoRow : OpenClaim := { program := "ytndgladfcogiiaa", sum := "fc3967f42fd283c78b193b23852960df790f314f150ed9d89664ecf7f5ab556c", func := "spigot/spigotlaw07.TokenOne", spec := "tokenOne", inPlace := ["internal/abi.NoEscape", "internal/bytealg.MakeNoZero"], apart := false, narrowed := true }
def TokenOneUptoSaid : Prop := tokenOneUptoRow.holds Try.pinned (OpenSpec.upto tokenOneSpec)

/-- 'spigotlaw20.FrameFeeds', WHERE WHAT IT READS IS OF BULK AT MOST 1048576: true; the input reads as it did. -/
def frameFeedsUptoRow : OpenClaim := { program := "ytndgladfcogiiaa", sum := "fc3967f42fd283c78b193b23852960df790f314f150ed9d89664ecf7f5ab556c", func := "spigot/spigotlaw20.FrameFeeds", spec := "frameFeeds", unfollowed := true, recurses := true, apart := false, narrowed := true }
def FrameFeedsUptoSaid : Prop := frameFeedsUptoRow.holds Try.pinned (OpenSpec.upto frameFeedsSpec)

/-- 'spigotlaw20.FrameNil', WHERE WHAT IT READS IS OF BULK AT MOST 1048576: true; the input reads as it did. -/
def frameNilUptoRow : OpenClaim := { program := "ytndgladfcogiiaa", sum := "fc3967f42fd283c78b193b23852960df790f314f150ed9d89664ecf7f5ab556c", func := "spigot/spigotlaw20.FrameNil", spec := "frameNil", unfollowed := true, recurses := true, apart := false, narrowed := true }
def FrameNilUptoSaid : Prop := frameNilUptoRow.holds Try.pinned (OpenSpec.upto frameNilSpec)

/-- 'spigotlaw20.FrameCuts', WHERE WHAT IT READS IS OF BULK AT MOST 1048576: true; the input reads as it did. -/
def frameCutsUptoRow : OpenClaim := { program := "ytndgladfcogiiaa", sum := "fc3967f42fd283c78b193b23852960df790f314f150ed9d89664ecf7f5ab556c", func := "spigot/spigotlaw20.FrameCuts", spec := "frameCuts", unfollowed := true, recurses := true, apart := false, narrowed := true }
def FrameCutsUptoSaid : Prop := frameCutsUptoRow.holds Try.pinned (OpenSpec.upto frameCutsSpec)

/-- 'spigotlaw20.FrameBack', WHERE WHAT IT READS IS OF BULK AT MOST 1048576: true; the input reads as it did. -/
def frameBackUptoRow : OpenClaim := { program := "ytndgladfcogiiaa", sum := "fc3967f42fd283c78b193b23852960df790f314f150ed9d89664ecf7f5ab556c", func := "spigot/spigotlaw20.FrameBack", spec := "frameBack", unfollowed := true, recurses := true, apart := false, narrowed := true }
def FrameBackUptoSaid : Prop := frameBackUptoRow.holds Try.pinned (OpenSpec.upto frameBackSpec)

/-- 'spigotlaw21.WireRequests', WHERE WHAT IT READS IS OF BULK AT MOST 1048576: true; the input reads as it did. -/
def wireRequestsUptoRow : OpenClaim := { program := "ytndgladfcogiiaa", sum := "fc3967f42fd283c78b193b23852960df790f314f150ed9d89664ecf7f5ab556c", func := "spigot/spigotlaw21.WireRequests", spec := "wireRequests", unfollowed := true, recurses := true, apart := false, narrowed := true }
def WireRequestsUptoSaid : Prop := wireRequestsUptoRow.holds Try.pinned (OpenSpec.upto wireRequestsSpec)

/-- 'spigotlaw21.WireReads', WHERE WHAT IT READS IS OF BULK AT MOST 1048576: true; the input reads as it did. -/
def wireReadsUptoRow : OpenClaim := { program := "ytndgladfcogiiaa", sum := "fc3967f42fd283c78b193b23852960df790f314f150ed9d89664ecf7f5ab556c", func := "spigot/spigotlaw21.WireReads", spec := "wireReads", unfollowed := true, recurses := true, apart := false, narrowed := true }
def WireReadsUptoSaid : Prop := wireReadsUptoRow.holds Try.pinned (OpenSpec.upto wireReadsSpec)

/-- 'spigotlaw21.WireReplies', WHERE WHAT IT READS IS OF BULK AT MOST 1048576: true; the input reads as it did. -/
def wireRepliesUptoRow : OpenClaim := { program := "ytndgladfcogiiaa", sum := "fc3967f42fd283c78b193b23852960df790f314f150ed9d89664ecf7f5ab556c", func := "spigot/spigotlaw21.WireReplies", spec := "wireReplies", unfollowed := true, recurses := true, apart := false, narrowed := true }
def WireRepliesUptoSaid : Prop := wireRepliesUptoRow.holds Try.pinned (OpenSpec.upto wireRepliesSpec)

/-- 'spigotlaw21.WireOne', WHERE WHAT IT READS IS OF BULK AT MOST 1048576: true; the input reads as it did. -/
def wireOneUptoRow : OpenClaim := { program := "ytndgladfcogiiaa", sum := "fc3967f42fd283c78b193b23852960df790f314f150ed9d89664ecf7f5ab556c", func := "spigot/spigotlaw21.WireOne", spec := "wireOne", unfollowed := true, recurses := true, apart := false, narrowed := true }
def WireOneUptoSaid : Prop := wireOneUptoRow.holds Try.pinned (OpenSpec.upto wireOneSpec)

/-- 'spigotlaw22.ConnNil', WHERE WHAT IT READS IS OF BULK AT MOST 1048576: true; the input reads as it did. -/
def connNilUptoRow : OpenClaim := { program := "ytndgladfcogiiaa", sum := "fc3967f42fd283c78b193b23852960df790f314f150ed9d89664ecf7f5ab556c", func := "spigot/spigotlaw22.ConnNil", spec := "connNil", unfollowed := true, recurses := true, apart := false, narrowed := true }
def ConnNilUptoSaid : Prop := connNilUptoRow.holds Try.pinned (OpenSpec.upto connNilSpec)

/-- 'spigotlaw22.ConnOrder', WHERE WHAT IT READS IS OF BULK AT MOST 1048576: true; the input reads as it did. -/
def connOrderUptoRow : OpenClaim := { program := "ytndgladfcogiiaa", sum := "fc3967f42fd283c78b193b23852960df790f314f150ed9d89664ecf7f5ab556c", func := "spigot/spigotlaw22.ConnOrder", spec := "connOrder", unfollowed := true, recurses := true, apart := false, narrowed := true }
def ConnOrderUptoSaid : Prop := connOrderUptoRow.holds Try.pinned (OpenSpec.upto connOrderSpec)

/-- 'spigotlaw22.ConnLedger', WHERE WHAT IT READS IS OF BULK AT MOST 1048576: true; the input reads as it did. -/
def connLedgerUptoRow : OpenClaim := { program := "ytndgladfcogiiaa", sum := "fc3967f42fd283c78b193b23852960df790f314f150ed9d89664ecf7f5ab556c", func := "spigot/spigotlaw22.ConnLedger", spec := "connLedger", unfollowed := true, recurses := true, apart := false, narrowed := true }
def ConnLedgerUptoSaid : Prop := connLedgerUptoRow.holds Try.pinned (OpenSpec.upto connLedgerSpec)

/-- 'spigotlaw22.ConnHang', WHERE WHAT IT READS IS OF BULK AT MOST 1048576: true; the input reads as it did. -/
def connHangUptoRow : OpenClaim := { program := "ytndgladfcogiiaa", sum := "fc3967f42fd283c78b193b23852960df790f314f150ed9d89664ecf7f5ab556c", func := "spigot/spigotlaw22.ConnHang", spec := "connHang", unfollowed := true, recurses := true, apart := false, narrowed := true }
def ConnHangUptoSaid : Prop := connHangUptoRow.holds Try.pinned (OpenSpec.upto connHangSpec)

end Rows
end Go.Proofs.Ytndgladfcogiiaa
