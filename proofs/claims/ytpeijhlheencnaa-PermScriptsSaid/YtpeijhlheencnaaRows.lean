/-
  No cell of these rows narrows 'for every input' (looked for: loops, veiled, ifaces, maps, wideKeys, modest, calm, conditions, laid).
  DERIVED. THE GIVEN ROWS OF THIS SEAT. 3 by the template 'for every input the law returns true; each argument reads behind the call as it read before'; 0 by the template 'total and deterministic' (their statements: YtpeijhlheencnaaTotals.lean).
  GIVEN WITH THE SEED: the statements are not yours to turn. If you find one false, say at which input.
  Laid BY PROGRAM, IN A SANDBOX (cutbox-rows.mjs): the forced cells as the released guide's own fill.sh prints them over the translation 4afd784af7822802… (all of the seat's roots in one cut). By AI agents, Wed Nov 11 2026. No macro, syntax, notation, axiom, sorry.
-/
import Derived.Test.YtpeijhlheencnaaChecked
import GoSem.Claim
import GoSem.ClaimJoined
import GoSem.ClaimMapViews
import Derived.JoinedTies
import Derived.KernelRfl
namespace Go.Proofs.Ytpeijhlheencnaa
/- THE CELL 'sum', in the pinned program and in every row, IS THE sha256 OF THE DUMP (.gsa) THAT YtpeijhlheencnaaProg.lean LOADS. Nothing in Lean hashes anything: it is a label: what it is worth is what the hold of that sum in a sandbox is worth. -/
noncomputable def Try.pinned : Pinned := { name := "ytpeijhlheencnaa", sum := "4afd784af7822802e46ed066d217cb128415168623f40a7aa85bf5c60789f097", checked := Try.checked }
namespace Rows
def none {H : Type} : Left H := { results := [], args := [] }

/-- 'spigotlaw05.GcraRuns': WHATEVER THE INPUT: true; the input reads as it did. -/
def gcraRunsSpec : ChangeSpec := { name := "gcraRuns", fn := fun _ => fun
  | [d1, d2, d3] => { results := [.lit (.bool true)], args := [d1, d2, d3] }
  | _ => none }
def gcraRunsRow : OpenClaim := { program := "ytpeijhlheencnaa", sum := "4afd784af7822802e46ed066d217cb128415168623f40a7aa85bf5c60789f097", func := "spigot/spigotlaw05.GcraRuns", spec := "gcraRuns", apart := false }
def GcraRunsSaid : Prop := gcraRunsRow.holds Try.pinned (OpenSpec.ofChange gcraRunsSpec)

/-- ITS FALSE NEIGHBOUR: 'it returns false'. Refute it at one input. -/
def gcraRunsWrong : ChangeSpec := { name := "gcraRuns", fn := fun _ => fun
  | [d1, d2, d3] => { results := [.lit (.bool false)], args := [d1, d2, d3] }
  | _ => none }
def GcraRunsWrongFalsely : Prop := gcraRunsRow.holds Try.pinned (OpenSpec.ofChange gcraRunsWrong)

/-- 'spigotlaw05.GcraBounds': WHATEVER THE INPUT: true; the input reads as it did. -/
def gcraBoundsSpec : ChangeSpec := { name := "gcraBounds", fn := fun _ => fun
  | [d1, d2, d3, d4, d5] => { results := [.lit (.bool true)], args := [d1, d2, d3, d4, d5] }
  | _ => none }
def gcraBoundsRow : OpenClaim := { program := "ytpeijhlheencnaa", sum := "4afd784af7822802e46ed066d217cb128415168623f40a7aa85bf5c60789f097", func := "spigot/spigotlaw05.GcraBounds", spec := "gcraBounds", apart := false }
def GcraBoundsSaid : Prop := gcraBoundsRow.holds Try.pinned (OpenSpec.ofChange gcraBoundsSpec)

/-- ITS FALSE NEIGHBOUR: 'it returns false'. Refute it at one input. -/
def gcraBoundsWrong : ChangeSpec := { name := "gcraBounds", fn := fun _ => fun
  | [d1, d2, d3, d4, d5] => { results := [.lit (.bool false)], args := [d1, d2, d3, d4, d5] }
  | _ => none }
def GcraBoundsWrongFalsely : Prop := gcraBoundsRow.holds Try.pinned (OpenSpec.ofChange gcraBoundsWrong)

/-- 'spigotlaw06.PermScripts': WHATEVER THE INPUT: true; the input reads as it did. -/
def permScriptsSpec : ChangeSpec := { name := "permScripts", fn := fun _ => fun
  | [d1, d2] => { results := [.lit (.bool true)], args := [d1, d2] }
  | _ => none }
def permScriptsRow : OpenClaim := { program := "ytpeijhlheencnaa", sum := "4afd784af7822802e46ed066d217cb128415168623f40a7aa85bf5c60789f097", func := "spigot/spigotlaw06.PermScripts", spec := "permScripts", apart := false }
def PermScriptsSaid : Prop := permScriptsRow.holds Try.pinned (OpenSpec.ofChange permScriptsSpec)

/-- ITS FALSE NEIGHBOUR: 'it returns false'. Refute it at one input. -/
def permScriptsWrong : ChangeSpec := { name := "permScripts", fn := fun _ => fun
  | [d1, d2] => { results := [.lit (.bool false)], args := [d1, d2] }
  | _ => none }
def PermScriptsWrongFalsely : Prop := permScriptsRow.holds Try.pinned (OpenSpec.ofChange permScriptsWrong)

/- THE SECOND FORM. 'bulk': how many values and letters a reading holds, each counted each time it is reached (what is shared counts as often as it is met; a slice's spare places count too). A statement '..UptoSaid' is the law's where the arguments, and the package variables that the reading takes, are together of bulk at most 1048576: NARROWER than '..Said'. Prove '..Said' where nothing that the law and all that it calls make is longer than what came in: it says more and counts as full. Else prove '..UptoSaid'. A law counts once. -/
mutual
def uptoBulk {H : Type} : DataW H → Nat
  | .lit (.string bytes) => bytes.length + 1
  | .lit _ => 1
  | .nil => 1
  | .ptr d => uptoBulk d + 1
  | .slice elems spare => uptoBulkAll elems + uptoBulkAll spare + 1
  | .agg parts => uptoBulkAll parts + 1
  | .iface _ d => uptoBulk d + 1
  | .map entries => uptoBulkEntries entries + 1
  | .held _ => 1
def uptoBulkAll {H : Type} : List (DataW H) → Nat
  | [] => 0
  | d :: r => uptoBulk d + uptoBulkAll r
def uptoBulkEntries {H : Type} : List (Lit × DataW H) → Nat
  | [] => 0
  | x :: r => uptoBulkEntry x + uptoBulkEntries r
def uptoBulkEntry {H : Type} : Lit × DataW H → Nat
  | (.string bytes, d) => bytes.length + uptoBulk d + 1
  | (_, d) => uptoBulk d + 1
 end
def uptoSmall : (H : Type) → List (DataW H) → Bool := fun _ ds => decide (uptoBulkAll ds ≤ 1048576)
def OpenSpec.upto (s : _root_.Go.ChangeSpec) : _root_.Go.OpenSpec := { _root_.Go.OpenSpec.ofChange s with cond := some uptoSmall }

/-- 'spigotlaw05.GcraRuns', WHERE WHAT IT READS IS OF BULK AT MOST 1048576: true; the input reads as it did. -/
def gcraRunsUptoRow : OpenClaim := { program := "ytpeijhlheencnaa", sum := "4afd784af7822802e46ed066d217cb128415168623f40a7aa85bf5c60789f097", func := "spigot/spigotlaw05.GcraRuns", spec := "gcraRuns", apart := false, narrowed := true }
def GcraRunsUptoSaid : Prop := gcraRunsUptoRow.holds Try.pinned (OpenSpec.upto gcraRunsSpec)

/-- 'spigotlaw05.GcraBounds', WHERE WHAT IT READS IS OF BULK AT MOST 1048576: true; the input reads as it did. -/
def gcraBoundsUptoRow : OpenClaim := { program := "ytpeijhlheencnaa", sum := "4afd784af7822802e46ed066d217cb128415168623f40a7aa85bf5c60789f097", func := "spigot/spigotlaw05.GcraBounds", spec := "gcraBounds", apart := false, narrowed := true }
def GcraBoundsUptoSaid : Prop := gcraBoundsUptoRow.holds Try.pinned (OpenSpec.upto gcraBoundsSpec)

/-- 'spigotlaw06.PermScripts', WHERE WHAT IT READS IS OF BULK AT MOST 1048576: true; the input reads as it did. -/
def permScriptsUptoRow : OpenClaim := { program := "ytpeijhlheencnaa", sum := "4afd784af7822802e46ed066d217cb128415168623f40a7aa85bf5c60789f097", func := "spigot/spigotlaw06.PermScripts", spec := "permScripts", apart := false, narrowed := true }
def PermScriptsUptoSaid : Prop := permScriptsUptoRow.holds Try.pinned (OpenSpec.upto permScriptsSpec)

end Rows
end Go.Proofs.Ytpeijhlheencnaa
