/- What the listed variables of the library give. -/
import Derived.Test.YtifldnkcheobhaaDoorCards
import Derived.Test.YtifldnkcheobhaaDoorTie
import Derived.Test.YtifldnkcheobhaaDoorLwA
import Derived.ChangeSame
import Derived.JoinedOf
import Derived.LaidLaws
import Derived.LaidHandle
import Derived.LaidSub
import Derived.Lib.LaidTab
namespace Go.Proofs.YtifldnkcheobhaaDoor
open Go.RowKit
set_option maxRecDepth 100000
set_option linter.unusedVariables false
set_option maxHeartbeats 4000000

theorem own5 : ownKnob Tryd.prog.godebug = none := by kernel_rfl
def L5 : List (String × DataW Unit) := [("math/bits.deBruijn32tab", Rows.laid_math_bits_deBruijn32tab), ("math/bits.deBruijn64tab", Rows.laid_math_bits_deBruijn64tab), ("internal/strconv.uint64pow10", Rows.laid_internal_strconv_uint64pow10), ("errors.errorType", Rows.laid_errors_errorType), ("strconv.ErrRange", Rows.laid_strconv_ErrRange), ("strconv.ErrSyntax", Rows.laid_strconv_ErrSyntax)]
theorem g5e : Tryd.prog.globalNamed "errors.errorType" = some 0 := by kernel_rfl
theorem g5d : Tryd.prog.globalNamed "math/bits.deBruijn64tab" = some 5 := by kernel_rfl
theorem g5dType : (Tryd.prog.globals[5]?).map (·.type) = some 194 := by kernel_rfl
theorem g5pType : (Tryd.prog.globals[3]?).map (·.type) = some 187 := by kernel_rfl
theorem rt5 : (Tryd.prog.cutTypes.find? (·.1 == "internal/reflectlite.rtype")).map (·.2) = some 150 := by kernel_rfl
theorem size5 : Tryd.prog.types.size = 223 := by kernel_rfl
theorem oneRow5 : ((List.range 223).filter fun t => Tryd.prog.rowNamed t [101, 114, 114, 111, 114]) = [101] := by kernel_rfl
theorem cellsP : Tryd.prog.cellsOf 187 = 20 := by kernel_rfl
theorem cellsU : Tryd.prog.cellsOf 164 = 1 := by kernel_rfl
theorem cellsD : Tryd.prog.cellsOf 194 = 64 := by kernel_rfl
theorem cellsB : Tryd.prog.cellsOf 5 = 1 := by kernel_rfl
theorem err_of {W : World} (h : laidMetH Tryd.prog L5 W) : W.cell? ⟨0, 0, none⟩ = some ERRT := by
  obtain ⟨_, h2⟩ := laidMetH_iff.1 h
  have hm : ("errors.errorType", Rows.laid_errors_errorType) ∈ L5.filter fun x => x.2.handleName?.isSome := List.mem_filter.2 ⟨by simp [L5], rfl⟩
  have h3 := h2 _ hm
  obtain ⟨name, u, ty, e1, e2, e3, e4, e5⟩ : ∃ name u ty, Rows.laid_errors_errorType.handleName? = some name ∧ (Tryd.prog.cutTypes.find? (·.1 == "internal/reflectlite.rtype")).map (·.2) = some u ∧ ty < Tryd.prog.types.size ∧ Tryd.prog.rowNamed ty name = true ∧ W.var? Tryd.prog "errors.errorType" = some #[.iface u (.agg #[typeHandle Tryd.prog ty])] := h3
  have en : name = [101, 114, 114, 111, 114] := (Option.some.inj e1).symm
  subst en
  obtain rfl := Option.some.inj (rt5.symm.trans e2)
  have hm : ty ∈ (List.range 223).filter fun t => Tryd.prog.rowNamed t [101, 114, 114, 111, 114] := List.mem_filter.2 ⟨List.mem_range.2 (by rw [← size5]; exact e3), e4⟩
  rw [oneRow5] at hm
  obtain rfl := List.mem_singleton.1 hm
  have hh : typeHandle Tryd.prog 101 = .pointer (some ⟨6, 101, none⟩) := by kernel_rfl
  rw [hh] at e5
  simpa [ERRT] using World.var?_cell g5e e5 0
theorem one_of {W : World} (n : String) (d : DataW Unit) (h : laidMetH Tryd.prog L5 W) (hf : L5.filter (fun x => x.1 == n) = [(n, d)]) (hn : d.handleName? = none) : laidMet Tryd.prog [(n, d)] W := by
  have := h.filter fun x => x.1 == n
  rw [hf] at this
  unfold laidMetH at this
  simpa [hn] using this
theorem tab_of {W : World} (h : laidMetH Tryd.prog L5 W) : Lib.TabIs Tryd.prog W "internal/strconv.uint64pow10" .u64 Lib.pow10Tab :=
  Lib.tabIs_of_head (rest := []) gTabN g5pType Tryd.underlying187 Tryd.underlying164 cellsU cellsP (one_of "internal/strconv.uint64pow10" (Lib.tabData .u64 Lib.pow10Tab) h (by kernel_rfl) (by kernel_rfl))
def deb64 : List Int := [0, 1, 56, 2, 57, 49, 28, 3, 61, 58, 42, 50, 38, 29, 17, 4, 62, 47, 59, 36, 45, 43, 51, 22, 53, 39, 33, 30, 24, 18, 12, 5, 63, 55, 48, 27, 60, 41, 37, 16, 46, 35, 44, 21, 52, 32, 23, 11, 54, 26, 40, 15, 34, 20, 31, 10, 25, 14, 19, 9, 13, 8, 7, 6]
theorem deb_of {W : World} (h : laidMetH Tryd.prog L5 W) : Lib.TabIs Tryd.prog W "math/bits.deBruijn64tab" .u8 deb64 :=
  Lib.tabIs_of_head (rest := []) g5d g5dType Tryd.underlying194 Tryd.underlying5 cellsB cellsD (one_of "math/bits.deBruijn64tab" (Lib.tabData .u8 deb64) h (by kernel_rfl) (by kernel_rfl))
theorem size_of {W : World} (h : laidMetH Tryd.prog L5 W) : 6 ≤ W.heap.size := by
  have ht := deb_of h
  unfold Lib.TabIs World.var? at ht
  rw [g5d] at ht
  simp only [Option.bind_some] at ht
  rcases Nat.lt_or_ge 5 W.heap.size with hl | hl
  · exact hl
  · rw [Array.getElem?_eq_none hl] at ht
    cases ht
theorem lib0_of {W : World} (h : laidMetH Tryd.prog L5 W) : Lib0 W := ⟨err_of h, tab_of h, size_of h⟩

abbrev synS : ByteArray := { data := #[105, 110, 118, 97, 108, 105, 100, 32, 115, 121, 110, 116, 97, 120] }
abbrev rngS : ByteArray := { data := #[118, 97, 108, 117, 101, 32, 111, 117, 116, 32, 111, 102, 32, 114, 97, 110, 103, 101] }
/-- So many blocks has the settled world. -/
noncomputable def low : Nat := (World.holding Tryd.prog default ⟨#[], #[], []⟩).heap.size
def deb32 : List Int := [0, 1, 28, 2, 29, 14, 24, 3, 30, 22, 20, 15, 25, 17, 4, 8, 31, 27, 13, 23, 21, 19, 16, 7, 26, 12, 18, 6, 11, 5, 10, 9]
def putC (o : Obj) (cs : Array Value) : Obj := match o with | .cells _ t frozen => .cells cs t frozen | o => o
/-- A world for the witness: the variables hold what their initialisers lay. -/
noncomputable def laidWorld (os : Os) : World :=
  let w0 := World.holding Tryd.prog os ⟨#[.cells #[.string rngS] 179, .cells #[.string synS] 179], #[], []⟩
  { w0 with heap := (((((w0.heap.modify 0 (putC · #[ERRT])).modify 1 (putC · #[.iface 177 (.pointer (some ⟨low + 1, 0, none⟩))])).modify 2 (putC · #[.iface 177 (.pointer (some ⟨low, 0, none⟩))])).modify 3 (putC · (Lib.pow10Tab.map fun z => Value.int .u64 z).toArray)).modify 4 (putC · (deb32.map fun z => Value.int .u8 z).toArray)).modify 5 (putC · (deb64.map fun z => Value.int .u8 z).toArray) }
theorem laid_met (os : Os) (args : Array Value) : laidMetH Tryd.prog L5 ((laidWorld os).forCall (fun _ _ => 0) ⟨#[], args, []⟩).memory :=
  laidMetH_of_parts (laidMet_of_run' 8 (by kernel_rfl) (by kernel_rfl)) (by kernel_rfl)
theorem u8r {a : Int} (h : (Lit.int .u8 a).wf = true) : ∃ n : Nat, a = n ∧ n < 256 := by
  simp [Lit.wf, IntKind.min, IntKind.max, IntKind.signed, IntKind.bits] at h
  exact ⟨a.toNat, by omega, by omega⟩
theorem i64r {a : Int} (h : (Lit.int .i64 a).wf = true) : -9223372036854775808 ≤ a ∧ a ≤ 9223372036854775807 := by
  simp [Lit.wf, IntKind.min, IntKind.max, IntKind.signed, IntKind.bits] at h
  omega
end Go.Proofs.YtifldnkcheobhaaDoor
