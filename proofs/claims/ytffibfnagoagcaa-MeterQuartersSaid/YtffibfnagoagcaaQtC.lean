/- Contract: slices.SortFunc with real.Order, of floats of any number; the program's Quantile. -/
import Derived.Test.YtffibfnagoagcaaQtB
import Derived.Shelf.SlSortCmp.Whole1
namespace Go.Proofs.Ytffibfnagoagcaa
open Go.RowKit Go.Shelf Go.Sort
set_option maxRecDepth 100000
set_option linter.unusedVariables false

theorem below_sortW (w : World) {B : Nat} (blk off n : Nat) (d : Array F64) (os : Array Obj) (hB : B ≤ blk) (hb : blk < w.heap.size) (hBw : B ≤ w.heap.size) : RowKit.Below B w (sortWorld encF w blk off n d os) := by
  refine ⟨rfl, rfl, rfl, ?_, fun i hi => ?_⟩
  · unfold sortWorld; simp [putRow, mapBlock, Sort.ahead]
  · unfold sortWorld
    have hne : ¬ blk = i := by omega
    rw [heap_grow_old _ _ (by simp [putRow, mapBlock, Sort.ahead]; omega)]
    simp [putRow, mapBlock, Array.getElem?_modify, hne, Sort.ahead]
theorem sortF_any (w : World) (blk off cap : Nat) (d : Array F64) (hH : Holds encF w blk off d) (hblk : blk < w.heap.size) (hn : d.size ≤ 4096) :
    Calls Try.prog 54 #[.slice (some ⟨blk, off, none⟩) d.size cap, .func (.func 55) #[] #[]] w fun e w' => e = .returned (.tuple #[]) ∧ ∃ d' n os, PermIn 0 d.size d d' ∧ SortedIn (ltOf cfF) 0 d.size d' ∧ w' = sortWorld encF w blk off n d' os := by
  have eg : ∀ args w, (callFunc 55 args).run Try.prog w = .ok (.enter 55 args) w := enters_of Try.func55 (by kernel_rfl) rfl
  refine Any.slices_SortFunc Try.laysSlF6_f54 encF (fun _ => rfl) cfF swoF 55 #[] blk off cap d w eg ?_ hH hblk (by omega)
  refine CmpReads.lays ?_
  intro m os dk hdk x y
  refine (orderP_any _ x.val y.val (by omega) (by omega)).mono ?_
  rintro e w' ⟨rfl, rfl⟩
  exact ⟨rfl, 0, rfl⟩
/-- The list in order. -/
def srtV (xs : List Nat) : List Nat := xs.mergeSort (fun a b => decide (idxB a ≤ idxB b))
theorem srtV_perm (xs : List Nat) : (srtV xs).Perm xs := List.mergeSort_perm _ _
theorem srtV_srt (xs : List Nat) : Srt (srtV xs) := by
  have := List.pairwise_mergeSort (le := fun a b => decide (idxB a ≤ idxB b)) (fun a b c h1 h2 => by simp at *; omega) (fun a b => by simp; omega) xs
  exact this.imp (fun h => of_decide_eq_true h)
theorem srtV_eq {xs l : List Nat} (hp : l.Perm xs) (hs : Srt l) (hn : ∀ x ∈ xs, x ≤ 18446744073709551615 ∧ nanB x = false) : l = srtV xs :=
  srt_eq (hp.trans (srtV_perm xs).symm) hs (srtV_srt xs) (fun x hx => hn x (hp.mem_iff.1 hx))
theorem getD_map {xs : List Nat} {j : Nat} (h : j < xs.length) : xs.getD j 0 = xs[j] := by rw [List.getD_eq_getElem?_getD, List.getElem?_eq_getElem h]; rfl
/-- A row of floats told by a list. -/
def arrF (xs : List Nat) (h : ∀ x ∈ xs, x ≤ 18446744073709551615) : Array F64 := (xs.attach.map fun x => (⟨x.1, by have := h x.1 x.2; omega⟩ : F64)).toArray
theorem arrF_size (xs : List Nat) (h : ∀ x ∈ xs, x ≤ 18446744073709551615) : (arrF xs h).size = xs.length := by simp [arrF]
theorem arrF_list (xs : List Nat) (h : ∀ x ∈ xs, x ≤ 18446744073709551615) : (arrF xs h).toList.map (·.val) = xs := by
  unfold arrF
  rw [List.toList_toArray, List.map_map]
  show xs.attach.map (fun x => x.1) = xs
  exact List.attach_map_subtype_val xs
theorem sorted_is {xs : List Nat} (h : ∀ x ∈ xs, x ≤ 18446744073709551615) (hn : ∀ x ∈ xs, nanB x = false) {d' : Array F64} (hp : PermIn 0 (arrF xs h).size (arrF xs h) d') (hs : SortedIn (ltOf cfF) 0 (arrF xs h).size d') : d'.toList.map (·.val) = srtV xs := by
  obtain ⟨h1, _, h3⟩ := hp
  have e1 : d'.extract 0 (arrF xs h).size = d' := by rw [← h1]; exact Array.extract_size
  have e2 : (arrF xs h).extract 0 (arrF xs h).size = arrF xs h := Array.extract_size
  rw [e1, e2] at h3
  have hperm : (d'.toList.map (·.val)).Perm xs := by
    have := h3.map (·.val)
    rwa [arrF_list] at this
  refine srtV_eq hperm ?_ (fun x hx => ⟨h x hx, hn x hx⟩)
  unfold Srt
  rw [List.pairwise_map, List.pairwise_iff_getElem]
  intro i j hi hj hij
  have := hs i j (Nat.zero_le _) hij (by rw [← h1]; simpa using hj)
  have hi' : i < d'.size := by simpa using hi
  have hj' : j < d'.size := by simpa using hj
  rw [getElem!_pos d' i hi', getElem!_pos d' j hj'] at this
  have e : ltOf cfF d'[j] d'[i] = decide (idxB d'[j].val < idxB d'[i].val) := decide_eq_decide.2 (ordB_neg _ _)
  rw [e] at this
  have := of_decide_eq_false this
  simp only [Array.getElem_toList]
  omega
end Go.Proofs.Ytffibfnagoagcaa
