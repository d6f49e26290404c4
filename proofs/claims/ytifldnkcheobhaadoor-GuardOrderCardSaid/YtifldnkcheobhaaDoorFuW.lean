/- The same program as the law lays it in memory: a list of functions that grows, each built by itself. -/
import Derived.Test.YtifldnkcheobhaaDoorFuM
namespace Go.Proofs.YtifldnkcheobhaaDoor
open Go.RowKit
set_option maxRecDepth 100000
set_option linter.unusedVariables false
set_option linter.unusedSimpArgs false

theorem OwnS.lit {w : World} {b k n B : Nat} {vs : List Value} (h : BlkL w b vs) (hl : vs.length = n * k) (hm : n ≤ maxLen) (hB : B ≤ b) : OwnS w B k (some ⟨b, 0, none⟩) n n vs := by
  refine ⟨hl, Nat.le_refl _, hm, (fun e => by cases e), fun a ha => ?_⟩
  injection ha with ha
  subst ha
  refine ⟨rfl, hB, h.lt, fun j hj => ?_, fun j v hv => by simpa using h.cell j v hv⟩
  rw [← hl] at hj
  simp only [Nat.zero_add]
  exact ⟨by rw [h.cell j vs[j] (by simp [hj])]; rfl, h.froz j hj⟩
/-- A function that lies apart from S. -/
def FnP (W : World) (S : List Nat) (F : Value) (f : List ActV) : Prop :=
  ∃ b off c, F = .slice (some ⟨b, off, none⟩) f.length c ∧ b ∉ S ∧ b < W.heap.size ∧ ∀ (j : Nat) (x : ActV), f[j]? = some x → W.cell? ⟨b, off + j * 2, none⟩ = some (.int .u8 (x.1 : Int)) ∧ W.cell? ⟨b, off + j * 2 + 1, none⟩ = some (.int .i64 x.2)
theorem FnP.off {W W' : World} {S S' : List Nat} {F : Value} {f : List ActV} (h : FnP W S F f) (hf : Off S W W') (hS : ∀ y ∈ S', y < W.heap.size → y ∈ S) : FnP W' S' F f := by
  obtain ⟨b, off, c, h1, h2, h3, h4⟩ := h
  refine ⟨b, off, c, h1, fun q => h2 (hS b q h3), Nat.lt_of_lt_of_le h3 hf.size, fun j x hx => ?_⟩
  rw [hf.cell (p := ⟨b, off + j * 2, none⟩) h3 h2, hf.cell (p := ⟨b, off + j * 2 + 1, none⟩) h3 h2]
  exact h4 j x hx
theorem FnP.act {W : World} {S : List Nat} {F : Value} {f : List ActV} (h : FnP W S F f) : ActP W W.heap.size F f := by
  obtain ⟨b, off, c, h1, h2, h3, h4⟩ := h
  refine ⟨_, c, h1, (fun e => by cases e), fun a ha => ?_⟩
  injection ha with ha
  subst ha
  exact ⟨rfl, h3, h3, h4⟩
theorem FnP.own {W : World} {B c : Nat} {A : Option Addr} {f : List ActV} {S : List Nat} (h : OwnS W B 2 A f.length c (FAc f)) (hn : 0 < f.length) (hS : ∀ y ∈ S, y < B) : FnP W S (.slice A f.length c) f := by
  obtain ⟨b, off, rfl, h1, h2, h3, -⟩ := h.cell hn
  refine ⟨b, off, c, rfl, fun q => by have := hS b q; omega, h2, fun j x hx => ?_⟩
  obtain ⟨g1, g2⟩ := FAc_at f j x hx
  exact ⟨h3 _ _ g1, h3 _ _ g2⟩
structure FuI (W0 W : World) (w : Nat) (n : Int) (i : Nat) (Ap : Option Addr) (cp : Nat) (Fs : List Value) : Prop where
  bel : Below W0.heap.size W0 W
  own : OwnS W W0.heap.size 1 Ap i cp Fs
  fs : ∀ j, j < i → ∃ F, Fs[j]? = some F ∧ FnP W (bkV Ap) F (fuelF w j n)
theorem FuI.start (W : World) (w : Nat) (n : Int) : FuI W W w n 0 none 0 [] := ⟨Below.refl _ _, OwnS.nil _ _ _, fun j hj => by omega⟩
theorem FuI.step {W0 W W1 W2 W3 : World} {w i cp cp' c8 : Nat} {n : Int} {Ap Ap' A8 : Option Addr} {Fs : List Value} (h : FuI W0 W w n i Ap cp Fs) (h1 : Below W.heap.size W W1) (h8 : OwnS W1 W.heap.size 2 A8 (fuelF w i n).length c8 (FAc (fuelF w i n)))
    (h2 : Below W1.heap.size W1 W2) (ho : OwnS W3 W0.heap.size 1 Ap' (i + 1) cp' (Fs ++ [.slice A8 (fuelF w i n).length c8])) (hf : Off (bkV Ap) W2 W3) (hbk : ∀ y ∈ bkV Ap', y ∈ bkV Ap ∨ y = W2.heap.size ∧ y < W3.heap.size) :
    FuI W0 W3 w n (i + 1) Ap' cp' (Fs ++ [.slice A8 (fuelF w i n).length c8]) := by
  have hl : Fs.length = i := by have := h.own.len; omega
  have hs0 := h.bel.size
  have hs1 := h1.size
  have hs2 := h2.size
  have b02 : Below W0.heap.size W0 W2 := h.bel.trans ((h1.trans (h2.mono hs1)).mono hs0)
  have hlt := h.own.lt
  refine ⟨b02.trans (hf.below (by omega) (fun x hx => (hlt x hx).1)), ho, fun j hj => ?_⟩
  rcases Nat.lt_or_ge j i with hji | hji
  · obtain ⟨F, f1, f2⟩ := h.fs j hji
    refine ⟨F, by rw [List.getElem?_append_left (by omega)]; exact f1, ?_⟩
    have g := f2.off ((Off.of_below (S := bkV Ap) h1).trans ((Off.of_below h2).trans hf)) (S' := bkV Ap') (fun y hy hy2 => (hbk y hy).elim id (fun q => by omega))
    exact g
  · obtain rfl : j = i := by omega
    refine ⟨_, by rw [List.getElem?_append_right (by omega), hl, Nat.sub_self]; rfl, ?_⟩
    have q := FnP.own h8 (by simp [fuelF]) (S := bkV Ap) (fun y hy => (hlt y hy).2)
    exact q.off ((Off.of_below h2).trans hf) (fun y hy hy2 => (hbk y hy).elim id (fun q => by omega))
theorem FuI.prog {W0 W : World} {w cp : Nat} {n : Int} {Ap : Option Addr} {Fs : List Value} (h : FuI W0 W w n 32 Ap cp Fs) : ProgQ W W.heap.size (.slice Ap 32 cp) (fuelP w n) := by
  obtain ⟨b, off, rfl, h1, h2, h3, -⟩ := h.own.cell (by decide)
  refine ⟨_, cp, by rw [fuelP_len], (fun e => by cases e), fun a ha => ?_⟩
  injection ha with ha
  subst ha
  refine ⟨rfl, h2, fun i f hf => ?_⟩
  have hi : i < 32 := by
    have := (List.getElem?_eq_some_iff.1 hf).1
    rw [fuelP_len] at this
    exact this
  rw [fuelP_at n hi] at hf
  injection hf with hf
  subst hf
  obtain ⟨F, f1, f2⟩ := h.fs i hi
  exact ⟨F, h3 i F f1, f2.act⟩
theorem srcOne1 (w : World) (x : Value) (hx : x.oneCell' = true) (t : TypeId) : SrcS (w.alloc (.cells #[x] t)) 1 (some ⟨w.heap.size, 0, none⟩) 1 [x] :=
  BlkL.srcS (BlkL.new w [x] t) (by simp [hx]) 1 rfl
end Go.Proofs.YtifldnkcheobhaaDoor
