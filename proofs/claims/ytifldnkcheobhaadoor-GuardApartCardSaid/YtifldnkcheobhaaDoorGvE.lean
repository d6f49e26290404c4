/- guard: a ring in memory. -/
import Derived.Test.YtifldnkcheobhaaDoorGvD
namespace Go.Proofs.YtifldnkcheobhaaDoor
open Go.RowKit
set_option maxRecDepth 100000
set_option linter.unusedVariables false
set_option linter.unusedSimpArgs false
set_option maxHeartbeats 4000000

structure GH where
  nm : ByteArray
  p : List (List ActV)
  hk : Nat
  Pv : Value
  lo : Nat
  hi : Nat
abbrev GH.hook (g : GH) : HookV := ⟨g.nm, g.p⟩
abbrev GH.ptr (g : GH) : Value := .pointer (some ⟨g.hk, 0, none⟩)
/-- A ring with the hooks gs, the limit k, strikes st; its blocks from B on; names in the map: ns. -/
structure RingX (w : World) (B rb mb : Nat) (hA : Option Addr) (hc : Nat) (gs : List GH) (k : Int) (ns : List ByteArray) (st : Nat → Int) : Prop where
  blk : BlkL w rb [.slice hA gs.length hc, .map (some mb), .int .i64 k]
  own : OwnS w B 1 hA gs.length hc (gs.map GH.ptr)
  map : GmR w mb ns
  hks : ∀ (i : Nat) (g : GH), gs[i]? = some g → BlkL w g.hk [.string g.nm, g.Pv, .int .i64 (st i)] ∧ ProgI w g.lo g.hi g.Pv g.p ∧ g.hi ≤ w.heap.size ∧ B ≤ g.lo
  low : B ≤ rb ∧ B ≤ mb ∧ rb ≠ mb ∧ rb ∉ bkV hA ∧ mb ∉ bkV hA
  sep : ∀ g ∈ gs, B ≤ g.hk ∧ ∀ y ∈ rb :: mb :: bkV hA, y ≠ g.hk ∧ (y < g.lo ∨ g.hi ≤ y)
  hh : ∀ g ∈ gs, ∀ g' ∈ gs, g'.hk < g.lo ∨ g.hi ≤ g'.hk
  nd : (gs.map GH.hk).Nodup
section
variable {w w' : World} {B rb mb : Nat} {hA : Option Addr} {hc : Nat} {gs : List GH} {k : Int} {ns : List ByteArray} {st : Nat → Int}
theorem RingX.below (h : RingX w B rb mb hA hc gs k ns st) (hb : Below w.heap.size w w') : RingX w' B rb mb hA hc gs k ns st :=
  ⟨h.blk.below hb, h.own.below hb, h.map.below hb h.map.lt, fun i g hg => by
    obtain ⟨h1, h2, h3, h4⟩ := h.hks i g hg
    exact ⟨h1.below hb, h2.off h3 (Off.of_below (S := []) hb) (by simp), Nat.le_trans h3 hb.size, h4⟩, h.low, h.sep, h.hh, h.nd⟩
theorem RingX.ltB (h : RingX w B rb mb hA hc gs k ns st) : ∀ g ∈ gs, g.hk < w.heap.size := fun g hg => by
  obtain ⟨i, hi⟩ := List.mem_iff_getElem?.1 hg
  exact (h.hks i g hi).1.lt
theorem RingX.put (h : RingX w B rb mb hA hc gs k ns st) (ho : Off [mb] w w') {ns' : List ByteArray} (hm : GmR w' mb ns') : RingX w' B rb mb hA hc gs k ns' st :=
  ⟨h.blk.off ho (by simp [h.low.2.2.1]), h.own.off ho (fun y hy e => by simp at e; subst e; exact h.low.2.2.2.2 hy), hm, fun i g hg => by
    obtain ⟨h1, h2, h3, h4⟩ := h.hks i g hg
    have hs := (h.sep g (List.mem_of_getElem? hg)).2 mb (by simp)
    exact ⟨h1.off ho (fun e => by simp at e; exact hs.1 e.symm), h2.off h3 ho (fun y hy => by simp at hy; subst hy; exact hs.2), Nat.le_trans h3 ho.size, h4⟩, h.low, h.sep, h.hh, h.nd⟩
theorem RingX.snoc {w9 w8 : World} {g : GH} {A3 : Option Addr} {c3 : Nat} (h : RingX w B rb mb hA hc gs k ns (fun _ => 0)) (hB : B ≤ w.heap.size) (hp : ProgI w g.lo g.hi g.Pv g.p) (hhi : g.hi ≤ w.heap.size) (hlo : B ≤ g.lo) (hk : g.hk = w.heap.size)
    (hz : ∀ y ∈ rb :: mb :: bkV hA, y < g.lo ∨ g.hi ≤ y) (hold : ∀ g' ∈ gs, g'.hk < g.lo) (hb9 : Below w.heap.size w w9) (hblk : BlkL w9 g.hk [.string g.nm, g.Pv, .int .i64 0])
    (ho8 : OwnS w8 B 1 A3 (gs.length + 1) c3 (gs.map GH.ptr ++ [g.ptr])) (hf8 : Off (bkV hA) w9 w8) (hbk : ∀ y ∈ bkV A3, y ∈ bkV hA ∨ w9.heap.size ≤ y) (hsz : w.heap.size < w9.heap.size) :
    RingX (w8.setCell ⟨rb, 0, none⟩ (.slice A3 (gs.length + 1) c3)) B rb mb A3 c3 (gs ++ [g]) k ns (fun _ => 0) := by
  have hrl := h.blk.lt
  have hml := h.map.lt
  have h9 := h.below hb9
  have r8 := h9.blk.off hf8 h.low.2.2.2.1
  have hgl := h.ltB
  have os : Off [rb] w8 (w8.setCell ⟨rb, 0, none⟩ (.slice A3 (gs.length + 1) c3)) := (Off.refl _ _).setCell (by simp) _
  have hA3rb : ∀ y ∈ bkV A3, y ≠ rb ∧ y ≠ mb := fun y hy => by
    rcases hbk y hy with e | e
    · exact ⟨fun q => h.low.2.2.2.1 (q ▸ e), fun q => h.low.2.2.2.2 (q ▸ e)⟩
    · exact ⟨by omega, by omega⟩
  have hlt : ∀ y ∈ bkV hA, y < w.heap.size := fun y hy => (h.own.lt y hy).2
  have step : ∀ (b : Nat) (xs : List Value), BlkL w9 b xs → b ∉ bkV hA → b ≠ rb → BlkL (w8.setCell ⟨rb, 0, none⟩ (.slice A3 (gs.length + 1) c3)) b xs := fun b xs hb h1 h2 => (hb.off hf8 h1).off os (by simp [h2])
  have stepP : ∀ (lo hi : Nat) (Pv : Value) (p : List (List ActV)), ProgI w lo hi Pv p → hi ≤ w.heap.size → (∀ y ∈ rb :: mb :: bkV hA, y < lo ∨ hi ≤ y) → ProgI (w8.setCell ⟨rb, 0, none⟩ (.slice A3 (gs.length + 1) c3)) lo hi Pv p := fun lo hi Pv p q h1 h2 =>
    ((q.off h1 (Off.of_below (S := []) hb9) (by simp)).off (Nat.le_trans h1 hb9.size) hf8 (fun y hy => h2 y (by simp [hy]))).off (Nat.le_trans h1 (Nat.le_trans hb9.size hf8.size)) os (fun y hy => h2 y (by simp at hy; simp [hy]))
  have hsz8 : w.heap.size ≤ (w8.setCell ⟨rb, 0, none⟩ (.slice A3 (gs.length + 1) c3)).heap.size := Nat.le_trans hb9.size (Nat.le_trans hf8.size os.size)
  have zA : ∀ (x : GH), (∀ y ∈ rb :: mb :: bkV hA, y ≠ x.hk ∧ (y < x.lo ∨ x.hi ≤ y)) → x.hk ≤ w.heap.size → x.hi ≤ w.heap.size → ∀ y ∈ rb :: mb :: bkV A3, y ≠ x.hk ∧ (y < x.lo ∨ x.hi ≤ y) := fun x hx h1 h2 y hy => by
    simp only [List.mem_cons] at hy
    rcases hy with rfl | rfl | hy
    · exact hx _ (by simp)
    · exact hx _ (by simp)
    · rcases hbk y hy with e | e
      · exact hx _ (by simp [e])
      · exact ⟨by omega, by omega⟩
  refine ⟨?_, ?_, ?_, ?_, ⟨h.low.1, h.low.2.1, h.low.2.2.1, fun e => (hA3rb _ e).1 rfl, fun e => (hA3rb _ e).2 rfl⟩, ?_, ?_, ?_⟩
  · have := r8.set 0 (.slice A3 (gs.length + 1) c3) (by simp)
    rw [List.length_append]
    exact this
  · rw [List.map_append, List.length_append]
    exact ho8.off os (fun y hy e => by simp at e; exact (hA3rb y hy).1 e)
  · exact (h9.map.off hf8 h.low.2.2.2.2).off os (by simp; exact fun e => h.low.2.2.1 e.symm)
  · intro i x hx
    rcases Nat.lt_or_ge i gs.length with hi | hi
    · rw [List.getElem?_append_left hi] at hx
      obtain ⟨h1, h2, h3, h4⟩ := h.hks i x hx
      have hs := (h.sep x (List.mem_of_getElem? hx)).2
      exact ⟨step _ _ (h1.below hb9) (fun e => (hs _ (by simp [e])).1 rfl) (fun e => (hs rb (by simp)).1 e.symm), stepP _ _ _ _ h2 h3 (fun y hy => (hs y hy).2), Nat.le_trans h3 hsz8, h4⟩
    · rw [List.getElem?_append_right hi] at hx
      obtain rfl : g = x := by
        cases hq : i - gs.length with
        | zero => rw [hq] at hx; simp at hx; exact hx
        | succ j => rw [hq] at hx; simp at hx
      exact ⟨step _ _ hblk (fun e => by have := hlt _ e; omega) (by omega), stepP _ _ _ _ hp hhi hz, Nat.le_trans hhi hsz8, hlo⟩
  · intro x hx
    rcases List.mem_append.1 hx with hx | hx
    · have hs := h.sep x hx
      obtain ⟨i, hi⟩ := List.mem_iff_getElem?.1 hx
      exact ⟨hs.1, zA x hs.2 (Nat.le_of_lt (hgl x hx)) (h.hks i x hi).2.2.1⟩
    · simp at hx
      subst hx
      refine ⟨by omega, zA x (fun y hy => ⟨?_, hz y hy⟩) (by omega) hhi⟩
      simp only [List.mem_cons] at hy
      rcases hy with rfl | rfl | hy
      · omega
      · omega
      · have := hlt _ hy; omega
  · intro x hx y hy
    rcases List.mem_append.1 hx with h1 | h1 <;> rcases List.mem_append.1 hy with h2 | h2
    · exact h.hh x h1 y h2
    · have e := List.mem_singleton.1 h2
      obtain ⟨i, hi⟩ := List.mem_iff_getElem?.1 h1
      have := (h.hks i x hi).2.2.1
      rw [e]
      omega
    · have e := List.mem_singleton.1 h1
      rw [e]
      exact Or.inl (hold y h2)
    · have e1 := List.mem_singleton.1 h1
      have e2 := List.mem_singleton.1 h2
      rw [e1, e2]
      omega
  · rw [List.map_append, List.nodup_append]
    refine ⟨h.nd, by simp, fun a ha b hb => ?_⟩
    simp at hb
    obtain ⟨x, hx, rfl⟩ := List.mem_map.1 ha
    have := hgl x hx
    omega
end
/-- What New leaves. -/
def NewP (w w' : World) (l : List HookV) (k : Int) (v : Value) : Prop :=
  (newV l ≠ 0 ∧ v = .pointer none) ∨ (newV l = 0 ∧ ∃ (rb mb : Nat) (hA : Option Addr) (hc : Nat) (gs : List GH), v = .pointer (some ⟨rb, 0, none⟩) ∧ RingX w' w.heap.size rb mb hA hc gs k (gs.map GH.nm) (fun _ => 0) ∧ gs.map GH.hook = l)
end Go.Proofs.YtifldnkcheobhaaDoor
