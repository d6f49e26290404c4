/- A book in memory: its block, its table, its map. -/
import Derived.Test.YtnkecjjfbllgdaaBkI

import Derived.Maps.OwnSet
import Derived.Maps.RangeWalk
import Derived.StringKeys
import Derived.Laws.BytesString
import Derived.Laws.BytesArg
namespace Go.Proofs.Ytnkecjjfbllgdaa
open Go.RowKit Go.Maps
set_option maxRecDepth 100000
set_option linter.unusedVariables false

abbrev BkMap := List Nat → Option CelM
abbrev RV : Value → Option (DataW Value × List MemPlace) := fun v => some (.held v, [])
def keyL (z : List Nat) : Lit := .string (z.map fun d => UInt8.ofNat d)
theorem keyL_inj {a b : List Nat} (ha : ∀ d ∈ a, d < 256) (hb : ∀ d ∈ b, d < 256) (h : keyL a = keyL b) : a = b := by
  simp only [keyL, Lit.string.injEq] at h
  induction a generalizing b with
  | nil => cases b with
    | nil => rfl
    | cons y r => simp at h
  | cons x l ih => cases b with
    | nil => simp at h
    | cons y r =>
      simp only [List.map_cons, List.cons.injEq] at h
      have h0 := congrArg UInt8.toNat h.1
      have hx := ha x (by simp)
      have hy := hb y (by simp)
      rw [UInt8.toNat_ofNat', UInt8.toNat_ofNat', Nat.mod_eq_of_lt (by simpa using hx), Nat.mod_eq_of_lt (by simpa using hy)] at h0
      rw [h0, ih (fun d hd => ha d (by simp [hd])) (fun d hd => hb d (by simp [hd])) h.2]
theorem key_of {z : List Nat} (hz : z.length ≤ 1000) : keyOf Try.prog 9 (.string (bytesArr z)) = some (keyL z) := by
  rw [Go.WideMaps.keyOf_string_mk Try.underlying9 (by unfold bytesArr maxLen; simp [ByteArray.size]; omega)]
  rfl
theorem keyed : Keyed Try.prog 9 := string_keyed Try.underlying9
theorem keyLit (z : List Nat) : WideAt.IsKeyLit (keyL z) := trivial
theorem zeroCell (w : World) : (zeroValue 83).run Try.prog w = .ok (.agg #[.int .i64 0, .slice none 0 0]) w := by kernel_rfl

theorem cell_ne_map {w : World} {p : Addr} {v : Value} (h : w.cell? p = some v) {mb ck : Nat} {es : Array MapEntry} (hm : w.heap[mb]? = some (.map es ck)) : p.block ≠ mb := by
  intro e
  unfold World.cell? at h
  rw [e, hm] at h
  cases h
abbrev celV (c : CelM) (A : Option Addr) (n k : Nat) : Value := .agg #[.int .i64 (c.tat : Nat), .slice A n k]
/-- The map reads as M. -/
structure MapR (w : World) (D : DataW Value) (M : BkMap) : Prop where
  no : ∀ z, (∀ d ∈ z, d < 256) → M z = none → Maps.has D (keyL z) = false
  yes : ∀ z c, M z = some c → Maps.has D (keyL z) = true ∧ ∃ A n k, (∀ zd, D.atKey (keyL z) zd = .held (celV c A n k)) ∧ ArgI w w.heap.size A n k c.held ∧ Shp A k

section
variable {w w' : World} {mb b : Nat} {D : DataW Value} {M : BkMap}
theorem ArgI.offm {B n c : Nat} {A : Option Addr} {zs : List Int} (h : ArgI w B A n c zs) (hB : B ≤ w.heap.size) {es : Array MapEntry} {ck : Nat} (hm : w.heap[mb]? = some (.map es ck)) (ho : Off [mb] w w') : ArgI w' w'.heap.size A n c zs :=
  ⟨h.len, h.le, h.cap, h.none_, fun hn => by
    obtain ⟨b, off, e, hb, hc⟩ := h.at_ hn
    have hne : b ≠ mb := cell_ne_map (p := ⟨b, off + 0, none⟩) (hc 0 hn) hm
    exact ⟨b, off, e, Nat.lt_of_lt_of_le (Nat.lt_of_lt_of_le hb hB) ho.size, fun k hk => (ho.cell (p := ⟨b, off + k, none⟩) (Nat.lt_of_lt_of_le hb hB) (by simpa using hne)).trans (hc k hk)⟩⟩
theorem ArgC.offm {B k n c : Nat} {A : Option Addr} {cs : List Value} (h : ArgC w B k A n c cs) (hB : B ≤ w.heap.size) (hk : 0 < k) {es : Array MapEntry} {ck : Nat} (hm : w.heap[mb]? = some (.map es ck)) (ho : Off [mb] w w') : ArgC w' w'.heap.size k A n c cs :=
  ⟨h.len, h.le, h.cap, h.none_, fun hn => by
    obtain ⟨b, off, e, hb, hc⟩ := h.at_ hn
    have hl := h.len
    have hnk : 0 < n * k := Nat.mul_pos hn hk
    have h0 := hc 0 hnk
    rw [List.getElem?_eq_getElem (by omega)] at h0
    have hne : b ≠ mb := cell_ne_map (p := ⟨b, off + 0, none⟩) h0 hm
    exact ⟨b, off, e, Nat.lt_of_lt_of_le (Nat.lt_of_lt_of_le hb hB) ho.size, fun j hj => (ho.cell (p := ⟨b, off + j, none⟩) (Nat.lt_of_lt_of_le hb hB) (by simpa using hne)).trans (hc j hj)⟩⟩
theorem MapR.offm (h : MapR w D M) {es : Array MapEntry} {ck : Nat} (hm : w.heap[mb]? = some (.map es ck)) (ho : Off [mb] w w') : MapR w' D M :=
  ⟨h.no, fun z c hz => by
    obtain ⟨h1, A, n, k, h2, h3, h4⟩ := h.yes z c hz
    exact ⟨h1, A, n, k, h2, h3.offm (Nat.le_refl _) hm ho, h4⟩⟩
theorem MapR.below (h : MapR w D M) (hb : Below w.heap.size w w') : MapR w' D M :=
  ⟨h.no, fun z c hz => by
    obtain ⟨h1, A, n, k, h2, h3, h4⟩ := h.yes z c hz
    exact ⟨h1, A, n, k, h2, (h3.below hb).more hb.size, h4⟩⟩
def putB (M : BkMap) (z : List Nat) (c : CelM) : BkMap := fun y => if y = z then some c else M y
theorem MapR.put (h : MapR w D M) (hD : IsMap D) (hM : ∀ y c, M y = some c → ∀ d ∈ y, d < 256) {z : List Nat} (hz : ∀ d ∈ z, d < 256) {c : CelM} {A : Option Addr} {n k : Nat} (ha : ArgI w w.heap.size A n k c.held) (hs : Shp A k) :
    MapR w (D.put (keyL z) (.held (celV c A n k))) (putB M z c) := by
  refine ⟨fun y hy hno => ?_, fun y c' hc => ?_⟩
  · unfold putB at hno
    by_cases e : y = z
    · rw [if_pos e] at hno; cases hno
    · rw [if_neg e] at hno
      rw [has_put_other (fun hk => e (keyL_inj hy hz hk))]
      exact h.no y hy hno
  · unfold putB at hc
    by_cases e : y = z
    · rw [if_pos e] at hc
      cases hc
      subst e
      exact ⟨has_put_same hD (keyLit y) _, A, n, k, fun zd => atKey_put_same hD (keyLit y) _ _, ha, hs⟩
    · rw [if_neg e] at hc
      obtain ⟨h1, A', n', k', h2, h3⟩ := h.yes y c' hc
      have hne : keyL y ≠ keyL z := fun hk => e (keyL_inj (hM y c' hc) hz hk)
      exact ⟨by rw [has_put_other hne]; exact h1, A', n', k', fun zd => by rw [atKey_put_other hne]; exact h2 zd, h3⟩
theorem own_map {k : Nat} (h : w.ownsMap Try.prog 9 RV mb k D) : ∃ es ck, w.heap[mb]? = some (.map es ck) := by
  obtain ⟨es, ck, hb, _⟩ := h
  exact ⟨es, ck, hb⟩
theorem own_tight {k : Nat} (h : w.ownsMap Try.prog 9 RV mb k D) : w.ownsMap Try.prog 9 RV mb (Maps.size D) D := by
  obtain ⟨es, ck, hb, F, hs, hD⟩ := h
  refine ⟨es, ck, hb, F, ?_, hD⟩
  rw [hD]
  simp [Maps.size, length_sorted]
end

/-- A book in memory. -/
structure BkR (w : World) (b : Nat) (A : Option Addr) (n c : Nat) (l : List PolM) (room mb k : Nat) (M : BkMap) : Prop where
  blk : BlkL w b [.slice A n c, .int .i64 (room : Nat), .map (some mb)]
  pol : ArgC w w.heap.size 4 A n c (FP l)
  okp : l.all polB = true
  len : l.length ≤ 32
  room : 1 ≤ room ∧ room ≤ 4096
  map : ∃ D, w.ownsMap Try.prog 9 RV mb (Maps.size D) D ∧ Maps.size D ≤ k ∧ MapR w D M
  inf : ∀ z c, M z = some c → ∃ p zs, z = p :: zs ∧ p < l.length ∧ zs.length ≤ 255 ∧ (∀ d ∈ zs, d < 256) ∧ c.ok (l.getD p noPol)
section
variable {w w' : World} {b n c room mb k : Nat} {A : Option Addr} {l : List PolM} {M : BkMap}
theorem BkR.bytes (h : BkR w b A n c l room mb k M) : ∀ y e, M y = some e → ∀ d ∈ y, d < 256 := fun y e he d hd => by
  obtain ⟨p, zs, rfl, hp, _, hz, _⟩ := h.inf y e he
  have := h.len
  rcases List.mem_cons.1 hd with rfl | hd
  · omega
  · exact hz d hd
theorem BkR.below (h : BkR w b A n c l room mb k M) (hb : Below w.heap.size w w') : BkR w' b A n c l room mb k M := by
  obtain ⟨D, h1, h2, h3⟩ := h.map
  have hlt := h1.lt
  obtain ⟨es, ck, hmb, r⟩ := h1
  exact ⟨h.blk.below hb, (h.pol.below hb).more hb.size, h.okp, h.len, h.room, ⟨D, ⟨es, ck, (hb.block mb hlt).trans hmb, r⟩, h2, h3.below hb⟩, h.inf⟩
/-- Another book's map is written. -/
theorem BkR.other (h : BkR w b A n c l room mb k M) {m2 ck : Nat} {es : Array MapEntry} (hm : w.heap[m2]? = some (.map es ck)) (hne : mb ≠ m2) (ho : Off [m2] w w') : BkR w' b A n c l room mb k M := by
  obtain ⟨D, h1, h2, h3⟩ := h.map
  have hlt := h1.lt
  obtain ⟨es', ck', hmb, r⟩ := h1
  have hb2 : b ≠ m2 := cell_ne_map (p := ⟨b, 0, none⟩) (h.blk.cell 0 _ rfl) hm
  exact ⟨h.blk.off ho (by simpa using hb2), h.pol.offm (Nat.le_refl _) (by omega) hm ho, h.okp, h.len, h.room, ⟨D, ⟨es', ck', (ho.block mb hlt (by simpa using hne)).trans hmb, r⟩, h2, h3.offm hm ho⟩, h.inf⟩
theorem BkR.mono (h : BkR w b A n c l room mb k M) {k' : Nat} (hk : k ≤ k') : BkR w b A n c l room mb k' M := by
  obtain ⟨D, h1, h2, h3⟩ := h.map
  exact ⟨h.blk, h.pol, h.okp, h.len, h.room, ⟨D, h1, by omega, h3⟩, h.inf⟩
end
end Go.Proofs.Ytnkecjjfbllgdaa
