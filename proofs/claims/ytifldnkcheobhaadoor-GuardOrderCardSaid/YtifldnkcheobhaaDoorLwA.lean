/- Programs that a law lays, and what Run answers of them. -/
import Derived.Test.YtifldnkcheobhaaDoorTxt
import Derived.Test.YtifldnkcheobhaaDoorEnd
namespace Go.Proofs.YtifldnkcheobhaaDoor
open Go.RowKit
set_option maxRecDepth 100000
set_option linter.unusedVariables false
set_option linter.unusedSimpArgs false
set_option maxHeartbeats 4000000

def FAc (f : List ActV) : List Value := f.flatMap fun x => [.int .u8 (x.1 : Int), .int .i64 x.2]
theorem FAc_at : ∀ (f : List ActV) (j : Nat) (x : ActV), f[j]? = some x → (FAc f)[j * 2]? = some (.int .u8 (x.1 : Int)) ∧ (FAc f)[j * 2 + 1]? = some (.int .i64 x.2) := by
  intro f
  induction f with
  | nil => intro j x h; simp at h
  | cons a r ih =>
    intro j x h
    cases j with
    | zero => simp at h; subst h; simp [FAc]
    | succ j =>
      simp at h
      have := ih j x h
      have e1 : (j + 1) * 2 = j * 2 + 1 + 1 := by omega
      rw [e1]
      simpa [FAc] using this
theorem ActP.of_blk {w : World} {b B c : Nat} {f : List ActV} (h : BlkL w b (FAc f)) (hb : b < B) : ActP w B (.slice (some ⟨b, 0, none⟩) f.length c) f := by
  refine ⟨_, _, rfl, (fun e => by cases e), fun a ha => ?_⟩
  injection ha with ha
  subst ha
  refine ⟨rfl, hb, h.lt, fun j x hx => ?_⟩
  have := FAc_at f j x hx
  exact ⟨by have := h.cell _ _ this.1; simpa using this, by have := h.cell _ _ this.2; simpa using this⟩
theorem ProgQ.of_blk {w : World} {ob B c : Nat} {fs : List (Nat × List ActV)} (h : BlkL w ob (fs.map fun q => .slice (some ⟨q.1, 0, none⟩) q.2.length q.2.length)) (hi : ∀ q ∈ fs, BlkL w q.1 (FAc q.2) ∧ q.1 < B) (hb : ob < B) :
    ProgQ w B (.slice (some ⟨ob, 0, none⟩) (fs.map Prod.snd).length c) (fs.map Prod.snd) := by
  refine ⟨_, _, rfl, (fun e => by cases e), fun a ha => ?_⟩
  injection ha with ha
  subst ha
  refine ⟨rfl, hb, fun i f hf => ?_⟩
  rw [List.getElem?_map] at hf
  cases hq : fs[i]? with
  | none => rw [hq] at hf; simp at hf
  | some q =>
    rw [hq] at hf
    simp at hf
    subst hf
    refine ⟨_, by have := h.cell i (.slice (some ⟨q.1, 0, none⟩) q.2.length q.2.length) (by rw [List.getElem?_map, hq]; rfl); simpa using this, ?_⟩
    have := hi q (List.mem_of_getElem? hq)
    exact ActP.of_blk this.1 this.2
/-- Every act may stand where it stands. -/
def AllOk (m : Nat) : Nat → List (List ActV) → Prop
  | _, [] => True
  | i, f :: r => (f.length ≤ 64 ∧ ∀ x ∈ f, ActOk i m x ∧ -9223372036854775808 ≤ x.2 ∧ x.2 ≤ 9223372036854775807) ∧ AllOk m (i + 1) r
theorem AllOk.at {m : Nat} : ∀ {p : List (List ActV)} {k : Nat}, AllOk m k p → ∀ i f, p[i]? = some f → f.length ≤ 64 ∧ ∀ x ∈ f, ActOk (k + i) m x ∧ -9223372036854775808 ≤ x.2 ∧ x.2 ≤ 9223372036854775807 := by
  intro p
  induction p with
  | nil => intro k _ i f h; simp at h
  | cons a r ih =>
    intro k h i f hf
    cases i with
    | zero => simp at hf; subst hf; exact h.1
    | succ i =>
      simp at hf
      have := ih h.2 i f hf
      rw [show k + (i + 1) = k + 1 + i by omega]
      exact this
theorem AllOk.progOk {p : List (List ActV)} (h : AllOk p.length 0 p) (h1 : p.length ≤ 32) (h2 : 0 < p.length) : ProgOk p :=
  ⟨h1, h2, fun i f hf => by have := h.at i f hf; simpa using this⟩
theorem ProgOk.chk {p : List (List ActV)} (h : ProgOk p) {r : Nat} (hc : ChkV p r) : r = 0 := by
  have hl : longB p = false := by
    simp only [longB, Bool.or_eq_false_iff, decide_eq_false_iff_not, List.any_eq_false]
    refine ⟨by have := h.len; omega, fun f hf => ?_⟩
    obtain ⟨i, hi⟩ := List.mem_iff_getElem?.1 hf
    have := (h.acts i f hi).1
    simp; omega
  rcases hc with ⟨h1, _⟩ | ⟨_, h1, _⟩ | ⟨_, _, ⟨i, f, x, h1, h2, h3⟩, _⟩ | ⟨_, _, _, h1⟩
  · rw [hl] at h1; cases h1
  · have := h.pos; rw [h1] at this; simp at this
  · exact absurd ((h.acts i f h1).2 x h2).1 h3
  · exact h1
theorem ProgOk.range {p : List (List ActV)} (h : ProgOk p) : ProgR p :=
  ⟨by have := h.len; omega, fun i f hf => ⟨by have := (h.acts i f hf).1; omega, fun x hx => by have := (h.acts i f hf).2 x hx; exact ⟨this.1.1, this.2⟩⟩⟩
/-- What Run of a right program leaves. -/
def RunL (W : World) (R : RunR) (e : Ending) (w' : World) : Prop :=
  ∃ A c, e = .returned (.tuple #[.slice A R.st.marks.length c, .agg #[.int .u8 ((noneV R.out).1 : Int), .int .i64 (noneV R.out).2], .int .i64 0]) ∧ OwnS w' W.heap.size 3 A R.st.marks.length c (FMk R.st.marks) ∧ Below W.heap.size W w'
/-- The library's variables as the laws need them. -/
structure Lib0 (w0 : World) : Prop where
  err : w0.cell? ⟨0, 0, none⟩ = some ERRT
  tab : Lib.TabIs Tryd.prog w0 "internal/strconv.uint64pow10" .u64 Lib.pow10Tab
  size : 6 ≤ w0.heap.size
theorem Lib0.glb {w0 w : World} (h : Lib0 w0) (hb : Below w0.heap.size w0 w) : Glb w0 w :=
  ⟨h.err, fun k hk => hb.block k (by have := h.size; omega), Nat.le_trans h.size hb.size⟩
theorem run_ok {w0 W : World} (h0 : Lib0 w0) (hb : Below w0.heap.size w0 W) {Pa : Value} {p : List (List ActV)} (hq : ProgQ W W.heap.size Pa p) (hp : ProgOk p) :
    Calls Tryd.prog 13 #[Pa] W (RunL W (runP p)) := by
  refine (run_all w0 h0.tab W Pa p (h0.glb hb) hq hp.range).mono ?_
  intro e w' hE
  obtain ⟨r, hc, hbel, hor⟩ := hE
  obtain rfl := hp.chk hc
  rcases hor with ⟨hh, _⟩ | ⟨_, A, c, h1, h2⟩
  · exact absurd rfl hh
  · exact ⟨A, c, h1, h2, hbel⟩
/-- .. of a program that a law lays. -/
theorem run_lit {w0 W : World} (h0 : Lib0 w0) (hb : Below w0.heap.size w0 W) (ob : Nat) (fs : List (Nat × List ActV)) (h : BlkL W ob (fs.map fun q => .slice (some ⟨q.1, 0, none⟩) q.2.length q.2.length)) (hi : ∀ q ∈ fs, BlkL W q.1 (FAc q.2))
    (h1 : fs.length ≤ 32) (h2 : 0 < fs.length) (hok : AllOk fs.length 0 (fs.map Prod.snd)) (R : RunR) (hR : runP (fs.map Prod.snd) = R) :
    Calls Tryd.prog 13 #[.slice (some ⟨ob, 0, none⟩) fs.length fs.length] W (RunL W R) := by
  have hq := ProgQ.of_blk (B := W.heap.size) (c := fs.length) h (fun q hq => ⟨hi q hq, (hi q hq).lt⟩) h.lt
  rw [List.length_map] at hq
  have := run_ok h0 hb hq (AllOk.progOk (by rw [List.length_map]; exact hok) (by rw [List.length_map]; exact h1) (by rw [List.length_map]; exact h2))
  rw [hR] at this
  exact this
theorem FMk_at : ∀ (l : List MarkV) (i : Nat) (x : MarkV), l[i]? = some x → (FMk l)[i * 3]? = some (.int .u8 (x.1 : Int)) ∧ (FMk l)[i * 3 + 1]? = some (.int .u8 (x.2.1 : Int)) ∧ (FMk l)[i * 3 + 2]? = some (.int .i64 x.2.2) := by
  intro l
  induction l with
  | nil => intro i x h; simp at h
  | cons a r ih =>
    intro i x h
    cases i with
    | zero => simp at h; subst h; simp [FMk, MkV]
    | succ i =>
      simp at h
      have := ih i x h
      have e1 : (i + 1) * 3 = i * 3 + 1 + 1 + 1 := by omega
      rw [e1]
      simpa [FMk, MkV] using this
/-- The marks are the document's. -/
theorem same9_any (w : World) (B b2 c c2 : Nat) (A : Option Addr) (l : List MarkV) (h : OwnS w B 3 A l.length c (FMk l)) (h2 : BlkL w b2 (FMk l)) (hl : l.length ≤ 8192) :
    Calls Tryd.prog 24 #[.slice A l.length c, .slice (some ⟨b2, 0, none⟩) l.length c2] w fun e w' => e = .returned (.bool true) ∧ ∃ n, w' = w.drewN n := by
  have hne : ((l.length : Int) != (l.length : Int)) = false := by simp
  have HO := Lib.hid h
  have H2 := Lib.hid h2
  clear h h2
  go_enter Tryd.func24, Tryd.ntmps24
  go_wp2
  go_loopw [13] (fun iv wr => ∃ i : Nat, i ≤ l.length ∧ iv = .int .i64 (i : Int) ∧ ∃ n, wr = w.drewN n) (fun iv _ => l.length - (intOf iv).toNat)
  case atStart => exact ⟨0, Nat.zero_le _, rfl, 0, rfl⟩
  case round =>
    obtain ⟨i, hi, rfl, n, rfl⟩ := hrel
    rcases Nat.lt_or_ge i l.length with h1 | h1
    · have hii : (i : Int) < (l.length : Int) := by omega
      have hi1 : IntKind.i64.wrap ((i : Int) + 1) = ((i + 1 : Nat) : Int) := by rw [IntWalk.i64_in _ (by omega)]; omega
      obtain ⟨⟨mk, mc, mn⟩, hx⟩ : ∃ x, l[i]? = some x := ⟨l[i], List.getElem?_eq_getElem h1⟩
      obtain ⟨f0, f1, f2⟩ := FMk_at l i _ hx
      obtain ⟨b, off, rfl, _, hbl, hcl, _⟩ := HO.out.cell (by omega)
      have a0 : (w.drewN n).cell? ⟨b, off + i * 3, none⟩ = some (.int .u8 (mk : Int)) := hcl _ _ f0
      have a1 : (w.drewN n).cell? ⟨b, off + i * 3 + 1, none⟩ = some (.int .u8 (mc : Int)) := hcl _ _ f1
      have a2 : (w.drewN n).cell? ⟨b, off + i * 3 + 2, none⟩ = some (.int .i64 mn) := hcl _ _ f2
      have hq := H2.out.drewN n
      have b0 : (w.drewN n).cell? ⟨b2, i * 3, none⟩ = some (.int .u8 (mk : Int)) := hq.cell _ _ f0
      have b1 : (w.drewN n).cell? ⟨b2, i * 3 + 1, none⟩ = some (.int .u8 (mc : Int)) := hq.cell _ _ f1
      have b2' : (w.drewN n).cell? ⟨b2, i * 3 + 2, none⟩ = some (.int .i64 mn) := hq.cell _ _ f2
      clear hcl hq f0 f1 f2 hx
      generalize hw2 : w.drewN n = w2 at *
      go_upto_region 6 with (fail)
      go_region
      go_wp2
      go_roundw
      case rel => exact ⟨i + 1, by omega, rfl, n + 1, by rw [← hw2]; rfl⟩
      case measure => simp [intOf]; omega
    · obtain rfl : i = l.length := by omega
      have hii : ¬ (l.length : Int) < (l.length : Int) := by omega
      go_wp2
      go_ret
      exact ⟨rfl, n, rfl⟩
end Go.Proofs.YtifldnkcheobhaaDoor
