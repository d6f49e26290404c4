/- Contract: the document's Same, of two lists of the same entries. -/
import Derived.Test.YtpjgpiiibgogeaaEnB
import Derived.Test.YtpjgpiiibgogeaaRfC
namespace Go.Proofs.Ytpjgpiiibgogeaa
open Go.RowKit
set_option maxRecDepth 100000
set_option linter.unusedVariables false

theorem same_here (w : World) (B B' : Nat) (A A' : Option Addr) (n c m d : Nat) (xs : List Nat) (h : Arg w B A n c xs) (h' : Arg w B' A' m d xs) :
    Calls Try.prog 69 #[.slice A n c, .slice A' m d] w fun e w' => e = .returned (.bool true) ∧ Below w.heap.size w w' :=
  (same_any w B B' A A' n c m d xs xs true (by simp) h h').mono fun e w' ⟨h1, t, h2⟩ => ⟨h1, by rw [h2]; exact below_drews (Below.refl _ _) t⟩
set_option maxHeartbeats 12800000 in
theorem same14_any (w : World) (B B' : Nat) (S S' : List Nat) (A A' : Option Addr) (n c c' : Nat) (es fs : List KV) (h : VerA w B S A n c es) (h' : VerA w B' S' A' n c' fs) (he : es.map KV.ent = fs.map KV.ent) (hB : B ≤ w.heap.size) (hB' : B' ≤ w.heap.size) :
    Calls Try.prog 46 #[.slice A n c, .slice A' n c'] w fun e w' => e = .returned (.bool true) ∧ Below w.heap.size w w' := by
  have hl := h.len
  have hl' := h'.len
  have hle := h.arg.le
  have hcap := h.arg.cap
  unfold maxLen at hcap
  have HV := Lib.hid h
  have HV' := Lib.hid h'
  have HE : Hid (∀ i, i < n → (es.getD i noKV).zs = (fs.getD i noKV).zs ∧ (es.getD i noKV).v = (fs.getD i noKV).v) := Lib.hid (fun i hi => by
    have e1 := ent_at es i (by omega)
    have e2 := ent_at fs i (by omega)
    rw [he, e2] at e1
    injection e1 with e3 e4
    exact ⟨e3.symm, e4.symm⟩)
  clear h h' hl hl' he
  go_enter Try.func46, Try.ntmps46
  go_wp2
  go_loopw [13] (fun iv wr => ∃ (i : Nat), i ≤ n ∧ iv = .int .i64 (i : Int) ∧ Below w.heap.size w wr) (fun iv _ => n - (intOf iv).toNat)
  case atStart => exact ⟨0, Nat.zero_le _, rfl, Below.refl _ _⟩
  case round =>
    obtain ⟨i, hi, rfl, hbw⟩ := hrel
    have hsz := hbw.size
    rcases Nat.lt_or_ge i n with hlt | hge
    · have v1 := HV.out.below (hbw.mono hB)
      have v2 := HV'.out.below (hbw.mono hB')
      obtain ⟨g, off, rfl, hgB, hc0, hc1⟩ := v1.at_ (i := i) hlt
      obtain ⟨g', off', rfl, hgB', hc0', hc1'⟩ := v2.at_ (i := i) hlt
      obtain ⟨ez, ev⟩ := HE.out i hlt
      have hk1 := (v1.key _ (kv_mem (i := i) (by rw [v1.len]; exact hlt))).1
      have hk2 := (v2.key _ (kv_mem (i := i) (by rw [v2.len]; exact hlt))).1
      generalize es.getD i noKV = y at *
      generalize fs.getD i noKV = y' at *
      obtain ⟨xA, xn, xc, xz, xv⟩ := y
      obtain ⟨yA, yn, yc, yz, yv⟩ := y'
      simp only at hc0 hc1 hc0' hc1' ez ev hk1 hk2
      subst ez ev
      have HX := Lib.hid (same_here wr.drew B B' xA yA xn xc yn yc xz (hk1.below (Below.refl _ _).drew) (hk2.below (Below.refl _ _).drew))
      have HBW := Lib.hid (hbw.drew)
      have j0 : (0 : Int) ≤ (i : Int) := by omega
      have j1 : (i : Int) < (n : Int) := by omega
      have l1 : g < wr.drew.heap.size := by show g < wr.heap.size; omega
      have l2 : g' < wr.drew.heap.size := by show g' < wr.heap.size; omega
      clear hk1 hk2 v1 v2 hbw
      go_wp2_with fail
      go_region_held3 (fun w' => w'.cell? ⟨g, off + i * 2, none⟩ = some (.slice xA xn xc) ∧ w'.cell? ⟨g, off + i * 2 + 1, none⟩ = some (.int .i64 xv) ∧ w'.cell? ⟨g', off' + i * 2, none⟩ = some (.slice yA yn yc) ∧ w'.cell? ⟨g', off' + i * 2 + 1, none⟩ = some (.int .i64 xv)) (go_keep)
        (((with_reducible refine (HX.out).mono ?_); rintro e w2 ⟨rfl, hb2⟩; have k0 := (hb2.cell (p := ⟨g, off + i * 2, none⟩) l1).trans hc0; have k1 := (hb2.cell (p := ⟨g, off + i * 2 + 1, none⟩) l1).trans hc1; have k2 := (hb2.cell (p := ⟨g', off' + i * 2, none⟩) l2).trans hc0'; have k3 := (hb2.cell (p := ⟨g', off' + i * 2 + 1, none⟩) l2).trans hc1'; have HB2 := Lib.hid hb2; clear hb2))
      all_goals
        go_wp2
        go_roundw
        case rel => exact ⟨i + 1, by omega, by go_num, HBW.out.trans (HB2.out.mono HBW.out.size)⟩
        case measure => simp [intOf]; omega
    · obtain rfl : i = n := by omega
      have j1 : ¬ (i : Int) < (i : Int) := by omega
      go_wp2
      go_ret
      exact ⟨rfl, hbw⟩
end Go.Proofs.Ytpjgpiiibgogeaa
