/- Contract: parts. -/
import Derived.Test.YtndgladfcogiiaaTokF
import Derived.Deep.RegionHeld3
namespace Go.Proofs.Ytndgladfcogiiaa
open Go.RowKit
set_option maxRecDepth 100000
set_option linter.unusedVariables false

theorem Arg.drew {w : World} {B n c : Nat} {A : Option Addr} {zs : List Nat} (h : Arg w B A n c zs) : Arg w.drew B A n c zs := ⟨h.len, h.le, h.cap, h.byte, h.none_, h.at_⟩
theorem BlkL.put3 {w : World} {b : Nat} {x0 x1 x2 : Value} (h : BlkL w b [x0, x1, x2]) (v0 v1 v2 : Value) : BlkL (((w.setCell ⟨b, 0, none⟩ v0).setCell ⟨b, 1, none⟩ v1).setCell ⟨b, 2, none⟩ v2) b [v0, v1, v2] := by
  have := ((h.set 0 v0 (by simp)).set 1 v1 (by simp)).set 2 v2 (by simp)
  simpa only [List.set_cons_zero, List.set_cons_succ] using this
theorem below_put3 {B : Nat} {a w : World} (h : Below B a w) {b : Nat} (hb : B ≤ b) (v0 v1 v2 : Value) : Below B a (((w.setCell ⟨b, 0, none⟩ v0).setCell ⟨b, 1, none⟩ v1).setCell ⟨b, 2, none⟩ v2) :=
  ((h.setCell (p := ⟨b, 0, none⟩) hb v0).setCell (p := ⟨b, 1, none⟩) hb v1).setCell (p := ⟨b, 2, none⟩) hb v2
theorem OwnB.other {w : World} {B n c : Nat} {A : Option Addr} {xs : List Nat} (h : OwnB w B A n c xs) {b i : Nat} {v : Value} (hb : b < B) : OwnB (w.setCell ⟨b, i, none⟩ v) B A n c xs := by
  rcases h with ⟨⟨h0, h | ⟨g, cap, cur, h1, h2, h3, h4⟩⟩, hby⟩
  · exact ⟨⟨h0, .inl h⟩, hby⟩
  · exact ⟨⟨h0, .inr ⟨g, cap, cur, h1, h2, by rw [heap_setCell_other _ _ _ _ (by show g ≠ b; omega)]; exact h3, h4⟩⟩, hby⟩
abbrev Tok0 : Value := .agg #[.int .i64 0, .slice none 0 0, .int .i64 0]

set_option maxHeartbeats 800000 in
theorem parts7_short (w : World) (A : Option Addr) (n c : Nat) (hn : n < 4) :
    Calls Try.prog 74 #[.slice A n c] w (ValEnd w (.tuple #[Tok0, .bool false])) := by
  go_enter Try.func74, Try.ntmps74
  go_wp2
  exact bodyPost_ret (v := .tuple #[Tok0, .bool false]) (by simp [results, Try.results74, go_sem]) rfl ⟨rfl, (Below.refl _ _).alloc (Nat.le_refl _) _⟩

set_option maxHeartbeats 1600000 in
theorem parts7_good (w : World) (B : Nat) (A : Option Addr) (n c p : Nat) (zs : List Nat) (h : Arg w B A (n + 16) c zs) (hB : B ≤ w.heap.size) (h3 : zs.getD 3 0 = n) (h2 : zs.getD 2 0 = p) :
    Calls Try.prog 74 #[.slice A (n + 16) c] w fun e w' => ∃ A' c', e = .returned (.tuple #[.agg #[.int .i64 (p : Int), .slice A' n c', .int .i64 (IntKind.i64.wrap (Tk.numV ((zs.drop (4 + n)).take 8) : Nat))], .bool true]) ∧ OwnB w' w.heap.size A' n c' ((zs.drop 4).take n) ∧ Below w.heap.size w w' := by
  have hle := h.le
  have hb3 := h.lt 3
  have hb2 := h.lt 2
  rw [h3] at hb3
  rw [h2] at hb2
  have hkey := (h.from_ (k := 4) (by omega))
  have hrest := (h.from_ (k := 4 + n) (by omega))
  obtain ⟨b, off, rfl, hbB, hc⟩ := h.at_ (by omega)
  rw [if_neg (by omega)] at hkey hrest
  simp only [Option.map_some, Addr.add] at hkey hrest
  rw [if_neg (by omega : ¬ 4 = 0)] at hkey
  rw [if_neg (by omega : ¬ 4 + n = 0)] at hrest
  have hkey := hkey.take (k := n) (by omega)
  have hc3 : w.cell? ⟨b, off + 3, none⟩ = some (.int .u8 (n : Int)) := by rw [hc 3 (by omega), h3]
  have hc2 : w.cell? ⟨b, off + 2, none⟩ = some (.int .u8 (p : Int)) := by rw [hc 2 (by omega), h2]
  have HKEY := Lib.hid hkey
  have HREST := Lib.hid hrest
  have hcap := h.cap
  unfold maxLen at hcap
  clear h hc h3 h2 hkey hrest
  have q1 : decide ((n : Int) + 16 < 4) = false := decide_eq_false (by omega)
  have q2 : ((n : Int) + 16 != (n : Int) + 16) = false := by simp
  have q3 : decide ((4 : Int) ≤ 4 + (n : Int)) = true := decide_eq_true (by omega)
  have hw : IntKind.i64.wrap (n : Int) = (n : Int) := IntWalk.i64_in _ (by omega)
  have hbw : b < w.heap.size := by omega
  go_enter Try.func74, Try.ntmps74
  go_wp2_with fail
  with_reducible refine (lenOf_any _ n (by omega)).mono ?_
  rintro e w1 ⟨rfl, rfl⟩
  go_wp2
  go_quiet (fail)
  go_wp2
  have hN : 4 + n - 4 = n := by omega
  rw [hN]
  have b0 : Below w.heap.size w ((w.alloc (.cells #[.int .i64 0, .slice none 0 0, .int .i64 0] 24)).drewN nq) := below_drewN ((Below.refl w.heap.size w).alloc (Nat.le_refl _) _) nq
  have kr := (BlkL.new w [.int .i64 0, .slice none 0 0, .int .i64 0] 24).drewN nq
  have hs0 : ((w.alloc (.cells #[.int .i64 0, .slice none 0 0, .int .i64 0] 24)).drewN nq).heap.size = w.heap.size + 1 := by simp
  obtain ⟨wr, hwr⟩ : ∃ x, x = (w.alloc (.cells #[.int .i64 0, .slice none 0 0, .int .i64 0] 24)).drewN nq := ⟨_, rfl⟩
  rw [← hwr] at b0 kr hs0
  rw [← hwr]
  clear hwr hN
  have hcb : wr.cell? ⟨b, off + 2, none⟩ = some (.int .u8 (p : Int)) := (b0.cell (p := ⟨b, off + 2, none⟩) hbw).trans hc2
  have HK := Lib.hid ((HKEY.out.more hB).below b0).drew
  have HR := Lib.hid (((HREST.out.more hB).below b0).drew.take (k := 8) (by omega))
  have HB0 := Lib.hid b0.drew
  have KR := Lib.hid kr.drew
  have hz := kr.lt
  clear b0 kr hc2 hc3
  have hne : w.heap.size ≠ b := by omega
  have i2 : (2 : Int) < (n : Int) + 16 := by omega
  have i2' : ¬ (n + 16 ≤ 2) := by omega
  have i8 : (8 : Int) ≤ ((c - (4 + n) : Nat) : Int) := by omega
  have i8' : 8 ≤ c - (4 + n) := by omega
  have hwp : IntKind.i64.wrap (p : Int) = (p : Int) := IntWalk.i64_in _ (by omega)
  have hcl : Calls Try.prog 118 #[.slice (some ⟨b, off + 4, none⟩) n (c - 4)] wr.drew (fun e w2 => ∃ A' c', e = .returned (.slice A' n c') ∧ OwnB w2 (w.heap.size + 1) A' n c' ((zs.drop 4).take n) ∧ Below w.heap.size w w2 ∧ w2.cell? ⟨b, off + 2, none⟩ = some (.int .u8 (p : Int)) ∧ BlkL w2 w.heap.size [.int .i64 0, .slice none 0 0, .int .i64 0] ∧ Arg w2 w.heap.size (some ⟨b, off + (4 + n), none⟩) 8 (c - (4 + n)) ((zs.drop (4 + n)).take 8)) :=
    (clone_some wr.drew w.heap.size ⟨b, off + 4, none⟩ n (c - 4) _ HK.out (by simp; omega) (by omega)).mono (fun e w2 ⟨A', c', e1, ho, hb⟩ =>
      ⟨A', c', e1, ho.mono (by simp; omega), HB0.out.trans (hb.mono (by simp; omega)), (hb.cell (p := ⟨b, off + 2, none⟩) (by simp; omega)).trans hcb, KR.out.below hb, HR.out.below (hb.mono (by simp; omega))⟩)
  have HCL := Lib.hid hcl
  clear hcl
  go_region_held3 (fun w' => w'.cell? ⟨b, off + 2, none⟩ = some (.int .u8 (p : Int))) (first | go_keep | (rw [World.cell?_setCell_other _ _ _ _ hne, World.cell?_setCell_other _ _ _ _ hne, World.cell?_setCell_other _ _ _ _ hne]; exact hc2'))
    (first
    | ((with_reducible refine HCL.out.mono ?_); rintro e w2 ⟨A', c', rfl, ho, hb, hc2', kr2, hr2⟩; have HO2 := Lib.hid ho; have HB2 := Lib.hid hb; have HR2 := Lib.hid hr2; have KR2 := Lib.hid kr2; have z0 := kr2.cell 0 _ rfl; have z1 := kr2.cell 1 _ rfl; have z2 := kr2.cell 2 _ rfl; have f0 := kr2.froz 0 (by simp); have f1 := kr2.froz 1 (by simp); have f2 := kr2.froz 2 (by simp); have zz := kr2.lt; clear ho hb kr2 hr2)
    | ((with_reducible refine (number_any _ w.heap.size _ 8 _ _ (by omega) HR2.out).mono ?_); rintro e w3 ⟨rfl, rfl⟩))
  have bz := KR2.out.put3 (.int .i64 (p : Int)) (.slice A' n c') (.int .i64 (IntKind.i64.wrap (Tk.numV ((zs.drop (4 + n)).take 8) : Nat)))
  have y0 := bz.cell 0 _ rfl
  have y1 := bz.cell 1 _ rfl
  have y2 := bz.cell 2 _ rfl
  have hbz := below_put3 HB2.out (b := w.heap.size) (Nat.le_refl _) (.int .i64 (p : Int)) (.slice A' n c') (.int .i64 (IntKind.i64.wrap (Tk.numV ((zs.drop (4 + n)).take 8) : Nat)))
  have hoz := ((HO2.out.other (b := w.heap.size) (i := 0) (v := .int .i64 (p : Int)) (by omega)).other (b := w.heap.size) (i := 1) (v := .slice A' n c') (by omega)).other (b := w.heap.size) (i := 2) (v := .int .i64 (IntKind.i64.wrap (Tk.numV ((zs.drop (4 + n)).take 8) : Nat))) (by omega)
  clear bz
  go_wp2
  exact bodyPost_ret (v := .tuple #[.agg #[.int .i64 (p : Int), .slice A' n c', .int .i64 (IntKind.i64.wrap (Tk.numV ((zs.drop (4 + n)).take 8) : Nat))], .bool true]) (by simp [results, Try.results74, go_sem, y0, y1, y2]) rfl ⟨A', c', rfl, hoz.mono (by omega), hbz⟩
end Go.Proofs.Ytndgladfcogiiaa
