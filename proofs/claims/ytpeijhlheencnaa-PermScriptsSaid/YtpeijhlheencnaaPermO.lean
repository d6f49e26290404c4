/- Contract of the laws on perm: of. -/
import Derived.Test.YtpeijhlheencnaaPermS
import Derived.Deep.RegionHeld3
namespace Go.Proofs.Ytpeijhlheencnaa
open Go.RowKit
set_option maxRecDepth 100000

theorem BlkL.low {w w' : World} {b B : Nat} {xs : List Value} (h : BlkL w b xs) (hb : Below B w w') (hlt : b < B) : BlkL w' b xs :=
  ⟨Nat.lt_of_lt_of_le h.lt hb.size, fun i v hv => (hb.cell (p := ⟨b, i, none⟩) hlt).trans (h.cell i v hv), fun i hi => (hb.frozen (p := ⟨b, i, none⟩) hlt).trans (h.froz i hi)⟩

set_option maxHeartbeats 3200000 in
theorem of6_any (w : World) (B : Nat) (A : Option Addr) (n c : Nat) (xs : List Int) (p : Int) (h : ArgI w B A n c xs) (hB : B ≤ w.heap.size) (hn : n ≤ 17592186044000) :
    Calls Try.prog 35 #[.agg #[.int .i64 p, .slice A n c]] w fun e w' => ∃ A' c', e = .returned (.tuple #[.agg #[.int .i64 p, .slice A' n c'], .slice A' (n + 2) c']) ∧ OwnI w' w.heap.size A' (n + 2) c' (xs ++ [77, 78]) ∧ Below w.heap.size w w' := by
  obtain ⟨Wa, hWa⟩ : ∃ Wa, Wa = (w.alloc (.cells #[.int .i64 p, .slice A n c] 81)).alloc (.cells #[.int .i64 0, .slice none 0 0] 52) := ⟨_, rfl⟩
  have hb0 : Below w.heap.size w (Wa.alloc (.cells #[] 2)) := by rw [hWa]; exact (((Below.refl _ _).alloc (Nat.le_refl _) _).alloc (by simp) _).alloc (by simp; omega) _
  have hO : OwnI (Wa.alloc (.cells #[] 2)) (w.heap.size + 1 + 1) (some ⟨w.heap.size + 1 + 1, 0, none⟩) 0 0 [] := by
    have := OwnI.lit Wa [] (n := 0) rfl (by unfold maxLen; omega)
    rw [show Wa.heap.size = w.heap.size + 1 + 1 by rw [hWa]; simp] at this
    exact this
  have HO := Lib.hid hO
  have HA := Lib.hid ((h.more hB).below hb0)
  have HB0 := Lib.hid hb0
  have hl := ((BlkL.new w [.int .i64 p, .slice A n c] 81).alloc (.cells #[.int .i64 0, .slice none 0 0] 52)).alloc (.cells #[] 2)
  have hr := (BlkL.new (w.alloc (.cells #[.int .i64 p, .slice A n c] 81)) [.int .i64 0, .slice none 0 0] 52).alloc (.cells #[] 2)
  try simp only [World.size_alloc] at hr
  rw [hWa] at HO HA HB0
  have HL0 := Lib.hid hl
  have HR0 := Lib.hid hr
  have hcap := h.cap
  have hle := h.le
  clear hWa hb0 hO h hl hr
  go_enter Try.func35, Try.ntmps35
  go_wp2_with (refine wpList_append_ints rfl (.tmp 5) (.tmp 7) rfl (w.heap.size + 1 + 1) (some ⟨w.heap.size + 1 + 1, 0, none⟩) 0 0 [] rfl HO.out w.heap.size A n c xs rfl HA.out (by omega) (by simp) ?_)
  intro A1 c1 w1 ho hb
  have HO1 := Lib.hid ho
  have hz1 : w.heap.size + 1 + 1 + 1 ≤ w1.heap.size := by have := hb.size; simpa using this
  have HL1 := Lib.hid (HL0.out.low hb (by omega))
  have HR1 := Lib.hid (HR0.out.low hb (by omega))
  have HB1 := Lib.hid (HB0.out.trans (hb.mono (by omega)))
  clear ho hb
  go_wp2_with (refine wpList_append_ints rfl (.tmp 8) (.tmp 9) rfl (w.heap.size + 1 + 1) A1 n c1 xs rfl (HO1.out.below ((Below.refl _ _).alloc (Nat.le_refl _) _)) (w1.heap.size + 1) (some ⟨w1.heap.size, 0, none⟩) 2 2 [77, 78] rfl (ints_lit6 w1 [77, 78] 2 rfl (by omega)) (by omega) (by simp; omega) ?_)
  intro A2 c2 w2 ho hb
  have hle2 : n + 2 ≤ c2 := ho.arg.le
  have HO2 := Lib.hid ho
  have hbb := ((Below.refl w1.heap.size w1).alloc (Nat.le_refl _) (.cells #[.int .i64 77, .int .i64 78] 2))
  have bl := (HL1.out.alloc (.cells #[.int .i64 77, .int .i64 78] 2)).low hb (by omega)
  have br := (HR1.out.alloc (.cells #[.int .i64 77, .int .i64 78] 2)).low hb (by omega)
  have HB2 := Lib.hid ((HB1.out.alloc (by have := HB1.out.size; omega) _).trans (hb.mono (by omega)))
  have hz2 : w1.heap.size + 1 ≤ w2.heap.size := by have := hb.size; simpa using this
  clear ho hb hbb
  have l0 := bl.cell 0 _ rfl
  have l1 := bl.cell 1 _ rfl
  have r0 := br.cell 0 _ rfl
  have r1 := br.cell 1 _ rfl
  have f0 := br.froz 0 (by simp)
  have f1 := br.froz 1 (by simp)
  have HR2 := Lib.hid br
  clear bl br
  have k1 : n ≤ c2 := by omega
  have k2 : (n : Int) ≤ (c2 : Int) := by omega
  have k3 : (0 : Int) ≤ (n : Int) := by omega
  go_wp2_with fail
  go_region_held3 (fun w' => w'.cell? ⟨w.heap.size, 0, none⟩ = some (.int .i64 p) ∧ w'.cell? ⟨w.heap.size, 1, none⟩ = some (.slice A n c)) (go_keep) (fail)
  rename_i hHeld
  clear hHeld
  have bz := (HR2.out.put2 (.int .i64 p) (.slice A2 n c2)).drew
  have z0 := bz.cell 0 _ rfl
  have z1 := bz.cell 1 _ rfl
  have hbz := (below_put2 HB2.out (b := w.heap.size + 1) (by omega) (.int .i64 p) (.slice A2 n c2)).drew
  have hoz := ((HO2.out.other (b := w.heap.size + 1) (i := 0) (v := .int .i64 p) (by omega)).other (b := w.heap.size + 1) (i := 1) (v := .slice A2 n c2) (by omega)).mono (B' := w.heap.size) (by omega)
  have HZ0 := Lib.hid z0
  have HZ1 := Lib.hid z1
  clear bz l0 l1 r0 r1 f0 f1 z0 z1 k1 k2 k3
  go_wp2
  have z0 := HZ0.out
  have z1 := HZ1.out
  exact bodyPost_ret (v := .tuple #[.agg #[.int .i64 p, .slice A2 n c2], .slice A2 (n + 2) c2]) (by simp [results, Try.results35, go_sem, z0, z1]) rfl ⟨A2, c2, rfl, hoz, hbz⟩
end Go.Proofs.Ytpeijhlheencnaa
