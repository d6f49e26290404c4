/- Contracts of the laws on gcra: same, clamped, granted, awake. -/
import Derived.Test.YtpeijhlheencnaaGlft
import Derived.Test.YtpeijhlheencnaaClamps
namespace Go.Proofs.Ytpeijhlheencnaa
open Go.RowKit
set_option maxRecDepth 100000

set_option maxHeartbeats 400000 in
theorem results_clamped (tmps : Array Value) (w : World) (b : Nat) (x0 x1 v1 v2 v3 : Value) (h0 : tmps[8]? = some (.pointer (some ⟨b, 0, none⟩))) (h1 : tmps[9]? = some v1) (h2 : tmps[10]? = some v2) (h3 : tmps[11]? = some v3)
    (z0 : w.cell? ⟨b, 0, none⟩ = some x0) (z1 : w.cell? ⟨b, 1, none⟩ = some x1) :
    (results Try.f11 tmps).run Try.prog w = .ok (.tuple #[.agg #[x0, x1], v1, v2, v3]) w := by
  simp [results, go_sem, h0, h1, h2, h3, z0, z1]

set_option maxHeartbeats 1600000 in
theorem clamped_any (w : World) (T Tau x y z : Int) (hT : T ≤ 9223372036854775807) (hU : Tau ≤ 9223372036854775807) (hx : x ≤ 9223372036854775807) (hy : y ≤ 9223372036854775807) (hz : z ≤ 9223372036854775807) :
    Calls Try.prog 11 #[.agg #[.int .i64 T, .int .i64 Tau], .int .i64 x, .int .i64 y, .int .i64 z] w (ValEnd w (.tuple #[.agg #[.int .i64 (max (clampV T) 1), .int .i64 (clampV Tau)], .int .i64 (clampV x), .int .i64 (clampV y), .int .i64 (clampV z)])) := by
  have H1 := Lib.hid (fun w => rclamp_any w T hT)
  have H2 := Lib.hid (fun w => rclamp_any w Tau hU)
  have H3 := Lib.hid (fun w => rclamp_any w x hx)
  have H4 := Lib.hid (fun w => rclamp_any w y hy)
  have H5 := Lib.hid (fun w => rclamp_any w z hz)
  have bT := clampV_bd T
  generalize clampV T = t at *
  generalize clampV Tau = u at *
  generalize clampV x = x' at *
  generalize clampV y = y' at *
  generalize clampV z = z' at *
  clear hT hU hx hy hz
  rcases Int.lt_or_le t 1 with ht | ht
  · have HM : Hid (max t 1 = 1) := Lib.hid (by omega)
    go_enter Try.func11, Try.ntmps11
    go_wp2_with fail
    go_region_held3 (fun w' => w'.cell? ⟨w.heap.size, 0, none⟩ = some (.int .i64 T) ∧ w'.cell? ⟨w.heap.size, 1, none⟩ = some (.int .i64 Tau))
      (go_keep)
      (first
        | ((with_reducible refine (H1.out _).mono ?_); rintro e w1 ⟨rfl, hb⟩; have bl := (((BlkL.new w [.int .i64 T, .int .i64 Tau] 23).alloc (.cells #[.int .i64 0, .int .i64 0] 23)).drew).below hb; have br := ((BlkL.new (w.alloc (.cells #[.int .i64 T, .int .i64 Tau] 23)) [.int .i64 0, .int .i64 0] 23).drew).below hb; simp only [World.size_alloc] at bl br; have HB1 := Lib.hid ((((Below.refl w.heap.size w).alloc (Nat.le_refl _) _).alloc (by simp) _).drew.trans (hb.mono (by simp; omega))); clear hb; have c01 := bl.cell 0 _ rfl; have r01 := br.cell 0 _ rfl; have g01 := br.froz 0 (by simp); have c11 := bl.cell 1 _ rfl; have r11 := br.cell 1 _ rfl; have g11 := br.froz 1 (by simp); have HL1 := Lib.hid bl; have HR1 := Lib.hid br; clear bl br)
        | ((with_reducible refine (H2.out _).mono ?_); rintro e w2 ⟨rfl, hb⟩; have bl := (HL1.out).below hb; have br := (HR1.out).below hb; have HB2 := Lib.hid (HB1.out.trans (hb.mono HB1.out.size)); clear hb; have c02 := bl.cell 0 _ rfl; have r02 := br.cell 0 _ rfl; have g02 := br.froz 0 (by simp); have c12 := bl.cell 1 _ rfl; have r12 := br.cell 1 _ rfl; have g12 := br.froz 1 (by simp); have HL2 := Lib.hid bl; have HR2 := Lib.hid br; clear bl br)
        | ((with_reducible refine (H3.out _).mono ?_); rintro e w3 ⟨rfl, hb⟩; have bl := (HL2.out).below hb; have br := (HR2.out).below hb; have HB3 := Lib.hid (HB2.out.trans (hb.mono HB2.out.size)); clear hb; have c03 := bl.cell 0 _ rfl; have r03 := br.cell 0 _ rfl; have g03 := br.froz 0 (by simp); have c13 := bl.cell 1 _ rfl; have r13 := br.cell 1 _ rfl; have g13 := br.froz 1 (by simp); have HL3 := Lib.hid bl; have HR3 := Lib.hid br; clear bl br)
        | ((with_reducible refine (H4.out _).mono ?_); rintro e w4 ⟨rfl, hb⟩; have bl := (HL3.out).below hb; have br := (HR3.out).below hb; have HB4 := Lib.hid (HB3.out.trans (hb.mono HB3.out.size)); clear hb; have c04 := bl.cell 0 _ rfl; have r04 := br.cell 0 _ rfl; have g04 := br.froz 0 (by simp); have c14 := bl.cell 1 _ rfl; have r14 := br.cell 1 _ rfl; have g14 := br.froz 1 (by simp); have HL4 := Lib.hid bl; have HR4 := Lib.hid br; clear bl br)
        | ((with_reducible refine (H5.out _).mono ?_); rintro e w5 ⟨rfl, hb⟩; have bl := (HL4.out).below hb; have br := (HR4.out).below hb; have HB5 := Lib.hid (HB4.out.trans (hb.mono HB4.out.size)); clear hb; have c05 := bl.cell 0 _ rfl; have r05 := br.cell 0 _ rfl; have g05 := br.froz 0 (by simp); have c15 := bl.cell 1 _ rfl; have r15 := br.cell 1 _ rfl; have g15 := br.froz 1 (by simp); have HL5 := Lib.hid bl; have HR5 := Lib.hid br; clear bl br))
    all_goals
      rename_i hHeld
      clear hHeld HL1 HL2 HL3 HL4 HR1 HR2 HR3 HR4 HB1 HB2 HB3 HB4 H1 H2 H3 H4 H5 c01 c11 c02 c12 c03 c13 c04 c14 c05 c15 r01 r11 r02 r12 r03 r13 r04 r14 r05 r15 g01 g11 g02 g12 g03 g13 g04 g14 g05 g15
      go_wp2
      have bz := HR5.out.put2 (.int .i64 1) (.int .i64 u)
      have z0 := bz.cell 0 _ rfl
      have z1 := bz.cell 1 _ rfl
      have hbz := below_put2 HB5.out (b := w.heap.size + 1) (by omega) (.int .i64 1) (.int .i64 u)
      clear bz
      exact bodyPost_ret (v := .tuple #[.agg #[.int .i64 1, .int .i64 u], .int .i64 x', .int .i64 y', .int .i64 z']) (results_clamped _ _ (w.heap.size + 1) _ _ _ _ _ rfl rfl rfl rfl z0 z1) rfl ⟨by rw [HM.out], hbz⟩
  · have HM : Hid (max t 1 = t) := Lib.hid (by omega)
    have hnt : ¬ t < 1 := by omega
    go_enter Try.func11, Try.ntmps11
    go_wp2_with fail
    go_region_held3 (fun w' => w'.cell? ⟨w.heap.size, 0, none⟩ = some (.int .i64 T) ∧ w'.cell? ⟨w.heap.size, 1, none⟩ = some (.int .i64 Tau))
      (go_keep)
      (first
        | ((with_reducible refine (H1.out _).mono ?_); rintro e w1 ⟨rfl, hb⟩; have bl := (((BlkL.new w [.int .i64 T, .int .i64 Tau] 23).alloc (.cells #[.int .i64 0, .int .i64 0] 23)).drew).below hb; have br := ((BlkL.new (w.alloc (.cells #[.int .i64 T, .int .i64 Tau] 23)) [.int .i64 0, .int .i64 0] 23).drew).below hb; simp only [World.size_alloc] at bl br; have HB1 := Lib.hid ((((Below.refl w.heap.size w).alloc (Nat.le_refl _) _).alloc (by simp) _).drew.trans (hb.mono (by simp; omega))); clear hb; have c01 := bl.cell 0 _ rfl; have r01 := br.cell 0 _ rfl; have g01 := br.froz 0 (by simp); have c11 := bl.cell 1 _ rfl; have r11 := br.cell 1 _ rfl; have g11 := br.froz 1 (by simp); have HL1 := Lib.hid bl; have HR1 := Lib.hid br; clear bl br)
        | ((with_reducible refine (H2.out _).mono ?_); rintro e w2 ⟨rfl, hb⟩; have bl := (HL1.out).below hb; have br := (HR1.out).below hb; have HB2 := Lib.hid (HB1.out.trans (hb.mono HB1.out.size)); clear hb; have c02 := bl.cell 0 _ rfl; have r02 := br.cell 0 _ rfl; have g02 := br.froz 0 (by simp); have c12 := bl.cell 1 _ rfl; have r12 := br.cell 1 _ rfl; have g12 := br.froz 1 (by simp); have HL2 := Lib.hid bl; have HR2 := Lib.hid br; clear bl br)
        | ((with_reducible refine (H3.out _).mono ?_); rintro e w3 ⟨rfl, hb⟩; have bl := (HL2.out).below hb; have br := (HR2.out).below hb; have HB3 := Lib.hid (HB2.out.trans (hb.mono HB2.out.size)); clear hb; have c03 := bl.cell 0 _ rfl; have r03 := br.cell 0 _ rfl; have g03 := br.froz 0 (by simp); have c13 := bl.cell 1 _ rfl; have r13 := br.cell 1 _ rfl; have g13 := br.froz 1 (by simp); have HL3 := Lib.hid bl; have HR3 := Lib.hid br; clear bl br)
        | ((with_reducible refine (H4.out _).mono ?_); rintro e w4 ⟨rfl, hb⟩; have bl := (HL3.out).below hb; have br := (HR3.out).below hb; have HB4 := Lib.hid (HB3.out.trans (hb.mono HB3.out.size)); clear hb; have c04 := bl.cell 0 _ rfl; have r04 := br.cell 0 _ rfl; have g04 := br.froz 0 (by simp); have c14 := bl.cell 1 _ rfl; have r14 := br.cell 1 _ rfl; have g14 := br.froz 1 (by simp); have HL4 := Lib.hid bl; have HR4 := Lib.hid br; clear bl br)
        | ((with_reducible refine (H5.out _).mono ?_); rintro e w5 ⟨rfl, hb⟩; have bl := (HL4.out).below hb; have br := (HR4.out).below hb; have HB5 := Lib.hid (HB4.out.trans (hb.mono HB4.out.size)); clear hb; have c05 := bl.cell 0 _ rfl; have r05 := br.cell 0 _ rfl; have g05 := br.froz 0 (by simp); have c15 := bl.cell 1 _ rfl; have r15 := br.cell 1 _ rfl; have g15 := br.froz 1 (by simp); have HL5 := Lib.hid bl; have HR5 := Lib.hid br; clear bl br))
    all_goals
      rename_i hHeld
      clear hHeld HL1 HL2 HL3 HL4 HR1 HR2 HR3 HR4 HB1 HB2 HB3 HB4 H1 H2 H3 H4 H5 c01 c11 c02 c12 c03 c13 c04 c14 c05 c15 r01 r11 r02 r12 r03 r13 r04 r14 r05 r15 g01 g11 g02 g12 g03 g13 g04 g14 g05 g15
      go_wp2
      have bz := HR5.out.put2 (.int .i64 t) (.int .i64 u)
      have z0 := bz.cell 0 _ rfl
      have z1 := bz.cell 1 _ rfl
      have hbz := below_put2 HB5.out (b := w.heap.size + 1) (by omega) (.int .i64 t) (.int .i64 u)
      clear bz
      exact bodyPost_ret (v := .tuple #[.agg #[.int .i64 t, .int .i64 u], .int .i64 x', .int .i64 y', .int .i64 z']) (results_clamped _ _ (w.heap.size + 1) _ _ _ _ _ rfl rfl rfl rfl z0 z1) rfl ⟨by rw [HM.out], hbz⟩
end Go.Proofs.Ytpeijhlheencnaa
