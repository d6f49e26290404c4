/- The law MeterMerges: its walk, of the figures as they come in. -/
import Derived.Test.YtffibfnagoagcaaMetMg
import Derived.Test.YtffibfnagoagcaaMetZ
import Derived.Test.YtffibfnagoagcaaFigArg
namespace Go.Proofs.Ytffibfnagoagcaa
open Go.RowKit

theorem meterMerges_walk (n bad a0 a1 a2 a3 a4 a5 n2 bad2 c0 c1 c2 c3 c4 c5 : Int) (w : World) (hb : FigB n bad a0 a1 a2 a3 a4 a5) (hc : FigB n2 bad2 c0 c1 c2 c3 c4 c5) :
    Calls Try.prog 5 #[.agg #[.int .i64 n, .int .i64 bad, .int .u64 a0, .int .u64 a1, .int .u64 a2, .int .u64 a3, .int .u64 a4, .int .u64 a5], .agg #[.int .i64 n2, .int .i64 bad2, .int .u64 c0, .int .u64 c1, .int .u64 c2, .int .u64 c3, .int .u64 c4, .int .u64 c5]] w (ValEnd w (.bool true)) := by
  obtain ⟨h1, h2, d0, d1, d2, d3, d4, d5⟩ := hb
  obtain ⟨k1, k2, e0, e1, e2, e3, e4, e5⟩ := hc
  obtain ⟨b0, rfl⟩ := Int.eq_ofNat_of_zero_le d0.1
  obtain ⟨b1, rfl⟩ := Int.eq_ofNat_of_zero_le d1.1
  obtain ⟨b2, rfl⟩ := Int.eq_ofNat_of_zero_le d2.1
  obtain ⟨b3, rfl⟩ := Int.eq_ofNat_of_zero_le d3.1
  obtain ⟨b4, rfl⟩ := Int.eq_ofNat_of_zero_le d4.1
  obtain ⟨b5, rfl⟩ := Int.eq_ofNat_of_zero_le d5.1
  obtain ⟨f0, rfl⟩ := Int.eq_ofNat_of_zero_le e0.1
  obtain ⟨f1, rfl⟩ := Int.eq_ofNat_of_zero_le e1.1
  obtain ⟨f2, rfl⟩ := Int.eq_ofNat_of_zero_le e2.1
  obtain ⟨f3, rfl⟩ := Int.eq_ofNat_of_zero_le e3.1
  obtain ⟨f4, rfl⟩ := Int.eq_ofNat_of_zero_le e4.1
  obtain ⟨f5, rfl⟩ := Int.eq_ofNat_of_zero_le e5.1
  exact meterMerges_g n bad b0 b1 b2 b3 b4 b5 n2 bad2 f0 f1 f2 f3 f4 f5 w (by constructor <;> (dsimp only; omega)) (by constructor <;> (dsimp only; omega)) (by omega) (by omega) (by omega) (by omega) awake8_any
end Go.Proofs.Ytffibfnagoagcaa
