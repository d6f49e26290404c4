/- The law MeterAdds: its walk, of the figures as they come in. -/
import Derived.Test.YtffibfnagoagcaaMetAd
import Derived.Test.YtffibfnagoagcaaFigArg
namespace Go.Proofs.Ytffibfnagoagcaa
open Go.RowKit

theorem meterAdds_walk (n bad a0 a1 a2 a3 a4 a5 x : Int) (w : World) (hb : FigB n bad a0 a1 a2 a3 a4 a5) (wx : (Lit.int .u64 x).wf = true) :
    Calls Try.prog 3 #[.agg #[.int .i64 n, .int .i64 bad, .int .u64 a0, .int .u64 a1, .int .u64 a2, .int .u64 a3, .int .u64 a4, .int .u64 a5], .int .u64 x] w (ValEnd w (.bool true)) := by
  have bx := bounds_u64 wx
  obtain ⟨h1, h2, c0, c1, c2, c3, c4, c5⟩ := hb
  obtain ⟨b0, rfl⟩ := Int.eq_ofNat_of_zero_le c0.1
  obtain ⟨b1, rfl⟩ := Int.eq_ofNat_of_zero_le c1.1
  obtain ⟨b2, rfl⟩ := Int.eq_ofNat_of_zero_le c2.1
  obtain ⟨b3, rfl⟩ := Int.eq_ofNat_of_zero_le c3.1
  obtain ⟨b4, rfl⟩ := Int.eq_ofNat_of_zero_le c4.1
  obtain ⟨b5, rfl⟩ := Int.eq_ofNat_of_zero_le c5.1
  obtain ⟨x, rfl⟩ := Int.eq_ofNat_of_zero_le bx.1
  exact meterAdds_g n bad b0 b1 b2 b3 b4 b5 x w (by omega) (by omega) (by omega) (by omega) (by omega) (by omega) (by omega)
end Go.Proofs.Ytffibfnagoagcaa
