/- Contract: Decode of the program. -/
import Derived.Test.YtndgladfcogiiaaTokG
namespace Go.Proofs.Ytndgladfcogiiaa
open Go.RowKit
set_option maxRecDepth 100000
set_option linter.unusedVariables false

abbrev dKey (zs : List Nat) : List Nat := (zs.drop 4).take (zs.getD 3 0)
abbrev dSer (zs : List Nat) : Nat := Tk.numV ((zs.drop (4 + zs.getD 3 0)).take 8)
/-- Are these the bytes of a token? -/
def decOk (zs : List Nat) : Prop := zs.length = zs.getD 3 0 + 16 ∧ zs.getD 2 0 < 32 ∧ 1 ≤ dSer zs ∧ dSer zs ≤ 4611686018427387903 ∧ tokV (zs.getD 2 0) (dKey zs) (dSer zs) = zs

def TokEnd (w : World) (p s : Nat) (zs : List Nat) (n : Nat) (e : Ending) (w' : World) : Prop :=
  ∃ A c, e = .returned (.tuple #[TokA p s A n c, .int .i64 0]) ∧ OwnB w' w.heap.size A n c zs ∧ Below w.heap.size w w'

set_option maxHeartbeats 800000 in
theorem parts7_shape (w : World) (B : Nat) (A : Option Addr) (n c m : Nat) (zs : List Nat) (h : Arg w B A n c zs) (hB : B ≤ w.heap.size) (hn : 4 ≤ n) (h3 : zs.getD 3 0 = m) (hm : n ≠ m + 16) :
    Calls Try.prog 74 #[.slice A n c] w (ValEnd w (.tuple #[Tok0, .bool false])) := by
  have hb3 := h.lt 3
  rw [h3] at hb3
  obtain ⟨b, off, rfl, hbB, hc⟩ := h.at_ (by omega)
  have hc3 : w.cell? ⟨b, off + 3, none⟩ = some (.int .u8 (m : Int)) := by rw [hc 3 (by omega), h3]
  have hcap := h.cap
  have hle := h.le
  unfold maxLen at hcap
  clear h hc h3
  have q1 : decide ((n : Int) < 4) = false := decide_eq_false (by omega)
  have q2 : ((n : Int) != (m : Int) + 16) = true := by simp; omega
  have hw : IntKind.i64.wrap (m : Int) = (m : Int) := IntWalk.i64_in _ (by omega)
  have hbw : b < w.heap.size := by omega
  go_enter Try.func74, Try.ntmps74
  go_wp2_with fail
  with_reducible refine (lenOf_any _ m (by omega)).mono ?_
  rintro e w1 ⟨rfl, rfl⟩
  go_wp2
  exact bodyPost_ret (v := .tuple #[Tok0, .bool false]) (by simp [results, Try.results74, go_sem]) rfl ⟨rfl, (Below.refl _ _).alloc (Nat.le_refl _) _⟩

theorem decode_long (w : World) (A : Option Addr) (n c : Nat) (hn : 4096 < n) :
    Calls Try.prog 25 #[.slice A n c] w (ValEnd w (.tuple #[Tok0, .int .i64 2])) := by
  go_enter Try.func25, Try.ntmps25
  go_wp2
  exact bodyPost_ret (v := .tuple #[Tok0, .int .i64 2]) (by simp [results, Try.results25, go_sem]) rfl ⟨rfl, (Below.refl _ _).alloc (Nat.le_refl _) _⟩

/-- parts says no. -/
theorem decode_no (w : World) (A : Option Addr) (n c : Nat) (hn : n ≤ 4096) (HP : Hid (∀ w', Below w.heap.size w w' → Calls Try.prog 74 #[.slice A n c] w' (ValEnd w' (.tuple #[Tok0, .bool false])))) :
    Calls Try.prog 25 #[.slice A n c] w (ValEnd w (.tuple #[Tok0, .int .i64 3])) := by
  have B0 := Lib.hid ((Below.refl w.heap.size w).alloc (Nat.le_refl _) (.cells #[.int .i64 0, .slice none 0 0, .int .i64 0] 24))
  go_enter Try.func25, Try.ntmps25
  go_wp2_with fail
  with_reducible refine (HP.out _ B0.out).mono ?_
  rintro e w1 ⟨rfl, hb⟩
  have kr := (BlkL.new w [.int .i64 0, .slice none 0 0, .int .i64 0] 24).below hb
  have hz := hb.size
  simp only [World.size_alloc] at hz
  have HB := Lib.hid ((B0.out.trans (hb.mono (by simp))).alloc (by omega) (.cells #[.int .i64 0, .slice none 0 0, .int .i64 0] 24))
  have kr := kr.alloc (.cells #[.int .i64 0, .slice none 0 0, .int .i64 0] 24)
  have bz := kr.put3 (.int .i64 0) (.slice none 0 0) (.int .i64 0)
  have hbz := below_put3 HB.out (b := w.heap.size) (Nat.le_refl _) (.int .i64 0) (.slice none 0 0) (.int .i64 0)
  have y0 := bz.cell 0 _ rfl
  have y1 := bz.cell 1 _ rfl
  have y2 := bz.cell 2 _ rfl
  have f0 := kr.froz 0 (by simp)
  have f1 := kr.froz 1 (by simp)
  have f2 := kr.froz 2 (by simp)
  have z0 := kr.cell 0 _ rfl
  have z1 := kr.cell 1 _ rfl
  have z2 := kr.cell 2 _ rfl
  clear kr bz hb
  go_wp2
  go_outline
  exact bodyPost_ret (v := .tuple #[Tok0, .int .i64 3]) (by simp [results, Try.results25, go_sem, y0, y1, y2]) rfl ⟨rfl, hbz⟩
end Go.Proofs.Ytndgladfcogiiaa
