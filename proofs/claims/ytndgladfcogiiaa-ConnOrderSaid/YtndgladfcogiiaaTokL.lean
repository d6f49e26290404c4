/- Contracts: DocDecode whole; what is encoded is decoded again. -/
import Derived.Test.YtndgladfcogiiaaTokK
namespace Go.Proofs.Ytndgladfcogiiaa
open Go.RowKit
set_option maxRecDepth 100000
set_option linter.unusedVariables false

theorem docDecode_good (w : World) (B : Nat) (A : Option Addr) (m c : Nat) (zs : List Nat) (h : Arg w B A m c zs) (hB : B ≤ w.heap.size) (hok : decOk zs) :
    Calls Try.prog 27 #[.slice A m c] w (TokEnd w (zs.getD 2 0) (dSer zs) (dKey zs) (zs.getD 3 0)) := by
  obtain ⟨hl, hp, hs1, hs2, he⟩ := hok
  obtain rfl : m = zs.getD 3 0 + 16 := by rw [← hl]; exact h.len.symm
  exact docDecode_same w B A _ c _ zs h hB rfl rfl (dSer zs) rfl hp hs1 hs2 (Lib.hid (decide_eq_true he))

theorem docDecode_bad (w : World) (B : Nat) (A : Option Addr) (m c : Nat) (zs : List Nat) (h : Arg w B A m c zs) (hB : B ≤ w.heap.size) (hm : m ≤ 4096) (hok : ¬ decOk zs) :
    Calls Try.prog 27 #[.slice A m c] w (ValEnd w (.tuple #[Tok0, .int .i64 3])) := by
  rcases Nat.lt_or_ge m 16 with h4 | h4
  · exact docDecode_short w A m c h4
  by_cases hl : m = zs.getD 3 0 + 16
  · subst hl
    rcases Nat.lt_or_ge (zs.getD 2 0) 32 with hp | hp
    · rcases Nat.eq_zero_or_pos (dSer zs) with h0 | h0
      · exact docDecode_low w B A _ c _ zs h hB rfl rfl (dSer zs) rfl hp h0
      · rcases Nat.lt_or_ge 4611686018427387903 (dSer zs) with h5 | h5
        · exact docDecode_high w B A _ c _ zs h hB rfl rfl (dSer zs) rfl hp h5
        · exact docDecode_other w B A _ c _ zs h hB rfl rfl (dSer zs) rfl hp h0 h5 (Lib.hid (decide_eq_false fun e => hok ⟨h.len, hp, h0, h5, e⟩))
    · exact docDecode_pol w B A _ c _ zs h hB rfl rfl hp
  · exact docDecode_shape w B A m c _ zs h hB h4 hm rfl hl

theorem tokV_len (p : Nat) (zs : List Nat) (s : Nat) : (tokV p zs s).length = zs.length + 16 := by simp [tokV, tokH_len, Tk.wordV_len]
theorem tokV_cons (p : Nat) (zs : List Nat) (s : Nat) : tokV p zs s = 83 :: 71 :: p :: zs.length :: (zs ++ (Tk.wordV s 8 ++ Tk.wordV (sumV (tokH p zs s)) 4)) := by simp [tokV, tokH]
theorem tokV_2 (p : Nat) (zs : List Nat) (s : Nat) : (tokV p zs s).getD 2 0 = p := by rw [tokV_cons]; rfl
theorem tokV_3 (p : Nat) (zs : List Nat) (s : Nat) : (tokV p zs s).getD 3 0 = zs.length := by rw [tokV_cons]; rfl
theorem tokV_drop4 (p : Nat) (zs : List Nat) (s : Nat) : (tokV p zs s).drop 4 = zs ++ (Tk.wordV s 8 ++ Tk.wordV (sumV (tokH p zs s)) 4) := by rw [tokV_cons]; rfl
theorem tokV_key (p : Nat) (zs : List Nat) (s : Nat) : dKey (tokV p zs s) = zs := by
  unfold dKey
  rw [tokV_3, tokV_drop4, List.take_left]
theorem tokV_ser (p : Nat) (zs : List Nat) (s : Nat) (hs : s ≤ 4611686018427387903) : dSer (tokV p zs s) = s := by
  unfold dSer
  rw [tokV_3, ← List.drop_drop, tokV_drop4, List.drop_left, List.take_left' (Tk.wordV_len s 8), Tk.numV_wordV]
  exact Nat.mod_eq_of_lt (by omega)
theorem tokV_ok (p : Nat) (zs : List Nat) (s : Nat) (hp : p < 32) (hs1 : 1 ≤ s) (hs : s ≤ 4611686018427387903) : decOk (tokV p zs s) := by
  refine ⟨by rw [tokV_3, tokV_len], by rw [tokV_2]; exact hp, by rw [tokV_ser p zs s hs]; exact hs1, by rw [tokV_ser p zs s hs]; exact hs, ?_⟩
  rw [tokV_2, tokV_key, tokV_ser p zs s hs]
theorem tokV_byte {p : Nat} {zs : List Nat} (s : Nat) (hp : p < 32) (hn : zs.length ≤ 255) (hz : ∀ d ∈ zs, d < 256) : ∀ d ∈ tokV p zs s, d < 256 := by
  intro d hd
  rcases List.mem_append.1 hd with h | h
  · exact tokH_byte s hp hn hz d h
  · exact Tk.wordV_lt _ _ d h
theorem tokV_inj {p q : Nat} {xs ys : List Nat} {s t : Nat} (hs : s ≤ 4611686018427387903) (ht : t ≤ 4611686018427387903) : tokV p xs s = tokV q ys t ↔ (p = q ∧ xs = ys ∧ s = t) := by
  constructor
  · intro h
    refine ⟨?_, ?_, ?_⟩
    · rw [← tokV_2 p xs s, h, tokV_2]
    · rw [← tokV_key p xs s, h, tokV_key]
    · rw [← tokV_ser p xs s hs, h, tokV_ser q ys t ht]
  · rintro ⟨rfl, rfl, rfl⟩; rfl

/-- What Encode made is decoded as it was. -/
theorem decode_enc (w : World) (B : Nat) (A : Option Addr) (n m c p s : Nat) (zs : List Nat) (h : Arg w B A m c (tokV p zs s)) (hB : B ≤ w.heap.size) (hn : zs.length = n) (hp : p < 32) (hs1 : 1 ≤ s) (hs : s ≤ 4611686018427387903) :
    Calls Try.prog 25 #[.slice A m c] w (TokEnd w p s zs n) := by
  have := decode_good w B A m c _ h hB (tokV_ok p zs s hp hs1 hs)
  rw [tokV_2, tokV_3, tokV_key, tokV_ser p zs s hs, hn] at this
  exact this
end Go.Proofs.Ytndgladfcogiiaa
