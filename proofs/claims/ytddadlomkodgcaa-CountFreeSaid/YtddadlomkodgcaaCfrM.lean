/- How many steps are left till a call returns: mathematics of CountFree. -/
import Derived.Test.YtddadlomkodgcaaCatM
import Derived.Test.YtddadlomkodgcaaArg
import Derived.Test.YtddadlomkodgcaaTick
namespace Go.Proofs.Ytddadlomkodgcaa
open Go.RowKit
set_option maxRecDepth 100000
set_option linter.unusedVariables false

def remV (v : Nat) (x : CallV) : Nat := if x.ld = true then (if v = x.old then 0 else 2) else 1
theorem remV_le (v : Nat) (x : CallV) : remV v x ≤ 2 := by unfold remV; split <;> (try split) <;> omega
theorem remV_fresh (v op : Nat) : remV v ⟨op, false, 0⟩ = 1 := rfl
theorem stepO_rem {limit v : Nat} {x : CallV} (h : (stepO limit v x).d = false) : (stepO limit v x).v = v ∧ remV v (stepO limit v x).x + 1 = remV v x := by
  unfold stepO at h ⊢
  by_cases hl : x.ld = true
  · rw [if_pos hl] at h ⊢
    by_cases hv : v = x.old
    · rw [if_pos hv] at h
      split at h <;> cases h
    · rw [if_neg hv]
      refine ⟨rfl, ?_⟩
      unfold remV
      rw [if_pos hl, if_neg hv]
      rfl
  · rw [if_neg hl] at h ⊢
    have hr : remV v x = 1 := by unfold remV; rw [if_neg hl]
    rw [hr]
    split
    · rename_i o3
      rw [if_pos o3] at h; cases h
    · rename_i o3
      rw [if_neg o3] at h
      split
      · rename_i o1
        rw [if_pos o1] at h
        split
        · rename_i hv; rw [if_pos hv] at h; cases h
        · exact ⟨rfl, by unfold remV; simp⟩
      · rename_i o1
        rw [if_neg o1] at h
        split
        · rename_i hv; rw [if_pos hv] at h; cases h
        · exact ⟨rfl, by unfold remV; simp⟩
def potV (v : Nat) (calls : List CallV) : Nat → Nat
  | 0 => 0
  | n + 1 => potV v calls n + remV v (calls.getD n noCall)
theorem potV_le (v : Nat) (calls : List CallV) (n : Nat) : potV v calls n ≤ 2 * n := by
  induction n with
  | zero => simp [potV]
  | succ n ih => have := remV_le v (calls.getD n noCall); simp only [potV]; omega
theorem potV_above (v : Nat) (calls : List CallV) (j : Nat) (x : CallV) (n : Nat) (h : n ≤ j) (hj : j < calls.length) : potV v (calls.set j x) n = potV v calls n := by
  induction n with
  | zero => rfl
  | succ n ih =>
    simp only [potV]
    rw [ih (by omega), getD_set _ _ _ _ _ hj, if_neg (by omega)]
theorem potV_set (v : Nat) (calls : List CallV) (j : Nat) (x : CallV) (n : Nat) (h : j < n) (hj : j < calls.length) : potV v (calls.set j x) n + remV v (calls.getD j noCall) = potV v calls n + remV v x := by
  induction n with
  | zero => omega
  | succ n ih =>
    simp only [potV]
    rcases Nat.lt_or_ge j n with h1 | h1
    · have := ih h1
      rw [getD_set _ _ _ _ _ hj, if_neg (by omega)]
      omega
    · obtain rfl : j = n := by omega
      rw [potV_above v calls j x j (Nat.le_refl _) hj, getD_set _ _ _ _ _ hj, if_pos rfl]
      omega
theorem stepO_d_cases {limit v : Nat} {x : CallV} : (stepO limit v x).d = true ∨ (stepO limit v x).d = false := by
  cases (stepO limit v x).d <;> simp

structure CfS (w : World) (top c b bw W : Nat) (wr : World) (i v k : Nat) (calls : List CallV) (qn : Nat) : Prop where
  cnt : CntS wr c b bw top v k calls
  ki : k ≤ i
  vt : v ≤ top
  okc : ∀ j, j < 64 → OkCall top (calls.getD j noCall)
  pot : qn + potV v calls W ≤ 2 * W
  bel : Below w.heap.size w wr
  hc : w.heap.size ≤ c
  hb : w.heap.size ≤ b
  hbw : w.heap.size ≤ bw
section
variable {w wr w' : World} {top c b bw W i v k qn : Nat} {calls : List CallV}
theorem CfS.alloc (h : CfS w top c b bw W wr i v k calls qn) (o : Obj) : CfS w top c b bw W (wr.alloc o) i v k calls qn :=
  ⟨h.cnt.alloc o, h.ki, h.vt, h.okc, h.pot, h.bel.alloc h.bel.size o, h.hc, h.hb, h.hbw⟩
theorem CfS.okSet (h : CfS w top c b bw W wr i v k calls qn) (q : Nat) (hq : q < 64) {x : CallV} (hx : OkCall top x) : ∀ j, j < 64 → OkCall top ((calls.set q x).getD j noCall) := by
  intro j hj
  rw [getD_set _ _ _ _ _ (by rw [h.cnt.len]; exact hq)]
  split
  · exact hx
  · exact h.okc j hj
theorem CfS.start (h : CfS w top c b bw W wr i v k calls qn) {q op : Nat} (hq : q < W) (hW : W ≤ 64) (hno : (calls.getD q noCall).op = 0) (h1 : 1 ≤ op) (h3 : op ≤ 3) (hn : CntS w' c b bw top v k (calls.set q ⟨op, false, 0⟩)) (hf : Off [c, b, bw] wr w') :
    CfS w top c b bw W w' i v k (calls.set q ⟨op, false, 0⟩) qn := by
  refine ⟨hn, h.ki, h.vt, h.okSet q (by omega) (OkCall.fresh h1 h3), ?_, hf.up h.bel h.hc h.hb h.hbw, h.hc, h.hb, h.hbw⟩
  have := potV_set v calls q ⟨op, false, 0⟩ W hq (by rw [h.cnt.len]; omega)
  have e := (h.okc q (by omega)).no hno
  rw [e] at this
  have e1 : remV v noCall = 1 := rfl
  have e2 := remV_fresh v op
  have := h.pot
  omega
theorem CfS.step (h : CfS w top c b bw W wr i v k calls qn) {q : Nat} (hq : q < W) (hW : W ≤ 64) (hp : (calls.getD q noCall).op ≠ 0)
    (hn : CntS w' c b bw top (stepO top v (calls.getD q noCall)).v (k + 1) (calls.set q (stepO top v (calls.getD q noCall)).x)) (hf : Off [c, b, bw] wr w') (z : Nat)
    (hz : z = if (stepO top v (calls.getD q noCall)).d = true then 0 else qn + 1) :
    CfS w top c b bw W w' (i + 1) (stepO top v (calls.getD q noCall)).v (k + 1) (calls.set q (stepO top v (calls.getD q noCall)).x) z := by
  have ho := (h.okc q (by omega)).step hp h.vt
  refine ⟨hn, by have := h.ki; omega, ho.2, h.okSet q (by omega) ho.1, ?_, hf.up h.bel h.hc h.hb h.hbw, h.hc, h.hb, h.hbw⟩
  rcases stepO_d_cases (limit := top) (v := v) (x := calls.getD q noCall) with hd | hd
  · rw [if_pos hd] at hz
    have := potV_le (stepO top v (calls.getD q noCall)).v (calls.set q (stepO top v (calls.getD q noCall)).x) W
    omega
  · rw [if_neg (by rw [hd]; simp)] at hz
    obtain ⟨e1, e2⟩ := stepO_rem hd
    have := potV_set v calls q (stepO top v (calls.getD q noCall)).x W hq (by rw [h.cnt.len]; omega)
    rw [e1]
    have := h.pot
    omega
theorem CfS.stepC (h : CfS w top c b bw W wr i v k calls qn) {q : Nat} (hq : q < W) (hW : W ≤ 64) (hp : (calls.getD q noCall).op ≠ 0) (hk : k < 9223372036854775807) (ht : top ≤ 4611686018427387903) :
    ∃ d e n, Calls Try.prog 29 #[.pointer (some ⟨c, 0, none⟩), .int .i64 (q : Int)] wr fun E w' => E = .returned (.tuple #[resV d e n, .int .i64 0]) ∧
      ∃ v' calls', CfS w top c b bw W w' (i + 1) v' (k + 1) calls' (if d = true then 0 else qn + 1) :=
  ⟨_, _, _, (step_any wr c b bw top v k calls h.cnt hk h.vt ht q (by omega) _ rfl hp (h.okc q (by omega))).mono fun E w' ⟨e, h1, h2⟩ => ⟨e, _, _, h.step hq hW hp h1 h2 _ rfl⟩⟩
end
end Go.Proofs.Ytddadlomkodgcaa
